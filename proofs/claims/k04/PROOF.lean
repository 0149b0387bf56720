import PyProof.Rows.All
import Wide.All
import OpenK.AllK
import Wide.FinOn
import HandS.ForMost
import PyProof.ReprReads
import PyProof.ReprRoads
import HandS.Codes
import HandS.ForExc
import HandS.ExcInit
import HandS.ExcField
import HandS.ExcIs
import KE.KExcIs
import HandS.IsInst
import HandS.WrittenGet
import HandS.Star
import HandS.Conv
import HandS.More
import HandS.Property
import HandS.OwnEq
import HandS.ClsMeth
import HandS.TupAny
import HandS.DictComp
import HandS.DeepEq
import HandS.Strs
import HandS.ExcValue
import KE.KUnpackStar
import HandS.TupMul
import HandS.Walk
import KE.GoesEnum
import KE.GoesMore
import KE.DataEq
import HandS.TryMany
import HandS.Zip
import HandS.Iter
import HandS.Style
import HandS.Small
import PySem.Challenge.RW_answersby_k04_bodies_looked_at
set_option Elab.async false
set_option linter.all false
set_option maxRecDepth 100000
set_option maxHeartbeats 8000000
/-! repr of data; defs that are called where no container is being shown -/
namespace Gk
open PySem L2 PySem.Spec PyProof.Rows

/-! ### a def's promise, kept where no list, tuple or dict is being shown -/
structure FnG (P : Program) (w : World) (K : PySem.W.Frag) (mg : Str → Option Value) (base : Heap) (CX : CXT) (k : Nat) (f : Addr) (fd : FuncData) (ps : List Str) (sp : Sp) : Prop where
  len : ∀ vs H Q E, sp vs H Q E → vs.length = ps.length
  go : ∀ (A : Around), A.guards = some [] → ∀ (outer : List Env) (s : Shared) (H : Hp) (args : Args) (us : List Value) (vs : List V) (Q : VK) (E : XK),
    Room k A → Env0 P w K mg base A outer s H → BindsTo s fd args (ps.zip us) → Vals vs us → sp vs H Q E → codeAny (model P w) A (.call (.ref f) args) (CR CX outer P w H s Q E) s

section
variable {P : Program} {w : World} {K : PySem.W.Frag} {mg : Str → Option Value} {base : Heap} {CX : CXT} {j k : Nat} {f : Addr} {fd : FuncData} {ps : List Str} {sp : Sp}
theorem FnG.up (F : FnG P w K mg base CX j f fd ps sp) (h : j ≤ k) : FnG P w K mg base CX k f fd ps sp :=
  ⟨F.len, fun A g outer s H args us vs Q E hr => F.go A g outer s H args us vs Q E (hr.mono h)⟩
end

section
variable {X : Cx} {CX : CXT} {k : Nat} {f : Addr} {fd : FuncData} {ps : List Str} {sp : Sp} {dvs : List V} {ds : List Value} {E : XK} {x : Str} {p pos : Pos} {e : Expr} {es : List Expr} {t : TA}
theorem runG {pins : List (Addr × Obj)} {σ : L2.St} {H : Hp} {s : Shared} {Q : VK} {us : List Value} {vs : List V} (F : FnG X.prog X.w X.K X.mg X.base CX k f fd ps sp) (g : X.A.guards = some [])
    (hr : Room k X.A) (hb : Binds X.K fd ps ds) (hd : Vals dvs ds) (hx : Passes CX X E) (I : Inv X pins σ H s) (r : Vals vs us) (h : sp (vs ++ dvs) H Q E) :
    wpAny (model X.prog X.w) X.A (call (.ref f) us) (EP X pins σ Q) X.xe s := by
  have rr := r.append hd
  have lens : (us ++ ds).length = ps.length := (rr.length).symm.trans (F.len _ _ _ _ h)
  have body := F.go X.A g X.stack s H ⟨us, []⟩ (us ++ ds) (vs ++ dvs) Q E hr I.env0 (hb s us I.kIn lens) rr h
  refine wpAny_call (codeAny_mono body ?_)
  intro res s' hres
  match res, hres with
  | .error e, z => exact hx pins σ H s e s' I z
  | .ok (.ret u), z => exact I.after z
  | .ok .next, z => exact z.elim
  | .ok .brk, z => exact z.elim
  | .ok .cont, z => exact z.elim
theorem pe_callG (F : FnG X.prog X.w X.K X.mg X.base CX k f fd ps sp) (g : X.A.guards = some []) (hr : Room k X.A) (hg : Gl X x) (hm : X.mg x = some (.ref f))
    (hk : PySem.W.keepIn X.K (.ref f) = true) (hb : Binds X.K fd ps ds) (hd : Vals dvs ds) (hx : Passes CX X E) (ha : PA X (e :: es) t)
    (hdb : (x == ("__debug__" : Str)) = false := by decide)
    (he : starEach (e :: es) X.env = (false, eval e X.env) :: starEach es X.env := by rfl)
    (hpl : (backTo pos (starEach es X.env)).any (·.1) = false := by rfl) :
    PE X (.Call (.Name x p) (e :: es) [] pos) (tCall sp dvs E t) := by
  refine ⟨fun pins s σ H Q I h => wpAny_Call_Name_kw (ld_glob I hg hm ?_ hdb)⟩
  have args := ha.run pos pins s σ H _ I h
  refine PySem.W.callWith_K (h₀ := X.base) I.ok.mod.kin hk (thn args ?_) he hpl
  rintro us s1 ⟨vs, H1, I1, r, q⟩
  exact ⟨I1.kIn, runG F g hr hb hd hx I1 r q⟩
end

/-! ### a def of the text, and the law's own call -/
section
variable {CX : CXT} {P : Program} {w : World} {K : PySem.W.Frag} {mg : Str → Option Value} {base : Heap}
theorem defG {k : Nat} {f : Addr} {x qual : Str} {st : Stmt} {fd : FuncData} {N ps : List Str} {sp : Sp}
    (F : Fun K x qual st f fd) (S : FnScope N ps (defScope st)) (len : ∀ vs H Q E, sp vs H Q E → vs.length = ps.length)
    (inner : ∀ (cd : Value) (A : Around), A.guards = some [] → ∀ (outer : List Env) (s : Shared) (H : Hp) (vs : List V) (Q : VK) (E : XK),
      Room k (A.deeper (envOfC qual (defScope st) s.heap.objs.size f cd)) → sp vs H Q E →
      ∃ t, PSs (cxOf CX P w K mg base N qual (defScope st) f cd A outer s H E) (defBody st) t ∧ t { nx := fun _ H' => Q .non H', rt := Q } (start N vs) H) :
    FnG P w K mg base CX (k + 1) f fd ps sp := by
  obtain ⟨oc, od, kV, doc, pm, an, cd, ct, osl, rfl, lk, hcd⟩ := F.ex
  refine ⟨len, ?_⟩
  intro A g outer s H args us vs Q E hr e0 hb r hsp
  have kept : ∀ b o, base.get? b = some o → s.heap.get? b = some o := fun b o z => (e0.bs b o z).1
  have KX : K.In s.heap := e0.mod.kin.keeps kept
  have lim : s.heap.NoLimit := e0.mod.nolimit.keeps kept
  have slots : ∀ y ∈ ps.zip us, (defScope st).names.lookup y.1 = some .local ∨
      ((defScope st).names.lookup y.1 = some .cell ∧ ((cellsFrom (s.heap.objs.size + 1) (defScope st).names []).lookup y.1).isSome = true) := by
    rintro ⟨n, v⟩ hy
    have hp := S.par n (List.of_mem_zip hy).1
    exact hp.imp id fun q => ⟨q, PySem.W.cellsFrom_some _ _ _ (.inl q)⟩
  refine codeAny_call_function hr.depth (KX _ _ lk) rfl S.co S.gen rfl (PySem.W.codeRec_of KX hcd) (hb _ _ _ _ ?_)
  refine wpAny_newFunctionEnv_cells S.kind slots ?_
  rintro env rfl s1 x
  refine ⟨lim.keeps x.toInCall.keep, codeAny_func ?_⟩
  obtain ⟨t, ht, hq⟩ := inner cd A g outer s H vs Q E (hr.deeper _) hsp
  have I := inv_start (CX := CX) (mg := mg) (E := E) S hr.hd e0 (len _ _ _ _ hsp) r x
  refine wpAny_mono (ht.run [] s1 (start N vs) H _ I hq) ?_ fun _ _ z => z
  intro fl s' hs
  match fl, hs with
  | .ret u, ⟨v, σ', H', J, rv, q⟩ => exact ⟨v, H', J.os, J.bare, J.base, J.hok, rv, q⟩
  | .next, ⟨σ', H', J, q⟩ => exact ⟨V.non, H', J.os, J.bare, J.base, J.hok, rfl, q⟩
  | .brk, ⟨_, _, _, q⟩ => exact q.elim
  | .cont, ⟨_, _, _, q⟩ => exact q.elim
/-- no exception leaves the def -/
theorem defG0 {k : Nat} {f : Addr} {x qual : Str} {st : Stmt} {fd : FuncData} {N ps : List Str} {sp : Sp}
    (F : Fun K x qual st f fd) (S : FnScope N ps (defScope st)) (len : ∀ vs H Q E, sp vs H Q E → vs.length = ps.length)
    (inner : ∀ (cd : Value) (A : Around), A.guards = some [] → ∀ (outer : List Env) (s : Shared) (H : Hp) (vs : List V) (Q : VK) (E : XK),
      Room k (A.deeper (envOfC qual (defScope st) s.heap.objs.size f cd)) → sp vs H Q E →
      ∃ t, PSs (cxOf CX0 P w K mg base N qual (defScope st) f cd A outer s H E).nox (defBody st) t ∧ t { nx := fun _ H' => Q .non H', rt := Q } (start N vs) H) :
    FnG P w K mg base CX0 (k + 1) f fd ps sp :=
  defG F S len fun cd A g outer s H vs Q E hr h => let ⟨t, a, b⟩ := inner cd A g outer s H vs Q E hr h; ⟨t, a.nox, b⟩
end

/-! ### repr -/
section
variable {X : Cx}
def rRepr (K : PySem.W.Frag) : List V → Hp → VK → Prop := fun xs H Q =>
  ∃ v d, xs = [v] ∧ Dp K H v d ∧ d.showable = true ∧ d.hasDict = false ∧ d.depth ≤ 60 ∧ d.shown.length ≤ sizeLine ∧ Q (.str d.shown) H
theorem call_reprD (hg : X.A.guards = some []) (hu : X.A.units + 64 < cLine) : CallR X (.builtin "repr") (rRepr X.K) := by
  intro pins s σ H xs us Q I r h
  obtain ⟨v, d, rfl, hd, h1, h2, h3, h4, q⟩ := h
  obtain ⟨u, rfl, ru⟩ := vals1 r
  obtain ⟨as, rd⟩ := Dp.reads I d v u hd ru
  have out : ∀ h' u' tk, (∀ b o, s.heap.get? b = some o → h'.get? b = some o) → EP X pins σ Q (.str d.shown u') { s with heap := h', toks := tk } :=
    fun h' u' tk hk => ⟨.str d.shown, H, I.kept hk, ⟨u', rfl⟩, q⟩
  cases rd with
  | none => exact P.repr_of_none (by simpa only [PyData.shown] using out s.heap s.toks (s.toks + 1) fun _ _ z => z)
  | bool b => exact P.repr_of_bool (by simpa only [PyData.shown] using out s.heap s.toks (s.toks + 1) fun _ _ z => z)
  | int i t => exact P.repr_of_int (by simpa [PyData.showable] using h1) (by simpa only [PyData.shown] using out s.heap _ _ fun _ _ z => z)
  | str x t => exact P.repr_of_str (by simpa only [PyData.shown] using out s.heap _ _ fun _ _ z => z) (by simpa only [PyData.shown] using h4)
  | list a1 a2 a3 a4 => exact repr_of_reads' (.list a1 a2 a3 a4) h1 (fun z => by rw [h2] at z; cases z) hg (by omega) (fun _ _ z => z) out h4
  | tuple a1 a2 a3 a4 => exact repr_of_reads' (.tuple a1 a2 a3 a4) h1 (fun z => by rw [h2] at z; cases z) hg (by omega) (fun _ _ z => z) out h4
  | dict a1 a2 a3 a4 a5 => simp [PyData.hasDict] at h2
end
end Gk
/-! the law's own call, by a promise of the kind FnG -/
namespace Gk
open PySem L2 PySem.Spec PyProof.Rows
abbrev AllTrue (s₁ : Shared) (r : Result) (s' : Shared) : Prop := r = .ok (.ret (.bool true)) ∧ OldK s₁.heap s'.heap ∧ s'.os = s₁.os ∧ AllBare s'.gens
section
variable {P : Program} {w : World} {K : PySem.W.Frag} {mg mb : Str → Option Value} {k : Nat} {fa a : Addr} {fd : FuncData} {x : Str} {sp : Sp} {s₁ : Shared} {vs : List Value} {ns : List Int}
/-- what is hidden by H stands at a alone, and that is the script's list -/
structure Hid (K : PySem.W.Frag) (s₁ : Shared) (a : Addr) (vs : List Value) (H : Hp) : Prop where
  only : Only H
  at_a : ∀ b, H b ≠ none → b = a
  new : H a ≠ none → K.lookup a = none
  scr : s₁.heap.get? a = some { cls := .type "list", data := .seq vs.toArray }
theorem Hid.free {H : Hp} (h : Hid K s₁ a vs H) {b : Addr} {o : Obj} (e : s₁.heap.get? b = some o) (hd : ∀ z n, o.data ≠ .seq z n) : H b = none := by
  cases q : H b with
  | none => rfl
  | some u =>
    obtain rfl : b = a := h.at_a b (by simp [q])
    rw [h.scr] at e
    cases e
    exact absurd rfl (hd _ _)
theorem Hid.nsp {H : Hp} (h : Hid K s₁ a vs H) {b : Addr} {m : Str → Option Value} : s₁.heap.Ns b m → (hidT s₁.heap H).Ns b m := by
  rintro ⟨o, es, ep, e, d, r⟩
  exact ⟨o, es, ep, hidT_get e (h.free e fun z n q => by rw [d] at q; cases q), d, r⟩
theorem Hid.kin {H : Hp} (h : Hid K s₁ a vs H) (KX : K.In s₁.heap) : K.In (hidT s₁.heap H) := by
  intro b o e
  refine hidT_get (KX b o e) ?_
  cases q : H b with
  | none => rfl
  | some u =>
    obtain rfl : b = a := h.at_a b (by simp [q])
    rw [h.new (by simp [q])] at e
    cases e
theorem run_law {H : Hp} (h : Hid K s₁ a vs H) (KX : K.In s₁.heap) (hns : s₁.heap.Ns mainGlobals mg) (hb : s₁.heap.Ns builtinsNs mb) (hbb : ∀ x : Str, x ≠ "__name__" → mb x = bootBuiltins x) (hlim : s₁.heap.NoLimit)
    (hg : s₁.gens = #[]) (hr : Room k callerA) (F : ∀ base : Heap, K.In base → base.Ns mainGlobals mg → FnG P w K mg base CX0 k fa fd [x] sp)
    (hbind : ∀ (s : Shared) (u : Value), BindsTo s fd ⟨[u], []⟩ [(x, u)]) (hok : HOk P w H s₁.heap) (hsp : sp [.ref a] H (fun v _ => v = .bl true) fun _ _ _ => False) :
    codeAny (model P w) callerA (.call (.ref fa) ⟨[.ref a], []⟩) (AllTrue s₁) s₁ := by
  obtain ⟨mc, l1, l2⟩ := hlim
  have md : Mod K mg (hidT s₁.heap H) := ⟨h.kin KX, h.nsp hns, ⟨mb, h.nsp hb, hbb⟩, ⟨mc, h.nsp l1, l2⟩⟩
  have ev : Env0 P w K mg (hidT s₁.heap H) callerA [] s₁ H :=
    ⟨rfl, md, fun b o e => of_hidT e, Nat.le_of_eq (hidT_size _ _), trivial, fun b hb => (List.not_mem_nil hb).elim, hok, .of_eq hg⟩
  have go := (F _ (h.kin KX) (h.nsp hns)).go callerA rfl [] s₁ H ⟨[.ref a], []⟩ [.ref a] [.ref a] _ _ hr ev (hbind s₁ (.ref a)) (.cons rfl .nil) hsp
  refine codeAny_mono go ?_
  intro res s' hres
  match res, hres with
  | .error e, z => exact z.elim
  | .ok .next, z => exact z.elim
  | .ok .brk, z => exact z.elim
  | .ok .cont, z => exact z.elim
  | .ok (.ret u), ⟨v, H', os, bare, un, hok', rv, q⟩ =>
    obtain rfl : v = .bl true := q
    obtain rfl : u = Value.bool true := rv
    refine ⟨rfl, OldK.of_keep ?_, os, bare⟩
    intro b o e
    rcases h.only b with z | ⟨ob, xs, z⟩
    · exact un.keep b o e z (fun m => (List.not_mem_nil m).elim) (fun m => (List.not_mem_nil m).elim)
    · obtain ⟨e1, _⟩ := hok b _ z
      obtain ⟨e2, _⟩ := hok' b _ (un.frzs b ob _ z)
      rw [e] at e1
      cases e1
      exact e2
theorem law_callG (KX : K.In s₁.heap) (hns : s₁.heap.Ns mainGlobals mg) (hb : s₁.heap.Ns builtinsNs mb) (hbb : ∀ x : Str, x ≠ "__name__" → mb x = bootBuiltins x) (hlim : s₁.heap.NoLimit) (hg : s₁.gens = #[])
    (scr : s₁.heap.get? a = some { cls := .type "list", data := .seq vs.toArray }) (hi : IntsAre vs ns) (hl : ns.length ≤ sizeLine) (hr : Room k callerA)
    (F : ∀ base : Heap, K.In base → base.Ns mainGlobals mg → FnG P w K mg base CX0 k fa fd [x] sp) (hbind : ∀ (s : Shared) (u : Value), BindsTo s fd ⟨[u], []⟩ [(x, u)])
    (hsp : ∀ H : Hp, Only H → SqL K H a (ns.map V.int) → sp [.ref a] H (fun v _ => v = .bl true) fun _ _ _ => False) :
    codeAny (model P w) callerA (.call (.ref fa) ⟨[.ref a], []⟩) (AllTrue s₁) s₁ := by
  have rv := vals_ints hi
  cases hk : K.lookup a with
  | some o =>
    have e := KX a o hk
    rw [scr] at e
    cases e
    have on : Only (fun _ => none) := fun _ => .inl rfl
    refine run_law (H := fun _ => none) ⟨on, fun b z => absurd rfl z, fun z => absurd rfl z, scr⟩ KX hns hb hbb hlim hg hr F hbind (fun b u z => nomatch z) (hsp _ on ?_)
    exact .inr ⟨_, vs.toArray, _, hk, rfl, rfl, rfl, by rw [List.size_toArray, hi.length]; exact hl, by simpa using rv⟩
  | none =>
    let L : HO := .frz { cls := .type "list", data := .seq vs.toArray } (.lst (ns.map V.int))
    have la : (fun b => if b = a then some L else none : Hp) a = some L := if_pos rfl
    have on : Only (fun b => if b = a then some L else none) := by
      intro b
      by_cases hb : b = a
      · exact .inr ⟨_, _, if_pos hb⟩
      · exact .inl (if_neg hb)
    refine run_law ⟨on, fun b z => ?_, fun _ => hk, scr⟩ KX hns hb hbb hlim hg hr F hbind (fun b u z => ?_) (hsp _ on (.inl (.inr ⟨_, la⟩)))
    · by_cases hb : b = a
      · exact hb
      · exact absurd (if_neg hb) z
    · by_cases hb : b = a
      · subst hb
        have z' := la.symm.trans z
        cases z'
        exact ⟨scr, by rw [List.length_map]; exact hl, vs, _, rv, scr⟩
      · have z' := (if_neg hb).symm.trans z
        cases z'
end
theorem walkG {l : PySem.W.OpenLaw} {n k : Nat} {q : Program} {loose : List Str} {XP : (Str → Option Value) → Heap → Prop} {YP : World → Heap → Prop} {d : DefRec} {K : Params → PySem.W.Frag} {sp : World → Sp} {x : Str}
    (hn : l.most = some n) (hn2 : n ≤ sizeLine) (hdf : d.params.defaults = []) (hr : Room k callerA) (hY : ∀ (w : World) (h : Heap), YP w h → (K w.params).In h)
    (F : ∀ (w : World) (mg : Str → Option Value) (fa : Addr) (h : Heap), (K w.params).In h → h.Ns mainGlobals mg → mg d.name = some (.ref fa) →
      ∃ fd : FuncData, (∀ (s : Shared) (u : Value), BindsTo s fd ⟨[u], []⟩ [(x, u)]) ∧
        ∀ base : Heap, (K w.params).In base → base.Ns mainGlobals mg → FnG l.prog w (K w.params) mg base CX0 k fa fd [x] (sp w))
    (hsp : ∀ (w : World) (H : Hp) (a : Addr) (ns : List Int), ns.length ≤ n → Only H → SqL (K w.params) H a (ns.map V.int) → sp w [.ref a] H (fun v _ => v = .bl true) fun _ _ _ => False) :
    PySem.W.WalkO q loose XP YP l.row.toRowW d [] (fun f vs => PySem.call f vs) := by
  refine Att.attach_call hn hdf ?_
  intro w s₀ s₁ mg mb fa o pm cd doc a vs ns G Y ho hd hcd hmg hobj hints hlen hg
  obtain ⟨fd, hb, hF⟩ := F w mg fa _ (hY w _ Y) G.T.g hmg
  exact law_callG (hY w _ Y) G.T.g G.T.b G.T.builtins G.T.nolimit hg hobj hints (Nat.le_trans hlen hn2) hr hF hb fun H hO hS => hsp w H a ns hlen hO hS
end Gk
namespace Gk
open PySem L2 PySem.Spec PyProof.Rows
/-- a def of the module's top, by its name, with its promise -/
def CalG (P : Program) (w : World) (K : PySem.W.Frag) (mg : Str → Option Value) (base : Heap) (k : Nat) (x : Str) (sp : Sp) : Prop :=
  ∃ (f : Addr) (fd : FuncData) (ps : List Str), FnG P w K mg base CX0 k f fd ps sp ∧ mg x = some (.ref f) ∧ PySem.W.keepIn K (.ref f) = true ∧ Binds K fd ps []
/-- a def as the top has left it -/
def DefAt (K : PySem.W.Frag) (mg : Str → Option Value) (x : Str) (st : Stmt) (ps : List Str) : Prop :=
  ∃ (f : Addr) (fd : FuncData), mg x = some (.ref f) ∧ Fun K x x st f fd ∧ Binds K fd ps []
theorem defAt {K : PySem.W.Frag} {h : Heap} {mg : Str → Option Value} {x : Str} {st : Stmt} {ps : List Str} {f : Addr} {oc : Value} {od an : Option Addr} {osl : Array (Option Value)} {kV doc pm cdv ct : Value} (X : K.In h) (G : h.Ns mainGlobals mg)
    (hb : ∀ (kV doc pm : Value) (an : Option Addr) (cdv ct : Value) (us : List Value), us.length = ps.length → bindArgs (PySem.W.fnOf x x (defArgs st) (defBody st) (defScope st) .none kV doc pm an cdv ct) ⟨us, []⟩ = pure (ps.zip us))
    (a : PySem.W.nsIn K mainGlobals x = some (some (.ref f)))
    (l : K.lookup f = some ⟨oc, od, .func (PySem.W.fnOf x x (defArgs st) (defBody st) (defScope st) .none kV doc pm an cdv ct), osl⟩)
    (c : PySem.W.codeIn K cdv x = true) (k : PySem.W.keepIn K (.ref f) = true) : DefAt K mg x st ps :=
  ⟨f, _, PySem.W.mg_of X G a, fun_mk l c k, (fun_mk (st := st) l c k).binds hb⟩
section
variable {P : Program} {w : World} {K : PySem.W.Frag} {mg : Str → Option Value} {base : Heap}
/-- a def by its body -/
theorem DefAt.by {x : Str} {st : Stmt} {ps N : List Str} {k : Nat} {sp : Sp} (D : DefAt K mg x st ps) (S : FnScope N ps (defScope st)) (len : ∀ vs H Q E, sp vs H Q E → vs.length = ps.length)
    (inner : ∀ (f : Addr) (cd : Value) (A : Around), A.guards = some [] → ∀ (outer : List Env) (s : Shared) (H : Hp) (vs : List V) (Q : VK) (E : XK),
      Room k (A.deeper (envOfC x (defScope st) s.heap.objs.size f cd)) → sp vs H Q E →
      ∃ t, PSs (cxOf CX0 P w K mg base N x (defScope st) f cd A outer s H E).nox (defBody st) t ∧ t { nx := fun _ H' => Q .non H', rt := Q } (start N vs) H) :
    CalG P w K mg base (k + 1) x sp := by
  obtain ⟨f, fd, hm, F, hb⟩ := D
  exact ⟨f, fd, ps, defG0 F S len (inner f), hm, F.kp, hb⟩
end
section
variable {X : Cx} {k j : Nat} {sp : Sp} {x : Str} {p pos : Pos} {e : Expr} {es : List Expr} {t : TA}
theorem pe_cG (c : CalG X.prog X.w X.K X.mg X.base k x sp) (g : X.A.guards = some []) (hr : Room j X.A) (hk : k ≤ j) (ha : PA X (e :: es) t) (hg : Gl X x := by rfl)
    (hdb : (x == ("__debug__" : Str)) = false := by decide) (he : starEach (e :: es) X.env = (false, eval e X.env) :: starEach es X.env := by rfl)
    (hpl : (backTo pos (starEach es X.env)).any (·.1) = false := by rfl) : PE X (.Call (.Name x p) (e :: es) [] pos) (tCall sp [] E0 t) := by
  obtain ⟨f, fd, ps, F, hm, hkp, hb⟩ := c
  exact pe_callG F g (hr.mono hk) hg hm hkp hb .nil pass0 ha hdb he hpl
end
end Gk
/-! readings, one construct a lemma: what a term of the layer asks, from the value -/
namespace Rd
open PySem L2 PySem.Spec PyProof.Rows Gk
section
variable {K : PySem.W.Frag} {σ : L2.St} {H : Hp} {Q : VK} {QA : List V → Hp → Prop} {QB : Bool → Hp → Prop} {QH : Hp → Prop} {D : Ends} {i j : Int} {n : Nat} {v x y : V} {ta tb te : TE} {tt tu : TT} {t u : TS} {as ar : TA} {p q : Addr} {xs ys : List V} {z s : Str} {b c : Bool}
theorem var (h : σ[n]? = some (some v)) (k : Q v H) : tVar n σ H Q := ⟨v, h, k⟩
theorem cst (k : Q v H) : tC v σ H Q := k
theorem op {r : R2} (k : ta σ H fun x H1 => tb σ H1 fun y H2 => r x y H2 Q) : tOp r ta tb σ H Q := k
theorem un {r : V → Hp → VK → Prop} (k : ta σ H fun x H1 => r x H1 Q) : tUn r ta σ H Q := k
theorem i0 {g : Int → Int → V} (k : Q (g i j) H) : rI0 g (.int i) (.int j) H Q := ⟨i, j, rfl, rfl, k⟩
theorem ic {C : Int → Int → Prop} {g : Int → Int → V} (h : C i j) (k : Q (g i j) H) : rI C g (.int i) (.int j) H Q := ⟨i, j, rfl, rfl, h, k⟩
theorem u1 {g : Int → V} (k : Q (g i) H) : rU g (.int i) H Q := ⟨i, rfl, k⟩
theorem eq (h : scal x y = true) (k : Q (.bl (decide (x = y))) H) : rEq x y H Q := ⟨h, k⟩
theorem ne (h : scal x y = true) (k : Q (.bl (!decide (x = y))) H) : rNe x y H Q := ⟨h, k⟩
theorem ixL (h : SqL K H p xs) (a : atI xs i = some v) (k : Q v H) : rIxL K (.ref p) (.int i) H Q := ⟨p, xs, i, v, rfl, rfl, h, a, k⟩
theorem ixT (h : SqT K H p xs) (a : atI xs i = some v) (k : Q v H) : rIxT K (.ref p) (.int i) H Q := ⟨p, xs, i, v, rfl, rfl, h, a, k⟩
theorem ixS {m : Nat} (h : z.length ≤ sizeLine) (a : atI z.cps.toList i = some m) (k : Q (.str ⟨#[m]⟩) H) : rIxS (.str z) (.int i) H Q := ⟨z, i, m, rfl, rfl, h, a, k⟩
theorem setL {m : Nat} (h : H p = some (.lst xs)) (a : ixN xs.length i = some m) (k : QH (upd H p (.lst (xs.set m v)))) : rSetL (.ref p) (.int i) v H QH := ⟨p, xs, i, m, rfl, rfl, h, a, k⟩
theorem inL {neg : Bool} (h : SqL K H p xs) (hx : flatV x = true) (ha : xs.all flatV = true) (k : Q (.bl (if neg then !inV x xs else inV x xs)) H) : rIn K neg x (.ref p) H Q := ⟨p, xs, rfl, .inl h, hx, ha, k⟩
theorem slL {lo hi : Option Int} (h : SqL K H p xs) (k : ∀ q, H q = none → Q (.ref q) (upd H q (.lst (cutV xs lo hi)))) : rSlL K (.ref p) lo hi H Q := ⟨p, xs, rfl, h, k⟩
theorem slS {lo hi : Option Int} (h : z.length ≤ sizeLine) (k : Q (.str (cutS z lo hi)) H) : rSlS (.str z) lo hi H Q := ⟨z, rfl, h, k⟩
theorem cat (h : H p = some (.lst xs)) (h' : H q = some (.lst ys)) (l : xs.length + ys.length ≤ sizeLine) (k : ∀ r, H r = none → Q (.ref r) (upd H r (.lst (xs ++ ys)))) : rCat (.ref p) (.ref q) H Q := ⟨p, q, xs, ys, rfl, rfl, h, h', l, k⟩
theorem sl {r : V → Option Int → Option Int → Hp → VK → Prop} {tl th : TO} (k : te σ H fun x H1 => tl σ H1 fun l H2 => th σ H2 fun u H3 => r x l u H3 Q) : tSl r te tl th σ H Q := k
theorem noPart {QO : Option Int → Hp → Prop} (k : QO none H) : tNoPart σ H QO := k
theorem part {QO : Option Int → Hp → Prop} (k : te σ H fun x H1 => ∃ i, x = .int i ∧ QO (some i) H1) : tPart te σ H QO := k
theorem int_ {R : Int → Prop} (k : R i) : ∃ i', V.int i = .int i' ∧ R i' := ⟨i, rfl, k⟩
theorem bl_ {R : Bool → Prop} (k : R b) : ∃ c, V.bl b = .bl c ∧ R c := ⟨b, rfl, k⟩
theorem nil (k : QA [] H) : tNil σ H QA := k
theorem cons (k : te σ H fun x H1 => ar σ H1 fun xs H2 => QA (x :: xs) H2) : tCons te ar σ H QA := k
theorem cb {r : List V → Hp → VK → Prop} (k : as σ H fun vs H1 => r vs H1 Q) : tCB r as σ H Q := k
theorem call {sp : Sp} {dvs : List V} {E : XK} (k : as σ H fun vs H1 => sp (vs ++ dvs) H1 Q E) : tCall sp dvs E as σ H Q := k
theorem lst (k : as σ H fun xs H1 => xs.length ≤ sizeLine ∧ ∀ p, H1 p = none → Q (.ref p) (upd H1 p (.lst xs))) : tLst as σ H Q := k
theorem tup (k : as σ H fun xs H1 => xs.length ≤ sizeLine ∧ ∀ p, H1 p = none → Q (.ref p) (upd H1 p (.tup xs))) : tTup as σ H Q := k
theorem test (k : te σ H fun x H' => ∃ k, x = .bl k ∧ QB k H') : tTest te σ H QB := k
theorem tb_ (k : te σ H fun x H' => ∃ k, x = .bl k ∧ QB k H') : tB te σ H QB := k
theorem not_ (k : tt σ H fun c H1 => QB (!c) H1) : tNot tt σ H QB := k
theorem or_ (k : tt σ H fun c H1 => if c = true then QB true H1 else tu σ H1 QB) : tOr tt tu σ H QB := k
theorem and_ (k : tt σ H fun c H1 => if c = true then tu σ H1 QB else QB false H1) : tAnd tt tu σ H QB := k
theorem orV (k : ta σ H fun x H1 => ∃ c, x = .bl c ∧ if c = true then Q (.bl true) H1 else tb σ H1 Q) : tOrV ta tb σ H Q := k
theorem andV (k : ta σ H fun x H1 => ∃ c, x = .bl c ∧ if c = true then tb σ H1 Q else Q (.bl false) H1) : tAndV ta tb σ H Q := k
theorem notV (k : ta σ H fun x H1 => ∃ c, x = .bl c ∧ Q (.bl (!c)) H1) : tNotV ta σ H Q := k
theorem tif (k : tt σ H fun c H1 => if c = true then ta σ H1 Q else tb σ H1 Q) : tIf tt ta tb σ H Q := k
theorem yes (k : QB true H) : tYes σ H QB := k
theorem next (k : D.nx σ H) : tNext D σ H := k
theorem seq (k : t { D with nx := u D } σ H) : tSeq t u D σ H := k
theorem drop (k : te σ H fun _ H1 => D.nx σ H1) : tDrop te D σ H := k
theorem ret (k : te σ H D.rt) : tRet te D σ H := k
theorem retN (k : D.rt .non H) : tRetN D σ H := k
theorem ifs (k : tt σ H fun b H1 => if b = true then t D σ H1 else u D σ H1) : tIfS tt t u D σ H := k
theorem asg {g : TG} (k : te σ H fun x H1 => g x σ H1 D.nx) : tAsg te g D σ H := k
theorem gname {QS : L2.St → Hp → Prop} (k : QS (σ.set n (some v)) H) : gName n v σ H QS := k
theorem gsub {QS : L2.St → Hp → Prop} {st : V → V → V → Hp → (Hp → Prop) → Prop} (k : ta σ H fun o H1 => tb σ H1 fun i H2 => st o i v H2 fun H3 => QS σ H3) : gSub ta tb st v σ H QS := k
theorem par {m l : Nat} (k : as σ H fun vs H1 => ∃ v w, vs = [v, w] ∧ D.nx ((σ.set m (some v)).set l (some w)) H1) : tPar m l as D σ H := k
theorem bm {T : String} {r : V → List V → Hp → VK → Prop} (k : te σ H fun x H1 => tyV K T x H1 ∧ as σ H1 fun xs H2 => r x xs H2 Q) : tBM K T r te as σ H Q := k
theorem bm0 {T : String} {r : V → List V → Hp → VK → Prop} (k : te σ H fun x H1 => tyV K T x H1 ∧ r x [] H1 Q) : tBM0 K T r te σ H Q := k
theorem app (h : H p = some (.lst xs)) (l : xs.length < sizeLine) (k : Q .non (upd H p (.lst (xs ++ [v])))) : rAppend (.ref p) [v] H Q := ⟨p, xs, v, rfl, rfl, h, l, k⟩
theorem ty_list (h : H p = some (.lst xs)) : tyV K "list" (.ref p) H := .inl ⟨rfl, xs, SqL.of h⟩
theorem int1 {R : Int → Prop} {R2 : Bool → Prop} (k : R i) : (∃ j, [V.int i] = [.int j] ∧ R j) ∨ ∃ k, [V.int i] = [.bl k] ∧ R2 k := .inl ⟨i, rfl, k⟩
theorem intB {R : Int → Prop} {R2 : Bool → Prop} (k : R2 b) : (∃ j, [V.bl b] = [.int j] ∧ R j) ∨ ∃ k, [V.bl b] = [.bl k] ∧ R2 k := .inr ⟨b, rfl, k⟩
theorem two {R : Int → Int → Prop} (k : R i j) : ∃ i' j', [V.int i, .int j] = [.int i', .int j'] ∧ R i' j' := ⟨i, j, rfl, k⟩
theorem one {R : Int → Prop} (k : R i) : ∃ i', [V.int i] = [.int i'] ∧ R i' := ⟨i, rfl, k⟩
theorem lenL {R : List V → Prop} (h : SqL K H p xs) (k : R xs) : ∃ p' ys, [V.ref p] = [.ref p'] ∧ (SqL K H p' ys ∨ SqT K H p' ys) ∧ R ys := ⟨p, xs, rfl, .inl h, k⟩
theorem lenS {R : Str → Prop} (h : z.length ≤ sizeLine) (k : R z) : ∃ z', [V.str z] = [.str z'] ∧ z'.length ≤ sizeLine ∧ R z' := ⟨z, rfl, h, k⟩
theorem andr {R : Prop} (k : R) : x = x ∧ R := ⟨rfl, k⟩
theorem str_ {R : Str → Prop} (k : R z) : ∃ c, V.str z = .str c ∧ R c := ⟨z, rfl, k⟩
theorem dec {c A B : Prop} [Decidable c] (h1 : c → A) (h2 : ¬ c → B) : if decide c = true then A else B := by
  by_cases h : c
  · rw [decide_eq_true h]; exact h1 h
  · rw [decide_eq_false h, if_neg Bool.false_ne_true]; exact h2 h
theorem ndec {c A B : Prop} [Decidable c] (h1 : ¬ c → A) (h2 : c → B) : if (!decide c) = true then A else B := by
  by_cases h : c
  · rw [decide_eq_true h]; exact h2 h
  · rw [decide_eq_false h]; exact h1 h
theorem tt_ {A B : Prop} (h : A) : if true = true then A else B := h
theorem ff_ {A B : Prop} (h : B) : if false = true then A else B := iteF h
theorem bool {b : Bool} {A B : Prop} (h1 : b = true → A) (h2 : b = false → B) : if b = true then A else B := by
  cases b with
  | true => exact h1 rfl
  | false => rw [if_neg Bool.false_ne_true]; exact h2 rfl
theorem fm {i m : Int} (m0 : 0 < m) : 0 ≤ i.fmod m ∧ i.fmod m < m := by
  rw [Int.fmod_eq_emod_of_nonneg i (Int.le_of_lt m0)]
  exact ⟨Int.emod_nonneg i (by omega), Int.emod_lt_of_pos i m0⟩
theorem atN {α : Type} {xs : List α} {i : Int} {v : α} (h0 : 0 ≤ i) (h : xs[i.toNat]? = some v) : atI xs i = some v := by
  have e : ((i.toNat : Nat) : Int) = i := Int.toNat_of_nonneg h0
  rw [← e]
  exact atI_nat h
theorem at0 {α : Type} {xs : List α} {v : α} : atI (v :: xs) 0 = some v := atN (Int.le_refl 0) rfl
theorem at_int {ns : List Int} {i : Int} (h0 : 0 ≤ i) (h : i < ((ns.map V.int).length : Int)) : ∃ c, atI (ns.map V.int) i = some (.int c) := by
  rw [List.length_map] at h
  have hk : i.toNat < ns.length := by omega
  exact ⟨ns[i.toNat], atN h0 (by simp [hk])⟩
theorem sz {n : Nat} (h : n ≤ 100000) : n ≤ sizeLine := Nat.le_trans h (by decide)
theorem szl {n : Nat} (h : n < 100000) : n < sizeLine := Nat.lt_of_lt_of_le h (by decide)
end
section
variable {X : Cx}
def rLenK (K : PySem.W.Frag) : List V → Hp → VK → Prop := fun xs H Q => ∃ p ys, xs = [.ref p] ∧ (SqL K H p ys ∨ SqT K H p ys) ∧ Q (.int ys.length) H
theorem callLen : CallR X (.builtin "len") (rLenK X.K) := call_len_seq
def rListK (K : PySem.W.Frag) : List V → Hp → VK → Prop := fun xs H Q => ∃ p ys, xs = [.ref p] ∧ (SqL K H p ys ∨ SqT K H p ys) ∧ ∀ l, H l = none → Q (.ref l) (upd H l (.lst ys))
theorem callList : CallR X (.type "list") (rListK X.K) := call_list_of
def tTru (K : PySem.W.Frag) (ta : TE) : TT := fun σ H Q => ta σ H fun x H' => ∃ k, TruV K x H' k ∧ Q k H'
theorem ptTru {K : PySem.W.Frag} {e : Expr} {ta : TE} (h : X.K = K) (p : PT X e fun σ H Q => ta σ H fun x H' => ∃ k, TruV X.K x H' k ∧ Q k H') : PT X e (tTru K ta) := by
  subst h
  exact p
variable {K : PySem.W.Frag} {σ : L2.St} {H : Hp} {Q : VK} {QB : Bool → Hp → Prop} {p : Addr} {xs : List V} {ta : TE}
theorem lenK (h : SqL K H p xs) (k : Q (.int xs.length) H) : rLenK K [.ref p] H Q := ⟨p, xs, rfl, .inl h, k⟩
theorem lenT (h : SqT K H p xs) (k : Q (.int xs.length) H) : rLenK K [.ref p] H Q := ⟨p, xs, rfl, .inr h, k⟩
theorem listK (h : SqL K H p xs) (k : ∀ l, H l = none → Q (.ref l) (upd H l (.lst xs))) : rListK K [.ref p] H Q := ⟨p, xs, rfl, .inl h, k⟩
theorem tru (k : ta σ H fun x H' => ∃ k, TruV K x H' k ∧ QB k H') : tTru K ta σ H QB := k
theorem truL {R : Bool → Prop} (h : SqL K H p xs) (k : R (!xs.isEmpty)) : ∃ k, TruV K (.ref p) H k ∧ R k := ⟨_, .inl ⟨xs, h, rfl⟩, k⟩
theorem any_ {bs : List Bool} (h : SqL K H p (bs.map V.bl)) (k : Q (.bl (bs.any id)) H) : rAny K [.ref p] H Q := ⟨p, bs, rfl, h, k⟩
theorem all_ {bs : List Bool} (h : SqL K H p (bs.map V.bl)) (k : Q (.bl (bs.all id)) H) : rAll K [.ref p] H Q := ⟨p, bs, rfl, h, k⟩
theorem repr_ {v : V} {d : PyData} (h : Dp K H v d) (h1 : d.showable = true) (h2 : d.hasDict = false) (h3 : d.depth ≤ 60) (h4 : d.shown.length ≤ sizeLine) (k : Q (.str d.shown) H) : rRepr K [v] H Q := ⟨v, d, rfl, h, h1, h2, h3, h4, k⟩
theorem eqD {x y : V} {d e : PyData} (hd : Dp K H x d) (he : Dp K H y e) (h1 : SeqAt.shaped d = true) (h2 : SeqAt.shaped e = true) (k : Q (.bl (PyData.eqv d e)) H) : rEqD K x y H Q := ⟨d, e, hd, he, h1, h2, k⟩
theorem neD {x y : V} {d e : PyData} (hd : Dp K H x d) (he : Dp K H y e) (h1 : SeqAt.shaped d = true) (h2 : SeqAt.shaped e = true) (k : Q (.bl (!PyData.eqv d e)) H) : rNeD K x y H Q := ⟨d, e, hd, he, h1, h2, k⟩
end
end Rd
set_option Elab.async false
set_option linter.all false
set_option maxRecDepth 100000
set_option maxHeartbeats 8000000
open PySem L2 Gk
local macro_rules | `(tactic| walk_at "look") => `(tactic| first
  | assumption
  | exact upd_same
  | exact SqL.of (by assumption)
  | exact SqL.of upd_same)
local macro_rules | `(tactic| walk_at "cond") => `(tactic| first | decide | (show _ ∨ _; right; split <;> decide) | (show _ ∧ _; constructor <;> omega) | (show _ ∨ _; left; constructor <;> omega) | (show _ ∨ _; right; constructor <;> omega) | (show _ ≠ _; omega) | (show _ < _; omega))
local macro_rules | `(tactic| walk_at "rd") => `(tactic| (with_reducible first
  | refine Rd.var rfl ?_ | refine Rd.cst ?_ | refine Rd.op ?_ | refine Rd.un ?_ | refine Rd.i0 ?_ | refine Rd.u1 ?_ | refine Rd.cons ?_ | refine Rd.nil ?_
  | refine Rd.seq ?_ | refine Rd.ifs ?_ | refine Rd.asg ?_ | refine Rd.gname ?_ | refine Rd.gsub ?_ | refine Rd.ret ?_ | refine Rd.retN ?_ | refine Rd.drop ?_ | refine Rd.next ?_
  | refine Rd.test ?_ | refine Rd.tb_ ?_ | refine Rd.not_ ?_ | refine Rd.or_ ?_ | refine Rd.and_ ?_ | refine Rd.orV ?_ | refine Rd.andV ?_ | refine Rd.notV ?_ | refine Rd.tif ?_ | refine Rd.yes ?_
  | refine Rd.cb ?_ | refine Rd.call ?_ | refine Rd.sl ?_ | refine Rd.noPart ?_ | refine Rd.part ?_ | refine Rd.int_ ?_ | refine Rd.bl_ ?_
  | refine Rd.eq rfl ?_ | refine Rd.ne rfl ?_ | refine Rd.lst ?_ | refine Rd.tup ?_ | refine Rd.par ?_ | refine Rd.bm ?_ | refine Rd.bm0 ?_
  | refine Rd.int1 ?_ | refine Rd.intB ?_ | refine Rd.two ?_ | refine Rd.one ?_ | refine Rd.andr ?_ | refine Rd.str_ ?_
  | (refine Rd.ic ?k1 ?_; (case k1 => with_unfolding_all walk_at "cond"))
  | (refine' Rd.ixL ?k1 ?k2 ?_; (case k1 => with_unfolding_all walk_at "look"); (case k2 => with_unfolding_all (first | rfl | exact Rd.at0)))
  | (refine' Rd.setL ?k1 ?k2 ?_; (case k1 => with_unfolding_all walk_at "look"); (case k2 => with_unfolding_all rfl))
  | (refine' Rd.lenL ?k1 ?_; (case k1 => with_unfolding_all walk_at "look"))
  | (refine' Rd.lenK ?k1 ?_; (case k1 => with_unfolding_all walk_at "look"))
  | refine Rd.tru ?_ | (refine' Rd.truL ?k1 ?_; (case k1 => with_unfolding_all walk_at "look"))))
namespace Rd
open PySem.Spec PyProof.Rows
section
variable {K : PySem.W.Frag} {σ : L2.St} {H H' : Hp} {α β : Type}
theorem sNew {p : Addr} {o : HO} (hp : H p = none) : Same H (upd H p o) := fun b u e => by
  rw [upd_ne (ne_of_none e hp)]
  exact e
theorem sMut {p : Addr} {o : HO} (h : Same H H') (hp : H p = none) : Same H (upd H' p o) := fun b u e => by
  rw [upd_ne (ne_of_none e hp)]
  exact h b u e
theorem pair_get {F : α → β → Prop} : ∀ {as : List α} {bs : List β} {i : Nat} {b : β}, Paired F as bs → bs[i]? = some b → ∃ a, as[i]? = some a ∧ F a b
  | _, _, i, b, .nil, h => by simp at h
  | a :: as, c :: bs, 0, b, .cons h hs, e => by
    obtain rfl : c = b := by simpa using e
    exact ⟨a, rfl, h⟩
  | a :: as, c :: bs, i + 1, b, .cons h hs, e => by
    have := pair_get hs (i := i) (b := b) (by simpa using e)
    simpa using this
theorem pair_len {F : α → β → Prop} : ∀ {as : List α} {bs : List β}, Paired F as bs → as.length = bs.length
  | _, _, .nil => rfl
  | _, _, .cons _ t => by simp [pair_len t]
theorem pair_imp {F G : α → β → Prop} (f : ∀ a b, F a b → G a b) : ∀ {as : List α} {bs : List β}, Paired F as bs → Paired G as bs
  | _, _, .nil => .nil
  | _, _, .cons h t => .cons (f _ _ h) (pair_imp f t)
theorem pair_map {f : α → V} : ∀ {as : List α} {ys : List V}, Paired (fun a y => y = f a) as ys → ys = as.map f
  | _, _, .nil => rfl
  | _, _, .cons h t => by rw [h, pair_map t]; rfl
/-- a relation of what is meant to a value in a heap that stays true as the heap grows -/
def Stays (B : β → V → Hp → Prop) : Prop := ∀ b x H H', Same H H' → B b x H → B b x H'
theorem take_succ {xs : List α} {i : Nat} {x : α} (h : xs[i]? = some x) : xs.take (i + 1) = xs.take i ++ [x] := by
  rw [List.take_succ, h]
  rfl
theorem sUpd {D : Addr} {o : HO} (s : Same H H') : Same (upd H D o) (upd H' D o) := fun b u e => by
  by_cases hb : b = D
  · subst hb; rw [upd_same] at e ⊢; exact e
  · rw [upd_ne hb] at e ⊢; exact s b u e
theorem upd_id {D : Addr} {o : HO} (h : H D = some o) : upd H D o = H := by
  funext b
  by_cases hb : b = D
  · subst hb; rw [upd_same, h]
  · rw [upd_ne hb]
/-- what holds of y in the heap behind, whatever the list in the making (which the heap ahead, H, does not know, and H1 does) holds -/
def Off (H H1 H2 : Hp) (B : V → Hp → Prop) (y : V) : Prop := ∀ D o, H D = none → H1 D ≠ none → B y (L2.upd H2 D o)
theorem off_old {H1 H2 : Hp} {B : V → Hp → Prop} {y : V} (hB : ∀ x H H', Same H H' → B x H → B x H') (s : Same H H2) (h : B y H) : Off H H1 H2 B y :=
  fun D o hD _ => hB _ _ _ (sMut s hD) h
theorem off_any {H1 H2 : Hp} {B : V → Prop} {y : V} (h : B y) : Off H H1 H2 (fun y _ => B y) y := fun D o hD _ => h
/-- a comprehension over a list of things -/
theorem lcL {tl te : TE} {tt : TT} {vs : List Nat} {j : Nat} {Q : VK} {a : Addr} {xs : List V} {bs : List α} (A : α → V → Hp → Prop) (B : β → V → Hp → Prop) (f : α → Bool) (g : α → β)
    (htl : ∀ R : V → Hp → Prop, R (.ref a) H → tl σ H R) (hl : SqL K H a xs) (hA : Stays A) (hB : Stays B) (pr : Paired (fun b x => A b x H) bs xs) (hz : xs.length ≤ 10000)
    (hw : ∀ x, wipe ((wipe σ vs).set j (some x)) vs = wipe σ vs)
    (turn : ∀ b x H1 (R : Bool → Hp → Prop), b ∈ bs → A b x H → A b x H1 → Same H H1 → (∀ H2, Same H1 H2 → R (f b) H2) → tt ((wipe σ vs).set j (some x)) H1 R)
    (elem : ∀ b x H1 (R : VK), b ∈ bs → f b = true → A b x H → A b x H1 → Same H H1 → (∀ y H2, Same H1 H2 → Off H H1 H2 (B (g b)) y → R y H2) → te ((wipe σ vs).set j (some x)) H1 R)
    (fin : ∀ D ys H1, H D = none → Same H H1 → H1 D = some (.lst ys) → Paired (fun c y => B c y H1) ((bs.filter f).map g) ys → Q (.ref D) H1) :
    tLc (iList K tl) (gName j) tt te vs σ H Q := by
  have hlen := pair_len pr
  refine htl _ ⟨a, rfl, ⟨xs, hl⟩, fun D hD => ?_⟩
  refine lc_list (K := K) (a := a) (xs := xs) (fun i H1 => ∃ ys, H1 D = some (.lst ys) ∧ ys.length ≤ i ∧ Same H H1 ∧ ∀ o, Paired (fun c y => B c y (upd H1 D o)) (((bs.take i).filter f).map g) ys) ?_ ?_ ?_ ?_
  · exact ⟨[], upd_same, Nat.le_refl _, sNew hD, fun _ => .nil⟩
  · rintro i H1 hi ⟨ys, _, _, s, _⟩
    exact s.seq hl
  · rintro i x H1 hx ⟨ys, hd, hy, s, pq⟩
    have hi : i < xs.length := (List.getElem?_eq_some_iff.mp hx).1
    obtain ⟨b, hb, hab⟩ := pair_get pr hx
    have mem : b ∈ bs := List.mem_of_getElem? hb
    have tk : bs.take (i + 1) = bs.take i ++ [b] := take_succ hb
    show wipe ((wipe σ vs).set j (some x)) vs = wipe σ vs ∧ _
    refine ⟨hw x, turn b x H1 _ mem hab (hA _ _ _ _ s hab) s fun H2 s2 => ?_⟩
    cases hf : f b with
    | false =>
      rw [if_neg Bool.false_ne_true]
      refine ⟨ys, s2 _ _ hd, by omega, s.trans s2, fun o => ?_⟩
      rw [tk, List.filter_append, List.filter_cons_of_neg (by simp [hf]), List.filter_nil, List.append_nil]
      exact pair_imp (fun c y => hB c y _ _ (sUpd s2)) (pq o)
    | true =>
      rw [if_pos rfl]
      refine elem b x H2 _ mem hf hab (hA _ _ _ _ (s.trans s2) hab) (s.trans s2) fun y H3 s3 hy3 => ?_
      have hd3 := s3 _ _ (s2 _ _ hd)
      have s4 : Same H H3 := (s.trans s2).trans s3
      refine ⟨ys, hd3, szl (by omega), ys ++ [y], upd_same, by rw [List.length_append]; simp; omega, sMut s4 hD, fun o => ?_⟩
      rw [tk, List.filter_append, List.filter_cons_of_pos (by simp [hf]), List.filter_nil, List.map_append, upd_upd]
      exact (pair_imp (fun c z h => hB c z _ _ (sUpd (s2.trans s3)) h) (pq o)).snoc (hy3 D o hD (by rw [s2 _ _ hd]; simp))
  · rintro H1 ⟨ys, hd, hy, s, pq⟩
    refine fin D ys H1 hD s hd ?_
    have pq := pq (.lst ys)
    rw [← hlen, List.take_length, upd_id hd] at pq
    exact pq
end
end Rd
namespace Rd
open PySem.Spec PyProof.Rows
section
variable {K : PySem.W.Frag} {σ : L2.St} {H H' : Hp} {Q : VK} {D : Ends} {z : Str}
/-! ### comprehensions and loops over ranges -/
def LcGo (J : It) (g : TG) (tt : TT) (te : TE) (vs : List Nat) (σ : L2.St) (Q : VK) (H1 : Hp) : Prop := ∀ D, H1 D = none → ∃ W : Nat → Nat → Hp → Prop, (∃ m, W 0 m (upd H1 D (.lst []))) ∧ ∀ i m H, W i m H →
  (J.stop i H ∧ Q (.ref D) H) ∨ (J.go i H ∧ ∃ Nx : Hp → Prop, (∀ H', Nx H' → ∃ m', m' < m ∧ W (i + 1) m' H') ∧ ∀ x H', J.yld i H x H' → g x (wipe σ vs) H' fun σ2 H2 => wipe σ2 vs = wipe σ vs ∧ tt σ2 H2 fun b H3 =>
    if b = true then te σ2 H3 fun y H4 => ∃ acc, H4 D = some (.lst acc) ∧ acc.length < sizeLine ∧ Nx (upd H4 D (.lst (acc ++ [y]))) else Nx H3)
theorem lcR {ta : TA} {g : TG} {tt : TT} {te : TE} {vs : List Nat} (k : ta σ H fun xs H1 => ∃ j : Int, xs = [.int j] ∧ -(2 ^ 62) ≤ j ∧ j < 2 ^ 62 ∧ LcGo (Itr 0 j.toNat) g tt te vs σ Q H1) : tLc (iRng1 ta) g tt te vs σ H Q := k
theorem rng {i : Int} {R : Prop} (h0 : 0 ≤ i) (h1 : i ≤ 100000) (k : R) : -(2 ^ 62) ≤ i ∧ i < 2 ^ 62 ∧ R := ⟨by omega, by omega, k⟩
/-- no test; each turn adds one thing -/
theorem goR {n j : Nat} {te : TE} {vs : List Nat} (Pv : Addr → Nat → List V → Hp → Prop) (h0 : ∀ D, H D = none → Pv D 0 [] (upd H D (.lst []))) (hw : ∀ x, wipe ((wipe σ vs).set j (some x)) vs = wipe σ vs) (hn : n ≤ 100000)
    (turn : ∀ D i acc H1, H D = none → i < n → acc.length = i → H1 D = some (.lst acc) → Pv D i acc H1 → ∀ R : VK, (∀ y H2, H2 D = some (.lst acc) → Pv D (i + 1) (acc ++ [y]) (upd H2 D (.lst (acc ++ [y]))) → R y H2) → te ((wipe σ vs).set j (some (.int (i : Int)))) H1 R)
    (fin : ∀ D acc H1, H D = none → acc.length = n → H1 D = some (.lst acc) → Pv D n acc H1 → Q (.ref D) H1) : LcGo (Itr 0 n) (gName j) tYes te vs σ Q H := by
  intro D hD
  refine lc_range (lo := 0) (n := n) (fun i H1 => ∃ acc, acc.length = i ∧ H1 D = some (.lst acc) ∧ Pv D i acc H1) ⟨[], rfl, upd_same, h0 D hD⟩ ?_ ?_
  · rintro i H1 hi ⟨acc, ha, hd, p⟩
    have e0 : (0 : Int) + (i : Int) = (i : Int) := Int.zero_add _
    rw [e0]
    refine ⟨hw _, ?_⟩
    refine turn D i acc H1 hD hi ha hd p _ fun y H2 h1 h2 => ?_
    exact ⟨acc, h1, szl (by omega), acc ++ [y], by simp [ha], upd_same, h2⟩
  · rintro H1 ⟨acc, ha, hd, p⟩
    exact fin D acc H1 hD ha hd p
def ForGo (J : It) (g : TG) (tb : TS) (D : Ends) (σ : L2.St) (H1 : Hp) : Prop := ∃ W : Nat → Nat → L2.St → Hp → Prop, (∃ m, W 0 m σ H1) ∧ ∀ i m σ H, W i m σ H →
  (J.stop i H ∧ D.nx σ H) ∨ (J.go i H ∧ ∃ N : L2.St → Hp → Prop, (∀ σ' H', N σ' H' → ∃ m', m' < m ∧ W (i + 1) m' σ' H') ∧ ∀ x H', J.yld i H x H' → g x σ H' fun σ2 H2 => tb { D with nx := N, ct := N, bk := D.nx } σ2 H2)
theorem forR {ta : TA} {g : TG} {tb : TS} (k : ta σ H fun xs H1 => ∃ j : Int, xs = [.int j] ∧ -(2 ^ 62) ≤ j ∧ j < 2 ^ 62 ∧ ForGo (Itr 0 j.toNat) g tb D σ H1) : tFor (iRng1 ta) g tb D σ H := k
theorem forGo {n j : Nat} {tb : TS} (Pv : Nat → L2.St → Hp → Prop) (h0 : Pv 0 σ H)
    (turn : ∀ i σ1 H1, i < n → Pv i σ1 H1 → tb { D with nx := Pv (i + 1), ct := Pv (i + 1), bk := D.nx } (σ1.set j (some (.int (i : Int)))) H1) (fin : ∀ σ1 H1, Pv n σ1 H1 → D.nx σ1 H1) : ForGo (Itr 0 n) (gName j) tb D σ H :=
  for_range (lo := 0) (n := n) Pv h0 (fun i σ1 H1 hi p => by
    show tb _ (σ1.set j (some (.int (0 + (i : Int))))) H1
    rw [Int.zero_add]
    exact turn i σ1 H1 hi p) fin
theorem adds {a b : Str} {R : Str → Str → Prop} (h : a.length + b.length ≤ 100000) (k : R a b) : ∃ i j, V.str a = .str i ∧ V.str b = .str j ∧ i.length + j.length ≤ sizeLine ∧ R i j := ⟨a, b, rfl, rfl, sz h, k⟩
theorem gtup {n : Nat} {t : TGs} {a : Addr} {xs : List V} {QS : L2.St → Hp → Prop} (h : SqT K H a xs) (hl : xs.length = n) (k : t xs σ H QS) : gTup K n t (.ref a) σ H QS := ⟨a, xs, rfl, h, hl, k⟩
theorem gcons {v : V} {r : List V} {t : TG} {u : TGs} {QS : L2.St → Hp → Prop} (k : t v σ H fun σ' H' => u r σ' H' QS) : gCons t u (v :: r) σ H QS := ⟨v, r, rfl, k⟩
theorem gnil {QS : L2.St → Hp → Prop} (k : QS σ H) : gNil [] σ H QS := ⟨rfl, k⟩
theorem cut {t u : TS} (Mid : L2.St → Hp → Prop) (h1 : t { D with nx := Mid } σ H) (h2 : ∀ σ' H', Mid σ' H' → u D σ' H') : C8.tCut t u D σ H := ⟨Mid, h1, h2⟩
/-- a method of a text -/
theorem m1 {r : V → List V → Hp → VK → Prop} {to te : TE} (k : to σ H fun x H1 => (∃ a, x = .str a) ∧ te σ H1 fun y H2 => r x [y] H2 Q) : tM1 r to te σ H Q := k
theorem isStr {R : Prop} (k : R) : (∃ a, V.str z = .str a) ∧ R := ⟨⟨z, rfl⟩, k⟩
end
end Rd
namespace W6
open L2 TL
/-! ### texts with a bound -/
structure W (n : Nat) (w : Str) : Prop where
  len : w.length ≤ n
  low : ∀ c ∈ tl w, c < 1000
theorem tl_len (w : Str) : (tl w).length = w.length := by show w.cps.toList.length = w.cps.size; simp
theorem W.app {n m : Nat} {a b : Str} (ha : W n a) (hb : W m b) : W (n + m) (a ++ b) := by
  have e : tl (a ++ b) = tl a ++ tl b := by show (a.cps ++ b.cps).toList = _; simp
  refine ⟨?_, fun c hc => ?_⟩
  · rw [← tl_len, e, List.length_append, tl_len, tl_len]
    exact Nat.add_le_add ha.len hb.len
  · rw [e, List.mem_append] at hc
    exact hc.elim (ha.low c) (hb.low c)
theorem W.cut {n : Nat} {a : Str} (ha : W n a) (lo hi : Option Int) : W n (cutS a lo hi) :=
  ⟨Nat.le_trans (cutS_length a lo hi) ha.len, fun c hc => ha.low c (by
    have hc : c ∈ ((a.cps.toList.drop (HT.sIx a.length 0 lo)).take (HT.sIx a.length a.length hi - HT.sIx a.length 0 lo)) := by simpa [cutS] using hc
    exact List.mem_of_mem_drop (List.mem_of_mem_take hc))⟩
theorem joinL_nil : ∀ ps : List (List Nat), joinL [] ps = ps.flatten
  | [] => rfl
  | [p] => by simp [joinL]
  | p :: q :: r => by rw [joinL, joinL_nil (q :: r)]; simp
theorem W.join {cs : List Str} (h : ∀ c ∈ cs, W 1 c) : W cs.length (Txt.join "" cs) := by
  have e : tl (Txt.join "" cs) = (cs.map tl).flatten := by
    rw [join_eq, tl_join]
    exact joinL_nil _
  refine ⟨?_, fun c hc => ?_⟩
  · rw [← tl_len, e]
    clear e
    induction cs with
    | nil => simp
    | cons a cs ih =>
      rw [List.map_cons, List.flatten_cons, List.length_append, List.length_cons, tl_len]
      have := ih fun c hc => h c (List.mem_cons_of_mem _ hc)
      have := (h a List.mem_cons_self).len
      omega
  · rw [e, List.mem_flatten] at hc
    obtain ⟨l, hl, hc⟩ := hc
    obtain ⟨s, hs, rfl⟩ := List.mem_map.mp hl
    exact (h s hs).low c hc
theorem W.mono {n m : Nat} {a : Str} (h : W n a) (l : n ≤ m) : W m a := ⟨Nat.le_trans h.len l, h.low⟩
theorem W.sum {cs : List Str} (h : ∀ c ∈ cs, W 1 c) : (cs.map (·.length)).sum ≤ cs.length := by
  induction cs with
  | nil => exact Nat.le_refl _
  | cons a cs ih =>
    rw [List.map_cons, List.sum_cons, List.length_cons]
    have := ih fun c hc => h c (List.mem_cons_of_mem _ hc)
    have := (h a List.mem_cons_self).len
    omega
theorem W.sign {n : Nat} {z : Str} {i : Int} (h : W n z) (h0 : 0 ≤ i) (h1 : i < (z.length : Int)) : ∃ c, atI z.cps.toList i = some c ∧ W 1 ⟨#[c]⟩ := by
  have l : i.toNat < z.cps.toList.length := by
    have e : z.cps.toList.length = z.length := tl_len z
    omega
  refine ⟨z.cps.toList[i.toNat], Rd.atN h0 (List.getElem?_eq_getElem l), Nat.le_refl _, fun c hc => ?_⟩
  have e : c = z.cps.toList[i.toNat] := by simpa using hc
  rw [e]
  exact h.low _ (List.getElem_mem l)
end W6
local macro_rules | `(tactic| walk_at "look") => `(tactic| first
  | assumption
  | exact upd_same
  | exact SqL.of (by assumption)
  | exact SqL.of upd_same)
local macro_rules | `(tactic| walk_at "cond") => `(tactic| first | decide | (show _ ∨ _; right; split <;> decide) | (show _ ∧ _; constructor <;> omega) | (show _ ∨ _; left; constructor <;> omega) | (show _ ∨ _; right; constructor <;> omega) | (show _ ≠ _; omega) | (show _ < _; omega))
local macro_rules | `(tactic| walk_at "rd") => `(tactic| (with_reducible first
  | refine Rd.var rfl ?_ | refine Rd.cst ?_ | refine Rd.op ?_ | refine Rd.un ?_ | refine Rd.i0 ?_ | refine Rd.u1 ?_ | refine Rd.cons ?_ | refine Rd.nil ?_
  | refine Rd.seq ?_ | refine Rd.ifs ?_ | refine Rd.asg ?_ | refine Rd.gname ?_ | refine Rd.gsub ?_ | refine Rd.ret ?_ | refine Rd.retN ?_ | refine Rd.drop ?_ | refine Rd.next ?_
  | refine Rd.test ?_ | refine Rd.tb_ ?_ | refine Rd.not_ ?_ | refine Rd.or_ ?_ | refine Rd.and_ ?_ | refine Rd.orV ?_ | refine Rd.andV ?_ | refine Rd.notV ?_ | refine Rd.tif ?_ | refine Rd.yes ?_
  | refine Rd.cb ?_ | refine Rd.call ?_ | refine Rd.sl ?_ | refine Rd.noPart ?_ | refine Rd.part ?_ | refine Rd.int_ ?_ | refine Rd.bl_ ?_
  | refine Rd.eq rfl ?_ | refine Rd.ne rfl ?_ | refine Rd.lst ?_ | refine Rd.tup ?_ | refine Rd.par ?_ | refine Rd.bm ?_ | refine Rd.bm0 ?_ | refine Rd.m1 ?_ | refine Rd.isStr ?_ | refine Rd.lcR ?_ | refine Rd.forR ?_ | refine Rd.gcons ?_ | refine Rd.gnil ?_
  | refine Rd.int1 ?_ | refine Rd.intB ?_ | refine Rd.two ?_ | refine Rd.one ?_ | refine Rd.andr ?_ | refine Rd.str_ ?_
  | (refine Rd.ic ?k1 ?_; (case k1 => with_unfolding_all walk_at "cond"))
  | (refine' Rd.ixL ?k1 ?k2 ?_; (case k1 => with_unfolding_all walk_at "look"); (case k2 => with_unfolding_all (first | rfl | exact Rd.at0)))
  | (refine' Rd.setL ?k1 ?k2 ?_; (case k1 => with_unfolding_all walk_at "look"); (case k2 => with_unfolding_all rfl))
  | (refine' Rd.lenL ?k1 ?_; (case k1 => with_unfolding_all walk_at "look"))
  | (refine' Rd.lenK ?k1 ?_; (case k1 => with_unfolding_all walk_at "look"))
  | refine Rd.tru ?_ | (refine' Rd.truL ?k1 ?_; (case k1 => with_unfolding_all walk_at "look"))))

namespace Ex
open PySem.Spec PyProof.Rows
/-! ### an own error with one field, f: def __init__(self, f): self.f = f -/
def spInit (C : Addr) (f : Str) : Sp := fun vs H Q _ => ∃ (a : Addr) (v : V), vs = [.ref a, v] ∧ H a = some (exo a C none) ∧ ∀ dx, H dx = none → dx ≠ a → Q .non (upd (upd H dx (exd dx [(f, v)])) a (exo a C (some dx)))
structure ErrC (K : PySem.W.Frag) (mg : Str → Option Value) (x f : Str) (C : Addr) : Prop where
  t : OexC K C
  xf : XfC K C
  ic : ExcC K C
  no : PySem.W.findIn K (.ref C) f = some none
  g : mg x = some (.ref C)
  te : PySem.W.exmOne K (.ref C) (.ref C) = some true
/-- its __init__ as a def that keeps its promise -/
def InitOk (P : Program) (w : World) (K : PySem.W.Frag) (mg : Str → Option Value) (base : Heap) (f : Str) (C : Addr) : Prop :=
  ∃ (fI : Addr) (fd : FuncData), PySem.W.findIn K (.ref C) "__init__" = some (some (.ref fI)) ∧ PySem.W.typeIn K (.ref fI) = some (.type "function") ∧ FnOk P w K mg base CX0 1 fI fd ["self", f] (spInit C f) ∧ Binds K fd ["self", f] []
theorem made_heap {H : Hp} {a d : Addr} {f : Str} {v : V} {C : Addr} (ha : H a = none) (hda : d ≠ a) :
    upd (L2.del (upd (upd (upd H a (exo a C none)) d (exd d [(f, v)])) a (exo a C (some d))) a) d (.xd [(f, v)]) = upd H d (.xd [(f, v)]) := by
  funext b
  by_cases hb : b = d
  · subst hb; rw [upd_same, upd_same]
  · rw [upd_ne hb, upd_ne hb]
    by_cases hba : b = a
    · subst hba; rw [del_same, ha]
    · rw [del_ne hba, upd_ne hba, upd_ne hb, upd_ne hba]
section
variable {X : Cx} {σ : L2.St} {H : Hp}
theorem pmkE {x f : Str} {C : Addr} {k : Nat} {e : Expr} {es : List Expr} {p pos : Pos} {ta : TA} (T : ErrC X.K X.mg x f C) (M : InitOk X.prog X.w X.K X.mg X.base f C) (hr : Room k X.A) (hk : 2 ≤ k) (ha : PA X (e :: es) ta) (hg : Gl X x := by rfl)
    (hdb : (x == ("__debug__" : Str)) = false := by decide) (he : starEach (e :: es) X.env = (false, eval e X.env) :: starEach es X.env := by rfl) (hpl : (backTo pos (starEach es X.env)).any (·.1) = false := by rfl) :
    PMk X (.Call (.Name x p) (e :: es) [] pos) (tMkO C (spInit C f) [] ta) := by
  obtain ⟨fI, fd, iC, tI, F, hb⟩ := M
  exact pmk_oex T.t iC tI F (hr.mono hk) hb .nil pass0 hg T.g ha hdb he hpl
theorem mk {C : Addr} {sp : Sp} {dvs : List V} {ta : TA} {Q : XK} (k : ta σ H fun vs H1 => vs.length ≤ 1000 ∧ ∀ a, H1 a = none → sp (.ref a :: (vs ++ dvs)) (upd H1 a (exo a C none)) (fun v H2 => v = .non ∧ ∃ (d : Addr) (fs : List (Str × V)), H2 a = some (exo a C (some d)) ∧ H2 d = some (exd d fs) ∧ H1 d = none ∧ Q (.ref C) (some d) (upd (L2.del (H2) a) d (.xd fs))) (fun _ _ _ => False)) :
    tMkO C sp dvs ta σ H Q := k
theorem made {C : Addr} {f : Str} {v : V} {Q : XK} (h : ∀ d, H d = none → Q (.ref C) (some d) (upd H d (.xd [(f, v)]))) :
    [v].length ≤ 1000 ∧ ∀ a, H a = none → spInit C f (.ref a :: ([v] ++ [])) (upd H a (exo a C none)) (fun u H2 => u = .non ∧ ∃ (d : Addr) (fs : List (Str × V)), H2 a = some (exo a C (some d)) ∧ H2 d = some (exd d fs) ∧ H d = none ∧ Q (.ref C) (some d) (upd (L2.del H2 a) d (.xd fs))) (fun _ _ _ => False) := by
  refine ⟨by simp, fun a ha => ⟨a, v, rfl, upd_same, fun d hd hda => ⟨rfl, d, [(f, v)], upd_same, ?_, ?_, ?_⟩⟩⟩
  · rw [upd_ne hda, upd_same]
  · rw [upd_ne hda] at hd; exact hd
  · rw [upd_ne hda] at hd
    rw [made_heap ha hda]
    exact h d hd
end
/-! ### defs that may raise -/
def CalX (P : Program) (w : World) (K : PySem.W.Frag) (mg : Str → Option Value) (base : Heap) (k : Nat) (x : Str) (sp : Sp) : Prop :=
  ∃ (f : Addr) (fd : FuncData) (ps : List Str), FnG P w K mg base (L2.CX P w) k f fd ps sp ∧ mg x = some (.ref f) ∧ PySem.W.keepIn K (.ref f) = true ∧ Binds K fd ps []
section
variable {P : Program} {w : World} {K : PySem.W.Frag} {mg : Str → Option Value} {base : Heap}
theorem byX {x : Str} {st : Stmt} {ps N : List Str} {k : Nat} {sp : Sp} (D : DefAt K mg x st ps) (S : FnScope N ps (defScope st)) (len : ∀ vs H Q E, sp vs H Q E → vs.length = ps.length)
    (inner : ∀ (f : Addr) (cd : Value) (A : Around), A.guards = some [] → ∀ (outer : List Env) (s : Shared) (H : Hp) (vs : List V) (Q : VK) (E : XK),
      Room k (A.deeper (envOfC x (defScope st) s.heap.objs.size f cd)) → sp vs H Q E →
      ∃ t, PSs (cxOf (L2.CX P w) P w K mg base N x (defScope st) f cd A outer s H E) (defBody st) t ∧ t { nx := fun _ H' => Q .non H', rt := Q } (start N vs) H) :
    CalX P w K mg base (k + 1) x sp := by
  obtain ⟨f, fd, hm, F, hb⟩ := D
  exact ⟨f, fd, ps, defG F S len (inner f), hm, F.kp, hb⟩
end
section
variable {X : Cx} {k j : Nat} {sp : Sp} {x : Str} {p pos : Pos} {e : Expr} {es : List Expr} {t : TA}
/-- called in a def that lets the same out -/
theorem pe_x {E : XK} (c : CalX X.prog X.w X.K X.mg X.base k x sp) (g : X.A.guards = some []) (hr : Room j X.A) (hk : k ≤ j) (tk : Takes X fun cls d _ H => E cls d H) (ha : PA X (e :: es) t) (hg : Gl X x := by rfl)
    (hdb : (x == ("__debug__" : Str)) = false := by decide) (he : starEach (e :: es) X.env = (false, eval e X.env) :: starEach es X.env := by rfl)
    (hpl : (backTo pos (starEach es X.env)).any (·.1) = false := by rfl) : PE X (.Call (.Name x p) (e :: es) [] pos) (tCall sp [] E t) := by
  obtain ⟨f, fd, ps, F, hm, hkp, hb⟩ := c
  exact pe_callG F g (hr.mono hk) hg hm hkp hb .nil (passes_call tk fun _ _ _ _ h => h) ha hdb he hpl
/-- called where nothing is raised -/
theorem pe_x0 (c : CalX X.prog X.w X.K X.mg X.base k x sp) (g : X.A.guards = some []) (hr : Room j X.A) (hk : k ≤ j) (ha : PA X (e :: es) t) (hg : Gl X x := by rfl)
    (hdb : (x == ("__debug__" : Str)) = false := by decide) (he : starEach (e :: es) X.env = (false, eval e X.env) :: starEach es X.env := by rfl)
    (hpl : (backTo pos (starEach es X.env)).any (·.1) = false := by rfl) : PE X (.Call (.Name x p) (e :: es) [] pos) (tCall sp [] E0 t) := by
  obtain ⟨f, fd, ps, F, hm, hkp, hb⟩ := c
  refine pe_callG F g (hr.mono hk) hg hm hkp hb .nil (fun pins σ H s u s' I z => ?_) ha hdb he hpl
  obtain ⟨_, _, _, _, _, _, _, _, _, _, _, _, z⟩ := z
  exact z.elim
/-- called in a try -/
theorem pe_xS {W : WX} (c : CalX X.prog X.w X.K X.mg X.base k x sp) (g : X.A.guards = some []) (hr : Room j X.A) (hk : k ≤ j) (tk : Takes X W) (ha : PA X (e :: es) t) (hg : Gl X x := by rfl)
    (hdb : (x == ("__debug__" : Str)) = false := by decide) (he : starEach (e :: es) X.env = (false, eval e X.env) :: starEach es X.env := by rfl)
    (hpl : (backTo pos (starEach es X.env)).any (·.1) = false := by rfl) : PE X (.Call (.Name x p) (e :: es) [] pos) (tCallS sp (WE W) t) := by
  obtain ⟨f, fd, ps, F, hm, hkp, hb⟩ := c
  refine ⟨fun pins s σ H Q I h => wpAny_Call_Name_kw (ld_glob I hg hm ?_ hdb)⟩
  refine PySem.W.callWith_K (h₀ := X.base) I.ok.mod.kin hkp (thn (ha.run pos pins s σ H _ I h) ?_) he hpl
  rintro us s1 ⟨vs, H1, I1, r, q⟩
  refine ⟨I1.kIn, ?_⟩
  have lens : us.length = ps.length := (r.length).symm.trans (F.len _ _ _ _ q)
  have body := F.go X.A g X.stack s1 H1 ⟨us, []⟩ us vs Q (WE W σ) (hr.mono hk) I1.env0 (by simpa using hb s1 us I1.kIn (by simpa using lens)) r q
  refine wpAny_call (codeAny_mono body ?_)
  intro res s' hres
  match res, hres with
  | .error e, z => exact passAt tk σ pins H1 s1 e s' I1 z
  | .ok (.ret u), z => exact I1.after z
  | .ok .next, z => exact z.elim
  | .ok .brk, z => exact z.elim
  | .ok .cont, z => exact z.elim
end
end Ex
namespace PySem.W
open PySem PySem.Calls PyProof.Rows
theorem clsIn_obj {K : Frag} {D : Addr} (h : hasDictIn K D = true) : ∃ c d cd sl, K.lookup D = some ⟨c, d, .cls cd, sl⟩ := by
  obtain ⟨cd, hc, _⟩ := any_some h
  unfold clsIn at hc
  split at hc
  · rename_i c d cd' sl ho
    exact ⟨c, d, cd', sl, ho⟩
  · cases hc
/-- an instance of an own exception class, with whatever dict, as isinstance asks it -/
theorem kitxD {K : Frag} {x D : Addr} {ox : Obj} {od : Option Obj} (C : L2.ExcC K D) : KitX K (.ref x) (.ref D) (fun h => InstAt h x ox D od) where
  ty := fun _ _ _ I => I.type
  it := fun _ _ X _ => by
    obtain ⟨c, d, cd, sl, ho⟩ := clsIn_obj C.hd
    intro A' Q' E' s' k q
    unfold isType loadHead
    exact wpAny_bind (wpAny_loadPart (k _ _ (X _ _ ho)) (wpAny_pure q))
  ne := fun h tp dd its n sl X htp => by
    obtain ⟨c, d, cd, sl', ho⟩ := clsIn_obj C.hd
    cases e : (Value.ref D == .ref tp) with
    | false => rfl
    | true =>
      obtain rfl : D = tp := Value.ref.inj (beq_iff_eq.mp e)
      have z := (X _ _ ho).symm.trans htp
      cases z
  ca := fun X I k => kx_classE X I C.hg C.hk C.hs (findObj_dataE (by obtain ⟨cd, hc, _⟩ := any_some C.hd; rw [hc]; rfl) C.ha C.hn C.ht) C.hm k
end PySem.W
namespace Ex
open PySem.Spec PyProof.Rows
/-- isinstance(e, c), e the exception that the suite holds, with its dict -/
def rIsD (K : PySem.W.Frag) (C a : Addr) (cls : Value) (d : Option Addr) : List V → Hp → VK → Prop := fun xs H Q => ∃ (c : V) (cv : Value) (b : Bool) (dd : Addr) (fs : List (Str × V)), xs = [.ref a, c] ∧ ClsV c cv ∧ cls = .ref C ∧ d = some dd ∧ H dd = some (.xd fs) ∧ PySem.W.kitOne K (.ref C) cv = some b ∧ Q (.bl b) H
theorem call_isD {X : Cx} {a C : Addr} {oe : Obj} {cls : Value} {d : Option Addr} {pn : List (Addr × Obj)} (T : ExcC X.K C) (hz : Zc cls d oe) (hf : ∃ vs, oe.data = .fields vs) : CallR (X.suite a ((a, oe) :: pn)) (.builtin "isinstance") (rIsD X.K C a cls d) := by
  intro pins s σ H xs us Q I r h
  obtain ⟨c, cv, b, dd, fs, rfl, kc, ec, ed, ea, e, q⟩ := h
  obtain ⟨u, t, rfl, ru, rt⟩ := vals2 r
  obtain rfl : u = Value.ref a := ru
  obtain rfl := kc.eq rt
  subst ec ed
  obtain ⟨hget, _⟩ := I.pin (a, oe) (List.mem_append.mpr (.inl List.mem_cons_self))
  obtain ⟨vs, hv⟩ := hf
  have hx : ObjOk X.prog X.w H s.heap dd (.xd fs) := I.hok dd _ ea
  obtain ⟨mA, hns, hr⟩ := hx
  obtain ⟨od, ho, hl⟩ := lookIn_ns hns
  have J : PySem.W.InstAt s.heap a oe C (some od) := ⟨hget, hz.1, by unfold PySem.W.notCls; rw [hv] <;> rfl, by rw [hz.2]; exact ho⟩
  exact PySem.W.kia_one (PySem.W.kitxD T) I.kIn J e (fun z => nomatch z) fun tk => ⟨.bl b, H, I.kept (t' := tk) fun _ _ z => z, rfl, q⟩
end Ex
namespace Gk
open PySem.Spec PyProof.Rows
section
variable {X : Cx}
def rReprX (K : PySem.W.Frag) : List V → Hp → VK → Prop := fun xs H Q => rRepr K xs H Q ∨ ∃ p, xs = [.ref p] ∧ H p = some (.dK []) ∧ Q (.str "{}") H
theorem call_reprX (hg : X.A.guards = some []) (hu : X.A.units + 64 < cLine) : CallR X (.builtin "repr") (rReprX X.K) := by
  intro pins s σ H xs us Q I r h
  rcases h with h | ⟨p, rfl, hp, q⟩
  · exact call_reprD hg hu pins s σ H xs us Q I r h
  · obtain ⟨u, rfl, ru⟩ := vals1 r
    obtain rfl : u = Value.ref p := ru
    obtain ⟨_, ns, vs, kv, dof⟩ := dk_of I.hok hp
    obtain rfl : vs = [] := by cases kv; rfl
    obtain ⟨o, es, ep, h1, h2, h3, _, h4, _⟩ := dof
    have he : es.toList = [] := by
      cases hz : es.toList with
      | nil => rfl
      | cons a l => rw [hz] at h4; cases h4
    have rd : Reads s.heap (.ref p) (.dict []) (p :: [] ++ []) := .dict h1 h2.1 h3 (by rw [he]; exact .nil) (by rw [he]; exact .nil)
    have e : (PyData.dict []).shown = "{}" := by decide +kernel
    have out : ∀ h' u' tk, (∀ b o, s.heap.get? b = some o → h'.get? b = some o) → EP X pins σ Q (.str (PyData.dict []).shown u') { s with heap := h', toks := tk } :=
      fun h' u' tk hk => ⟨.str "{}", H, I.kept hk, ⟨u', by rw [e]⟩, q⟩
    refine repr_of_reads' rd (by rfl) (fun _ m => ?_) hg (by show _ + (PyData.depth (.dict []) + 1) < _; have : PyData.depth (.dict []) = 1 := rfl; omega) (fun _ _ z => z) out (by rw [e]; decide +kernel)
    have : sysModules = p := by simpa using m
    rw [← this] at ns
    simp at ns
end
end Gk
namespace Gk
open PySem.Spec PyProof.Rows
section
variable {X : Cx} {k j : Nat} {sp : Sp} {x : Str} {p pos : Pos}
/-- a def without arguments -/
theorem pe_cG0 (c : CalG X.prog X.w X.K X.mg X.base k x sp) (g : X.A.guards = some []) (hr : Room j X.A) (hk : k ≤ j) (hg : Gl X x := by rfl) (hdb : (x == ("__debug__" : Str)) = false := by decide) :
    PE X (.Call (.Name x p) [] [] pos) (tCall sp [] E0 tNil) := by
  obtain ⟨f, fd, ps, F, hm, hkp, hb⟩ := c
  refine ⟨fun pins s σ H Q I h => wpAny_Call_Name_kw (ld_glob I hg hm ?_ hdb)⟩
  exact PySem.W.callWith_K0 I.kIn hkp (runG (us := []) F g (hr.mono hk) hb .nil pass0 I .nil h)
end
end Gk
namespace Ob
open PySem.Spec PyProof.Rows
/-! ### own classes: defs that keep their promise where no container is being shown -/
section
variable {X : Cx} {CX : CXT} {k : Nat} {f C : Addr} {fd : FuncData} {ps : List Str} {sp : Sp} {E : XK}
/-- nothing is raised there -/
theorem px0 : Passes (L2.CX X.prog X.w) X E0 := fun pins σ H s u s' I z => by
  obtain ⟨_, _, _, _, _, _, _, _, _, _, _, _, z⟩ := z
  exact z.elim
/-- the same goes out -/
theorem pxE {E : XK} (tk : Takes X fun cls d _ H => E cls d H) : Passes (L2.CX X.prog X.w) X E := passes_call tk fun _ _ _ _ h => h
theorem flow {pins : List (Addr × Obj)} {σ : L2.St} {H : Hp} {s : Shared} {Q : VK} {r : Result} {s' : Shared} (hx : Passes CX X E) (I : Inv X pins σ H s) (h : CR CX X.stack X.prog X.w H s Q E r s') : wants (EP X pins σ Q) X.xe r s' := by
  match r, h with
  | .error e, z => exact hx pins σ H s e s' I z
  | .ok (.ret u), z => exact I.after z
  | .ok .next, z => exact z.elim
  | .ok .brk, z => exact z.elim
  | .ok .cont, z => exact z.elim
/-- the call of such a def, A somewhere at this body or one step further in -/
theorem goG {A : Around} {H : Hp} {s : Shared} {Q : VK} {us : List Value} {vs : List V} (F : FnG X.prog X.w X.K X.mg X.base CX k f fd ps sp) (g : A.guards = some []) (hr : Room k A)
    (e0 : Env0 X.prog X.w X.K X.mg X.base A X.stack s H) (kn : X.K.In s.heap) (hb : Binds X.K fd ps []) (r : Vals vs us) (h : sp vs H Q E) :
    codeAny (model X.prog X.w) A (.call (.ref f) ⟨us, []⟩) (CR CX X.stack X.prog X.w H s Q E) s := by
  have lens : (us ++ []).length = ps.length := by rw [List.append_nil]; exact (r.length).symm.trans (F.len _ _ _ _ h)
  have b := hb s us kn lens
  rw [List.append_nil] at b
  exact F.go A g X.stack s H ⟨us, []⟩ us vs Q E hr e0 b r h
/-- a method m of the class at C -/
def MCal (P : Program) (w : World) (K : PySem.W.Frag) (mg : Str → Option Value) (base : Heap) (CX : CXT) (C : Addr) (k : Nat) (m : Str) (sp : Sp) : Prop :=
  ∃ (f : Addr) (fd : FuncData) (ps : List Str), FnG P w K mg base CX k f fd ps sp ∧ Meth K C m f ∧ Binds K fd ps []
section
variable {j : Nat} {m : Str} {o e : Expr} {es : List Expr} {apos pos : Pos} {ta : TE} {t : TA}
theorem meth {pl : Sem Bool} (he : PE X o ta) (c : L2.Cls X.K C) (M : MCal X.prog X.w X.K X.mg X.base CX C k m sp) (g : X.A.guards = some []) (hr : Room j X.A) (hk : k ≤ j) (hx : Passes CX X E) (ha : PA X (e :: es) t)
    (hst : starEach (e :: es) X.env = (false, eval e X.env) :: starEach es X.env := by rfl) (hpl : (backTo pos (starEach es X.env)).any (·.1) = false := by rfl)
    (ht : eval (.Call (.Attribute o m apos) (e :: es) [] pos) X.env = (do
      let ov ← eval o X.env
      standAt apos.atName
      let (f, first) ← holding [ov] (getMethod ov m pl)
      callWith pos f first (backTo pos (starEach (e :: es) X.env)) (backToKw pos (keywordEach [] X.env))) := by rfl) : PE X (.Call (.Attribute o m apos) (e :: es) [] pos) (tMeth C m sp [] E ta t) := by
  obtain ⟨f, fd, ps, F, hm, hb⟩ := M
  refine ⟨fun pins s σ H Q I h => PySem.W.methodCall_KW (pl := pl) (thn (he.run pins s σ H _ I h) fun u s1 ⟨x, H1, I1, rx, a, dx, fs, ex, ea, l, q⟩ => ?_) ht⟩
  subst ex
  obtain rfl : u = Value.ref a := rx
  refine getmeth_ok I1 ea c hm l (PySem.W.callWith_K (first := [.ref a]) (h₀ := X.base) I.ok.mod.kin hm.kp (thn (ha.run pos pins s1 σ H1 _ I1 q) fun us s2 ⟨vs, H2, I2, r, q2⟩ => ⟨I2.kIn, wpAny_call ?_⟩) hst hpl)
  have q2 : sp (V.ref a :: (vs ++ [])) H2 Q E := q2
  rw [List.append_nil] at q2
  exact codeAny_mono (goG F g (hr.mono hk) I2.env0 I2.kIn hb (.cons (show RelV (.ref a) (.ref a) from rfl) r) q2) fun r s' z => flow hx I2 z
theorem meth0 {pl : Sem Bool} (he : PE X o ta) (c : L2.Cls X.K C) (M : MCal X.prog X.w X.K X.mg X.base CX C k m sp) (g : X.A.guards = some []) (hr : Room j X.A) (hk : k ≤ j) (hx : Passes CX X E)
    (ht : eval (.Call (.Attribute o m apos) [] [] pos) X.env = (do
      let ov ← eval o X.env
      standAt apos.atName
      let (f, first) ← holding [ov] (getMethod ov m pl)
      callWith pos f first (backTo pos (starEach [] X.env)) (backToKw pos (keywordEach [] X.env))) := by rfl) : PE X (.Call (.Attribute o m apos) [] [] pos) (tMeth C m sp [] E ta tNil) := by
  obtain ⟨f, fd, ps, F, hm, hb⟩ := M
  refine ⟨fun pins s σ H Q I h => PySem.W.methodCall_KW (pl := pl) (thn (he.run pins s σ H _ I h) fun u s1 ⟨x, H1, I1, rx, a, dx, fs, ex, ea, l, q⟩ => ?_) ht⟩
  subst ex
  obtain rfl : u = Value.ref a := rx
  refine getmeth_ok I1 ea c hm l (PySem.W.callWith_K0 (first := [.ref a]) I1.kIn hm.kp (wpAny_call ?_))
  exact codeAny_mono (goG F g (hr.mono hk) I1.env0 I1.kIn hb (.cons (show RelV (.ref a) (.ref a) from rfl) .nil) q) fun r s' z => flow hx I1 z
end
/-- C() -/
def MkCal (P : Program) (w : World) (K : PySem.W.Frag) (mg : Str → Option Value) (base : Heap) (CX : CXT) (C : Addr) (k : Nat) (x : Str) (sp : Sp) : Prop :=
  ∃ (f : Addr) (fd : FuncData) (ps : List Str), FnG P w K mg base CX k f fd ps sp ∧ Mk K C f ∧ Binds K fd ps [] ∧ mg x = some (.ref C)
theorem guards_make {A : Around} {us : List Value} {kw : List (Str × Value)} : (A.under (.builtin "type.__call__" ⟨.ref C :: us, kw⟩)).guards = A.guards := by
  first
  | rfl
  | simp [Around.under, Code.isGuard, guardIds]
theorem runMk {pins : List (Addr × Obj)} {σ : L2.St} {H : Hp} {s : Shared} {Q : VK} {us : List Value} {vs : List V} (M : Mk X.K C f) (F : FnG X.prog X.w X.K X.mg X.base CX k f fd ps sp) (g : X.A.guards = some []) (hr : Room (k + 1) X.A) (hb : Binds X.K fd ps [])
    (hx : Passes CX X E) (I : Inv X pins σ H s) (r : Vals vs us)
    (h : ∀ x dx, H x = none → H dx = none → dx ≠ x → sp (.ref x :: (vs ++ [])) (upd (upd H dx (.own x)) x (.ins C dx [])) (fun v H2 => v = .non ∧ Q (.ref x) H2) E) :
    wpAny (model X.prog X.w) X.A (call (.ref C) us) (EP X pins σ Q) X.xe s := by
  have hq := h (s.heap.objs.size + 1) s.heap.objs.size (I.hok.fresh (Nat.le_succ _)) (I.hok.fresh (Nat.le_refl _)) (Nat.ne_of_lt (Nat.lt_succ_self _))
  rw [List.append_nil] at hq
  have I2 := Inv.made (C := C) I
  have run := goG F (A := X.A.under (.builtin "type.__call__" ⟨.ref C :: us, []⟩)) (guards_make.trans g) (hr.make C us []) (I2.env0.make C us []) I2.kIn hb (.cons (show RelV (.ref (s.heap.objs.size + 1)) (.ref (s.heap.objs.size + 1)) from rfl) r) hq
  refine wpAny_call (make_map (f := f) I.kIn M.makes M.init (beq_iff_eq.mp M.fn) (codeAny_mono run fun r s' hq' => ?_))
  match r, hq' with
  | .error e, z => exact hx pins σ _ _ e s' I2 z
  | .ok .next, z => exact z.elim
  | .ok .brk, z => exact z.elim
  | .ok .cont, z => exact z.elim
  | .ok (.ret u), z =>
    obtain ⟨v, H', I3, rv, ev, q3⟩ := I2.after z
    subst ev
    exact ⟨rv, ⟨V.ref (s.heap.objs.size + 1), H', I3, rfl, q3⟩⟩
section
variable {j : Nat} {x : Str} {e : Expr} {es : List Expr} {p pos : Pos} {t : TA}
theorem make (M : MkCal X.prog X.w X.K X.mg X.base CX C k x sp) (gd : X.A.guards = some []) (hr : Room j X.A) (hk : k + 1 ≤ j) (hx : Passes CX X E) (ha : PA X (e :: es) t) (hg : Gl X x := by rfl)
    (hdb : (x == ("__debug__" : Str)) = false := by decide) (he : starEach (e :: es) X.env = (false, eval e X.env) :: starEach es X.env := by rfl) (hpl : (backTo pos (starEach es X.env)).any (·.1) = false := by rfl) :
    PE X (.Call (.Name x p) (e :: es) [] pos) (tMake C sp [] E t) := by
  obtain ⟨f, fd, ps, F, M, hb, hm⟩ := M
  refine ⟨fun pins s σ H Q I h => wpAny_Call_Name_kw (ld_glob I hg hm ?_ hdb)⟩
  exact PySem.W.callWith_K (h₀ := X.base) I.ok.mod.kin M.kp (thn (ha.run pos pins s σ H _ I h) fun us s1 ⟨vs, H1, I1, r, q⟩ => ⟨I1.kIn, runMk M F gd (hr.mono hk) hb hx I1 r q⟩) he hpl
theorem make0 (M : MkCal X.prog X.w X.K X.mg X.base CX C k x sp) (gd : X.A.guards = some []) (hr : Room j X.A) (hk : k + 1 ≤ j) (hx : Passes CX X E) (hg : Gl X x := by rfl)
    (hdb : (x == ("__debug__" : Str)) = false := by decide) : PE X (.Call (.Name x p) [] [] pos) (tMake C sp [] E tNil) := by
  obtain ⟨f, fd, ps, F, M, hb, hm⟩ := M
  refine ⟨fun pins s σ H Q I h => wpAny_Call_Name_kw (ld_glob I hg hm ?_ hdb)⟩
  exact PySem.W.callWith_K0 I.kIn M.kp (runMk (us := []) M F gd (hr.mono hk) hb hx I .nil h)
end
/-- a property, read -/
def PCal (P : Program) (w : World) (K : PySem.W.Frag) (mg : Str → Option Value) (base : Heap) (CX : CXT) (C : Addr) (k : Nat) (m : Str) (sp : Sp) : Prop :=
  ∃ (p f : Addr) (fd : FuncData) (ps : List Str), FnG P w K mg base CX k f fd ps sp ∧ PropOf K C m p f ∧ Binds K fd ps []
theorem prop {m : Str} {e : Expr} {pos : Pos} {ta : TE} {j : Nat} (he : PE X e ta) (c : L2.Cls X.K C) (M : PCal X.prog X.w X.K X.mg X.base CX C k m sp) (g : X.A.guards = some []) (hr : Room j X.A) (hk : k + 1 ≤ j) (hx : Passes CX X.nox E)
    (hab : attributeBase e m X.env (eval e X.env) = eval e X.env := by rfl) : PE X (.Attribute e m pos) (tProp C sp [] E ta) := by
  obtain ⟨p, f, fd, ps, F, hp, hb⟩ := M
  refine ⟨fun pins s σ H Q I h => attr_of hab (thn (he.run pins s σ H _ I h) fun u s1 ⟨x, H1, I1, rx, a, dx, fs, ex, ea, q⟩ => ?_)⟩
  subst ex
  obtain rfl : u = Value.ref a := rx
  obtain ⟨mA, O, _, _, _, _⟩ := ins_get I1.hok ea
  obtain ⟨od, J, _⟩ := O.look
  obtain ⟨rest, hrec⟩ := hp.rec_
  have I3 := I1.tok (s1.toks + 1)
  have hc : (PySem.W.clsIn X.K C).isSome = true := by
    obtain ⟨cd, hc, _⟩ := PySem.W.any_some c.hd
    rw [hc]
    rfl
  refine PySem.W.get_bind I1.kIn J (PySem.W.plainGet_of (c.get m)).1 (PySem.W.findObj_data hc hp.at_ hp.get hp.tak) (PySem.W.plainGet_of (c.get m)).2 (wpAny_call (PySem.W.prop_get (s := { s1 with toks := s1.toks + 1 }) I1.kIn hrec ?_))
  refine codeAny_mono (goG F (A := X.A.in1) g (hr.mono hk).in1 I3.env0.in1 I3.kIn hb (.cons (show RelV (.ref a) (.ref a) from rfl) .nil) q) fun r s' z => ?_
  match r, z with
  | .error er, z => exact (show False from hx pins σ H1 { s1 with toks := s1.toks + 1 } er s' (I3.wish _) z).elim
  | .ok .next, z => exact z.elim
  | .ok .brk, z => exact z.elim
  | .ok .cont, z => exact z.elim
  | .ok (.ret u), z =>
    obtain ⟨v, H', I4, rv, q3⟩ := I3.after z
    show wpAny _ _ (handedOut u) _ _ _
    rw [PySem.W.handedOut_of (handed_of rv)]
    exact wpAny_pure ⟨v, H', I4, rv, q3⟩
/-! ### static methods, read off the class -/
structure CSta (K : PySem.W.Frag) (C : Addr) (mc : Value) (m : Str) (p g : Addr) : Prop where
  rd : PySem.W.readsIn K C mc = true
  ga : PySem.W.specialIn K (.ref C) "__getattribute__" = some (some (.builtin "type.__getattribute__"))
  at_ : PySem.W.findCls K (.ref C) mc m = some (.get (.builtin "staticmethod.__get__") (.ref p) .none (.ref C))
  rc : ∃ rest, PySem.W.recIn K p "staticmethod" = some (.ref g :: rest)
  kp : PySem.W.keepIn K (.ref g) = true
def SCal (P : Program) (w : World) (K : PySem.W.Frag) (mg : Str → Option Value) (base : Heap) (CX : CXT) (C : Addr) (k : Nat) (m : Str) (sp : Sp) : Prop :=
  ∃ (p f : Addr) (fd : FuncData) (ps : List Str) (mc : Value), FnG P w K mg base CX k f fd ps sp ∧ CSta K C mc m p f ∧ Binds K fd ps []
def tStat (C : Addr) (sp : Sp) (E : XK) (ta : TE) : TE := fun σ H Q => ta σ H fun x H1 => x = .ref C ∧ sp [] H1 Q E
theorem stat0 {m : Str} {o : Expr} {apos pos : Pos} {ta : TE} {j : Nat} {pl : Sem Bool} (he : PE X o ta) (M : SCal X.prog X.w X.K X.mg X.base CX C k m sp) (g : X.A.guards = some []) (hr : Room j X.A) (hk : k ≤ j) (hx : Passes CX X E)
    (ht : eval (.Call (.Attribute o m apos) [] [] pos) X.env = (do
      let ov ← eval o X.env
      standAt apos.atName
      let (f, first) ← holding [ov] (getMethod ov m pl)
      callWith pos f first (backTo pos (starEach [] X.env)) (backToKw pos (keywordEach [] X.env))) := by rfl) : PE X (.Call (.Attribute o m apos) [] [] pos) (tStat C sp E ta) := by
  obtain ⟨p, f, fd, ps, mc, F, cs, hb⟩ := M
  obtain ⟨rest, hp⟩ := cs.rc
  refine ⟨fun pins s σ H Q I h => PySem.W.methodCall_KW (pl := pl) (thn (he.run pins s σ H _ I h) fun u s1 ⟨x, H1, I1, rx, ex, q⟩ => ?_) ht⟩
  subst ex
  obtain rfl : u = Value.ref C := rx
  have I2 := I1.tok (s1.toks + 1)
  refine PySem.W.method_cls I1.kIn cs.ga (PySem.W.cls_bind I1.kIn cs.rd cs.at_ (wpAny_call (PySem.W.sm_get (s := { s1 with toks := s1.toks + 1 }) I1.kIn hp (PySem.W.handed_on rfl ?_))))
  refine PySem.W.callWith_K0 (first := []) I2.kIn cs.kp (wpAny_call ?_)
  exact codeAny_mono (goG F g (hr.mono hk) I2.env0 I2.kIn hb .nil q) fun r s' z => flow hx I2 z
end
end Ob
/-! special methods of own classes, called by signs: x[k], x[k] = v, len(x), ==, != -/
namespace Ow
open PySem.Spec PyProof.Rows PySem.W
/-- the method m of the class at C is the def at g -/
structure SpM (K : Frag) (C : Addr) (m : Str) (g : Addr) : Prop where
  at_ : findIn K (.ref C) m = some (some (.ref g))
  fn : typeIn K (.ref g) = some (.type "function")
/-- instances of the class at C are no deques -/
def NoDq (K : Frag) (C : Addr) : Prop := subIn K (.ref C) (.type "collections.deque") = some false
section
variable {prog : Program} {w : World} {A : Around} {E : Value → Shared → Prop} {s : Shared} {a C g : Addr} {K : Frag} {m : Str} {o : Obj}
theorem special (hk : K.In s.heap) (ho : s.heap.get? a = some o) (hc : o.cls = .ref C) (h : SpM K C m g) {args : List Value} {Q : Option Value → Shared → Prop}
    (k : wpAny (model prog w) A (call (.ref g) (.ref a :: args)) (fun v => Q (some v)) E s) : wpAny (model prog w) A (callSpecial? (.ref a) m args) Q E s := by
  unfold callSpecial? specialOf
  refine wpAny_bind (wpAny_bind (wpAny_typeOf_ref ho ?_))
  rw [hc]
  refine looks_findIn (M := model prog w) hk h.at_ A _ E s (fun _ _ e => e) ?_
  refine wpAny_holding ?_
  refine wpAny_bind (bind_fn (M := model prog w) hk (.ref a) h.fn A _ E s (fun _ _ e => e) ?_)
  exact wpAny_bind (wpAny_mono k (fun v s' q => wpAny_pure q) fun _ _ z => z)
theorem seqKey (hk : K.In s.heap) (ho : s.heap.get? a = some o) (hc : o.cls = .ref C) (hd : NoDq K C) {i : Value} {Q : Value → Shared → Prop} (q : Q i s) : wpAny (model prog w) A (sequenceKey (.ref a) i m) Q E s := by
  unfold sequenceKey
  refine wpAny_bind (wpAny_typeOf_ref ho ?_)
  rw [hc]
  show wpAny _ _ (List.anyM (fun n => isSubtype (.ref C) (.type n)) ["collections.deque"] >>= _) _ _ _
  refine wpAny_bind ?_
  show wpAny _ _ (isSubtype (.ref C) (.type "collections.deque") >>= _) _ _ _
  refine wpAny_bind (looks_subIn (M := model prog w) hk hd A _ E s (fun _ _ e => e) ?_)
  exact wpAny_pure (wpAny_pure q)
theorem get_own (hk : K.In s.heap) (ho : s.heap.get? a = some o) (hc : o.cls = .ref C) (hd : NoDq K C) (h : SpM K C "__getitem__" g) {i : Value} {Q : Value → Shared → Prop}
    (k : wpAny (model prog w) A (call (.ref g) [.ref a, i]) Q E s) : wpAny (model prog w) A (getItem (.ref a) i) Q E s := by
  unfold getItem
  refine wpAny_holding ?_
  refine wpAny_bind (seqKey hk ho hc hd ?_)
  refine wpAny_bind (special hk ho hc h ?_)
  exact wpAny_mono k (fun v s' q => wpAny_pure q) fun _ _ z => z
theorem set_own (hk : K.In s.heap) (ho : s.heap.get? a = some o) (hc : o.cls = .ref C) (hd : NoDq K C) (h : SpM K C "__setitem__" g) {i v : Value} {Q : Unit → Shared → Prop}
    (k : wpAny (model prog w) A (call (.ref g) [.ref a, i, v]) (fun _ => Q ()) E s) : wpAny (model prog w) A (setItem (.ref a) i v) Q E s := by
  unfold setItem
  refine wpAny_holding ?_
  refine wpAny_bind (seqKey hk ho hc hd ?_)
  refine wpAny_bind (special hk ho hc h ?_)
  exact wpAny_mono k (fun v s' q => wpAny_pure q) fun _ _ z => z
end
section
open L2
variable {X : Cx} {CX : CXT} {k : Nat} {g C : Addr} {fd : FuncData} {ps : List Str} {sp : Sp} {E : XK}
/-- a def called one step further in (by a built-in) -/
theorem runG1 {dvs : List V} {ds : List Value} {pins : List (Addr × Obj)} {σ : L2.St} {H : Hp} {s : Shared} {Q : VK} {us : List Value} {vs : List V} (F : FnG X.prog X.w X.K X.mg X.base CX k g fd ps sp) (gd : X.A.guards = some []) (hr : Room (k + 1) X.A)
    (hb : Binds X.K fd ps ds) (hd : Vals dvs ds) (hx : Passes CX X E) (I : Inv X pins σ H s) (r : Vals vs us) (h : sp (vs ++ dvs) H Q E) : wpAny (model X.prog X.w) X.A.in1 (call (.ref g) us) (EP X pins σ Q) X.xe s := by
  have rr := r.append hd
  have lens := (rr.length).symm.trans (F.len (vs ++ dvs) H Q E h)
  have body := F.go X.A.in1 gd X.stack s H ⟨us, []⟩ (us ++ ds) (vs ++ dvs) Q E hr.in1 I.env0.in1 (hb s us I.kIn lens) rr h
  refine wpAny_call (codeAny_mono body ?_)
  intro res s' hres
  match res, hres with
  | .error e, z => exact hx pins σ H s e s' I z
  | .ok (.ret u), z => exact I.after z
  | .ok .next, z => exact z.elim
  | .ok .brk, z => exact z.elim
  | .ok .cont, z => exact z.elim
/-- what a method called by a sign asks of its class -/
structure SpC (K : Frag) (C : Addr) (m : Str) (g : Addr) : Prop where
  sp : SpM K C m g
  dq : NoDq K C
  fi : fnIn K g = true
theorem instAt {pins : List (Addr × Obj)} {σ : L2.St} {H : Hp} {s : Shared} (I : Inv X pins σ H s) {a dx : Addr} {fs : List (Str × V)} (ha : H a = some (.ins C dx fs)) : ∃ od, W.InstAt s.heap a (W.instObj C dx) C (some od) := by
  obtain ⟨_, _, _, ho, mA, hns, _⟩ := I.hok a _ ha
  obtain ⟨od, hd, _⟩ := lookIn_ns hns
  exact ⟨od, ho, rfl, rfl, hd⟩
def tGetO (C : Addr) (sp : Sp) (E : XK) (ta tb : TE) : TE := fun σ H Q => ta σ H fun x H1 => tb σ H1 fun y H2 => ∃ a dx fs, x = .ref a ∧ H2 a = some (.ins C dx fs) ∧ sp [.ref a, y] H2 Q E
theorem pe_getO {a b : Expr} {ta tb : TE} {pos : Pos} (S : SpC X.K C "__getitem__" g) (F : FnG X.prog X.w X.K X.mg X.base CX k g fd ps sp) (gd : X.A.guards = some []) (hr : Room (k + 1) X.A) (hb : Binds X.K fd ps []) (hx : Passes CX X E) (ha : PE X a ta) (hb' : PE X b tb)
    (hs : ∀ (o i : Value), subscripted b true o i = runValue (.builtin "lifetime.subscript" ⟨[o, i], []⟩)) : PE X (.Subscript a b pos) (tGetO C sp E ta tb) := by
  refine ⟨fun pins s σ H Q I h => Subscript_ (binT ha hb' I h fun v u s2 x y H2 I2 rx ry q => ?_)⟩
  obtain ⟨p, dx, fs, rfl, hp, q⟩ := q
  obtain rfl : v = Value.ref p := rx
  obtain ⟨m, fr⟩ := I2.fr
  obtain ⟨od, J⟩ := instAt I2 hp
  have isf : isFn X.K (.ref g) = true := by show (typeIn X.K (.ref g) == some (.type "function")) = true; rw [S.sp.fn] <;> rfl
  exact sub_K fr I2.ok.mod.kin J S.sp.at_ S.fi isf (runG1 (dvs := []) F gd hr hb .nil hx I2 (.cons (show RelV (.ref p) (.ref p) from rfl) (.cons ry .nil)) q) (hs _ _)
def rSetO (C : Addr) (sp : Sp) (E : XK) : TSet := fun o i v H Q => ∃ a dx fs, o = .ref a ∧ H a = some (.ins C dx fs) ∧ sp [.ref a, i, v] H (fun _ H' => Q H') E
theorem set_ownR (S : SpC X.K C "__setitem__" g) (F : FnG X.prog X.w X.K X.mg X.base CX k g fd ps sp) (gd : X.A.guards = some []) (hr : Room k X.A) (hb : Binds X.K fd ps []) (hx : Passes CX X E) : PSet X (rSetO C sp E) := by
  intro pins s σ H o i v ov iv u Q I ro ri rv h
  obtain ⟨p, dx, fs, rfl, hp, q⟩ := h
  obtain rfl : ov = Value.ref p := ro
  obtain ⟨_, _, _, ho, _⟩ := I.hok p _ hp
  refine set_own I.kIn ho rfl S.dq S.sp ?_
  refine wpAny_mono (runG (dvs := []) F gd hr hb .nil hx I (.cons (show RelV (.ref p) (.ref p) from rfl) (.cons ri (.cons rv .nil))) q) ?_ (fun _ _ z => z)
  rintro r s' ⟨w, H', I', _, q'⟩
  exact ⟨H', I', q'⟩
end
end Ow
namespace Rd
open PySem.Spec PyProof.Rows
section
variable {K : PySem.W.Frag} {σ : L2.St} {H H' : Hp} {α β : Type}
theorem tupS {a : Addr} {xs : List V} (s : Same H H') (h : SqT K H a xs) : SqT K H' a xs := h.imp (fun r => r.imp (s _ _) (fun ⟨o, e⟩ => ⟨o, s _ _ e⟩)) id
theorem lcW {tl te : TE} {g : TG} {tt : TT} {vs : List Nat} {Q : VK} (k : tl σ H fun x H1 => tLc (iTup K (tC x)) g tt te vs σ H1 Q) : tLc (iTup K tl) g tt te vs σ H Q := k
/-- a comprehension over a tuple of things -/
theorem lcT {tl te : TE} {tt : TT} {vs : List Nat} {j : Nat} {Q : VK} {a : Addr} {xs : List V} {bs : List α} (A : α → V → Hp → Prop) (B : β → V → Hp → Prop) (f : α → Bool) (g : α → β)
    (htl : ∀ R : V → Hp → Prop, R (.ref a) H → tl σ H R) (hl : SqT K H a xs) (hA : Stays A) (hB : Stays B) (pr : Paired (fun b x => A b x H) bs xs) (hz : xs.length ≤ 10000)
    (hw : ∀ x, wipe ((wipe σ vs).set j (some x)) vs = wipe σ vs)
    (turn : ∀ b x H1 (R : Bool → Hp → Prop), b ∈ bs → A b x H → A b x H1 → Same H H1 → (∀ H2, Same H1 H2 → R (f b) H2) → tt ((wipe σ vs).set j (some x)) H1 R)
    (elem : ∀ b x H1 (R : VK), b ∈ bs → f b = true → A b x H → A b x H1 → Same H H1 → (∀ y H2, Same H1 H2 → Off H H1 H2 (B (g b)) y → R y H2) → te ((wipe σ vs).set j (some x)) H1 R)
    (fin : ∀ D ys H1, H D = none → Same H H1 → H1 D = some (.lst ys) → Paired (fun c y => B c y H1) ((bs.filter f).map g) ys → Q (.ref D) H1) :
    tLc (iTup K tl) (gName j) tt te vs σ H Q := by
  have hlen := pair_len pr
  refine htl _ ⟨a, rfl, ⟨xs, hl⟩, fun D hD => ?_⟩
  refine lc_tup (K := K) (a := a) (xs := xs) (fun i H1 => ∃ ys, H1 D = some (.lst ys) ∧ ys.length ≤ i ∧ Same H H1 ∧ ∀ o, Paired (fun c y => B c y (upd H1 D o)) (((bs.take i).filter f).map g) ys) ?_ ?_ ?_ ?_
  · exact ⟨[], upd_same, Nat.le_refl _, sNew hD, fun _ => .nil⟩
  · rintro i H1 hi ⟨ys, _, _, s, _⟩
    exact tupS s hl
  · rintro i x H1 hx ⟨ys, hd, hy, s, pq⟩
    have hi : i < xs.length := (List.getElem?_eq_some_iff.mp hx).1
    obtain ⟨b, hb, hab⟩ := pair_get pr hx
    have mem : b ∈ bs := List.mem_of_getElem? hb
    have tk : bs.take (i + 1) = bs.take i ++ [b] := take_succ hb
    show wipe ((wipe σ vs).set j (some x)) vs = wipe σ vs ∧ _
    refine ⟨hw x, turn b x H1 _ mem hab (hA _ _ _ _ s hab) s fun H2 s2 => ?_⟩
    cases hf : f b with
    | false =>
      rw [if_neg Bool.false_ne_true]
      refine ⟨ys, s2 _ _ hd, by omega, s.trans s2, fun o => ?_⟩
      rw [tk, List.filter_append, List.filter_cons_of_neg (by simp [hf]), List.filter_nil, List.append_nil]
      exact pair_imp (fun c y => hB c y _ _ (sUpd s2)) (pq o)
    | true =>
      rw [if_pos rfl]
      refine elem b x H2 _ mem hf hab (hA _ _ _ _ (s.trans s2) hab) (s.trans s2) fun y H3 s3 hy3 => ?_
      have hd3 := s3 _ _ (s2 _ _ hd)
      have s4 : Same H H3 := (s.trans s2).trans s3
      refine ⟨ys, hd3, szl (by omega), ys ++ [y], upd_same, by rw [List.length_append]; simp; omega, sMut s4 hD, fun o => ?_⟩
      rw [tk, List.filter_append, List.filter_cons_of_pos (by simp [hf]), List.filter_nil, List.map_append, upd_upd]
      exact (pair_imp (fun c z h => hB c z _ _ (sUpd (s2.trans s3)) h) (pq o)).snoc (hy3 D o hD (by rw [s2 _ _ hd]; simp))
  · rintro H1 ⟨ys, hd, hy, s, pq⟩
    refine fin D ys H1 hD s hd ?_
    have pq := pq (.lst ys)
    rw [← hlen, List.take_length, upd_id hd] at pq
    exact pq
end
end Rd
namespace Dt
open PyProof.Rows W6
def dS (r : List Str) : PyData := .list (r.map PyData.str)
def dR (rows : List (List Str)) : PyData := .list (rows.map dS)
def dO : Option (List Str) → PyData
  | none => .none
  | some l => dS l
/-- texts as the laws make them -/
structure Ts (r : List Str) : Prop where
  n : r.length ≤ 100
  w : ∀ w ∈ r, W 100 w
structure Rs (rows : List (List Str)) : Prop where
  n : rows.length ≤ 100
  r : ∀ r ∈ rows, Ts r
theorem strOk_of {n : Nat} {w : Str} (h : W n w) : PyData.strOk w = true := by
  unfold PyData.strOk
  rw [Array.all_eq_true']
  intro c hc
  have := h.low c (by simpa using hc)
  exact decide_eq_true (by omega)
theorem lay_strs : ∀ {r : List Str}, (∀ w ∈ r, W 100 w) → PyData.canLayAll0 (r.map PyData.str) = true
  | [], _ => rfl
  | a :: r, h => by
    have := strOk_of (h a (by simp))
    simp [PyData.canLayAll0, PyData.canLay0, this, lay_strs (r := r) fun w hw => h w (by simp [hw])]
theorem lay_rows : ∀ {rows : List (List Str)}, (∀ r ∈ rows, Ts r) → PyData.canLayAll0 (rows.map dS) = true
  | [], _ => rfl
  | a :: r, h => by
    have := lay_strs (h a (by simp)).w
    simp [PyData.canLayAll0, PyData.canLay0, dS, this]
    exact lay_rows (rows := r) fun w hw => h w (by simp [hw])
theorem dep_strs : ∀ r : List Str, PyData.depthAll (r.map PyData.str) ≤ 1
  | [] => by simp [PyData.depthAll]
  | a :: r => by simp [PyData.depthAll, PyData.depth]; exact dep_strs r
theorem dep_rows : ∀ rows : List (List Str), PyData.depthAll (rows.map dS) ≤ 2
  | [] => by simp [PyData.depthAll]
  | a :: r => by
    have := dep_rows r
    have := dep_strs a
    simp [PyData.depthAll, PyData.depth, dS]
    omega
theorem shaped_dS {r : List Str} (h : ∀ w ∈ r, W 100 w) : SeqAt.shaped (dS r) = true := by
  have := dep_strs r
  simp [SeqAt.shaped, dS, PyData.canLay0, lay_strs h, PyData.depth]
  omega
theorem shaped_dR {r : List (List Str)} (h : ∀ x ∈ r, Ts x) : SeqAt.shaped (dR r) = true := by
  have := dep_rows r
  simp [SeqAt.shaped, dR, PyData.canLay0, lay_rows h, PyData.depth]
  omega
theorem shaped_dO {o : Option (List Str)} (h : ∀ l, o = some l → ∀ w ∈ l, W 100 w) : SeqAt.shaped (dO o) = true := by
  cases o with
  | none => rfl
  | some l => exact shaped_dS (h l rfl)
theorem show_strs : ∀ r : List Str, PyData.showableAll (r.map PyData.str) = true
  | [] => rfl
  | a :: r => by simp [PyData.showableAll, PyData.showable, show_strs r]
theorem show_rows : ∀ rows : List (List Str), PyData.showableAll (rows.map dS) = true
  | [] => rfl
  | a :: r => by simp [PyData.showableAll, PyData.showable, dS, show_strs]; exact show_rows r
theorem nodict_strs : ∀ r : List Str, PyData.hasDictAll (r.map PyData.str) = false
  | [] => rfl
  | a :: r => by simp [PyData.hasDictAll, PyData.hasDict, nodict_strs r]
theorem nodict_rows : ∀ rows : List (List Str), PyData.hasDictAll (rows.map dS) = false
  | [] => rfl
  | a :: r => by simp [PyData.hasDictAll, PyData.hasDict, dS, nodict_strs]; exact nodict_rows r
theorem show_dR (r : List (List Str)) : (dR r).showable = true := by simp [dR, PyData.showable, show_rows]
theorem nodict_dR (r : List (List Str)) : (dR r).hasDict = false := by simp [dR, PyData.hasDict, nodict_rows]
theorem deep_dR (r : List (List Str)) : (dR r).depth ≤ 60 := by
  have := dep_rows r
  simp [dR, PyData.depth]
  omega
theorem show_dO (o : Option (List Str)) : (dO o).showable = true := by
  cases o with
  | none => rfl
  | some l => simp [dO, dS, PyData.showable, show_strs]
theorem nodict_dO (o : Option (List Str)) : (dO o).hasDict = false := by
  cases o with
  | none => rfl
  | some l => simp [dO, dS, PyData.hasDict, nodict_strs]
theorem deep_dO (o : Option (List Str)) : (dO o).depth ≤ 60 := by
  cases o with
  | none => simp [dO, PyData.depth]
  | some l =>
    have := dep_strs l
    simp [dO, dS, PyData.depth]
    omega
theorem from_le : ∀ (ts : List Str) (k : Nat) (acc : Str), (textFrom k acc ts).length ≤ acc.length + (ts.map fun t => t.length + 2).sum
  | [], k, acc => Nat.le_refl _
  | t :: r, k, acc => by
    have ih := from_le r (k + 1) (acc ++ (if k > 0 then ", " else "" : String) ++ t)
    have e : (acc ++ (if k > 0 then ", " else "" : String) ++ t).length ≤ acc.length + 2 + t.length := by
      rw [strLen_append, strLen_append]
      have : (Str.ofString (if k > 0 then ", " else "")).length ≤ 2 := by split <;> decide +kernel
      omega
    rw [List.map_cons, List.sum_cons]
    show (textFrom (k + 1) _ r).length ≤ _
    omega
theorem list_le {ts : List Str} {m : Nat} (h : ∀ t ∈ ts, t.length + 2 ≤ m) : (listText ts).length ≤ 2 + ts.length * m := by
  have s : ∀ l : List Str, (∀ t ∈ l, t.length + 2 ≤ m) → (l.map fun t => t.length + 2).sum ≤ l.length * m := by
    intro l
    induction l with
    | nil => intro _; simp
    | cons a l ih =>
      intro h
      have h1 := h a (by simp)
      have h2 := ih fun t ht => h t (by simp [ht])
      simp only [List.map_cons, List.sum_cons, List.length_cons, Nat.succ_mul]
      omega
  have a := from_le ts 0 "["
  have b := s ts h
  have e : (listText ts).length = (textFrom 0 "[" ts).length + 1 := by
    unfold listText
    rw [strLen_append]
    rfl
  have e1 : Str.length "[" = 1 := by decide +kernel
  omega
theorem shownAll_map : ∀ ds : List PyData, PyData.shownAll ds = ds.map PyData.shown
  | [] => rfl
  | d :: ds => by rw [PyData.shownAll, shownAll_map ds]; rfl
theorem shown_str {w : Str} (h : W 100 w) : (PyData.shown (.str w)).length ≤ 1002 := by
  have := StrLaws.reprText_len w fun c hc => Nat.lt_of_lt_of_le (h.low c hc) (by decide)
  have := h.len
  rw [PyData.shown]
  omega
theorem shown_dS {r : List Str} (h : Ts r) : (dS r).shown.length ≤ 100402 := by
  unfold dS
  rw [PyData.shown, shownAll_map]
  have := list_le (ts := (r.map PyData.str).map PyData.shown) (m := 1004) (by
    intro t ht
    simp only [List.map_map, List.mem_map, Function.comp] at ht
    obtain ⟨w, hw, rfl⟩ := ht
    have := shown_str (h.w w hw)
    omega)
  rw [List.length_map, List.length_map] at this
  have := h.n
  omega
theorem shown_dR {rows : List (List Str)} (h : Rs rows) : (dR rows).shown.length ≤ sizeLine := by
  unfold dR
  rw [PyData.shown, shownAll_map]
  have := list_le (ts := (rows.map dS).map PyData.shown) (m := 100404) (by
    intro t ht
    simp only [List.map_map, List.mem_map, Function.comp] at ht
    obtain ⟨w, hw, rfl⟩ := ht
    have := shown_dS (h.r w hw)
    omega)
  rw [List.length_map, List.length_map] at this
  have := h.n
  have e : sizeLine = 16777216 := sizeLine_eq
  omega
theorem eqv_strs : ∀ a b : List Str, PyData.eqvAll (a.map PyData.str) (b.map PyData.str) = decide (a = b)
  | [], [] => rfl
  | [], _ :: _ => by simp [PyData.eqvAll]
  | _ :: _, [] => by simp [PyData.eqvAll]
  | x :: a, y :: b => by
    have ih := eqv_strs a b
    simp only [List.map_cons, PyData.eqvAll, PyData.eqv, ih]
    by_cases e : x = y
    · subst e; simp
    · simp [e]
theorem eqv_dS (a b : List Str) : PyData.eqv (dS a) (dS b) = decide (a = b) := by
  show PyData.eqv (.list _) (.list _) = _
  rw [PyData.eqv, eqv_strs]
theorem eqv_rows : ∀ a b : List (List Str), PyData.eqvAll (a.map dS) (b.map dS) = decide (a = b)
  | [], [] => rfl
  | [], _ :: _ => by simp [PyData.eqvAll]
  | _ :: _, [] => by simp [PyData.eqvAll]
  | x :: a, y :: b => by
    have ih := eqv_rows a b
    simp only [List.map_cons, PyData.eqvAll, eqv_dS, ih]
    by_cases e : x = y
    · subst e; simp
    · simp [e]
theorem eqv_dR (a b : List (List Str)) : PyData.eqv (dR a) (dR b) = decide (a = b) := by
  show PyData.eqv (.list _) (.list _) = _
  rw [PyData.eqv, eqv_rows]
theorem eqv_dO (a b : Option (List Str)) : PyData.eqv (dO a) (dO b) = decide (a = b) := by
  cases a with
  | none =>
    cases b with
    | none => rfl
    | some l => show PyData.eqv .none (.list _) = _; simp [PyData.eqv]
  | some k =>
    cases b with
    | none => show PyData.eqv (.list _) .none = _; simp [PyData.eqv]
    | some l => rw [show dO (some k) = dS k from rfl, show dO (some l) = dS l from rfl, eqv_dS]; simp
section
variable {K : PySem.W.Frag} {H : Hp}
theorem dp_strs : ∀ r : List Str, DpAll K H (r.map V.str) (r.map PyData.str)
  | [] => .nil
  | a :: r => .cons (.str a) (dp_strs r)
theorem dp_S {p : Addr} {r : List Str} (h : SqL K H p (r.map V.str)) : Dp K H (.ref p) (dS r) := .lst h (dp_strs r)
end
theorem shown_dO {o : Option (List Str)} (h : ∀ l, o = some l → Ts l) : (dO o).shown.length ≤ sizeLine := by
  cases o with
  | none => show (PyData.shown .none).length ≤ _; rw [PyData.shown]; exact Nat.le_trans (by decide +kernel : Str.length "None" ≤ 4) (by decide)
  | some l => exact Nat.le_trans (shown_dS (h l rfl)) (by decide)
end Dt
/-! == and != of an instance of an own class, by its own __eq__, and len by its own __len__ -/
namespace Ob
open PySem.Spec PyProof.Rows
section
variable {prog : Program} {w : World} {A : Around} {E : Value → Shared → Prop} {s : Shared} {K : PySem.W.Frag} {x C f L : Addr} {tb b : Value} {h₀ : Heap} {m : Str → Option Value} {ox : Obj} {od : Option Obj}
/-- the outcome of == as != asks it -/
def NeBack (Q : Value → Shared → Prop) (v : Value) (s' : Shared) : Prop := ∃ c : Bool, v = .bool c ∧ Q (.bool (!c)) s'
theorem ne_entry {Q : Fin → Shared → Prop} (hu : A.units < cLine) (X : K.In s.heap) (I : PySem.W.InstAt s.heap x ox C od) (hs : PySem.W.findIn K (.ref C) "__eq__" = some (some (.ref f))) (hf : PySem.W.isFn K (.ref f) = true)
    (h : wpAny (model prog w) A (call (.ref f) [.ref x, b]) (fun v s' => ∃ c : Bool, v = .bool c ∧ Q (.done (.ret (.bool (!c)))) s') E s) : wpAny (model prog w) A (Builtin.«object.__ne__» ⟨[.ref x, b], []⟩) Q E s := by
  unfold Builtin.«object.__ne__»
  refine wpAny_bind (wpAny_pure (wpAny_bind (wpAny_cRoomFor hu ?_)))
  refine wpAny_bind (PySem.W.ifBound_K X I hs hf (wpAny_mono h (fun v s' z => ?_) fun _ _ e => e))
  obtain ⟨c, rfl, q⟩ := z
  show wpAny _ _ (truthy (.bool c) >>= fun r => ret (.bool (!r))) _ _ _
  exact wpAny_bind (wpAny_truthy_bool (wpAny_pure q))
theorem ne_call {Q : Value → Shared → Prop} (hu : A.units + 1 < cLine) (X : K.In s.heap) (I : PySem.W.InstAt s.heap x ox C od) (hs : PySem.W.findIn K (.ref C) "__eq__" = some (some (.ref f))) (hf : PySem.W.isFn K (.ref f) = true) (hm : PySem.W.mroIn K C (.type "object") = some true)
    (h : wpAny (model prog w) A.in1 (call (.ref f) [.ref x, b]) (NeBack Q) E s) : wpAny (model prog w) A (call (.builtin "object.__ne__") [.ref x, b]) Q E s := by
  have sub : PySem.W.Looks (model prog w) s.heap (isInstance (.ref x) (.type "object")) true := I.type.andThen (PySem.W.looks_mroIn X hm)
  refine wpAny_call (codeAny_call_builtin F.cmp_object.ne.plain F.cmpEntry_ne (PySem.W.check_slot F.cmpKind_ne F.cmpSplit_ne sub (F.cmpArgs_ne _ _) ?_))
  exact ne_entry (A := A.in1) hu X I hs hf (wpAny_mono h (fun v s' z => z) fun _ _ e => e)
theorem ne_K {Q : Value → Shared → Prop} (hu : A.units + 1 < cLine) (X : K.In s.heap) (I : PySem.W.InstAt s.heap x ox C od) (hb : PySem.W.Looks (model prog w) s.heap (typeOf b) tb) (hn : PySem.W.notFirst K C tb = true)
    (hne : PySem.W.findIn K (.ref C) "__ne__" = some (some (.builtin "object.__ne__"))) (hs : PySem.W.findIn K (.ref C) "__eq__" = some (some (.ref f))) (hf : PySem.W.isFn K (.ref f) = true) (hm : PySem.W.mroIn K C (.type "object") = some true)
    (h : wpAny (model prog w) A.in1 (call (.ref f) [.ref x, b]) (NeBack Q) E s) : wpAny (model prog w) A (richCompare .NotEq (.ref x) b) Q E s := by
  have bnd : wpAny (model prog w) A (callSpecialIfBound? (.ref x) "__ne__" [b]) (fun r s' => ∃ c : Bool, r = some (.bool (!c)) ∧ Q (.bool (!c)) s') E s := by
    simp only [callSpecialIfBound?, bindSpecialIfBound?]
    refine wpAny_holding (wpAny_bind (wpAny_bind (wpAny_bind (I.type.here ((PySem.W.looks_findIn X hne).here ?_)))))
    simp only [F.cmp_object.ne.bind]
    refine wpAny_bind (wpAny_askSetting (wpAny_ite ?_))
    have fin : wpAny (model prog w) A (call (.builtin "object.__ne__") ([.ref x] ++ [b]) >>= fun v => pure (some v)) (fun r s' => ∃ c : Bool, r = some (.bool (!c)) ∧ Q (.bool (!c)) s') E s :=
      wpAny_bind (ne_call hu X I hs hf hm (wpAny_mono h (fun v s' ⟨c, e, q⟩ => ⟨c, e, wpAny_pure ⟨c, rfl, q⟩⟩) fun _ _ e => e))
    split
    · exact wpAny_bind (wpAny_pure (wpAny_pure fin))
    · exact wpAny_tryCatch (wpAny_bind (wpAny_pure (wpAny_pure fin)))
  have one : wpAny (model prog w) A (tryCompare (.ref x) "__ne__" b) (fun r s' => ∃ c : Bool, r = some (.bool (!c)) ∧ Q (.bool (!c)) s') E s := by
    unfold tryCompare
    refine wpAny_bind (wpAny_mono bnd (fun r s' z => ?_) fun _ _ e => e)
    obtain ⟨c, rfl, q⟩ := z
    exact wpAny_pure ⟨c, rfl, q⟩
  have hu0 : A.units < cLine := Nat.lt_of_succ_lt hu
  unfold richCompare
  simp only [oneThing_ref]
  refine wpAny_holding (wpAny_bind (wpAny_cRoomFor hu0 (wpAny_bind (I.type.here (wpAny_bind (hb.here ?_))))))
  split
  · rename_i q
    have e : PySem.W.subIn K tb (.ref C) = some false := (Bool.or_eq_true_iff.mp hn).elim (fun e => by rw [beq_iff_eq.mp e] at q; simp at q) (fun e => beq_iff_eq.mp e)
    refine wpAny_bind ((PySem.W.looks_subIn X e).here ?_)
    simp only [Bool.false_eq_true, if_false]
    refine wpAny_bind (wpAny_mono one (fun r s' z => ?_) fun _ _ e => e)
    obtain ⟨c, rfl, hq⟩ := z
    exact wpAny_pure hq
  · refine wpAny_bind (wpAny_pure ?_)
    simp only [Bool.false_eq_true, if_false]
    refine wpAny_bind (wpAny_mono one (fun r s' z => ?_) fun _ _ e => e)
    obtain ⟨c, rfl, hq⟩ := z
    exact wpAny_pure hq
end
section
variable {X : Cx} {CX : CXT} {k j : Nat} {C : Addr} {sp : Sp} {E : XK}
/-- the own == of the class at C -/
def EqCal (P : Program) (w : World) (K : PySem.W.Frag) (mg : Str → Option Value) (base : Heap) (CX : CXT) (C : Addr) (k : Nat) (sp : Sp) : Prop :=
  ∃ (f : Addr) (fd : FuncData) (ps : List Str), FnG P w K mg base CX k f fd ps sp ∧ PySem.W.findIn K (.ref C) "__eq__" = some (some (.ref f)) ∧ PySem.W.isFn K (.ref f) = true ∧ Binds K fd ps []
/-- what it promises must be a truth value -/
def rEqO (K : PySem.W.Frag) (C : Addr) (sp : Sp) (neg : Bool) : R2 := fun x y H Q => ∃ (a dx : Addr) (fs : List (Str × V)) (t : Value), x = .ref a ∧ H a = some (.ins C dx fs) ∧ TyX K H y t ∧ PySem.W.notFirst K C t = true ∧
  sp [.ref a, y] H (fun v H' => ∃ c : Bool, v = .bl c ∧ Q (.bl (if neg = true then !c else c)) H') E0
theorem op_eqO (M : EqCal X.prog X.w X.K X.mg X.base CX C k sp) (g : X.A.guards = some []) (hr : Room j X.A) (hk : k ≤ j) (hx : Passes CX X E0) : OpR X (compareOp .Eq) (rEqO X.K C sp false) := by
  obtain ⟨f, fd, ps, F, hs, hf, hb⟩ := M
  intro pins s σ H x y v u Q I rx ry h
  obtain ⟨a, dx, fs, t, rfl, ha, ty, hn, q⟩ := h
  obtain rfl : v = Value.ref a := rx
  obtain ⟨od, J⟩ := Ow.instAt I ha
  obtain ⟨m, hF⟩ := I.fr
  obtain ⟨Pk, Z, pk, _⟩ := kit_of I ry ty
  refine PySem.W.cmp_K (op := .Eq) (tb := t) hr.units0 hF I.ok.mod.kin J (Z.ty _ _ I.kIn pk) hn hs hf (wpAny_call (codeAny_mono (goG F g (hr.mono hk) I.env0 I.kIn hb (.cons (show RelV (.ref a) (.ref a) from rfl) (.cons ry .nil)) q) fun r s' z => ?_))
  match r, z with
  | .error er, z => exact hx pins σ H s er s' I z
  | .ok .next, z => exact z.elim
  | .ok .brk, z => exact z.elim
  | .ok .cont, z => exact z.elim
  | .ok (.ret u'), z =>
    obtain ⟨v, H', I', rv, c, rfl, q'⟩ := I.after z
    obtain rfl : u' = Value.bool c := rv
    exact ⟨.bl c, H', I', rfl, q'⟩
theorem op_neO (M : EqCal X.prog X.w X.K X.mg X.base CX C k sp) (hne : PySem.W.findIn X.K (.ref C) "__ne__" = some (some (.builtin "object.__ne__"))) (hm : PySem.W.mroIn X.K C (.type "object") = some true)
    (g : X.A.guards = some []) (hr : Room j X.A) (hk : k + 1 ≤ j) (hx : Passes CX X E0) : OpR X (compareOp .NotEq) (rEqO X.K C sp true) := by
  obtain ⟨f, fd, ps, F, hs, hf, hb⟩ := M
  intro pins s σ H x y v u Q I rx ry h
  obtain ⟨a, dx, fs, t, rfl, ha, ty, hn, q⟩ := h
  obtain rfl : v = Value.ref a := rx
  obtain ⟨od, J⟩ := Ow.instAt I ha
  obtain ⟨Pk, Z, pk, _⟩ := kit_of I ry ty
  refine ne_K (tb := t) (by have := hr.un; omega) I.kIn J (Z.ty _ _ I.kIn pk) hn hne hs hf hm (wpAny_call (codeAny_mono (goG F (A := X.A.in1) g (hr.mono hk).in1 I.env0.in1 I.kIn hb (.cons (show RelV (.ref a) (.ref a) from rfl) (.cons ry .nil)) q) fun r s' z => ?_))
  match r, z with
  | .error er, z => exact hx pins σ H s er s' I z
  | .ok .next, z => exact z.elim
  | .ok .brk, z => exact z.elim
  | .ok .cont, z => exact z.elim
  | .ok (.ret u'), z =>
    obtain ⟨v, H', I', rv, c, rfl, q'⟩ := I.after z
    obtain rfl : u' = Value.bool c := rv
    exact ⟨c, rfl, .bl (!c), H', I', rfl, q'⟩
/-- the own len -/
def LenCal (P : Program) (w : World) (K : PySem.W.Frag) (mg : Str → Option Value) (base : Heap) (CX : CXT) (C : Addr) (k : Nat) (sp : Sp) : Prop :=
  ∃ (f : Addr) (fd : FuncData) (ps : List Str), FnG P w K mg base CX k f fd ps sp ∧ PySem.W.findIn K (.ref C) "__len__" = some (some (.ref f)) ∧ PySem.W.isFn K (.ref f) = true ∧ Binds K fd ps []
def rLenO (C : Addr) (sp : Sp) : List V → Hp → VK → Prop := fun xs H Q => ∃ (a dx : Addr) (fs : List (Str × V)), xs = [.ref a] ∧ H a = some (.ins C dx fs) ∧ sp [.ref a] H (fun v H' => ∃ n : Int, v = .int n ∧ 0 ≤ n ∧ n < 2 ^ 63 ∧ Q (.int n) H') E0
theorem call_lenO (M : LenCal X.prog X.w X.K X.mg X.base CX C k sp) (g : X.A.guards = some []) (hr : Room j X.A) (hk : k + 1 ≤ j) (hx : Passes CX X E0) : CallR X (.builtin "len") (rLenO C sp) := by
  obtain ⟨f, fd, ps, F, hs, hf, hb⟩ := M
  intro pins s σ H xs us Q I r h
  obtain ⟨a, dx, fs, rfl, ha, q⟩ := h
  obtain ⟨u, rfl, ru⟩ := vals1 r
  obtain rfl : u = Value.ref a := ru
  obtain ⟨od, J⟩ := Ow.instAt I ha
  obtain ⟨m, hF⟩ := I.fr
  refine PySem.W.len_K hF I.ok.mod.kin J hs hf (wpAny_call (codeAny_mono (goG F (A := X.A.in1) g (hr.mono hk).in1 I.env0.in1 I.kIn hb (.cons (show RelV (.ref a) (.ref a) from rfl) .nil) q) fun r s' z => ?_))
  match r, z with
  | .error er, z => exact hx pins σ H s er s' I z
  | .ok .next, z => exact z.elim
  | .ok .brk, z => exact z.elim
  | .ok .cont, z => exact z.elim
  | .ok (.ret u'), z =>
    obtain ⟨v, H', I', rv, n, rfl, h0, h1, q'⟩ := I.after z
    obtain ⟨t, rfl⟩ := (show ∃ t, u' = Value.int n t from rv)
    exact ⟨⟨h0, h1⟩, .int n, H', I'.tok _, ⟨_, rfl⟩, q'⟩
end
end Ob
/-! == and != of dicts whose values are data, or dicts again: both outcomes -/
namespace Ob
open PySem.Spec PyProof.Rows
section
variable {prog : Program} {w : World} {Ky : Type} [DecidableEq Ky] {knd : KeyKind prog w Ky} {A : Around} {s : Shared} {a b : Addr} {ka kb : List (Ky × Value)} {r : Bool}
theorem neP_dicts (ha : (a == sysModules) = false) (hb : (b == sysModules) = false) (da : s.heap.DictOf knd a ka) (db : s.heap.DictOf knd b kb) (hu : A.units < cLine) (hits : ka.length = kb.length → PySem.W.KeqHitsP prog w A.in1 s kb ka r)
    (E Q : Value → Shared → Prop) (h : Q (.bool (!(ka.length == kb.length && r))) s) : wpAny (model prog w) A (richCompare .NotEq (.ref a) (.ref b)) Q E s := by
  refine wpAny_richCompare_same_room (op := .NotEq) da.typeIs db.typeIs PySem.F.slot_dict_ne ?_ hu
  refine wpAny_call_entry PySem.F.slot_dict_ne da.typeIs PySem.F.entry_dict_ne ?_ (PySem.F.args_dict_ne_2 _ _)
  show wpAny _ _ (Builtin.Dict.dictSlotArgs "__ne__" ⟨[.ref a, .ref b], []⟩ >>= fun p => _) _ _ s
  unfold Builtin.Dict.dictSlotArgs
  refine wpAny_bind (wpAny_bind (wpAny_notOrdered_dict da.typeIs (show wpAny _ _ (pure (Value.ref a, Value.ref b)) _ _ s from wpAny_pure ?_)))
  refine wpAny_bind (wpAny_isInstance (T := "dict") db.typeIs PySem.F.sub_dict_dict ?_)
  rw [show (!true) = false from rfl, if_neg Bool.false_ne_true]
  refine wpAny_bind (wpAny_pure (wpAny_bind (wpAny_pure (wpAny_bind (PySem.W.samePairsP ha hb da db hits ?_)))))
  exact wpAny_pure ⟨_, rfl, (fun x => nomatch x), by simpa using h⟩
end
/-- what the values under the keys of ks say, one after another, by those in ls -/
inductive HitF (F : V → V → Bool → Prop) (ls : List (Key × V)) : List (Key × V) → Bool → Prop
  | nil : HitF F ls [] true
  | miss {k : Key} {v : V} {r : List (Key × V)} : valV ls k = none → HitF F ls ((k, v) :: r) false
  | hit {k : Key} {v y : V} {r : List (Key × V)} {e b : Bool} : valV ls k = some y → F v y e → HitF F ls r b → HitF F ls ((k, v) :: r) (e && b)
def EqB (K : PySem.W.Frag) (H : Hp) : Nat → V → V → Bool → Prop
  | 0 => fun x y b => ∃ d e, Dp K H x d ∧ Dp K H y e ∧ SeqAt.shaped d = true ∧ SeqAt.shaped e = true ∧ b = PyData.eqv d e
  | n + 1 => fun x y b => (∃ d e, Dp K H x d ∧ Dp K H y e ∧ SeqAt.shaped d = true ∧ SeqAt.shaped e = true ∧ b = PyData.eqv d e) ∨
      ∃ a c ks ls r, x = .ref a ∧ y = .ref c ∧ a ≠ c ∧ H a = some (.dK ks) ∧ H c = some (.dK ls) ∧ HitF (EqB K H n) ls ks r ∧ b = (ks.length == ls.length && r)
theorem hitF_run {P : Program} {w : World} {A : Around} {s : Shared} {F : V → V → Bool → Prop} (ih : ∀ x y b v u, F x y b → RelV x v → RelV y u → SeqAt.EqP P w A s v u b) {ls : List (Key × V)} {vb : List (Key × Value)} (rb : KV ls vb) :
    ∀ {ks : List (Key × V)} {va : List (Key × Value)} {r : Bool}, KV ks va → HitF F ls ks r → PySem.W.KeqHitsP P w A s vb va r
  | [], _, _, .nil, .nil => .nil
  | (k, v) :: ks, (k', u) :: va, _, .cons h t, z => by
    obtain ⟨h1, h2⟩ := h
    obtain rfl : k = k' := h1
    have lk : RelO (valV ls k) (valueAt vb k) := rb.val k
    cases z with
    | miss hn =>
      rw [hn] at lk
      exact .miss (RelO.none_of lk)
    | hit hy hf hr =>
      rw [hy] at lk
      obtain ⟨y', ey, ry⟩ := lk.some_of
      exact .hit ey (ih _ _ _ _ _ hf h2 ry) (hitF_run ih rb t hr)
section
variable {X : Cx} {pins : List (Addr × Obj)} {σ : L2.St} {H : Hp} {s : Shared}
theorem eqB_run (I : Inv X pins σ H s) : ∀ (n : Nat) (A : Around), A.units + n + 66 < cLine → ∀ (x y : V) (b : Bool) (v u : Value), EqB X.K H n x y b → RelV x v → RelV y u → SeqAt.EqP X.prog X.w A s v u b := by
  have dat : ∀ (A : Around), A.units + 64 < cLine → ∀ (x y : V) (b : Bool) (v u : Value), (∃ d e, Dp X.K H x d ∧ Dp X.K H y e ∧ SeqAt.shaped d = true ∧ SeqAt.shaped e = true ∧ b = PyData.eqv d e) → RelV x v → RelV y u → SeqAt.EqP X.prog X.w A s v u b := by
    rintro A hu x y b v u ⟨d, e, hd, he, sd, se, rfl⟩ rx ry
    obtain ⟨as, r1⟩ := Dp.reads I d x v hd rx
    obtain ⟨bs, r2⟩ := Dp.reads I e y u he ry
    exact (SeqAt.eqAt_reads d e A s v u as bs r1 r2 (SeqAt.canLay_of_shaped sd) (SeqAt.canLay_of_shaped se) (SeqAt.room_of_shaped sd hu)).eqP
  intro n
  induction n with
  | zero => exact fun A hu x y b v u h rx ry => dat A (by omega) x y b v u h rx ry
  | succ n ih =>
    intro A hu x y b v u h rx ry
    rcases h with h | ⟨a, c, ks, ls, r, rfl, rfl, ne, ha, hc, hf, rfl⟩
    · exact dat A (by omega) x y b v u h rx ry
    · obtain rfl : v = Value.ref a := rx
      obtain rfl : u = Value.ref c := ry
      obtain ⟨_, ya, va, ra, da⟩ := (show ObjOk X.prog X.w H s.heap a (.dK ks) from I.hok a _ ha)
      obtain ⟨_, yb, vb, rb, db⟩ := (show ObjOk X.prog X.w H s.heap c (.dK ls) from I.hok c _ hc)
      have hit := hitF_run (ih A.in1 (by show A.units + 1 + n + 66 < cLine; omega)) rb ra hf
      have e1 : va.length = ks.length := (Paired.length ra).symm
      have e2 : vb.length = ls.length := (Paired.length rb).symm
      exact SeqAt.eqP_refs ne fun E Q q => PySem.W.rcP_dicts ya yb da db (by omega) (fun _ => hit) E Q (by rw [e1, e2]; exact q)
end
section
variable {X : Cx}
def rEqX (K : PySem.W.Frag) (neg : Bool) : R2 := fun x y H Q => ∃ a c ks ls r, x = .ref a ∧ y = .ref c ∧ H a = some (.dK ks) ∧ H c = some (.dK ls) ∧ HitF (EqB K H 2) ls ks r ∧ Q (.bl (if neg = true then !(ks.length == ls.length && r) else ks.length == ls.length && r)) H
theorem op_eqX (hu : X.A.units + 80 < cLine) : OpR X (compareOp .Eq) (rEqX X.K false) := by
  intro pins s σ H x y v u Q I rx ry h
  obtain ⟨a, c, ks, ls, r, rfl, rfl, ha, hc, hf, q⟩ := h
  obtain rfl : v = Value.ref a := rx
  obtain rfl : u = Value.ref c := ry
  obtain ⟨_, ya, va, ra, da⟩ := (show ObjOk X.prog X.w H s.heap a (.dK ks) from I.hok a _ ha)
  obtain ⟨_, yb, vb, rb, db⟩ := (show ObjOk X.prog X.w H s.heap c (.dK ls) from I.hok c _ hc)
  have hit := hitF_run (eqB_run I 2 X.A.in1 (by show X.A.units + 1 + 2 + 66 < cLine; omega)) rb ra hf
  have e1 : va.length = ks.length := (Paired.length ra).symm
  have e2 : vb.length = ls.length := (Paired.length rb).symm
  exact PySem.W.rcP_dicts ya yb da db (by omega) (fun _ => hit) _ _ ⟨_, H, I, (by rw [e1, e2]; rfl), q⟩
theorem op_neX (hu : X.A.units + 80 < cLine) : OpR X (compareOp .NotEq) (rEqX X.K true) := by
  intro pins s σ H x y v u Q I rx ry h
  obtain ⟨a, c, ks, ls, r, rfl, rfl, ha, hc, hf, q⟩ := h
  obtain rfl : v = Value.ref a := rx
  obtain rfl : u = Value.ref c := ry
  obtain ⟨_, ya, va, ra, da⟩ := (show ObjOk X.prog X.w H s.heap a (.dK ks) from I.hok a _ ha)
  obtain ⟨_, yb, vb, rb, db⟩ := (show ObjOk X.prog X.w H s.heap c (.dK ls) from I.hok c _ hc)
  have hit := hitF_run (eqB_run I 2 X.A.in1 (by show X.A.units + 1 + 2 + 66 < cLine; omega)) rb ra hf
  have e1 : va.length = ks.length := (Paired.length ra).symm
  have e2 : vb.length = ls.length := (Paired.length rb).symm
  exact neP_dicts ya yb da db (by omega) (fun _ => hit) _ _ ⟨_, H, I, (by rw [e1, e2]; rfl), q⟩
end
end Ob
/-! len(set(t)) of a tuple of texts: how many different ones -/
namespace Ss
open PySem.Spec PyProof.Rows
/-- how many different texts are among the first i -/
def dcN (xs : List Str) : Nat → Nat
  | 0 => 0
  | i + 1 => if (xs.take i).any (· == xs.getD i Str.empty) = true then dcN xs i else dcN xs i + 1
theorem dcN_le (xs : List Str) : ∀ i, dcN xs i ≤ i
  | 0 => Nat.le_refl _
  | i + 1 => by
    have := dcN_le xs i
    show (if (xs.take i).any (· == xs.getD i Str.empty) = true then dcN xs i else dcN xs i + 1) ≤ i + 1
    split <;> omega
theorem any_eq {xs : List Str} {x : Str} : xs.any (· == x) = true ↔ x ∈ xs := by
  rw [List.any_eq_true]
  exact ⟨fun ⟨y, m, e⟩ => by rw [← beq_iff_eq.mp e]; exact m, fun m => ⟨x, m, beq_self_eq_true x⟩⟩
theorem getD_at {xs : List Str} {i : Nat} (h : i < xs.length) : xs.getD i Str.empty = xs[i] := by
  rw [List.getD_eq_getElem?_getD, List.getElem?_eq_getElem h] <;> rfl
theorem dcN_nodup {xs : List Str} (nd : xs.Nodup) : ∀ i, i ≤ xs.length → dcN xs i = i
  | 0, _ => rfl
  | i + 1, h => by
    show (if (xs.take i).any (· == xs.getD i Str.empty) = true then dcN xs i else dcN xs i + 1) = i + 1
    have hi : i < xs.length := h
    have ne : ¬ (xs.take i).any (· == xs.getD i Str.empty) = true := fun z => by
      rw [any_eq, getD_at hi] at z
      obtain ⟨j, hj, e⟩ := List.mem_iff_getElem.mp z
      rw [List.getElem_take] at e
      rw [List.length_take] at hj
      have := (List.getElem_inj nd).mp e
      omega
    rw [if_neg ne, dcN_nodup nd i (Nat.le_of_lt hi)]
theorem nodup_dcN {xs : List Str} : ∀ i, i ≤ xs.length → dcN xs i = i → (xs.take i).Nodup
  | 0, _, _ => by simp
  | i + 1, h, e => by
    have hi : i < xs.length := h
    have e' : (if (xs.take i).any (· == xs.getD i Str.empty) = true then dcN xs i else dcN xs i + 1) = i + 1 := e
    have le := dcN_le xs i
    by_cases c : (xs.take i).any (· == xs.getD i Str.empty) = true
    · rw [if_pos c] at e'; omega
    · rw [if_neg c] at e'
      have ih := nodup_dcN i (Nat.le_of_lt hi) (by omega)
      have nm : xs[i] ∉ xs.take i := fun z => c (by rw [any_eq, getD_at hi]; exact z)
      rw [List.take_add_one, List.getElem?_eq_getElem hi]
      rw [List.nodup_append]
      refine ⟨ih, by simp, fun a ha b hb z => ?_⟩
      have hb : b = xs[i] := by simpa using hb
      subst z hb
      exact nm ha
theorem dc_iff {xs : List Str} : dcN xs xs.length = xs.length ↔ xs.Nodup := by
  refine ⟨fun e => ?_, fun nd => dcN_nodup nd _ (Nat.le_refl _)⟩
  have := nodup_dcN xs.length (Nat.le_refl _) e
  rwa [List.take_length] at this
section
variable {P : Program} {w : World} {A : Around} {E : Value → Shared → Prop} {s : Shared}
theorem upd_texts {I : Addr} {fp wr : List Addr} {G : Array GenState → Array GenState → Prop} {n : Nat} {Pv : Nat → Value → Prop} {St : Nat → Shared → Prop} {R : Result → Shared → Prop} (W : WalksS P w A.in1 I fp wr G n Pv St) (S : Addr) (hSf : S ∉ fp)
    (xs : List Str) (hn : n ≤ xs.length) (hb : n + 1 < scanBound) (hval : ∀ i v, Pv i v → ∃ t, v = .str (xs.getD i Str.empty) t) : ∀ (k i : Nat) (s : Shared), n - i = k → i ≤ n → St i s → s.heap.SetOf (PySem.strKind P w) S (fun z => (xs.take i).any (· == z)) (dcN xs i) →
      (∀ s', Moved (S :: wr) G s s' → s'.heap.SetOf (PySem.strKind P w) S (fun z => (xs.take n).any (· == z)) (dcN xs n) → R (.ok (.ret .none)) s') → codeAny (model P w) A (.builtin "set.update.loop" ⟨[.ref S, .ref I], []⟩) R s := by
  have hSw : S ∉ wr := fun h => hSf (W.sub _ h)
  have more : ∀ b ∈ wr, b ∈ S :: wr := fun b hb => List.mem_cons_of_mem _ hb
  have stay : ∀ {s1 s2 : Shared} {G' : Array GenState → Array GenState → Prop} {p : Str → Bool} {c : Nat}, Moved wr G' s1 s2 → s1.heap.SetOf (PySem.strKind P w) S p c → s2.heap.SetOf (PySem.strKind P w) S p c := fun hm ⟨o, es, ep, t, ho, rest⟩ => ⟨o, es, ep, t, hm.heap S _ hSw ho, rest⟩
  intro k
  induction k with
  | zero =>
    intro i s hk hi hst hS hR
    obtain rfl : i = n := by omega
    refine codeAny_builtin F.entry_set_update_loop ?_
    rw [Around.under_plainId F.plain_set_update_loop _]
    exact (show wpAny _ A.in1 (pyNext (.ref I) >>= _) _ _ s from wpAny_bind (W.done s _ _ hst fun s' hm => (show wpAny _ A.in1 (ret Value.none) _ _ s' from wpAny_pure (hR s' (hm.mono more) (stay hm hS)))))
  | succ k ih =>
    intro i s hk hi hst hS hR
    have hlt : i < n := by omega
    refine codeAny_builtin F.entry_set_update_loop ?_
    rw [Around.under_plainId F.plain_set_update_loop _]
    refine (show wpAny _ A.in1 (pyNext (.ref I) >>= _) _ _ s from wpAny_bind (W.item i s _ _ hlt hst fun v s' hP hst' hm => ?_))
    obtain ⟨t, rfl⟩ := hval i v hP
    have hS1 := stay hm hS
    refine (show wpAny _ A.in1 (holding [Value.str (xs.getD i Str.empty) t] (setAdd S (.str (xs.getD i Str.empty) t)) >>= _) _ _ s' from wpAny_bind (wpAny_holding ?_))
    unfold setAdd
    refine wpAny_holding (wpAny_bind ((PySem.strKind P w).pyHash (k := xs.getD i Str.empty) (strKind_is _ _ _ _) ?_))
    have hle := dcN_le xs i
    refine wpAny_setAddHashed_of (knd := PySem.strKind P w) (s := { s' with toks := s'.toks + 1 }) (strKind_is _ _ _ _) rfl hS1 (by omega) fun h' hsb hS2 => ?_
    have hS3 : h'.SetOf (PySem.strKind P w) S (fun z => (xs.take (i + 1)).any (· == z)) (dcN xs (i + 1)) := by
      refine SetOf_congr hS2 (fun z => ?_) rfl
      have hx : i < xs.length := by omega
      show ((xs.take i).any (· == z) || decide (z = xs.getD i Str.empty)) = (xs.take (i + 1)).any (· == z)
      rw [List.take_add_one, List.getElem?_eq_getElem hx, getD_at hx, List.any_append]
      congr 1
      show decide (z = xs[i]) = ((xs[i] == z) || false)
      rw [Bool.or_false, Bool.eq_iff_iff, decide_eq_true_iff, beq_iff_eq]
      exact eq_comm
    refine wpAny_pure ⟨plainId_quiet F.plain_set_update_loop _, ih (i + 1) _ (by omega) hlt (W.frame _ s' _ _ hst' (Nat.le_succ _) fun b hb o e => ?_) hS3 fun s'' hm2 hS4 => ?_⟩
    · exact (hsb.2 b (fun h : b = S => hSf (by rw [← h]; exact hb))).trans e
    · refine hR s'' (Moved.trans W.gtrans ((hm.mono more).then_heap (Nat.le_succ _) fun b o hb e => ?_) hm2) hS4
      exact (hsb.2 b (fun h : b = S => hb (by rw [h]; exact List.mem_cons_self))).trans e
abbrev setO (led : Bool) : Obj := { cls := .type "set", dict := none, data := .set #[] 0 (.fresh 0 0 led) }
set_option maxHeartbeats 8000000 in
theorem set_texts {l : Addr} {items : Array Value} {xs : List Str} {Q : Value → Shared → Prop} (hh : A.handled = none) (hl : s.heap.IsTuple l items) (hi : StrsAre items.toList xs) (hb : xs.length + 1 < scanBound)
    (h : ∀ (h' : Heap) (tk : Nat), h'.SetOf (PySem.strKind P w) s.heap.objs.size (fun z => xs.any (· == z)) (dcN xs xs.length) → (∀ b o, b < s.heap.objs.size → s.heap.get? b = some o → h'.get? b = some o) → Q (.ref s.heap.objs.size) { s with heap := h', toks := tk }) :
    wpAny (model P w) A (call (.type "set") [.ref l]) Q E s := by
  obtain ⟨c, tl, hmro⟩ := F.called_set.mro
  have hmade := F.called_set.made; have hsub := F.called_set.sub
  refine wpAny_call (codeAny_of_tree (show wpAny _ _ (callAny (.type "set") _) _ _ _ from wpAny_pure ⟨Code.quiet_builtin _ (by decide +kernel), codeAny_builtin F.entry_type_call ?_⟩))
  rw [Around.under_plain (weight_type_call_type "set" [.ref l] []) rfl]
  have h1 := F.called_set.notType; have h2 := F.called_set.canCreate; have hct := F.typeCall_set_1 (.ref l)
  repeat (any_goals (first | assumption | wp_step))
  have hsz : xs.length = items.size := by rw [← StrsAre.len_eq hi, Array.length_toList]
  refine codeAny_mono (code_set_new_1 (.ref l) (E := E) (Q₁ := fun obj s₁ => ∃ led : Bool, obj = .ref s.heap.objs.size ∧ s₁ = { s with heap := s.heap.push (setO led) }) fun led => ⟨led, rfl, rfl⟩) fun r s₁ hr => ?_
  match r, hr with
  | .error e, hr => exact hr
  | .ok .next, hr => exact hr.elim
  | .ok .brk, hr => exact hr.elim
  | .ok .cont, hr => exact hr.elim
  | .ok (.ret obj), hr =>
    obtain ⟨led, rfl, rfl⟩ := hr
    have hS : (s.heap.push (setO led)).get? s.heap.objs.size = some (setO led) := Heap.get?_push_size _ rfl
    have hT : Shared.TypeIs { s with heap := s.heap.push (setO led) } (.ref s.heap.objs.size) "set" := ⟨_, hS, rfl⟩
    have hli := F.called_set.init.lookup; have hbi := F.called_set.init.bind (.ref s.heap.objs.size)
    repeat (any_goals (first | assumption | wp_step))
    refine codeAny_mono (codeAny_call_builtin (R := wants (fun r s₂ => r = .none ∧ ∃ h' tk, s₂ = { s with heap := h', toks := tk } ∧ h'.SetOf (PySem.strKind P w) s.heap.objs.size (fun z => xs.any (· == z)) (dcN xs xs.length) ∧ (∀ b o, b < s.heap.objs.size → s.heap.get? b = some o → h'.get? b = some o)) E)
      F.called_set.init.plain F.entry_set_init (check_set_init_1 hT ?_)) fun r₂ s₂ hr₂ => ?_
    · obtain ⟨⟨ocls, odict, odata, oslots⟩, hol, hcl, nl, hdl⟩ := hl
      simp only at hcl hdl
      subst hcl hdl
      have hol' : (s.heap.push (setO led)).get? l = some { cls := .type "tuple", dict := odict, data := .seq items nl, slots := oslots } := Heap.get?_push_of_some _ hol
      have hsls := F.sub_tuple_set; have hslf := F.sub_tuple_frozenset; have hne : (Value.type "tuple" == Value.type "dict") = false := by decide
      have hl1 : (s.heap.push (setO led)).IsTuple l items := ⟨_, hol', rfl, nl, rfl⟩
      unfold Builtin.«set.__init__» noKeywords Builtin.Frozenset.updateFrom
      generalize hPI : pyIter = PI
      wp_walk
      subst hPI
      refine wpAny_pyIter_tuple hl1 (wpAny_bind (wpAny_runValue ?_))
      have hlS : l < s.heap.objs.size := Heap.lt_size hol
      have pz : (s.heap.push (setO led)).objs.size = s.heap.objs.size + 1 := Heap.size_push ..
      have hh3 : A.in1.in1.in1.handled = none := by simp [hh]
      have hneI : l ≠ (s.heap.push (setO led)).objs.size := by rw [Heap.size_push]; exact Nat.ne_of_lt (Nat.lt_succ_of_lt hlS)
      have hSf : s.heap.objs.size ∉ [(s.heap.push (setO led)).objs.size, l] := by
        rw [Heap.size_push]; simp only [List.mem_cons, List.not_mem_nil, or_false, not_or]
        exact ⟨Nat.ne_of_lt (Nat.lt_succ_self _), Nat.ne_of_gt hlS⟩
      have hval : ∀ (i : Nat) (v : Value), items[i]? = some v → ∃ t, v = .str (xs.getD i Str.empty) t := fun i v hv => SS.strs_at hi i v (by rw [Array.getElem?_toList]; exact hv)
      refine upd_texts ((Walks.tuple hh3 _ l hneI items).toS) s.heap.objs.size hSf xs (by omega) (by omega) hval (items.size - 0) 0 _ (by omega) (Nat.zero_le _) ⟨⟨_, Heap.get?_push_size _ rfl, rfl, rfl⟩, (hl1.push _)⟩ ?hS0 ?hR
      case hS0 =>
        have hget : ((s.heap.push (setO led)).push { cls := .type "tuple_iterator", data := .fields #[.ref l, .int 0 0] }).get? s.heap.objs.size = some (setO led) := Heap.get?_push_of_some _ hS
        exact SetOf_congr ((setObjOf_fresh (knd := PySem.strKind P w) led).setOf hget (by unfold scanBound; omega)) (fun _ => rfl) rfl
      case hR =>
        intro s' hm hS'
        obtain ⟨h', g', d', tk', os'⟩ := s'
        obtain rfl : g' = s.gens := hm.gens
        obtain rfl : d' = s.drawn := hm.drawn
        obtain rfl : os' = s.os := hm.os
        refine (show wpAny _ _ _ _ _ _ from wpAny_pure (show wpAny _ _ (ret Value.none) _ _ _ from wpAny_pure ⟨rfl, h', tk', rfl, ?_, fun b o hb e => ?_⟩))
        · rw [← hsz, List.take_length] at hS'
          exact hS'
        · refine hm.heap b o ?_ (Heap.get?_push_of_some _ (Heap.get?_push_of_some _ e))
          rw [Heap.size_push]; simp only [List.mem_cons, List.not_mem_nil, or_false, not_or]
          exact ⟨Nat.ne_of_lt hb, Nat.ne_of_lt (Nat.lt_succ_of_lt hb)⟩
    · match r₂, hr₂ with
      | .error e, hr₂ => exact hr₂
      | .ok .next, hr₂ => exact hr₂.elim
      | .ok .brk, hr₂ => exact hr₂.elim
      | .ok .cont, hr₂ => exact hr₂.elim
      | .ok (.ret r), hr₂ =>
        obtain ⟨rfl, h', tk, rfl, hS', hk'⟩ := hr₂
        repeat (any_goals (first | assumption | wp_step))
        exact h _ _ hS' hk'
end
section
variable {X : Cx}
def tLenSetT (K : PySem.W.Frag) (ta : TE) : TE := fun σ H Q => ta σ H fun x H1 => ∃ (l : Addr) (xs : List Str), x = .ref l ∧ SqT K H1 l (xs.map V.str) ∧ xs.length ≤ 1000 ∧ Q (.int (dcN xs xs.length : Nat)) H1
theorem pe_lenSetT {a : Expr} {ta : TE} {p p2 q pos : Pos} (hc : X.calm = true) (hm : X.mg "len" = none) (hm2 : X.mg "set" = none) (ha : PE X a ta) (hg : Gl X "len" := by rfl) (hg2 : Gl X "set" := by rfl)
    (na : starEach [a] X.env = (false, eval a X.env) :: starEach [] X.env := by rfl) : PE X (.Call (.Name "len" p) [.Call (.Name "set" p2) [a] [] q] [] pos) (tLenSetT X.K ta) := by
  refine ⟨fun pins s σ H Q I h => Call_ (ld_blt I hg hm boot_len (callWith_builtin1 (args_cons ?_ rfl) rfl rfl))⟩
  refine Call_ (ld_blt I hg2 hm2 boot_set (callWith_type1 (args_cons (thn (ha.run pins s σ H _ I h) fun v s1 ⟨x, H1, I1, r1, q1⟩ => args_nil ?_) na) na rfl))
  obtain ⟨l, xs, rfl, hq, hl, q1⟩ := q1
  cases r1
  obtain ⟨its, r, pl, hz⟩ := I1.tuple hq
  have sb : (1000 : Nat) + 1 < scanBound := by decide +kernel
  refine set_texts (I1.ok.hd hc) pl (by simpa using strsAre_of r) (by omega) fun h' tk hS hk => args_nil ?_
  obtain ⟨o, es, ep, t, ho, hex, hd, _, _, _, hf, hn⟩ := hS
  have I2 : Inv X pins σ H1 { s1 with heap := h', toks := tk } := I1.kept fun b o e => hk b o (Heap.lt_size e) e
  have le := dcN_le xs xs.length
  exact call_len_set ho hex hd hf (by rw [hn] <;> omega) ⟨.int (dcN xs xs.length : Nat), H1, I2.tok _, ⟨_, by rw [hn]⟩, q1⟩
end
end Ss
/-! a, *b = t : a target with a star, the value a tuple -/
namespace Sr
open PySem PySem.Spec PySem.Calls PyProof.Rows PySem.W
section
variable {prog : Program} {w : World} {A : Around} {E : Value → Shared → Prop} {s : Shared}
theorem star_tup {a : Addr} {us : Array Value} {n i : Nat} {Q : List Value → Shared → Prop} (ha : IsTup s.heap a us) (hh : A.handled = none) (hi : i < n) (hn : n ≤ us.size + 1) (hz : us.size ≤ 16384)
    (q : ∀ (g : Heap) (tk : Nat), (∀ b o, s.heap.get? b = some o → g.get? b = some o) → Q (us.toList.take i ++ [.ref g.objs.size] ++ (us.toList.drop i).drop (us.size + 1 - n)) { s with heap := g.push { cls := .type "list", data := .seq ((us.toList.drop i).take (us.size + 1 - n)).toArray }, toks := tk }) :
    wpAny (model prog w) A (unpackItems (.ref a) n (some i)) Q E s := by
  obtain ⟨oa, eoa, _⟩ := id ha
  have lt_a := Heap.lt_size eoa
  have ne_a : a ≠ s.heap.objs.size := Nat.ne_of_lt lt_a
  unfold unpackItems notIterableAtAll
  refine wpAny_bind (wpAny_bind (wpAny_specialOf ha.typeIs slot_tuple_iter.lookup (wpAny_pure ?_)))
  refine wpAny_bind (wpAny_holding (iter_tuple ha ?_))
  refine wpAny_bind (wpAny_holding (draw_tuple ne_a i 0 _ _ ⟨_, Heap.get?_push_size _ rfl, rfl, rfl⟩ (ha.push _) (by omega) fun g1 it1 keep1 => ?_))
  have ha1 : IsTup g1 a us := (ha.push _).extBut keep1.extBut ne_a
  rw [Nat.zero_add] at it1
  obtain ⟨o1, eo1, _⟩ := id it1
  obtain ⟨o2, eo2, _⟩ := id ha1
  rw [List.drop_zero]
  have len1 : (us.toList.take i).length = i := by
    rw [List.length_take, Array.length_toList]
    omega
  rw [if_neg (show ¬ (us.toList.take i).length < i by omega)]
  refine wpAny_bind (wpAny_holding (kun_collect (s := { s with heap := g1 }) (T := "tuple_iterator") (.inr (.inr (.inr rfl))) (Walks.tuple (A := A.in1) hh s.heap.objs.size a ne_a us) (fun j u st => st.1.typeIs) (k := i) (by omega) ⟨it1, ha1⟩ (Heap.lt_size eo1) (Heap.lt_size eo2)
    (fun g2 tk keep2 => ?_) (by rw [sizeLine_eq]; omega)))
  have len2 : (us.toList.drop i).length = us.size - i := by
    rw [List.length_drop, Array.length_toList]
  have mid : (us.toList.drop i).length - (n - 1 - i) = us.size + 1 - n := by omega
  show wpAny _ _ (if (us.toList.drop i).length < n - 1 - i then _ else _) _ _ _
  rw [if_neg (by omega)]
  show wpAny _ _ (newList ((us.toList.drop i).take ((us.toList.drop i).length - (n - 1 - i))) >>= fun d => pure (us.toList.take i ++ [d] ++ (us.toList.drop i).drop ((us.toList.drop i).length - (n - 1 - i)))) _ _ _
  rw [mid]
  refine wpAny_bind (wpAny_newList (s := { s with heap := g2, toks := tk }) (wpAny_pure (q g2 tk fun b o e => ?_)) ?_)
  · have hb : b ≠ s.heap.objs.size := Nat.ne_of_lt (Heap.lt_size e)
    exact keep2 b o hb (keep1.extBut b o hb (Heap.get?_push_of_some _ e))
  · rw [List.length_take, len2, sizeLine_eq]
    omega
end
section
open L2
variable {X : Cx} {pos : Pos}
def gStar (K : Frag) (n i : Nat) (t : TGs) : TG := fun v τ G Q => ∃ a xs, v = .ref a ∧ SqT K G a xs ∧ i < n ∧ n ≤ xs.length + 1 ∧ xs.length ≤ 10000 ∧
  ∀ D, G D = none → t (xs.take i ++ [.ref D] ++ (xs.drop i).drop (xs.length + 1 - n)) τ (upd G D (.lst ((xs.drop i).take (xs.length + 1 - n)))) Q
theorem pg_star {es es0 : List Expr} {k n i : Nat} {t : TGs} (hc : X.calm = true) (h : PGs X es0 t) (he : (assignEach es X.env).map (·.2) = (assignEach es0 X.env).map (·.2) := by rfl) (hn : (assignEach es X.env).length = n := by rfl)
    (hi : (assignEach es X.env).findIdx? (·.1) = some i := by rfl) : PG X (.Tuple es k pos) (gStar X.K n i t) := by
  refine ⟨fun pins s τ G v u Q I r hw => ?_⟩
  obtain ⟨a, xs, rfl, hq, h1, h2, h3, hw⟩ := hw
  cases r
  obtain ⟨us, rv, ht, hz⟩ := I.tuple hq
  have len := rv.length
  have sz : us.toArray.size = xs.length := by rw [List.size_toArray]; exact len.symm
  rw [assign_Tuple]
  refine wpAny_bind (wpAny_standAt ?_)
  unfold unpack
  rw [hn, hi]
  refine wpAny_bind (wpAny_holding (star_tup ht (I.ok.hd hc) h1 (by rw [sz]; exact h2) (by rw [sz]; omega) fun g tk keep => ?_))
  have no : s.heap.get? g.objs.size = none := by
    cases z : s.heap.get? g.objs.size with
    | none => rfl
    | some o => exact absurd (Heap.lt_size (keep _ _ z)) (Nat.lt_irrefl _)
  have nD := I.hok.gone no
  rw [he, sz]
  have I1 : Inv X pins τ (upd G g.objs.size (.lst ((xs.drop i).take (xs.length + 1 - n)))) { s with heap := g.push { cls := .type "list", data := .seq ((us.toArray.toList.drop i).take (xs.length + 1 - n)).toArray }, toks := tk } := by
    refine I.laidN (t' := tk) (fun b o e => Heap.get?_push_of_some _ (keep b o e)) no nD ⟨?_, _, 0, ?_, Heap.get?_push_size _ rfl⟩
    · rw [List.length_take, List.length_drop]
      exact Nat.le_trans (Nat.min_le_right _ _) (Nat.le_trans (Nat.sub_le _ _) hz)
    · exact (rv.drop i).take _
  refine h.run pins _ τ _ _ _ Q I1 ?_ (hw _ nD)
  exact ((rv.take i).append (.cons (show RelV (.ref g.objs.size) (.ref g.objs.size) from rfl) .nil)).append ((rv.drop i).drop _)
end
end Sr
/-! t * 0 and t * 1 of a tuple that is not empty -/
namespace Rt
open PySem PySem.Spec PyProof.Rows L2
theorem mul_one_ (l : Addr) (us : Array Value) (n : Nat) (dd : Option Addr) (sl : Array (Option Value)) (u : Tok) :
    Meets (Builtin.«tuple.__mul__» ⟨[.ref l, .int 1 u], []⟩) (fun _ R s => s.heap.get? l = some { cls := .type "tuple", dict := dd, data := .seq us n, slots := sl } ∧ R (.ok (.ret (Value.ref l))) s) :=
  .of_wp fun prog w A R s h => by
    obtain ⟨hp, g, d, tk, os⟩ := s
    obtain ⟨hl, h⟩ := h
    have f1 := AutoSeq1.idx_int
    have c0 : (decide ((1 : Int) < -(2 ^ 63)) || decide ((1 : Int) ≥ 2 ^ 63)) = false := by decide
    have c1 : (us.isEmpty || (1 : Int) == 1) = true := by simp
    wp_walk using AutoSeq1.wpAny_loadPart' hl
    repeat (first
      | (refine wpAny_ite_false (decide_eq_false (by rw [c0]; exact Bool.false_ne_true)) ?_; wp_walk using AutoSeq1.wpAny_loadPart' hl)
      | (refine wpAny_ite_true (decide_eq_true c1) ?_; wp_walk using AutoSeq1.wpAny_loadPart' hl)
      | (refine wpAny_ite_true (decide_eq_true (by decide)) ?_; wp_walk using AutoSeq1.wpAny_loadPart' hl))
    exact ⟨_, rfl, h⟩
theorem mul_zero_ (l : Addr) (us : Array Value) (n : Nat) (dd : Option Addr) (sl : Array (Option Value)) (u : Tok) (hus : us.isEmpty = false) :
    Meets (Builtin.«tuple.__mul__» ⟨[.ref l, .int 0 u], []⟩) (fun _ R s => s.heap.get? l = some { cls := .type "tuple", dict := dd, data := .seq us n, slots := sl } ∧
      R (.ok (.ret (Value.ref s.heap.objs.size))) { s with heap := s.heap.push { cls := Value.type "tuple", data := Data.seq #[] }, toks := s.toks }) :=
  .of_wp fun prog w A R s h => by
    obtain ⟨hp, g, d, tk, os⟩ := s
    obtain ⟨hl, h⟩ := h
    have f1 := AutoSeq1.idx_int
    have c0 : (decide ((0 : Int) < -(2 ^ 63)) || decide ((0 : Int) ≥ 2 ^ 63)) = false := by decide
    have c1 : (us.isEmpty || (0 : Int) == 1) = false := by rw [hus]; rfl
    have c2 : (decide ((0 : Int) ≤ 0) || us.isEmpty) = true := by simp
    have c5 : ¬ (#[] : Array Value).size > sizeLine := Nat.not_lt.mpr (Nat.zero_le _)
    wp_walk using AutoSeq1.wpAny_loadPart' hl
    repeat (first
      | (refine wpAny_ite_false (decide_eq_false (by rw [c0]; exact Bool.false_ne_true)) ?_; wp_walk using AutoSeq1.wpAny_loadPart' hl)
      | (refine wpAny_ite_false (decide_eq_false (by rw [c1]; exact Bool.false_ne_true)) ?_; wp_walk using AutoSeq1.wpAny_loadPart' hl)
      | (refine wpAny_ite_true (decide_eq_true c2) ?_; wp_walk using AutoSeq1.wpAny_loadPart' hl)
      | (refine wpAny_ite_false (decide_eq_false c5) ?_; wp_walk using AutoSeq1.wpAny_loadPart' hl))
    exact ⟨_, rfl, h⟩
def rMul1 (K : PySem.W.Frag) : R2 := fun x y G Q => ∃ l xs, x = .ref l ∧ SqT K G l xs ∧ xs ≠ [] ∧ ((y = .int 1 ∧ Q (.ref l) G) ∨ (y = .int 0 ∧ ∀ p, G p = none → Q (.ref p) (upd G p (.tup []))))
theorem op_mul1 {X : Cx} : OpR X (binaryOp .Mult) (rMul1 X.K) := by
  intro pins s τ G x y v u Q I rx ry h
  obtain ⟨l, xs, rfl, hT, hne, h⟩ := h
  cases rx
  obtain ⟨us, r, ⟨⟨cl, dd, dt, sl⟩, ho, hc, n, hd⟩, _⟩ := I.tuple hT
  simp only at hc hd
  subst hc hd
  have full : us.toArray.isEmpty = false := by
    cases us with
    | nil => exact absurd (List.eq_nil_of_length_eq_zero r.length) hne
    | cons a b => rfl
  rcases h with ⟨rfl, q⟩ | ⟨rfl, q⟩
  · obtain ⟨t, rfl⟩ := ry
    have step := int_rmul_tuple 1 t l us.toArray n dd sl
    exact wpAny_binaryOp_repeat_ref (T := "tuple") (U := "int") (by decide) ⟨_, ho, rfl⟩ (fun s' => typeIs_int s' 1 t) noFill_tuple_mul F.fills_int_mul F.slot_int_rmul repeat_tuple F.slot_int_index.lookup
      (call_meets F.slot_int_rmul (typeIs_int s 1 t) F.entry_int_rmul (F.args_int_rmul_2 _ _) step ⟨ho, rfl, ⟨_, ho, rfl⟩, call_meets F.slot_tuple_mul ⟨_, ho, rfl⟩ F.entry_tuple_mul (F.args_tuple_mul_2 _ _)
        (mul_one_ l us.toArray n dd sl t) ⟨ho, ⟨.ref l, G, I, rfl, q⟩⟩⟩)
  · obtain ⟨t, rfl⟩ := ry
    have step := int_rmul_tuple 0 t l us.toArray n dd sl
    exact wpAny_binaryOp_repeat_ref (T := "tuple") (U := "int") (by decide) ⟨_, ho, rfl⟩ (fun s' => typeIs_int s' 0 t) noFill_tuple_mul F.fills_int_mul F.slot_int_rmul repeat_tuple F.slot_int_index.lookup
      (call_meets F.slot_int_rmul (typeIs_int s 0 t) F.entry_int_rmul (F.args_int_rmul_2 _ _) step ⟨ho, rfl, ⟨_, ho, rfl⟩, call_meets F.slot_tuple_mul ⟨_, ho, rfl⟩ F.entry_tuple_mul (F.args_tuple_mul_2 _ _)
        (mul_zero_ l us.toArray n dd sl t full) ⟨ho, ⟨.ref s.heap.objs.size, _, I.laid (t' := s.toks) (o := .tup []) (fun _ _ z => Heap.get?_push_of_some _ z) (Nat.le_refl _) ⟨Nat.zero_le _, _, .nil, IsTup.new _ _⟩, rfl, q _ (I.hok.fresh (Nat.le_refl _))⟩⟩⟩)
end Rt
/-! enumerate(t), t a tuple -/
namespace Er
open PySem.Spec PyProof.Rows
open PyProof in
theorem newT {v : Value} {o : Obj} {G : Heap → Prop} (B : Begins v o G) :
    Meets (Builtin.«enumerate.__new__» ⟨[.type "enumerate", v], []⟩) (fun _ R s => G s.heap ∧
      R (.ok (.ret (.ref (s.heap.push o).objs.size))) { s with heap := (s.heap.push o).push { cls := .type "enumerate", data := .fields #[.none, .bool false, .ref s.heap.objs.size, rawInt 0, .none, .none] } }) :=
  .of_wp fun prog w A R s z => by
    obtain ⟨hh, gg, dd, kk, oo⟩ := s
    obtain ⟨h1, z⟩ := z
    have sb := sub_enumerate
    have go : ∀ {A' : Around} {E' : Value → Shared → Prop} {Q' : Value → Shared → Prop}, Q' (.ref hh.objs.size) ⟨hh.push o, gg, dd, kk, oo⟩ → wpAny (model prog w) A' (pyIter v) Q' E' ⟨hh, gg, dd, kk, oo⟩ := fun q => B.iter prog w _ _ ⟨hh, gg, dd, kk, oo⟩ _ h1 q
    wp_walk using go
    refine wpAny_stack_any fun st => wpAny_pure ?_
    split
    · rename_i c _ _ _ _ _
      cases (c == Value.type "enumerate") <;> (wp_walk using go; exact ⟨_, rfl, z⟩)
    · (wp_walk using go; exact ⟨_, rfl, z⟩)
section
variable {prog : Program} {w : World} {A : Around} {E : Value → Shared → Prop} {s : Shared}
theorem begins {v : Value} {o : Obj} {G : Heap → Prop} {Q : Value → Shared → Prop} (B : Begins v o G) (h1 : G s.heap)
    (k : ∀ h', IsEnum h' (s.heap.objs.size + 1) s.heap.objs.size 0 .none → h'.get? s.heap.objs.size = some o → (∀ b u, s.heap.get? b = some u → h'.get? b = some u) → Q (.ref (s.heap.objs.size + 1)) { s with heap := h' }) :
    wpAny (model prog w) A (call (.type "enumerate") [v]) Q E s := by
  refine callType_new F.called_enumerate (by decide) (F.typeCall_enumerate_1 _) (F.newCall_enumerate_1 _) (fun obj => F.args_object_init_2 obj _) F.entry_enumerate_new (newT B) ⟨h1, ?_⟩
  have hz : (s.heap.push o).objs.size = s.heap.objs.size + 1 := Heap.size_push ..
  show _ ∧ _
  rw [hz]
  have en := Heap.get?_push_size (s.heap.push o) (o := { cls := .type "enumerate", data := .fields #[.none, .bool false, .ref s.heap.objs.size, rawInt 0, .none, .none] }) rfl
  rw [hz] at en
  exact ⟨⟨_, en, rfl⟩, k _ en (Heap.get?_push_of_some _ (Heap.get?_push_size _ B.free)) fun b u x => Heap.get?_push_of_some _ (Heap.get?_push_of_some _ x)⟩
end
/-- the tuple at a, each item in a new pair with its number -/
def IteT (K : PySem.W.Frag) (a : Addr) : It :=
  ⟨fun i H => ∃ (xs : List V) (x : V), SqT K H a xs ∧ xs[i]? = some x, fun i H v H' => ∃ T x, v = .ref T ∧ H T = none ∧ H' = upd H T (.tup [.int (i : Nat), x]) ∧ ∀ xs, SqT K H a xs → xs[i]? = some x, fun i H => ∃ xs : List V, SqT K H a xs ∧ xs.length = i⟩
theorem turnT {P : Program} {w : World} {K : PySem.W.Frag} {elts : List Expr} {kk : Nat} {tpos : Pos} (a e it : Addr) :
    Turn P w K (.Tuple elts kk tpos) (IteT K a) [e, it] e (fun i h => (∃ old, IsEnum h e it ((i : Nat) : Int) old) ∧ h.IsTupleIter it a i ∧ e ≠ it ∧ a ≠ it ∧ e ≠ a) where
  mem := by simp
  obj := fun i h st b hb => by
    obtain ⟨⟨old, he⟩, ⟨o, ho, hc, hd⟩, _⟩ := st
    rcases (show b = e ∨ b = it by simpa using hb) with z | z
    · rw [z]; exact ⟨_, he, fun v q => nomatch q⟩
    · rw [z]; exact ⟨o, ho, fun v q => by rw [hd] at q; cases q⟩
  keep := fun i h h' st k => let ⟨⟨old, he⟩, hi, hne⟩ := st; ⟨⟨old, k e (by simp) _ he⟩, hi.at fun o q => k it (by simp) o q, hne⟩
  item := by
    intro X hP hw hK hc i pins s σ H E I hf st hg
    subst hP hw hK
    obtain ⟨⟨old, he⟩, hit, hne, hai, hea⟩ := st
    obtain ⟨xs, x, hq, hx⟩ := hg
    obtain ⟨its, rv, p, hz⟩ := I.tuple hq
    have p' : s.heap.IsTuple a its.toArray := p
    obtain ⟨u, hu, ru⟩ := rv.get hx
    have hel : e < s.heap.objs.size := Heap.lt_size he
    have hil : it < s.heap.objs.size := by obtain ⟨_, q, _⟩ := hit; exact Heap.lt_size q
    have lt : i < its.toArray.size := by rw [List.size_toArray]; exact (List.getElem?_eq_some_iff.mp hu).1
    refine wpAny_pyNext_enum_itemC (Draws.tuple (A := X.A.in1) (show X.A.in1.handled = none from I.ok.hd hc) it a hai its.toArray) he ⟨hit, p'⟩ lt hne (by simp [hne, hea]) fun y h' tk hy ho hs' hT hsz hk => ?_
    have ey : y = u := by
      have hy : its.toArray[i]? = some y := hy
      rw [List.getElem?_toArray, hu] at hy
      exact (Option.some.inj hy).symm
    subst ey
    refine ⟨_, rfl, wpAny_letOwnedTupleGo_enum (s := { s with heap := h', toks := tk + 1 }) ho fun h'' he' sb => ?_⟩
    have hT2 : h''.get? s.heap.objs.size = some { cls := .type "tuple", data := .seq #[.int i tk, y] } := (sb.2 _ (Nat.ne_of_gt hel)).trans hT
    have new : ObjOk X.prog X.w (upd H s.heap.objs.size (.tup [.int (i : Nat), x])) h'' s.heap.objs.size (.tup [.int (i : Nat), x]) := ⟨by show 2 ≤ sizeLine; decide, [.int i tk, y], .cons ⟨_, rfl⟩ (.cons ru .nil), ⟨_, hT2, rfl, _, rfl⟩⟩
    have I1 : Inv X pins σ (upd H s.heap.objs.size (.tup [.int (i : Nat), x])) { s with heap := h'', toks := tk + 1 } :=
      I.turnedNew (ch := [e, it]) (fun b ob hb q => (sb.2 b (fun z => hb (by simp [z]))).trans (hk b ob (fun z => hb (by simp [z])) (fun z => hb (by simp [z])) q)) hf (Nat.le_refl _) new
    refine ⟨.ref s.heap.objs.size, _, I1, rfl, ⟨_, x, rfl, I.hok.fresh (Nat.le_refl _), rfl, fun ys hys => by rw [I.tuple_inj hys hq]; exact hx⟩, ⟨⟨y, ?_⟩, hs'.1.at fun o q => (sb.2 it (Ne.symm hne)).trans q, hne, hai, hea⟩, fun b hb => ?_⟩
    · have e1 : ((i + 1 : Nat) : Int) = (i : Int) + 1 := by omega
      rw [e1]
      exact he'
    · have hb' : b < s.heap.objs.size := by
        rcases (show b = e ∨ b = it by simpa using hb) with z | z
        · rw [z]; exact hel
        · rw [z]; exact hil
      rw [upd_ne (Nat.ne_of_lt hb')]
      exact (hf b hb).1
  done := by
    intro X hP hw hK hc i pins s σ H E I hf st hg
    subst hP hw hK
    obtain ⟨⟨old, he⟩, hit, hne, hai, hea⟩ := st
    obtain ⟨xs, hq, hx⟩ := hg
    obtain ⟨its, rv, p, hz⟩ := I.tuple hq
    have p' : s.heap.IsTuple a its.toArray := p
    obtain ⟨f0, f1, f2, f3, f4, f5⟩ := hf it (by simp)
    have hl := rv.length
    have en : its.toArray.size = i := by rw [List.size_toArray]; omega
    subst en
    exact wpAny_pyNext_enum_endD (Draws.tuple (A := X.A.in1) (show X.A.in1.handled = none from I.ok.hd hc) it a hai its.toArray) he ⟨hit, p'⟩ fun h' eb => ⟨rfl, I.turned (t' := s.toks) (fun b o hb q => eb b o hb q) f0 f1 f3 f4 f5⟩
  self := fun A i s Q E st h => let ⟨⟨_, he⟩, _⟩ := st; wpAny_pyIter_enum he h
def iEnumT (K : PySem.W.Frag) (ta : TA) : TI := fun σ H R => ta σ H fun vs H1 => ∃ a xs, vs = [.ref a] ∧ SqT K H1 a xs ∧ R (IteT K a) H1
theorem pi_enumT {X : Cx} {e : Expr} {ta : TA} {p pos tpos : Pos} {elts : List Expr} {kk : Nat} (hg : Gl X "enumerate") (hm : X.mg "enumerate" = none) (ha : PA X [e] ta) (hs : starEach [e] X.env = [(false, eval e X.env)] := by rfl) :
    PI X (.Tuple elts kk tpos) (.Call (.Name "enumerate" p) [e] [] pos) (iEnumT X.K ta) := by
  refine ⟨fun pins s σ H R I h => ?_⟩
  refine Call_ (ld_blt I hg hm boot_enumerate (PyProof.Rows.callWith_type1 (thn (ha.run pos pins s σ H _ I h) fun us s1 ⟨vs, H1, I1, r1, q1⟩ => ?_) hs rfl))
  obtain ⟨a, xs, ex, hq, q⟩ := q1
  subst ex
  cases r1 with
  | cons r rr =>
    cases rr
    cases r
    obtain ⟨its, rv, p', hz⟩ := I1.tuple hq
    have pt : s1.heap.IsTuple a its.toArray := p'
    have al : a < s1.heap.objs.size := by obtain ⟨o, ho, _⟩ := id pt; exact Heap.lt_size ho
    refine begins (begins_tuple a its.toArray) pt fun h' he hit hk => wpAny_pyIter_enum he ?_
    have I2 : Inv X pins σ H1 { s1 with heap := h' } := I1.kept (t' := s1.toks) hk
    refine ⟨s1.heap.objs.size + 1, [s1.heap.objs.size + 1, s1.heap.objs.size], _, _, H1, rfl, I2, turnT a (s1.heap.objs.size + 1) s1.heap.objs.size, ⟨⟨.none, he⟩, ⟨_, hit, rfl, rfl⟩, Nat.succ_ne_self _, Nat.ne_of_lt al, Nat.ne_of_gt (Nat.lt_succ_of_lt al)⟩, fun b hb => ?_, q⟩
    have hle : s1.heap.objs.size ≤ b := by
      rcases (show b = s1.heap.objs.size + 1 ∨ b = s1.heap.objs.size by simpa using hb) with z | z
      · rw [z]; exact Nat.le_add_right _ _
      · rw [z]; exact Nat.le_refl _
    exact I1.fpOk hle (I1.hok.fresh hle)
theorem walk_enumT {K : PySem.W.Frag} {a : Addr} {xs : List V} : Walk (IteT K a) xs.length (fun H => SqT K H a xs) (fun i H v H' => ∃ T x, v = .ref T ∧ H T = none ∧ H' = upd H T (.tup [.int (i : Nat), x]) ∧ xs[i]? = some x) :=
  ⟨fun i _ hi q => ⟨xs, xs[i], q, List.getElem?_eq_getElem hi⟩, fun _ q => ⟨xs, q, rfl⟩, fun _ _ _ _ _ q ⟨t, x, h1, h2, h3, h4⟩ => ⟨t, x, h1, h2, h3, h4 xs q⟩⟩
end Er
/-! == and != of data without dicts, whatever their texts -/
namespace Pn
open PySem.Spec PyProof.Rows
section
variable {X : Cx}
def rEqP (K : PySem.W.Frag) : R2 := fun x y H Q => ∃ d e, Dp K H x d ∧ Dp K H y e ∧ d.plain = true ∧ e.plain = true ∧ d.depth ≤ 60 ∧ Q (.bl (PyData.eqv d e)) H
def rNeP (K : PySem.W.Frag) : R2 := fun x y H Q => ∃ d e, Dp K H x d ∧ Dp K H y e ∧ d.plain = true ∧ e.plain = true ∧ d.depth ≤ 60 ∧ Q (.bl (!PyData.eqv d e)) H
theorem op_neP (hu : X.A.units + 64 < cLine) : OpR X (compareOp .NotEq) (rNeP X.K) := by
  intro pins s σ H x y v u Q I rx ry h
  obtain ⟨d, e, hd, he, sd, se, dd, q⟩ := h
  obtain ⟨as, r1⟩ := Dp.reads I d x v hd rx
  obtain ⟨bs, r2⟩ := Dp.reads I e y u he ry
  exact SeqAt.ne_plain r1 r2 sd se (by omega) ⟨.bl _, H, I, rfl, q⟩
theorem op_eqP (hu : X.A.units + 64 < cLine) : OpR X (compareOp .Eq) (rEqP X.K) := by
  intro pins s σ H x y v u Q I rx ry h
  obtain ⟨d, e, hd, he, sd, se, dd, q⟩ := h
  obtain ⟨as, r1⟩ := Dp.reads I d x v hd rx
  obtain ⟨bs, r2⟩ := Dp.reads I e y u he ry
  exact SeqAt.eq_plain r1 r2 sd se (by omega) ⟨.bl _, H, I, rfl, q⟩
end
end Pn
namespace Od2
open PySem.Spec PyProof.Rows
def rDictD : List V → Hp → VK → Prop := fun xs H Q => ∃ (a : Addr) (kvs : List (Key × V)), xs = [.ref a] ∧ L2.Rd H a (.dK kvs) ∧ ∀ p, H p = none → Q (.ref p) (upd H p (.dK kvs))
theorem call_dict {X : Cx} : CallR X (.type "dict") rDictD := call_dictD
end Od2
namespace Ob
open PySem.Spec PyProof.Rows
section
variable {X : Cx} {CX : CXT} {k j : Nat} {C : Addr} {sp : Sp} {E : XK}
/-- x[k] and x[k] = v of the class at C -/
def GetCal (P : Program) (w : World) (K : PySem.W.Frag) (mg : Str → Option Value) (base : Heap) (CX : CXT) (C : Addr) (k : Nat) (m : Str) (sp : Sp) : Prop :=
  ∃ (g : Addr) (fd : FuncData) (ps : List Str), FnG P w K mg base CX k g fd ps sp ∧ Ow.SpC K C m g ∧ Binds K fd ps []
theorem getO {a b : Expr} {ta tb : TE} {pos : Pos} (M : GetCal X.prog X.w X.K X.mg X.base CX C k "__getitem__" sp) (g : X.A.guards = some []) (hr : Room j X.A) (hk : k + 1 ≤ j) (hx : Passes CX X E) (ha : PE X a ta) (hb : PE X b tb)
    (hs : ∀ (o i : Value), subscripted b true o i = runValue (.builtin "lifetime.subscript" ⟨[o, i], []⟩)) : PE X (.Subscript a b pos) (Ow.tGetO C sp E ta tb) := by
  obtain ⟨f, fd, ps, F, S, bd⟩ := M
  exact Ow.pe_getO S F g (hr.mono hk) bd hx ha hb hs
theorem setO (M : GetCal X.prog X.w X.K X.mg X.base CX C k "__setitem__" sp) (g : X.A.guards = some []) (hr : Room j X.A) (hk : k ≤ j) (hx : Passes CX X E) : PSet X (Ow.rSetO C sp E) := by
  obtain ⟨f, fd, ps, F, S, bd⟩ := M
  exact Ow.set_ownR S F g (hr.mono hk) bd hx
end
/-- what of the text an own class has -/
structure CF (K : PySem.W.Frag) (mg : Str → Option Value) (x : Str) (C : Addr) : Prop where
  cl : L2.Cls K C
  g : mg x = some (.ref C)
  ne : PySem.W.findIn K (.ref C) "__ne__" = some (some (.builtin "object.__ne__"))
  ob : PySem.W.mroIn K C (.type "object") = some true
/-- a method as the top has left it -/
def MethAt (K : PySem.W.Frag) (x qual : Str) (st : Stmt) (ps : List Str) (f : Addr) (fd : FuncData) : Prop := Fun K x qual st f fd ∧ Binds K fd ps []
section
variable {P : Program} {w : World} {K : PySem.W.Frag} {mg : Str → Option Value} {base : Heap}
theorem byG {x qual : Str} {st : Stmt} {ps N : List Str} {f : Addr} {fd : FuncData} {k : Nat} {sp : Sp} (D : MethAt K x qual st ps f fd) (S : FnScope N ps (defScope st)) (len : ∀ vs H Q E, sp vs H Q E → vs.length = ps.length)
    (inner : ∀ (cd : Value) (A : Around), A.guards = some [] → ∀ (outer : List Env) (s : Shared) (H : Hp) (vs : List V) (Q : VK) (E : XK),
      Room k (A.deeper (envOfC qual (defScope st) s.heap.objs.size f cd)) → sp vs H Q E →
      ∃ t, PSs (cxOf CX0 P w K mg base N qual (defScope st) f cd A outer s H E).nox (defBody st) t ∧ t { nx := fun _ H' => Q .non H', rt := Q } (start N vs) H) : FnG P w K mg base CX0 (k + 1) f fd ps sp :=
  defG0 D.1 S len inner
theorem byGX {x qual : Str} {st : Stmt} {ps N : List Str} {f : Addr} {fd : FuncData} {k : Nat} {sp : Sp} (D : MethAt K x qual st ps f fd) (S : FnScope N ps (defScope st)) (len : ∀ vs H Q E, sp vs H Q E → vs.length = ps.length)
    (inner : ∀ (cd : Value) (A : Around), A.guards = some [] → ∀ (outer : List Env) (s : Shared) (H : Hp) (vs : List V) (Q : VK) (E : XK),
      Room k (A.deeper (envOfC qual (defScope st) s.heap.objs.size f cd)) → sp vs H Q E →
      ∃ t, PSs (cxOf (L2.CX P w) P w K mg base N qual (defScope st) f cd A outer s H E) (defBody st) t ∧ t { nx := fun _ H' => Q .non H', rt := Q } (start N vs) H) : FnG P w K mg base (L2.CX P w) (k + 1) f fd ps sp :=
  defG D.1 S len inner
end
end Ob
namespace Ab
open PySem L2 Gk
def top (i : Nat) : Stmt := PySem.Challenge.pw_answersby_k04_bodies_looked_at.main.body.getD i (.Pass ⟨0, 0, 0, 0⟩)
def clsBody : Stmt → List Stmt
  | .ClassDef _ _ _ b _ _ _ _ _ _ _ => b
  | _ => []
def meth (i j : Nat) : Stmt := (clsBody (top i)).getD j (.Pass ⟨0, 0, 0, 0⟩)
structure Txt (K : PySem.W.Frag) (mg : Str → Option Value) : Prop where
  int : mg "int" = none
  len : mg "len" = none
  max : mg "max" = none
  min : mg "min" = none
  isinstance : mg "isinstance" = none
  range : mg "range" = none
  list : mg "list" = none
  dict : mg "dict" = none
  tuple : mg "tuple" = none
  set : mg "set" = none
  str : mg "str" = none
  bool : mg "bool" = none
  repr : mg "repr" = none
  all : mg "all" = none
  sum : mg "sum" = none
  zip : mg "zip" = none
  enumerate : mg "enumerate" = none

theorem one_ {n : Nat} (h : n + 64 < cLine) : n + 1 < cLine := by omega
theorem un80 {k : Nat} {A : Around} (r : Room k A) : A.units + 80 < cLine := by have := r.un; omega
/-! ### tables -/
def tab (l : List Str) (f : Str → V) : List (Key × V) := l.map fun o => (.inr o, f o)
theorem val_tab (l : List Str) (f : Str → V) {o : Str} (h : o ∈ l) : valV (tab l f) (.inr o) = some (f o) := by
  induction l with
  | nil => cases h
  | cons a l ih =>
    by_cases e : a = o
    · subst e
      simp [valV, tab]
    · have hm : o ∈ l := (List.mem_cons.mp h).resolve_left fun z => e z.symm
      have := ih hm
      simp only [valV, tab, List.map_cons] at this ⊢
      rw [List.find?_cons_of_neg (by simpa using e)]
      exact this
theorem none_tab (l : List Str) (f : Str → V) {o : Str} (h : o ∉ l) : valV (tab l f) (.inr o) = none := by
  induction l with
  | nil => rfl
  | cons a l ih =>
    have e : a ≠ o := fun z => h (by rw [z]; exact List.mem_cons_self)
    have := ih fun z => h (List.mem_cons_of_mem _ z)
    simp only [valV, tab, List.map_cons] at this ⊢
    rw [List.find?_cons_of_neg (by simpa using e)]
    exact this
def put (f : Str → V) (o : Str) (v : V) : Str → V := fun x => if x = o then v else f x
theorem put_tab (l : List Str) (f : Str → V) {o : Str} (v : V) (h : o ∈ l) : putK (tab l f) (.inr o) v = tab l (put f o v) := by
  have e : ((tab l f).any fun kv => decide (kv.1 = .inr o)) = true := by
    rw [List.any_eq_true]
    exact ⟨(.inr o, f o), List.mem_map.mpr ⟨o, h, rfl⟩, by simp⟩
  rw [putK, if_pos e]
  simp only [tab, List.map_map]
  refine List.map_congr_left fun x _ => ?_
  by_cases c : x = o
  · subst c; simp [put]
  · simp [put, c]
theorem putK_new (l : List Str) (f : Str → V) {o : Str} (v : V) (h : o ∉ l) : putK (tab l f) (.inr o) v = tab l f ++ [(.inr o, v)] := by
  have e : ¬ ((tab l f).any fun kv => decide (kv.1 = .inr o)) = true := by
    rw [List.any_eq_true]
    rintro ⟨kv, hm, hk⟩
    obtain ⟨x, hx, rfl⟩ := List.mem_map.mp hm
    have : x = o := by simpa using hk
    exact h (this ▸ hx)
  rw [putK, if_neg e]
theorem tab_snoc (l : List Str) (f : Str → V) (o : Str) : tab l f ++ [(.inr o, f o)] = tab (l ++ [o]) f := by simp [tab]
theorem tab_congr {l : List Str} {f g : Str → V} (h : ∀ o ∈ l, f o = g o) : tab l f = tab l g := List.map_congr_left fun o ho => by rw [h o ho]
theorem tab_len (l : List Str) (f : Str → V) : (tab l f).length = l.length := List.length_map ..
/-- the tables of the document -/
def ops : List Str := ["truth", "size", "each", "turned", "hash", "call", "member", "like", "unlike", "before", "behind", "grow"]
def menus : List (Str × List Str) := [("truth", ["truth", "length"]), ("size", ["length"]), ("each", ["walk", "item"]), ("turned", ["back", "count"]), ("hash", ["hash"]), ("call", ["call"]), ("member", ["has", "walk", "item"]), ("like", ["own", "turned"]),
  ("unlike", ["own", "like", "turned", "turned_like"]), ("before", ["own", "turned"]), ("behind", ["own", "turned"]), ("grow", ["grow", "plus"])]
def menu (o : Str) : List Str := (menus.lookup o).getD []
def flagsW : List Str := ["bars_hash", "ends_same", "ends_true"]
/-! ### heaps that go on -/
theorem sqT_same {K : PySem.W.Frag} {H H' : Hp} {p : Addr} {xs : List V} (s : Same H H') (h : SqT K H p xs) : SqT K H' p xs := Rd.tupS s h
/-- what stands at a is no tuple -/
def NoTup (H : Hp) (a : Addr) : Prop := ∀ u, H a = some u → (∀ xs, u ≠ .tup xs) ∧ ∀ o xs, u ≠ .frz o (.tup xs)
theorem sqT_upd {K : PySem.W.Frag} {H : Hp} {a p : Addr} {z : HO} {xs : List V} (n : NoTup H a) (h : SqT K H p xs) : SqT K (upd H a z) p xs := by
  rcases h with (h | ⟨o, h⟩) | h
  · refine .inl (.inl ?_)
    rw [upd_ne (fun e => by subst e; exact (n _ h).1 _ rfl)]
    exact h
  · refine .inl (.inr ⟨o, ?_⟩)
    rw [upd_ne (fun e => by subst e; exact (n _ h).2 _ _ rfl)]
    exact h
  · exact .inr h
theorem nt_dK {H : Hp} {a : Addr} {kvs : List (Key × V)} (h : H a = some (.dK kvs)) : NoTup H a := fun u e => by
  rw [h] at e; cases e; exact ⟨fun _ => by simp, fun _ _ => by simp⟩
theorem nt_lst {H : Hp} {a : Addr} {xs : List V} (h : H a = some (.lst xs)) : NoTup H a := fun u e => by
  rw [h] at e; cases e; exact ⟨fun _ => by simp, fun _ _ => by simp⟩
theorem nt_ins {H : Hp} {a C dx : Addr} {fs : List (Str × V)} (h : H a = some (.ins C dx fs)) : NoTup H a := fun u e => by
  rw [h] at e; cases e; exact ⟨fun _ => by simp, fun _ _ => by simp⟩
theorem nt_none {H : Hp} {a : Addr} (h : H a = none) : NoTup H a := fun u e => by rw [h] at e; cases e
theorem tup_ty {K : PySem.W.Frag} {H : Hp} {p : Addr} {xs : List V} (h : SqT K H p xs) : TyX K H (.ref p) (.type "tuple") := by
  rcases h with (h | ⟨o, h⟩) | ⟨o, its, n, h, c, _⟩
  · exact .base (.tup h)
  · exact .fTuple h
  · exact .kTuple h c
end Ab
/-! a try whose clauses name what they catch, one after the other; own methods and signs within a try -/
namespace Et
open PySem.Spec PyProof.Rows
abbrev Clause := Value × (Addr → Value → Option Addr → TS)
/-- the ends behind a suite: the name is gone -/
def goneE (i : Nat) (D : Ends) : Ends := { nx := fun u K => D.nx (u.set i none) K, rt := D.rt, bk := fun u K => D.bk (u.set i none) K, ct := fun u K => D.ct (u.set i none) K }
/-- what the clauses wish of an exception; slot i is the name's -/
def wAsN (K : PySem.W.Frag) (i : Nat) (out : WX) (D : Ends) : List Clause → WX
  | [] => out
  | (c, t) :: r => fun cls d τ G => ∃ y, PySem.W.exmOne K cls c = some y ∧ (y = true → ∀ e, G e = none → t e cls d (goneE i D) (τ.set i (some (.ref e))) G) ∧ (y = false → wAsN K i out D r cls d τ G)
inductive Clauses (X : Cx) (n : Str) : List ExceptHandler → List Clause → Prop
  | nil : Clauses X n [] []
  | cons {x : Str} {c : Value} {t : Addr → Value → Option Addr → TS} {b : Stmt} {bs : List Stmt} {p q : Pos} {hs : List ExceptHandler} {l : List Clause} (hc : Names X x c)
      (hb : ∀ (e : Addr) (oe : Obj) (cls : Value) (d : Option Addr) (pn : List (Addr × Obj)), Zc cls d oe → (∃ vs, oe.data = .fields vs) → PSs (X.suite e ((e, oe) :: pn)) (b :: bs) (t e cls d)) (r : Clauses X n hs l) :
      Clauses X n (.ExceptHandler (some (.Name x p)) (some n) (b :: bs) q :: hs) ((c, t) :: l)
/-- an exception at e that has come down to the frame of X: sI is the state without it -/
structure Down (X : Cx) (B : Heap) (pins : List (Addr × Obj)) (τ : L2.St) (G : Hp) (sI : Shared) (e : Addr) (cls : Value) (d : Option Addr) (s : Shared) : Prop where
  inv : Inv X pins τ G sI
  nb : ∀ b o, sI.heap.get? b = some o → b ∉ frs X.stack → B.get? b = some o
  up : sI.heap.UpToSlots s.heap
  fl : HandSPX.FlyingZ B (X.env :: X.outer) e (Zc cls d) s.heap
  na : G e = none
  os : s.os = sI.os
  ag : AllBare s.gens
section
variable {X : Cx} {B : Heap} {pins : List (Addr × Obj)} {τ : L2.St} {G : Hp} {sI s : Shared} {e : Addr} {cls : Value} {d : Option Addr}
theorem Down.here (z : Down X B pins τ G sI e cls d s) : Inv X pins τ G s := Inv.landed z.inv z.nb z.fl.1 z.up z.os z.ag
theorem Down.held (z : Down X B pins τ G sI e cls d s) (hf : X.env.frame = some X.env.locals) :
    ∃ oe vs, s.heap.get? e = some oe ∧ Zc cls d oe ∧ oe.data = .fields vs ∧ Inv (X.suite e ((e, oe) :: (X.pn ++ pins))) [] τ G s := by
  obtain ⟨oe, vs, h1, h2, h3⟩ := z.fl.there
  have no : e ∉ frs (X.env :: X.outer) := fun m => by
    obtain ⟨_, o, ho, hn⟩ := z.fl.2.2.1.mem m
    rw [ho] at h1
    exact hn vs (by rw [Option.some.inj h1]; exact h3)
  refine ⟨oe, vs, h1, h2, h3, z.here.suite h1 h3 z.na (fun q => no ?_) fun m => no ?_⟩
  · exact List.mem_filterMap.mpr ⟨X.env, List.mem_cons_self, by rw [q]; exact hf⟩
  · obtain ⟨v, hv, w⟩ := List.mem_filterMap.mp m
    exact List.mem_filterMap.mpr ⟨v, List.mem_cons_of_mem _ hv, w⟩
/-- no clause is left: it goes on -/
theorem Down.out {W : WX} {D : Ends} (z : Down X B pins τ G sI e cls d s) (hs : X.stack = X.env :: X.outer) (hf : X.env.frame = some X.env.locals) (tk : Takes X W) (w : W cls d τ G) :
    wpAny (model X.prog X.w) X.A (handleBy (.ref e) X.env []) (SP X pins D) X.xe s := by
  have fl := z.fl
  obtain ⟨_, _, _, oe, vs, T, oT, ts, h1, _, h3, h4, _⟩ := id fl
  have off : wpAny (model X.prog X.w) X.A (setFlight (.ref e) X.env.frame) (fun _ s' => wpAny (model X.prog X.w) X.A (throw (.ref e) : Sem Flow) (SP X pins D) X.xe s') X.xe s := by
    rw [hf]
    refine HandSPX.setFlight_upZ fl fun h4 hh up => wpAny_throw (tk _ _ ⟨e, B, sI, pins, τ, G, cls, d, rfl, z.inv, z.nb, z.up.trans up, ?_, z.na, z.os, z.ag, w⟩)
    rw [hs]
    exact .inr (.inr hh)
  refine wpAny_handleBy_nil ?_
  unfold PySem.passOn
  refine wpAny_bind (wpAny_field h1 h3 h4 ?_)
  rw [if_neg (show ¬ ((Value.ref T == Value.none) = true) by simp)]
  first
    | exact wpAny_bind (wpAny_pure (wpAny_bind off))
    | exact wpAny_bind off
/-- the clauses, one after the other -/
theorem Down.asked {i : Nat} {n : Str} {W : WX} {D : Ends} (hs : X.stack = X.env :: X.outer) (hf : X.env.frame = some X.env.locals) (hN : X.N.Nodup) (hi : X.N[i]? = some n) (hl : X.env.kindOf n = some .local) (tk : Takes X W)
    {hds : List ExceptHandler} {l : List Clause} (hc : Clauses X n hds l) : ∀ {s : Shared}, Down X B pins τ G sI e cls d s → wAsN X.K i W D l cls d τ G → wpAny (model X.prog X.w) X.A (handleBy (.ref e) X.env hds) (SP X pins D) X.xe s := by
  induction hc with
  | nil => exact fun z w => z.out hs hf tk w
  | @cons x c t b bs p q r l' names su _ ih =>
    rintro s z ⟨y, ym, yes, no⟩
    obtain ⟨oe, vs, h1, h2, h3, S⟩ := z.held hf
    have kind : PySem.W.Looks (model X.prog X.w) s.heap (typeOf (.ref e)) cls := fun A Q E s' k q => wpAny_typeOf_ref (k _ _ h1) (by rw [h2.1]; exact q)
    have asks := PySem.W.exm_one (M := model X.prog X.w) z.here.kIn kind ym
    refine wpAny_handleBy_cons (codeAny_handlers_test ?_) (by intro q; cases q)
    have nm : ∀ {Q : Value → Shared → Prop} {E : Value → Shared → Prop}, Q c s → wpAny (model X.prog X.w) (X.A.mark (some (.ref e))) (eval (.Name x p) X.env) Q E s := fun {Q E} k => by
      obtain ⟨g1, g2, g3⟩ := names
      rcases g3 with m | ⟨m, v, nn⟩
      · exact ld_glob (X := X.suite e ((e, oe) :: (X.pn ++ pins))) S g1 m k g2
      · exact ld_blt (X := X.suite e ((e, oe) :: (X.pn ++ pins))) S g1 m v k nn g2
    refine nm (asks.here ?_)
    cases y with
    | false => exact ih z (no rfl)
    | true =>
      refine codeAny_handlers_suite_as (HandSPX.lands_againZ z.fl fun h4 fl4 up4 => ?_)
      have z4 : Down X B pins τ G sI e cls d { s with heap := h4 } := ⟨z.inv, z.nb, z.up.trans up4, fl4, z.na, z.os, z.ag⟩
      obtain ⟨oe4, vs4, k1, k2, k3, S4⟩ := z4.held hf
      refine store_ok (X := X.suite e ((e, oe4) :: (X.pn ++ pins))) (v := .ref e) S4 hN hi (.inl hl) rfl (fun s5 S5 => ?_) (.inr hl)
      refine wpAny_mono ((su e oe4 cls d (X.pn ++ pins) k2 ⟨_, k3⟩).run [] s5 _ G _ S5 (yes rfl e z.na)) (fun f s6 q6 => ?_) (fun _ _ bad => False.elim bad)
      have leave : ∀ {τ' : L2.St} {G' : Hp} {R : Shared → Prop}, Inv (X.suite e ((e, oe4) :: (X.pn ++ pins))) [] τ' G' s6 → (∀ s7, Inv X pins (τ'.set i none) G' s7 → R s7) →
          wpAny (model X.prog X.w) X.A (do bindName X.env n .none; unbindBehindTheSuite X.env n q) (fun _ s7 => R s7) X.xe s6 := fun a k => gone_ok (a.unsuite z.inv.ok) hN hi hl k
      match f, q6 with
      | .next, q6 => obtain ⟨_, _, a, k⟩ := q6; exact leave a fun _ J => ⟨_, _, J, k⟩
      | .brk, q6 => obtain ⟨_, _, a, k⟩ := q6; exact leave a fun _ J => ⟨_, _, J, k⟩
      | .cont, q6 => obtain ⟨_, _, a, k⟩ := q6; exact leave a fun _ J => ⟨_, _, J, k⟩
      | .ret _, q6 => obtain ⟨_, _, _, a, v, k⟩ := q6; exact leave a fun _ J => ⟨_, _, _, J, v, k⟩
end
section
variable {X : Cx} {n : Str} {i : Nat} {body : List Stmt} {h0 : ExceptHandler} {hds : List ExceptHandler} {l : List Clause} {pos : Pos} {tb : WX → TS} {out : WX}
theorem ps_tryN (hs : X.stack = X.env :: X.outer) (hf : X.env.frame = some X.env.locals) (hN : X.N.Nodup) (hi : X.N[i]? = some n) (hl : X.env.kindOf n = some .local) (tk : Takes X out)
    (hb : ∀ (W : WX) (pn : List (Addr × Obj)) (xe : Value → Shared → Prop), Takes (X.tr pn xe) W → PassesOwn (model X.prog X.w) X.A X.env xe → PSs (X.tr pn xe) body (tb W))
    (hc : Clauses X n (h0 :: hds) l) : PS X (.Try body (h0 :: hds) [] [] pos) (fun D τ G => tb (wAsN X.K i out D l) D τ G) := by
  refine ⟨fun pins s τ G D I q => wpAny_Try_except (wpAny_mono ((hb (wAsN X.K i out D l) (X.pn ++ pins) (fun u t => wpAny (model X.prog X.w) X.A (noteFrame u X.env) (fun _ t' => wpAny (model X.prog X.w) X.A (setFlight u none)
    (fun _ t'' => wpAny (model X.prog X.w) X.A (handleBy u X.env (h0 :: hds)) (SP X pins D) X.xe t'') X.xe t') X.xe t) ?_ PassesOwn.looking).run [] s τ G D (I.toTry _) q) ?_ fun _ _ z => z)⟩
  · rintro u t ⟨e, B, sI, pins', τ', G', cls, d, rfl, J, nb, up, sky, na, os, ag, w⟩
    have J' : Inv X pins τ' G' sI := J.ofTry I.ok
    have sky' : Sky B (X.env :: X.outer) e (Zc cls d) X.env.locals t.heap := by rw [← hs]; exact sky
    exact Sky.land Zc.steady (by rw [I.ok.frames, hs]) hf sky' fun h3 fl3 up3 => Down.asked hs hf hN hi hl tk hc (s := { t with heap := h3 }) ⟨J', nb, up.trans up3, fl3, na, os, ag⟩ w
  · intro f t z
    match f, z with
    | .next, z => obtain ⟨_, _, J, k⟩ := z; exact wpAny_execs_nil ⟨_, _, J.ofTry I.ok, k⟩
    | .brk, z => obtain ⟨_, _, J, k⟩ := z; exact ⟨_, _, J.ofTry I.ok, k⟩
    | .cont, z => obtain ⟨_, _, J, k⟩ := z; exact ⟨_, _, J.ofTry I.ok, k⟩
    | .ret _, z => obtain ⟨_, _, _, J, v, k⟩ := z; exact ⟨_, _, _, J.ofTry I.ok, v, k⟩
end
/-! ### within a try -/
section
variable {X : Cx} {W : WX} {k j : Nat} {f C : Addr} {fd : FuncData} {ps : List Str} {sp : Sp}
theorem flowS {pins : List (Addr × Obj)} {τ : L2.St} {G : Hp} {s : Shared} {Q : VK} {r : Result} {s' : Shared} (tk : Takes X W) (I : Inv X pins τ G s) (h : CR (L2.CX X.prog X.w) X.stack X.prog X.w G s Q (WE W τ) r s') : wants (EP X pins τ Q) X.xe r s' := by
  match r, h with
  | .error e, z => exact passAt tk τ pins G s e s' I z
  | .ok (.ret u), z => exact I.after z
  | .ok .next, z => exact z.elim
  | .ok .brk, z => exact z.elim
  | .ok .cont, z => exact z.elim
def tMethS (m : Str) (C : Addr) (sp : Sp) (E : L2.St → XK) (ta : TE) (t : TA) : TE := fun τ G Q => ta τ G fun x G1 => ∃ a dx fs, x = .ref a ∧ G1 a = some (.ins C dx fs) ∧ fs.lookup m = none ∧ t τ G1 fun vs G2 => sp (x :: vs) G2 Q (E τ)
theorem methS {m : Str} {o e : Expr} {es : List Expr} {apos pos : Pos} {ta : TE} {t : TA} {pl : Sem Bool} (tk : Takes X W) (he : PE X o ta) (c : L2.Cls X.K C) (M : Ob.MCal X.prog X.w X.K X.mg X.base (L2.CX X.prog X.w) C k m sp) (g : X.A.guards = some []) (hr : Room j X.A) (hk : k ≤ j) (ha : PA X (e :: es) t)
    (hst : starEach (e :: es) X.env = (false, eval e X.env) :: starEach es X.env := by rfl) (hpl : (backTo pos (starEach es X.env)).any (·.1) = false := by rfl)
    (ht : eval (.Call (.Attribute o m apos) (e :: es) [] pos) X.env = (do
      let ov ← eval o X.env
      standAt apos.atName
      let (f, first) ← holding [ov] (getMethod ov m pl)
      callWith pos f first (backTo pos (starEach (e :: es) X.env)) (backToKw pos (keywordEach [] X.env))) := by rfl) : PE X (.Call (.Attribute o m apos) (e :: es) [] pos) (tMethS m C sp (WE W) ta t) := by
  obtain ⟨f, fd, ps, F, hm, hb⟩ := M
  refine ⟨fun pins s τ G Q I h => PySem.W.methodCall_KW (pl := pl) (thn (he.run pins s τ G _ I h) fun u s1 ⟨x, G1, I1, rx, a, dx, fs, ex, ea, l, q⟩ => ?_) ht⟩
  subst ex
  obtain rfl : u = Value.ref a := rx
  refine getmeth_ok I1 ea c hm l (PySem.W.callWith_K (first := [.ref a]) (h₀ := X.base) I.ok.mod.kin hm.kp (thn (ha.run pos pins s1 τ G1 _ I1 q) fun us s2 ⟨vs, G2, I2, r, q2⟩ => ⟨I2.kIn, wpAny_call ?_⟩) hst hpl)
  exact codeAny_mono (Ob.goG F g (hr.mono hk) I2.env0 I2.kIn hb (.cons (show RelV (.ref a) (.ref a) from rfl) r) q2) fun r s' z => flowS tk I2 z
/-- x[k] -/
def tGetS (C : Addr) (sp : Sp) (E : L2.St → XK) (ta tb : TE) : TE := fun τ G Q => ta τ G fun x G1 => tb τ G1 fun y G2 => ∃ a dx fs, x = .ref a ∧ G2 a = some (.ins C dx fs) ∧ sp [.ref a, y] G2 Q (E τ)
theorem getS {a b : Expr} {ta tb : TE} {pos : Pos} (tk : Takes X W) (M : Ob.GetCal X.prog X.w X.K X.mg X.base (L2.CX X.prog X.w) C k "__getitem__" sp) (gd : X.A.guards = some []) (hr : Room j X.A) (hk : k + 1 ≤ j) (ha : PE X a ta) (hb' : PE X b tb)
    (hs : ∀ (o i : Value), subscripted b true o i = runValue (.builtin "lifetime.subscript" ⟨[o, i], []⟩)) : PE X (.Subscript a b pos) (tGetS C sp (WE W) ta tb) := by
  obtain ⟨f, fd, ps, F, S, hb⟩ := M
  refine ⟨fun pins s τ G Q I h => Subscript_ (binT ha hb' I h fun v u s2 x y G2 I2 rx ry q => ?_)⟩
  obtain ⟨p, dx, fs, rfl, hp, q⟩ := q
  obtain rfl : v = Value.ref p := rx
  obtain ⟨m, fr⟩ := I2.fr
  obtain ⟨od, J⟩ := Ow.instAt I2 hp
  have isf : PySem.W.isFn X.K (.ref f) = true := by show (PySem.W.typeIn X.K (.ref f) == some (.type "function")) = true; rw [S.sp.fn] <;> rfl
  refine PySem.W.sub_K fr I2.ok.mod.kin J S.sp.at_ S.fi isf (wpAny_call ?_) (hs _ _)
  exact codeAny_mono (Ob.goG F (A := X.A.in1) gd (hr.mono hk).in1 I2.env0.in1 I2.kIn hb (.cons (show RelV (.ref p) (.ref p) from rfl) (.cons ry .nil)) q) fun r s' z => flowS tk I2 z
/-- x[k] = v -/
def gSetS (C : Addr) (sp : Sp) (E : L2.St → XK) (to ti : TE) : TG := fun v τ G Q => to τ G fun x G1 => ti τ G1 fun y G2 => ∃ a dx fs, x = .ref a ∧ G2 a = some (.ins C dx fs) ∧ sp [.ref a, y, v] G2 (fun _ G3 => Q τ G3) (E τ)
theorem pg_setS {o i : Expr} {to ti : TE} {pos : Pos} (tk : Takes X W) (M : Ob.GetCal X.prog X.w X.K X.mg X.base (L2.CX X.prog X.w) C k "__setitem__" sp) (gd : X.A.guards = some []) (hr : Room j X.A) (hk : k ≤ j) (ho : PE X o to) (hi : PE X i ti)
    (ha : ∀ v, assign (.Subscript o i pos) X.env v = (do
      let b ← holding [v] (eval o X.env)
      let c ← holding [v, b] (eval i X.env)
      standAt pos
      holding [v, b, c] (setItem b c v)
      release [v, b, c] []) := by intro _; rfl) : PG X (.Subscript o i pos) (gSetS C sp (WE W) to ti) := by
  obtain ⟨f, fd, ps, F, S, hb⟩ := M
  refine ⟨fun pins s τ G v u Q I r h => ?_⟩
  rw [ha]
  refine wpAny_bind (wpAny_holding (thn (ho.run pins s τ G _ I h) fun b s1 ⟨x, G1, I1, r1, q1⟩ => ?_))
  refine wpAny_bind (wpAny_holding (thn (hi.run pins s1 τ G1 _ I1 q1) fun c s2 ⟨y, G2, I2, r2, p, dx, fs, ep, hp, q2⟩ => ?_))
  subst ep
  obtain rfl : b = Value.ref p := r1
  obtain ⟨_, _, _, hob, _⟩ := I2.hok p _ hp
  refine wpAny_bind (wpAny_standAt (wpAny_bind (wpAny_holding (Ow.set_own I2.kIn hob rfl S.dq S.sp (wpAny_call ?_)))))
  refine codeAny_mono (Ob.goG F gd (hr.mono hk) I2.env0 I2.kIn hb (.cons (show RelV (.ref p) (.ref p) from rfl) (.cons r2 (.cons r .nil))) q2) fun z s' zz => ?_
  have := flowS tk I2 zz
  match z, this with
  | .error _, t => exact t
  | .ok (.ret w), t =>
    obtain ⟨_, G3, I3, _, q3⟩ := t
    exact wpAny_release ⟨τ, G3, I3, q3⟩
  | .ok .next, t => exact t.elim
  | .ok .brk, t => exact t.elim
  | .ok .cont, t => exact t.elim
end
end Et
/-! C(..) within a try -/
namespace Mt
open PySem.Spec PyProof.Rows
section
variable {X : Cx} {W : WX} {k j : Nat} {f C : Addr} {fd : FuncData} {ps : List Str} {sp : Sp} {x : Str} {e : Expr} {es : List Expr} {p pos : Pos} {t : TA}
def tMakeS (C : Addr) (sp : Sp) (E : L2.St → XK) (t : TA) : TE := fun σ H Q => t σ H fun vs H1 => ∀ x dx, H1 x = none → H1 dx = none → dx ≠ x → sp (.ref x :: vs) (upd (upd H1 dx (.own x)) x (.ins C dx [])) (fun v H2 => v = .non ∧ Q (.ref x) H2) (E σ)
theorem runS {pins : List (Addr × Obj)} {σ : L2.St} {H : Hp} {s : Shared} {Q : VK} {us : List Value} {vs : List V} (M : Mk X.K C f) (F : FnG X.prog X.w X.K X.mg X.base (L2.CX X.prog X.w) k f fd ps sp) (g : X.A.guards = some []) (hr : Room (k + 1) X.A) (hb : Binds X.K fd ps []) (tk : Takes X W) (I : Inv X pins σ H s) (r : Vals vs us)
    (h : ∀ x dx, H x = none → H dx = none → dx ≠ x → sp (.ref x :: vs) (upd (upd H dx (.own x)) x (.ins C dx [])) (fun v H2 => v = .non ∧ Q (.ref x) H2) (WE W σ)) : wpAny (model X.prog X.w) X.A (call (.ref C) us) (EP X pins σ Q) X.xe s := by
  have hq := h (s.heap.objs.size + 1) s.heap.objs.size (I.hok.fresh (Nat.le_succ _)) (I.hok.fresh (Nat.le_refl _)) (Nat.ne_of_lt (Nat.lt_succ_self _))
  have I2 := Inv.made (C := C) I
  have run := Ob.goG F (A := X.A.under (.builtin "type.__call__" ⟨.ref C :: us, []⟩)) (Ob.guards_make.trans g) (hr.make C us []) (I2.env0.make C us []) I2.kIn hb (.cons (show RelV (.ref (s.heap.objs.size + 1)) (.ref (s.heap.objs.size + 1)) from rfl) r) hq
  refine wpAny_call (make_map (f := f) I.kIn M.makes M.init (beq_iff_eq.mp M.fn) (codeAny_mono run fun r s' hq' => ?_))
  match r, hq' with
  | .error er, z => exact passAt tk σ pins _ _ er s' I2 z
  | .ok .next, z => exact z.elim
  | .ok .brk, z => exact z.elim
  | .ok .cont, z => exact z.elim
  | .ok (.ret u), z =>
    obtain ⟨v, H', I3, rv, ev, q3⟩ := I2.after z
    subst ev
    exact ⟨rv, ⟨V.ref (s.heap.objs.size + 1), H', I3, rfl, q3⟩⟩
theorem makeS (tk : Takes X W) (M : Ob.MkCal X.prog X.w X.K X.mg X.base (L2.CX X.prog X.w) C k x sp) (gd : X.A.guards = some []) (hr : Room j X.A) (hk : k + 1 ≤ j) (ha : PA X (e :: es) t) (hg : Gl X x := by rfl)
    (hdb : (x == ("__debug__" : Str)) = false := by decide) (he : starEach (e :: es) X.env = (false, eval e X.env) :: starEach es X.env := by rfl) (hpl : (backTo pos (starEach es X.env)).any (·.1) = false := by rfl) :
    PE X (.Call (.Name x p) (e :: es) [] pos) (tMakeS C sp (WE W) t) := by
  obtain ⟨f, fd, ps, F, M, hb, hm⟩ := M
  refine ⟨fun pins s σ H Q I h => wpAny_Call_Name_kw (ld_glob I hg hm ?_ hdb)⟩
  exact PySem.W.callWith_K (h₀ := X.base) I.ok.mod.kin M.kp (thn (ha.run pos pins s σ H _ I h) fun us s1 ⟨vs, H1, I1, r, q⟩ => ⟨I1.kIn, runS M F gd (hr.mono hk) hb tk I1 r q⟩) he hpl
end
theorem makeR {C : Addr} {sp : Sp} {E : L2.St → XK} {t : TA} {σ : L2.St} {H : Hp} {Q : VK} (k : t σ H fun vs H1 => ∀ x dx, H1 x = none → H1 dx = none → dx ≠ x → sp (.ref x :: vs) (upd (upd H1 dx (.own x)) x (.ins C dx [])) (fun v H2 => v = .non ∧ Q (.ref x) H2) (E σ)) : tMakeS C sp E t σ H Q := k
end Mt
namespace Ab
open PySem.Spec PyProof.Rows
def isStr : V → Bool
  | .str _ => true
  | _ => false
def isBl : V → Bool
  | .bl _ => true
  | _ => false
def isInt : V → Bool
  | .int _ => true
  | .bl _ => true
  | _ => false
/-- a value's own kind, as isinstance tells it -/
structure Kd (K : PySem.W.Frag) (H : Hp) (v : V) (tn : String) : Prop where
  ty : TyX K H v (.type tn)
  s : kitB tn "str" = some (isStr v)
  i : kitB tn "int" = some (isInt v)
  b : kitB tn "bool" = some (isBl v)
def isIn (v : V) (ws : List Str) : Bool := match v with
  | .str s => decide (s ∈ ws)
  | _ => false
def isNum : V → Bool
  | .int _ => true
  | _ => false
theorem isi {K : PySem.W.Frag} {H : Hp} {v : V} {tn c : String} {b : Bool} {Q : VK} (h : TyX K H v (.type tn)) (k : kitB tn c = some b) (q : Q (.bl b) H) : rIsi K [v, .ty c] H Q :=
  ⟨v, .ty c, .type tn, .type c, b, rfl, .ty c, h, kit_ty k, q⟩
theorem inT {K : PySem.W.Frag} {H : Hp} {x : V} {p : Addr} {xs : List V} {Q : VK} {neg : Bool} (h : SqT K H p xs) (hx : flatV x = true) (ha : xs.all flatV = true) (k : Q (.bl (if neg then !inV x xs else inV x xs)) H) : rIn K neg x (.ref p) H Q := ⟨p, xs, rfl, .inr h, hx, ha, k⟩
theorem inV_str (w : Str) (l : List Str) : inV (.str w) (l.map V.str) = decide (w ∈ l) := by
  induction l with
  | nil => rfl
  | cons a l ih =>
    show (eqV (.str a) (.str w) || inV (.str w) (l.map V.str)) = _
    rw [ih]
    show ((a == w) || _) = _
    by_cases e : a = w
    · subst e; simp
    · have e' : ¬ w = a := fun z => e z.symm
      simp [e, e']
theorem flat_strs (l : List Str) : (l.map V.str).all flatV = true := by
  rw [List.all_eq_true]
  intro x hx
  obtain ⟨s, _, rfl⟩ := List.mem_map.mp hx
  rfl
section
variable {P : Program} {w : World} {K : PySem.W.Frag} {mg : Str → Option Value} {base : Heap}
abbrev sIs_number : Stmt := top 6
abbrev nIs_number : List Str := ["value"]
theorem scIs_number : FnScope nIs_number ["value"] (defScope sIs_number) := ⟨rfl, rfl, rfl, by decide +kernel, rfl, by decide +kernel, by decide +kernel⟩
def spNum (K : PySem.W.Frag) : Sp := fun vs H Q _ => ∃ (v : V) (tn : String), vs = [v] ∧ Kd K H v tn ∧ Q (.bl (isNum v)) H
theorem ok_number (T : Txt K mg) (D : DefAt K mg "is_number" sIs_number ["value"]) : CalG P w K mg base 1 "is_number" (spNum K) := by
  refine D.by scIs_number (fun vs H Q E h => ?_) (fun f cd A hg outer s H vs Q E hr h => ?_)
  · obtain ⟨v, tn, rfl, _⟩ := h
    rfl
  · obtain ⟨v, tn, rfl, k, q⟩ := h
    refine ⟨_, (pss_one (ps_ret (pe_and (pe_callB (r := rIsi K) call_isi (by rfl) T.isinstance (by decide +kernel) (pa_cons (pv 0) (pa_cons (pe_bltn (v := .ty "int") (by rfl) T.int (by decide +kernel) rfl) pa_nil))) (pe_one (pe_not (pe_callB (r := rIsi K) call_isi (by rfl) T.isinstance (by decide +kernel) (pa_cons (pv 0) (pa_cons (pe_bltn (v := .ty "bool") (by rfl) T.bool (by decide +kernel) rfl) pa_nil)))))))), ?_⟩
    repeat walk_at "rd"
    refine isi k.ty k.i ?_
    repeat walk_at "rd"
    refine Rd.bool (fun c => ?_) (fun c => ?_)
    · repeat walk_at "rd"
      refine isi k.ty k.b ?_
      repeat walk_at "rd"
      have e : isNum v = !isBl v := by cases v <;> first | rfl | cases c
      rw [← e]
      exact q
    · have e : isNum v = false := by cases v <;> first | rfl | cases c
      rw [e] at q
      exact q
abbrev sIs_one_of : Stmt := top 7
abbrev nIs_one_of : List Str := ["value", "words"]
theorem scIs_one_of : FnScope nIs_one_of ["value", "words"] (defScope sIs_one_of) := ⟨rfl, rfl, rfl, by decide +kernel, rfl, by decide +kernel, by decide +kernel⟩
def spOneOf (K : PySem.W.Frag) : Sp := fun vs H Q _ => ∃ (v : V) (p : Addr) (tn : String) (ws : List Str), vs = [v, .ref p] ∧ Kd K H v tn ∧ SqT K H p (ws.map V.str) ∧ Q (.bl (isIn v ws)) H
theorem ok_one_of (T : Txt K mg) (D : DefAt K mg "is_one_of" sIs_one_of ["value", "words"]) : CalG P w K mg base 1 "is_one_of" (spOneOf K) := by
  refine D.by scIs_one_of (fun vs H Q E h => ?_) (fun f cd A hg outer s H vs Q E hr h => ?_)
  · obtain ⟨v, p, tn, ws, rfl, _⟩ := h
    rfl
  · obtain ⟨v, p, tn, ws, rfl, k, hp, q⟩ := h
    refine ⟨_, (pss_one (ps_ret (pe_and (pe_callB (r := rIsi K) call_isi (by rfl) T.isinstance (by decide +kernel) (pa_cons (pv 0) (pa_cons (pe_bltn (v := .ty "str") (by rfl) T.str (by decide +kernel) rfl) pa_nil))) (pe_one (pe_cmpR (r := rIn K false) op_in_seq (pv 0) (pv 1) (by rfl)))))), ?_⟩
    repeat walk_at "rd"
    refine isi k.ty k.s ?_
    repeat walk_at "rd"
    refine Rd.bool (fun c => ?_) (fun c => ?_)
    · obtain ⟨z, rfl⟩ : ∃ z, v = .str z := by cases v <;> first | exact ⟨_, rfl⟩ | cases c
      repeat walk_at "rd"
      refine inT hp rfl (flat_strs _) ?_
      have e : (if (false : Bool) = true then !inV (.str z) (ws.map V.str) else inV (.str z) (ws.map V.str)) = decide (z ∈ ws) := by rw [inV_str]; rfl
      rw [e]
      exact q
    · have e : isIn v ws = false := by cases v <;> first | rfl | cases c
      rw [e] at q
      exact q
abbrev sCheck_method : Stmt := top 14
abbrev nCheck_method : List Str := ["method"]
theorem scCheck_method : FnScope nCheck_method ["method"] (defScope sCheck_method) := ⟨rfl, rfl, rfl, by decide +kernel, rfl, by decide +kernel, by decide +kernel⟩
def spCheck (K : PySem.W.Frag) (C : Addr) (ws : List Str) : Sp := fun vs H Q E => ∃ (v : V) (tn : String), vs = [v] ∧ Kd K H v tn ∧ (isIn v ws = true → Q .non H) ∧ (isIn v ws = false → ∀ d, H d = none → E (.ref C) (some d) (upd H d (.xd [(("value" : Str), v)])))
theorem ok_check_method (T : Txt K mg) {C p_METHODS : Addr} {ws : List Str} (g_METHODS : mg "METHODS" = some (.ref p_METHODS)) (tM : ∀ H, SqT K H p_METHODS (ws.map V.str)) (T_NoName : Ex.ErrC K mg "NoName" "value" C) (M_NoName : Ex.InitOk P w K mg base "value" C)
    (D : DefAt K mg "check_method" sCheck_method ["method"]) (CIs_one_of : CalG P w K mg base 1 "is_one_of" (spOneOf K)) : Ex.CalX P w K mg base 3 "check_method" (spCheck K C ws) := by
  refine Ex.byX D scCheck_method (fun vs H Q E h => ?_) (fun f cd A hg outer s H vs Q E hr h => ?_)
  · obtain ⟨v, tn, rfl, _⟩ := h
    rfl
  · obtain ⟨v, tn, rfl, k, q1, q2⟩ := h
    refine ⟨_, (pss_one (ps_if (pt_not (pt_val (pe_cG CIs_one_of hg hr (by decide) (pa_cons (pv 0) (pa_cons (pe_glob (v := .ref p_METHODS) (by rfl) g_METHODS rfl) pa_nil)))))
  (pss_one (ps_raise rfl (takes_of rfl rfl rfl rfl) (Ex.pmkE T_NoName M_NoName hr (by decide) (pa_cons (pv 0) pa_nil))))
  pss_nil)), ?_⟩
    repeat walk_at "rd"
    refine ⟨v, p_METHODS, tn, ws, rfl, k, tM H, ?_⟩
    repeat walk_at "rd"
    refine Rd.bool (fun c => ?_) (fun c => ?_)
    · have c' : isIn v ws = false := by simpa using c
      refine Ex.mk ?_
      repeat walk_at "rd"
      exact Ex.made (q2 c')
    · have c' : isIn v ws = true := by simpa using c
      repeat walk_at "rd"
      exact q1 c'
end
end Ab
namespace Ab
open PySem.Spec PyProof.Rows
/-! ### the table of the document -/
def methods : List Str := ["truth", "length", "item", "walk", "back", "has", "like", "unlike", "before", "behind", "hash", "grow", "plus", "call"]
def operations : List Str := ["truth", "size", "each", "turned", "hash", "call", "member", "like", "unlike", "before", "behind", "grow"]
def kinds : List (Str × Str) := [("truth", "flag"), ("length", "count"), ("item", "item"), ("walk", "walker"), ("back", "walker"), ("has", "flag"), ("like", "flag"), ("unlike", "flag"), ("before", "flag"), ("behind", "flag"), ("hash", "count"), ("grow", "any"), ("plus", "any"), ("call", "any")]
def kindOf (s : Str) : Str := (kinds.lookup s).getD Str.empty
def others : List Str := ["has", "like", "unlike", "before", "behind", "grow", "plus"]
def decliners : List Str := ["like", "unlike", "before", "behind", "grow", "plus"]
def ones : List Str := ["truth", "size", "each", "turned", "hash", "call"]
/-- an error out of the class at C, that keeps v -/
def Out (C : Addr) (v : V) (H : Hp) (E : XK) : Prop := ∀ d, H d = none → E (.ref C) (some d) (upd H d (.xd [(("value" : Str), v)]))
section
variable {P : Program} {w : World} {K : PySem.W.Frag} {mg : Str → Option Value} {base : Heap}
abbrev sKind_of : Stmt := top 15
abbrev nKind_of : List Str := ["method"]
theorem scKind_of : FnScope nKind_of ["method"] (defScope sKind_of) := ⟨rfl, rfl, rfl, by decide +kernel, rfl, by decide +kernel, by decide +kernel⟩
def spKind (K : PySem.W.Frag) (C : Addr) : Sp := fun vs H Q E => ∃ (v : V) (tn : String), vs = [v] ∧ Kd K H v tn ∧ (∀ s, v = .str s → s ∈ methods → Q (.str (kindOf s)) H) ∧ (isIn v methods = false → Out C v H E)
theorem isIn_str {v : V} {ws : List Str} (h : isIn v ws = true) : ∃ s, v = .str s ∧ s ∈ ws := by
  cases v <;> first | (rename_i s; exact ⟨s, rfl, of_decide_eq_true h⟩) | cases h
theorem ok_kind_of (T : Txt K mg) {C p_KINDS : Addr} (g_KINDS : mg "KINDS" = some (.ref p_KINDS)) (tK : ∀ s ∈ methods, KDct K w p_KINDS s (.str (kindOf s)))
    (D : DefAt K mg "kind_of" sKind_of ["method"]) (CCheck_method : Ex.CalX P w K mg base 3 "check_method" (spCheck K C methods)) : Ex.CalX P w K mg base 4 "kind_of" (spKind K C) := by
  refine Ex.byX D scKind_of (fun vs H Q E h => ?_) (fun f cd A hg outer s H vs Q E hr h => ?_)
  · obtain ⟨v, tn, rfl, _⟩ := h
    rfl
  · obtain ⟨v, tn, rfl, k, q1, q2⟩ := h
    refine ⟨_, (pss_cons (ps_expr (Ex.pe_x CCheck_method hg hr (by decide) (takes_of rfl rfl rfl rfl) (pa_cons (pv 0) pa_nil)))
  (pss_one (ps_ret (pe_ix (r := rIxD K w) ix_kdict (pe_glob (v := .ref p_KINDS) (by rfl) g_KINDS rfl) (pv 0) (fun _ _ => rfl))))), ?_⟩
    repeat walk_at "rd"
    refine ⟨v, tn, rfl, k, fun c => ?_, q2⟩
    obtain ⟨s, rfl, hs⟩ := isIn_str c
    repeat walk_at "rd"
    exact ⟨p_KINDS, s, _, rfl, rfl, tK s hs, q1 s rfl hs⟩
def spIn (K : PySem.W.Frag) (C : Addr) (ms ws : List Str) : Sp := fun vs H Q E => ∃ (v : V) (tn : String), vs = [v] ∧ Kd K H v tn ∧ (∀ s, v = .str s → s ∈ ms → Q (.bl (decide (s ∈ ws))) H) ∧ (isIn v ms = false → Out C v H E)
abbrev sTakes_other : Stmt := top 16
abbrev nTakes_other : List Str := ["method"]
theorem scTakes_other : FnScope nTakes_other ["method"] (defScope sTakes_other) := ⟨rfl, rfl, rfl, by decide +kernel, rfl, by decide +kernel, by decide +kernel⟩
theorem ok_takes_other (T : Txt K mg) {C p_OTHER_TAKERS : Addr} {ws : List Str} (g_OTHER_TAKERS : mg "OTHER_TAKERS" = some (.ref p_OTHER_TAKERS)) (tO : ∀ H, SqT K H p_OTHER_TAKERS (ws.map V.str))
    (D : DefAt K mg "takes_other" sTakes_other ["method"]) (CCheck_method : Ex.CalX P w K mg base 3 "check_method" (spCheck K C methods)) : Ex.CalX P w K mg base 4 "takes_other" (spIn K C methods ws) := by
  refine Ex.byX D scTakes_other (fun vs H Q E h => ?_) (fun f cd A hg outer s H vs Q E hr h => ?_)
  · obtain ⟨v, tn, rfl, _⟩ := h
    rfl
  · obtain ⟨v, tn, rfl, k, q1, q2⟩ := h
    refine ⟨_, (pss_cons (ps_expr (Ex.pe_x CCheck_method hg hr (by decide) (takes_of rfl rfl rfl rfl) (pa_cons (pv 0) pa_nil)))
  (pss_one (ps_ret (pe_cmpR (r := rIn K false) op_in_seq (pv 0) (pe_glob (v := .ref p_OTHER_TAKERS) (by rfl) g_OTHER_TAKERS rfl) (by rfl))))), ?_⟩
    repeat walk_at "rd"
    refine ⟨v, tn, rfl, k, fun c => ?_, q2⟩
    obtain ⟨s, rfl, hs⟩ := isIn_str c
    repeat walk_at "rd"
    refine inT (tO H) rfl (flat_strs _) ?_
    have e : (if (false : Bool) = true then !inV (.str s) (ws.map V.str) else inV (.str s) (ws.map V.str)) = decide (s ∈ ws) := by rw [inV_str]; rfl
    rw [e]
    exact q1 s rfl hs
abbrev sMay_decline : Stmt := top 17
abbrev nMay_decline : List Str := ["method"]
theorem scMay_decline : FnScope nMay_decline ["method"] (defScope sMay_decline) := ⟨rfl, rfl, rfl, by decide +kernel, rfl, by decide +kernel, by decide +kernel⟩
theorem ok_may_decline (T : Txt K mg) {C p_DECLINERS : Addr} {ws : List Str} (g_DECLINERS : mg "DECLINERS" = some (.ref p_DECLINERS)) (tO : ∀ H, SqT K H p_DECLINERS (ws.map V.str))
    (D : DefAt K mg "may_decline" sMay_decline ["method"]) (CCheck_method : Ex.CalX P w K mg base 3 "check_method" (spCheck K C methods)) : Ex.CalX P w K mg base 4 "may_decline" (spIn K C methods ws) := by
  refine Ex.byX D scMay_decline (fun vs H Q E h => ?_) (fun f cd A hg outer s H vs Q E hr h => ?_)
  · obtain ⟨v, tn, rfl, _⟩ := h
    rfl
  · obtain ⟨v, tn, rfl, k, q1, q2⟩ := h
    refine ⟨_, (pss_cons (ps_expr (Ex.pe_x CCheck_method hg hr (by decide) (takes_of rfl rfl rfl rfl) (pa_cons (pv 0) pa_nil)))
  (pss_one (ps_ret (pe_cmpR (r := rIn K false) op_in_seq (pv 0) (pe_glob (v := .ref p_DECLINERS) (by rfl) g_DECLINERS rfl) (by rfl))))), ?_⟩
    repeat walk_at "rd"
    refine ⟨v, tn, rfl, k, fun c => ?_, q2⟩
    obtain ⟨s, rfl, hs⟩ := isIn_str c
    repeat walk_at "rd"
    refine inT (tO H) rfl (flat_strs _) ?_
    have e : (if (false : Bool) = true then !inV (.str s) (ws.map V.str) else inV (.str s) (ws.map V.str)) = decide (s ∈ ws) := by rw [inV_str]; rfl
    rw [e]
    exact q1 s rfl hs
end
end Ab
namespace Ab
open PySem.Spec PyProof.Rows
section
variable {K : PySem.W.Frag} {H : Hp}
theorem kd_str (z : Str) : Kd K H (.str z) "str" := ⟨.base (.str z), (by show kitB "str" "str" = some true; decide +kernel), (by show kitB "str" "int" = some false; decide +kernel), (by show kitB "str" "bool" = some false; decide +kernel)⟩
theorem kd_int (i : Int) : Kd K H (.int i) "int" := ⟨.base (.int i), rfl, rfl, rfl⟩
theorem kd_bl (b : Bool) : Kd K H (.bl b) "bool" := ⟨.base (.bl b), rfl, rfl, rfl⟩
theorem kd_non : Kd K H .non "NoneType" := ⟨.base .non, rfl, rfl, rfl⟩
theorem kd_tup {p : Addr} {xs : List V} (h : SqT K H p xs) : Kd K H (.ref p) "tuple" := ⟨tup_ty h, rfl, rfl, rfl⟩
theorem lst_ty {p : Addr} {xs : List V} (h : SqL K H p xs) : TyX K H (.ref p) (.type "list") := by
  rcases h with (h | ⟨o, h⟩) | ⟨o, its, n, h, c, _⟩
  · exact .base (.lst h)
  · exact .base (.frz h)
  · exact .kList h c
theorem kd_lst {p : Addr} {xs : List V} (h : SqL K H p xs) : Kd K H (.ref p) "list" := ⟨lst_ty h, rfl, rfl, rfl⟩
theorem dp_kd {v : V} {d : PyData} (h : Dp K H v d) : ∃ tn, Kd K H v tn := by
  cases h with
  | non => exact ⟨_, kd_non⟩
  | bl b => exact ⟨_, kd_bl b⟩
  | int i => exact ⟨_, kd_int i⟩
  | str z => exact ⟨_, kd_str z⟩
  | lst a b => exact ⟨_, kd_lst a⟩
  | tup a b => exact ⟨_, kd_tup a⟩
end
theorem tyX_mono {K : PySem.W.Frag} {H H' : Hp} {v : V} {t : Value} (s : Same H H') (h : TyX K H v t) : TyX K H' v t := by
  cases h with
  | base b =>
    refine .base ?_
    cases b with
    | non => exact .non
    | bl x => exact .bl x
    | int x => exact .int x
    | str x => exact .str x
    | flt x => exact .flt x
    | lst e => exact .lst (s _ _ e)
    | frz e => exact .frz (s _ _ e)
    | tup e => exact .tup (s _ _ e)
    | dK e => exact .dK (s _ _ e)
    | dT e => exact .dT (s _ _ e)
    | ins e a b c d f => exact .ins (s _ _ e) a b c d f
  | byt b => exact .byt b
  | set e => exact .set (s _ _ e)
  | kList e c => exact .kList e c
  | kTuple e c => exact .kTuple e c
  | kDict e c => exact .kDict e c
  | fTuple e => exact .fTuple (s _ _ e)
  | fDict e => exact .fDict (s _ _ e)
theorem Kd.mono {K : PySem.W.Frag} {H H' : Hp} {v : V} {tn : String} (s : Same H H') (k : Kd K H v tn) : Kd K H' v tn := ⟨tyX_mono s k.ty, k.s, k.i, k.b⟩
def rolesOf (m : Str) : List Str := if m ∈ others then ["self", "other"] else ["self"]
def answerW : List Str := ["yes", "no", "raise"]
def askOne : List Str := ["truth", "size", "hash"]
def askTwo : List Str := ["member", "like", "unlike", "before", "behind"]
def bodyKinds : List Str := ["flag", "count"]
def partW : List Str := ["not", "if"]
def wordsU : List Str := ["yes", "no", "raise", "further", "decline", "count", "ask", "not", "if", "truth", "size", "hash", "member", "like", "unlike", "before", "behind", "self", "other", "maybe", "1", "each", "me"]
def aloneD (m z : Str) (t : Bool) : Bool := if z = "further" then t else if z = "decline" then t && decide (m ∈ decliners) else decide (z ∈ answerW)
def roleD (m : Str) : PyData → Bool
  | .str z => decide (z ∈ rolesOf m)
  | _ => false
def inD (ws : List Str) : PyData → Bool
  | .str z => decide (z ∈ ws)
  | _ => false
def cntD : PyData → Bool
  | .int i => decide (0 ≤ i) && decide (i ≤ 4)
  | _ => false
def askD (m : Str) : List PyData → Bool
  | [o, r] => inD askOne o && roleD m r
  | [o, r, q] => inD askTwo o && roleD m r && roleD m q && !(PyData.eqv r q)
  | _ => false
def cntL : List PyData → Bool
  | [c] => cntD c
  | _ => false
/-- a node by itself: its word w, what is behind it -/
def wordD (m w : Str) (ds : List PyData) (t : Bool) : Bool :=
  if w = "not" then ds.length == 1 else if w = "if" then ds.length == 3
  else if w = "count" then cntL ds
  else if w = "ask" then askD m ds else ds.isEmpty && aloneD m w t
def nodeD (m : Str) (t : Bool) : PyData → Bool
  | .tuple (.str w :: ds) => wordD m w ds t
  | _ => false
def kidsD : PyData → List PyData
  | .tuple (.str w :: ds) => if w ∈ partW then ds else []
  | _ => []
def tailsW (w : Str) (t : Bool) : List Bool := if w = "if" then [false, t, t] else if w = "not" then [false] else []
def tailsD (t : Bool) : PyData → List Bool
  | .tuple (.str w :: _) => tailsW w t
  | _ => []
/-- a node that waits: its depth, and whether it is at a tail -/
abbrev Wt := PyData × Nat × Bool
def kidsZ (z : Wt) : List Wt := ((kidsD z.1).zip (tailsD z.2.2 z.1)).map fun p => (p.1, z.2.1 + 1, p.2)
/-- the first wrong node, k numbers are left -/
def goW (m : Str) : Nat → List Wt → Option Nat
  | _, [] => none
  | 0, _ :: _ => some 16
  | k + 1, z :: st => if z.2.1 ≤ 6 ∧ nodeD m z.2.2 z.1 = true then goW m k (kidsZ z ++ st) else some (16 - (k + 1))
mutual
/-- the things that the law makes -/
def okU : PyData → Bool
  | .none => true
  | .bool _ => true
  | .int i => decide (0 ≤ i) && decide (i ≤ 5)
  | .str z => decide (z ∈ wordsU)
  | .list xs => okUA xs
  | .tuple xs => okUA xs
  | .dict _ => false
def okUA : List PyData → Bool
  | [] => true
  | x :: xs => okU x && okUA xs
end
theorem okUA_iff : ∀ {xs : List PyData}, okUA xs = true ↔ ∀ x ∈ xs, okU x = true
  | [] => by simp [okUA]
  | x :: xs => by
    rw [okUA, Bool.and_eq_true, okUA_iff (xs := xs)]
    simp
theorem dpT {K : PySem.W.Frag} {H : Hp} {v : V} {ds : List PyData} (h : Dp K H v (.tuple ds)) : ∃ p xs, v = .ref p ∧ SqT K H p xs ∧ DpAll K H xs ds := by
  cases h with
  | tup a b => exact ⟨_, _, rfl, a, b⟩
theorem dpS {K : PySem.W.Frag} {H : Hp} {v : V} {z : Str} (h : Dp K H v (.str z)) : v = .str z := by cases h; rfl
theorem dpI {K : PySem.W.Frag} {H : Hp} {v : V} {i : Int} (h : Dp K H v (.int i)) : v = .int i := by cases h; rfl
theorem dpC {K : PySem.W.Frag} {H : Hp} {xs : List V} {d : PyData} {ds : List PyData} (h : DpAll K H xs (d :: ds)) : ∃ x r, xs = x :: r ∧ Dp K H x d ∧ DpAll K H r ds := by
  cases h with
  | cons a b => exact ⟨_, _, rfl, a, b⟩
theorem dpN {K : PySem.W.Frag} {H : Hp} {xs : List V} (h : DpAll K H xs []) : xs = [] := by cases h; rfl
theorem dpa_len {K : PySem.W.Frag} {H : Hp} : ∀ {xs : List V} {ds : List PyData}, DpAll K H xs ds → xs.length = ds.length
  | _, _, .nil => rfl
  | _, _, .cons _ b => by rw [List.length_cons, List.length_cons, dpa_len b]
mutual
theorem dp_mono {K : PySem.W.Frag} {H H' : Hp} (s : Same H H') : ∀ {v : V} {d : PyData}, Dp K H v d → Dp K H' v d
  | _, _, .non => .non
  | _, _, .bl b => .bl b
  | _, _, .int i => .int i
  | _, _, .str x => .str x
  | _, _, .lst a b => .lst (s.seq a) (dpa_mono s b)
  | _, _, .tup a b => .tup (sqT_same s a) (dpa_mono s b)
theorem dpa_mono {K : PySem.W.Frag} {H H' : Hp} (s : Same H H') : ∀ {vs : List V} {ds : List PyData}, DpAll K H vs ds → DpAll K H' vs ds
  | _, _, .nil => .nil
  | _, _, .cons a b => .cons (dp_mono s a) (dpa_mono s b)
end
theorem dp_isIn {K : PySem.W.Frag} {H : Hp} {v : V} {d : PyData} (ws : List Str) (h : Dp K H v d) : isIn v ws = inD ws d := by cases h <;> rfl
theorem dp_isStr {K : PySem.W.Frag} {H : Hp} {v : V} {d : PyData} (h : Dp K H v d) : isStr v = (match d with | .str _ => true | _ => false) := by cases h <;> rfl
theorem role_inD (m : Str) (d : PyData) : inD (rolesOf m) d = roleD m d := by cases d <;> rfl
def isCnt (v : V) : Bool := match v with
  | .int i => decide (0 ≤ i) && decide (i ≤ 4)
  | _ => false
theorem dp_isCnt {K : PySem.W.Frag} {H : Hp} {v : V} {d : PyData} (h : Dp K H v d) : isCnt v = cntD d := by cases h <;> rfl
theorem offI {A B : Prop} (h : B) : if false = true then A else B := by
  rw [if_neg Bool.false_ne_true]
  exact h
theorem cut_tail {x : V} {r : List V} : cutV (x :: r) (some 1) none = r := by
  unfold cutV
  have e1 : HT.sIx (x :: r).length 0 (some 1) = 1 := by simp [HT.sIx]
  have e2 : HT.sIx (x :: r).length (x :: r).length none = r.length + 1 := by simp [HT.sIx]
  rw [e1, e2]
  simp
theorem cutG {K : PySem.W.Frag} {a : Addr} {xs : List V} {lo hi : Option Int} {H : Hp} {Q : VK} (h : SqT K H a xs) (k : ∀ t H', Same H H' → SqT K H' t (cutV xs lo hi) → Q (.ref t) H') : rSlA K (.ref a) lo hi H Q := by
  refine ⟨a, xs, rfl, h, fun c => k a H (Same.refl _) ?_, fun _ p hp => k p _ (Rd.sNew hp) (.inl (.inl upd_same))⟩
  have e : cutV xs lo hi = xs := by
    unfold cutV
    rw [c.1, c.2]
    simp
  rw [e]
  exact h
abbrev rInKd (K : PySem.W.Frag) (p : Addr) : R2 := fun x y H Q => ∃ (z : Str) (r : Option Value), x = .str z ∧ y = .ref p ∧ PySem.W.nsIn K p z = some r ∧ Q (.bl r.isSome) H
theorem op_inKd {X : Cx} {p : Addr} {es : Array DictEntry} {n : Nat} (D : KDict X.K X.w p es n) : OpR X (compareOp .In) (rInKd X.K p) := op_in_kd D
/-- PARTS -/
structure PartsA (K : PySem.W.Frag) (w : World) (mg : Str → Option Value) (p : Addr) : Prop where
  g : mg "PARTS" = some (.ref p)
  D : ∃ es n, KDict K w p es n
  h : ∀ z ∈ wordsU, ∃ r, PySem.W.nsIn K p z = some r ∧ r.isSome = decide (z ∈ partW)
  n1 : KDct K w p "not" (.int 1)
  n3 : KDct K w p "if" (.int 3)
theorem starR {K : PySem.W.Frag} {n i : Nat} {t : TGs} {a : Addr} {xs : List V} {σ : L2.St} {H : Hp} {Q : L2.St → Hp → Prop} (h : SqT K H a xs) (h1 : i < n) (h2 : n ≤ xs.length + 1) (h3 : xs.length ≤ 10000)
    (k : ∀ D, H D = none → t (xs.take i ++ [.ref D] ++ (xs.drop i).drop (xs.length + 1 - n)) σ (upd H D (.lst ((xs.drop i).take (xs.length + 1 - n)))) Q) : Sr.gStar K n i t (.ref a) σ H Q := ⟨a, xs, rfl, h, h1, h2, h3, k⟩
theorem chainR {r1 r2 : R2} {ta tb tc : TE} {σ : L2.St} {H : Hp} {Q : VK} (k : tChain r1 r2 ta tb tc σ H Q) : tChain r1 r2 ta tb tc σ H Q := k
theorem wordsU_ok : ∀ z ∈ wordsU, PyData.strOk z = true := by decide +kernel
theorem str_sh {z : Str} (h : z ∈ wordsU) : SeqAt.shaped (.str z) = true := by
  show (PyData.canLay0 (.str z) && decide (PyData.depth (.str z) ≤ 64)) = true
  rw [show PyData.canLay0 (.str z) = true from by simpa [PyData.canLay0] using wordsU_ok z h]
  simp [PyData.depth]
theorem eqv_str (a b : Str) : PyData.eqv (.str a) (.str b) = decide (a = b) := by
  simp only [PyData.eqv]
  by_cases e : a = b
  · subst e; simp
  · simp [e]
section
variable {P : Program} {w : World} {K : PySem.W.Frag} {mg : Str → Option Value} {base : Heap}
abbrev sIs_count : Stmt := top 18
abbrev nIs_count : List Str := ["value"]
theorem scIs_count : FnScope nIs_count ["value"] (defScope sIs_count) := ⟨rfl, rfl, rfl, by decide +kernel, rfl, by decide +kernel, by decide +kernel⟩
def spCnt (K : PySem.W.Frag) : Sp := fun vs H Q _ => ∃ (v : V) (tn : String), vs = [v] ∧ Kd K H v tn ∧ Q (.bl (isCnt v)) H
theorem ok_count (T : Txt K mg) {t4 : Tok} (g_MOST_COUNT : mg "MOST_COUNT" = some (.int 4 t4)) (D : DefAt K mg "is_count" sIs_count ["value"]) (CIs_number : CalG P w K mg base 1 "is_number" (spNum K)) : CalG P w K mg base 2 "is_count" (spCnt K) := by
  refine D.by scIs_count (fun vs H Q E h => ?_) (fun f cd A hg outer s H vs Q E hr h => ?_)
  · obtain ⟨v, tn, rfl, _⟩ := h
    rfl
  · obtain ⟨v, tn, rfl, kd, q⟩ := h
    refine ⟨_, (pss_one (ps_ret (pe_and (pe_cG CIs_number hg hr (by decide) (pa_cons (pv 0) pa_nil)) (pe_one (pe_chain op_le op_le pe_int (pv 0) (pe_glob (v := .int 4) (by rfl) g_MOST_COUNT ⟨_, rfl⟩)))))), ?_⟩
    repeat walk_at "rd"
    refine ⟨v, tn, rfl, kd, ?_⟩
    repeat walk_at "rd"
    refine Rd.bool (fun c => ?_) (fun c => ?_)
    · obtain ⟨i, rfl⟩ : ∃ i, v = .int i := by cases v <;> first | exact ⟨_, rfl⟩ | cases c
      have q : Q (.bl (decide (0 ≤ i) && decide (i ≤ 4))) H := q
      unfold tChain
      repeat walk_at "rd"
      refine Rd.bool (fun c => ?_) (fun c => ?_)
      · rw [c, Bool.true_and] at q
        repeat walk_at "rd"
        exact q
      · rw [c, Bool.false_and] at q
        exact q
    · have e : isCnt v = false := by cases v <;> first | rfl | cases c
      rw [e] at q
      exact q
abbrev sIs_role : Stmt := top 28
abbrev nIs_role : List Str := ["method", "value", "roles"]
theorem scIs_role : FnScope nIs_role ["method", "value"] (defScope sIs_role) := ⟨rfl, rfl, rfl, by decide +kernel, rfl, by decide +kernel, by decide +kernel⟩
def spRole (K : PySem.W.Frag) : Sp := fun vs H Q _ => ∃ (m : Str) (v : V) (tn : String), vs = [.str m, v] ∧ m ∈ methods ∧ Kd K H v tn ∧ ∀ H', Same H H' → Q (.bl (isIn v (rolesOf m))) H'
theorem ok_role (T : Txt K mg) {C : Addr} (D : DefAt K mg "_is_role" sIs_role ["method", "value"]) (CTakes_other : Ex.CalX P w K mg base 4 "takes_other" (spIn K C methods others)) (CIs_one_of : CalG P w K mg base 1 "is_one_of" (spOneOf K)) : CalG P w K mg base 5 "_is_role" (spRole K) := by
  refine D.by scIs_role (fun vs H Q E h => ?_) (fun f cd A hg outer s H vs Q E hr h => ?_)
  · obtain ⟨_, _, _, rfl, _⟩ := h
    rfl
  · obtain ⟨m, v, tn, rfl, hm, kd, q⟩ := h
    refine ⟨_, (pss_cons (ps_set (i := 2) scIs_role.nd rfl (Or.inl rfl) (pe_ifExp (pt_val (Ex.pe_x0 CTakes_other hg hr (by decide) (pa_cons (pv 0) pa_nil))) (pe_tup (pa_cons pe_str (pa_cons pe_str pa_nil))) (pe_tup (pa_cons pe_str pa_nil))))
  (pss_one (ps_ret (pe_cG CIs_one_of hg hr (by decide) (pa_cons (pv 1) (pa_cons (pv 2) pa_nil)))))), ?_⟩
    repeat walk_at "rd"
    refine ⟨_, _, rfl, kd_str m, fun z ez _ => ?_, fun c => ?_⟩
    · cases ez
      have fin : ∀ (ws : List Str) (p : Addr), ws = rolesOf m → H p = none → spOneOf K [v, .ref p] (upd H p (.tup (ws.map V.str))) Q E0 := fun ws p e hp =>
        ⟨v, p, tn, ws, rfl, kd.mono (Rd.sNew hp), .inl (.inl upd_same), by rw [e]; exact q _ (Rd.sNew hp)⟩
      repeat walk_at "rd"
      refine Rd.dec (fun c => ?_) (fun c => ?_)
      · repeat walk_at "rd"
        refine ⟨Rd.sz (by simp), fun p hp => ?_⟩
        repeat walk_at "rd"
        exact fin ["self", "other"] p (by rw [rolesOf, if_pos c]) hp
      · repeat walk_at "rd"
        refine ⟨Rd.sz (by simp), fun p hp => ?_⟩
        repeat walk_at "rd"
        exact fin ["self"] p (by rw [rolesOf, if_neg c]) hp
    · rw [show isIn (.str m) methods = true from decide_eq_true hm] at c; cases c
abbrev sIs_word_alone : Stmt := top 30
abbrev nIs_word_alone : List Str := ["method", "word", "tail"]
theorem scIs_word_alone : FnScope nIs_word_alone ["method", "word", "tail"] (defScope sIs_word_alone) := ⟨rfl, rfl, rfl, by decide +kernel, rfl, by decide +kernel, by decide +kernel⟩
def spAlone : Sp := fun vs H Q _ => ∃ (m z : Str) (tail : Bool), vs = [.str m, .str z, .bl tail] ∧ m ∈ methods ∧ Q (.bl (aloneD m z tail)) H
theorem ok_alone (T : Txt K mg) {C p_ANSWER_WORDS : Addr} (g_ANSWER_WORDS : mg "ANSWER_WORDS" = some (.ref p_ANSWER_WORDS)) (tA : ∀ H, SqT K H p_ANSWER_WORDS (answerW.map V.str)) (D : DefAt K mg "_is_word_alone" sIs_word_alone ["method", "word", "tail"]) (CMay_decline : Ex.CalX P w K mg base 4 "may_decline" (spIn K C methods decliners)) :
    CalG P w K mg base 5 "_is_word_alone" spAlone := by
  refine D.by scIs_word_alone (fun vs H Q E h => ?_) (fun f cd A hg outer s H vs Q E hr h => ?_)
  · obtain ⟨_, _, _, rfl, _⟩ := h
    rfl
  · obtain ⟨m, z, tail, rfl, hm, q⟩ := h
    refine ⟨_, (pss_cons (ps_if (pt_cmpR op_eq (pv 1) pe_str (nomark _))
  (pss_one (ps_ret (pv 2)))
  pss_nil)
  (pss_cons (ps_if (pt_cmpR op_eq (pv 1) pe_str (nomark _))
  (pss_one (ps_ret (pe_and (pv 2) (pe_one (Ex.pe_x0 CMay_decline hg hr (by decide) (pa_cons (pv 0) pa_nil))))))
  pss_nil)
  (pss_one (ps_ret (pe_cmpR (r := rIn K false) op_in_seq (pv 1) (pe_glob (v := .ref p_ANSWER_WORDS) (by rfl) g_ANSWER_WORDS rfl) (by rfl)))))), ?_⟩
    have q : Q (.bl (if z = "further" then tail else if z = "decline" then tail && decide (m ∈ decliners) else decide (z ∈ answerW))) H := q
    repeat walk_at "rd"
    refine Rd.dec (fun c => ?_) (fun c => ?_)
    · repeat walk_at "rd"
      rw [if_pos (V.str.inj c)] at q
      exact q
    · rw [if_neg (fun e => c (by rw [e]))] at q
      repeat walk_at "rd"
      refine Rd.dec (fun c => ?_) (fun c => ?_)
      · rw [if_pos (V.str.inj c)] at q
        repeat walk_at "rd"
        refine Rd.bool (fun c => ?_) (fun c => ?_)
        · rw [c, Bool.true_and] at q
          repeat walk_at "rd"
          refine ⟨_, _, rfl, kd_str m, fun z ez _ => ?_, fun c => ?_⟩
          · cases ez
            exact q
          · rw [show isIn (.str m) methods = true from decide_eq_true hm] at c; cases c
        · rw [c, Bool.false_and] at q
          exact q
      · rw [if_neg (fun e => c (by rw [e]))] at q
        repeat walk_at "rd"
        refine inT (tA H) rfl (flat_strs _) ?_
        rw [if_neg Bool.false_ne_true, inV_str]
        exact q
end
end Ab
namespace Ab
open PySem.Spec PyProof.Rows
local macro_rules | `(tactic| walk_at "rd") => `(tactic| (with_reducible first | refine Rd.tt_ ?_ | refine Rd.ff_ ?_))
theorem data_prd {K : PySem.W.Frag} {H : Hp} : ∀ {ds : List PyData} {xs : List V}, DpAll K H xs ds → Paired (fun d x => Dp K H x d) ds xs
  | [], _, h => by rw [dpN h]; exact .nil
  | d :: ds, _, h => by
    obtain ⟨x, l, rfl, h1, h2⟩ := dpC h
    exact .cons h1 (data_prd h2)
section
variable {P : Program} {w : World} {K : PySem.W.Frag} {mg : Str → Option Value} {base : Heap}
abbrev sParts : Stmt := top 32
abbrev nParts : List Str := ["node"]
theorem scParts : FnScope nParts ["node"] (defScope sParts) := ⟨rfl, rfl, rfl, by decide +kernel, rfl, by decide +kernel, by decide +kernel⟩
def spParts (K : PySem.W.Frag) : Sp := fun vs H Q _ => ∃ (p : Addr) (z : Str) (xs : List V), vs = [.ref p] ∧ SqT K H p (.str z :: xs) ∧ z ∈ wordsU ∧ ∀ t H', Same H H' → SqT K H' t (if z ∈ partW then xs else []) → Q (.ref t) H'
theorem ok_parts (T : Txt K mg) {p_PARTS : Addr} (pt : PartsA K w mg p_PARTS) (D : DefAt K mg "_parts" sParts ["node"]) : CalG P w K mg base 1 "_parts" (spParts K) := by
  have g_PARTS := pt.g
  obtain ⟨es, n, D_PARTS⟩ := pt.D
  refine D.by scParts (fun vs H Q E h => ?_) (fun f cd A hg outer s H vs Q E hr h => ?_)
  · obtain ⟨_, _, _, rfl, _⟩ := h
    rfl
  · obtain ⟨p, z, xs, rfl, hs, hz, q⟩ := h
    obtain ⟨r, hr1, hr2⟩ := pt.h _ hz
    refine ⟨_, (pss_one (ps_ret (pe_ifExp (pt_cmpR (r := rInKd K p_PARTS) (op_inKd D_PARTS) (pe_ix (r := rIxT K) ix_tup (pv 0) pe_int (fun _ _ => rfl)) (pe_glob (v := .ref p_PARTS) (by rfl) g_PARTS rfl) (by rfl)) (pe_slice (r := rSlA K) sl_tupA (pv 0) (po_some pe_int) po_none) (pe_tup pa_nil)))), ?_⟩
    repeat walk_at "rd"
    refine Rd.ixT hs (Rd.atN (by decide) rfl) ?_
    refine ⟨z, r, rfl, rfl, hr1, ?_⟩
    rw [hr2]
    refine ⟨_, rfl, ?_⟩
    refine Rd.dec (fun c => ?_) (fun c => ?_)
    · rw [if_pos c] at q
      repeat walk_at "rd"
      refine cutG hs fun t H' s' ht => ?_
      rw [cut_tail] at ht
      exact q t H' s' ht
    · rw [if_neg c] at q
      repeat walk_at "rd"
      refine ⟨Rd.sz (by simp), fun t ht => ?_⟩
      exact q t _ (Rd.sNew ht) (.inl (.inl upd_same))
abbrev sTails : Stmt := top 33
abbrev nTails : List Str := ["node", "tail"]
theorem scTails : FnScope nTails ["node", "tail"] (defScope sTails) := ⟨rfl, rfl, rfl, by decide +kernel, rfl, by decide +kernel, by decide +kernel⟩
def spTails (K : PySem.W.Frag) : Sp := fun vs H Q _ => ∃ (p : Addr) (z : Str) (xs : List V) (tail : Bool), vs = [.ref p, .bl tail] ∧ SqT K H p (.str z :: xs) ∧ z ∈ wordsU ∧ (z = "not" → xs.length = 1) ∧ ∀ t H', Same H H' → SqT K H' t ((tailsW z tail).map V.bl) → Q (.ref t) H'
theorem ok_tails (T : Txt K mg) (D : DefAt K mg "_tails" sTails ["node", "tail"]) (CParts : CalG P w K mg base 1 "_parts" (spParts K)) : CalG P w K mg base 2 "_tails" (spTails K) := by
  refine D.by scTails (fun vs H Q E h => ?_) (fun f cd A hg outer s H vs Q E hr h => ?_)
  · obtain ⟨_, _, _, _, rfl, _⟩ := h
    rfl
  · obtain ⟨p, z, xs, tail, rfl, hs, hz, hn, q⟩ := h
    refine ⟨_, (pss_cons (ps_if (pt_cmpR (r := rEqD K) (op_eqD hr.units) (pe_ix (r := rIxT K) ix_tup (pv 0) pe_int (fun _ _ => rfl)) pe_str (nomark _))
  (pss_one (ps_ret (pe_tup (pa_cons pe_bl (pa_cons (pv 1) (pa_cons (pv 1) pa_nil))))))
  pss_nil)
  (pss_one (ps_ret (pe_op (r := Rt.rMul1 K) Rt.op_mul1 (pe_tup (pa_cons pe_bl pa_nil)) (pe_callB (r := Rd.rLenK K) Rd.callLen (by rfl) T.len PySem.boot_len (pa_cons (pe_cG CParts hg hr (by decide) (pa_cons (pv 0) pa_nil)) pa_nil)))))), ?_⟩
    repeat walk_at "rd"
    refine Rd.ixT hs (Rd.atN (by decide) rfl) ?_
    repeat walk_at "rd"
    refine Rd.eqD (d := .str z) (e := .str "if") (.str _) (.str _) (str_sh hz) (by decide +kernel) ?_
    rw [eqv_str]
    refine ⟨_, rfl, ?_⟩
    refine Rd.dec (fun c => ?_) (fun c => ?_)
    · rw [tailsW, if_pos c] at q
      repeat walk_at "rd"
      refine ⟨Rd.sz (by simp), fun t ht => ?_⟩
      exact q t _ (Rd.sNew ht) (.inl (.inl upd_same))
    · rw [tailsW, if_neg c] at q
      repeat walk_at "rd"
      refine ⟨Rd.sz (by simp), fun t ht => ?_⟩
      have s1 := Rd.sNew (o := .tup [.bl false]) ht
      have t1 : SqT K (upd H t (.tup [.bl false])) t [.bl false] := .inl (.inl upd_same)
      have hs1 := sqT_same s1 hs
      generalize upd H t (.tup [.bl false]) = H1 at s1 t1 hs1 ⊢
      repeat walk_at "rd"
      refine ⟨p, z, xs, rfl, hs1, hz, fun p2 H2 s2 h2 => ?_⟩
      repeat walk_at "rd"
      refine Rd.lenT h2 ?_
      by_cases cn : z = "not"
      · rw [if_pos cn] at q
        have e : ((if z ∈ partW then xs else []).length : Int) = 1 := by rw [cn, if_pos (show ("not" : Str) ∈ partW by decide +kernel), hn cn]; rfl
        rw [e]
        exact ⟨t, [.bl false], rfl, sqT_same s2 t1, by simp, .inl ⟨rfl, q t H2 (s1.trans s2) (sqT_same s2 t1)⟩⟩
      · rw [if_neg cn] at q
        have e : ((if z ∈ partW then xs else []).length : Int) = 0 := by rw [if_neg (show z ∉ partW by simp only [partW, List.mem_cons, List.not_mem_nil, or_false, not_or]; exact ⟨cn, c⟩)]; rfl
        rw [e]
        exact ⟨t, [.bl false], rfl, sqT_same s2 t1, by simp, .inr ⟨rfl, fun p3 hp3 => q p3 _ ((s1.trans s2).trans (Rd.sNew hp3)) (.inl (.inl upd_same))⟩⟩
abbrev sIs_ask : Stmt := top 29
abbrev nIs_ask : List Str := ["method", "node", "operation", "roles", "role"]
theorem scIs_ask : FnScope nIs_ask ["method", "node"] (defScope sIs_ask) := ⟨rfl, rfl, rfl, by decide +kernel, rfl, by decide +kernel, by decide +kernel⟩
def spAsk (K : PySem.W.Frag) : Sp := fun vs H Q _ => ∃ (v : V) (m : Str) (ds : List PyData), vs = [.str m, v] ∧ Dp K H v (.tuple (.str "ask" :: ds)) ∧ okUA ds = true ∧ m ∈ methods ∧ ds.length ≤ 1000 ∧ ∀ H', Same H H' → Q (.bl (askD m ds)) H'
set_option pp.maxSteps 3000 in
theorem ok_ask (T : Txt K mg) {p_ASKED_OF_ONE p_ASKED_OF_TWO : Addr} (g_ASKED_OF_ONE : mg "ASKED_OF_ONE" = some (.ref p_ASKED_OF_ONE)) (t1 : ∀ H, SqT K H p_ASKED_OF_ONE (askOne.map V.str)) (g_ASKED_OF_TWO : mg "ASKED_OF_TWO" = some (.ref p_ASKED_OF_TWO)) (t2 : ∀ H, SqT K H p_ASKED_OF_TWO (askTwo.map V.str))
    (D : DefAt K mg "_is_ask" sIs_ask ["method", "node"]) (CIs_role : CalG P w K mg base 5 "_is_role" (spRole K)) (CIs_one_of : CalG P w K mg base 1 "is_one_of" (spOneOf K)) : CalG P w K mg base 6 "_is_ask" (spAsk K) := by
  refine D.by scIs_ask (fun vs H Q E h => ?_) (fun f cd A hg outer s H vs Q E hr h => ?_)
  · obtain ⟨_, _, _, rfl, _⟩ := h
    rfl
  · obtain ⟨v, m, ds, rfl, dp, ok, hm, hl, q⟩ := h
    obtain ⟨p, xs, rfl, hs, ha⟩ := dpT dp
    obtain ⟨x1, ys, rfl, h1, ha1⟩ := dpC ha
    obtain rfl := dpS h1
    have len := dpa_len ha1
    refine ⟨_, (pss_cons (ps_if (pt_cmpR (r := rIn K true) op_notIn_seq (pe_callB (r := Rd.rLenK K) Rd.callLen (by rfl) T.len PySem.boot_len (pa_cons (pv 1) pa_nil)) (pe_tup (pa_cons pe_int (pa_cons pe_int pa_nil))) (by rfl))
  (pss_one (ps_ret pe_bl))
  pss_nil)
  (pss_cons (ps_asg (pe_slice (r := rSlA K) sl_tupA (pv 1) (po_some pe_int) po_none) (Sr.pg_star (n := 2) (i := 1) (by rfl) (pgs_cons (pg_name (i := 2) scIs_ask.nd rfl (Or.inl rfl)) (pgs_cons (pg_name (i := 3) scIs_ask.nd rfl (Or.inl rfl)) pgs_nil))))
  (pss_cons (ps_if (pt_not (pt_val (pe_callB (r := rAll K) (cr_all rfl) (by rfl) T.all (by decide +kernel) (pa_cons (pe_lc (wi := iList K _) (own := [("role", 4)]) (g := gName 4) (by rfl) scIs_ask.nd (pi_list (pv 3)) (blkOk_by (N := nIs_ask) (sc := defScope sIs_ask) (by decide +kernel)) (fun _ _ _ _ _ => pg_name (i := 4) scIs_ask.nd rfl (Or.inl rfl)) (fun _ _ _ _ _ => pts_nil) (fun _ _ _ _ _ => (pe_cG CIs_role hg hr (by decide) (pa_cons (pv 0) (pa_cons (pv 4) pa_nil))))) pa_nil))))
  (pss_one (ps_ret pe_bl))
  pss_nil)
  (pss_cons (ps_if (pt_cmpR op_eq (pe_callB (r := Rd.rLenK K) Rd.callLen (by rfl) T.len PySem.boot_len (pa_cons (pv 3) pa_nil)) pe_int (nomark _))
  (pss_one (ps_ret (pe_cG CIs_one_of hg hr (by decide) (pa_cons (pv 2) (pa_cons (pe_glob (v := .ref p_ASKED_OF_ONE) (by rfl) g_ASKED_OF_ONE rfl) pa_nil)))))
  pss_nil)
  (pss_one (ps_ret (pe_and (pe_cG CIs_one_of hg hr (by decide) (pa_cons (pv 2) (pa_cons (pe_glob (v := .ref p_ASKED_OF_TWO) (by rfl) g_ASKED_OF_TWO rfl) pa_nil))) (pe_one (pe_cmpR (r := rNeD K) (op_neD hr.units) (pe_ix (r := rIxL K) ix_list (pv 3) pe_int (fun _ _ => rfl)) (pe_ix (r := rIxL K) ix_list (pv 3) pe_int (fun _ _ => rfl)) (nomark _)))))))))), ?_⟩
    repeat walk_at "rd"
    refine Rd.lenT hs ?_
    repeat walk_at "rd"
    refine ⟨Rd.sz (by simp), fun t ht => ?_⟩
    have s1 := Rd.sNew (o := .tup [.int 3, .int 4]) ht
    refine inT (xs := [.int 3, .int 4]) (.inl (.inl upd_same)) rfl rfl ?_
    have ev : (if true = true then !inV (.int (((V.str "ask" :: ys).length : Nat) : Int)) [.int 3, .int 4] else inV (.int (((V.str "ask" :: ys).length : Nat) : Int)) [.int 3, .int 4]) = !decide (ds.length = 2 ∨ ds.length = 3) := by
      rw [if_pos rfl, List.length_cons, len]
      show (!(((3 : Int) == ((ds.length + 1 : Nat) : Int)) || (((4 : Int) == ((ds.length + 1 : Nat) : Int)) || false))) = _
      by_cases a : ds.length = 2
      · rw [a]; rfl
      · by_cases b : ds.length = 3
        · rw [b]; rfl
        · have n1 : ((3 : Int) == ((ds.length + 1 : Nat) : Int)) = false := beq_eq_false_iff_ne.mpr (by omega)
          have n2 : ((4 : Int) == ((ds.length + 1 : Nat) : Int)) = false := beq_eq_false_iff_ne.mpr (by omega)
          rw [n1, n2, decide_eq_false (by omega)]
          rfl
    rw [ev]
    have hs1 := sqT_same s1 hs
    have ha1 := dpa_mono s1 ha1
    generalize upd H t (.tup [.int 3, .int 4]) = H1 at s1 hs1 ha1 ⊢
    refine ⟨_, rfl, ?_⟩
    refine Rd.ndec (fun c => ?_) (fun hk => ?_)
    · have e : askD m ds = false := by
        match ds, c with
        | [], _ => rfl
        | [_], _ => rfl
        | [_, _], c => exact absurd (.inl rfl) c
        | [_, _, _], c => exact absurd (.inr rfl) c
        | _ :: _ :: _ :: _ :: _, _ => rfl
      rw [e] at q
      repeat walk_at "rd"
      exact q _ s1
    repeat walk_at "rd"
    refine cutG hs1 fun t3 H2 s2 ht3 => ?_
    rw [cut_tail] at ht3
    obtain ⟨dO, rs, rfl⟩ : ∃ dO rs, ds = dO :: rs := by
      cases ds with
      | nil => simp at hk
      | cons a l => exact ⟨a, l, rfl⟩
    obtain ⟨o, ys, rfl, ho, har⟩ := dpC (dpa_mono s2 ha1)
    have lenr := dpa_len har
    rw [okUA, Bool.and_eq_true] at ok
    repeat walk_at "rd"
    refine starR ht3 (by decide) (by simp) (by rw [List.length_cons, lenr]; rw [List.length_cons] at hl; omega) fun Dd hD => ?_
    have e1 : (o :: ys).take 1 ++ [.ref Dd] ++ ((o :: ys).drop 1).drop ((o :: ys).length + 1 - 2) = [o, .ref Dd] := by simp
    have e2 : ((o :: ys).drop 1).take ((o :: ys).length + 1 - 2) = ys := by simp
    rw [e1, e2]
    have s3 := Rd.sNew (o := .lst ys) hD
    have hd3 : upd H2 Dd (.lst ys) Dd = some (.lst ys) := upd_same
    have ho := dp_mono s3 ho
    have har := dpa_mono s3 har
    generalize upd H2 Dd (.lst ys) = H3 at s3 hd3 ho har ⊢
    repeat walk_at "rd"
    refine Rd.lcL (K := K) (a := Dd) (xs := ys) (bs := rs) (fun d x H => Dp K H x d) (fun (b : Bool) y _ => y = .bl b) (fun _ => true) (fun d => roleD m d) (fun R k => Rd.var rfl k) (SqL.of hd3) (fun _ _ _ _ s h => dp_mono s h) (fun _ _ _ _ _ h => h) (data_prd har) (by rw [lenr]; rw [List.length_cons] at hl; omega) (fun _ => rfl) ?_ ?_ ?_
    · intro b x H4 R _ _ _ _ k
      repeat walk_at "rd"
      exact k _ (Same.refl _)
    · rintro b x H4 R _ _ _ db s4 k
      obtain ⟨tn, kd⟩ := dp_kd db
      repeat walk_at "rd"
      exact ⟨m, x, tn, rfl, hm, kd, fun H' s' => k _ H' s' (Rd.off_any (by rw [dp_isIn _ db, role_inD]))⟩
    · intro Dx zs H4 hDx s4 hd pr
      have e : zs = (rs.map fun r => roleD m r).map V.bl := by
        rw [List.filter_eq_self.mpr (fun _ _ => rfl)] at pr
        exact Rd.pair_map pr
      rw [e] at hd
      have S := ((s1.trans s2).trans s3).trans s4
      have hd4 := s4 _ _ hd3
      have ho := dp_mono s4 ho
      have har := dpa_mono s4 har
      obtain ⟨tno, kdo⟩ := dp_kd ho
      repeat walk_at "rd"
      refine Rd.all_ (SqL.of hd) ?_
      rw [show (rs.map fun r => roleD m r).all id = rs.all (roleD m) by rw [List.all_map]; rfl]
      refine ⟨_, rfl, ?_⟩
      refine Rd.bool (fun c => ?_) (fun c => ?_)
      · have c : rs.all (roleD m) = false := by simpa using c
        have e : askD m (dO :: rs) = false := by
          match rs, hk, c with
          | [r], _, c => show (inD askOne dO && roleD m r) = false; simp at c; simp [c]
          | [r, z], _, c =>
            show (inD askTwo dO && roleD m r && roleD m z && !(PyData.eqv r z)) = false
            have c : (roleD m r && roleD m z) = false := by simpa using c
            rw [Bool.and_assoc (inD askTwo dO), c]
            simp
          | [], hk, _ => simp at hk
          | _ :: _ :: _ :: _, hk, _ => simp at hk
        rw [e] at q
        repeat walk_at "rd"
        exact q _ S
      · have c : rs.all (roleD m) = true := by simpa using c
        repeat walk_at "rd"
        match rs, hk, c, ys, har, lenr, hd4, ok with
        | [r], _, c, [y], har, _, hd4, ok =>
          refine Rd.dec (fun _ => ?_) (fun z => absurd rfl z)
          have e : askD m [dO, r] = inD askOne dO := by
            show (inD askOne dO && roleD m r) = _
            rw [show roleD m r = true by simpa using c, Bool.and_true]
          rw [e] at q
          repeat walk_at "rd"
          refine ⟨o, p_ASKED_OF_ONE, tno, askOne, rfl, kdo, t1 _, ?_⟩
          rw [dp_isIn _ ho]
          exact q _ S
        | [r, z], _, c, [y, y2], har, _, hd4, ok =>
          obtain ⟨x1, l1, e, hr1, hx⟩ := dpC har
          cases e
          obtain ⟨x2, l2, e, hr2, _⟩ := dpC hx
          cases e
          have c2 : roleD m r = true ∧ roleD m z = true := by simpa using c
          refine Rd.dec (fun e => by cases e) (fun _ => ?_)
          have e : askD m [dO, r, z] = (inD askTwo dO && !(PyData.eqv r z)) := by
            show (inD askTwo dO && roleD m r && roleD m z && !(PyData.eqv r z)) = _
            rw [c2.1, c2.2, Bool.and_true, Bool.and_true]
          rw [e] at q
          repeat walk_at "rd"
          refine ⟨o, p_ASKED_OF_TWO, tno, askTwo, rfl, kdo, t2 _, ?_⟩
          rw [dp_isIn _ ho]
          refine ⟨_, rfl, ?_⟩
          refine Rd.bool (fun c => ?_) (fun c => ?_)
          · rw [c, Bool.true_and] at q
            have ok2 := ok.2
            rw [okUA, okUA, okUA, Bool.and_eq_true, Bool.and_eq_true] at ok2
            have sh : ∀ d, roleD m d = true → okU d = true → SeqAt.shaped d = true := by
              intro d h1 h2
              cases d with
              | str z => exact str_sh (of_decide_eq_true h2)
              | _ => cases h1
            repeat walk_at "rd"
            refine Rd.neD hr1 hr2 (sh _ c2.1 ok2.1) (sh _ c2.2 ok2.2.1) ?_
            exact q _ S
          · rw [c, Bool.false_and] at q
            exact q _ S
        | [], hk, _, _, _, _, _, _ => simp at hk
        | _ :: _ :: _ :: _, hk, _, _, _, _, _, _ => simp at hk
end
end Ab
namespace Ab
open PySem.Spec PyProof.Rows
local macro_rules | `(tactic| walk_at "rd") => `(tactic| (with_reducible first | refine Rd.tt_ ?_ | refine Rd.ff_ ?_))
mutual
def wid : PyData → Nat
  | .list xs => max xs.length (widA xs)
  | .tuple xs => max xs.length (widA xs)
  | _ => 0
def widA : List PyData → Nat
  | [] => 0
  | x :: xs => max (wid x) (widA xs)
end
theorem widA_mem : ∀ {xs : List PyData} {x : PyData}, x ∈ xs → wid x ≤ widA xs
  | y :: ys, x, h => by
    rw [widA]
    rcases List.mem_cons.mp h with rfl | h
    · omega
    · have := widA_mem h; omega
theorem depA_mem : ∀ {xs : List PyData} {x : PyData}, x ∈ xs → PyData.depth x ≤ PyData.depthAll xs
  | y :: ys, x, h => by
    rw [PyData.depthAll]
    rcases List.mem_cons.mp h with rfl | h
    · omega
    · have := depA_mem h; omega
theorem wtA_mem : ∀ {xs : List PyData} {x : PyData}, x ∈ xs → PyData.weight x ≤ PyData.weightAll xs
  | y :: ys, x, h => by
    rw [PyData.weightAll]
    rcases List.mem_cons.mp h with rfl | h
    · omega
    · have := wtA_mem h; omega
def strD : PyData → Bool
  | .str _ => true
  | _ => false
theorem dp_strD {K : PySem.W.Frag} {H : Hp} {v : V} {d : PyData} (h : Dp K H v d) : isStr v = strD d := by cases h <;> rfl
structure Uni (d : PyData) : Prop where
  ok : okU d = true
  wd : wid d ≤ 100
  dp : PyData.depth d ≤ 50
  wt : PyData.weight d ≤ 500000
theorem Uni.mem {ds : List PyData} {d : PyData} (h : Uni (.tuple ds)) (m : d ∈ ds) : Uni d := by
  obtain ⟨a, b, c, e⟩ := h
  rw [okU, okUA_iff] at a
  rw [wid] at b
  rw [PyData.depth] at c
  rw [PyData.weight] at e
  have h1 := widA_mem m
  have h2 := depA_mem m
  have h3 := wtA_mem m
  exact ⟨a d m, by omega, by omega, by omega⟩
theorem Uni.len {ds : List PyData} (h : Uni (.tuple ds)) : ds.length ≤ 100 := by
  have := h.wd
  rw [wid] at this
  omega
section
variable {P : Program} {w : World} {K : PySem.W.Frag} {mg : Str → Option Value} {base : Heap}
abbrev sIs_node : Stmt := top 31
abbrev nIs_node : List Str := ["method", "node", "tail", "word"]
theorem scIs_node : FnScope nIs_node ["method", "node", "tail"] (defScope sIs_node) := ⟨rfl, rfl, rfl, by decide +kernel, rfl, by decide +kernel, by decide +kernel⟩
def spNode (K : PySem.W.Frag) : Sp := fun vs H Q _ => ∃ (v : V) (m : Str) (d : PyData) (tail : Bool), vs = [.str m, v, .bl tail] ∧ Dp K H v d ∧ Uni d ∧ m ∈ methods ∧ ∀ H', Same H H' → Q (.bl (nodeD m tail d)) H'
set_option pp.maxSteps 3000 in
theorem ok_node (T : Txt K mg) {p_PARTS : Addr} (pt : PartsA K w mg p_PARTS) (D : DefAt K mg "_is_node" sIs_node ["method", "node", "tail"]) (CIs_count : CalG P w K mg base 2 "is_count" (spCnt K)) (CIs_ask : CalG P w K mg base 6 "_is_ask" (spAsk K)) (CIs_word_alone : CalG P w K mg base 5 "_is_word_alone" spAlone) :
    CalG P w K mg base 7 "_is_node" (spNode K) := by
  have g_PARTS := pt.g
  obtain ⟨es, n, D_PARTS⟩ := pt.D
  refine D.by scIs_node (fun vs H Q E h => ?_) (fun f cd A hg outer s H vs Q E hr h => ?_)
  · obtain ⟨_, _, _, _, rfl, _⟩ := h
    rfl
  · obtain ⟨v, m, d, tail, rfl, dp, uni, hm, q⟩ := h
    refine ⟨_, (pss_cons (ps_if (PW.pt (pw_or (pt_not (pt_val (pe_callB (r := rIsi K) call_isi (by rfl) T.isinstance (by decide +kernel) (pa_cons (pv 1) (pa_cons (pe_bltn (v := .ty "tuple") (by rfl) T.tuple (by decide +kernel) rfl) pa_nil))))) (pw_or (pt_not (Rd.ptTru (K := K) rfl (pt_truth (pv 1) (by intro _; rfl)))) (pw_or1 (pt_not (pt_val (pe_callB (r := rIsi K) call_isi (by rfl) T.isinstance (by decide +kernel) (pa_cons (pe_ix (r := rIxT K) ix_tup (pv 1) pe_int (fun _ _ => rfl)) (pa_cons (pe_bltn (v := .ty "str") (by rfl) T.str (by decide +kernel) rfl) pa_nil)))))))))
  (pss_one (ps_ret pe_bl))
  pss_nil)
  (pss_cons (ps_set (i := 3) scIs_node.nd rfl (Or.inl rfl) (pe_ix (r := rIxT K) ix_tup (pv 1) pe_int (fun _ _ => rfl)))
  (pss_cons (ps_if (pt_cmpR (r := rInKd K p_PARTS) (op_inKd D_PARTS) (pv 3) (pe_glob (v := .ref p_PARTS) (by rfl) g_PARTS rfl) (by rfl))
  (pss_one (ps_ret (pe_cmpR op_eq (pe_callB (r := Rd.rLenK K) Rd.callLen (by rfl) T.len PySem.boot_len (pa_cons (pv 1) pa_nil)) (pe_op op_add pe_int (pe_ix (r := rIxD K w) ix_kdict (pe_glob (v := .ref p_PARTS) (by rfl) g_PARTS rfl) (pv 3) (fun _ _ => rfl))) (nomark _))))
  pss_nil)
  (pss_cons (ps_if (pt_cmpR op_eq (pv 3) pe_str (nomark _))
  (pss_one (ps_ret (pe_and (pe_cmpR op_eq (pe_callB (r := Rd.rLenK K) Rd.callLen (by rfl) T.len PySem.boot_len (pa_cons (pv 1) pa_nil)) pe_int (nomark _)) (pe_one (pe_cG CIs_count hg hr (by decide) (pa_cons (pe_ix (r := rIxT K) ix_tup (pv 1) pe_int (fun _ _ => rfl)) pa_nil))))))
  pss_nil)
  (pss_cons (ps_if (pt_cmpR op_eq (pv 3) pe_str (nomark _))
  (pss_one (ps_ret (pe_cG CIs_ask hg hr (by decide) (pa_cons (pv 0) (pa_cons (pv 1) pa_nil)))))
  pss_nil)
  (pss_one (ps_ret (pe_and (pe_cmpR op_eq (pe_callB (r := Rd.rLenK K) Rd.callLen (by rfl) T.len PySem.boot_len (pa_cons (pv 1) pa_nil)) pe_int (nomark _)) (pe_one (pe_cG CIs_word_alone hg hr (by decide) (pa_cons (pv 0) (pa_cons (pv 3) (pa_cons (pv 2) pa_nil))))))))))))), ?_⟩
    have q0 := q H (Same.refl _)
    repeat walk_at "rd"
    have other : ∀ tn, TyX K H v (.type tn) → kitB tn "tuple" = some false → nodeD m tail d = false → rIsi K [v, .ty "tuple"] H (fun x H' => x = .bl false ∧ H' = H) := fun tn ty kt _ => isi ty kt ⟨rfl, rfl⟩
    clear other
    have bad : nodeD m tail d = false → Q (.bl false) H := fun e => by rw [e] at q0; exact q0
    cases d with
    | none => refine isi (.base (by cases dp; exact .non)) (by show kitB "NoneType" "tuple" = some false; decide +kernel) ?_; repeat walk_at "rd"; exact bad rfl
    | bool b => refine isi (.base (by cases dp; exact .bl b)) (by show kitB "bool" "tuple" = some false; decide +kernel) ?_; repeat walk_at "rd"; exact bad rfl
    | int i => refine isi (.base (by cases dp; exact .int i)) (by show kitB "int" "tuple" = some false; decide +kernel) ?_; repeat walk_at "rd"; exact bad rfl
    | str z => refine isi (.base (by cases dp; exact .str z)) (by show kitB "str" "tuple" = some false; decide +kernel) ?_; repeat walk_at "rd"; exact bad rfl
    | list xs =>
      cases dp with
      | lst a b => refine isi (lst_ty a) (by show kitB "list" "tuple" = some false; decide +kernel) ?_; repeat walk_at "rd"; exact bad rfl
    | dict xs => cases dp
    | tuple ds =>
      obtain ⟨p, xs, rfl, hs, ha⟩ := dpT dp
      have len := dpa_len ha
      refine isi (tup_ty hs) (by show kitB "tuple" "tuple" = some true; decide +kernel) ?_
      refine ⟨_, rfl, ?_⟩
      refine offI ?_
      repeat walk_at "rd"
      refine ⟨!xs.isEmpty, .inr (.inl ⟨_, hs, rfl⟩), ?_⟩
      cases ds with
      | nil =>
        obtain rfl := dpN ha
        refine Rd.tt_ ?_
        repeat walk_at "rd"
        exact bad rfl
      | cons d0 ds =>
        obtain ⟨x0, xs, rfl, h0, hax⟩ := dpC ha
        have lenx := dpa_len hax
        refine Rd.ff_ ?_
        repeat walk_at "rd"
        refine Rd.ixT hs (Rd.atN (by decide) rfl) ?_
        repeat walk_at "rd"
        obtain ⟨tn0, kd0⟩ := dp_kd h0
        refine isi kd0.ty kd0.s ?_
        rw [dp_strD h0]
        by_cases hw : ∃ z, d0 = .str z
        · obtain ⟨z, rfl⟩ := hw
          obtain rfl := dpS h0
          have zU : z ∈ wordsU := of_decide_eq_true (uni.mem List.mem_cons_self).ok
          obtain ⟨r, hr1, hr2⟩ := pt.h _ zU
          have dsU : ∀ x ∈ ds, Uni x := fun x hx => uni.mem (List.mem_cons_of_mem _ hx)
          have dl := uni.len
          rw [List.length_cons] at dl
          refine ⟨_, rfl, ?_⟩
          refine Rd.ff_ ?_
          repeat walk_at "rd"
          refine Rd.ixT hs (Rd.atN (by decide) rfl) ?_
          repeat walk_at "rd"
          refine ⟨z, r, rfl, rfl, hr1, ?_⟩
          rw [hr2]
          refine ⟨_, rfl, ?_⟩
          have q0 : Q (.bl (wordD m z ds tail)) H := q0
          have q : ∀ H', Same H H' → Q (.bl (wordD m z ds tail)) H' := q
          refine Rd.dec (fun c => ?_) (fun c => ?_)
          · have c : z = "not" ∨ z = "if" := by simpa [partW] using c
            repeat walk_at "rd"
            refine Rd.lenT hs ?_
            repeat walk_at "rd"
            rcases c with rfl | rfl
            · refine ⟨p_PARTS, "not", _, rfl, rfl, pt.n1, ?_⟩
              repeat walk_at "rd"
              have e : decide (V.int (((V.str "not" :: xs).length : Nat) : Int) = V.int (1 + 1)) = wordD m "not" ds tail := by
                show _ = (if ("not" : Str) = "not" then ds.length == 1 else _)
                rw [if_pos rfl, List.length_cons, lenx]
                by_cases e : ds.length = 1
                · rw [e]; rfl
                · rw [decide_eq_false (fun z => e (by have := V.int.inj z; omega))]
                  exact (beq_eq_false_iff_ne.mpr e).symm
              rw [e]
              exact q0
            · refine ⟨p_PARTS, "if", _, rfl, rfl, pt.n3, ?_⟩
              repeat walk_at "rd"
              have e : decide (V.int (((V.str "if" :: xs).length : Nat) : Int) = V.int (1 + 3)) = wordD m "if" ds tail := by
                show _ = (if ("if" : Str) = "not" then _ else if ("if" : Str) = "if" then ds.length == 3 else _)
                rw [if_neg (by decide +kernel), if_pos rfl, List.length_cons, lenx]
                by_cases e : ds.length = 3
                · rw [e]; rfl
                · rw [decide_eq_false (fun z => e (by have := V.int.inj z; omega))]
                  exact (beq_eq_false_iff_ne.mpr e).symm
              rw [e]
              exact q0
          · have c : z ≠ "not" ∧ z ≠ "if" := by simpa [partW, not_or] using c
            rw [wordD, if_neg c.1, if_neg c.2] at q0
            repeat walk_at "rd"
            refine Rd.dec (fun cc => ?_) (fun cc => ?_)
            · obtain rfl := V.str.inj cc
              rw [if_pos rfl] at q0
              repeat walk_at "rd"
              refine Rd.lenT hs ?_
              repeat walk_at "rd"
              refine Rd.dec (fun l2 => ?_) (fun l2 => ?_)
              · have l2 := V.int.inj l2
                rw [List.length_cons, lenx] at l2
                match ds, xs, hax, q0, l2 with
                | [dc], [y], hax, q0, _ =>
                  obtain ⟨y', _, e, hy, _⟩ := dpC hax
                  cases e
                  obtain ⟨tn, kd⟩ := dp_kd hy
                  repeat walk_at "rd"
                  refine Rd.ixT hs (Rd.atN (by decide) rfl) ?_
                  repeat walk_at "rd"
                  refine ⟨y, tn, rfl, kd, ?_⟩
                  rw [dp_isCnt hy]
                  exact q0
                | [], _, _, _, l2 => exact absurd l2 (by decide)
                | _ :: _ :: _, _, _, _, l2 => simp at l2; omega
              · match ds, q0, l2 with
                | [], q0, _ => exact q0
                | [_], _, l2 => exact absurd (by rw [List.length_cons, lenx]; rfl) l2
                | _ :: _ :: _, q0, _ => exact q0
            · have cc : z ≠ "count" := fun e => cc (by rw [e])
              rw [if_neg cc] at q0
              repeat walk_at "rd"
              refine Rd.dec (fun ca => ?_) (fun ca => ?_)
              · obtain rfl := V.str.inj ca
                repeat walk_at "rd"
                refine ⟨.ref p, m, ds, rfl, dp, okUA_iff.mpr fun x hx => (dsU x hx).ok, hm, by omega, fun H' s' => ?_⟩
                have := q H' s'
                rw [wordD, if_neg c.1, if_neg c.2, if_neg cc, if_pos rfl] at this
                exact this
              · have ca : z ≠ "ask" := fun e => ca (by rw [e])
                rw [if_neg ca] at q0
                repeat walk_at "rd"
                refine Rd.lenT hs ?_
                repeat walk_at "rd"
                refine Rd.dec (fun l1 => ?_) (fun l1 => ?_)
                · have l1 := V.int.inj l1
                  rw [List.length_cons, lenx] at l1
                  have e : ds = [] := List.length_eq_zero_iff.mp (by omega)
                  rw [e] at q0
                  repeat walk_at "rd"
                  exact ⟨m, z, tail, rfl, hm, q0⟩
                · have e : ds.isEmpty = false := by
                    cases ds with
                    | nil => exact absurd (by rw [List.length_cons, lenx]; rfl) l1
                    | cons _ _ => rfl
                  rw [e, Bool.false_and] at q0
                  exact q0
        · have e1 : strD d0 = false := by
            cases d0 with
            | str z => exact absurd ⟨z, rfl⟩ hw
            | _ => rfl
          have e2 : nodeD m tail (.tuple (d0 :: ds)) = false := by
            cases d0 with
            | str z => exact absurd ⟨z, rfl⟩ hw
            | _ => rfl
          rw [e1]
          refine ⟨_, rfl, ?_⟩
          refine Rd.tt_ ?_
          repeat walk_at "rd"
          exact bad e2
end
end Ab
namespace Ab
open PySem.Spec PyProof.Rows
local macro_rules | `(tactic| walk_at "rd") => `(tactic| (with_reducible first | refine Rd.tt_ ?_ | refine Rd.ff_ ?_))
theorem walk_zipT {K : PySem.W.Frag} {a b : Addr} {xs ys : List V} (e : ys.length = xs.length) : Walk (RZ.ItzT K a b) xs.length (fun H => SqT K H a xs ∧ SqT K H b ys) (YPair (fun i => xs[i]?) (fun i => ys[i]?)) :=
  ⟨fun i _ hi q => ⟨xs, ys, xs[i], ys[i]'(by omega), q.1, q.2, List.getElem?_eq_getElem hi, List.getElem?_eq_getElem (by omega)⟩, fun _ q => ⟨xs, ys, q.1, q.2, .inl (Nat.le_refl _)⟩,
    fun _ _ _ _ _ q ⟨t, x, y, h1, h2, h3, h4, h5⟩ => ⟨t, x, y, h1, h2, h3, h4 xs q.1, h5 ys q.2⟩⟩
/-- all but what stands at p stays -/
def Keep (p : Addr) (H H' : Hp) : Prop := ∀ b o, b ≠ p → H b = some o → H' b = some o
theorem Keep.same {p : Addr} {H H1 : Hp} (s : Same H H1) : Keep p H H1 := fun b u _ e => s b u e
theorem Keep.put {p : Addr} {H H1 : Hp} {o : HO} (a : Keep p H H1) : Keep p H (upd H1 p o) := fun b u n e => by rw [upd_ne n]; exact a b u n e
theorem Keep.trans {p : Addr} {H H1 H2 : Hp} (a : Keep p H H1) (b : Keep p H1 H2) : Keep p H H2 := fun q u n e => b q u n (a q u n e)
theorem sqT_keep {K : PySem.W.Frag} {p a : Addr} {H H' : Hp} {xs : List V} (k : Keep p H H') (n : NoTup H p) (h : SqT K H a xs) : SqT K H' a xs := by
  rcases h with (h | ⟨o, h⟩) | h
  · exact .inl (.inl (k _ _ (fun e => by subst e; exact (n _ h).1 _ rfl) h))
  · exact .inl (.inr ⟨o, k _ _ (fun e => by subst e; exact (n _ h).2 _ _ rfl) h⟩)
  · exact .inr h
/-- it waits in the heap; its data stand in H0 -/
def ItB (K : PySem.W.Frag) (H0 H : Hp) (z : Wt) (x : V) : Prop := ∃ t v, x = .ref t ∧ SqT K H t [v, .int (z.2.1 : Int), .bl z.2.2] ∧ Dp K H0 v z.1 ∧ Uni z.1
theorem ItB.keep {K : PySem.W.Frag} {p : Addr} {H0 H H' : Hp} {z : Wt} {x : V} (k : Keep p H H') (n : NoTup H p) (h : ItB K H0 H z x) : ItB K H0 H' z x :=
  let ⟨t, v, e, h1, h2⟩ := h
  ⟨t, v, e, sqT_keep k n h1, h2⟩
theorem ItB.mono {K : PySem.W.Frag} {H0 H H' : Hp} {z : Wt} {x : V} (s : Same H H') (h : ItB K H0 H z x) : ItB K H0 H' z x :=
  let ⟨t, v, e, h1, h2⟩ := h
  ⟨t, v, e, sqT_same s h1, h2⟩
theorem pair_cat {α β : Type} {F : α → β → Prop} : ∀ {as as' : List α} {bs bs' : List β}, Paired F as bs → Paired F as' bs' → Paired F (as ++ as') (bs ++ bs')
  | _, _, _, _, .nil, h => h
  | _, _, _, _, .cons a b, h => .cons a (pair_cat b h)
theorem pair_len' {α β : Type} {F : α → β → Prop} : ∀ {as : List α} {bs : List β}, Paired F as bs → as.length = bs.length
  | _, _, .nil => rfl
  | _, _, .cons _ t => by rw [List.length_cons, List.length_cons, pair_len' t]
theorem dpa_get {K : PySem.W.Frag} {H : Hp} : ∀ {xs : List V} {ds : List PyData} {i : Nat} {x : V} {d : PyData}, DpAll K H xs ds → xs[i]? = some x → ds[i]? = some d → Dp K H x d
  | _, _, 0, _, _, .cons a _, h1, h2 => by
    rw [List.getElem?_cons_zero] at h1 h2
    cases h1
    cases h2
    exact a
  | _, _, i + 1, _, _, .cons _ b, h1, h2 => by
    rw [List.getElem?_cons_succ] at h1 h2
    exact dpa_get b h1 h2
  | _, _, _, _, _, .nil, h1, _ => by simp at h1
theorem zipK {K : PySem.W.Frag} {te : TE} {vs : List Nat} {i j d : Nat} {σ : L2.St} {H0 H1 : Hp} {Q : VK} {a b : Addr} {xs : List V} {ds : List PyData} {ts : List Bool} (hx : SqT K H1 a xs) (hd : DpAll K H0 xs ds) (hu : ∀ x ∈ ds, Uni x) (hb : SqT K H1 b (ts.map V.bl)) (kt : ts.length = ds.length) (l3 : ds.length ≤ 3)
    (hw : ∀ x y, wipe (((wipe σ vs).set i (some x)).set j (some y)) vs = wipe σ vs)
    (elem : ∀ x (c : Bool) H2 (R : VK), Same H1 H2 → (∀ p, H2 p = none → R (.ref p) (upd H2 p (.tup [x, .int ((d + 1 : Nat) : Int), .bl c]))) → te (((wipe σ vs).set i (some x)).set j (some (.bl c))) H2 R)
    (fin : ∀ D ys H2, H1 D = none → Same H1 H2 → H2 D = some (.lst ys) → Paired (ItB K H0 H2) ((ds.zip ts).map fun p => (p.1, d + 1, p.2)) ys → Q (.ref D) H2) : Rd.LcGo (RZ.ItzT K a b) (gTup K 2 (gCons (gName i) (gCons (gName j) gNil))) tYes te vs σ Q H1 := by
  intro D hD
  have len := dpa_len hd
  have lk : ((ds.zip ts).map fun p => ((p.1, d + 1, p.2) : Wt)).length = xs.length := by
    rw [List.length_map, List.length_zip, kt, len]
    omega
  have le : (ts.map V.bl).length = xs.length := by rw [List.length_map, kt, len]
  have lx : xs.length ≤ 3 := by rw [len]; exact l3
  refine lc_it (walk_zipT (K := K) (a := a) (b := b) (xs := xs) (ys := ts.map V.bl) le) (fun n H2 => ∃ ys, H2 D = some (.lst ys) ∧ ys.length ≤ n ∧ Same H1 H2 ∧ Paired (ItB K H0 H2) (((ds.zip ts).map fun p => ((p.1, d + 1, p.2) : Wt)).take n) ys) ⟨[], upd_same, Nat.le_refl _, Rd.sNew hD, .nil⟩ ?_ ?_ ?_
  · rintro n H2 _ ⟨ys, _, _, s, _⟩
    exact ⟨sqT_same s hx, sqT_same s hb⟩
  · rintro n v H2 H3 hn ⟨ys, h2, hy, s, pr⟩ ⟨T, x, y, rfl, hT, rfl, ex, ey⟩
    have ex : xs[n]? = some x := ex
    have ey : (ts.map V.bl)[n]? = some y := ey
    rw [List.getElem?_map] at ey
    have ln : n < ts.length := by rw [List.length_map] at le; omega
    rw [List.getElem?_eq_getElem ln] at ey
    cases ey
    have lkn : n < ds.length := by omega
    have s3 := Rd.sNew (o := .tup [x, V.bl ts[n]]) hT
    refine ⟨T, _, rfl, .inl (.inl upd_same), rfl, ⟨_, _, rfl, ⟨_, _, rfl, ⟨rfl, ?_⟩⟩⟩⟩
    refine ⟨hw _ _, Rd.yes (Rd.tt_ ?_)⟩
    refine elem _ _ _ _ (s.trans s3) fun p hp => ?_
    have s4 := Rd.sNew (o := .tup [x, .int ((d + 1 : Nat) : Int), .bl ts[n]]) hp
    have h4 := s4 _ _ (s3 _ _ h2)
    have nt := nt_lst h4
    refine ⟨ys, h4, Rd.szl (by omega), ys ++ [.ref p], upd_same, by rw [List.length_append]; simp; omega, Rd.sMut ((s.trans s3).trans s4) hD, ?_⟩
    have kz : ((ds.zip ts).map fun p => ((p.1, d + 1, p.2) : Wt))[n]? = some (ds[n], d + 1, ts[n]) := by
      rw [List.getElem?_map, (List.getElem?_zip_eq_some (z := (ds[n], ts[n]))).mpr ⟨List.getElem?_eq_getElem lkn, List.getElem?_eq_getElem ln⟩]
      rfl
    rw [List.take_add_one, kz]
    have kp : Keep D H2 (upd (upd (upd H2 T (.tup [x, V.bl ts[n]])) p (.tup [x, .int ((d + 1 : Nat) : Int), .bl ts[n]])) D (.lst (ys ++ [.ref p]))) := (Keep.same (s3.trans s4)).put
    refine pair_cat (Rd.pair_imp (fun z x h => ItB.keep kp (nt_lst h2) h) pr) (.cons ⟨p, x, rfl, sqT_upd nt (.inl (.inl upd_same)), ?_⟩ .nil)
    exact ⟨dpa_get hd ex (List.getElem?_eq_getElem lkn), hu _ (List.getElem_mem lkn)⟩
  · rintro H2 ⟨ys, h2, hy, s, pr⟩
    rw [← lk, List.take_length] at pr
    exact fin D ys H2 hD s h2 pr
theorem zipD {K : PySem.W.Frag} {ta : TA} {g : TG} {tt : TT} {te : TE} {vs0 : List Nat} {σ : L2.St} {H : Hp} {Q : VK} (k : ta σ H fun vs H1 => ∃ a b xs ys, vs = [.ref a, .ref b] ∧ ((SqL K H1 a xs ∧ SqL K H1 b ys ∧ Rd.LcGo (Itz K a b) g tt te vs0 σ Q H1) ∨ (SqT K H1 a xs ∧ SqT K H1 b ys ∧ Rd.LcGo (RZ.ItzT K a b) g tt te vs0 σ Q H1))) : tLc (RZ.iZipA K ta) g tt te vs0 σ H Q := k
theorem revL {K : PySem.W.Frag} {te : TE} {σ : L2.St} {H : Hp} {Q : VK} (k : te σ H fun x H1 => ∃ a xs, x = .ref a ∧ SqL K H1 a xs ∧ ∀ p, H1 p = none → Q (.ref p) (upd H1 p (.lst xs.reverse))) : tRevL K te σ H Q := k
def numV : Option Nat → V
  | none => .non
  | some n => .int (n : Int)
/-- a right node by itself -/
theorem node_ok {m : Str} {t : Bool} {d : PyData} (h : nodeD m t d = true) : ∃ z ds, d = .tuple (.str z :: ds) ∧ (z = "not" → ds.length = 1) ∧ (z = "if" → ds.length = 3) ∧ (tailsW z t).length = (if z ∈ partW then ds else []).length ∧ (if z ∈ partW then ds else []).length ≤ 3 := by
  match d, h with
  | .tuple (.str z :: ds), h =>
    have h : wordD m z ds t = true := h
    have n1 : z = "not" → ds.length = 1 := fun e => by
      rw [wordD, if_pos e] at h
      exact beq_iff_eq.mp h
    have n3 : z = "if" → ds.length = 3 := fun e => by
      rw [wordD, if_neg (fun z' => by rw [z'] at e; exact absurd e (by decide +kernel)), if_pos e] at h
      exact beq_iff_eq.mp h
    refine ⟨z, ds, rfl, n1, n3, ?_⟩
    by_cases a : z = "if"
    · rw [tailsW, if_pos a, if_pos (show z ∈ partW by rw [a]; decide +kernel), n3 a]
      exact ⟨rfl, by decide⟩
    · by_cases b : z = "not"
      · rw [tailsW, if_neg a, if_pos b, if_pos (show z ∈ partW by rw [b]; decide +kernel), n1 b]
        exact ⟨rfl, by decide⟩
      · rw [tailsW, if_neg a, if_neg b, if_neg (show z ∉ partW by simp only [partW, List.mem_cons, List.not_mem_nil, or_false, not_or]; exact ⟨b, a⟩)]
        exact ⟨rfl, by decide⟩
section
variable {P : Program} {w : World} {K : PySem.W.Frag} {mg : Str → Option Value} {base : Heap}
abbrev sFirst_wrong : Stmt := top 34
abbrev nFirst_wrong : List Str := ["method", "expression", "waiting", "place", "node", "depth", "tail", "parts", "part", "at_tail"]
theorem scFirst_wrong : FnScope nFirst_wrong ["method", "expression"] (defScope sFirst_wrong) := ⟨rfl, rfl, rfl, by decide +kernel, rfl, by decide +kernel, by decide +kernel⟩
def spFirst (K : PySem.W.Frag) : Sp := fun vs H Q _ => ∃ (v : V) (m : Str) (d : PyData), vs = [.str m, v] ∧ Dp K H v d ∧ Uni d ∧ m ∈ methods ∧ ∀ H', Same H H' → Q (numV (goW m 16 [(d, 1, true)])) H'
set_option pp.maxSteps 3000 in
theorem ok_first (T : Txt K mg) {t16 t6 : Tok} (g_MOST_NODES : mg "MOST_NODES" = some (.int 16 t16)) (g_MOST_DEPTH : mg "MOST_DEPTH" = some (.int 6 t6)) (D : DefAt K mg "_first_wrong" sFirst_wrong ["method", "expression"]) (CParts : CalG P w K mg base 1 "_parts" (spParts K)) (CTails : CalG P w K mg base 2 "_tails" (spTails K))
    (CIs_node : CalG P w K mg base 7 "_is_node" (spNode K)) : CalG P w K mg base 8 "_first_wrong" (spFirst K) := by
  refine D.by scFirst_wrong (fun vs H Q E h => ?_) (fun f cd A hg outer s H vs Q E hr h => ?_)
  · obtain ⟨_, _, _, rfl, _⟩ := h
    rfl
  · obtain ⟨v0, m, d0, rfl, dp0, un0, hm, q⟩ := h
    refine ⟨_, (pss_cons (ps_set (i := 2) scFirst_wrong.nd rfl (Or.inl rfl) (pe_lst (pa_cons (pe_tup (pa_cons (pv 1) (pa_cons pe_int (pa_cons pe_bl pa_nil)))) pa_nil)))
  (pss_cons (ps_set (i := 3) scFirst_wrong.nd rfl (Or.inl rfl) pe_int)
  (pss_cons (ps_while PassesOwn.never (Rd.ptTru (K := K) rfl (pt_truth (pv 2) (by intro _; rfl)))
  (pss_cons (ps_asg (pe_bm0 PySem.F.plainAttrs_list PySem.F.slot_list_pop PySem.F.type_list_pop mt_pop (pv 2)) (pg_tup (by rfl) (pgs_cons (pg_name (i := 4) scFirst_wrong.nd rfl (Or.inl rfl)) (pgs_cons (pg_name (i := 5) scFirst_wrong.nd rfl (Or.inr rfl)) (pgs_cons (pg_name (i := 6) scFirst_wrong.nd rfl (Or.inl rfl)) pgs_nil)))))
  (pss_cons (ps_if (PW.pt (pw_or (pt_cmpR op_eq (pv 3) (pe_glob (v := .int 16) (by rfl) g_MOST_NODES ⟨_, rfl⟩) (nomark _)) (pw_or (pt_cmpR op_gt (pv 5) (pe_glob (v := .int 6) (by rfl) g_MOST_DEPTH ⟨_, rfl⟩) (nomark _)) (pw_or1 (pt_not (pt_val (pe_cG CIs_node hg hr (by decide) (pa_cons (pv 0) (pa_cons (pv 4) (pa_cons (pv 6) pa_nil))))))))))
  (pss_one (ps_ret (pv 3)))
  pss_nil)
  (pss_cons (ps_setLc (i := 7) (wi := RZ.iZipA K _) (own := [("part", 8), ("at_tail", 9)]) (g := gTup K 2 (gCons (gName 8) (gCons (gName 9) gNil))) (by rfl) scFirst_wrong.nd rfl rfl (sw_true rfl rfl rfl (by decide +kernel)) (RZ.pi_zipA (by rfl) T.zip (pa_cons (pe_cG CParts hg hr (by decide) (pa_cons (pv 4) pa_nil)) (pa_cons (pe_cG CTails hg hr (by decide) (pa_cons (pv 4) (pa_cons (pv 6) pa_nil))) pa_nil))) (blkOk_by (N := nFirst_wrong) (sc := defScope sFirst_wrong) (by decide +kernel)) (fun _ _ _ _ _ => pg_tup (by rfl) (pgs_cons (pg_name (i := 8) scFirst_wrong.nd rfl (Or.inl rfl)) (pgs_cons (pg_name (i := 9) scFirst_wrong.nd rfl (Or.inl rfl)) pgs_nil))) (fun _ _ _ _ _ => pts_nil) (fun _ _ _ _ _ => (pe_tup (pa_cons (pv 8) (pa_cons (pe_op op_add (pv 5) pe_int) (pa_cons (pv 9) pa_nil))))))
  (pss_cons (ps_expr (pe_bm PySem.F.plainAttrs_list PySem.F.slot_list_extend PySem.F.type_list_extend mt_extend (pv 2) (pa_cons (pe_revL (pv 7)) pa_nil)))
  (pss_one (ps_aug (i := 3) scFirst_wrong.nd rfl (Or.inl rfl) pe_int ip_add)))))))
  (pss_one (ps_ret pe_non))))), ?_⟩
    repeat walk_at "rd"
    refine ⟨Rd.sz (by simp), fun t0 ht0 => ?_⟩
    have s1 := Rd.sNew (o := .tup [v0, .int 1, .bl true]) ht0
    have e1 : upd H t0 (.tup [v0, .int 1, .bl true]) t0 = some (.tup [v0, .int 1, .bl true]) := upd_same
    generalize upd H t0 (.tup [v0, .int 1, .bl true]) = H1 at s1 e1 ⊢
    repeat walk_at "rd"
    refine ⟨Rd.sz (by simp), fun wl hwl => ?_⟩
    have s2 := Rd.sNew (o := .lst [.ref t0]) hwl
    have nw : H wl = none := by
      cases z : H wl with
      | none => rfl
      | some u => rw [s1 _ _ z] at hwl; cases hwl
    have e2 : upd H1 wl (.lst [.ref t0]) wl = some (.lst [.ref t0]) := upd_same
    have e3 := s2 _ _ e1
    have s12 := s1.trans s2
    generalize upd H1 wl (.lst [.ref t0]) = H2 at s2 e2 e3 s12 ⊢
    repeat walk_at "rd"
    refine ⟨fun k σ H' => ∃ (pl : Int) (st : List Wt) (xs : List V) (z4 z5 z6 z7 : Option V), σ = [some (.str m), some v0, some (.ref wl), some (.int pl), z4, z5, z6, z7, none, none] ∧ pl = 16 - (k : Int) ∧ k ≤ 16 ∧ Same H H' ∧ H' wl = some (.lst xs) ∧ Paired (ItB K H H') st xs.reverse ∧ goW m k st = goW m 16 [(d0, 1, true)] ∧ xs.length ≤ 1000 - 3 * k,
      ⟨16, 0, [(d0, 1, true)], [.ref t0], _, _, _, _, rfl, rfl, Nat.le_refl _, s12, e2, .cons ⟨t0, v0, rfl, .inl (.inl e3), dp0, un0⟩ .nil, rfl, by simp⟩, ?_⟩
    · rintro k σ H3 ⟨pl, st, xs, z4, z5, z6, z7, rfl, epl, k16, s3, hw, pr, eq, xl⟩
      repeat walk_at "rd"
      refine Rd.bool (fun c => ?_) (fun c => ?_)
      · have xne : xs ≠ [] := fun e => by rw [e] at c; cases c
        obtain ⟨r, x, rfl⟩ : ∃ r x, xs = r ++ [x] := ⟨xs.dropLast, xs.getLast xne, (List.dropLast_concat_getLast xne).symm⟩
        rw [List.reverse_append, List.reverse_singleton, List.singleton_append] at pr
        cases pr with
        | @cons z _ st' _ iz pr =>
          obtain ⟨nd, d, b⟩ := z
          obtain ⟨t, v, rfl, ht, dp, un⟩ := iz
          have ht : SqT K H3 t [v, .int (d : Int), .bl b] := ht
          have dp : Dp K H v nd := dp
          have un : Uni nd := un
          refine ⟨fun σ' H' => ∃ m', m' < k ∧ (∃ (pl : Int) (st : List Wt) (xs : List V) (z4 z5 z6 z7 : Option V), σ' = [some (.str m), some v0, some (.ref wl), some (.int pl), z4, z5, z6, z7, none, none] ∧ pl = 16 - (m' : Int) ∧ m' ≤ 16 ∧ Same H H' ∧ H' wl = some (.lst xs) ∧ Paired (ItB K H H') st xs.reverse ∧ goW m m' st = goW m 16 [(d0, 1, true)] ∧ xs.length ≤ 1000 - 3 * m'), fun _ _ h => h, ?_⟩
          repeat walk_at "rd"
          refine ⟨Rd.ty_list hw, ?_⟩
          refine ⟨wl, _, .ref t, rfl, rfl, hw, by simp, ?_⟩
          rw [List.dropLast_concat]
          have k4 : Keep wl H3 (upd H3 wl (.lst r)) := Keep.put (fun _ _ _ e => e)
          have ht4 := sqT_keep k4 (nt_lst hw) ht
          have hw4 : upd H3 wl (.lst r) wl = some (.lst r) := upd_same
          have s4 : Same H (upd H3 wl (.lst r)) := Rd.sMut s3 nw
          have pr4 := Rd.pair_imp (fun z x h => ItB.keep k4 (nt_lst hw) h) pr
          rw [List.length_append] at xl
          generalize upd H3 wl (.lst r) = H4 at ht4 hw4 s4 pr4 ⊢
          refine ⟨t, _, rfl, ht4, rfl, ?_⟩
          have stop : ∀ H', Same H H' → (k = 0 ∨ ¬ (d ≤ 6 ∧ nodeD m b nd = true)) → Q (.int pl) H' := fun H' s' h => by
            have := q H' s'
            rw [← eq] at this
            have e1 : pl = ((16 - k : Nat) : Int) := by omega
            rw [e1]
            cases k with
            | zero => exact this
            | succ k =>
              rw [goW, if_neg (h.resolve_left (by omega))] at this
              exact this
          repeat walk_at "rd"
          refine Rd.dec (fun c => ?_) (fun ck => ?_)
          · have := V.int.inj c
            repeat walk_at "rd"
            exact stop _ s4 (.inl (by omega))
          have kp : 0 < k := by
            have : pl ≠ 16 := fun e => ck (by rw [e])
            omega
          obtain ⟨k, rfl⟩ : ∃ j, k = j + 1 := ⟨k - 1, by omega⟩
          repeat walk_at "rd"
          refine Rd.dec (fun c => ?_) (fun cd => ?_)
          · repeat walk_at "rd"
            exact stop _ s4 (.inr fun h => by omega)
          repeat walk_at "rd"
          refine ⟨v, m, nd, b, rfl, dp_mono s4 dp, un, hm, fun H5 s5 => ?_⟩
          refine ⟨_, rfl, ?_⟩
          refine Rd.bool (fun c => ?_) (fun c => ?_)
          · repeat walk_at "rd"
            exact stop _ (s4.trans s5) (.inr fun h => by rw [h.2] at c; cases c)
          have nok : nodeD m b nd = true := by
            cases e : nodeD m b nd with
            | true => rfl
            | false => rw [e] at c; cases c
          rw [goW, if_pos ⟨by show d ≤ 6; omega, nok⟩] at eq
          obtain ⟨z, ds, rfl, hn1, hn3, kt, l3⟩ := node_ok nok
          have dp5 := dp_mono (s4.trans s5) dp
          obtain ⟨pn, xs5, rfl, hs5, ha5⟩ := dpT dp
          obtain ⟨x5, xs5, rfl, hx5, hb5⟩ := dpC ha5
          obtain rfl := dpS hx5
          have zU : z ∈ wordsU := of_decide_eq_true (un.mem List.mem_cons_self).ok
          have len5 := dpa_len hb5
          have hs5' := sqT_same (s4.trans s5) hs5
          repeat walk_at "rd"
          refine zipD ?_
          repeat walk_at "rd"
          refine ⟨pn, z, xs5, rfl, hs5', zU, fun pa H6 s6 ha6 => ?_⟩
          repeat walk_at "rd"
          refine ⟨pn, z, xs5, b, rfl, sqT_same s6 hs5', zU, fun e => by rw [len5]; exact hn1 e, fun pb H7 s7 hb7 => ?_⟩
          repeat walk_at "rd"
          have hdk : DpAll K H (if z ∈ partW then xs5 else []) (if z ∈ partW then ds else []) := by
            split
            · exact hb5
            · exact .nil
          have huk : ∀ x ∈ (if z ∈ partW then ds else []), Uni x := by
            intro x hx
            split at hx
            · exact un.mem (List.mem_cons_of_mem _ hx)
            · cases hx
          refine ⟨pa, pb, (if z ∈ partW then xs5 else []), _, rfl, .inr ⟨sqT_same s7 ha6, hb7, zipK (i := 8) (j := 9) (d := d) (ds := if z ∈ partW then ds else []) (ts := tailsW z b) (sqT_same s7 ha6) hdk huk hb7 kt l3 (fun _ _ => rfl) (fun x c H8 R s8 k => ?_) fun Dl ys H8 hD s8 hd8 pr8 => ?_⟩⟩
          · repeat walk_at "rd"
            exact ⟨Rd.sz (by simp), fun p hp => k p hp⟩
          · have S48 := ((s5.trans s6).trans s7).trans s8
            have hw8 := S48 _ _ hw4
            repeat walk_at "rd"
            refine ⟨Rd.ty_list hw8, ?_⟩
            repeat walk_at "rd"
            refine revL ?_
            repeat walk_at "rd"
            refine ⟨Dl, ys, rfl, SqL.of hd8, fun p hp => ?_⟩
            have s9 := Rd.sNew (o := .lst ys.reverse) hp
            have hw9 := s9 _ _ hw8
            have lys := pair_len' pr8
            rw [List.length_map, List.length_zip] at lys
            rw [List.length_singleton] at xl
            have ys3 : ys.length ≤ 3 := by omega
            repeat walk_at "rd"
            refine ⟨wl, p, r, ys.reverse, rfl, rfl, hw9, upd_same, by rw [List.length_reverse]; exact Nat.le_of_lt (Rd.szl (by omega)), ?_⟩
            have kf : Keep wl H4 (upd (upd H8 p (.lst ys.reverse)) wl (.lst (r ++ ys.reverse))) := (Keep.same (S48.trans s9)).put
            have kf8 : Keep wl H8 (upd (upd H8 p (.lst ys.reverse)) wl (.lst (r ++ ys.reverse))) := (Keep.same s9).put
            repeat walk_at "rd"
            refine ⟨_, rfl, ?_⟩
            repeat walk_at "rd"
            refine ⟨_, _, rfl, rfl, ?_⟩
            refine ⟨k, Nat.lt_succ_self k, _, kidsZ (.tuple (.str z :: ds), d, b) ++ st', r ++ ys.reverse, _, _, _, _, rfl, (by show pl + 1 = 16 - (k : Int); omega), by omega, Rd.sMut (s4.trans (S48.trans s9)) nw, upd_same, ?_, eq, ?_⟩
            · rw [List.reverse_append, List.reverse_reverse]
              exact pair_cat (Rd.pair_imp (fun z x h => ItB.keep kf8 (nt_lst hw8) h) pr8) (Rd.pair_imp (fun z x h => ItB.keep kf (nt_lst hw4) h) pr4)
            · rw [List.length_append, List.length_reverse]
              omega
      · have xe : xs = [] := by cases xs with
          | nil => rfl
          | cons a l => cases c
        subst xe
        cases pr
        have := q H3 s3
        rw [← eq] at this
        repeat walk_at "rd"
        cases k <;> exact this
end
end Ab
namespace Ab
open PySem.Spec PyProof.Rows
local macro_rules | `(tactic| walk_at "rd") => `(tactic| (with_reducible first | refine Rd.tt_ ?_ | refine Rd.ff_ ?_))
/-! ### nodes of a body -/
inductive Nd where
  | word (z : Str)
  | cnt (i : Int)
  | ask1 (o r : Str)
  | ask2 (o r q : Str)
  | no (a : Nd)
  | iff (a b c : Nd)
def Nd.d : Nd → PyData
  | .word z => .tuple [.str z]
  | .cnt i => .tuple [.str "count", .int i]
  | .ask1 o r => .tuple [.str "ask", .str o, .str r]
  | .ask2 o r q => .tuple [.str "ask", .str o, .str r, .str q]
  | .no a => .tuple [.str "not", a.d]
  | .iff a b c => .tuple [.str "if", a.d, b.d, c.d]
/-- the node itself is right for m -/
def Nd.top (m : Str) (tail : Bool) : Nd → Bool
  | .word z => if z = "further" then tail else if z = "decline" then tail && decide (m ∈ decliners) else decide (z ∈ answerW)
  | .cnt i => decide (0 ≤ i) && decide (i ≤ 4)
  | .ask1 o r => decide (o ∈ askOne) && decide (r ∈ rolesOf m)
  | .ask2 o r q => decide (o ∈ askTwo) && decide (r ∈ rolesOf m) && decide (q ∈ rolesOf m) && decide (r ≠ q)
  | .no _ => true
  | .iff _ _ _ => true
def headW : List Str := ["yes", "no", "raise", "further", "decline", "count", "ask", "not", "if"]
def Nd.head : Nd → Str
  | .word z => z
  | .cnt _ => "count"
  | .ask1 _ _ => "ask"
  | .ask2 _ _ _ => "ask"
  | .no _ => "not"
  | .iff _ _ _ => "if"
def Nd.kids : Nd → List Nd
  | .no a => [a]
  | .iff a b c => [a, b, c]
  | _ => []
def Nd.tails (tail : Bool) : Nd → List Bool
  | .no _ => [false]
  | .iff _ _ _ => [false, tail, tail]
  | _ => []
/-- the words of the document, none of them a part's -/
def Nd.wd : Nd → Bool
  | .word z => decide (z ∈ (["yes", "no", "raise", "further", "decline"] : List Str))
  | _ => true
theorem top_wd {m : Str} {tail : Bool} {nd : Nd} (h : nd.top m tail = true) : nd.wd = true := by
  cases nd with
  | word z =>
    have h : (if z = "further" then tail else if z = "decline" then tail && decide (m ∈ decliners) else decide (z ∈ answerW)) = true := h
    by_cases e1 : z = "further"
    · subst e1; decide +kernel
    · rw [if_neg e1] at h
      by_cases e2 : z = "decline"
      · subst e2; decide +kernel
      · rw [if_neg e2] at h
        have h := of_decide_eq_true h
        simp only [answerW, List.mem_cons, List.not_mem_nil, or_false] at h
        rcases h with rfl | rfl | rfl <;> decide +kernel
  | _ => rfl
theorem head_in {nd : Nd} (h : nd.wd = true) : nd.head ∈ headW ∧ (nd.head ∈ partW ↔ nd.kids ≠ []) := by
  cases nd with
  | word z =>
    have h := of_decide_eq_true h
    simp only [List.mem_cons, List.not_mem_nil, or_false] at h
    rcases h with rfl | rfl | rfl | rfl | rfl <;> exact ⟨by decide +kernel, ⟨fun z => absurd z (by decide +kernel), fun z => absurd rfl z⟩⟩
  | cnt i => exact ⟨by show ("count" : Str) ∈ headW; decide +kernel, ⟨fun z => absurd (show ("count" : Str) ∈ partW from z) (by decide +kernel), fun z => absurd rfl z⟩⟩
  | ask1 o r => exact ⟨by show ("ask" : Str) ∈ headW; decide +kernel, ⟨fun z => absurd (show ("ask" : Str) ∈ partW from z) (by decide +kernel), fun z => absurd rfl z⟩⟩
  | ask2 o r q => exact ⟨by show ("ask" : Str) ∈ headW; decide +kernel, ⟨fun z => absurd (show ("ask" : Str) ∈ partW from z) (by decide +kernel), fun z => absurd rfl z⟩⟩
  | no a => exact ⟨by show ("not" : Str) ∈ headW; decide +kernel, ⟨fun _ => by simp [Nd.kids], fun _ => by show ("not" : Str) ∈ partW; decide +kernel⟩⟩
  | iff a b c => exact ⟨by show ("if" : Str) ∈ headW; decide +kernel, ⟨fun _ => by simp [Nd.kids], fun _ => by show ("if" : Str) ∈ partW; decide +kernel⟩⟩
/-- a node in the heap: its tuple, the word first -/
theorem nd_at {K : PySem.W.Frag} {H : Hp} {v : V} {nd : Nd} (h : Dp K H v nd.d) : ∃ p xs ds, v = .ref p ∧ SqT K H p (.str nd.head :: xs) ∧ DpAll K H xs ds ∧ nd.d = .tuple (.str nd.head :: ds) ∧ (nd.kids ≠ [] → ds = nd.kids.map Nd.d) := by
  have go : ∀ ds, nd.d = .tuple (.str nd.head :: ds) → (nd.kids ≠ [] → ds = nd.kids.map Nd.d) → ∃ p xs ds, v = .ref p ∧ SqT K H p (.str nd.head :: xs) ∧ DpAll K H xs ds ∧ nd.d = .tuple (.str nd.head :: ds) ∧ (nd.kids ≠ [] → ds = nd.kids.map Nd.d) := by
    intro ds e k
    rw [e] at h
    obtain ⟨p, xs, rfl, hs, ha⟩ := dpT h
    obtain ⟨x, r, rfl, hx, hr⟩ := dpC ha
    rw [dpS hx] at hs
    exact ⟨p, r, ds, rfl, hs, hr, e, k⟩
  cases nd with
  | word z => exact go [] rfl fun z => absurd rfl z
  | cnt i => exact go _ rfl fun z => absurd rfl z
  | ask1 o r => exact go _ rfl fun z => absurd rfl z
  | ask2 o r q => exact go _ rfl fun z => absurd rfl z
  | no a => exact go _ rfl fun _ => rfl
  | iff a b c => exact go _ rfl fun _ => rfl
def spPartsN (K : PySem.W.Frag) : Sp := fun vs H Q _ => ∃ (v : V) (nd : Nd), vs = [v] ∧ Dp K H v nd.d ∧ nd.wd = true ∧ ∀ p xs H', Same H H' → SqT K H' p xs → DpAll K H' xs (nd.kids.map Nd.d) → Q (.ref p) H'
theorem nd_keep {K : PySem.W.Frag} {p : Addr} {H H' : Hp} (k : Keep p H H') (n : NoTup H p) : ∀ (nd : Nd) (v : V), Dp K H v nd.d → Dp K H' v nd.d
  | .word z, v, h => by
    obtain ⟨a, xs, rfl, hs, ha⟩ := dpT h
    obtain ⟨x, l, rfl, h1, h2⟩ := dpC ha
    obtain rfl := dpN h2
    obtain rfl := dpS h1
    exact .tup (sqT_keep k n hs) (.cons (.str _) .nil)
  | .cnt i, v, h => by
    obtain ⟨a, xs, rfl, hs, ha⟩ := dpT h
    obtain ⟨x, l, rfl, h1, h2⟩ := dpC ha
    obtain ⟨y, l2, rfl, h3, h4⟩ := dpC h2
    obtain rfl := dpN h4
    obtain rfl := dpS h1
    obtain rfl := dpI h3
    exact .tup (sqT_keep k n hs) (.cons (.str _) (.cons (.int _) .nil))
  | .ask1 o r, v, h => by
    obtain ⟨a, xs, rfl, hs, ha⟩ := dpT h
    obtain ⟨x, l, rfl, h1, h2⟩ := dpC ha
    obtain ⟨y, l2, rfl, h3, h4⟩ := dpC h2
    obtain ⟨y2, l3, rfl, h5, h6⟩ := dpC h4
    obtain rfl := dpN h6
    obtain rfl := dpS h1
    obtain rfl := dpS h3
    obtain rfl := dpS h5
    exact .tup (sqT_keep k n hs) (.cons (.str _) (.cons (.str _) (.cons (.str _) .nil)))
  | .ask2 o r q, v, h => by
    obtain ⟨a, xs, rfl, hs, ha⟩ := dpT h
    obtain ⟨x, l, rfl, h1, h2⟩ := dpC ha
    obtain ⟨y, l2, rfl, h3, h4⟩ := dpC h2
    obtain ⟨y2, l3, rfl, h5, h6⟩ := dpC h4
    obtain ⟨y3, l4, rfl, h7, h8⟩ := dpC h6
    obtain rfl := dpN h8
    obtain rfl := dpS h1
    obtain rfl := dpS h3
    obtain rfl := dpS h5
    obtain rfl := dpS h7
    exact .tup (sqT_keep k n hs) (.cons (.str _) (.cons (.str _) (.cons (.str _) (.cons (.str _) .nil))))
  | .no b, v, h => by
    obtain ⟨a, xs, rfl, hs, ha⟩ := dpT h
    obtain ⟨x, l, rfl, h1, h2⟩ := dpC ha
    obtain ⟨y, l2, rfl, h3, h4⟩ := dpC h2
    obtain rfl := dpN h4
    obtain rfl := dpS h1
    exact .tup (sqT_keep k n hs) (.cons (.str _) (.cons (nd_keep k n b y h3) .nil))
  | .iff b c d, v, h => by
    obtain ⟨a, xs, rfl, hs, ha⟩ := dpT h
    obtain ⟨x, l, rfl, h1, h2⟩ := dpC ha
    obtain ⟨y, l2, rfl, h3, h4⟩ := dpC h2
    obtain ⟨y2, l3, rfl, h5, h6⟩ := dpC h4
    obtain ⟨y3, l4, rfl, h7, h8⟩ := dpC h6
    obtain rfl := dpN h8
    obtain rfl := dpS h1
    exact .tup (sqT_keep k n hs) (.cons (.str _) (.cons (nd_keep k n b y h3) (.cons (nd_keep k n c y2 h5) (.cons (nd_keep k n d y3 h7) .nil))))
def Nd.size : Nd → Nat
  | .no a => a.size + 1
  | .iff a b c => a.size + b.size + c.size + 1
  | _ => 1
def Nd.dep : Nd → Nat
  | .no a => a.dep + 1
  | .iff a b c => max a.dep (max b.dep c.dep) + 1
  | _ => 1
def Nd.all (m : Str) : Bool → Nd → Bool
  | _, .no a => a.all m false
  | t, .iff a b c => a.all m false && b.all m t && c.all m t
  | t, nd => nd.top m t
theorem all_top {m : Str} {t : Bool} {nd : Nd} (h : nd.all m t = true) : nd.top m t = true := by
  cases nd with
  | no a => rfl
  | iff a b c => rfl
  | word z => exact h
  | cnt i => exact h
  | ask1 o r => exact h
  | ask2 o r q => exact h
theorem size_pos (nd : Nd) : 1 ≤ nd.size := by cases nd <;> simp [Nd.size]
theorem dep_pos (nd : Nd) : 1 ≤ nd.dep := by cases nd <;> simp [Nd.dep]
theorem FnG.imp {P : Program} {w : World} {K : PySem.W.Frag} {mg : Str → Option Value} {base : Heap} {CX : CXT} {k : Nat} {f : Addr} {fd : FuncData} {ps : List Str} {sp sp' : Sp} (F : FnG P w K mg base CX k f fd ps sp) (h : ∀ vs H Q E, sp' vs H Q E → sp vs H Q E) : FnG P w K mg base CX k f fd ps sp' :=
  ⟨fun vs H Q E z => F.len vs H Q E (h _ _ _ _ z), fun A g outer s H args us vs Q E hr e0 hb r z => F.go A g outer s H args us vs Q E hr e0 hb r (h _ _ _ _ z)⟩
theorem CalG.imp {P : Program} {w : World} {K : PySem.W.Frag} {mg : Str → Option Value} {base : Heap} {k : Nat} {x : Str} {sp sp' : Sp} (C : CalG P w K mg base k x sp) (h : ∀ vs H Q E, sp' vs H Q E → sp vs H Q E) : CalG P w K mg base k x sp' :=
  let ⟨f, fd, ps, F, a, b, c⟩ := C
  ⟨f, fd, ps, FnG.imp F h, a, b, c⟩
theorem parts_nd {K : PySem.W.Frag} : ∀ vs H Q E, spPartsN K vs H Q E → spParts K vs H Q E := by
  rintro vs H Q E ⟨v, nd, rfl, dp, wd, q⟩
  obtain ⟨p, xs, ds, rfl, hs, ha, e, kd⟩ := nd_at dp
  obtain ⟨hh, hk⟩ := head_in wd
  have hU : nd.head ∈ wordsU := (show ∀ z ∈ headW, z ∈ wordsU by decide +kernel) _ hh
  refine ⟨p, nd.head, xs, rfl, hs, hU, fun t H' s' ht => ?_⟩
  by_cases c : nd.head ∈ partW
  · rw [if_pos c] at ht
    exact q t xs H' s' ht (by rw [← kd (hk.mp c)]; exact dpa_mono s' ha)
  · rw [if_neg c] at ht
    have ne : nd.kids = [] := Classical.byContradiction fun z => c (hk.mpr z)
    exact q t [] H' s' ht (by rw [ne]; exact .nil)
end Ab
namespace Ab
open PySem.Spec PyProof.Rows
mutual
def noList : PyData → Bool
  | .list _ => false
  | .tuple xs => noListA xs
  | .dict _ => false
  | _ => true
def noListA : List PyData → Bool
  | [] => true
  | x :: xs => noList x && noListA xs
end
mutual
theorem dp_keepT {K : PySem.W.Frag} {p : Addr} {H H' : Hp} (k : Keep p H H') (n : NoTup H p) : ∀ {v : V} {d : PyData}, Dp K H v d → noList d = true → Dp K H' v d
  | _, _, .non, _ => .non
  | _, _, .bl b, _ => .bl b
  | _, _, .int i, _ => .int i
  | _, _, .str x, _ => .str x
  | _, _, .lst _ _, h => by cases h
  | _, _, .tup a b, h => .tup (sqT_keep k n a) (dpa_keepT k n b h)
theorem dpa_keepT {K : PySem.W.Frag} {p : Addr} {H H' : Hp} (k : Keep p H H') (n : NoTup H p) : ∀ {vs : List V} {ds : List PyData}, DpAll K H vs ds → noListA ds = true → DpAll K H' vs ds
  | _, _, .nil, _ => .nil
  | _, _, .cons a b, h => by
    have h : (noList _ && noListA _) = true := h
    rw [Bool.and_eq_true] at h
    exact .cons (dp_keepT k n a h.1) (dpa_keepT k n b h.2)
end
theorem noListA_app : ∀ a b : List PyData, noListA (a ++ b) = (noListA a && noListA b)
  | [], _ => rfl
  | x :: a, b => by
    show (noList x && noListA (a ++ b)) = ((noList x && noListA a) && noListA b)
    rw [noListA_app a b, Bool.and_assoc]
def Nd.rows : Nd → Nat → List PyData
  | .no a, i => .tuple [.str "not", .int ((i + 1 : Nat) : Int)] :: a.rows (i + 1)
  | .iff a b c, i => .tuple [.str "if", .int ((i + 1 : Nat) : Int), .int ((i + 1 + a.size : Nat) : Int), .int ((i + 1 + a.size + b.size : Nat) : Int)] :: (a.rows (i + 1) ++ (b.rows (i + 1 + a.size) ++ c.rows (i + 1 + a.size + b.size)))
  | nd, _ => [nd.d]
def numsL : Nat → List Nd → List Nat
  | _, [] => []
  | i, k :: r => i :: numsL (i + k.size) r
def rowsL : Nat → List Nd → List PyData
  | _, [] => []
  | i, k :: r => k.rows i ++ rowsL (i + k.size) r
def sumL (l : List Nd) : Nat := (l.map Nd.size).sum
def Nd.headD (nd : Nd) (i : Nat) : PyData := if nd.kids = [] then nd.d else .tuple (.str nd.head :: (numsL (i + 1) nd.kids).map fun n : Nat => PyData.int (n : Int))
theorem rows_eq (nd : Nd) (i : Nat) : nd.rows i = nd.headD i :: rowsL (i + 1) nd.kids := by
  cases nd <;> simp [Nd.rows, Nd.headD, Nd.kids, rowsL, numsL, Nd.head]
theorem rows_len : ∀ (nd : Nd) (i : Nat), (nd.rows i).length = nd.size
  | .no a, i => by simp [Nd.rows, Nd.size, rows_len a]
  | .iff a b c, i => by
    simp [Nd.rows, Nd.size, rows_len a, rows_len b, rows_len c]
    omega
  | .word _, _ => rfl
  | .cnt _, _ => rfl
  | .ask1 _ _, _ => rfl
  | .ask2 _ _ _, _ => rfl
theorem nd_noList : ∀ nd : Nd, noList nd.d = true
  | .no a => by
    show (true && (noList a.d && true)) = true
    rw [nd_noList a]; rfl
  | .iff a b c => by
    show (true && (noList a.d && (noList b.d && (noList c.d && true)))) = true
    rw [nd_noList a, nd_noList b, nd_noList c]; rfl
  | .word _ => rfl
  | .cnt _ => rfl
  | .ask1 _ _ => rfl
  | .ask2 _ _ _ => rfl
theorem rows_noList : ∀ (nd : Nd) (i : Nat), noListA (nd.rows i) = true
  | .no a, i => by
    show (true && noListA (a.rows (i + 1))) = true
    rw [rows_noList a]; rfl
  | .iff a b c, i => by
    show (true && noListA (a.rows (i + 1) ++ (b.rows (i + 1 + a.size) ++ c.rows (i + 1 + a.size + b.size)))) = true
    rw [noListA_app, noListA_app, rows_noList a, rows_noList b, rows_noList c]; rfl
  | .word _, _ => rfl
  | .cnt _, _ => rfl
  | .ask1 _ _, _ => rfl
  | .ask2 _ _ _, _ => rfl
theorem rowsL_noList : ∀ (l : List Nd) (i : Nat), noListA (rowsL i l) = true
  | [], _ => rfl
  | k :: r, i => by
    show noListA (k.rows i ++ rowsL (i + k.size) r) = true
    rw [noListA_app, rows_noList, rowsL_noList r]; rfl
theorem sumL_snoc (l : List Nd) (k : Nd) : sumL (l ++ [k]) = sumL l + k.size := by simp [sumL]
theorem rowsL_snoc : ∀ (l : List Nd) (k : Nd) (i : Nat), rowsL i (l ++ [k]) = rowsL i l ++ k.rows (i + sumL l)
  | [], k, i => by simp [rowsL, sumL]
  | a :: l, k, i => by
    show a.rows i ++ rowsL (i + a.size) (l ++ [k]) = (a.rows i ++ rowsL (i + a.size) l) ++ k.rows (i + sumL (a :: l))
    rw [rowsL_snoc l k, List.append_assoc]
    have : i + a.size + sumL l = i + sumL (a :: l) := by simp [sumL]; omega
    rw [this]
theorem numsL_snoc : ∀ (l : List Nd) (k : Nd) (i : Nat), numsL i (l ++ [k]) = numsL i l ++ [i + sumL l]
  | [], k, i => by simp [numsL, sumL]
  | a :: l, k, i => by
    show i :: numsL (i + a.size) (l ++ [k]) = i :: numsL (i + a.size) l ++ [i + sumL (a :: l)]
    rw [numsL_snoc l k]
    have : i + a.size + sumL l = i + sumL (a :: l) := by simp [sumL]; omega
    rw [this]
    rfl
theorem rowsL_len : ∀ (l : List Nd) (i : Nat), (rowsL i l).length = sumL l
  | [], _ => rfl
  | a :: l, i => by
    show (a.rows i ++ rowsL (i + a.size) l).length = sumL (a :: l)
    rw [List.length_append, rows_len, rowsL_len l]
    simp [sumL]
theorem numsL_len : ∀ (l : List Nd) (i : Nat), (numsL i l).length = l.length
  | [], _ => rfl
  | a :: l, i => by
    show (numsL (i + a.size) l).length + 1 = l.length + 1
    rw [numsL_len l]
theorem dpa_app {K : PySem.W.Frag} {H : Hp} : ∀ {xs ys : List V} {ds es : List PyData}, DpAll K H xs ds → DpAll K H ys es → DpAll K H (xs ++ ys) (ds ++ es)
  | _, _, _, _, .nil, h => h
  | _, _, _, _, .cons a b, h => .cons a (dpa_app b h)
theorem dpa_ints {K : PySem.W.Frag} {H : Hp} : ∀ l : List Nat, DpAll K H (l.map fun n : Nat => V.int (n : Int)) (l.map fun n : Nat => PyData.int (n : Int))
  | [] => .nil
  | _ :: l => .cons (.int _) (dpa_ints l)
theorem starT {K : PySem.W.Frag} {te : TE} {t : TA} {σ : L2.St} {H : Hp} {Q : List V → Hp → Prop} (k : te σ H fun x H1 => ∃ p xs, x = V.ref p ∧ (SqT K H1 p xs ∨ SqL K H1 p xs) ∧ t σ H1 fun ys H2 => Q (xs ++ ys) H2) : StX.tStar K te t σ H Q := k
theorem forT {K : PySem.W.Frag} {tl : TE} {g : TG} {tb : TS} {D : Ends} {σ : L2.St} {H : Hp} (k : tl σ H fun x H1 => tFor (iTup K (tC x)) g tb D σ H1) : tFor (iTup K tl) g tb D σ H := k
/-- right words all over -/
def Nd.wdA : Nd → Bool
  | .no a => a.wdA
  | .iff a b c => a.wdA && b.wdA && c.wdA
  | nd => nd.wd
theorem wdA_wd {nd : Nd} (h : nd.wdA = true) : nd.wd = true ∧ ∀ k ∈ nd.kids, k.wdA = true := by
  cases nd with
  | no a => exact ⟨rfl, fun k hk => by rw [List.mem_singleton.mp hk]; exact h⟩
  | iff a b c =>
    have h : (a.wdA && b.wdA && c.wdA) = true := h
    rw [Bool.and_eq_true, Bool.and_eq_true] at h
    refine ⟨rfl, fun k hk => ?_⟩
    have hk : k ∈ [a, b, c] := hk
    simp only [List.mem_cons, List.not_mem_nil, or_false] at hk
    rcases hk with rfl | rfl | rfl
    · exact h.1.1
    · exact h.1.2
    · exact h.2
  | word z => exact ⟨h, fun k hk => by cases hk⟩
  | cnt i => exact ⟨rfl, fun k hk => by cases hk⟩
  | ask1 o r => exact ⟨rfl, fun k hk => by cases hk⟩
  | ask2 o r q => exact ⟨rfl, fun k hk => by cases hk⟩
theorem kid_dep {nd k : Nd} (h : k ∈ nd.kids) : k.dep + 1 ≤ nd.dep ∧ sumL nd.kids + 1 = nd.size := by
  cases nd with
  | no a => rw [List.mem_singleton.mp h]; exact ⟨Nat.le_refl _, by simp [sumL, Nd.kids, Nd.size]⟩
  | iff a b c =>
    have hk : k ∈ [a, b, c] := h
    simp only [List.mem_cons, List.not_mem_nil, or_false] at hk
    refine ⟨?_, by simp [sumL, Nd.kids, Nd.size]; omega⟩
    rcases hk with rfl | rfl | rfl <;> simp [Nd.dep] <;> omega
  | word z => cases h
  | cnt i => cases h
  | ask1 o r => cases h
  | ask2 o r q => cases h
end Ab
namespace Ab
open PySem.Spec PyProof.Rows
theorem sumL_app (a b : List Nd) : sumL (a ++ b) = sumL a + sumL b := by simp [sumL]
section
variable {P : Program} {w : World} {K : PySem.W.Frag} {mg : Str → Option Value} {base : Heap}
abbrev sNumbered : Stmt := top 35
abbrev nNumbered : List Str := ["node", "number", "rows", "numbers", "part", "at", "head"]
theorem scNumbered : FnScope nNumbered ["node", "number"] (defScope sNumbered) := ⟨rfl, rfl, rfl, by decide +kernel, rfl, by decide +kernel, by decide +kernel⟩
def spNumb (K : PySem.W.Frag) (n : Nat) : Sp := fun vs H Q _ => ∃ (v : V) (nd : Nd) (i : Nat), vs = [v, .int (i : Int)] ∧ Dp K H v nd.d ∧ nd.wdA = true ∧ nd.dep ≤ n ∧ nd.size ≤ 16 ∧
  ∀ L ys H', Same H H' → H L = none → H' L = some (.lst ys) → DpAll K H' ys (nd.rows i) → Q (.ref L) H'
theorem ok_numb (T : Txt K mg) (D : DefAt K mg "_numbered" sNumbered ["node", "number"]) (CParts : CalG P w K mg base 1 "_parts" (spPartsN K)) : ∀ n, CalG P w K mg base (n + 2) "_numbered" (spNumb K n)
  | 0 => D.by scNumbered (fun vs H Q E h => by obtain ⟨_, _, _, rfl, _⟩ := h; rfl) (fun f cd A hg outer s H vs Q E hr h => by
    obtain ⟨_, nd, _, _, _, _, h, _⟩ := h
    have := dep_pos nd
    omega)
  | n + 1 => by
    have CNumbered := ok_numb T D CParts n
    refine D.by scNumbered (fun vs H Q E h => ?_) (fun f cd A hg outer s H vs Q E hr h => ?_)
    · obtain ⟨_, _, _, rfl, _⟩ := h
      rfl
    · obtain ⟨v, nd, i, rfl, dp, wda, hdep, hsz, q⟩ := h
      obtain ⟨wd, wdk⟩ := wdA_wd wda
      refine ⟨_, (pss_cons (ps_set (i := 2) scNumbered.nd rfl (Or.inl rfl) (pe_lst pa_nil))
  (pss_cons (ps_set (i := 3) scNumbered.nd rfl (Or.inl rfl) (pe_lst pa_nil))
  (pss_cons (ps_for (wi := iTup K _) PassesOwn.never rfl (pi_tup (pe_cG CParts hg hr (by omega) (pa_cons (pv 0) pa_nil))) (pg_name (i := 4) scNumbered.nd rfl (Or.inl rfl))
  (pss_cons (ps_set (i := 5) scNumbered.nd rfl (Or.inl rfl) (pe_op op_add (pe_op op_add (pv 1) pe_int) (pe_callB (r := Rd.rLenK K) Rd.callLen (by rfl) T.len PySem.boot_len (pa_cons (pv 2) pa_nil))))
  (pss_cons (ps_expr (pe_bm PySem.F.plainAttrs_list PySem.F.slot_list_append PySem.F.type_list_append mt_append (pv 3) (pa_cons (pv 5) pa_nil)))
  (pss_one (ps_expr (pe_bm PySem.F.plainAttrs_list PySem.F.slot_list_extend PySem.F.type_list_extend mt_extend (pv 2) (pa_cons (pe_cG CNumbered hg hr (by omega) (pa_cons (pv 4) (pa_cons (pv 5) pa_nil))) pa_nil)))))))
  (pss_cons (ps_set (i := 6) scNumbered.nd rfl (Or.inl rfl) (pe_ifExp (Rd.ptTru (K := K) rfl (pt_truth (pv 3) (by intro _; rfl))) (pe_tup (pa_cons (pe_ix (r := rIxT K) ix_tup (pv 0) pe_int (fun _ _ => rfl)) (StX.pa_star (pv 3) pa_nil))) (pv 0)))
  (pss_one (ps_ret (pe_lst (pa_cons (pv 6) (StX.pa_star (pv 2) pa_nil))))))))), ?_⟩
      repeat walk_at "rd"
      refine ⟨Rd.sz (by simp), fun R hR => ?_⟩
      have s1 := Rd.sNew (o := .lst []) hR
      have r1 : upd H R (.lst []) R = some (.lst []) := upd_same
      generalize upd H R (.lst []) = H1 at s1 r1 ⊢
      repeat walk_at "rd"
      refine ⟨Rd.sz (by simp), fun N hN => ?_⟩
      have s2 := Rd.sNew (o := .lst []) hN
      have n2 : upd H1 N (.lst []) N = some (.lst []) := upd_same
      have r2 := s2 _ _ r1
      have RN : R ≠ N := fun e => by rw [← e, r1] at hN; cases hN
      have nN : H N = none := by
        cases z : H N with
        | none => rfl
        | some u => rw [s1 _ _ z] at hN; cases hN
      have s12 := s1.trans s2
      generalize upd H1 N (.lst []) = H2 at s2 n2 r2 s12 ⊢
      repeat walk_at "rd"
      refine forT ?_
      repeat walk_at "rd"
      refine ⟨v, nd, rfl, dp_mono s12 dp, wd, fun pa xs H3 s3 ha hd => ?_⟩
      have lk := dpa_len hd
      rw [List.length_map] at lk
      refine ⟨pa, rfl, ⟨_, ha⟩, ?_⟩
      refine for_tup (K := K) (a := pa) (xs := xs) (fun j σ H' => ∃ z4 z5 ys, σ = [some v, some (.int (i : Int)), some (.ref R), some (.ref N), z4, z5, none] ∧ Same H H' ∧ SqT K H' pa xs ∧ DpAll K H' xs (nd.kids.map Nd.d) ∧ H' R = some (.lst ys) ∧
        DpAll K H' ys (rowsL (i + 1) (nd.kids.take j)) ∧ H' N = some (.lst ((numsL (i + 1) (nd.kids.take j)).map fun n : Nat => V.int (n : Int)))) ⟨_, _, [], rfl, s12.trans s3, ha, hd, s3 _ _ r2, .nil, s3 _ _ n2⟩ ?_ ?_ ?_
      · rintro j σ H' _ ⟨_, _, _, _, _, h, _⟩
        exact h
      · rintro j x σ H4 hx ⟨z4, z5, ys, rfl, s4, ha4, hd4, r4, dr4, n4⟩
        have hj : j < nd.kids.length := by
          have := (List.getElem?_eq_some_iff.mp hx).1
          omega
        have dk : Dp K H4 x (nd.kids[j]).d := dpa_get hd4 hx (by rw [List.getElem?_map, List.getElem?_eq_getElem hj]; rfl)
        have km : nd.kids[j] ∈ nd.kids := List.getElem_mem hj
        have ylen := dpa_len dr4
        rw [rowsL_len] at ylen
        have tk : nd.kids.take (j + 1) = nd.kids.take j ++ [nd.kids[j]] := by rw [List.take_add_one, List.getElem?_eq_getElem hj]; rfl
        obtain ⟨kdep, ksum⟩ := kid_dep km
        have kw := wdk _ km
        have tot : sumL (nd.kids.take j) + (nd.kids[j]).size ≤ sumL nd.kids := by
          have : sumL nd.kids = sumL (nd.kids.take (j + 1)) + sumL (nd.kids.drop (j + 1)) := by
            rw [← sumL_app, List.take_append_drop]
          rw [tk, sumL_snoc] at this
          omega
        generalize nd.kids[j] = k at dk km tk kdep kw tot
        have nlen : (numsL (i + 1) (nd.kids.take j)).length ≤ 100 := by
          rw [numsL_len, List.length_take]
          have : nd.kids.length ≤ 3 := by cases nd <;> simp [Nd.kids]
          omega
        repeat walk_at "rd"
        have at_ : (i : Int) + 1 + (ys.length : Int) = ((i + 1 + sumL (nd.kids.take j) : Nat) : Int) := by rw [ylen]; omega
        rw [at_]
        refine ⟨Rd.ty_list n4, ?_⟩
        repeat walk_at "rd"
        refine Rd.app n4 (by rw [List.length_map]; exact Rd.szl (by omega)) ?_
        have k5 : Keep N H4 (upd H4 N (.lst ((numsL (i + 1) (nd.kids.take j)).map (fun n : Nat => V.int (n : Int)) ++ [.int ((i + 1 + sumL (nd.kids.take j) : Nat) : Int)]))) := Keep.put (fun _ _ _ e => e)
        have nt4 := nt_lst n4
        have n5 : upd H4 N (.lst ((numsL (i + 1) (nd.kids.take j)).map (fun n : Nat => V.int (n : Int)) ++ [.int ((i + 1 + sumL (nd.kids.take j) : Nat) : Int)])) N = some (.lst ((numsL (i + 1) (nd.kids.take (j + 1))).map fun n : Nat => V.int (n : Int))) := by
          rw [upd_same, tk, numsL_snoc, List.map_append]
          rfl
        have r5 := k5 _ _ RN r4
        have s5 : Same H (upd H4 N (.lst ((numsL (i + 1) (nd.kids.take j)).map (fun n : Nat => V.int (n : Int)) ++ [.int ((i + 1 + sumL (nd.kids.take j) : Nat) : Int)]))) := Rd.sMut s4 nN
        have ha5 := sqT_keep k5 nt4 ha4
        have kidsNL : noListA (nd.kids.map Nd.d) = true := by
          generalize nd.kids = l
          induction l with
          | nil => rfl
          | cons a l ih =>
            show (noList a.d && noListA (l.map Nd.d)) = true
            rw [nd_noList, ih]; rfl
        have hd5 := dpa_keepT k5 nt4 hd4 kidsNL
        have dr5 := dpa_keepT k5 nt4 dr4 (rowsL_noList _ _)
        have dk5 := dp_keepT k5 nt4 dk (nd_noList _)
        generalize upd H4 N (.lst ((numsL (i + 1) (nd.kids.take j)).map (fun n : Nat => V.int (n : Int)) ++ [.int ((i + 1 + sumL (nd.kids.take j) : Nat) : Int)])) = H5 at k5 n5 r5 s5 ha5 hd5 dr5 dk5 ⊢
        repeat walk_at "rd"
        refine ⟨Rd.ty_list r5, ?_⟩
        repeat walk_at "rd"
        refine ⟨x, k, i + 1 + sumL (nd.kids.take j), rfl, dk5, kw, by omega, by omega, fun L zs H6 s6 _ hL dz => ?_⟩
        have r6 := s6 _ _ r5
        have zl := dpa_len dz
        rw [rows_len] at zl
        repeat walk_at "rd"
        refine ⟨R, L, ys, zs, rfl, rfl, r6, hL, Nat.le_of_lt (Rd.szl (by omega)), ?_⟩
        have k7 : Keep R H6 (upd H6 R (.lst (ys ++ zs))) := Keep.put (fun _ _ _ e => e)
        have nt6 := nt_lst r6
        repeat walk_at "rd"
        refine ⟨_, _, ys ++ zs, rfl, Rd.sMut (s5.trans s6) hR, sqT_keep k7 nt6 (sqT_same s6 ha5), dpa_keepT k7 nt6 (dpa_mono s6 hd5) kidsNL, upd_same, ?_, k7 _ _ (fun e => RN e.symm) (s6 _ _ n5)⟩
        rw [tk, rowsL_snoc]
        refine dpa_app (dpa_keepT k7 nt6 (dpa_mono s6 dr5) (rowsL_noList _ _)) (dpa_keepT k7 nt6 dz (rows_noList _ _))
      · rintro σ H4 ⟨z4, z5, ys, rfl, s4, ha4, hd4, r4, dr4, n4⟩
        rw [lk, List.take_length] at dr4 n4
        have dp4 := dp_mono s4 dp
        obtain ⟨p, hx, ds, rfl, hs, hh, he, hk⟩ := nd_at dp4
        have ylen := dpa_len dr4
        rw [rowsL_len] at ylen
        have fin : ∀ (hv : V) H5, Same H4 H5 → Dp K H5 hv (nd.headD i) → ∀ L, H5 L = none → Q (.ref L) (upd H5 L (.lst (hv :: (ys ++ [])))) := fun hv H5 s5 dh L hL => by
          rw [List.append_nil]
          have s6 := Rd.sNew (o := .lst (hv :: ys)) hL
          refine q L _ _ ((s4.trans s5).trans s6) ?_ upd_same ?_
          · cases z : H L with
            | none => rfl
            | some u => rw [s5 _ _ (s4 _ _ z)] at hL; cases hL
          · rw [rows_eq]
            exact .cons (dp_mono s6 dh) (dpa_mono (s5.trans s6) dr4)
        repeat walk_at "rd"
        refine Rd.bool (fun c => ?_) (fun c => ?_)
        · have ne : nd.kids ≠ [] := fun e => by rw [e] at c; cases c
          repeat walk_at "rd"
          refine Rd.ixT hs (Rd.atN (by decide) rfl) ?_
          refine starT ?_
          repeat walk_at "rd"
          refine ⟨N, _, rfl, .inr (SqL.of n4), ?_⟩
          have nlen : (numsL (i + 1) nd.kids).length ≤ 100 := by
            rw [numsL_len]
            have : nd.kids.length ≤ 3 := by cases nd <;> simp [Nd.kids]
            omega
          repeat walk_at "rd"
          rw [List.append_nil]
          refine ⟨Rd.sz (by rw [List.length_cons, List.length_map]; omega), fun t ht => ?_⟩
          have s5 := Rd.sNew (o := .tup (.str nd.head :: (numsL (i + 1) nd.kids).map fun n : Nat => V.int (n : Int))) ht
          have dh : Dp K (upd H4 t (.tup (.str nd.head :: (numsL (i + 1) nd.kids).map fun n : Nat => V.int (n : Int)))) (.ref t) (nd.headD i) := by
            rw [Nd.headD, if_neg ne]
            exact .tup (.inl (.inl upd_same)) (.cons (.str _) (dpa_ints _))
          generalize upd H4 t (.tup (.str nd.head :: (numsL (i + 1) nd.kids).map fun n : Nat => V.int (n : Int))) = H5 at s5 dh ⊢
          repeat walk_at "rd"
          refine starT ?_
          repeat walk_at "rd"
          refine ⟨R, ys, rfl, .inr (SqL.of (s5 _ _ r4)), ?_⟩
          repeat walk_at "rd"
          refine ⟨Rd.sz ?_, fun L hL => fin _ H5 s5 dh L hL⟩
          obtain ⟨_, ks⟩ := kid_dep (List.head_mem ne)
          rw [List.length_cons, List.length_append]
          simp only [List.length_nil]
          omega
        · have ne : nd.kids = [] := by
            cases z : nd.kids with
            | nil => rfl
            | cons a l => rw [z] at c; cases c
          have dh : Dp K H4 (.ref p) (nd.headD i) := by
            rw [Nd.headD, if_pos ne]
            exact dp4
          repeat walk_at "rd"
          refine starT ?_
          repeat walk_at "rd"
          refine ⟨R, ys, rfl, .inr (SqL.of r4), ?_⟩
          repeat walk_at "rd"
          refine ⟨Rd.sz ?_, fun L hL => fin _ H4 (Same.refl _) dh L hL⟩
          rw [ne] at ylen
          have : sumL [] = 0 := rfl
          rw [List.length_cons, List.length_append]
          simp only [List.length_nil]
          omega
end
end Ab
namespace Ab
open PySem.Spec PyProof.Rows
/-! ### the same, by recursion -/
def foldW (g : PyData → Bool → Nat → Option Nat × Nat) : List (PyData × Bool) → Nat → Option Nat × Nat
  | [], k => (none, k)
  | p :: r, k => match g p.1 p.2 k with
    | (some n, k') => (some n, k')
    | (none, k') => foldW g r k'
/-- f levels are left, k numbers -/
def wrF (m : Str) : Nat → PyData → Bool → Nat → Option Nat × Nat
  | 0, _, _, k => (some (16 - k), k)
  | f + 1, d, t, k => if k = 0 ∨ nodeD m t d = false then (some (16 - k), k) else foldW (wrF m f) ((kidsD d).zip (tailsD t d)) (k - 1)
def onW (m : Str) (st : List Wt) : Option Nat × Nat → Option Nat
  | (some n, _) => some n
  | (none, k) => goW m k st
theorem goW_wr (m : Str) : ∀ (f : Nat), f ≤ 6 → ∀ (d : PyData) (t : Bool) (k : Nat) (st : List Wt), goW m k ((d, 7 - f, t) :: st) = onW m st (wrF m f d t k)
  | 0, _, d, t, k, st => by
    cases k with
    | zero => rfl
    | succ k =>
      rw [goW, if_neg (fun h => absurd h.1 (by show ¬ (7 ≤ 6); decide))]
      rfl
  | f + 1, hf, d, t, k, st => by
    have ih := goW_wr m f (by omega)
    have fold : ∀ (l : List (PyData × Bool)) (k : Nat) (st : List Wt), goW m k (l.map (fun p => ((p.1, 7 - f, p.2) : Wt)) ++ st) = onW m st (foldW (wrF m f) l k) := by
      intro l
      induction l with
      | nil => intro k st; rfl
      | cons p r ihl =>
        intro k st
        rw [List.map_cons, List.cons_append, ih, foldW]
        cases e : wrF m f p.1 p.2 k with
        | mk a k' =>
          cases a with
          | none =>
            show goW m k' _ = _
            rw [ihl]
          | some n => rfl
    rw [wrF]
    cases k with
    | zero => rw [if_pos (.inl rfl)]; rfl
    | succ k =>
      rw [goW]
      by_cases h : nodeD m t d = true
      · rw [if_pos ⟨by show 7 - (f + 1) ≤ 6; omega, h⟩, if_neg (fun z => z.elim (fun e => absurd e (Nat.succ_ne_zero k)) (fun e => by rw [h] at e; cases e))]
        have e : kidsZ (d, 7 - (f + 1), t) = ((kidsD d).zip (tailsD t d)).map (fun p => ((p.1, 7 - f, p.2) : Wt)) := by
          unfold kidsZ
          have : 7 - (f + 1) + 1 = 7 - f := by omega
          show ((kidsD d).zip (tailsD t d)).map (fun p => ((p.1, 7 - (f + 1) + 1, p.2) : Wt)) = _
          rw [this]
        rw [e]
        exact fold _ _ _
      · have h' : nodeD m t d = false := by cases z : nodeD m t d with
          | true => exact absurd z h
          | false => rfl
        rw [if_neg (fun z => h z.2), if_pos (.inr h')]
        rfl
theorem goW_top (m : Str) (d : PyData) : goW m 16 [(d, 1, true)] = (wrF m 6 d true 16).1 := by
  have h := goW_wr m 6 (Nat.le_refl _) d true 16 []
  rw [show ((d, 7 - 6, true) : Wt) = (d, 1, true) from rfl] at h
  rw [h]
  cases e : wrF m 6 d true 16 with
  | mk a k =>
    cases a with
    | none => show goW m k [] = none; cases k <;> rfl
    | some n => rfl
theorem inD_str {ws : List Str} {d : PyData} (h : inD ws d = true) : ∃ z, d = .str z ∧ z ∈ ws := by
  cases d with
  | str z => exact ⟨z, rfl, of_decide_eq_true h⟩
  | _ => cases h
theorem roleD_str {m : Str} {d : PyData} (h : roleD m d = true) : ∃ z, d = .str z ∧ z ∈ rolesOf m := by
  cases d with
  | str z => exact ⟨z, rfl, of_decide_eq_true h⟩
  | _ => cases h
/-- what has no wrong node is a right body -/
theorem wr_nd (m : Str) : ∀ (f : Nat) (d : PyData) (t : Bool) (k k' : Nat), wrF m f d t k = (none, k') → ∃ nd : Nd, d = nd.d ∧ nd.all m t = true ∧ nd.dep ≤ f ∧ nd.size + k' = k
  | 0, d, t, k, k', h => by rw [wrF] at h; cases h
  | f + 1, d, t, k, k', h => by
    have ih := wr_nd m f
    rw [wrF] at h
    by_cases c : k = 0 ∨ nodeD m t d = false
    · rw [if_pos c] at h; cases h
    · rw [if_neg c] at h
      have k0 : k ≠ 0 := fun e => c (.inl e)
      have nt : nodeD m t d = true := by
        cases z : nodeD m t d with
        | true => rfl
        | false => exact absurd (.inr z) c
      match d, nt, h with
      | .tuple (.str w :: ds), nt, h =>
        have nt : wordD m w ds t = true := nt
        have h : foldW (wrF m f) ((if w ∈ partW then ds else []).zip (tailsW w t)) (k - 1) = (none, k') := h
        by_cases wn : w = "not"
        · subst wn
          rw [wordD, if_pos rfl] at nt
          rw [if_pos (by decide +kernel), tailsW, if_neg (by decide +kernel), if_pos rfl] at h
          match ds, nt, h with
          | [c], _, h =>
            have h : (match wrF m f c false (k - 1) with | (some n, k') => (some n, k') | (none, k') => (none, k')) = ((none : Option Nat), k') := h
            cases e : wrF m f c false (k - 1) with
            | mk a k2 =>
              rw [e] at h
              cases a with
              | some n => cases h
              | none =>
                cases h
                obtain ⟨nd, rfl, h1, h2, h3⟩ := ih _ _ _ _ e
                exact ⟨.no nd, rfl, h1, by show nd.dep + 1 ≤ f + 1; omega, by show nd.size + 1 + k' = k; omega⟩
          | [], nt, _ => exact absurd nt (by decide)
          | _ :: _ :: _, nt, _ => exact absurd nt (by simp)
        · by_cases wi : w = "if"
          · subst wi
            rw [wordD, if_neg (by decide +kernel), if_pos rfl] at nt
            rw [if_pos (by decide +kernel), tailsW, if_pos rfl] at h
            match ds, nt, h with
            | [c1, c2, c3], _, h =>
              have h : foldW (wrF m f) [(c1, false), (c2, t), (c3, t)] (k - 1) = (none, k') := h
              rw [foldW] at h
              cases e1 : wrF m f c1 false (k - 1) with
              | mk a k2 =>
                rw [e1] at h
                cases a with
                | some n => cases h
                | none =>
                  have h : foldW (wrF m f) [(c2, t), (c3, t)] k2 = (none, k') := h
                  rw [foldW] at h
                  cases e2 : wrF m f c2 t k2 with
                  | mk a k3 =>
                    rw [e2] at h
                    cases a with
                    | some n => cases h
                    | none =>
                      have h : foldW (wrF m f) [(c3, t)] k3 = (none, k') := h
                      rw [foldW] at h
                      cases e3 : wrF m f c3 t k3 with
                      | mk a k4 =>
                        rw [e3] at h
                        cases a with
                        | some n => cases h
                        | none =>
                          have h : ((none : Option Nat), k4) = (none, k') := h
                          cases h
                          obtain ⟨n1, rfl, a1, a2, a3⟩ := ih _ _ _ _ e1
                          obtain ⟨n2, rfl, b1, b2, b3⟩ := ih _ _ _ _ e2
                          obtain ⟨n3, rfl, d1, d2, d3⟩ := ih _ _ _ _ e3
                          refine ⟨.iff n1 n2 n3, rfl, ?_, ?_, ?_⟩
                          · show (n1.all m false && n2.all m t && n3.all m t) = true
                            rw [a1, b1, d1]; rfl
                          · show max n1.dep (max n2.dep n3.dep) + 1 ≤ f + 1; omega
                          · show n1.size + n2.size + n3.size + 1 + k' = k; omega
            | [], nt, _ => exact absurd nt (by decide)
            | [_], nt, _ => exact absurd nt (by simp)
            | [_, _], nt, _ => exact absurd nt (by simp)
            | _ :: _ :: _ :: _ :: _, nt, _ => exact absurd nt (by simp)
          · rw [wordD, if_neg wn, if_neg wi] at nt
            rw [if_neg (show w ∉ partW by simp only [partW, List.mem_cons, List.not_mem_nil, or_false, not_or]; exact ⟨wn, wi⟩), List.zip_nil_left, foldW] at h
            have h : k - 1 = k' := by cases h; rfl
            by_cases wc : w = "count"
            · subst wc
              rw [if_pos rfl] at nt
              match ds, nt with
              | [c], nt =>
                cases c with
                | int i => exact ⟨.cnt i, rfl, nt, by show 1 ≤ f + 1; omega, by show 1 + k' = k; omega⟩
                | _ => cases nt
              | [], nt => cases nt
              | _ :: _ :: _, nt => cases nt
            · rw [if_neg wc] at nt
              by_cases wa : w = "ask"
              · subst wa
                rw [if_pos rfl] at nt
                match ds, nt with
                | [o, r], nt =>
                  have nt : (inD askOne o && roleD m r) = true := nt
                  rw [Bool.and_eq_true] at nt
                  obtain ⟨o, rfl, ho⟩ := inD_str nt.1
                  obtain ⟨r, rfl, hr⟩ := roleD_str nt.2
                  refine ⟨.ask1 o r, rfl, ?_, by show 1 ≤ f + 1; omega, by show 1 + k' = k; omega⟩
                  show (decide (o ∈ askOne) && decide (r ∈ rolesOf m)) = true
                  rw [decide_eq_true ho, decide_eq_true hr]; rfl
                | [o, r, q], nt =>
                  have nt : (inD askTwo o && roleD m r && roleD m q && !(PyData.eqv r q)) = true := nt
                  simp only [Bool.and_eq_true] at nt
                  obtain ⟨o, rfl, ho⟩ := inD_str nt.1.1.1
                  obtain ⟨r, rfl, hr⟩ := roleD_str nt.1.1.2
                  obtain ⟨q, rfl, hq⟩ := roleD_str nt.1.2
                  have ne := nt.2
                  rw [eqv_str] at ne
                  have ne : r ≠ q := by simpa using ne
                  refine ⟨.ask2 o r q, rfl, ?_, by show 1 ≤ f + 1; omega, by show 1 + k' = k; omega⟩
                  show (decide (o ∈ askTwo) && decide (r ∈ rolesOf m) && decide (q ∈ rolesOf m) && decide (r ≠ q)) = true
                  rw [decide_eq_true ho, decide_eq_true hr, decide_eq_true hq, decide_eq_true ne]; rfl
                | [], nt => cases nt
                | [_], nt => cases nt
                | _ :: _ :: _ :: _ :: _, nt => cases nt
              · rw [if_neg wa, Bool.and_eq_true] at nt
                match ds, nt with
                | [], nt => exact ⟨.word w, rfl, nt.2, by show 1 ≤ f + 1; omega, by show 1 + k' = k; omega⟩
                | _ :: _, nt => exact absurd nt.1 (by simp)
theorem goW_none {m : Str} {d : PyData} (h : goW m 16 [(d, 1, true)] = none) : ∃ nd : Nd, d = nd.d ∧ nd.all m true = true ∧ nd.dep ≤ 6 ∧ nd.size ≤ 16 := by
  rw [goW_top] at h
  cases e : wrF m 6 d true 16 with
  | mk a k =>
    rw [e] at h
    cases (show a = none from h)
    obtain ⟨nd, h1, h2, h3, h4⟩ := wr_nd m 6 d true 16 k e
    exact ⟨nd, h1, h2, h3, by omega⟩
end Ab
namespace Rd
open PySem.Spec PyProof.Rows
section
variable {K : PySem.W.Frag} {σ : L2.St} {H : Hp} {Q : VK} {D : Ends} {n : Nat} {a C dx : Addr} {fs : List (Str × V)} {f : Str} {v : V} {ta tb tv td ty : TE} {t : TA} {sp : Sp} {E : XK}
theorem fldV (h : σ[n]? = some (some (.ref a))) (e : H a = some (.ins C dx fs)) (c : L2.Cls K C) (na : NoAttr K C f) (l : fs.lookup f = some v) (k : Q v H) : tFld K (tVar n) f σ H Q := ⟨.ref a, h, a, C, dx, fs, v, rfl, e, c, na, l, k⟩
theorem sfld (k : tv σ H fun y H1 => ta σ H1 fun x H2 => ∃ a C dx fs, x = .ref a ∧ H2 a = some (.ins C dx fs) ∧ L2.Cls K C ∧ NoAttr K C f ∧ fs.length < 1000 ∧ D.nx σ (upd H2 a (.ins C dx (putF f y fs)))) : sFld K ta tv f D σ H := k
theorem dget (k : td σ H fun x H1 => ty σ H1 fun y H2 => ∃ a v, x = .ref a ∧ DGet H2 a y (some v) ∧ Q v H2) : tDGet td ty σ H Q := k
theorem methR {m : Str} (k : ta σ H fun x H1 => ∃ a dx fs, x = .ref a ∧ H1 a = some (.ins C dx fs) ∧ fs.lookup m = none ∧ t σ H1 fun vs H2 => sp (x :: (vs ++ [])) H2 Q E) : tMeth C m sp [] E ta t σ H Q := k
theorem propR (k : ta σ H fun x H1 => ∃ a dx fs, x = .ref a ∧ H1 a = some (.ins C dx fs) ∧ sp [.ref a] H1 Q E) : tProp C sp [] E ta σ H Q := k
theorem statR (k : ta σ H fun x H1 => x = .ref C ∧ sp [] H1 Q E) : Ob.tStat C sp E ta σ H Q := k
theorem getR (k : ta σ H fun x H1 => tb σ H1 fun y H2 => ∃ a dx fs, x = .ref a ∧ H2 a = some (.ins C dx fs) ∧ sp [.ref a, y] H2 Q E) : Ow.tGetO C sp E ta tb σ H Q := k
theorem makeR (k : t σ H fun vs H1 => ∀ x dx, H1 x = none → H1 dx = none → dx ≠ x → sp (.ref x :: (vs ++ [])) (upd (upd H1 dx (.own x)) x (.ins C dx [])) (fun v H2 => v = .non ∧ Q (.ref x) H2) E) : tMake C sp [] E t σ H Q := k
end
end Rd
namespace Ab
open PySem.Spec PyProof.Rows
local macro_rules | `(tactic| walk_at "rd") => `(tactic| (with_reducible first | refine Rd.tt_ ?_ | refine Rd.ff_ ?_ | refine Rd.sfld ?_ | refine Rd.dget ?_ | refine Rd.methR ?_ | refine Rd.propR ?_ | refine Rd.getR ?_))
structure BdF (K : PySem.W.Frag) (mg : Str → Option Value) (C : Addr) : Prop extends Ob.CF K mg "Body" C where
  n1 : NoAttr K C "method"
  n2 : NoAttr K C "expression"
  n3 : NoAttr K C "_nodes"
/-- a body in the heap -/
structure BdA (K : PySem.W.Frag) (C : Addr) (H : Hp) (b L : Addr) (m : Str) (v : V) (nd : Nd) : Prop where
  ins : ∃ dx, H b = some (.ins C dx [("method", .str m), ("expression", v), ("_nodes", .ref L)])
  nds : ∃ ys, H L = some (.lst ys) ∧ DpAll K H ys (nd.rows 0)
  dp : Dp K H v nd.d
theorem BdA.mono {K : PySem.W.Frag} {C : Addr} {H H' : Hp} {b L : Addr} {m : Str} {v : V} {nd : Nd} (k : BdA K C H b L m v nd) (s : Same H H') : BdA K C H' b L m v nd :=
  ⟨let ⟨dx, h⟩ := k.ins; ⟨dx, s _ _ h⟩, let ⟨ys, h1, h2⟩ := k.nds; ⟨ys, s _ _ h1, dpa_mono s h2⟩, dp_mono s k.dp⟩
/-- a right body for m -/
structure BdOk (m : Str) (nd : Nd) : Prop where
  mm : m ∈ methods
  kk : kindOf m ∈ bodyKinds
  all : nd.all m true = true
  size : nd.size ≤ 16
  dep : nd.dep ≤ 6
theorem all_wdA {m : Str} : ∀ (nd : Nd) (t : Bool), nd.all m t = true → nd.wdA = true
  | .no a, t, h => all_wdA a false h
  | .iff a b c, t, h => by
    have h : (a.all m false && b.all m t && c.all m t) = true := h
    rw [Bool.and_eq_true, Bool.and_eq_true] at h
    show (a.wdA && b.wdA && c.wdA) = true
    rw [all_wdA a _ h.1.1, all_wdA b _ h.1.2, all_wdA c _ h.2]
    rfl
  | .word z, t, h => top_wd (nd := .word z) h
  | .cnt _, _, _ => rfl
  | .ask1 _ _, _, _ => rfl
  | .ask2 _ _ _, _, _ => rfl
section
variable {P : Program} {w : World} {K : PySem.W.Frag} {mg : Str → Option Value} {base : Heap}
def bodyM : List Str := ["truth", "length", "has", "like", "unlike", "before", "behind", "hash"]
theorem bodyM_iff : ∀ m ∈ methods, (kindOf m ∈ bodyKinds ↔ m ∈ bodyM) := by decide +kernel
theorem bodyM_in : ∀ m ∈ bodyM, m ∈ methods := by decide +kernel
/-- an error out of the class at C, that keeps v as its f -/
def OutF (C : Addr) (f : Str) (v : V) (H : Hp) (E : XK) : Prop := ∀ d, H d = none → E (.ref C) (some d) (upd H d (.xd [(f, v)]))
abbrev sCheck_body_method : Stmt := top 27
abbrev nCheck_body_method : List Str := ["method"]
theorem scCheck_body_method : FnScope nCheck_body_method ["method"] (defScope sCheck_body_method) := ⟨rfl, rfl, rfl, by decide +kernel, rfl, by decide +kernel, by decide +kernel⟩
def spCheckB (K : PySem.W.Frag) (C : Addr) : Sp := fun vs H Q E => ∃ (v : V) (tn : String), vs = [v] ∧ Kd K H v tn ∧ (isIn v bodyM = true → Q .non H) ∧ (isIn v bodyM = false → OutF C "value" v H E)
theorem ok_checkB (T : Txt K mg) {C p_BODY_KINDS : Addr} (g_BODY_KINDS : mg "BODY_KINDS" = some (.ref p_BODY_KINDS)) (tB : ∀ H, SqT K H p_BODY_KINDS (bodyKinds.map V.str)) (T_NoName : Ex.ErrC K mg "NoName" "value" C) (M_NoName : Ex.InitOk P w K mg base "value" C)
    (D : DefAt K mg "check_body_method" sCheck_body_method ["method"]) (CKind_of : Ex.CalX P w K mg base 4 "kind_of" (spKind K C)) : Ex.CalX P w K mg base 5 "check_body_method" (spCheckB K C) := by
  refine Ex.byX D scCheck_body_method (fun vs H Q E h => ?_) (fun f cd A hg outer s H vs Q E hr h => ?_)
  · obtain ⟨_, _, rfl, _⟩ := h
    rfl
  · obtain ⟨v, tn, rfl, kd, q1, q2⟩ := h
    refine ⟨_, (pss_one (ps_if (pt_cmpR (r := rIn K true) op_notIn_seq (Ex.pe_x CKind_of hg hr (by decide) (takes_of rfl rfl rfl rfl) (pa_cons (pv 0) pa_nil)) (pe_glob (v := .ref p_BODY_KINDS) (by rfl) g_BODY_KINDS rfl) (by rfl))
  (pss_one (ps_raise rfl (takes_of rfl rfl rfl rfl) (Ex.pmkE T_NoName M_NoName hr (by decide) (pa_cons (pv 0) pa_nil))))
  pss_nil)), ?_⟩
    repeat walk_at "rd"
    refine ⟨v, tn, rfl, kd, fun z ez hm => ?_, fun c => ?_⟩
    · subst ez
      have iff := bodyM_iff z hm
      repeat walk_at "rd"
      refine inT (tB _) rfl (flat_strs _) ?_
      rw [if_pos rfl, inV_str]
      refine ⟨_, rfl, ?_⟩
      refine Rd.ndec (fun c => ?_) (fun c => ?_)
      · repeat walk_at "rd"
        refine Ex.mk ?_
        repeat walk_at "rd"
        exact Ex.made (q2 (decide_eq_false fun z => c (iff.mpr z)))
      · repeat walk_at "rd"
        exact q1 (decide_eq_true (iff.mp c))
    · have e : isIn v bodyM = false := by
        cases v with
        | str z => exact decide_eq_false fun h => (show z ∉ methods from of_decide_eq_false c) (bodyM_in z h)
        | _ => rfl
      exact q2 e
abbrev sBody___init__ : Stmt := meth 36 0
abbrev nBody___init__ : List Str := ["self", "method", "expression", "place"]
theorem scBody___init__ : FnScope nBody___init__ ["self", "method", "expression"] (defScope sBody___init__) := ⟨rfl, rfl, rfl, by decide +kernel, rfl, by decide +kernel, by decide +kernel⟩
def spBInit (K : PySem.W.Frag) (C CN CB : Addr) : Sp := fun vs H Q E => ∃ (b dx : Addr) (x v : V) (tn : String) (d : PyData), vs = [.ref b, x, v] ∧ H b = some (.ins C dx []) ∧ Kd K H x tn ∧ Dp K H v d ∧ Uni d ∧
  (isIn x bodyM = false → OutF CN "value" x H E) ∧
  ∀ m, x = .str m → m ∈ bodyM → (∀ n, goW m 16 [(d, 1, true)] = some n → ∀ H', Same H H' → OutF CB "place" (.int (n : Int)) H' E) ∧
    (goW m 16 [(d, 1, true)] = none → ∀ L H', Keep b H H' → H L = none → H' b = some (.ins C dx [("method", .str m), ("expression", v), ("_nodes", .ref L)]) → Q .non H')
set_option pp.maxSteps 3000 in
theorem ok_bdinit (T : Txt K mg) {C_Body C_NoName C_NoBody : Addr} (B : BdF K mg C_Body) (T_NoBody : Ex.ErrC K mg "NoBody" "place" C_NoBody) (M_NoBody : Ex.InitOk P w K mg base "place" C_NoBody) (CCheck_body_method : Ex.CalX P w K mg base 5 "check_body_method" (spCheckB K C_NoName))
    (CFirst_wrong : CalG P w K mg base 8 "_first_wrong" (spFirst K)) (CNumbered : CalG P w K mg base 8 "_numbered" (spNumb K 6)) {f : Addr} {fd : FuncData} (D : Ob.MethAt K "__init__" "Body.__init__" sBody___init__ ["self", "method", "expression"] f fd) :
    FnG P w K mg base (L2.CX P w) 9 f fd ["self", "method", "expression"] (spBInit K C_Body C_NoName C_NoBody) := by
  refine Ob.byGX D scBody___init__ (fun vs H Q E h => ?_) (fun cd A hg outer s H vs Q E hr h => ?_)
  · obtain ⟨_, _, _, _, _, _, rfl, _⟩ := h
    rfl
  · obtain ⟨b, dx, x, v, tn, d, rfl, hb, kd, dp, un, q1, q2⟩ := h
    refine ⟨_, (pss_cons (ps_expr (Ex.pe_x CCheck_body_method hg hr (by decide) (takes_of rfl rfl rfl rfl) (pa_cons (pv 1) pa_nil)))
  (pss_cons (ps_set (i := 3) scBody___init__.nd rfl (Or.inl rfl) (pe_cG CFirst_wrong hg hr (by decide) (pa_cons (pv 1) (pa_cons (pv 2) pa_nil))))
  (pss_cons (ps_if (pt_cmpR op_notN (pv 3) pe_non (nomark _))
  (pss_one (ps_raise rfl (takes_of rfl rfl rfl rfl) (Ex.pmkE T_NoBody M_NoBody hr (by decide) (pa_cons (pv 3) pa_nil))))
  pss_nil)
  (pss_cons (ps_fld (pv 0) (pv 1) (by rfl))
  (pss_cons (ps_fld (pv 0) (pv 2) (by rfl))
  (pss_one (ps_fld (pv 0) (pe_cG CNumbered hg hr (by decide) (pa_cons (pv 2) (pa_cons pe_int pa_nil))) (by rfl)))))))), ?_⟩
    repeat walk_at "rd"
    refine ⟨x, tn, rfl, kd, fun c => ?_, q1⟩
    obtain ⟨m, rfl, hm⟩ := isIn_str c
    obtain ⟨q2, q3⟩ := q2 m rfl hm
    have mm := bodyM_in m hm
    repeat walk_at "rd"
    refine ⟨v, m, d, rfl, dp, un, mm, fun H1 s1 => ?_⟩
    have hb1 := s1 _ _ hb
    have nt1 := nt_ins hb1
    repeat walk_at "rd"
    cases eg : goW m 16 [(d, 1, true)] with
    | some n =>
      refine Rd.ndec (fun c => ?_) (fun c => absurd c (by intro z; cases z))
      repeat walk_at "rd"
      refine Ex.mk ?_
      repeat walk_at "rd"
      exact Ex.made (q2 n eg H1 s1)
    | none =>
      refine Rd.ndec (fun c => absurd rfl c) (fun _ => ?_)
      obtain ⟨nd, rfl, al, dep, sz⟩ := goW_none eg
      have dp1 := dp_mono s1 dp
      repeat walk_at "rd"
      refine ⟨b, C_Body, dx, [], rfl, hb1, B.cl, B.n1, by decide, ?_⟩
      have e1 : putF "method" (.str m) [] = [(("method" : Str), V.str m)] := rfl
      rw [e1]
      repeat walk_at "rd"
      refine ⟨b, C_Body, dx, [("method", .str m)], rfl, upd_same, B.cl, B.n2, by simp, ?_⟩
      have e2 : putF "expression" v [(("method" : Str), V.str m)] = [(("method" : Str), V.str m), ("expression", v)] := rfl
      rw [e2, upd_upd]
      have k2 : Keep b H1 (upd H1 b (.ins C_Body dx [("method", .str m), ("expression", v)])) := Keep.put (fun _ _ _ e => e)
      have dp2 := nd_keep k2 nt1 _ _ dp1
      have hb2 : upd H1 b (.ins C_Body dx [("method", .str m), ("expression", v)]) b = some (.ins C_Body dx [("method", .str m), ("expression", v)]) := upd_same
      have k02 : Keep b H (upd H1 b (.ins C_Body dx [("method", .str m), ("expression", v)])) := (Keep.same s1).put
      generalize upd H1 b (.ins C_Body dx [("method", .str m), ("expression", v)]) = H2 at k2 dp2 hb2 k02 ⊢
      repeat walk_at "rd"
      refine ⟨v, nd, 0, rfl, dp2, all_wdA nd true al, dep, sz, fun L ys H4 s4 nL hL dy => ?_⟩
      have hb4 := s4 _ _ hb2
      have bL : L ≠ b := fun e => by rw [e, hb4] at hL; cases hL
      repeat walk_at "rd"
      refine ⟨b, C_Body, dx, [("method", .str m), ("expression", v)], rfl, hb4, B.cl, B.n3, by simp, ?_⟩
      have e3 : putF "_nodes" (.ref L) [(("method" : Str), V.str m), ("expression", v)] = [(("method" : Str), V.str m), ("expression", v), ("_nodes", .ref L)] := rfl
      rw [e3]
      have k5 : Keep b H4 (upd H4 b (.ins C_Body dx [("method", .str m), ("expression", v), ("_nodes", .ref L)])) := Keep.put (fun _ _ _ e => e)
      repeat walk_at "rd"
      refine q3 eg L _ (fun a u n e => k5 a u n (s4 _ _ (k02 a u n e))) ?_ upd_same
      cases z : H L with
      | none => rfl
      | some u => rw [k02 _ _ bL z] at nL; cases nL
end
end Ab
namespace Ab
open PySem.Spec PyProof.Rows
structure PoolOk (x y : Int) : Prop where
  x0 : 0 ≤ x
  y0 : 0 ≤ y
  y1 : y < 2147483647
def spTake : Sp := fun vs H Q _ => ∃ (p : Addr) (x y m : Int), vs = [.ref p, .int m] ∧ H p = some (.lst [.int x, .int y]) ∧ PoolOk x y ∧ 0 < m ∧ m < 1000 ∧
  ∀ r x' y' : Int, PoolOk x' y' → 0 ≤ r → r < m → Q (.int r) (upd H p (.lst [.int x', .int y']))
section
variable {P : Program} {w : World} {K : PySem.W.Frag} {mg : Str → Option Value} {base : Heap}
abbrev sL_take : Stmt := top 39
abbrev nL_take : List Str := ["_law_pool_here", "_law_many", "_law_found"]
theorem scL_take : FnScope nL_take ["_law_pool_here", "_law_many"] (defScope sL_take) := ⟨rfl, rfl, rfl, by decide +kernel, rfl, by decide +kernel, by decide +kernel⟩
theorem ok_take (T : Txt K mg) (D : DefAt K mg "_law_take" sL_take ["_law_pool_here", "_law_many"]) : CalG P w K mg base 1 "_law_take" spTake := by
  refine D.by scL_take (fun vs H Q E h => ?_) (fun f cd A hg outer s H vs Q E hr h => ?_)
  · obtain ⟨p, x, y, m, rfl, _⟩ := h
    rfl
  · obtain ⟨p, x, y, m, rfl, hp, ok, m0, m1, k⟩ := h
    refine ⟨_, (pss_cons (ps_if (pt_cmpR op_gt (pe_ix (r := rIxL K) ix_list (pv 0) pe_int (fun _ _ => rfl)) pe_int (nomark _))
  (pss_cons (ps_set (i := 2) scL_take.nd rfl (Or.inl rfl) (pe_op op_modN (pe_callTy call_int1 (by rfl) T.int (by decide +kernel) (pa_cons (pe_ix (r := rIxL K) ix_list (pv 0) pe_int (fun _ _ => rfl)) pa_nil)) (pv 1)))
  (pss_cons (ps_asg (pe_op op_fdivN (pe_ix (r := rIxL K) ix_list (pv 0) pe_int (fun _ _ => rfl)) (pv 1)) (pg_sub (pv 0) pe_int set_list))
  (pss_one (ps_ret (pv 2)))))
  pss_nil)
  (pss_cons (ps_asg (pe_op op_modN (pe_callTy call_int1 (by rfl) T.int (by decide +kernel) (pa_cons (pe_op op_add (pe_op op_mul (pe_ix (r := rIxL K) ix_list (pv 0) pe_int (fun _ _ => rfl)) pe_int) pe_int) pa_nil)) pe_int) (pg_sub (pv 0) pe_int set_list))
  (pss_one (ps_ret (pe_op op_modN (pe_op op_fdivN (pe_op op_modN (pe_callTy call_int1 (by rfl) T.int (by decide +kernel) (pa_cons (pe_op op_mul (pe_ix (r := rIxL K) ix_list (pv 0) pe_int (fun _ _ => rfl)) (pe_ix (r := rIxL K) ix_list (pv 0) pe_int (fun _ _ => rfl))) pa_nil)) pe_int) pe_int) (pv 1)))))), ?_⟩
    repeat walk_at "rd"
    refine Rd.dec (fun c => ?_) (fun c => ?_)
    · repeat walk_at "rd"
      have e := Int.fdiv_eq_ediv_of_nonneg x (Int.le_of_lt m0)
      have e' := Int.fmod_eq_emod_of_nonneg x (Int.le_of_lt m0)
      have a := Int.emod_nonneg x (show m ≠ 0 by omega)
      have b := Int.emod_lt_of_pos x m0
      have d := Int.ediv_nonneg (a := x) (b := m) (by omega) (by omega)
      exact k _ _ _ ⟨by omega, ok.y0, ok.y1⟩ (by omega) (by omega)
    · have y0 := ok.y0
      have y1 := ok.y1
      obtain ⟨z0, z1⟩ := Rd.fm (i := y * 48271 + 11) (m := 2147483647) (by decide)
      repeat walk_at "rd"
      obtain ⟨r0, r1⟩ := Rd.fm (i := ((((y * 48271 + 11).fmod 2147483647) * ((y * 48271 + 11).fmod 2147483647)).fmod 2147483629).fdiv 64) m0
      exact k _ _ _ ⟨ok.x0, z0, z1⟩ r0 r1
def spPool (K : PySem.W.Frag) : Sp := fun vs H Q _ => ∃ (a : Addr) (ns : List Int) (k : Int), vs = [.ref a, .int k] ∧ SqL K H a (ns.map V.int) ∧ 0 ≤ k ∧ k < 1000 ∧
  ∀ (p : Addr) (x y : Int), H p = none → PoolOk x y → Q (.ref p) (upd H p (.lst [.int x, .int y]))
abbrev sL_pool : Stmt := top 38
abbrev nL_pool : List Str := ["_law_script", "_law_k", "_law_cell", "_law_size", "_law_seed"]
theorem scL_pool : FnScope nL_pool ["_law_script", "_law_k"] (defScope sL_pool) := ⟨rfl, rfl, rfl, by decide +kernel, rfl, by decide +kernel, by decide +kernel⟩
theorem ok_pool (T : Txt K mg) (D : DefAt K mg "_law_pool" sL_pool ["_law_script", "_law_k"]) : CalG P w K mg base 1 "_law_pool" (spPool K) := by
  refine D.by scL_pool (fun vs H Q E h => ?_) (fun f cd A hg outer s H vs Q E hr h => ?_)
  · obtain ⟨a, ns, k, rfl, _⟩ := h
    rfl
  · obtain ⟨a, ns, k, rfl, hS, k0, k1, q⟩ := h
    refine ⟨_, (pss_cons (ps_set (i := 2) scL_pool.nd rfl (Or.inl rfl) pe_int)
  (pss_cons (ps_if (pt_cmpR op_lt (pv 1) (pe_callB (r := Rd.rLenK K) Rd.callLen (by rfl) T.len PySem.boot_len (pa_cons (pv 0) pa_nil)) (nomark _))
  (pss_one (ps_set (i := 2) scL_pool.nd rfl (Or.inl rfl) (pe_ix (r := rIxL K) ix_list (pv 0) (pv 1) (fun _ _ => rfl))))
  pss_nil)
  (pss_cons (ps_set (i := 3) scL_pool.nd rfl (Or.inl rfl) (pe_callB (call_max2 rfl) (by rfl) T.max (by decide +kernel) (pa_cons (pv 2) (pa_cons (pe_op op_sub (pe_un un_neg pe_int) (pv 2)) pa_nil))))
  (pss_cons (ps_set (i := 4) scL_pool.nd rfl (Or.inl rfl) (pe_callTy call_int1 (by rfl) T.int (by decide +kernel) (pa_cons (pe_op op_add (pe_op op_add (pe_op op_modN (pe_callTy call_int1 (by rfl) T.int (by decide +kernel) (pa_cons (pv 3) pa_nil)) pe_int) (pe_op op_mul pe_int (pv 1))) pe_int) pa_nil)))
  (pss_one (ps_ret (pe_lst (pa_cons (pe_op op_mul (pv 3) (pe_callTy call_int1 (by rfl) T.int (by decide +kernel) (pa_cons (pe_cmpR op_ge (pv 3) (pe_op op_pow pe_int pe_int) (nomark _)) pa_nil))) (pa_cons (pe_op op_modN (pe_op op_mul (pv 4) pe_int) pe_int) pa_nil))))))))), ?_⟩
    repeat walk_at "rd"
    have fin : ∀ (sz : Int) (k1 : Int), 0 ≤ sz → 0 ≤ k1 → k1 < 1000 → PoolOk (sz * (if decide ((10 : Int) ^ (Int.toNat 18) ≤ sz) = true then 1 else 0)) (((sz.fmod 2147483629 + 7919 * k1 + 104729) * 48271).fmod 2147483647) := by
      intro sz k1 h0 h1 h2
      obtain ⟨y0, y1⟩ := Rd.fm (i := (sz.fmod 2147483629 + 7919 * k1 + 104729) * 48271) (m := 2147483647) (by decide)
      refine ⟨?_, y0, y1⟩
      split
      · omega
      · omega
    refine Rd.dec (fun c => ?_) (fun c => ?_)
    · repeat walk_at "rd"
      obtain ⟨cell, ix⟩ := Rd.at_int k0 c
      refine Rd.ixL hS ix ?_
      have sz0 : 0 ≤ (if (-1 : Int) - cell > cell then -1 - cell else cell) := by split <;> omega
      have fmz := Rd.fm (i := (if (-1 : Int) - cell > cell then -1 - cell else cell)) (m := 2147483629) (by decide)
      repeat walk_at "rd"
      refine ⟨Rd.sz (by simp), fun p hp => ?_⟩
      exact q p _ _ hp (fin _ _ sz0 k0 k1)
    · have sz0 : 0 ≤ (if (-1 : Int) - 0 > 0 then -1 - 0 else (0 : Int)) := by split <;> omega
      have fmz := Rd.fm (i := (if (-1 : Int) - 0 > 0 then -1 - 0 else (0 : Int))) (m := 2147483629) (by decide)
      repeat walk_at "rd"
      refine ⟨Rd.sz (by simp), fun p hp => ?_⟩
      exact q p _ _ hp (fin _ _ sz0 k0 k1)
/-- one of a list's items, by the pool -/
def spOne (K : PySem.W.Frag) : Sp := fun vs H Q _ => ∃ (p l : Addr) (x y : Int) (xs : List V), vs = [.ref p, .ref l] ∧ H p = some (.lst [.int x, .int y]) ∧ SqL K H l xs ∧ (∀ o, SqL K (upd H p o) l xs) ∧ PoolOk x y ∧ 0 < xs.length ∧ xs.length < 1000 ∧
  ∀ (v : V) (x' y' : Int), v ∈ xs → PoolOk x' y' → Q v (upd H p (.lst [.int x', .int y']))
abbrev sL_one : Stmt := top 40
abbrev nL_one : List Str := ["_law_pool_here", "_law_some"]
theorem scL_one : FnScope nL_one ["_law_pool_here", "_law_some"] (defScope sL_one) := ⟨rfl, rfl, rfl, by decide +kernel, rfl, by decide +kernel, by decide +kernel⟩
theorem ok_one (T : Txt K mg) (D : DefAt K mg "_law_one" sL_one ["_law_pool_here", "_law_some"]) (CL_take : CalG P w K mg base 1 "_law_take" spTake) : CalG P w K mg base 2 "_law_one" (spOne K) := by
  refine D.by scL_one (fun vs H Q E h => ?_) (fun f cd A hg outer s H vs Q E hr h => ?_)
  · obtain ⟨a, ns, k, _, _, rfl, _⟩ := h
    rfl
  · obtain ⟨p, l, x, y, xs, rfl, hp, hl, hl2, ok, l0, l1, q⟩ := h
    refine ⟨_, (pss_one (ps_ret (pe_ix (r := rIxL K) ix_list (pv 1) (pe_cG CL_take hg hr (by decide) (pa_cons (pv 0) (pa_cons (pe_callB (r := Rd.rLenK K) Rd.callLen (by rfl) T.len PySem.boot_len (pa_cons (pv 1) pa_nil)) pa_nil))) (fun _ _ => rfl)))), ?_⟩
    repeat walk_at "rd"
    refine ⟨p, x, y, _, rfl, hp, ok, by omega, by omega, fun r x' y' ok' r0 r1 => ?_⟩
    have hr : r.toNat < xs.length := by omega
    exact Rd.ixL (hl2 _) (Rd.atN r0 (List.getElem?_eq_getElem hr)) (q _ _ _ (List.getElem_mem hr) ok')
end
end Ab
namespace Ab
open PySem.Spec PyProof.Rows
/-- a list of nodes -/
def Lns (K : PySem.W.Frag) (H : Hp) (L : Addr) (ns : List Nd) : Prop := ∃ xs, H L = some (.lst xs) ∧ Paired (fun nd x => Dp K H x nd.d) ns xs
theorem Lns.mono {K : PySem.W.Frag} {H H' : Hp} {L : Addr} {ns : List Nd} (s : Same H H') (h : Lns K H L ns) : Lns K H' L ns :=
  let ⟨xs, h1, h2⟩ := h
  ⟨xs, s _ _ h1, Rd.pair_imp (fun _ _ h => dp_mono s h) h2⟩
theorem pair_at {α β : Type} {F : α → β → Prop} : ∀ {as : List α} {bs : List β} {b : β}, Paired F as bs → b ∈ bs → ∃ a ∈ as, F a b
  | _, _, _, .nil, h => by cases h
  | _, _, _, .cons h t, hm => by
    rcases List.mem_cons.mp hm with rfl | hm
    · exact ⟨_, List.mem_cons_self, h⟩
    · obtain ⟨a, ha, hf⟩ := pair_at t hm
      exact ⟨a, List.mem_cons_of_mem _ ha, hf⟩
theorem Lns.keep {K : PySem.W.Frag} {p : Addr} {H H' : Hp} {L : Addr} {ns : List Nd} (k : Keep p H H') (n : NoTup H p) (ne : L ≠ p) (h : Lns K H L ns) : Lns K H' L ns :=
  let ⟨xs, h1, h2⟩ := h
  ⟨xs, k _ _ ne h1, Rd.pair_imp (fun nd _ h => nd_keep k n nd _ h) h2⟩
theorem dW {K : PySem.W.Frag} {H H' : Hp} {p t : Addr} {z : Str} (h : H t = some (.tup [.str z])) (k : Keep p H H') (n : NoTup H p) : Dp K H' (.ref t) (Nd.word z).d := nd_keep k n (.word z) _ (.tup (.inl (.inl h)) (.cons (.str _) .nil))
theorem dC {K : PySem.W.Frag} {H H' : Hp} {p t : Addr} {i : Int} (h : H t = some (.tup [.str "count", .int i])) (k : Keep p H H') (n : NoTup H p) : Dp K H' (.ref t) (Nd.cnt i).d := nd_keep k n (.cnt i) _ (.tup (.inl (.inl h)) (.cons (.str _) (.cons (.int _) .nil)))
/-- the state of a leaf in the making -/
structure Lf (K : PySem.W.Frag) (H H' : Hp) (p L : Addr) (m : Str) (tail : Bool) (ns : List Nd) (x y : Int) (N : Nat) : Prop where
  k : Keep p H H'
  hp : H' p = some (.lst [.int x, .int y])
  ok : PoolOk x y
  l : Lns K H' L ns
  n : 0 < ns.length ∧ ns.length ≤ N
  a : ∀ nd ∈ ns, nd.all m tail = true ∧ nd.dep = 1 ∧ nd.size = 1
theorem word_ok {m z : Str} {t : Bool} (h : z ∈ answerW) : (Nd.word z).all m t = true ∧ (Nd.word z).dep = 1 ∧ (Nd.word z).size = 1 := by
  refine ⟨?_, rfl, rfl⟩
  show (if z = "further" then t else if z = "decline" then t && decide (m ∈ decliners) else decide (z ∈ answerW)) = true
  rw [if_neg (fun e : z = "further" => by subst e; exact absurd h (by decide +kernel)), if_neg (fun e : z = "decline" => by subst e; exact absurd h (by decide +kernel)), decide_eq_true h]
theorem further_ok {m : Str} : (Nd.word "further").all m true = true ∧ (Nd.word "further").dep = 1 ∧ (Nd.word "further").size = 1 := by
  refine ⟨?_, rfl, rfl⟩
  show (if ("further" : Str) = "further" then true else if ("further" : Str) = "decline" then true && decide (m ∈ decliners) else decide (("further" : Str) ∈ answerW)) = true
  rw [if_pos rfl]
theorem decline_ok {m : Str} (h : m ∈ decliners) : (Nd.word "decline").all m true = true ∧ (Nd.word "decline").dep = 1 ∧ (Nd.word "decline").size = 1 := by
  refine ⟨?_, rfl, rfl⟩
  show (if ("decline" : Str) = "further" then true else if ("decline" : Str) = "decline" then true && decide (m ∈ decliners) else decide (("decline" : Str) ∈ answerW)) = true
  rw [if_neg (by decide +kernel), if_pos rfl, decide_eq_true h]
  rfl
theorem Lf.same {K : PySem.W.Frag} {H H1 H2 : Hp} {p L : Addr} {m : Str} {tail : Bool} {ns : List Nd} {x y : Int} {N : Nat} (f : Lf K H H1 p L m tail ns x y N) (s : Same H1 H2) : Lf K H H2 p L m tail ns x y N :=
  ⟨f.k.trans (Keep.same s), s _ _ f.hp, f.ok, f.l.mono s, f.n, f.a⟩
theorem cnt_ok {m : Str} {i : Int} {t : Bool} (h0 : 0 ≤ i) (h1 : i ≤ 4) : (Nd.cnt i).all m t = true ∧ (Nd.cnt i).dep = 1 ∧ (Nd.cnt i).size = 1 := by
  refine ⟨?_, rfl, rfl⟩
  show (decide (0 ≤ i) && decide (i ≤ 4)) = true
  rw [decide_eq_true h0, decide_eq_true h1]; rfl
section
variable {P : Program} {w : World} {K : PySem.W.Frag} {mg : Str → Option Value} {base : Heap}
abbrev sL_leaf : Stmt := top 41
abbrev nL_leaf : List Str := ["_law_pool_here", "_law_method", "_law_at_tail", "_law_some"]
theorem scL_leaf : FnScope nL_leaf ["_law_pool_here", "_law_method", "_law_at_tail"] (defScope sL_leaf) := ⟨rfl, rfl, rfl, by decide +kernel, rfl, by decide +kernel, by decide +kernel⟩
def spLeaf (K : PySem.W.Frag) : Sp := fun vs H Q _ => ∃ (p : Addr) (x y : Int) (m : Str) (tail : Bool), vs = [.ref p, .str m, .bl tail] ∧ H p = some (.lst [.int x, .int y]) ∧ PoolOk x y ∧
  ∀ (v : V) (nd : Nd) H' x' y', Keep p H H' → H' p = some (.lst [.int x', .int y']) → PoolOk x' y' → Dp K H' v nd.d → nd.all m tail = true → nd.dep = 1 → nd.size = 1 → Q v H'
theorem ok_leaf (T : Txt K mg) (D : DefAt K mg "_law_leaf" sL_leaf ["_law_pool_here", "_law_method", "_law_at_tail"]) (CL_take : CalG P w K mg base 1 "_law_take" spTake) (CL_one : CalG P w K mg base 2 "_law_one" (spOne K)) : CalG P w K mg base 3 "_law_leaf" (spLeaf K) := by
  refine D.by scL_leaf (fun vs H Q E h => ?_) (fun f cd A hg outer s H vs Q E hr h => ?_)
  · obtain ⟨_, _, _, _, _, rfl, _⟩ := h
    rfl
  · obtain ⟨p, x, y, m, tail, rfl, hp, ok, q⟩ := h
    refine ⟨_, (pss_cons (ps_set (i := 3) scL_leaf.nd rfl (Or.inl rfl) (pe_lst (pa_cons (pe_tup (pa_cons pe_str pa_nil)) (pa_cons (pe_tup (pa_cons pe_str pa_nil)) (pa_cons (pe_tup (pa_cons pe_str (pa_cons (pe_cG CL_take hg hr (by decide) (pa_cons (pv 0) (pa_cons pe_int pa_nil))) pa_nil))) (pa_cons (pe_tup (pa_cons pe_str pa_nil)) pa_nil))))))
  (C8.pss_cut (ps_if (pt_cmpR (r := rIn K false) op_in_seq (pv 1) (pe_lst (pa_cons pe_str (pa_cons pe_str pa_nil))) (by rfl))
  (pss_one (ps_set (i := 3) scL_leaf.nd rfl (Or.inl rfl) (pe_lst (pa_cons (pe_tup (pa_cons pe_str (pa_cons (pe_cG CL_take hg hr (by decide) (pa_cons (pv 0) (pa_cons pe_int pa_nil))) pa_nil))) (pa_cons (pe_tup (pa_cons pe_str (pa_cons pe_int pa_nil))) (pa_cons (pe_tup (pa_cons pe_str pa_nil)) (pa_cons (pe_tup (pa_cons pe_str pa_nil)) pa_nil)))))))
  pss_nil)
  (C8.pss_cut (ps_if (pt_val (pv 2))
  (pss_one (ps_set (i := 3) scL_leaf.nd rfl (Or.inl rfl) (pe_op op_cat (pv 3) (pe_lst (pa_cons (pe_tup (pa_cons pe_str pa_nil)) (pa_cons (pe_tup (pa_cons pe_str pa_nil)) pa_nil))))))
  pss_nil)
  (C8.pss_cut (ps_if (PW.pt (pw_and (pt_val (pv 2)) (pw_and1 (pt_cmpR (r := rIn K false) op_in_seq (pv 1) (pe_lst (pa_cons pe_str (pa_cons pe_str (pa_cons pe_str (pa_cons pe_str pa_nil))))) (by rfl)))))
  (pss_one (ps_set (i := 3) scL_leaf.nd rfl (Or.inl rfl) (pe_op op_cat (pv 3) (pe_lst (pa_cons (pe_tup (pa_cons pe_str pa_nil)) (pa_cons (pe_tup (pa_cons pe_str pa_nil)) pa_nil))))))
  pss_nil)
  (pss_one (ps_ret (pe_cG CL_one hg hr (by decide) (pa_cons (pv 0) (pa_cons (pv 3) pa_nil))))))))), ?_⟩
    obtain ⟨H0, eH⟩ : ∃ H0, H0 = H := ⟨_, rfl⟩
    have hp0 : H0 p = some (.lst [.int x, .int y]) := by rw [eH]; exact hp
    have nt0 := nt_lst hp0
    rw [← eH] at q ⊢
    repeat walk_at "rd"
    refine ⟨Rd.sz (by simp), fun t1 h1 => ?_⟩
    have S1 := Rd.sNew (o := .tup [.str "yes"]) h1
    have hp1 := S1 _ _ hp0
    have K1 := Keep.same (p := p) S1
    have N1 : upd H0 t1 (.tup [.str "yes"]) t1 = some (.tup [.str "yes"]) := upd_same
    generalize upd H0 t1 (.tup [.str "yes"]) = H1 at S1 hp1 K1 N1 ⊢
    repeat walk_at "rd"
    refine ⟨Rd.sz (by simp), fun t2 h2 => ?_⟩
    have S2 := Rd.sNew (o := .tup [.str "no"]) h2
    have hp2 := S2 _ _ hp1
    have K2 := Keep.same (p := p) S2
    have N2 : upd H1 t2 (.tup [.str "no"]) t2 = some (.tup [.str "no"]) := upd_same
    generalize upd H1 t2 (.tup [.str "no"]) = H2 at S2 hp2 K2 N2 ⊢
    repeat walk_at "rd"
    refine ⟨p, x, y, 5, rfl, hp2, ok, by decide, by decide, fun c x1 y1 ok1 c0 c1 => ?_⟩
    have hp3 : upd H2 p (.lst [.int x1, .int y1]) p = some (.lst [.int x1, .int y1]) := upd_same
    have K3 : Keep p H2 (upd H2 p (.lst [.int x1, .int y1])) := Keep.put (fun _ _ _ e => e)
    generalize upd H2 p (.lst [.int x1, .int y1]) = H3 at hp3 K3 ⊢
    repeat walk_at "rd"
    refine ⟨Rd.sz (by simp), fun t3 h3 => ?_⟩
    have S4 := Rd.sNew (o := .tup [.str "count", .int c]) h3
    have hp4 := S4 _ _ hp3
    have K4 := Keep.same (p := p) S4
    have N4 : upd H3 t3 (.tup [.str "count", .int c]) t3 = some (.tup [.str "count", .int c]) := upd_same
    generalize upd H3 t3 (.tup [.str "count", .int c]) = H4 at S4 hp4 K4 N4 ⊢
    repeat walk_at "rd"
    refine ⟨Rd.sz (by simp), fun t4 h4 => ?_⟩
    have S5 := Rd.sNew (o := .tup [.str "raise"]) h4
    have hp5 := S5 _ _ hp4
    have K5 := Keep.same (p := p) S5
    have N5 : upd H4 t4 (.tup [.str "raise"]) t4 = some (.tup [.str "raise"]) := upd_same
    generalize upd H4 t4 (.tup [.str "raise"]) = H5 at S5 hp5 K5 N5 ⊢
    repeat walk_at "rd"
    refine ⟨Rd.sz (by simp), fun L1 h5 => ?_⟩
    have S6 := Rd.sNew (o := .lst [.ref t1, .ref t2, .ref t3, .ref t4]) h5
    have hp6 := S6 _ _ hp5
    have K6 := Keep.same (p := p) S6
    have N6 : upd H5 L1 (.lst [.ref t1, .ref t2, .ref t3, .ref t4]) L1 = some (.lst [.ref t1, .ref t2, .ref t3, .ref t4]) := upd_same
    generalize upd H5 L1 (.lst [.ref t1, .ref t2, .ref t3, .ref t4]) = H6 at S6 hp6 K6 N6 ⊢
    repeat walk_at "rd"
    have z4 := K5.trans K6
    have z2 := (K3.trans K4).trans z4
    have z1 := K2.trans z2
    have lf1 : Lf K H0 H6 p L1 m tail [.word "yes", .word "no", .cnt c, .word "raise"] x1 y1 4 := ⟨K1.trans z1, hp6, ok1, ⟨_, N6, .cons (dW N1 z1 (nt_lst hp1)) (.cons (dW N2 z2 (nt_lst hp2)) (.cons (dC N4 z4 (nt_lst hp4)) (.cons (dW N5 K6 (nt_lst hp5)) .nil)))⟩, by simp, fun nd hn => by
      simp only [List.mem_cons, List.not_mem_nil, or_false] at hn
      rcases hn with rfl | rfl | rfl | rfl
      · exact word_ok (by decide +kernel)
      · exact word_ok (by decide +kernel)
      · exact cnt_ok (by omega) (by omega)
      · exact word_ok (by decide +kernel)⟩
    clear z1 z2 z4 K1 K2 K3 K4 K5 K6 N1 N2 N4 N5 N6 S1 S2 S4 S5 S6 h1 h2 h3 h4 h5 hp1 hp2 hp3 hp4 hp5
    refine Rd.cut (fun σ' H' => ∃ L ns x y, σ' = [some (.ref p), some (.str m), some (.bl tail), some (.ref L)] ∧ Lf K H0 H' p L m tail ns x y 4) ?_ (fun σ' H' h => ?_)
    · repeat walk_at "rd"
      refine ⟨Rd.sz (by simp), fun lm hlm => ?_⟩
      have S7 := Rd.sNew (o := .lst [.str "length", .str "hash"]) hlm
      have lf7 := lf1.same S7
      refine Rd.inL (xs := [.str "length", .str "hash"]) (SqL.of upd_same) rfl rfl ?_
      generalize upd H6 lm (.lst [.str "length", .str "hash"]) = H7 at S7 lf7 ⊢
      have hp7 := lf7.hp
      repeat walk_at "rd"
      refine Rd.bool (fun _ => ?_) (fun _ => ?_)
      · repeat walk_at "rd"
        refine ⟨p, x1, y1, 5, rfl, hp7, ok1, by decide, by decide, fun c x2 y2 ok2 c0 c1 => ?_⟩
        have hp8 : upd H7 p (.lst [.int x2, .int y2]) p = some (.lst [.int x2, .int y2]) := upd_same
        have K8 : Keep p H7 (upd H7 p (.lst [.int x2, .int y2])) := Keep.put (fun _ _ _ e => e)
        generalize upd H7 p (.lst [.int x2, .int y2]) = H8 at hp8 K8 ⊢
        repeat walk_at "rd"
        refine ⟨Rd.sz (by simp), fun t5 g1 => ?_⟩
        have S9 := Rd.sNew (o := .tup [.str "count", .int c]) g1
        have hp9 := S9 _ _ hp8
        have K9 := Keep.same (p := p) S9
        have N9 : upd H8 t5 (.tup [.str "count", .int c]) t5 = some (.tup [.str "count", .int c]) := upd_same
        generalize upd H8 t5 (.tup [.str "count", .int c]) = H9 at S9 hp9 K9 N9 ⊢
        repeat walk_at "rd"
        refine ⟨Rd.sz (by simp), fun t6 g2 => ?_⟩
        have S10 := Rd.sNew (o := .tup [.str "count", .int 0]) g2
        have hp10 := S10 _ _ hp9
        have K10 := Keep.same (p := p) S10
        have N10 : upd H9 t6 (.tup [.str "count", .int 0]) t6 = some (.tup [.str "count", .int 0]) := upd_same
        generalize upd H9 t6 (.tup [.str "count", .int 0]) = H10 at S10 hp10 K10 N10 ⊢
        repeat walk_at "rd"
        refine ⟨Rd.sz (by simp), fun t7 g3 => ?_⟩
        have S11 := Rd.sNew (o := .tup [.str "no"]) g3
        have hp11 := S11 _ _ hp10
        have K11 := Keep.same (p := p) S11
        have N11 : upd H10 t7 (.tup [.str "no"]) t7 = some (.tup [.str "no"]) := upd_same
        generalize upd H10 t7 (.tup [.str "no"]) = H11 at S11 hp11 K11 N11 ⊢
        repeat walk_at "rd"
        refine ⟨Rd.sz (by simp), fun t8 g4 => ?_⟩
        have S12 := Rd.sNew (o := .tup [.str "raise"]) g4
        have hp12 := S12 _ _ hp11
        have K12 := Keep.same (p := p) S12
        have N12 : upd H11 t8 (.tup [.str "raise"]) t8 = some (.tup [.str "raise"]) := upd_same
        generalize upd H11 t8 (.tup [.str "raise"]) = H12 at S12 hp12 K12 N12 ⊢
        repeat walk_at "rd"
        refine ⟨Rd.sz (by simp), fun L2 g5 => ?_⟩
        have S13 := Rd.sNew (o := .lst [.ref t5, .ref t6, .ref t7, .ref t8]) g5
        have hp13 := S13 _ _ hp12
        have K13 := Keep.same (p := p) S13
        have N13 : upd H12 L2 (.lst [.ref t5, .ref t6, .ref t7, .ref t8]) L2 = some (.lst [.ref t5, .ref t6, .ref t7, .ref t8]) := upd_same
        generalize upd H12 L2 (.lst [.ref t5, .ref t6, .ref t7, .ref t8]) = H13 at S13 hp13 K13 N13 ⊢
        repeat walk_at "rd"
        have z10 := K11.trans K12
        have z9 := K10.trans z10
        have z8 := (K9.trans z9)
        have z7 := K8.trans z8
        have z11 := K12
        exact ⟨L2, _, x2, y2, rfl, lf7.k.trans (z7.trans K13), hp13, ok2, ⟨_, N13, .cons (dC N9 (((K10.trans K11).trans K12).trans K13) (nt_lst hp9)) (.cons (dC N10 ((K11.trans K12).trans K13) (nt_lst hp10)) (.cons (dW N11 (K12.trans K13) (nt_lst hp11)) (.cons (dW N12 K13 (nt_lst hp12)) .nil)))⟩, by simp, fun nd hn => by
          simp only [List.mem_cons, List.not_mem_nil, or_false] at hn
          rcases hn with rfl | rfl | rfl | rfl
          · exact cnt_ok (by omega) (by omega)
          · exact cnt_ok (by omega) (by omega)
          · exact word_ok (by decide +kernel)
          · exact word_ok (by decide +kernel)⟩
      · repeat walk_at "rd"
        exact ⟨L1, _, x1, y1, rfl, lf7⟩
    · clear lf1
      obtain ⟨L, ns, x3, y3, rfl, lf⟩ := h
      refine Rd.cut (fun σ' H' => ∃ L ns x y, σ' = [some (.ref p), some (.str m), some (.bl tail), some (.ref L)] ∧ Lf K H0 H' p L m tail ns x y 6) ?_ (fun σ' H'' h => ?_)
      · repeat walk_at "rd"
        refine Rd.bool (fun c => ?_) (fun c => ?_)
        · subst c
          repeat walk_at "rd"
          refine ⟨Rd.sz (by simp), fun u1 g1 => ?_⟩
          have A1 := Rd.sNew (o := .tup [.str "further"]) g1
          repeat walk_at "rd"
          refine ⟨Rd.sz (by simp), fun u2 g2 => ?_⟩
          have A2 := Rd.sNew (o := .tup [.str "further"]) g2
          repeat walk_at "rd"
          refine ⟨Rd.sz (by simp), fun u3 g3 => ?_⟩
          have A3 := Rd.sNew (o := .lst [.ref u1, .ref u2]) g3
          obtain ⟨xs, hL, pr⟩ := lf.l
          have len := pair_len' pr
          obtain ⟨n0, n8⟩ := lf.n
          have v1 := A3 _ _ (A2 _ _ (show upd H' u1 (.tup [.str "further"]) u1 = some (.tup [.str "further"]) from upd_same))
          have v2 := A3 _ _ (show upd (upd H' u1 (.tup [.str "further"])) u2 (.tup [.str "further"]) u2 = some (.tup [.str "further"]) from upd_same)
          refine Rd.cat (A3 _ _ (A2 _ _ (A1 _ _ hL))) upd_same (Nat.le_of_lt (Rd.szl (by simp only [List.length_cons, List.length_nil]; omega))) fun cc hcc => ?_
          have A4 := Rd.sNew (o := .lst (xs ++ [.ref u1, .ref u2])) hcc
          have SS := ((A1.trans A2).trans A3).trans A4
          have lff := lf.same SS
          repeat walk_at "rd"
          exact ⟨cc, ns ++ [.word "further", .word "further"], x3, y3, rfl, lff.k, lff.hp, lff.ok, ⟨_, upd_same, pair_cat (Rd.pair_imp (fun nd _ h => dp_mono SS h) pr) (.cons (.tup (.inl (.inl (A4 _ _ v1))) (.cons (.str _) .nil)) (.cons (.tup (.inl (.inl (A4 _ _ v2))) (.cons (.str _) .nil)) .nil))⟩, by
            rw [List.length_append]
            simp only [List.length_cons, List.length_nil]
            omega, fun nd hn => by
            rcases List.mem_append.mp hn with h | h
            · exact lf.a nd h
            · simp only [List.mem_cons, List.not_mem_nil, or_false] at h
              rcases h with rfl | rfl <;> exact further_ok⟩
        · repeat walk_at "rd"
          exact ⟨L, ns, x3, y3, rfl, lf.k, lf.hp, lf.ok, lf.l, ⟨lf.n.1, by have := lf.n.2; omega⟩, lf.a⟩
      · clear lf
        obtain ⟨L, ns, x3, y3, rfl, lf⟩ := h
        refine Rd.cut (fun σ' H' => ∃ L ns x y, σ' = [some (.ref p), some (.str m), some (.bl tail), some (.ref L)] ∧ Lf K H0 H' p L m tail ns x y 8) ?_ (fun σ' H3 h => ?_)
        · repeat walk_at "rd"
          refine Rd.bool (fun c => ?_) (fun c => ?_)
          · subst c
            repeat walk_at "rd"
            refine ⟨Rd.sz (by simp), fun lm hlm => ?_⟩
            have S9 := Rd.sNew (o := .lst [.str "like", .str "unlike", .str "before", .str "behind"]) hlm
            refine Rd.inL (xs := (["like", "unlike", "before", "behind"] : List Str).map V.str) (SqL.of upd_same) rfl rfl ?_
            rw [if_neg Bool.false_ne_true, inV_str]
            have lf9 := lf.same S9
            generalize upd H'' lm (.lst [.str "like", .str "unlike", .str "before", .str "behind"]) = H9 at S9 lf9 ⊢
            repeat walk_at "rd"
            refine Rd.dec (fun c => ?_) (fun c => ?_)
            · have md : m ∈ decliners := by
                simp only [List.mem_cons, List.not_mem_nil, or_false] at c
                rcases c with rfl | rfl | rfl | rfl <;> decide +kernel
              repeat walk_at "rd"
              refine ⟨Rd.sz (by simp), fun u1 g1 => ?_⟩
              have A1 := Rd.sNew (o := .tup [.str "decline"]) g1
              repeat walk_at "rd"
              refine ⟨Rd.sz (by simp), fun u2 g2 => ?_⟩
              have A2 := Rd.sNew (o := .tup [.str "decline"]) g2
              repeat walk_at "rd"
              refine ⟨Rd.sz (by simp), fun u3 g3 => ?_⟩
              have A3 := Rd.sNew (o := .lst [.ref u1, .ref u2]) g3
              obtain ⟨xs, hL, pr⟩ := lf9.l
              have len := pair_len' pr
              obtain ⟨n0, n8⟩ := lf9.n
              have v1 := A3 _ _ (A2 _ _ (show upd H9 u1 (.tup [.str "decline"]) u1 = some (.tup [.str "decline"]) from upd_same))
              have v2 := A3 _ _ (show upd (upd H9 u1 (.tup [.str "decline"])) u2 (.tup [.str "decline"]) u2 = some (.tup [.str "decline"]) from upd_same)
              refine Rd.cat (A3 _ _ (A2 _ _ (A1 _ _ hL))) upd_same (Nat.le_of_lt (Rd.szl (by simp only [List.length_cons, List.length_nil]; omega))) fun cc hcc => ?_
              have A4 := Rd.sNew (o := .lst (xs ++ [.ref u1, .ref u2])) hcc
              have SS := ((A1.trans A2).trans A3).trans A4
              have lff := lf9.same SS
              repeat walk_at "rd"
              exact ⟨cc, ns ++ [.word "decline", .word "decline"], x3, y3, rfl, lff.k, lff.hp, lff.ok, ⟨_, upd_same, pair_cat (Rd.pair_imp (fun nd _ h => dp_mono SS h) pr) (.cons (.tup (.inl (.inl (A4 _ _ v1))) (.cons (.str _) .nil)) (.cons (.tup (.inl (.inl (A4 _ _ v2))) (.cons (.str _) .nil)) .nil))⟩, by
                rw [List.length_append]
                simp only [List.length_cons, List.length_nil]
                omega, fun nd hn => by
                rcases List.mem_append.mp hn with h | h
                · exact lf9.a nd h
                · simp only [List.mem_cons, List.not_mem_nil, or_false] at h
                  rcases h with rfl | rfl <;> exact (decline_ok md)⟩
            · repeat walk_at "rd"
              exact ⟨L, ns, x3, y3, rfl, lf9.k, lf9.hp, lf9.ok, lf9.l, ⟨lf9.n.1, by have := lf9.n.2; omega⟩, lf9.a⟩
          · repeat walk_at "rd"
            exact ⟨L, ns, x3, y3, rfl, lf.k, lf.hp, lf.ok, lf.l, ⟨lf.n.1, by have := lf.n.2; omega⟩, lf.a⟩
        · clear lf
          obtain ⟨L, ns, x3, y3, rfl, lf⟩ := h
          obtain ⟨xs, hL, pr⟩ := lf.l
          have len := pair_len' pr
          obtain ⟨n0, n8⟩ := lf.n
          have Lp : L ≠ p := fun e => by
            rw [e, lf.hp] at hL
            cases hL
            cases pr with
            | cons a _ =>
              obtain ⟨_, _, _, z, _⟩ := nd_at a
              cases z
          repeat walk_at "rd"
          refine ⟨p, L, x3, y3, xs, rfl, lf.hp, SqL.of hL, fun o => SqL.of (by rw [upd_ne Lp]; exact hL), lf.ok, by omega, by omega, fun v x' y' hv ok' => ?_⟩
          obtain ⟨nd, hn, dn⟩ := pair_at pr hv
          obtain ⟨a1, a2, a3⟩ := lf.a nd hn
          have kp : Keep p H3 (upd H3 p (.lst [.int x', .int y'])) := Keep.put (fun _ _ _ e => e)
          exact q v nd _ x' y' (lf.k.trans kp) upd_same ok' (nd_keep kp (nt_lst lf.hp) _ _ dn) a1 a2 a3
end
end Ab
namespace Ab
open PySem.Spec PyProof.Rows
theorem cut1 {a b : V} : cutV [a, b] none (some 1) = [a] := rfl
theorem cut2 {a b : V} : cutV [a, b] none (some 2) = [a, b] := rfl
/-- what an asking node for m may be -/
theorem ask1_all {m o r : Str} (t : Bool) (ho : o ∈ askOne) (hr : r ∈ rolesOf m) : (Nd.ask1 o r).all m t = true := by
  show (decide (o ∈ askOne) && decide (r ∈ rolesOf m)) = true
  rw [decide_eq_true ho, decide_eq_true hr]; rfl
theorem ask2_all {m o r q : Str} (t : Bool) (ho : o ∈ askTwo) (hr : r ∈ rolesOf m) (hq : q ∈ rolesOf m) (ne : r ≠ q) : (Nd.ask2 o r q).all m t = true := by
  show (decide (o ∈ askTwo) && decide (r ∈ rolesOf m) && decide (q ∈ rolesOf m) && decide (r ≠ q)) = true
  rw [decide_eq_true ho, decide_eq_true hr, decide_eq_true hq, decide_eq_true ne]; rfl
theorem orS {c : Prop} [Decidable c] {tu : TT} {t u : TS} {D : Ends} {σ : L2.St} {H1 : Hp} (G : Hp → Prop) (suite : ∀ H', G H' → t D σ H') (h1 : c → G H1)
    (h2 : (∀ H', G H' → t D σ H') → ¬ c → tu σ H1 fun b H' => if b = true then t D σ H' else u D σ H') : if decide c = true then (if true = true then t D σ H1 else u D σ H1) else tu σ H1 fun b H' => if b = true then t D σ H' else u D σ H' := by
  by_cases h : c
  · rw [decide_eq_true h]; exact suite _ (h1 h)
  · rw [decide_eq_false h, if_neg Bool.false_ne_true]; exact h2 suite h
theorem ne_lp {H : Hp} {l p : Addr} {ws : List Str} {x y : Int} (h : H l = some (.lst (ws.map V.str))) (hp : H p = some (.lst [.int x, .int y])) : l ≠ p := fun e => by
  rw [e, hp] at h
  cases ws with
  | nil => cases h
  | cons a r => cases h
/-- one of a list of texts that stands -/
theorem oneSs {K : PySem.W.Frag} {H : Hp} {Q : VK} {E : XK} {p l : Addr} {x y : Int} {ws : List Str} (hp : H p = some (.lst [.int x, .int y])) (hl : H l = some (.lst (ws.map V.str))) (ne : l ≠ p) (ok : PoolOk x y) (n0 : 0 < ws.length) (n1 : ws.length < 1000)
    (k : ∀ (o : Str) H' x' y', o ∈ ws → Keep p H H' → H' p = some (.lst [.int x', .int y']) → PoolOk x' y' → Q (.str o) H') : spOne K ([.ref p, .ref l] ++ []) H Q E := by
  refine ⟨p, l, x, y, ws.map V.str, rfl, hp, SqL.of hl, fun o => SqL.of (by rw [upd_ne ne]; exact hl), ok, by rw [List.length_map]; exact n0, by rw [List.length_map]; exact n1, fun v x' y' hv ok' => ?_⟩
  obtain ⟨o, ho, rfl⟩ := List.mem_map.mp hv
  exact k o _ x' y' ho (Keep.put (fun _ _ _ e => e)) upd_same ok'
/-- one of a list of texts just laid -/
theorem oneS {K : PySem.W.Frag} {H : Hp} {Q : VK} {E : XK} {p l : Addr} {x y : Int} {ws : List Str} (hp : H p = some (.lst [.int x, .int y])) (hl : H l = none) (ok : PoolOk x y) (n0 : 0 < ws.length) (n1 : ws.length < 1000)
    (k : ∀ (o : Str) H' x' y', o ∈ ws → Keep p H H' → Keep p H H' → H' p = some (.lst [.int x', .int y']) → PoolOk x' y' → Q (.str o) H') : spOne K ([.ref p, .ref l] ++ []) (upd H l (.lst (ws.map V.str))) Q E := by
  have S := Rd.sNew (o := .lst (ws.map V.str)) hl
  have ne : l ≠ p := fun e => by rw [e, hp] at hl; cases hl
  exact oneSs (S _ _ hp) upd_same ne ok n0 n1 fun o H' x' y' ho kk hp' ok' => k o H' x' y' ho ((Keep.same S).trans kk) ((Keep.same S).trans kk) hp' ok'
theorem roleCut {m : Str} (h : m ∈ bodyM) : cutV [V.str "self", .str "other"] none (some (1 + if (!decide (m ∈ (["truth", "length", "hash"] : List Str))) = true then 1 else 0)) = (rolesOf m).map V.str := by
  have g : ∀ m ∈ bodyM, rolesOf m = if (!decide (m ∈ (["truth", "length", "hash"] : List Str))) = true then (["self", "other"] : List Str) else ["self"] := by decide +kernel
  rw [g m h]
  split <;> rfl
section
variable {P : Program} {w : World} {K : PySem.W.Frag} {mg : Str → Option Value} {base : Heap}
abbrev sL_asking : Stmt := top 42
abbrev nL_asking : List Str := ["_law_pool_here", "_law_method", "_law_roles", "_law_some"]
theorem scL_asking : FnScope nL_asking ["_law_pool_here", "_law_method"] (defScope sL_asking) := ⟨rfl, rfl, rfl, by decide +kernel, rfl, by decide +kernel, by decide +kernel⟩
def spAsking (K : PySem.W.Frag) : Sp := fun vs H Q _ => ∃ (p : Addr) (x y : Int) (m : Str), vs = [.ref p, .str m] ∧ H p = some (.lst [.int x, .int y]) ∧ PoolOk x y ∧ m ∈ bodyM ∧
  ∀ (v : V) (nd : Nd) H' x' y', Keep p H H' → H' p = some (.lst [.int x', .int y']) → PoolOk x' y' → Dp K H' v nd.d → (∀ t, nd.all m t = true) → nd.dep = 1 → nd.size = 1 → Q v H'
set_option pp.maxSteps 3000 in
theorem ok_asking (T : Txt K mg) (D : DefAt K mg "_law_asking" sL_asking ["_law_pool_here", "_law_method"]) (CL_take : CalG P w K mg base 1 "_law_take" spTake) (CL_one : CalG P w K mg base 2 "_law_one" (spOne K)) : CalG P w K mg base 3 "_law_asking" (spAsking K) := by
  refine D.by scL_asking (fun vs H Q E h => ?_) (fun f cd A hg outer s H vs Q E hr h => ?_)
  · obtain ⟨_, _, _, _, rfl, _⟩ := h
    rfl
  · obtain ⟨p, x, y, m, rfl, hp, ok, hm, q⟩ := h
    refine ⟨_, (pss_cons (ps_if (PW.pt (pw_or (pt_cmpR (r := rIn K false) op_in_seq (pv 1) (pe_lst (pa_cons pe_str (pa_cons pe_str pa_nil))) (by rfl)) (pw_or1 (pt_cmpR op_eq (pe_cG CL_take hg hr (by decide) (pa_cons (pv 0) (pa_cons pe_int pa_nil))) pe_int (nomark _)))))
  (pss_cons (ps_set (i := 2) scL_asking.nd rfl (Or.inl rfl) (pe_slice (r := rSlL K) sl_list (pe_lst (pa_cons pe_str (pa_cons pe_str pa_nil))) po_none (po_some (pe_op op_add pe_int (pe_callTy call_int1 (by rfl) T.int (by decide +kernel) (pa_cons (pe_cmpR (r := rIn K true) op_notIn_seq (pv 1) (pe_lst (pa_cons pe_str (pa_cons pe_str (pa_cons pe_str pa_nil)))) (by rfl)) pa_nil))))))
  (pss_one (ps_ret (pe_tup (pa_cons pe_str (pa_cons (pe_cG CL_one hg hr (by decide) (pa_cons (pv 0) (pa_cons (pe_lst (pa_cons pe_str (pa_cons pe_str (pa_cons pe_str pa_nil)))) pa_nil))) (pa_cons (pe_cG CL_one hg hr (by decide) (pa_cons (pv 0) (pa_cons (pv 2) pa_nil))) pa_nil)))))))
  pss_nil)
  (pss_cons (ps_if (pt_cmpR op_eq (pv 1) pe_str (nomark _))
  (pss_one (ps_ret (pe_tup (pa_cons pe_str (pa_cons (pe_cG CL_one hg hr (by decide) (pa_cons (pv 0) (pa_cons (pe_lst (pa_cons pe_str (pa_cons pe_str pa_nil))) pa_nil))) (pa_cons pe_str pa_nil))))))
  pss_nil)
  (pss_cons (ps_set (i := 2) scL_asking.nd rfl (Or.inl rfl) (pe_cG CL_one hg hr (by decide) (pa_cons (pv 0) (pa_cons (pe_lst (pa_cons (pe_tup (pa_cons pe_str (pa_cons pe_str pa_nil))) (pa_cons (pe_tup (pa_cons pe_str (pa_cons pe_str pa_nil))) pa_nil))) pa_nil))))
  (pss_cons (ps_set (i := 3) scL_asking.nd rfl (Or.inl rfl) (pe_lst (pa_cons pe_str (pa_cons pe_str (pa_cons pe_str (pa_cons pe_str (pa_cons pe_str (pa_cons pe_str (pa_cons pe_str pa_nil)))))))))
  (pss_one (ps_ret (pe_op op_catT (pe_tup (pa_cons pe_str (pa_cons (pe_cG CL_one hg hr (by decide) (pa_cons (pv 0) (pa_cons (pv 3) pa_nil))) pa_nil))) (pv 2)))))))), ?_⟩
    repeat walk_at "rd"
    refine ⟨Rd.sz (by simp), fun lm hlm => ?_⟩
    have S1 := Rd.sNew (o := .lst [.str "truth", .str "length"]) hlm
    have hp1 := S1 _ _ hp
    refine Rd.inL (xs := (["truth", "length"] : List Str).map V.str) (SqL.of upd_same) rfl rfl ?_
    rw [if_neg Bool.false_ne_true, inV_str]
    generalize upd H lm (.lst [.str "truth", .str "length"]) = H1 at S1 hp1 ⊢
    refine ⟨_, rfl, ?_⟩
    refine orS (fun H' => ∃ x y, Keep p H H' ∧ H' p = some (.lst [.int x, .int y]) ∧ PoolOk x y) ?_ (fun _ => ⟨x, y, Keep.same S1, hp1, ok⟩) (fun suite c => ?_)
    · rintro H2 ⟨x2, y2, K2, hp2, ok2⟩
      repeat walk_at "rd"
      refine ⟨Rd.sz (by simp), fun l1 h1 => ?_⟩
      have S3 := Rd.sNew (o := .lst [.str "self", .str "other"]) h1
      have hp3 := S3 _ _ hp2
      have K3 := Keep.same (p := p) S3
      have l3 : upd H2 l1 (.lst [.str "self", .str "other"]) l1 = some (.lst [.str "self", .str "other"]) := upd_same
      generalize upd H2 l1 (.lst [.str "self", .str "other"]) = H3 at S3 hp3 K3 l3 ⊢
      repeat walk_at "rd"
      refine ⟨Rd.sz (by simp), fun l2 h2 => ?_⟩
      have S4 := Rd.sNew (o := .lst [.str "truth", .str "length", .str "hash"]) h2
      have hp4 := S4 _ _ hp3
      have K4 := Keep.same (p := p) S4
      have l4 := S4 _ _ l3
      refine Rd.inL (xs := (["truth", "length", "hash"] : List Str).map V.str) (SqL.of upd_same) rfl rfl ?_
      generalize upd H3 l2 (.lst [.str "truth", .str "length", .str "hash"]) = H4 at S4 hp4 K4 l4 ⊢
      rw [if_pos rfl, inV_str]
      repeat walk_at "rd"
      refine Rd.slL (SqL.of l4) fun l5 h5 => ?_
      rw [roleCut hm]
      have S5 := Rd.sNew (o := .lst ((rolesOf m).map V.str)) h5
      have hp5 := S5 _ _ hp4
      have K5 := Keep.same (p := p) S5
      have l5e : upd H4 l5 (.lst ((rolesOf m).map V.str)) l5 = some (.lst ((rolesOf m).map V.str)) := upd_same
      generalize upd H4 l5 (.lst ((rolesOf m).map V.str)) = H5 at S5 hp5 K5 l5e ⊢
      have K05 := (((K2.trans K3).trans K4).trans K5)
      clear K2 K3 K4 K5 S3 S4 S5
      repeat walk_at "rd"
      refine ⟨Rd.sz (by simp), fun l6 h6 => ?_⟩
      repeat walk_at "rd"
      refine oneS (ws := askOne) hp5 h6 ok2 (by decide) (by decide) fun o H6 x6 y6 ho s6 K6 hp6 ok6 => ?_
      have l6e := K6 _ _ (ne_lp l5e hp5) l5e
      have K06 := K05.trans K6
      repeat walk_at "rd"
      refine oneSs hp6 l6e (ne_lp l6e hp6) ok6 (by rw [rolesOf]; split <;> decide) (by rw [rolesOf]; split <;> decide) fun r H7 x7 y7 hr7 K7 hp7 ok7 => ?_
      repeat walk_at "rd"
      refine ⟨Rd.sz (by simp), fun t8 h8 => ?_⟩
      have S8 := Rd.sNew (o := .tup [.str "ask", .str o, .str r]) h8
      refine q (.ref t8) (.ask1 o r) _ x7 y7 ((K06.trans K7).trans (Keep.same S8)) (S8 _ _ hp7) ok7 ?_ (fun t => ask1_all t ho hr7) rfl rfl
      exact .tup (.inl (.inl upd_same)) (.cons (.str _) (.cons (.str _) (.cons (.str _) .nil)))
    · repeat walk_at "rd"
      refine ⟨p, x, y, 4, rfl, hp1, ok, by decide, by decide, fun c4 x2 y2 ok2 c0 c1 => ?_⟩
      have K2 : Keep p H1 (upd H1 p (.lst [.int x2, .int y2])) := Keep.put (fun _ _ _ e => e)
      have hp2 : upd H1 p (.lst [.int x2, .int y2]) p = some (.lst [.int x2, .int y2]) := upd_same
      have K02 := (Keep.same (p := p) S1).trans K2
      generalize upd H1 p (.lst [.int x2, .int y2]) = H2 at K2 hp2 K02 ⊢
      repeat walk_at "rd"
      refine Rd.dec (fun _ => ?_) (fun _ => ?_)
      · exact suite H2 ⟨x2, y2, K02, hp2, ok2⟩
      · clear suite
        repeat walk_at "rd"
        refine Rd.dec (fun e => ?_) (fun e => ?_)
        · obtain rfl := V.str.inj e
          repeat walk_at "rd"
          refine ⟨Rd.sz (by simp), fun l6 h6 => ?_⟩
          repeat walk_at "rd"
          refine oneS (ws := ["size", "hash"]) hp2 h6 ok2 (by decide) (by decide) fun o H6 x6 y6 ho s6 K6 hp6 ok6 => ?_
          repeat walk_at "rd"
          refine ⟨Rd.sz (by simp), fun t8 h8 => ?_⟩
          have S8 := Rd.sNew (o := .tup [.str "ask", .str o, .str "self"]) h8
          have ho2 : o ∈ askOne := (show ∀ z ∈ (["size", "hash"] : List Str), z ∈ askOne by decide +kernel) o ho
          refine q (.ref t8) (.ask1 o "self") _ x6 y6 ((K02.trans K6).trans (Keep.same S8)) (S8 _ _ hp6) ok6 ?_ (fun t => ask1_all t ho2 (by decide +kernel)) rfl rfl
          exact .tup (.inl (.inl upd_same)) (.cons (.str _) (.cons (.str _) (.cons (.str _) .nil)))
        · have hm2 : m ∈ (["has", "like", "unlike", "before", "behind"] : List Str) := by
            have h : ∀ z ∈ bodyM, z ∉ (["truth", "length"] : List Str) → z ≠ "hash" → z ∈ (["has", "like", "unlike", "before", "behind"] : List Str) := by decide +kernel
            exact h m hm c (fun z => e (by rw [z]))
          have ro : rolesOf m = (["self", "other"] : List Str) := (show ∀ z ∈ (["has", "like", "unlike", "before", "behind"] : List Str), rolesOf z = (["self", "other"] : List Str) by decide +kernel) m hm2
          repeat walk_at "rd"
          refine ⟨Rd.sz (by simp), fun t3 h3 => ?_⟩
          have S3 := Rd.sNew (o := .tup [.str "self", .str "other"]) h3
          have hp3 := S3 _ _ hp2
          have K3 := Keep.same (p := p) S3
          have t3e : upd H2 t3 (.tup [.str "self", .str "other"]) t3 = some (.tup [.str "self", .str "other"]) := upd_same
          generalize upd H2 t3 (.tup [.str "self", .str "other"]) = H3 at S3 hp3 K3 t3e ⊢
          repeat walk_at "rd"
          refine ⟨Rd.sz (by simp), fun t4 h4 => ?_⟩
          have S4 := Rd.sNew (o := .tup [.str "other", .str "self"]) h4
          have hp4 := S4 _ _ hp3
          have K4 := Keep.same (p := p) S4
          have t4e : upd H3 t4 (.tup [.str "other", .str "self"]) t4 = some (.tup [.str "other", .str "self"]) := upd_same
          have t3e := S4 _ _ t3e
          generalize upd H3 t4 (.tup [.str "other", .str "self"]) = H4 at S4 hp4 K4 t3e t4e ⊢
          repeat walk_at "rd"
          refine ⟨Rd.sz (by simp), fun l5 h5 => ?_⟩
          have S5 := Rd.sNew (o := .lst [.ref t3, .ref t4]) h5
          have hp5 := S5 _ _ hp4
          have K5 := Keep.same (p := p) S5
          have l5e : upd H4 l5 (.lst [.ref t3, .ref t4]) l5 = some (.lst [.ref t3, .ref t4]) := upd_same
          have t3e := S5 _ _ t3e
          have t4e := S5 _ _ t4e
          generalize upd H4 l5 (.lst [.ref t3, .ref t4]) = H5 at S5 hp5 K5 t3e t4e l5e ⊢
          have K05 := ((K02.trans K3).trans K4).trans K5
          clear K3 K4 K5 S3 S4 S5 h3 h4 h5 hp3 hp4
          have nl : l5 ≠ p := fun z => by rw [z, hp5] at l5e; cases l5e
          have n3 : t3 ≠ p := fun z => by rw [z, hp5] at t3e; cases t3e
          have n4 : t4 ≠ p := fun z => by rw [z, hp5] at t4e; cases t4e
          repeat walk_at "rd"
          refine ⟨p, l5, x2, y2, [.ref t3, .ref t4], rfl, hp5, SqL.of l5e, fun o => SqL.of (by rw [upd_ne nl]; exact l5e), ok2, by simp, by simp, fun v x6 y6 hv ok6 => ?_⟩
          have K6 : Keep p H5 (upd H5 p (.lst [.int x6, .int y6])) := Keep.put (fun _ _ _ e => e)
          have hp6 : upd H5 p (.lst [.int x6, .int y6]) p = some (.lst [.int x6, .int y6]) := upd_same
          obtain ⟨r1, r2, t6, rfl, t6e, n12, i1, i2⟩ : ∃ (r1 r2 : Str) (t6 : Addr), v = .ref t6 ∧ upd H5 p (.lst [.int x6, .int y6]) t6 = some (.tup [.str r1, .str r2]) ∧ r1 ≠ r2 ∧ r1 ∈ rolesOf m ∧ r2 ∈ rolesOf m := by
            simp only [List.mem_cons, List.not_mem_nil, or_false] at hv
            rw [ro]
            rcases hv with rfl | rfl
            · exact ⟨"self", "other", t3, rfl, K6 _ _ n3 t3e, by decide +kernel, by decide +kernel, by decide +kernel⟩
            · exact ⟨"other", "self", t4, rfl, K6 _ _ n4 t4e, by decide +kernel, by decide +kernel, by decide +kernel⟩
          have K06 := K05.trans K6
          generalize upd H5 p (.lst [.int x6, .int y6]) = H6 at K6 hp6 t6e K06 ⊢
          clear K05 K6 t3e t4e l5e
          repeat walk_at "rd"
          refine ⟨Rd.sz (by simp), fun l7 h7 => ?_⟩
          have S7 := Rd.sNew (o := .lst [.str "member", .str "like", .str "unlike", .str "like", .str "unlike", .str "before", .str "behind"]) h7
          have hp7 := S7 _ _ hp6
          have K7 := Keep.same (p := p) S7
          have t7e := S7 _ _ t6e
          have l7e : upd H6 l7 (.lst [.str "member", .str "like", .str "unlike", .str "like", .str "unlike", .str "before", .str "behind"]) l7 = some (.lst ((["member", "like", "unlike", "like", "unlike", "before", "behind"] : List Str).map V.str)) := upd_same
          generalize upd H6 l7 (.lst [.str "member", .str "like", .str "unlike", .str "like", .str "unlike", .str "before", .str "behind"]) = H7 at S7 hp7 K7 t7e l7e ⊢
          repeat walk_at "rd"
          refine oneSs hp7 l7e (ne_lp l7e hp7) ok6 (by decide) (by decide) fun o H8 x8 y8 ho K8 hp8 ok8 => ?_
          have n6 : t6 ≠ p := fun z => by rw [z, hp6] at t6e; cases t6e
          have t8e := K8 _ _ n6 t7e
          repeat walk_at "rd"
          refine ⟨Rd.sz (by simp), fun t9 h9 => ?_⟩
          have S9 := Rd.sNew (o := .tup [.str "ask", .str o]) h9
          have hp9 := S9 _ _ hp8
          have t9e := S9 _ _ t8e
          repeat walk_at "rd"
          refine ⟨t9, t6, [.str "ask", .str o], [.str r1, .str r2], rfl, rfl, .inl (.inl upd_same), .inl (.inl t9e), by simp, Rd.sz (by simp), fun z => absurd z (by simp), fun _ ta ha => ?_⟩
          have Sa := Rd.sNew (o := .tup ([.str "ask", .str o] ++ [.str r1, .str r2])) ha
          have ho2 : o ∈ askTwo := (show ∀ z ∈ (["member", "like", "unlike", "like", "unlike", "before", "behind"] : List Str), z ∈ askTwo by decide +kernel) o ho
          refine q (.ref ta) (.ask2 o r1 r2) _ x8 y8 (((K06.trans K7).trans K8).trans (Keep.same (S9.trans Sa))) (Sa _ _ hp9) ok8 ?_ (fun t => ask2_all t ho2 i1 i2 n12) rfl rfl
          exact .tup (.inl (.inl upd_same)) (.cons (.str _) (.cons (.str _) (.cons (.str _) (.cons (.str _) .nil))))
end
end Ab
namespace Ab
open PySem.Spec PyProof.Rows
local macro_rules | `(tactic| walk_at "rd") => `(tactic| (with_reducible first | refine Rd.tt_ ?_ | refine Rd.ff_ ?_))
def szD : Nat → Nat
  | 0 => 1
  | n + 1 => 3 * szD n + 1
theorem szD_pos : ∀ n, 1 ≤ szD n
  | 0 => Nat.le_refl _
  | n + 1 => by rw [szD]; omega
theorem szD_mono {a b : Nat} (h : a ≤ b) : szD a ≤ szD b := by
  induction h with
  | refl => exact Nat.le_refl _
  | step _ ih => rw [szD]; omega
section
variable {P : Program} {w : World} {K : PySem.W.Frag} {mg : Str → Option Value} {base : Heap}
abbrev sL_part : Stmt := top 43
abbrev nL_part : List Str := ["_law_pool_here", "_law_method", "_law_deep", "_law_at_tail", "_law_way", "_law_first", "_law_second"]
theorem scL_part : FnScope nL_part ["_law_pool_here", "_law_method", "_law_deep", "_law_at_tail"] (defScope sL_part) := ⟨rfl, rfl, rfl, by decide +kernel, rfl, by decide +kernel, by decide +kernel⟩
def spPart (K : PySem.W.Frag) (n : Nat) : Sp := fun vs H Q _ => ∃ (p : Addr) (x y : Int) (m : Str) (tail : Bool), vs = [.ref p, .str m, .int (n : Int), .bl tail] ∧ H p = some (.lst [.int x, .int y]) ∧ PoolOk x y ∧ m ∈ bodyM ∧
  ∀ (v : V) (nd : Nd) H' x' y', Keep p H H' → H' p = some (.lst [.int x', .int y']) → PoolOk x' y' → Dp K H' v nd.d → nd.all m tail = true → nd.dep ≤ n + 1 → nd.size ≤ szD n → Q v H'
/-- of depth n at most -/
def spPartA (K : PySem.W.Frag) (n : Nat) : Sp := fun vs H Q E => ∃ j, j ≤ n ∧ spPart K j vs H Q E
theorem part_step (T : Txt K mg) (D : DefAt K mg "_law_part" sL_part ["_law_pool_here", "_law_method", "_law_deep", "_law_at_tail"]) (CL_take : CalG P w K mg base 1 "_law_take" spTake) (CL_leaf : CalG P w K mg base 3 "_law_leaf" (spLeaf K)) (CL_asking : CalG P w K mg base 3 "_law_asking" (spAsking K))
    {k top : Nat} (hk : 3 ≤ k) {sp : Sp} (CL_part : CalG P w K mg base k "_law_part" sp) (hsp : ∀ i, i < top → ∀ vs H Q E, spPart K i vs H Q E → sp vs H Q E) : CalG P w K mg base (k + 1) "_law_part" (spPartA K top) := by
  refine D.by scL_part (fun vs H Q E h => ?_) (fun f cd A hg outer s H vs Q E hr h => ?_)
  · obtain ⟨_, _, _, _, _, _, _, rfl, _⟩ := h
    rfl
  · obtain ⟨j, hj, p, x, y, m, tail, rfl, hp, ok, hm, q⟩ := h
    refine ⟨_, (pss_cons (ps_set (i := 4) scL_part.nd rfl (Or.inl rfl) (pe_cG CL_take hg hr (by omega) (pa_cons (pv 0) (pa_cons pe_int pa_nil))))
  (pss_cons (ps_if (PW.pt (pw_or (PW.pt (pw_and (pt_cmpR op_eq (pv 2) pe_int (nomark _)) (pw_and1 (pt_cmpR op_lt (pv 4) pe_int (nomark _))))) (pw_or1 (pt_cmpR op_lt (pv 4) pe_int (nomark _)))))
  (pss_one (ps_ret (pe_cG CL_leaf hg hr (by omega) (pa_cons (pv 0) (pa_cons (pv 1) (pa_cons (pv 3) pa_nil))))))
  pss_nil)
  (pss_cons (ps_if (PW.pt (pw_or (pt_cmpR op_eq (pv 2) pe_int (nomark _)) (pw_or1 (pt_cmpR op_lt (pv 4) pe_int (nomark _)))))
  (pss_one (ps_ret (pe_cG CL_asking hg hr (by omega) (pa_cons (pv 0) (pa_cons (pv 1) pa_nil)))))
  pss_nil)
  (pss_cons (ps_if (pt_cmpR op_eq (pv 4) pe_int (nomark _))
  (pss_one (ps_ret (pe_tup (pa_cons pe_str (pa_cons (pe_cG CL_part hg hr (by omega) (pa_cons (pv 0) (pa_cons (pv 1) (pa_cons (pe_op op_sub (pv 2) pe_int) (pa_cons pe_bl pa_nil))))) pa_nil)))))
  pss_nil)
  (pss_cons (ps_set (i := 5) scL_part.nd rfl (Or.inl rfl) (pe_cG CL_part hg hr (by omega) (pa_cons (pv 0) (pa_cons (pv 1) (pa_cons (pe_op op_sub (pv 2) pe_int) (pa_cons pe_bl pa_nil))))))
  (pss_cons (ps_set (i := 6) scL_part.nd rfl (Or.inl rfl) (pe_cG CL_part hg hr (by omega) (pa_cons (pv 0) (pa_cons (pv 1) (pa_cons (pe_op op_sub (pv 2) pe_int) (pa_cons (pv 3) pa_nil))))))
  (pss_one (ps_ret (pe_tup (pa_cons pe_str (pa_cons (pv 5) (pa_cons (pv 6) (pa_cons (pe_cG CL_part hg hr (by omega) (pa_cons (pv 0) (pa_cons (pv 1) (pa_cons (pe_op op_sub (pv 2) pe_int) (pa_cons (pv 3) pa_nil))))) pa_nil))))))))))))), ?_⟩
    repeat walk_at "rd"
    refine ⟨p, x, y, 8, rfl, hp, ok, by decide, by decide, fun c x1 y1 ok1 c0 c1 => ?_⟩
    have K1 : Keep p H (upd H p (.lst [.int x1, .int y1])) := Keep.put (fun _ _ _ e => e)
    have hp1 : upd H p (.lst [.int x1, .int y1]) p = some (.lst [.int x1, .int y1]) := upd_same
    generalize upd H p (.lst [.int x1, .int y1]) = H1 at K1 hp1 ⊢
    match j, hj, q with
    | 0, hj, q =>
      have leaf : spLeaf K ([.ref p, .str m, .bl tail] ++ []) H1 Q E0 := ⟨p, x1, y1, m, tail, rfl, hp1, ok1, fun v nd H2 x2 y2 K2 hp2 ok2 dp a1 a2 a3 => q v nd H2 x2 y2 (K1.trans K2) hp2 ok2 dp a1 (by omega) (by rw [szD]; omega)⟩
      have asking : spAsking K ([.ref p, .str m] ++ []) H1 Q E0 := ⟨p, x1, y1, m, rfl, hp1, ok1, hm, fun v nd H2 x2 y2 K2 hp2 ok2 dp a1 a2 a3 => q v nd H2 x2 y2 (K1.trans K2) hp2 ok2 dp (a1 tail) (by omega) (by rw [szD]; omega)⟩
      repeat walk_at "rd"
      refine Rd.dec (fun _ => ?_) (fun e => absurd rfl e)
      repeat walk_at "rd"
      refine Rd.dec (fun _ => ?_) (fun e4 => ?_)
      · repeat walk_at "rd"
        exact leaf
      · repeat walk_at "rd"
        refine Rd.dec (fun e2 => (by omega)) (fun e2 => ?_)
        repeat walk_at "rd"
        refine Rd.dec (fun _ => ?_) (fun e => absurd rfl e)
        repeat walk_at "rd"
        exact asking
    | n + 1, hj, q =>
      have hn : n < top := hj
      have sz1 := szD_pos (n + 1)
      have leaf : spLeaf K ([.ref p, .str m, .bl tail] ++ []) H1 Q E0 := ⟨p, x1, y1, m, tail, rfl, hp1, ok1, fun v nd H2 x2 y2 K2 hp2 ok2 dp a1 a2 a3 => q v nd H2 x2 y2 (K1.trans K2) hp2 ok2 dp a1 (by omega) (by omega)⟩
      have asking : spAsking K ([.ref p, .str m] ++ []) H1 Q E0 := ⟨p, x1, y1, m, rfl, hp1, ok1, hm, fun v nd H2 x2 y2 K2 hp2 ok2 dp a1 a2 a3 => q v nd H2 x2 y2 (K1.trans K2) hp2 ok2 dp (a1 tail) (by omega) (by omega)⟩
      have szn : szD (n + 1) = 3 * szD n + 1 := rfl
      have dn : (((n + 1 : Nat) : Int) - 1) = (n : Int) := by omega
      repeat walk_at "rd"
      refine Rd.dec (fun e => absurd (V.int.inj e) (by omega)) (fun _ => ?_)
      repeat walk_at "rd"
      refine Rd.dec (fun _ => ?_) (fun e2 => ?_)
      · repeat walk_at "rd"
        exact leaf
      · repeat walk_at "rd"
        refine Rd.dec (fun e => absurd (V.int.inj e) (by omega)) (fun _ => ?_)
        repeat walk_at "rd"
        refine Rd.dec (fun _ => ?_) (fun e5 => ?_)
        · repeat walk_at "rd"
          exact asking
        · repeat walk_at "rd"
          refine Rd.dec (fun _ => ?_) (fun e6 => ?_)
          · repeat walk_at "rd"
            rw [dn]
            refine hsp n hn _ _ _ _ ⟨p, x1, y1, m, false, rfl, hp1, ok1, hm, fun v nd H2 x2 y2 K2 hp2 ok2 dp a1 a2 a3 => ?_⟩
            repeat walk_at "rd"
            refine ⟨Rd.sz (by simp), fun t ht => ?_⟩
            have S3 := Rd.sNew (o := .tup [.str "not", v]) ht
            refine q (.ref t) (.no nd) _ x2 y2 ((K1.trans K2).trans (Keep.same S3)) (S3 _ _ hp2) ok2 ?_ a1 (by show nd.dep + 1 ≤ _; omega) (by show nd.size + 1 ≤ _; omega)
            exact .tup (.inl (.inl upd_same)) (.cons (.str _) (.cons (dp_mono S3 dp) .nil))
          · repeat walk_at "rd"
            rw [dn]
            refine hsp n hn _ _ _ _ ⟨p, x1, y1, m, false, rfl, hp1, ok1, hm, fun v1 nd1 H2 x2 y2 K2 hp2 ok2 dp1 a1 a2 a3 => ?_⟩
            repeat walk_at "rd"
            rw [dn]
            refine hsp n hn _ _ _ _ ⟨p, x2, y2, m, tail, rfl, hp2, ok2, hm, fun v2 nd2 H3 x3 y3 K3 hp3 ok3 dp2 b1 b2 b3 => ?_⟩
            have dp1 := nd_keep K3 (nt_lst hp2) _ _ dp1
            repeat walk_at "rd"
            rw [dn]
            refine hsp n hn _ _ _ _ ⟨p, x3, y3, m, tail, rfl, hp3, ok3, hm, fun v3 nd3 H4 x4 y4 K4 hp4 ok4 dp3 c1 c2 c3 => ?_⟩
            have dp1 := nd_keep K4 (nt_lst hp3) _ _ dp1
            have dp2 := nd_keep K4 (nt_lst hp3) _ _ dp2
            repeat walk_at "rd"
            refine ⟨Rd.sz (by simp), fun t ht => ?_⟩
            have S5 := Rd.sNew (o := .tup [.str "if", v1, v2, v3]) ht
            refine q (.ref t) (.iff nd1 nd2 nd3) _ x4 y4 ((((K1.trans K2).trans K3).trans K4).trans (Keep.same S5)) (S5 _ _ hp4) ok4 ?_ ?_ ?_ ?_
            · exact .tup (.inl (.inl upd_same)) (.cons (.str _) (.cons (dp_mono S5 dp1) (.cons (dp_mono S5 dp2) (.cons (dp_mono S5 dp3) .nil))))
            · show (nd1.all m false && nd2.all m tail && nd3.all m tail) = true
              rw [a1, b1, c1]; rfl
            · show max nd1.dep (max nd2.dep nd3.dep) + 1 ≤ _; omega
            · show nd1.size + nd2.size + nd3.size + 1 ≤ _; omega
theorem ok_part (T : Txt K mg) (D : DefAt K mg "_law_part" sL_part ["_law_pool_here", "_law_method", "_law_deep", "_law_at_tail"]) (CL_take : CalG P w K mg base 1 "_law_take" spTake) (CL_leaf : CalG P w K mg base 3 "_law_leaf" (spLeaf K)) (CL_asking : CalG P w K mg base 3 "_law_asking" (spAsking K)) :
    ∀ n, CalG P w K mg base (n + 4) "_law_part" (spPartA K n)
  | 0 => part_step T D CL_take CL_leaf CL_asking (Nat.le_refl 3) (sp := fun _ _ _ _ => False) (by
      obtain ⟨f, fd, h1, h2, h3⟩ := D
      exact ⟨f, fd, _, ⟨fun _ _ _ _ h => h.elim, fun _ _ _ _ _ _ _ _ _ _ _ _ _ _ h => h.elim⟩, h1, h2.kp, h3⟩) fun i h => absurd h (Nat.not_lt_zero i)
  | n + 1 => part_step T D CL_take CL_leaf CL_asking (by omega) (ok_part T D CL_take CL_leaf CL_asking n) fun i h vs H Q E q => ⟨i, Nat.lt_succ_iff.mp h, q⟩
end
end Ab
namespace Rd
open PySem.Spec PyProof.Rows
theorem disp {trs : List (TE × TE)} {σ : L2.St} {H : Hp} {Q : VK} (k : ∀ p, H p = none → tPairs trs σ (upd H p (.dK [])) fun ps H2 => H2 p = some (.dK []) ∧ ∃ kvs : List (Key × V), ps = kvs.map (fun kv => (kV kv.1, kv.2)) ∧ kvs.length ≤ 15 ∧ Q (.ref p) (upd H2 p (.dK (mergeK [] kvs)))) : tDisp trs σ H Q := k
theorem pcons {tk tv : TE} {r : List (TE × TE)} {σ : L2.St} {H : Hp} {Q : List (V × V) → Hp → Prop} (k : tk σ H fun x H1 => tv σ H1 fun y H2 => tPairs r σ H2 fun ps H3 => Q ((x, y) :: ps) H3) : tPairs ((tk, tv) :: r) σ H Q := k
theorem pnil {σ : L2.St} {H : Hp} {Q : List (V × V) → Hp → Prop} (k : Q [] H) : tPairs [] σ H Q := k
theorem dget2R {td ty tx : TE} {σ : L2.St} {H : Hp} {Q : VK} (k : td σ H fun x H1 => ∃ a, x = .ref a ∧ IsD H1 a ∧ ty σ H1 fun y H2 => tx σ H2 fun z H3 => ∃ o, DGet H3 a y o ∧ Q (o.getD z) H3) : tDGet2 td ty tx σ H Q := k
end Rd
namespace Ab
open PySem.Spec PyProof.Rows
local macro_rules | `(tactic| walk_at "rd") => `(tactic| (with_reducible first | refine Rd.tt_ ?_ | refine Rd.ff_ ?_ | refine Rd.disp ?_ | refine Rd.pcons ?_ | refine Rd.pnil ?_ | refine Rd.dget2R ?_))
theorem ints5 : ∀ n : Fin 6, PyData.showable (.int (n.val : Int)) = true ∧ (PyData.shown (.int (n.val : Int)) ∈ (["0", "1", "2", "3", "4"] : List Str) ↔ n.val ≤ 4) := by decide +kernel
mutual
theorem okU_all : ∀ d : PyData, okU d = true → PyData.canLay0 d = true ∧ PyData.intsShort 13 d = true ∧ PyData.showable d = true ∧ PyData.hasDict d = false
  | .none, _ => by simp [PyData.canLay0, PyData.intsShort, PyData.showable, PyData.hasDict]
  | .bool b, _ => by simp [PyData.canLay0, PyData.intsShort, PyData.showable, PyData.hasDict]
  | .int i, h => by
    have h : (decide (0 ≤ i) && decide (i ≤ 5)) = true := by simpa [okU] using h
    rw [Bool.and_eq_true, decide_eq_true_iff, decide_eq_true_iff] at h
    obtain ⟨n, rfl⟩ : ∃ n : Nat, i = (n : Int) := ⟨i.toNat, by omega⟩
    have s := PyData.shown_int_le (i := (n : Int)) (by simp; omega)
    exact ⟨by simp [PyData.canLay0], by simpa [PyData.intsShort] using s, (ints5 ⟨n, by omega⟩).1, by simp [PyData.hasDict]⟩
  | .str z, h => by
    have h : z ∈ wordsU := by simpa [okU] using h
    exact ⟨by simpa [PyData.canLay0] using wordsU_ok z h, by simp [PyData.intsShort], by simp [PyData.showable], by simp [PyData.hasDict]⟩
  | .list xs, h => by
    obtain ⟨a, b, c, d⟩ := okUA_all xs (by simpa [okU] using h)
    exact ⟨by simpa [PyData.canLay0] using a, by simpa [PyData.intsShort] using b, by simpa [PyData.showable] using c, by simpa [PyData.hasDict] using d⟩
  | .tuple xs, h => by
    obtain ⟨a, b, c, d⟩ := okUA_all xs (by simpa [okU] using h)
    exact ⟨by simpa [PyData.canLay0] using a, by simpa [PyData.intsShort] using b, by simpa [PyData.showable] using c, by simpa [PyData.hasDict] using d⟩
  | .dict xs, h => by simp [okU] at h
theorem okUA_all : ∀ ds : List PyData, okUA ds = true → PyData.canLayAll0 ds = true ∧ PyData.intsShortAll 13 ds = true ∧ PyData.showableAll ds = true ∧ PyData.hasDictAll ds = false
  | [], _ => by simp [PyData.canLayAll0, PyData.intsShortAll, PyData.showableAll, PyData.hasDictAll]
  | x :: xs, h => by
    rw [okUA, Bool.and_eq_true] at h
    obtain ⟨a, b, c, d⟩ := okU_all x h.1
    obtain ⟨a2, b2, c2, d2⟩ := okUA_all xs h.2
    exact ⟨by simp [PyData.canLayAll0, a, a2], by simp [PyData.intsShortAll, b, b2], by simp [PyData.showableAll, c, c2], by simp [PyData.hasDictAll, d, d2]⟩
end
theorem Uni.shaped {d : PyData} (h : Uni d) : SeqAt.shaped d = true := by
  show (PyData.canLay0 d && decide (PyData.depth d ≤ 64)) = true
  rw [(okU_all d h.ok).1, decide_eq_true (by have := h.dp; omega)]; rfl
theorem Uni.fits {d : PyData} (h : Uni d) : d.shown.length ≤ sizeLine := by
  obtain ⟨a, b, _, _⟩ := okU_all d h.ok
  refine PyData.shown_fits_of_layable0 (B := 13) (by decide) (by decide) ?_ b
  have w := h.wt
  have e : (2 : Nat) ^ 20 = 1048576 := by decide
  simp only [PyData.layable0, Bool.and_eq_true, decide_eq_true_iff]
  exact ⟨⟨a, by have := h.dp; omega⟩, by omega⟩
theorem Uni.repr {K : PySem.W.Frag} {H : Hp} {v : V} {d : PyData} {Q : VK} (h : Uni d) (dp : Dp K H v d) (k : Q (.str d.shown) H) : rReprX K [v] H Q := by
  obtain ⟨_, _, c, e⟩ := okU_all d h.ok
  exact .inl (Rd.repr_ dp c e (by have := h.dp; omega) h.fits k)
theorem long_list (ts : List Str) : 2 ≤ (listText ts).length := by
  unfold listText
  rw [strLen_append]
  have := (textFrom_len ts 0 "[").2.2
  have e1 : Str.length "[" = 1 := by decide +kernel
  have e2 : (Str.ofString "]").length = 1 := by decide +kernel
  omega
theorem long_tuple (ts : List Str) : 2 ≤ (tupleText ts).length := by
  unfold tupleText
  rw [strLen_append, strLen_append]
  have e1 : (Str.ofString "(").length = 1 := by decide +kernel
  have e2 : 1 ≤ (Str.ofString (if ts.length == 1 then ",)" else ")")).length := by split <;> decide +kernel
  omega
theorem one_long : ∀ z ∈ (["0", "1", "2", "3", "4"] : List Str), z.length = 1 := by decide +kernel
theorem cnt_shown {d : PyData} (h : okU d = true) : (decide (d.shown ∈ (["0", "1", "2", "3", "4"] : List Str)) && !strD d) = cntD d := by
  cases d with
  | none => decide +kernel
  | bool b => cases b <;> decide +kernel
  | int i =>
    have h : (decide (0 ≤ i) && decide (i ≤ 5)) = true := by simpa [okU] using h
    rw [Bool.and_eq_true, decide_eq_true_iff, decide_eq_true_iff] at h
    obtain ⟨n, rfl⟩ : ∃ n : Nat, i = (n : Int) := ⟨i.toNat, by omega⟩
    have s := (ints5 ⟨n, by omega⟩).2
    show (decide _ && true) = (decide (0 ≤ (n : Int)) && decide ((n : Int) ≤ 4))
    rw [Bool.and_true, decide_eq_true h.1, Bool.true_and, decide_eq_decide, s]
    show n ≤ 4 ↔ _
    omega
  | str z => show (_ && false) = false; rw [Bool.and_false]
  | list xs =>
    have e : (PyData.list xs).shown ∉ (["0", "1", "2", "3", "4"] : List Str) := fun m => by
      have a := one_long _ m
      have b := long_list (PyData.shownAll xs)
      rw [PyData.shown] at a
      omega
    rw [decide_eq_false e]; rfl
  | tuple xs =>
    have e : (PyData.tuple xs).shown ∉ (["0", "1", "2", "3", "4"] : List Str) := fun m => by
      have a := one_long _ m
      have b := long_tuple (PyData.shownAll xs)
      rw [PyData.shown] at a
      omega
    rw [decide_eq_false e]; rfl
  | dict xs => simp [okU] at h
theorem cut_two {x y : V} {r : List V} : cutV (x :: y :: r) (some 2) none = r := by
  unfold cutV
  have e1 : HT.sIx (x :: y :: r).length 0 (some 2) = 2 := by simp [HT.sIx]
  have e2 : HT.sIx (x :: y :: r).length (x :: y :: r).length none = r.length + 2 := by simp [HT.sIx]
  rw [e1, e2]
  simp
theorem roles_of {m : Str} (h : m ∈ bodyM) (z : Str) : (decide (z = "self") || (decide (z = "other") && !decide (m ∈ (["truth", "length", "hash"] : List Str)))) = decide (z ∈ rolesOf m) := by
  have g : ∀ m ∈ bodyM, rolesOf m = if (!decide (m ∈ (["truth", "length", "hash"] : List Str))) = true then (["self", "other"] : List Str) else ["self"] := by decide +kernel
  rw [g m h]
  cases (!decide (m ∈ (["truth", "length", "hash"] : List Str))) with
  | true =>
    rw [Bool.and_true, if_pos rfl]
    simp [Bool.decide_or]
  | false =>
    rw [Bool.and_false, Bool.or_false, if_neg Bool.false_ne_true]
    simp
section
variable {P : Program} {w : World} {K : PySem.W.Frag} {mg : Str → Option Value} {base : Heap}
abbrev sL_is_role : Stmt := top 44
abbrev nL_is_role : List Str := ["_law_method", "_law_role"]
theorem scL_is_role : FnScope nL_is_role ["_law_method", "_law_role"] (defScope sL_is_role) := ⟨rfl, rfl, rfl, by decide +kernel, rfl, by decide +kernel, by decide +kernel⟩
def spLRole (K : PySem.W.Frag) : Sp := fun vs H Q _ => ∃ (m : Str) (v : V) (d : PyData), vs = [.str m, v] ∧ m ∈ bodyM ∧ Dp K H v d ∧ okU d = true ∧ ∀ H', Same H H' → Q (.bl (roleD m d)) H'
set_option pp.maxSteps 3000 in
theorem ok_lrole (T : Txt K mg) (D : DefAt K mg "_law_is_role" sL_is_role ["_law_method", "_law_role"]) : CalG P w K mg base 1 "_law_is_role" (spLRole K) := by
  refine D.by scL_is_role (fun vs H Q E h => ?_) (fun f cd A hg outer s H vs Q E hr h => ?_)
  · obtain ⟨_, _, _, rfl, _⟩ := h
    rfl
  · obtain ⟨m, v, d, rfl, hm, dp, ok, q⟩ := h
    obtain ⟨tn, kd⟩ := dp_kd dp
    refine ⟨_, (pss_one (ps_ret (pe_and (pe_callB (r := rIsi K) call_isi (by rfl) T.isinstance (by decide +kernel) (pa_cons (pv 1) (pa_cons (pe_bltn (v := .ty "str") (by rfl) T.str (by decide +kernel) rfl) pa_nil))) (pe_one (pe_or (pe_cmpR (r := rEqD K) (op_eqD hr.units) (pv 1) pe_str (nomark _)) (pe_one (pe_and (pe_cmpR (r := rEqD K) (op_eqD hr.units) (pv 1) pe_str (nomark _)) (pe_one (pe_cmpR (r := rIn K true) op_notIn_seq (pv 0) (pe_lst (pa_cons pe_str (pa_cons pe_str (pa_cons pe_str pa_nil)))) (by rfl)))))))))), ?_⟩
    repeat walk_at "rd"
    refine isi kd.ty kd.s ?_
    rw [dp_strD dp]
    refine ⟨_, rfl, ?_⟩
    refine Rd.bool (fun c => ?_) (fun c => ?_)
    · obtain ⟨z, rfl⟩ : ∃ z, d = .str z := by cases d <;> first | exact ⟨_, rfl⟩ | cases c
      obtain rfl := dpS dp
      have q : ∀ H', Same H H' → Q (.bl (decide (z ∈ rolesOf m))) H' := q
      rw [← roles_of hm z] at q
      have zs := str_sh (z := z) (by simpa [okU] using ok)
      repeat walk_at "rd"
      refine Rd.eqD (d := .str z) (e := .str "self") (.str _) (.str _) zs (by decide +kernel) ?_
      rw [eqv_str]
      refine ⟨_, rfl, ?_⟩
      refine Rd.bool (fun c => ?_) (fun c => ?_)
      · have := q H (Same.refl _)
        rw [c, Bool.true_or] at this
        exact this
      · rw [c] at q
        repeat walk_at "rd"
        refine Rd.eqD (d := .str z) (e := .str "other") (.str _) (.str _) zs (by decide +kernel) ?_
        rw [eqv_str]
        refine ⟨_, rfl, ?_⟩
        refine Rd.bool (fun c => ?_) (fun c => ?_)
        · rw [c] at q
          repeat walk_at "rd"
          refine ⟨Rd.sz (by simp), fun l hl => ?_⟩
          refine Rd.inL (xs := (["truth", "length", "hash"] : List Str).map V.str) (SqL.of upd_same) rfl rfl ?_
          rw [if_pos rfl, inV_str]
          exact q _ (Rd.sNew hl)
        · rw [c] at q
          exact q H (Same.refl _)
    · have e : roleD m d = false := by cases d <;> first | rfl | cases c
      rw [e] at q
      exact q H (Same.refl _)
end
end Ab
namespace Ab
open PySem.Spec PyProof.Rows
local macro_rules | `(tactic| walk_at "rd") => `(tactic| (with_reducible first | refine Rd.tt_ ?_ | refine Rd.ff_ ?_ | refine Rd.disp ?_ | refine Rd.pcons ?_ | refine Rd.pnil ?_ | refine Rd.dget2R ?_))
def sizes0 : List (Key × V) := [(.inr "yes", .int 1), (.inr "no", .int 1), (.inr "raise", .int 1), (.inr "decline", .int 1), (.inr "further", .int 1), (.inr "count", .int 2), (.inr "not", .int 2)]
def sizesN (n : Int) : List (Key × V) := [(.inr "yes", .int 1), (.inr "no", .int 1), (.inr "raise", .int 1), (.inr "decline", .int 1), (.inr "further", .int 1), (.inr "count", .int 2), (.inr "not", .int 2), (.inr "if", .int 4), (.inr "ask", .int n)]
theorem merge_sizes : mergeK [] sizes0 = sizes0 := rfl
theorem put_sizes (n : Int) : putK (putK sizes0 (.inr "if") (.int 4)) (.inr "ask") (.int n) = sizesN n := rfl
def sizeI (w : Str) (n : Int) : Int := if w ∈ (["yes", "no", "raise", "decline", "further"] : List Str) then 1 else if w ∈ (["count", "not"] : List Str) then 2 else if w = "if" then 4 else if w = "ask" then n else -1
theorem val_sizes {w : Str} (h : w ∈ wordsU) (n : Int) : (valV (sizesN n) (.inr w)).getD (.int (-1)) = .int (sizeI w n) := by
  simp only [wordsU, List.mem_cons, List.not_mem_nil, or_false] at h
  rcases h with rfl | rfl | rfl | rfl | rfl | rfl | rfl | rfl | rfl | rfl | rfl | rfl | rfl | rfl | rfl | rfl | rfl | rfl | rfl | rfl | rfl | rfl | rfl <;> rfl
theorem int_sh (i : Int) : SeqAt.shaped (.int i) = true := by
  show (PyData.canLay0 (.int i) && decide (PyData.depth (.int i) ≤ 64)) = true
  simp [PyData.canLay0, PyData.depth]
theorem eqv_int (a b : Int) : PyData.eqv (.int a) (.int b) = decide (a = b) := by
  simp only [PyData.eqv]
  by_cases e : a = b
  · subst e; simp
  · simp [e]
theorem dec4 : ∀ m ∈ bodyM, decide (m ∈ decliners) = decide (m ∈ (["like", "unlike", "before", "behind"] : List Str)) := by decide +kernel
theorem gtupR {K : PySem.W.Frag} {a : Addr} {xs : List V} {n : Nat} {t : TGs} {σ : L2.St} {H : Hp} {Q : L2.St → Hp → Prop} (h : SqT K H a xs) (l : xs.length = n) (k : t xs σ H Q) : gTup K n t (.ref a) σ H Q := ⟨a, xs, rfl, h, l, k⟩
theorem filt_dpa {K : PySem.W.Frag} {H : Hp} {f : PyData → Bool} : ∀ {ds : List PyData} {ys : List V}, Paired (fun d y => Dp K H y d) (ds.map fun d => d) ys → DpAll K H ys ds
  | [], _, .nil => .nil
  | _ :: _, _, .cons a b => .cons a (filt_dpa (f := f) b)
theorem ones_n {z : Str} (h : z ∈ (["yes", "no", "raise", "decline", "further"] : List Str)) : z ≠ "not" ∧ z ≠ "if" ∧ z ≠ "count" ∧ z ≠ "ask" := (show ∀ z ∈ (["yes", "no", "raise", "decline", "further"] : List Str), z ≠ "not" ∧ z ≠ "if" ∧ z ≠ "count" ∧ z ≠ "ask" by decide +kernel) z h
theorem cntL_len {ds : List PyData} (h : ds.length ≠ 1) : cntL ds = false := by
  match ds, h with
  | [], _ => rfl
  | [_], h => exact absurd rfl h
  | _ :: _ :: _, _ => rfl
theorem empty_len {ds : List PyData} (h : ds.length ≠ 0) : ds.isEmpty = false := by
  cases ds with
  | nil => exact absurd rfl h
  | cons _ _ => rfl
theorem size_bad {m z : Str} {ds : List PyData} {t : Bool} (h : ¬ sizeI z ((ds.length : Int) + 1) = (ds.length : Int) + 1) : wordD m z ds t = false := by
  unfold sizeI at h
  by_cases h1 : z ∈ (["yes", "no", "raise", "decline", "further"] : List Str)
  · rw [if_pos h1] at h
    obtain ⟨a, b, c, d⟩ := ones_n h1
    rw [wordD, if_neg a, if_neg b, if_neg c, if_neg d, empty_len (by omega), Bool.false_and]
  · rw [if_neg h1] at h
    by_cases h2 : z ∈ (["count", "not"] : List Str)
    · rw [if_pos h2] at h
      have hl : ds.length ≠ 1 := by omega
      simp only [List.mem_cons, List.not_mem_nil, or_false] at h2
      rcases h2 with rfl | rfl
      · rw [wordD, if_neg (by decide +kernel), if_neg (by decide +kernel), if_pos rfl, cntL_len hl]
      · rw [wordD, if_pos rfl]
        exact beq_eq_false_iff_ne.mpr hl
    · rw [if_neg h2] at h
      simp only [List.mem_cons, List.not_mem_nil, or_false, not_or] at h1 h2
      by_cases h3 : z = "if"
      · rw [if_pos h3] at h
        have hl : ds.length ≠ 3 := by omega
        rw [wordD, if_neg h2.2, if_pos h3]
        exact beq_eq_false_iff_ne.mpr hl
      · rw [if_neg h3] at h
        by_cases h4 : z = "ask"
        · rw [if_pos h4] at h; exact absurd rfl h
        · rw [wordD, if_neg h2.2, if_neg h3, if_neg h2.1, if_neg h4, aloneD, if_neg h1.2.2.2.2, if_neg h1.2.2.2.1, decide_eq_false (show z ∉ answerW by simp only [answerW, List.mem_cons, List.not_mem_nil, or_false, not_or]; exact ⟨h1.1, h1.2.1, h1.2.2.1⟩), Bool.and_false]
theorem size_good {z : Str} {ds : List PyData} (h : sizeI z ((ds.length : Int) + 1) = (ds.length : Int) + 1) :
    (z ∈ (["yes", "no", "raise", "decline", "further"] : List Str) ∧ ds = []) ∨ (z = "count" ∧ ds.length = 1) ∨ (z = "not" ∧ ds.length = 1) ∨ (z = "if" ∧ ds.length = 3) ∨ z = "ask" := by
  unfold sizeI at h
  by_cases h1 : z ∈ (["yes", "no", "raise", "decline", "further"] : List Str)
  · rw [if_pos h1] at h
    exact .inl ⟨h1, List.length_eq_zero_iff.mp (by omega)⟩
  · rw [if_neg h1] at h
    by_cases h2 : z ∈ (["count", "not"] : List Str)
    · rw [if_pos h2] at h
      simp only [List.mem_cons, List.not_mem_nil, or_false] at h2
      rcases h2 with rfl | rfl
      · exact .inr (.inl ⟨rfl, by omega⟩)
      · exact .inr (.inr (.inl ⟨rfl, by omega⟩))
    · rw [if_neg h2] at h
      by_cases h3 : z = "if"
      · rw [if_pos h3] at h
        exact .inr (.inr (.inr (.inl ⟨h3, by omega⟩)))
      · rw [if_neg h3] at h
        by_cases h4 : z = "ask"
        · exact .inr (.inr (.inr (.inr h4)))
        · rw [if_neg h4] at h; omega
theorem list_sh {ds : List PyData} (h : ∀ x ∈ ds, Uni x) : SeqAt.shaped (.list ds) = true := by
  have a : PyData.canLayAll0 ds = true := by
    induction ds with
    | nil => rfl
    | cons x xs ih =>
      rw [PyData.canLayAll0, (okU_all x (h x List.mem_cons_self).ok).1, ih fun y hy => h y (List.mem_cons_of_mem _ hy)]
      rfl
  have b : PyData.depthAll ds ≤ 50 := by
    induction ds with
    | nil => simp [PyData.depthAll]
    | cons x xs ih =>
      rw [PyData.canLayAll0, Bool.and_eq_true] at a
      have := ih (fun y hy => h y (List.mem_cons_of_mem _ hy)) a.2
      have := (h x List.mem_cons_self).dp
      rw [PyData.depthAll]
      omega
  show (PyData.canLay0 (.list ds) && decide (PyData.depth (.list ds) ≤ 64)) = true
  rw [show PyData.canLay0 (.list ds) = true by simpa [PyData.canLay0] using a, decide_eq_true (by rw [PyData.depth]; omega)]
  rfl
theorem eqv_nil (ds : List PyData) : PyData.eqv (.list ds) (.list []) = ds.isEmpty := by
  cases ds <;> simp [PyData.eqv, PyData.eqvAll]
theorem filt_empty {m : Str} : ∀ rs : List PyData, (rs.filter fun d => !roleD m d).isEmpty = rs.all (roleD m)
  | [] => rfl
  | r :: rs => by
    rw [List.filter_cons]
    cases e : roleD m r with
    | true =>
      rw [if_neg (by simp), filt_empty rs, List.all_cons, e, Bool.true_and]
    | false =>
      rw [if_pos (by rfl), List.all_cons, e, Bool.false_and]
      rfl
theorem wordD_count (m : Str) (c : PyData) (t : Bool) : wordD m "count" [c] t = cntD c := by
  rw [wordD, if_neg (by decide +kernel), if_neg (by decide +kernel), if_pos rfl]; rfl
theorem wordD_decline (m : Str) (t : Bool) : wordD m "decline" [] t = (t && decide (m ∈ decliners)) := by
  rw [wordD, if_neg (by decide +kernel), if_neg (by decide +kernel), if_neg (by decide +kernel), if_neg (by decide +kernel), aloneD, if_neg (by decide +kernel), if_pos rfl]; rfl
theorem wordD_further (m : Str) (t : Bool) : wordD m "further" [] t = t := by
  rw [wordD, if_neg (by decide +kernel), if_neg (by decide +kernel), if_neg (by decide +kernel), if_neg (by decide +kernel), aloneD, if_pos rfl]; rfl
theorem wordD_ask (m : Str) (ds : List PyData) (t : Bool) : wordD m "ask" ds t = askD m ds := by
  rw [wordD, if_neg (by decide +kernel), if_neg (by decide +kernel), if_neg (by decide +kernel), if_pos rfl]
section
variable {P : Program} {w : World} {K : PySem.W.Frag} {mg : Str → Option Value} {base : Heap}
abbrev sL_is_node : Stmt := top 45
abbrev nL_is_node : List Str := ["_law_method", "_law_part_here", "_law_at_tail", "_law_sizes", "_law_role"]
theorem scL_is_node : FnScope nL_is_node ["_law_method", "_law_part_here", "_law_at_tail"] (defScope sL_is_node) := ⟨rfl, rfl, rfl, by decide +kernel, rfl, by decide +kernel, by decide +kernel⟩
def spLNode (K : PySem.W.Frag) : Sp := fun vs H Q _ => ∃ (v : V) (m : Str) (d : PyData) (tail : Bool), vs = [.str m, v, .bl tail] ∧ Dp K H v d ∧ Uni d ∧ m ∈ bodyM ∧ ∀ H', Same H H' → Q (.bl (nodeD m tail d)) H'
set_option pp.maxSteps 3000 in
theorem ok_lnode (T : Txt K mg) (D : DefAt K mg "_law_is_node" sL_is_node ["_law_method", "_law_part_here", "_law_at_tail"]) (CL_is_role : CalG P w K mg base 1 "_law_is_role" (spLRole K)) : CalG P w K mg base 2 "_law_is_node" (spLNode K) := by
  refine D.by scL_is_node (fun vs H Q E h => ?_) (fun f cd A hg outer s H vs Q E hr h => ?_)
  · obtain ⟨_, _, _, _, rfl, _⟩ := h
    rfl
  · obtain ⟨v, m, d, tail, rfl, dp, uni, hm, q⟩ := h
    refine ⟨_, (pss_cons (ps_if (PW.pt (pw_or (pt_not (pt_val (pe_callB (r := rIsi K) call_isi (by rfl) T.isinstance (by decide +kernel) (pa_cons (pv 1) (pa_cons (pe_bltn (v := .ty "tuple") (by rfl) T.tuple (by decide +kernel) rfl) pa_nil))))) (pw_or (pt_cmpR op_eq (pe_callB (r := Rd.rLenK K) Rd.callLen (by rfl) T.len PySem.boot_len (pa_cons (pv 1) pa_nil)) pe_int (nomark _)) (pw_or1 (pt_not (pt_val (pe_callB (r := rIsi K) call_isi (by rfl) T.isinstance (by decide +kernel) (pa_cons (pe_ix (r := rIxT K) ix_tup (pv 1) pe_int (fun _ _ => rfl)) (pa_cons (pe_bltn (v := .ty "str") (by rfl) T.str (by decide +kernel) rfl) pa_nil)))))))))
  (pss_one (ps_ret pe_bl))
  pss_nil)
  (pss_cons (ps_set (i := 3) scL_is_node.nd rfl (Or.inl rfl) (pe_disp (pps_cons pe_str pe_int (pps_cons pe_str pe_int (pps_cons pe_str pe_int (pps_cons pe_str pe_int (pps_cons pe_str pe_int (pps_cons pe_str pe_int (pps_cons pe_str pe_int pps_nil))))))) (by rfl) (by rfl) (by simp) (by decide)))
  (pss_cons (ps_asg (pe_tup (pa_cons pe_int (pa_cons (pe_callB (r := Rd.rLenK K) Rd.callLen (by rfl) T.len PySem.boot_len (pa_cons (pv 1) pa_nil)) pa_nil))) (pg_tup (by rfl) (pgs_cons (pg_sub (pv 3) pe_str (set_dict (one_ hr.units))) (pgs_cons (pg_sub (pv 3) pe_str (set_dict (one_ hr.units))) pgs_nil))))
  (pss_cons (ps_if (pt_cmpR (r := rNeD K) (op_neD hr.units) (pe_dget2 (one_ hr.units) (pv 3) (pe_ix (r := rIxT K) ix_tup (pv 1) pe_int (fun _ _ => rfl)) (pe_un un_neg pe_int) ⟨rfl, rfl, rfl, rfl⟩) (pe_callB (r := Rd.rLenK K) Rd.callLen (by rfl) T.len PySem.boot_len (pa_cons (pv 1) pa_nil)) (nomark _))
  (pss_one (ps_ret pe_bl))
  pss_nil)
  (pss_cons (ps_if (pt_cmpR (r := rEqD K) (op_eqD hr.units) (pe_ix (r := rIxT K) ix_tup (pv 1) pe_int (fun _ _ => rfl)) pe_str (nomark _))
  (pss_one (ps_ret (pe_and (pe_cmpR (r := rIn K false) op_in_seq (pe_callB (r := rReprX K) (call_reprX hg hr.units) (by rfl) T.repr (by decide +kernel) (pa_cons (pe_ix (r := rIxT K) ix_tup (pv 1) pe_int (fun _ _ => rfl)) pa_nil)) (pe_lst (pa_cons pe_str (pa_cons pe_str (pa_cons pe_str (pa_cons pe_str (pa_cons pe_str pa_nil)))))) (by rfl)) (pe_one (pe_not (pe_callB (r := rIsi K) call_isi (by rfl) T.isinstance (by decide +kernel) (pa_cons (pe_ix (r := rIxT K) ix_tup (pv 1) pe_int (fun _ _ => rfl)) (pa_cons (pe_bltn (v := .ty "str") (by rfl) T.str (by decide +kernel) rfl) pa_nil))))))))
  pss_nil)
  (pss_cons (ps_if (pt_cmpR (r := rEqD K) (op_eqD hr.units) (pe_ix (r := rIxT K) ix_tup (pv 1) pe_int (fun _ _ => rfl)) pe_str (nomark _))
  (pss_one (ps_ret (pe_and (pv 2) (pe_one (pe_cmpR (r := rIn K false) op_in_seq (pv 0) (pe_lst (pa_cons pe_str (pa_cons pe_str (pa_cons pe_str (pa_cons pe_str pa_nil))))) (by rfl))))))
  pss_nil)
  (pss_cons (ps_if (pt_cmpR (r := rEqD K) (op_eqD hr.units) (pe_ix (r := rIxT K) ix_tup (pv 1) pe_int (fun _ _ => rfl)) pe_str (nomark _))
  (pss_one (ps_ret (pv 2)))
  pss_nil)
  (pss_cons (ps_if (pt_cmpR (r := rNeD K) (op_neD hr.units) (pe_ix (r := rIxT K) ix_tup (pv 1) pe_int (fun _ _ => rfl)) pe_str (nomark _))
  (pss_one (ps_ret pe_bl))
  pss_nil)
  (pss_cons (ps_if (PW.pt (pw_or (pt_cmpR op_lt (pe_callB (r := Rd.rLenK K) Rd.callLen (by rfl) T.len PySem.boot_len (pa_cons (pv 1) pa_nil)) pe_int (nomark _)) (pw_or1 (pt_not (pt_val (pe_callB (r := rIsi K) call_isi (by rfl) T.isinstance (by decide +kernel) (pa_cons (pe_ix (r := rIxT K) ix_tup (pv 1) pe_int (fun _ _ => rfl)) (pa_cons (pe_bltn (v := .ty "str") (by rfl) T.str (by decide +kernel) rfl) pa_nil))))))))
  (pss_one (ps_ret pe_bl))
  pss_nil)
  (pss_cons (ps_if (pt_cmpR (r := rNeD K) (op_neD hr.units) (pe_lc (wi := iTup K _) (own := [("_law_role", 4)]) (g := gName 4) (by rfl) scL_is_node.nd (pi_tup (pe_slice (r := rSlA K) sl_tupA (pv 1) (po_some pe_int) po_none)) (blkOk_by (N := nL_is_node) (sc := defScope sL_is_node) (by decide +kernel)) (fun _ _ _ _ _ => pg_name (i := 4) scL_is_node.nd rfl (Or.inl rfl)) (fun _ _ _ _ _ => (pts_one (pt_not (pt_val (pe_cG CL_is_role hg hr (by decide) (pa_cons (pv 0) (pa_cons (pv 4) pa_nil))))))) (fun _ _ _ _ _ => (pv 4))) (pe_lst pa_nil) (nomark _))
  (pss_one (ps_ret pe_bl))
  pss_nil)
  (pss_cons (ps_if (pt_cmpR (r := rIn K false) op_in_seq (pe_ix (r := rIxT K) ix_tup (pv 1) pe_int (fun _ _ => rfl)) (pe_lst (pa_cons pe_str (pa_cons pe_str (pa_cons pe_str pa_nil)))) (by rfl))
  (pss_one (ps_ret (pe_cmpR op_eq (pe_callB (r := Rd.rLenK K) Rd.callLen (by rfl) T.len PySem.boot_len (pa_cons (pv 1) pa_nil)) pe_int (nomark _))))
  pss_nil)
  (pss_cons (ps_if (pt_cmpR (r := rIn K true) op_notIn_seq (pe_ix (r := rIxT K) ix_tup (pv 1) pe_int (fun _ _ => rfl)) (pe_lst (pa_cons pe_str (pa_cons pe_str (pa_cons pe_str (pa_cons pe_str (pa_cons pe_str pa_nil)))))) (by rfl))
  (pss_one (ps_ret pe_bl))
  pss_nil)
  (pss_one (ps_ret (pe_and (pe_cmpR op_eq (pe_callB (r := Rd.rLenK K) Rd.callLen (by rfl) T.len PySem.boot_len (pa_cons (pv 1) pa_nil)) pe_int (nomark _)) (pe_one (pe_cmpR (r := rNeD K) (op_neD hr.units) (pe_ix (r := rIxT K) ix_tup (pv 1) pe_int (fun _ _ => rfl)) (pe_ix (r := rIxT K) ix_tup (pv 1) pe_int (fun _ _ => rfl)) (nomark _)))))))))))))))))), ?_⟩
    have q0 := q H (Same.refl _)
    have bad : nodeD m tail d = false → Q (.bl false) H := fun e => by rw [e] at q0; exact q0
    repeat walk_at "rd"
    cases d with
    | none => refine isi (.base (by cases dp; exact .non)) (by show kitB "NoneType" "tuple" = some false; decide +kernel) ?_; repeat walk_at "rd"; exact bad rfl
    | bool b => refine isi (.base (by cases dp; exact .bl b)) (by show kitB "bool" "tuple" = some false; decide +kernel) ?_; repeat walk_at "rd"; exact bad rfl
    | int i => refine isi (.base (by cases dp; exact .int i)) (by show kitB "int" "tuple" = some false; decide +kernel) ?_; repeat walk_at "rd"; exact bad rfl
    | str z => refine isi (.base (by cases dp; exact .str z)) (by show kitB "str" "tuple" = some false; decide +kernel) ?_; repeat walk_at "rd"; exact bad rfl
    | list xs =>
      cases dp with
      | lst a b => refine isi (lst_ty a) (by show kitB "list" "tuple" = some false; decide +kernel) ?_; repeat walk_at "rd"; exact bad rfl
    | dict xs => cases dp
    | tuple ds =>
      obtain ⟨p, xs, rfl, hs, ha⟩ := dpT dp
      have len := dpa_len ha
      refine isi (tup_ty hs) (by show kitB "tuple" "tuple" = some true; decide +kernel) ?_
      refine ⟨_, rfl, ?_⟩
      refine offI ?_
      repeat walk_at "rd"
      refine Rd.lenT hs ?_
      repeat walk_at "rd"
      cases ds with
      | nil =>
        obtain rfl := dpN ha
        refine Rd.dec (fun _ => ?_) (fun c => absurd rfl c)
        repeat walk_at "rd"
        exact bad rfl
      | cons d0 ds =>
        obtain ⟨x0, xs, rfl, h0, hax⟩ := dpC ha
        have lenx := dpa_len hax
        refine Rd.dec (fun c => absurd (V.int.inj c) (by rw [List.length_cons]; omega)) (fun _ => ?_)
        repeat walk_at "rd"
        refine Rd.ixT hs (Rd.atN (by decide) rfl) ?_
        repeat walk_at "rd"
        obtain ⟨tn0, kd0⟩ := dp_kd h0
        refine isi kd0.ty kd0.s ?_
        rw [dp_strD h0]
        by_cases hw : ∃ z, d0 = .str z
        · obtain ⟨z, rfl⟩ := hw
          obtain rfl := dpS h0
          have zU : z ∈ wordsU := of_decide_eq_true (uni.mem List.mem_cons_self).ok
          have dsU : ∀ x ∈ ds, Uni x := fun x hx => uni.mem (List.mem_cons_of_mem _ hx)
          have dl := uni.len
          rw [List.length_cons] at dl
          refine ⟨_, rfl, ?_⟩
          refine Rd.ff_ ?_
          have q : ∀ H', Same H H' → Q (.bl (wordD m z ds tail)) H' := q
          clear q0 bad
          repeat walk_at "rd"
          intro pD hpD
          repeat walk_at "rd"
          refine ⟨upd_same, sizes0, rfl, by decide, ?_⟩
          rw [upd_upd, merge_sizes]
          have s1 := Rd.sNew (o := .dK sizes0) hpD
          have d1 : upd H pD (.dK sizes0) pD = some (.dK sizes0) := upd_same
          have hs1 := sqT_same s1 hs
          generalize upd H pD (.dK sizes0) = H1 at s1 d1 hs1 ⊢
          repeat walk_at "rd"
          refine Rd.lenT hs1 ?_
          repeat walk_at "rd"
          refine ⟨Rd.sz (by simp), fun tp htp => ?_⟩
          have s2 := Rd.sNew (o := .tup [.int 4, .int (((V.str z :: xs).length : Nat) : Int)]) htp
          have d2 := s2 _ _ d1
          refine gtupR (.inl (.inl upd_same)) rfl ?_
          generalize upd H1 tp (.tup [.int 4, .int (((V.str z :: xs).length : Nat) : Int)]) = H2 at s2 d2 ⊢
          have s02 := s1.trans s2
          repeat walk_at "rd"
          refine ⟨pD, _, rfl, DPut.k (k := .inr "if") d2 (by show 7 < sizeLine; decide), ?_⟩
          repeat walk_at "rd"
          refine ⟨pD, _, rfl, DPut.k (k := .inr "ask") upd_same (by show 8 < sizeLine; decide), ?_⟩
          rw [upd_upd, put_sizes]
          have s03 : Same H (upd H2 pD (.dK (sizesN (((V.str z :: xs).length : Nat) : Int)))) := Rd.sMut s02 hpD
          have d3 : upd H2 pD (.dK (sizesN (((V.str z :: xs).length : Nat) : Int))) pD = some (.dK (sizesN (((V.str z :: xs).length : Nat) : Int))) := upd_same
          have hs3 := sqT_same s03 hs
          have hax3 := dpa_mono s03 hax
          have q := q
          generalize upd H2 pD (.dK (sizesN (((V.str z :: xs).length : Nat) : Int))) = H3 at s03 d3 hs3 hax3 ⊢
          clear s1 s2 s02 d1 d2 hs1
          repeat walk_at "rd"
          refine ⟨pD, rfl, .inl ⟨_, .inl d3⟩, ?_⟩
          repeat walk_at "rd"
          refine Rd.ixT hs3 (Rd.atN (by decide) rfl) ?_
          repeat walk_at "rd"
          refine ⟨_, DGet.k (k := .inr z) d3, ?_⟩
          have vz := val_sizes zU (((V.str z :: xs).length : Nat) : Int)
          rw [show (-(1 : Int)) = -1 from rfl] at *
          rw [vz]
          repeat walk_at "rd"
          refine Rd.lenT hs3 ?_
          refine Rd.neD (d := .int _) (e := .int _) (.int _) (.int _) (int_sh _) (int_sh _) ?_
          rw [eqv_int]
          refine ⟨_, rfl, ?_⟩
          have nl : (((V.str z :: xs).length : Nat) : Int) = (ds.length : Int) + 1 := by rw [List.length_cons, lenx]; omega
          rw [nl]
          refine Rd.ndec (fun c => ?_) (fun good => ?_)
          · repeat walk_at "rd"
            have := q _ s03
            rw [size_bad c] at this
            exact this
          have gd := size_good good
          have zs := str_sh zU
          repeat walk_at "rd"
          refine Rd.ixT hs3 (Rd.atN (by decide) rfl) ?_
          repeat walk_at "rd"
          refine Rd.eqD (d := .str z) (e := .str "count") (.str _) (.str _) zs (by decide +kernel) ?_
          rw [eqv_str]
          refine ⟨_, rfl, ?_⟩
          refine Rd.dec (fun ec => ?_) (fun nc => ?_)
          · subst ec
            have l1 : ds.length = 1 := by
              rcases gd with ⟨h, _⟩ | ⟨_, h⟩ | ⟨h, _⟩ | ⟨h, _⟩ | h
              · exact absurd h (by decide +kernel)
              · exact h
              · exact absurd h (by decide +kernel)
              · exact absurd h (by decide +kernel)
              · exact absurd h (by decide +kernel)
            obtain ⟨c, rfl⟩ := List.length_eq_one_iff.mp l1
            obtain ⟨y, l2, rfl, hy, hn⟩ := dpC hax3
            obtain rfl := dpN hn
            have uc := dsU c List.mem_cons_self
            rw [wordD_count] at q
            rw [← cnt_shown uc.ok] at q
            obtain ⟨tn, kd⟩ := dp_kd hy
            repeat walk_at "rd"
            refine Rd.ixT hs3 (Rd.atN (by decide) rfl) ?_
            repeat walk_at "rd"
            refine uc.repr hy ?_
            repeat walk_at "rd"
            refine ⟨Rd.sz (by simp), fun l hl => ?_⟩
            have s4 := Rd.sNew (o := .lst [.str "0", .str "1", .str "2", .str "3", .str "4"]) hl
            refine Rd.inL (xs := (["0", "1", "2", "3", "4"] : List Str).map V.str) (SqL.of upd_same) rfl rfl ?_
            rw [if_neg Bool.false_ne_true, inV_str]
            have kd4 := kd.mono s4
            have hs4 := sqT_same s4 hs3
            generalize upd H3 l (.lst [.str "0", .str "1", .str "2", .str "3", .str "4"]) = H4 at s4 kd4 hs4 ⊢
            refine ⟨_, rfl, ?_⟩
            refine Rd.bool (fun c1 => ?_) (fun c1 => ?_)
            · rw [c1] at q
              repeat walk_at "rd"
              refine Rd.ixT hs4 (Rd.atN (by decide) rfl) ?_
              repeat walk_at "rd"
              refine isi kd4.ty kd4.s ?_
              rw [dp_strD hy]
              exact ⟨_, rfl, q _ (s03.trans s4)⟩
            · rw [c1] at q
              exact q _ (s03.trans s4)
          repeat walk_at "rd"
          refine Rd.ixT hs3 (Rd.atN (by decide) rfl) ?_
          repeat walk_at "rd"
          refine Rd.eqD (d := .str z) (e := .str "decline") (.str _) (.str _) zs (by decide +kernel) ?_
          rw [eqv_str]
          refine ⟨_, rfl, ?_⟩
          refine Rd.dec (fun ed => ?_) (fun nd => ?_)
          · subst ed
            have e0 : ds = [] := by
              rcases gd with ⟨_, h⟩ | ⟨h, _⟩ | ⟨h, _⟩ | ⟨h, _⟩ | h
              · exact h
              · exact absurd h (by decide +kernel)
              · exact absurd h (by decide +kernel)
              · exact absurd h (by decide +kernel)
              · exact absurd h (by decide +kernel)
            rw [e0, wordD_decline, dec4 m hm] at q
            repeat walk_at "rd"
            refine Rd.bool (fun c1 => ?_) (fun c1 => ?_)
            · rw [c1, Bool.true_and] at q
              repeat walk_at "rd"
              refine ⟨Rd.sz (by simp), fun l hl => ?_⟩
              refine Rd.inL (xs := (["like", "unlike", "before", "behind"] : List Str).map V.str) (SqL.of upd_same) rfl rfl ?_
              rw [if_neg Bool.false_ne_true, inV_str]
              exact q _ (s03.trans (Rd.sNew hl))
            · rw [c1, Bool.false_and] at q
              exact q _ s03
          repeat walk_at "rd"
          refine Rd.ixT hs3 (Rd.atN (by decide) rfl) ?_
          repeat walk_at "rd"
          refine Rd.eqD (d := .str z) (e := .str "further") (.str _) (.str _) zs (by decide +kernel) ?_
          rw [eqv_str]
          refine ⟨_, rfl, ?_⟩
          refine Rd.dec (fun ef => ?_) (fun nf => ?_)
          · subst ef
            have e0 : ds = [] := by
              rcases gd with ⟨_, h⟩ | ⟨h, _⟩ | ⟨h, _⟩ | ⟨h, _⟩ | h
              · exact h
              · exact absurd h (by decide +kernel)
              · exact absurd h (by decide +kernel)
              · exact absurd h (by decide +kernel)
              · exact absurd h (by decide +kernel)
            rw [e0, wordD_further] at q
            repeat walk_at "rd"
            exact q _ s03
          repeat walk_at "rd"
          refine Rd.ixT hs3 (Rd.atN (by decide) rfl) ?_
          repeat walk_at "rd"
          refine Rd.neD (d := .str z) (e := .str "ask") (.str _) (.str _) zs (by decide +kernel) ?_
          rw [eqv_str]
          refine ⟨_, rfl, ?_⟩
          refine Rd.ndec (fun na => ?_) (fun ea => ?_)
          · have et : wordD m z ds tail = true := by
              rcases gd with ⟨h, rfl⟩ | ⟨h, _⟩ | ⟨h, h2⟩ | ⟨h, h2⟩ | h
              · obtain ⟨a, b, c, d⟩ := ones_n h
                rw [wordD, if_neg a, if_neg b, if_neg c, if_neg d, aloneD, if_neg nf, if_neg nd, decide_eq_true (show z ∈ answerW by
                  simp only [List.mem_cons, List.not_mem_nil, or_false] at h
                  simp only [answerW, List.mem_cons, List.not_mem_nil, or_false]
                  rcases h with h | h | h | h | h
                  · exact .inl h
                  · exact .inr (.inl h)
                  · exact .inr (.inr h)
                  · exact absurd h nd
                  · exact absurd h nf)]
                rfl
              · exact absurd h nc
              · rw [wordD, if_pos h, h2]; rfl
              · rw [wordD, if_neg (by rw [h]; decide +kernel), if_pos h, h2]; rfl
              · exact absurd h na
            rw [et] at q
            repeat walk_at "rd"
            exact q _ s03
          subst ea
          rw [wordD_ask] at q
          clear good gd nc nd nf vz
          repeat walk_at "rd"
          refine Rd.lenT hs3 ?_
          repeat walk_at "rd"
          rw [nl]
          cases ds with
          | nil =>
            refine Rd.dec (fun _ => ?_) (fun c => absurd (by decide) c)
            repeat walk_at "rd"
            exact q _ s03
          | cons dO rs =>
            obtain ⟨o, ys, rfl, ho, hr⟩ := dpC hax3
            refine Rd.dec (fun c => by rw [List.length_cons] at c; omega) (fun _ => ?_)
            have uO := dsU dO List.mem_cons_self
            have uR : ∀ x ∈ rs, Uni x := fun x hx => dsU x (List.mem_cons_of_mem _ hx)
            obtain ⟨tno, kdo⟩ := dp_kd ho
            repeat walk_at "rd"
            refine Rd.ixT hs3 (Rd.atN (by decide) rfl) ?_
            repeat walk_at "rd"
            refine isi kdo.ty kdo.s ?_
            rw [dp_strD ho]
            refine ⟨_, rfl, ?_⟩
            by_cases hO : ∃ oz, dO = .str oz
            · obtain ⟨oz, rfl⟩ := hO
              obtain rfl := dpS ho
              refine Rd.ff_ ?_
              have ozs := str_sh (z := oz) (by simpa [okU] using uO.ok)
              repeat walk_at "rd"
              refine Rd.lcW ?_
              repeat walk_at "rd"
              refine cutG hs3 fun u H4 s4 hu => ?_
              rw [cut_two] at hu
              have s04 := s03.trans s4
              have hr4 := dpa_mono s4 hr
              have lr := dpa_len hr
              refine Rd.lcT (K := K) (a := u) (xs := ys) (bs := rs) (fun d x H => Dp K H x d) (fun d y H => Dp K H y d) (fun d => !roleD m d) (fun d => d) (fun R k => k) hu (fun _ _ _ _ s h => dp_mono s h) (fun _ _ _ _ s h => dp_mono s h) (data_prd hr4) (by rw [lr]; rw [List.length_cons] at dl; omega) (fun _ => rfl) ?_ ?_ ?_
              · intro b x H5 R hb _ db s5 k
                repeat walk_at "rd"
                refine ⟨m, x, b, rfl, hm, db, (uR b hb).ok, fun H' s' => ?_⟩
                repeat walk_at "rd"
                exact k _ s'
              · intro b x H5 R hb _ d4 _ s5 k
                repeat walk_at "rd"
                exact k _ _ (Same.refl _) (Rd.off_old (fun _ _ _ s h => dp_mono s h) s5 d4)
              · intro Dl zs H5 hDl s5 hd5 pr
                rw [List.map_id'] at pr
                have dz := filt_dpa (f := fun d => !roleD m d) (by rw [List.map_id']; exact pr)
                have s05 := s04.trans s5
                have uF : ∀ x ∈ rs.filter fun d => !roleD m d, Uni x := fun x hx => uR x (List.mem_filter.mp hx).1
                repeat walk_at "rd"
                refine ⟨Rd.sz (by simp), fun l hl => ?_⟩
                have s6 := Rd.sNew (o := .lst []) hl
                refine Rd.neD (d := .list (rs.filter fun d => !roleD m d)) (e := .list []) (.lst (SqL.of (s6 _ _ hd5)) (dpa_mono s6 dz)) (.lst (SqL.of upd_same) .nil) (list_sh uF) (by decide +kernel) ?_
                rw [eqv_nil, filt_empty]
                have s06 := s05.trans s6
                have hs6 := sqT_same ((s4.trans s5).trans s6) hs3
                have hr6 := dpa_mono ((s4.trans s5).trans s6) hr
                generalize upd H5 l (.lst []) = H6 at s06 hs6 hr6 ⊢
                refine ⟨_, rfl, ?_⟩
                refine Rd.bool (fun c => ?_) (fun c => ?_)
                · have c : rs.all (roleD m) = false := by simpa using c
                  have e : askD m (.str oz :: rs) = false := by
                    match rs, c with
                    | [], _ => rfl
                    | [r], c => show (inD askOne (.str oz) && roleD m r) = false; simp at c; simp [c]
                    | [r, z], c =>
                      show (inD askTwo (.str oz) && roleD m r && roleD m z && !(PyData.eqv r z)) = false
                      have c : (roleD m r && roleD m z) = false := by simpa using c
                      rw [Bool.and_assoc (inD askTwo (.str oz)), c]
                      simp
                    | _ :: _ :: _ :: _, _ => rfl
                  rw [e] at q
                  repeat walk_at "rd"
                  exact q _ s06
                · have c : rs.all (roleD m) = true := by simpa using c
                  repeat walk_at "rd"
                  refine Rd.ixT hs6 (Rd.atN (by decide) rfl) ?_
                  repeat walk_at "rd"
                  refine ⟨Rd.sz (by simp), fun l hl => ?_⟩
                  have s7 := Rd.sNew (o := .lst [.str "truth", .str "size", .str "hash"]) hl
                  refine Rd.inL (xs := askOne.map V.str) (SqL.of upd_same) rfl (flat_strs _) ?_
                  rw [if_neg Bool.false_ne_true, inV_str]
                  have hs7 := sqT_same s7 hs6
                  have s07 := s06.trans s7
                  have hr7 := dpa_mono s7 hr6
                  generalize upd H6 l (.lst [.str "truth", .str "size", .str "hash"]) = H7 at s7 hs7 s07 hr7 ⊢
                  have ln7 : (((V.str "ask" :: V.str oz :: ys).length : Nat) : Int) = (rs.length : Int) + 2 := by rw [List.length_cons, List.length_cons, lr]; omega
                  refine ⟨_, rfl, ?_⟩
                  refine Rd.dec (fun h1 => ?_) (fun h1 => ?_)
                  · have e : askD m (.str oz :: rs) = decide ((rs.length : Int) + 2 = 3) := by
                      cases rs with
                      | nil => rfl
                      | cons r l =>
                        cases l with
                        | nil =>
                          show (decide (oz ∈ askOne) && roleD m r) = true
                          rw [decide_eq_true h1, Bool.true_and]
                          simpa using c
                        | cons r2 l =>
                          have n2 : oz ∉ askTwo := (show ∀ z ∈ askOne, z ∉ askTwo by decide +kernel) oz h1
                          rw [decide_eq_false (by rw [List.length_cons, List.length_cons]; omega)]
                          cases l with
                          | nil =>
                            show (decide (oz ∈ askTwo) && roleD m r && roleD m r2 && !(PyData.eqv r r2)) = false
                            rw [decide_eq_false n2]
                            rfl
                          | cons _ _ => rfl
                    rw [e] at q
                    repeat walk_at "rd"
                    refine Rd.lenT hs7 ?_
                    rw [ln7]
                    repeat walk_at "rd"
                    have ee : decide (V.int ((rs.length : Int) + 2) = V.int 3) = decide ((rs.length : Int) + 2 = 3) := by
                      rw [decide_eq_decide]
                      exact ⟨fun z => V.int.inj z, fun z => by rw [z]⟩
                    rw [ee]
                    exact q _ s07
                  · repeat walk_at "rd"
                    refine Rd.ixT hs7 (Rd.atN (by decide) rfl) ?_
                    repeat walk_at "rd"
                    refine ⟨Rd.sz (by simp), fun l8 hl8 => ?_⟩
                    have s8 := Rd.sNew (o := .lst [.str "member", .str "like", .str "unlike", .str "before", .str "behind"]) hl8
                    refine Rd.inL (xs := askTwo.map V.str) (SqL.of upd_same) rfl (flat_strs _) ?_
                    rw [if_pos rfl, inV_str]
                    have hs8 := sqT_same s8 hs7
                    have s08 := s07.trans s8
                    have hr8 := dpa_mono s8 hr7
                    generalize upd H7 l8 (.lst [.str "member", .str "like", .str "unlike", .str "before", .str "behind"]) = H8 at s8 hs8 s08 hr8 ⊢
                    refine ⟨_, rfl, ?_⟩
                    refine Rd.ndec (fun h2 => ?_) (fun h2 => ?_)
                    · have e : askD m (.str oz :: rs) = false := by
                        cases rs with
                        | nil => rfl
                        | cons r l =>
                          cases l with
                          | nil =>
                            show (decide (oz ∈ askOne) && roleD m r) = false
                            rw [decide_eq_false h1]; rfl
                          | cons r2 l =>
                            cases l with
                            | nil =>
                              show (decide (oz ∈ askTwo) && roleD m r && roleD m r2 && !(PyData.eqv r r2)) = false
                              rw [decide_eq_false h2]; rfl
                            | cons _ _ => rfl
                      rw [e] at q
                      repeat walk_at "rd"
                      exact q _ s08
                    · repeat walk_at "rd"
                      refine Rd.lenT hs8 ?_
                      rw [ln7]
                      repeat walk_at "rd"
                      refine Rd.dec (fun c4 => ?_) (fun c4 => ?_)
                      · have l2 : rs.length = 2 := by have := V.int.inj c4; omega
                        obtain ⟨r1, r2, rfl⟩ : ∃ r1 r2, rs = [r1, r2] := by
                          cases rs with
                          | nil => cases l2
                          | cons a l =>
                            cases l with
                            | nil => cases l2
                            | cons b l =>
                              cases l with
                              | nil => exact ⟨a, b, rfl⟩
                              | cons _ _ => simp at l2
                        obtain ⟨y1, l1, rfl, hy1, hz⟩ := dpC hr8
                        obtain ⟨y2, l3, rfl, hy2, hz2⟩ := dpC hz
                        obtain rfl := dpN hz2
                        have cc : roleD m r1 = true ∧ roleD m r2 = true := by simpa using c
                        have e : askD m [.str oz, r1, r2] = !(PyData.eqv r1 r2) := by
                          show (decide (oz ∈ askTwo) && roleD m r1 && roleD m r2 && !(PyData.eqv r1 r2)) = _
                          rw [decide_eq_true h2, cc.1, cc.2]; rfl
                        rw [e] at q
                        repeat walk_at "rd"
                        refine Rd.ixT hs8 (Rd.atN (by decide) rfl) ?_
                        repeat walk_at "rd"
                        refine Rd.ixT hs8 (Rd.atN (by decide) rfl) ?_
                        exact Rd.neD hy1 hy2 (uR _ List.mem_cons_self).shaped (uR _ (List.mem_cons_of_mem _ List.mem_cons_self)).shaped (q _ s08)
                      · have l2 : rs.length ≠ 2 := fun z => c4 (by rw [z]; rfl)
                        have e : askD m (.str oz :: rs) = false := by
                          cases rs with
                          | nil => rfl
                          | cons r l =>
                            cases l with
                            | nil =>
                              show (decide (oz ∈ askOne) && roleD m r) = false
                              rw [decide_eq_false h1]; rfl
                            | cons r2 l =>
                              cases l with
                              | nil => exact absurd rfl l2
                              | cons _ _ => rfl
                        rw [e] at q
                        exact q _ s08
            · have e1 : strD dO = false := by
                cases dO with
                | str z => exact absurd ⟨z, rfl⟩ hO
                | _ => rfl
              rw [e1]
              refine Rd.tt_ ?_
              have e : askD m (dO :: rs) = false := by
                have i1 : ∀ ws, inD ws dO = false := fun ws => by
                  cases dO with
                  | str z => exact absurd ⟨z, rfl⟩ hO
                  | _ => rfl
                match rs with
                | [] => rfl
                | [r] => show (inD askOne dO && roleD m r) = false; rw [i1]; rfl
                | [r, z] => show (inD askTwo dO && roleD m r && roleD m z && !(PyData.eqv r z)) = false; rw [i1]; rfl
                | _ :: _ :: _ :: _ => rfl
              rw [e] at q
              repeat walk_at "rd"
              exact q _ s03
        · have e1 : strD d0 = false := by
            cases d0 with
            | str z => exact absurd ⟨z, rfl⟩ hw
            | _ => rfl
          have e2 : nodeD m tail (.tuple (d0 :: ds)) = false := by
            cases d0 with
            | str z => exact absurd ⟨z, rfl⟩ hw
            | _ => rfl
          rw [e1]
          refine ⟨_, rfl, ?_⟩
          refine Rd.tt_ ?_
          repeat walk_at "rd"
          exact bad e2
end
end Ab
namespace Ab
open PySem.Spec PyProof.Rows
local macro_rules | `(tactic| walk_at "rd") => `(tactic| (with_reducible first | refine Rd.tt_ ?_ | refine Rd.ff_ ?_))
theorem keep_set {s : Addr} {H H' : Hp} {o : HO} (k : Keep s H H') : Keep s H (upd H' s o) := k.put
theorem same_set {H0 H : Hp} {s : Addr} {o : HO} (h : Same H0 H) (n : H0 s = none) : Same H0 (upd H s o) := Rd.sMut h n
theorem tails_at {z : Str} {t b : Bool} {i : Nat} (h : (tailsW z t)[i]? = some b) : b = (t && decide ((i : Int) > 0)) := by
  unfold tailsW at h
  split at h
  · match i, h with
    | 0, h => cases h; simp
    | 1, h => cases h; simp
    | 2, h => cases h; simp
    | _ + 3, h => simp at h
  · split at h
    · match i, h with
      | 0, h => cases h; simp
      | _ + 1, h => simp at h
    · simp at h
theorem forE {K : PySem.W.Frag} {ta : TA} {g : TG} {tb : TS} {D : Ends} {σ : L2.St} {H : Hp} (k : ta σ H fun vs H1 => ∃ a xs, vs = [V.ref a] ∧ SqT K H1 a xs ∧ Rd.ForGo (Er.IteT K a) g tb D σ H1) : tFor (Er.iEnumT K ta) g tb D σ H := k
theorem andB {b e : Bool} {tb : TE} {σ : L2.St} {H : Hp} {Q : VK} (ht : ∀ R : VK, R (.bl e) H → tb σ H R) (k : Q (.bl (b && e)) H) : if b = true then tb σ H Q else Q (.bl false) H := by
  cases b with
  | true => exact ht _ k
  | false => exact k
theorem notIn_partW (z : Str) : inV (.str z) [.str "not", .str "if"] = decide (z ∈ partW) := by
  rw [show [V.str "not", V.str "if"] = partW.map V.str from rfl, inV_str]
section
variable {P : Program} {w : World} {K : PySem.W.Frag} {mg : Str → Option Value} {base : Heap}
abbrev sL_wrong : Stmt := top 46
abbrev nL_wrong : List Str := ["_law_method", "_law_part_here", "_law_deep", "_law_at_tail", "_law_seen", "_law_number", "_law_at", "_law_inner", "_law_found"]
theorem scL_wrong : FnScope nL_wrong ["_law_method", "_law_part_here", "_law_deep", "_law_at_tail", "_law_seen"] (defScope sL_wrong) := ⟨rfl, rfl, rfl, by decide +kernel, rfl, by decide +kernel, by decide +kernel⟩
def spLWr (K : PySem.W.Frag) (f : Nat) : Sp := fun vs H Q _ => ∃ (v : V) (m : Str) (d : PyData) (dp : Int) (tail : Bool) (s : Addr) (k : Nat) (c : Int) (H0 : Hp), vs = [.str m, v, .int dp, .bl tail, .ref s] ∧ dp = 7 - (f : Int) ∧ m ∈ bodyM ∧ k ≤ 16 ∧ c = 16 - (k : Int) ∧ H s = some (.lst [.int c]) ∧ H0 s = none ∧ Same H0 H ∧ Dp K H0 v d ∧ Uni d ∧
  ∀ H' (c' : Int), Same H0 H' → Keep s H H' → c' = 16 - ((wrF m f d tail k).2 : Int) → (wrF m f d tail k).2 ≤ 16 → H' s = some (.lst [.int c']) → Q (numV (wrF m f d tail k).1) H'
set_option pp.maxSteps 3000 in
theorem wrong_step (T : Txt K mg) (D : DefAt K mg "_law_wrong" sL_wrong ["_law_method", "_law_part_here", "_law_deep", "_law_at_tail", "_law_seen"]) (CL_is_node : CalG P w K mg base 2 "_law_is_node" (spLNode K))
    {j top : Nat} (ht6 : top ≤ 6) (hj : 2 ≤ j) {sp : Sp} (CL_wrong : CalG P w K mg base j "_law_wrong" sp) (hsp : ∀ i, i < top → ∀ vs H Q E, spLWr K i vs H Q E → sp vs H Q E) :
    CalG P w K mg base (j + 1) "_law_wrong" (fun vs H Q E => ∃ f, f ≤ top ∧ spLWr K f vs H Q E) := by
  refine D.by scL_wrong (fun vs H Q E h => ?_) (fun ff cd A hg outer s H vs Q E hr h => ?_)
  · obtain ⟨_, _, _, _, _, _, _, _, _, _, _, rfl, _⟩ := h
    rfl
  · obtain ⟨f, hf, v, m, d, dp, tail, sa, k, c, H0, rfl, edp, hm, k16, ec, hs, h0, s0, dd, un, q⟩ := h
    refine ⟨_, (pss_cons (ps_set (i := 5) scL_wrong.nd rfl (Or.inl rfl) (pe_ix (r := rIxL K) ix_list (pv 4) pe_int (fun _ _ => rfl)))
  (pss_cons (ps_if (PW.pt (pw_or (pt_cmpR op_eq (pv 5) pe_int (nomark _)) (pw_or (pt_cmpR op_gt (pv 2) pe_int (nomark _)) (pw_or1 (pt_not (pt_val (pe_cG CL_is_node hg hr (by omega) (pa_cons (pv 0) (pa_cons (pv 1) (pa_cons (pv 3) pa_nil))))))))))
  (pss_one (ps_ret (pv 5)))
  pss_nil)
  (pss_cons (ps_asg (pe_op op_add (pv 5) pe_int) (pg_sub (pv 4) pe_int set_list))
  (pss_cons (ps_if (pt_cmpR (r := rIn K true) op_notIn_seq (pe_ix (r := rIxT K) ix_tup (pv 1) pe_int (fun _ _ => rfl)) (pe_lst (pa_cons pe_str (pa_cons pe_str pa_nil))) (by rfl))
  (pss_one (ps_ret pe_non))
  pss_nil)
  (pss_cons (ps_for (wi := Er.iEnumT K _) PassesOwn.never rfl (Er.pi_enumT (by rfl) T.enumerate (pa_cons (pe_slice (r := rSlA K) sl_tupA (pv 1) (po_some pe_int) po_none) pa_nil)) (pg_tup (by rfl) (pgs_cons (pg_name (i := 6) scL_wrong.nd rfl (Or.inl rfl)) (pgs_cons (pg_name (i := 7) scL_wrong.nd rfl (Or.inl rfl)) pgs_nil)))
  (pss_cons (ps_set (i := 8) scL_wrong.nd rfl (Or.inl rfl) (pe_cG CL_wrong hg hr (by omega) (pa_cons (pv 0) (pa_cons (pv 7) (pa_cons (pe_op op_add (pv 2) pe_int) (pa_cons (pe_and (pv 3) (pe_one (pe_cmpR op_gt (pv 6) pe_int (nomark _)))) (pa_cons (pv 4) pa_nil)))))))
  (pss_one (ps_if (pt_cmpR op_notN (pv 8) pe_non (nomark _))
  (pss_one (ps_ret (pv 8)))
  pss_nil))))
  (pss_one (ps_ret pe_non))))))), ?_⟩
    repeat walk_at "rd"
    have stop : ∀ H', Same H0 H' → Same H H' → H' sa = some (.lst [.int c]) → (f = 0 ∨ k = 0 ∨ nodeD m tail d = false) → Q (.int c) H' := fun H' s' sh h' h => by
      have e : wrF m f d tail k = (some (16 - k), k) := by
        cases f with
        | zero => rfl
        | succ f => rw [wrF, if_pos (h.resolve_left (Nat.succ_ne_zero f))]
      rw [e] at q
      have := q H' c s' (Keep.same sh) ec k16 h'
      have e2 : numV (some (16 - k)) = .int c := by
        show V.int ((16 - k : Nat) : Int) = _
        rw [ec]
        congr 1
        omega
      rw [e2] at this
      exact this
    repeat walk_at "rd"
    refine Rd.dec (fun e => ?_) (fun nk => ?_)
    · have := V.int.inj e
      repeat walk_at "rd"
      exact stop _ s0 (Same.refl _) hs (.inr (.inl (by omega)))
    have kp : k ≠ 0 := fun e => nk (by rw [ec, e]; rfl)
    repeat walk_at "rd"
    refine Rd.dec (fun e => ?_) (fun nd => ?_)
    · repeat walk_at "rd"
      exact stop _ s0 (Same.refl _) hs (.inl (by omega))
    obtain ⟨f, rfl⟩ : ∃ g, f = g + 1 := ⟨f - 1, by omega⟩
    repeat walk_at "rd"
    refine ⟨v, m, d, tail, rfl, dp_mono s0 dd, un, hm, fun H1 s1 => ?_⟩
    have s01 := s0.trans s1
    have hs1 := s1 _ _ hs
    refine ⟨_, rfl, ?_⟩
    refine Rd.bool (fun e => ?_) (fun e => ?_)
    · have e : nodeD m tail d = false := by simpa using e
      repeat walk_at "rd"
      exact stop _ s01 s1 hs1 (.inr (.inr e))
    have nok : nodeD m tail d = true := by simpa using e
    clear stop
    rw [wrF, if_neg (fun z => z.elim kp (fun z => by rw [nok] at z; cases z))] at q
    obtain ⟨z, ds, rfl, hn1, hn3, kt, l3⟩ := node_ok nok
    obtain ⟨pn, xs, rfl, hs5, ha5⟩ := dpT dd
    obtain ⟨x5, xs, rfl, hx5, hb5⟩ := dpC ha5
    obtain rfl := dpS hx5
    have zU : z ∈ wordsU := of_decide_eq_true (un.mem List.mem_cons_self).ok
    have lenx := dpa_len hb5
    have q : ∀ H' (c' : Int), Same H0 H' → Keep sa H H' → c' = 16 - ((foldW (wrF m f) ((if z ∈ partW then ds else []).zip (tailsW z tail)) (k - 1)).2 : Int) → (foldW (wrF m f) ((if z ∈ partW then ds else []).zip (tailsW z tail)) (k - 1)).2 ≤ 16 → H' sa = some (.lst [.int c']) → Q (numV (foldW (wrF m f) ((if z ∈ partW then ds else []).zip (tailsW z tail)) (k - 1)).1) H' := q
    repeat walk_at "rd"
    have e2 : upd H1 sa (.lst ([V.int c].set (Int.toNat 0) (.int (c + 1)))) = upd H1 sa (.lst [.int (c + 1)]) := rfl
    rw [e2]
    have s02 : Same H0 (upd H1 sa (.lst [.int (c + 1)])) := Rd.sMut s01 h0
    have k02 : Keep sa H (upd H1 sa (.lst [.int (c + 1)])) := (Keep.same s1).put
    have hs2 : upd H1 sa (.lst [.int (c + 1)]) sa = some (.lst [.int (c + 1)]) := upd_same
    generalize upd H1 sa (.lst [.int (c + 1)]) = H2 at s02 k02 hs2 ⊢
    have ec2 : c + 1 = 16 - ((k - 1 : Nat) : Int) := by omega
    have hp2 := sqT_same s02 hs5
    refine Rd.ixT hp2 (Rd.atN (by decide) rfl) ?_
    repeat walk_at "rd"
    refine ⟨Rd.sz (by simp), fun l hl => ?_⟩
    have s3 := Rd.sNew (o := .lst [.str "not", .str "if"]) hl
    refine Rd.inL (xs := [.str "not", .str "if"]) (SqL.of upd_same) rfl rfl ?_
    rw [if_pos rfl, notIn_partW]
    have hs3 := s3 _ _ hs2
    have s03 := s02.trans s3
    generalize upd H2 l (.lst [.str "not", .str "if"]) = H3 at s3 hs3 s03 ⊢
    refine ⟨_, rfl, ?_⟩
    refine Rd.ndec (fun np => ?_) (fun ip => ?_)
    · rw [if_neg np, List.zip_nil_left] at q
      repeat walk_at "rd"
      exact q H3 (c + 1) s03 (k02.trans (Keep.same s3)) ec2 (by show k - 1 ≤ 16; omega) hs3
    rw [if_pos ip] at q kt l3
    repeat walk_at "rd"
    refine forE ?_
    repeat walk_at "rd"
    refine cutG (sqT_same s03 hs5) fun pa H4 s4 hpa => ?_
    rw [cut_tail] at hpa
    have s04 := s03.trans s4
    have hs4 := s4 _ _ hs3
    refine ⟨pa, xs, rfl, hpa, ?_⟩
    have lz : (ds.zip (tailsW z tail)).length = xs.length := by rw [List.length_zip, kt, lenx]; omega
    refine for_it (Er.walk_enumT (K := K) (a := pa) (xs := xs)) (fun i σ H' => ∃ (z6 z7 z8 : Option V) (ki : Nat) (ci : Int), σ = [some (.str m), some (.ref pn), some (.int dp), some (.bl tail), some (.ref sa), some (.int c), z6, z7, z8] ∧ Same H0 H' ∧ Keep sa H H' ∧ H' sa = some (.lst [.int ci]) ∧ ci = 16 - (ki : Int) ∧ ki ≤ 16 ∧ SqT K H' pa xs ∧ foldW (wrF m f) ((ds.zip (tailsW z tail)).drop i) ki = foldW (wrF m f) (ds.zip (tailsW z tail)) (k - 1))
      ⟨_, _, _, k - 1, c + 1, rfl, s04, (k02.trans (Keep.same s3)).trans (Keep.same s4), hs4, ec2, by omega, hpa, by rw [List.drop_zero]⟩ ?_ ?_ ?_
    · rintro i σ H' _ ⟨_, _, _, _, _, _, _, _, _, _, _, h, _⟩
      exact h
    · rintro i x σ H5 H6 hi ⟨z6, z7, z8, ki, ci, rfl, s05, k05, hs5', eci, ki16, hpa5, eq⟩ ⟨T5, y, rfl, hT, rfl, ey⟩
      have s6 := Rd.sNew (o := .tup [.int (i : Nat), y]) hT
      refine gtupR (.inl (.inl upd_same)) rfl ?_
      have s06 := s05.trans s6
      have hs6 := s6 _ _ hs5'
      have hpa6 := sqT_same s6 hpa5
      generalize upd H5 T5 (.tup [.int (i : Nat), y]) = H6 at s6 s06 hs6 hpa6 ⊢
      have id : i < ds.length := by omega
      have it : i < (tailsW z tail).length := by omega
      have dy : Dp K H0 y ds[i] := dpa_get hb5 ey (List.getElem?_eq_getElem id)
      have uy : Uni ds[i] := un.mem (List.mem_cons_of_mem _ (List.getElem_mem id))
      have tb := tails_at (List.getElem?_eq_getElem it)
      have dr : (ds.zip (tailsW z tail)).drop i = (ds[i], (tailsW z tail)[i]) :: (ds.zip (tailsW z tail)).drop (i + 1) := by
        rw [List.drop_eq_getElem_cons (by omega), List.getElem_zip]
      rw [dr, foldW, tb] at eq
      generalize ds[i] = di at dy uy eq
      repeat walk_at "rd"
      refine andB (e := decide ((i : Int) > 0)) (fun R kk => ?_) ?_
      · repeat walk_at "rd"
        exact kk
      repeat walk_at "rd"
      refine hsp f (by omega) _ _ _ _ ⟨y, m, di, dp + 1, (tail && decide ((i : Int) > 0)), sa, ki, ci, H0, rfl, by omega, hm, ki16, eci, hs6, h0, s06, dy, uy, fun H7 c7 s07 k7 e7 l7 hs7 => ?_⟩
      have hpa7 := sqT_keep k7 (nt_lst hs6) hpa6
      have k07 := (k05.trans (Keep.same s6)).trans k7
      cases e : wrF m f di (tail && decide ((i : Int) > 0)) ki with
      | mk r k2 =>
        rw [e] at eq e7 l7
        cases r with
        | none =>
          show gName 8 .non _ H7 _
          repeat walk_at "rd"
          exact ⟨_, _, _, k2, c7, rfl, s07, k07, hs7, e7, l7, hpa7, eq⟩
        | some n =>
          have eq : (some n, k2) = foldW (wrF m f) (ds.zip (tailsW z tail)) (k - 1) := eq
          rw [← eq] at q
          show gName 8 (.int (n : Int)) _ H7 _
          repeat walk_at "rd"
          refine Rd.ndec (fun _ => ?_) (fun z => nomatch z)
          repeat walk_at "rd"
          exact q H7 c7 s07 k07 e7 l7 hs7
    · rintro σ H5 ⟨z6, z7, z8, ki, ci, rfl, s05, k05, hs5', eci, ki16, hpa5, eq⟩
      rw [← lz, List.drop_length] at eq
      have eq : foldW (wrF m f) (ds.zip (tailsW z tail)) (k - 1) = (none, ki) := eq.symm
      rw [eq] at q
      repeat walk_at "rd"
      exact q H5 ci s05 k05 eci ki16 hs5'
def spLWrA (K : PySem.W.Frag) (n : Nat) : Sp := fun vs H Q E => ∃ f, f ≤ n ∧ spLWr K f vs H Q E
theorem ok_lwrong (T : Txt K mg) (D : DefAt K mg "_law_wrong" sL_wrong ["_law_method", "_law_part_here", "_law_deep", "_law_at_tail", "_law_seen"]) (CL_is_node : CalG P w K mg base 2 "_law_is_node" (spLNode K)) :
    ∀ n, n ≤ 6 → CalG P w K mg base (n + 3) "_law_wrong" (spLWrA K n)
  | 0, h => wrong_step T D CL_is_node h (Nat.le_refl 2) (sp := fun _ _ _ _ => False) (by
      obtain ⟨f, fd, h1, h2, h3⟩ := D
      exact ⟨f, fd, _, ⟨fun _ _ _ _ h => h.elim, fun _ _ _ _ _ _ _ _ _ _ _ _ _ _ h => h.elim⟩, h1, h2.kp, h3⟩) fun i h => absurd h (Nat.not_lt_zero i)
  | n + 1, h => wrong_step T D CL_is_node h (by omega) (ok_lwrong T D CL_is_node n (by omega)) fun i h vs H Q E q => ⟨i, Nat.lt_succ_iff.mp h, q⟩
end
end Ab
namespace Rd
open PySem.Spec PyProof.Rows
theorem makeSR {C : Addr} {sp : Sp} {E : L2.St → XK} {t : TA} {σ : L2.St} {H : Hp} {Q : VK} (k : t σ H fun vs H1 => ∀ x dx, H1 x = none → H1 dx = none → dx ≠ x → sp (.ref x :: vs) (upd (upd H1 dx (.own x)) x (.ins C dx [])) (fun v H2 => v = .non ∧ Q (.ref x) H2) (E σ)) : Mt.tMakeS C sp E t σ H Q := k
theorem xf {a C : Addr} {cls : Value} {d : Option Addr} {f : Str} {te : TE} {σ : L2.St} {H : Hp} {Q : VK} (k : te σ H fun x H1 => x = .ref a ∧ cls = .ref C ∧ ∃ (dd : Addr) (fs : List (Str × V)) (v : V), d = some dd ∧ H1 dd = some (.xd fs) ∧ fs.lookup f = some v ∧ Q v H1) : tXf a cls d C f te σ H Q := k
end Rd
namespace Ab
open PySem.Spec PyProof.Rows
local macro_rules | `(tactic| walk_at "rd") => `(tactic| (with_reducible first | refine Rd.tt_ ?_ | refine Rd.ff_ ?_ | refine Rd.makeSR ?_ | refine Rd.xf ?_))
/-- what the two sides tell -/
def dueD (m : Str) (d : PyData) : PyData := match goW m 16 [(d, 1, true)] with
  | none => .list [.str "told", .str (PyData.str m).shown, .str d.shown]
  | some n => .list [.str "body", .int (n : Int), .bool true]
def nameD (t : Str) : PyData := .list [.str "name", .str t, .bool true]
/-- a thing that has a text -/
structure Tx (d : PyData) : Prop where
  c : d.showable = true
  e : d.hasDict = false
  dp : d.depth ≤ 60
  n : d.shown.length ≤ sizeLine
theorem Tx.repr {K : PySem.W.Frag} {H : Hp} {v : V} {d : PyData} {Q : VK} (h : Tx d) (dp : Dp K H v d) (k : Q (.str d.shown) H) : rReprX K [v] H Q := .inl (Rd.repr_ dp h.c h.e h.dp h.n k)
theorem Uni.tx {d : PyData} (h : Uni d) : Tx d := by
  obtain ⟨_, _, c, e⟩ := okU_all d h.ok
  exact ⟨c, e, by have := h.dp; omega, h.fits⟩
theorem bodyM_tx : ∀ m ∈ bodyM, (PyData.str m).shown.length ≤ 100 := by decide +kernel
theorem meth_tx {m : Str} (h : m ∈ bodyM) : Tx (.str m) := ⟨by simp [PyData.showable], by simp [PyData.hasDict], by simp [PyData.depth], Nat.le_trans (bodyM_tx m h) (by decide)⟩
structure Errs (K : PySem.W.Frag) (CA CN CB : Addr) : Prop where
  aN : PySem.W.kitOne K (.ref CN) (.ref CA) = some true
  aB : PySem.W.kitOne K (.ref CB) (.ref CA) = some true
  nB : PySem.W.exmOne K (.ref CB) (.ref CN) = some false
section
variable {P : Program} {w : World} {K : PySem.W.Frag} {mg : Str → Option Value} {base : Heap}
abbrev sL_due : Stmt := top 48
abbrev nL_due : List Str := ["_law_method", "_law_part_here", "_law_found"]
theorem scL_due : FnScope nL_due ["_law_method", "_law_part_here"] (defScope sL_due) := ⟨rfl, rfl, rfl, by decide +kernel, rfl, by decide +kernel, by decide +kernel⟩
def spDue (K : PySem.W.Frag) : Sp := fun vs H Q _ => ∃ (m : Str) (v : V) (d : PyData), vs = [.str m, v] ∧ m ∈ bodyM ∧ Dp K H v d ∧ Uni d ∧ ∀ y H', Same H H' → Dp K H' y (dueD m d) → Q y H'
theorem ok_due (T : Txt K mg) (D : DefAt K mg "_law_due" sL_due ["_law_method", "_law_part_here"]) (CL_wrong : CalG P w K mg base 9 "_law_wrong" (spLWrA K 6)) : CalG P w K mg base 10 "_law_due" (spDue K) := by
  refine D.by scL_due (fun vs H Q E h => ?_) (fun f cd A hg outer s H vs Q E hr h => ?_)
  · obtain ⟨_, _, _, rfl, _⟩ := h
    rfl
  · obtain ⟨m, v, d, rfl, hm, dp, un, q⟩ := h
    refine ⟨_, (pss_cons (ps_set (i := 2) scL_due.nd rfl (Or.inl rfl) (pe_cG CL_wrong hg hr (by decide) (pa_cons (pv 0) (pa_cons (pv 1) (pa_cons pe_int (pa_cons pe_bl (pa_cons (pe_lst (pa_cons pe_int pa_nil)) pa_nil)))))))
  (pss_one (ps_ret (pe_ifExp (pt_cmpR op_isN (pv 2) pe_non (nomark _)) (pe_lst (pa_cons pe_str (pa_cons (pe_callB (r := rReprX K) (call_reprX hg hr.units) (by rfl) T.repr (by decide +kernel) (pa_cons (pv 0) pa_nil)) (pa_cons (pe_callB (r := rReprX K) (call_reprX hg hr.units) (by rfl) T.repr (by decide +kernel) (pa_cons (pv 1) pa_nil)) pa_nil)))) (pe_lst (pa_cons pe_str (pa_cons (pv 2) (pa_cons pe_bl pa_nil)))))))), ?_⟩
    repeat walk_at "rd"
    refine ⟨Rd.sz (by simp), fun l hl => ?_⟩
    have s1 := Rd.sNew (o := .lst [.int 0]) hl
    have e1 : upd H l (.lst [.int 0]) l = some (.lst [.int 0]) := upd_same
    generalize upd H l (.lst [.int 0]) = H1 at s1 e1 ⊢
    repeat walk_at "rd"
    refine ⟨6, Nat.le_refl _, v, m, d, 1, true, l, 16, 0, H, rfl, rfl, hm, Nat.le_refl _, rfl, e1, hl, s1, dp, un, fun H2 c s2 k2 _ _ _ => ?_⟩
    have eg := goW_top m d
    rw [← eg]
    cases e : goW m 16 [(d, 1, true)] with
    | none =>
      have q : ∀ y H', Same H H' → Dp K H' y (.list [.str "told", .str (PyData.str m).shown, .str d.shown]) → Q y H' := by rw [dueD, e] at q; exact q
      show gName 2 .non _ H2 _
      repeat walk_at "rd"
      refine Rd.dec (fun _ => ?_) (fun z => absurd rfl z)
      repeat walk_at "rd"
      refine (meth_tx hm).repr (.str m) ?_
      repeat walk_at "rd"
      refine un.repr (dp_mono s2 dp) ?_
      repeat walk_at "rd"
      refine ⟨Rd.sz (by simp), fun l3 hl3 => ?_⟩
      exact q _ _ (s2.trans (Rd.sNew hl3)) (.lst (SqL.of upd_same) (.cons (.str _) (.cons (.str _) (.cons (.str _) .nil))))
    | some n =>
      have q : ∀ y H', Same H H' → Dp K H' y (.list [.str "body", .int (n : Int), .bool true]) → Q y H' := by rw [dueD, e] at q; exact q
      show gName 2 (.int (n : Int)) _ H2 _
      repeat walk_at "rd"
      refine Rd.dec (fun z => nomatch z) (fun _ => ?_)
      repeat walk_at "rd"
      refine ⟨Rd.sz (by simp), fun l3 hl3 => ?_⟩
      exact q _ _ (s2.trans (Rd.sNew hl3)) (.lst (SqL.of upd_same) (.cons (.str _) (.cons (.int _) (.cons (.bl _) .nil))))
abbrev sL_heard : Stmt := top 47
abbrev nL_heard : List Str := ["_law_method", "_law_part_here", "_law_body", "e"]
theorem scL_heard : FnScope nL_heard ["_law_method", "_law_part_here"] (defScope sL_heard) := ⟨rfl, rfl, rfl, by decide +kernel, rfl, by decide +kernel, by decide +kernel⟩
def spHeard (K : PySem.W.Frag) : Sp := fun vs H Q _ => ∃ (x v : V) (tn : String) (dx d : PyData), vs = [x, v] ∧ Kd K H x tn ∧ Dp K H x dx ∧ Tx dx ∧ Dp K H v d ∧ Uni d ∧
  (isIn x bodyM = false → ∀ y H', Same H H' → Dp K H' y (nameD dx.shown) → Q y H') ∧ (∀ m, x = .str m → m ∈ bodyM → ∀ y H', Same H H' → Dp K H' y (dueD m d) → Q y H')
set_option pp.maxSteps 3000 in
theorem ok_heard (T : Txt K mg) {C_Body C_AnswerError C_NoName C_NoBody : Addr} (K_Body : BdF K mg C_Body) (R : Errs K C_AnswerError C_NoName C_NoBody) (T_NoName : Ex.ErrC K mg "NoName" "value" C_NoName) (T_NoBody : Ex.ErrC K mg "NoBody" "place" C_NoBody) (G_AnswerError : mg "AnswerError" = some (.ref C_AnswerError))
    (I_Body : Ob.MkCal P w K mg base (L2.CX P w) C_Body 9 "Body" (spBInit K C_Body C_NoName C_NoBody)) (D : DefAt K mg "_law_heard" sL_heard ["_law_method", "_law_part_here"]) : CalG P w K mg base 11 "_law_heard" (spHeard K) := by
  refine D.by scL_heard (fun vs H Q E h => ?_) (fun f cd A hg outer s H vs Q E hr h => ?_)
  · obtain ⟨_, _, _, _, _, rfl, _⟩ := h
    rfl
  · obtain ⟨x, v, tn, dx, d, rfl, kd, dpx, tx, dp, un, q1, q2⟩ := h
    refine ⟨_, (pss_cons (Et.ps_tryN (i := 3) (out := fun _ _ _ _ => False) rfl rfl scL_heard.nd rfl rfl takes0
  (fun W pn xe tk _ => (pss_one (ps_set (i := 2) scL_heard.nd rfl (Or.inl rfl) (Mt.makeS tk I_Body hg hr (by decide) (pa_cons (pv 0) (pa_cons (pv 1) pa_nil))))))
  (Et.Clauses.cons ⟨rfl, by decide, Or.inl T_NoName.g⟩ (fun a oe cls d pn hz hf => (pss_one (ps_ret (pe_lst (pa_cons pe_str (pa_cons (pe_callB (r := rReprX K) (call_reprX hg hr.units) (by rfl) T.repr (by decide +kernel) (pa_cons (pe_xf T_NoName.xf T_NoName.no hz hf (pv 3)) pa_nil)) (pa_cons (pe_callB (r := Ex.rIsD K C_NoName a cls d) (Ex.call_isD T_NoName.ic hz hf) (by rfl) T.isinstance (by decide +kernel) (pa_cons (pv 3) (pa_cons (pe_glob (v := .ref C_AnswerError) (by rfl) G_AnswerError rfl) pa_nil))) pa_nil)))))))
  (Et.Clauses.cons ⟨rfl, by decide, Or.inl T_NoBody.g⟩ (fun a oe cls d pn hz hf => (pss_one (ps_ret (pe_lst (pa_cons pe_str (pa_cons (pe_xf T_NoBody.xf T_NoBody.no hz hf (pv 3)) (pa_cons (pe_callB (r := Ex.rIsD K C_NoBody a cls d) (Ex.call_isD T_NoBody.ic hz hf) (by rfl) T.isinstance (by decide +kernel) (pa_cons (pv 3) (pa_cons (pe_glob (v := .ref C_AnswerError) (by rfl) G_AnswerError rfl) pa_nil))) pa_nil)))))))
  Et.Clauses.nil)))
  (pss_one (ps_ret (pe_lst (pa_cons pe_str (pa_cons (pe_callB (r := rReprX K) (call_reprX hg hr.units) (by rfl) T.repr (by decide +kernel) (pa_cons (pe_fld (pv 2) (by rfl)) pa_nil)) (pa_cons (pe_callB (r := rReprX K) (call_reprX hg hr.units) (by rfl) T.repr (by decide +kernel) (pa_cons (pe_fld (pv 2) (by rfl)) pa_nil)) pa_nil))))))), ?_⟩
    repeat walk_at "rd"
    intro b dxa hb hdx nb
    have s1 : Same H (upd (upd H dxa (.own b)) b (.ins C_Body dxa [])) := fun a u e => by
      rw [upd_ne (ne_of_none e hb), upd_ne (ne_of_none e hdx)]
      exact e
    have hb1 : upd (upd H dxa (.own b)) b (.ins C_Body dxa []) b = some (.ins C_Body dxa []) := upd_same
    generalize upd (upd H dxa (.own b)) b (.ins C_Body dxa []) = H1 at s1 hb1 ⊢
    refine ⟨b, dxa, x, v, tn, d, rfl, hb1, kd.mono s1, dp_mono s1 dp, un, fun c dd hdd => ⟨true, T_NoName.te, fun _ a0 ha0 => ?_, fun z => nomatch z⟩, fun m em hm => ⟨fun n en H2 s2 dd hdd => ⟨false, R.nB, (fun z => nomatch z), fun _ => ⟨true, T_NoBody.te, fun _ a0 ha0 => ?_, fun z => nomatch z⟩⟩, fun en L H2 k2 nL hb2 => ⟨rfl, ?_⟩⟩⟩
    · have s2 := s1.trans (Rd.sNew (o := .xd [(("value" : Str), x)]) hdd)
      repeat walk_at "rd"
      refine ⟨rfl, dd, _, x, rfl, upd_same, by simp [List.lookup], ?_⟩
      repeat walk_at "rd"
      refine tx.repr (dp_mono s2 dpx) ?_
      repeat walk_at "rd"
      refine ⟨_, _, true, dd, _, rfl, .own _, rfl, rfl, upd_same, R.aN, ?_⟩
      repeat walk_at "rd"
      refine ⟨Rd.sz (by simp), fun l hl => ?_⟩
      exact q1 c _ _ (s2.trans (Rd.sNew hl)) (.lst (SqL.of upd_same) (.cons (.str _) (.cons (.str _) (.cons (.bl _) .nil))))
    · have s3 := (s1.trans s2).trans (Rd.sNew (o := .xd [(("place" : Str), V.int (n : Int))]) hdd)
      repeat walk_at "rd"
      refine ⟨rfl, dd, _, .int (n : Int), rfl, upd_same, by simp [List.lookup], ?_⟩
      repeat walk_at "rd"
      refine ⟨_, _, true, dd, _, rfl, .own _, rfl, rfl, upd_same, R.aB, ?_⟩
      repeat walk_at "rd"
      refine ⟨Rd.sz (by simp), fun l hl => ?_⟩
      refine q2 m em hm _ _ (s3.trans (Rd.sNew hl)) ?_
      rw [dueD, en]
      exact .lst (SqL.of upd_same) (.cons (.str _) (.cons (.int _) (.cons (.bl _) .nil)))
    · subst em
      have s2 : Same H H2 := fun a u e => k2 a u (ne_of_none e hb) (s1 _ _ e)
      repeat walk_at "rd"
      refine Rd.fldV rfl hb2 K_Body.cl K_Body.n1 rfl ?_
      repeat walk_at "rd"
      refine (meth_tx hm).repr (.str m) ?_
      repeat walk_at "rd"
      refine Rd.fldV rfl hb2 K_Body.cl K_Body.n2 rfl ?_
      repeat walk_at "rd"
      refine un.repr (dp_mono s2 dp) ?_
      repeat walk_at "rd"
      refine ⟨Rd.sz (by simp), fun l hl => ?_⟩
      refine q2 m rfl hm _ _ (s2.trans (Rd.sNew hl)) ?_
      rw [dueD, en]
      exact .lst (SqL.of upd_same) (.cons (.str _) (.cons (.str _) (.cons (.str _) .nil)))
end
end Ab
namespace Ab
open PySem.Spec PyProof.Rows
/-- the heap without what stands at p -/
abbrev off (H : Hp) (p : Addr) : Hp := L2.del H p
theorem off_get {H : Hp} {p b : Addr} (h : b ≠ p) : off H p b = H b := L2.del_ne h
theorem off_up {H : Hp} {p : Addr} : Same (off H p) H := fun b u e => by
  by_cases h : b = p
  · subst h; rw [show off H b b = none from L2.del_same] at e; cases e
  · rw [off_get h] at e; exact e
theorem off_same {p : Addr} {H H' : Hp} (k : Keep p H H') : Same (off H p) (off H' p) := fun b u e => by
  by_cases h : b = p
  · subst h; rw [show off H b b = none from L2.del_same] at e; cases e
  · rw [off_get h] at e ⊢; exact k b u h e
theorem off_keep {H : Hp} {p : Addr} : Keep p H (off H p) := fun b u n e => by rw [off_get n]; exact e
theorem nd_off {K : PySem.W.Frag} {H : Hp} {p : Addr} {nd : Nd} {v : V} (n : NoTup H p) (h : Dp K H v nd.d) : Dp K (off H p) v nd.d := nd_keep off_keep n _ _ h
section
variable {K : PySem.W.Frag} {H : Hp} {p : Addr} {ab : List V}
theorem new_ne {t : Addr} (hp : H p = some (.lst ab)) (ht : H t = none) : t ≠ p := fun e => by rw [e, hp] at ht; cases ht
theorem new_off {t : Addr} {o : HO} (hp : H p = some (.lst ab)) (ht : H t = none) : off (upd H t o) p t = some o := by
  rw [off_get (new_ne hp ht)]; exact upd_same
theorem dpa_snoc {vs : List V} {es : List PyData} {v : V} {d : PyData} (a : DpAll K H vs es) (b : Dp K H v d) : DpAll K H (vs ++ [v]) (es ++ [d]) := dpa_app a (.cons b .nil)
/-- one more new tuple -/
theorem addT {vs xs : List V} {es ds : List PyData} {t : Addr} (hp : H p = some (.lst ab)) (it : DpAll K (off H p) vs es) (ht : H t = none) (dx : DpAll K (off H p) xs ds) :
    Same H (upd H t (.tup xs)) ∧ upd H t (.tup xs) p = some (.lst ab) ∧ DpAll K (off (upd H t (.tup xs)) p) (vs ++ [.ref t]) (es ++ [.tuple ds]) := by
  have s := Rd.sNew (o := .tup xs) ht
  have so := off_same (Keep.same (p := p) s)
  exact ⟨s, s _ _ hp, dpa_snoc (dpa_mono so it) (.tup (.inl (.inl (new_off hp ht))) (dpa_mono so dx))⟩
theorem addL {vs xs : List V} {es ds : List PyData} {t : Addr} (hp : H p = some (.lst ab)) (it : DpAll K (off H p) vs es) (ht : H t = none) (dx : DpAll K (off H p) xs ds) :
    Same H (upd H t (.lst xs)) ∧ upd H t (.lst xs) p = some (.lst ab) ∧ DpAll K (off (upd H t (.lst xs)) p) (vs ++ [.ref t]) (es ++ [.list ds]) := by
  have s := Rd.sNew (o := .lst xs) ht
  have so := off_same (Keep.same (p := p) s)
  exact ⟨s, s _ _ hp, dpa_snoc (dpa_mono so it) (.lst (SqL.of (new_off hp ht)) (dpa_mono so dx))⟩
theorem cutX {a : Addr} {xs : List V} {lo hi : Option Int} {Q : VK} (hp : H p = some (.lst ab)) (h : SqT K (off H p) a xs) (k : ∀ t H', Same H H' → SqT K (off H' p) t (cutV xs lo hi) → Q (.ref t) H') : rSlA K (.ref a) lo hi H Q := by
  refine ⟨a, xs, rfl, sqT_same off_up h, fun c => k a H (Same.refl _) ?_, fun _ t ht => k t _ (Rd.sNew ht) (.inl (.inl (new_off hp ht)))⟩
  have e : cutV xs lo hi = xs := by
    unfold cutV
    rw [c.1, c.2]
    simp
  rw [e]
  exact h
theorem catX {a b : Addr} {xs ys : List V} {Q : VK} (hp : H p = some (.lst ab)) (ha : SqT K (off H p) a xs) (hb : SqT K (off H p) b ys) (l : xs.length + ys.length ≤ 1000) (k : ∀ t H', Same H H' → SqT K (off H' p) t (xs ++ ys) → Q (.ref t) H') : rCatA K (.ref a) (.ref b) H Q := by
  refine ⟨a, b, xs, ys, rfl, rfl, sqT_same off_up ha, sqT_same off_up hb, Rd.sz (by omega), fun e => ?_, fun _ e => ?_, fun _ _ t ht => k t _ (Rd.sNew ht) (.inl (.inl (new_off hp ht)))⟩
  · subst e; exact k b H (Same.refl _) hb
  · subst e; exact k a H (Same.refl _) (by rw [List.append_nil]; exact ha)
end
theorem cutV_take {xs : List V} {n : Nat} (h : n ≤ xs.length) : cutV xs none (some (n : Int)) = xs.take n := by
  unfold cutV
  rw [HT.sIx_none, HT.sIx_nat, Nat.min_eq_left h]
  simp
theorem cutV_drop {xs : List V} {n : Nat} (h : n ≤ xs.length) : cutV xs (some (n : Int)) none = xs.drop n := by
  unfold cutV
  rw [HT.sIx_none, HT.sIx_nat, Nat.min_eq_left h, List.take_of_length_le (by rw [List.length_drop]; omega)]
theorem dpa_take {K : PySem.W.Frag} {H : Hp} : ∀ {xs : List V} {ds : List PyData} (n : Nat), DpAll K H xs ds → DpAll K H (xs.take n) (ds.take n)
  | _, _, 0, _ => .nil
  | _, _, n + 1, .nil => .nil
  | _, _, n + 1, .cons a b => .cons a (dpa_take n b)
theorem dpa_drop {K : PySem.W.Frag} {H : Hp} : ∀ {xs : List V} {ds : List PyData} (n : Nat), DpAll K H xs ds → DpAll K H (xs.drop n) (ds.drop n)
  | _, _, 0, h => h
  | _, _, n + 1, .nil => .nil
  | _, _, n + 1, .cons a b => dpa_drop n b
theorem dpa_mem {K : PySem.W.Frag} {H : Hp} : ∀ {xs : List V} {ds : List PyData} {x : V}, DpAll K H xs ds → x ∈ xs → ∃ d ∈ ds, Dp K H x d
  | _, _, _, .nil, h => by cases h
  | _, _, _, .cons a b, h => by
    rcases List.mem_cons.mp h with rfl | h
    · exact ⟨_, List.mem_cons_self, a⟩
    · obtain ⟨d, hd, h⟩ := dpa_mem b h
      exact ⟨d, List.mem_cons_of_mem _ hd, h⟩
theorem widA_app : ∀ a b : List PyData, widA (a ++ b) = max (widA a) (widA b)
  | [], b => by simp [widA]
  | x :: a, b => by rw [List.cons_append, widA, widA, widA_app a b]; omega
theorem depA_app : ∀ a b : List PyData, PyData.depthAll (a ++ b) = max (PyData.depthAll a) (PyData.depthAll b)
  | [], b => by simp [PyData.depthAll]
  | x :: a, b => by rw [List.cons_append, PyData.depthAll, PyData.depthAll, depA_app a b]; omega
theorem wtA_app : ∀ a b : List PyData, PyData.weightAll (a ++ b) = PyData.weightAll a + PyData.weightAll b
  | [], b => by simp [PyData.weightAll]
  | x :: a, b => by rw [List.cons_append, PyData.weightAll, PyData.weightAll, wtA_app a b]; omega
theorem okA_app (a b : List PyData) : okUA (a ++ b) = (okUA a && okUA b) := by
  induction a with
  | nil => simp [okUA]
  | cons x a ih => rw [List.cons_append, okUA, okUA, ih, Bool.and_assoc]
/-- what bending makes of d -/
structure Bn (d e : PyData) : Prop where
  ok : okU e = true
  wd : wid e ≤ max (wid d + 1) 4
  dp : PyData.depth e ≤ PyData.depth d + 1
  wt : PyData.weight e ≤ 3 * PyData.weight d + 40
/-- the odd things -/
def odd1 : List PyData := [.none, .tuple [], .str "yes", .tuple [.str "yes", .int 1], .tuple [.str "count", .int 5], .tuple [.str "count", .bool true], .tuple [.str "count", .str "1"], .tuple [.str "maybe"], .tuple [.str "decline"]]
def odd2 : List PyData := [.tuple [.str "further"], .tuple [.str "ask"], .tuple [.str "ask", .str "each", .str "self"], .tuple [.str "ask", .str "like", .str "self", .str "self"], .list [.str "no"], .int 0]
def odd3 : List PyData := [.tuple [.str "ask", .str "like", .str "self"], .tuple [.str "ask", .str "truth", .str "other"], .tuple [.str "ask", .str "truth", .str "me"], .tuple [.str "raise"], .tuple [.str "count", .int 4]]
def okO (d : PyData) : Bool := okU d && decide (wid d ≤ 4) && decide (PyData.depth d ≤ 1) && decide (PyData.weight d ≤ 40)
theorem odd_ok : (odd1 ++ odd2 ++ odd3).all okO = true := by decide +kernel
theorem odd_bn (d : PyData) {e : PyData} (h : e ∈ odd1 ++ odd2 ++ odd3) : Bn d e := by
  have := List.all_eq_true.mp odd_ok e h
  simp only [okO, Bool.and_eq_true, decide_eq_true_iff] at this
  exact ⟨this.1.1.1, by omega, by omega, by omega⟩
theorem bn_self {d : PyData} (h : okU d = true) : Bn d d := ⟨h, by omega, by omega, by omega⟩
theorem bn_one {d : PyData} (h : okU d = true) : Bn d (.tuple [d]) := by
  refine ⟨by simp [okU, okUA, h], ?_, ?_, ?_⟩
  · simp only [wid, widA, List.length_cons, List.length_nil]; omega
  · simp only [PyData.depth, PyData.depthAll]; omega
  · simp only [PyData.weight, PyData.weightAll]; omega
theorem wt_not : PyData.weight (.str "not") = 3 := by decide +kernel
theorem wt_if : PyData.weight (.str "if") = 2 := by decide +kernel
theorem ok_not : okU (.str "not") = true := by decide +kernel
theorem ok_if : okU (.str "if") = true := by decide +kernel
theorem bn_not {d : PyData} (h : okU d = true) : Bn d (.tuple [.str "not", d]) := by
  refine ⟨by rw [okU, okUA, okUA, okUA, ok_not, h]; rfl, ?_, ?_, ?_⟩
  · simp only [wid, widA, List.length_cons, List.length_nil]; omega
  · simp only [PyData.depth, PyData.depthAll]; omega
  · rw [PyData.weight, PyData.weightAll, PyData.weightAll, PyData.weightAll, wt_not]; omega
theorem bn_if {d : PyData} (h : okU d = true) : Bn d (.tuple [.str "if", d, d, d]) := by
  refine ⟨by rw [okU, okUA, okUA, okUA, okUA, okUA, ok_if, h]; rfl, ?_, ?_, ?_⟩
  · simp only [wid, widA, List.length_cons, List.length_nil]; omega
  · simp only [PyData.depth, PyData.depthAll]; omega
  · rw [PyData.weight, PyData.weightAll, PyData.weightAll, PyData.weightAll, PyData.weightAll, PyData.weightAll, wt_if]; omega
theorem bn_list {ds : List PyData} (h : okU (.tuple ds) = true) : Bn (.tuple ds) (.list ds) := by
  have h : okUA ds = true := by simpa [okU] using h
  refine ⟨by simpa [okU] using h, ?_, ?_, ?_⟩
  · simp only [wid]; omega
  · simp only [PyData.depth]; omega
  · simp only [PyData.weight]; omega
theorem bn_drop {A B : List PyData} {c : PyData} (h : okU (.tuple (A ++ c :: B)) = true) : Bn (.tuple (A ++ c :: B)) (.tuple (A ++ B)) := by
  rw [okU, okA_app, okUA, Bool.and_eq_true, Bool.and_eq_true] at h
  refine ⟨by rw [okU, okA_app, h.1, h.2.2]; rfl, ?_, ?_, ?_⟩
  · simp only [wid, widA_app, widA, List.length_append, List.length_cons]; omega
  · simp only [PyData.depth, depA_app, PyData.depthAll]; omega
  · simp only [PyData.weight, wtA_app, PyData.weightAll]; omega
theorem bn_dup {A B : List PyData} {c : PyData} (h : okU (.tuple (A ++ c :: B)) = true) : Bn (.tuple (A ++ c :: B)) (.tuple (A ++ [c] ++ c :: B)) := by
  rw [okU, okA_app, okUA, Bool.and_eq_true, Bool.and_eq_true] at h
  refine ⟨by rw [okU, okA_app, okA_app, okUA, okUA, okUA, h.1, h.2.1, h.2.2]; rfl, ?_, ?_, ?_⟩
  · simp only [wid, widA_app, widA, List.length_append, List.length_cons, List.length_nil]; omega
  · simp only [PyData.depth, depA_app, PyData.depthAll]; omega
  · simp only [PyData.weight, wtA_app, PyData.weightAll]; omega
theorem bn_in {A B : List PyData} {c c' : PyData} (h : okU (.tuple (A ++ c :: B)) = true) (b : Bn c c') : Bn (.tuple (A ++ c :: B)) (.tuple (A ++ [c'] ++ B)) := by
  rw [okU, okA_app, okUA, Bool.and_eq_true, Bool.and_eq_true] at h
  obtain ⟨b1, b2, b3, b4⟩ := b
  refine ⟨by rw [okU, okA_app, okA_app, okUA, okUA, h.1, b1, h.2.2]; rfl, ?_, ?_, ?_⟩
  · simp only [wid, widA_app, widA, List.length_append, List.length_cons, List.length_nil]; omega
  · simp only [PyData.depth, depA_app, PyData.depthAll]; omega
  · simp only [PyData.weight, wtA_app, PyData.weightAll]; omega
end Ab
namespace Ab
open PySem.Spec PyProof.Rows
local macro_rules | `(tactic| walk_at "rd") => `(tactic| (with_reducible first | refine Rd.tt_ ?_ | refine Rd.ff_ ?_))
/-- a list away from the pool -/
structure Lo (K : PySem.W.Frag) (H : Hp) (p l : Addr) (vs : List V) (es : List PyData) : Prop where
  ne : l ≠ p
  at_ : H l = some (.lst vs)
  dp : DpAll K (off H p) vs es
theorem Lo.keep {K : PySem.W.Frag} {H H' : Hp} {p l : Addr} {vs : List V} {es : List PyData} (k : Keep p H H') (h : Lo K H p l vs es) : Lo K H' p l vs es :=
  ⟨h.ne, k _ _ h.ne h.at_, dpa_mono (off_same k) h.dp⟩
theorem Lo.mono {K : PySem.W.Frag} {H H' : Hp} {p l : Addr} {vs : List V} {es : List PyData} (s : Same H H') (h : Lo K H p l vs es) : Lo K H' p l vs es := h.keep (Keep.same s)
theorem Lo.new {K : PySem.W.Frag} {H : Hp} {p l : Addr} {vs ab : List V} {es : List PyData} (hp : H p = some (.lst ab)) (hl : H l = none) (it : DpAll K (off H p) vs es) : Lo K (upd H l (.lst vs)) p l vs es :=
  ⟨new_ne hp hl, upd_same, dpa_mono (off_same (Keep.same (Rd.sNew hl))) it⟩
theorem Lo.len {K : PySem.W.Frag} {H : Hp} {p l : Addr} {vs : List V} {es : List PyData} (h : Lo K H p l vs es) : vs.length = es.length := dpa_len h.dp
def tupD : PyData → Bool
  | .tuple _ => true
  | _ => false
theorem isiT {K : PySem.W.Frag} {H H' : Hp} {v : V} {d : PyData} {Q : VK} (s : Same H' H) (dp : Dp K H' v d) (q : Q (.bl (tupD d)) H) : rIsi K [v, .ty "tuple"] H Q := by
  have dp := dp_mono s dp
  cases d with
  | none => exact isi (.base (by cases dp; exact .non)) (by show kitB "NoneType" "tuple" = some false; decide +kernel) q
  | bool b => exact isi (.base (by cases dp; exact .bl b)) (by show kitB "bool" "tuple" = some false; decide +kernel) q
  | int i => exact isi (.base (by cases dp; exact .int i)) (by show kitB "int" "tuple" = some false; decide +kernel) q
  | str z => exact isi (.base (by cases dp; exact .str z)) (by show kitB "str" "tuple" = some false; decide +kernel) q
  | list xs =>
    cases dp with
    | lst a b => exact isi (lst_ty a) (by show kitB "list" "tuple" = some false; decide +kernel) q
  | dict xs => cases dp
  | tuple ds =>
    obtain ⟨p, xs, rfl, hs, ha⟩ := dpT dp
    exact isi (tup_ty hs) (by show kitB "tuple" "tuple" = some true; decide +kernel) q
theorem dpa_at {K : PySem.W.Frag} {H : Hp} : ∀ {xs : List V} {ds : List PyData} {i : Nat}, DpAll K H xs ds → ∀ (h : i < xs.length) (h' : i < ds.length), Dp K H xs[i] ds[i]
  | _, _, 0, .cons a _, _, _ => a
  | _, _, i + 1, .cons _ b, h, h' => dpa_at (i := i) b (Nat.lt_of_succ_lt_succ h) (Nat.lt_of_succ_lt_succ h')
theorem ds_split {α : Type} {ds : List α} {a : Nat} (h : a < ds.length) : ds = ds.take a ++ ds[a] :: ds.drop (a + 1) := by
  rw [List.getElem_cons_drop h, List.take_append_drop]
section
variable {P : Program} {w : World} {K : PySem.W.Frag} {mg : Str → Option Value} {base : Heap}
abbrev sL_bent : Stmt := top 49
abbrev nL_bent : List Str := ["_law_pool_here", "_law_part_here", "_law_deep", "_law_odd", "_law_some", "_law_at", "_law_way"]
theorem scL_bent : FnScope nL_bent ["_law_pool_here", "_law_part_here", "_law_deep"] (defScope sL_bent) := ⟨rfl, rfl, rfl, by decide +kernel, rfl, by decide +kernel, by decide +kernel⟩
def spBent (K : PySem.W.Frag) (n : Nat) : Sp := fun vs H Q _ => ∃ (p : Addr) (x y : Int) (v : V) (d : PyData), vs = [.ref p, v, .int (n : Int)] ∧ H p = some (.lst [.int x, .int y]) ∧ PoolOk x y ∧ Dp K (off H p) v d ∧ okU d = true ∧ wid d ≤ 90 ∧
  ∀ (v' : V) (d' : PyData) H' x' y', Keep p H H' → H' p = some (.lst [.int x', .int y']) → PoolOk x' y' → Dp K (off H' p) v' d' → Bn d d' → Q v' H'
def spBentA (K : PySem.W.Frag) (n : Nat) : Sp := fun vs H Q E => ∃ j, j ≤ n ∧ spBent K j vs H Q E
set_option pp.maxSteps 3000 in
theorem bent_step (T : Txt K mg) (D : DefAt K mg "_law_bent" sL_bent ["_law_pool_here", "_law_part_here", "_law_deep"]) (CL_take : CalG P w K mg base 1 "_law_take" spTake) (CL_one : CalG P w K mg base 2 "_law_one" (spOne K))
    {k top : Nat} (hk : 2 ≤ k) {sp : Sp} (CL_bent : CalG P w K mg base k "_law_bent" sp) (hsp : ∀ i, i < top → ∀ vs H Q E, spBent K i vs H Q E → sp vs H Q E) : CalG P w K mg base (k + 1) "_law_bent" (spBentA K top) := by
  refine D.by scL_bent (fun vs H Q E h => ?_) (fun f cd A hg outer s H vs Q E hr h => ?_)
  · obtain ⟨_, _, _, _, _, _, _, rfl, _⟩ := h
    rfl
  · obtain ⟨n, hj, p, x, y, v, d, rfl, hp0, ok, dp, okd, wdd, q⟩ := h
    refine ⟨_, (C8.pss_cut (ps_set (i := 3) scL_bent.nd rfl (Or.inl rfl) (pe_lst (pa_cons pe_non (pa_cons (pe_tup pa_nil) (pa_cons pe_str (pa_cons (pe_tup (pa_cons pe_str (pa_cons pe_int pa_nil))) (pa_cons (pe_tup (pa_cons pe_str (pa_cons pe_int pa_nil))) (pa_cons (pe_tup (pa_cons pe_str (pa_cons pe_bl pa_nil))) (pa_cons (pe_tup (pa_cons pe_str (pa_cons pe_str pa_nil))) (pa_cons (pe_tup (pa_cons pe_str pa_nil)) (pa_cons (pe_tup (pa_cons pe_str pa_nil)) pa_nil)))))))))))
  (C8.pss_cut (ps_set (i := 3) scL_bent.nd rfl (Or.inl rfl) (pe_op op_cat (pv 3) (pe_lst (pa_cons (pe_tup (pa_cons pe_str pa_nil)) (pa_cons (pe_tup (pa_cons pe_str pa_nil)) (pa_cons (pe_tup (pa_cons pe_str (pa_cons pe_str (pa_cons pe_str pa_nil)))) (pa_cons (pe_tup (pa_cons pe_str (pa_cons pe_str (pa_cons pe_str (pa_cons pe_str pa_nil))))) (pa_cons (pe_lst (pa_cons pe_str pa_nil)) (pa_cons pe_int pa_nil)))))))))
  (C8.pss_cut (ps_set (i := 3) scL_bent.nd rfl (Or.inl rfl) (pe_op op_cat (pv 3) (pe_lst (pa_cons (pe_tup (pa_cons pe_str (pa_cons pe_str (pa_cons pe_str pa_nil)))) (pa_cons (pe_tup (pa_cons pe_str (pa_cons pe_str (pa_cons pe_str pa_nil)))) (pa_cons (pe_tup (pa_cons pe_str (pa_cons pe_str (pa_cons pe_str pa_nil)))) (pa_cons (pe_tup (pa_cons pe_str pa_nil)) (pa_cons (pe_tup (pa_cons pe_str (pa_cons pe_int pa_nil))) pa_nil))))))))
  (C8.pss_cut (ps_if (PW.pt (pw_or (pt_cmpR op_eq (pv 2) pe_int (nomark _)) (pw_or (pt_not (pt_val (pe_callB (r := rIsi K) call_isi (by rfl) T.isinstance (by decide +kernel) (pa_cons (pv 1) (pa_cons (pe_bltn (v := .ty "tuple") (by rfl) T.tuple (by decide +kernel) rfl) pa_nil))))) (pw_or (pt_cmpR op_lt (pe_callB (r := Rd.rLenK K) Rd.callLen (by rfl) T.len PySem.boot_len (pa_cons (pv 1) pa_nil)) pe_int (nomark _)) (pw_or1 (pt_cmpR op_eq (pe_cG CL_take hg hr (by omega) (pa_cons (pv 0) (pa_cons pe_int pa_nil))) pe_int (nomark _)))))))
  (pss_cons (ps_set (i := 4) scL_bent.nd rfl (Or.inl rfl) (pe_lst (pa_cons (pv 1) pa_nil)))
  (C8.pss_cut (ps_if (pt_val (pe_callB (r := rIsi K) call_isi (by rfl) T.isinstance (by decide +kernel) (pa_cons (pv 1) (pa_cons (pe_bltn (v := .ty "tuple") (by rfl) T.tuple (by decide +kernel) rfl) pa_nil))))
  (pss_one (ps_set (i := 4) scL_bent.nd rfl (Or.inl rfl) (pe_lst (pa_cons (pe_tup (pa_cons pe_str (pa_cons (pv 1) pa_nil))) (pa_cons (pe_tup (pa_cons pe_str (pa_cons (pv 1) (pa_cons (pv 1) (pa_cons (pv 1) pa_nil))))) (pa_cons (pe_tup (pa_cons (pv 1) pa_nil)) (pa_cons (pe_callTy (r := Rd.rListK K) Rd.callList (by rfl) T.list (by decide +kernel) (pa_cons (pv 1) pa_nil)) pa_nil)))))))
  pss_nil)
  (pss_one (ps_ret (pe_cG CL_one hg hr (by omega) (pa_cons (pv 0) (pa_cons (pe_op op_cat (pv 3) (pv 4)) pa_nil)))))))
  pss_nil)
  (pss_cons (ps_set (i := 5) scL_bent.nd rfl (Or.inl rfl) (pe_cG CL_take hg hr (by omega) (pa_cons (pv 0) (pa_cons (pe_callB (r := Rd.rLenK K) Rd.callLen (by rfl) T.len PySem.boot_len (pa_cons (pv 1) pa_nil)) pa_nil))))
  (pss_cons (ps_set (i := 6) scL_bent.nd rfl (Or.inl rfl) (pe_cG CL_take hg hr (by omega) (pa_cons (pv 0) (pa_cons pe_int pa_nil))))
  (pss_cons (ps_if (pt_cmpR op_eq (pv 6) pe_int (nomark _))
  (pss_one (ps_ret (pe_op (r := rCatA K) op_catA (pe_slice (r := rSlA K) sl_tupA (pv 1) po_none (po_some (pv 5))) (pe_slice (r := rSlA K) sl_tupA (pv 1) (po_some (pe_op op_add (pv 5) pe_int)) po_none))))
  pss_nil)
  (pss_cons (ps_if (pt_cmpR op_eq (pv 6) pe_int (nomark _))
  (pss_one (ps_ret (pe_op (r := rCatA K) op_catA (pe_op (r := rCatA K) op_catA (pe_slice (r := rSlA K) sl_tupA (pv 1) po_none (po_some (pv 5))) (pe_tup (pa_cons (pe_ix (r := rIxT K) ix_tup (pv 1) (pv 5) (fun _ _ => rfl)) pa_nil))) (pe_slice (r := rSlA K) sl_tupA (pv 1) (po_some (pv 5)) po_none))))
  pss_nil)
  (pss_one (ps_ret (pe_op (r := rCatA K) op_catA (pe_op (r := rCatA K) op_catA (pe_slice (r := rSlA K) sl_tupA (pv 1) po_none (po_some (pv 5))) (pe_tup (pa_cons (pe_cG CL_bent hg hr (by omega) (pa_cons (pv 0) (pa_cons (pe_ix (r := rIxT K) ix_tup (pv 1) (pv 5) (fun _ _ => rfl)) (pa_cons (pe_op op_sub (pv 2) pe_int) pa_nil)))) pa_nil))) (pe_slice (r := rSlA K) sl_tupA (pv 1) (po_some (pe_op op_add (pv 5) pe_int)) po_none)))))))))))), ?_⟩
    repeat walk_at "rd"
    refine Rd.cut (fun σ' H' => ∃ l vs, σ' = [some (.ref p), some v, some (.int n), some (.ref l), none, none, none] ∧ Same H H' ∧ Lo K H' p l vs odd1) ?_ (fun σ' H' h => ?_)
    · have S := Same.refl H
      have hp := hp0
      have it : DpAll K (off H p) [] [] := .nil
      have it := dpa_snoc it (.non (H := off H p))
      repeat walk_at "rd"
      refine ⟨Rd.sz (by simp), fun t1_100 ht => ?_⟩
      obtain ⟨s, hp, it⟩ := addT (xs := []) (ds := []) hp it ht .nil
      have S := S.trans s
      generalize upd H t1_100 (.tup []) = H101 at s hp it S  ⊢
      clear s ht
      have it := dpa_snoc it (.str "yes" (H := off H101 p))
      repeat walk_at "rd"
      refine ⟨Rd.sz (by simp), fun t1_101 ht => ?_⟩
      obtain ⟨s, hp, it⟩ := addT (xs := [.str "yes", .int 1]) (ds := [.str "yes", .int 1]) hp it ht (.cons (.str _) (.cons (.int _) .nil))
      have S := S.trans s
      generalize upd H101 t1_101 (.tup [.str "yes", .int 1]) = H102 at s hp it S  ⊢
      clear s ht
      repeat walk_at "rd"
      refine ⟨Rd.sz (by simp), fun t1_102 ht => ?_⟩
      obtain ⟨s, hp, it⟩ := addT (xs := [.str "count", .int 5]) (ds := [.str "count", .int 5]) hp it ht (.cons (.str _) (.cons (.int _) .nil))
      have S := S.trans s
      generalize upd H102 t1_102 (.tup [.str "count", .int 5]) = H103 at s hp it S  ⊢
      clear s ht
      repeat walk_at "rd"
      refine ⟨Rd.sz (by simp), fun t1_103 ht => ?_⟩
      obtain ⟨s, hp, it⟩ := addT (xs := [.str "count", .bl true]) (ds := [.str "count", .bool true]) hp it ht (.cons (.str _) (.cons (.bl _) .nil))
      have S := S.trans s
      generalize upd H103 t1_103 (.tup [.str "count", .bl true]) = H104 at s hp it S  ⊢
      clear s ht
      repeat walk_at "rd"
      refine ⟨Rd.sz (by simp), fun t1_104 ht => ?_⟩
      obtain ⟨s, hp, it⟩ := addT (xs := [.str "count", .str "1"]) (ds := [.str "count", .str "1"]) hp it ht (.cons (.str _) (.cons (.str _) .nil))
      have S := S.trans s
      generalize upd H104 t1_104 (.tup [.str "count", .str "1"]) = H105 at s hp it S  ⊢
      clear s ht
      repeat walk_at "rd"
      refine ⟨Rd.sz (by simp), fun t1_105 ht => ?_⟩
      obtain ⟨s, hp, it⟩ := addT (xs := [.str "maybe"]) (ds := [.str "maybe"]) hp it ht (.cons (.str _) .nil)
      have S := S.trans s
      generalize upd H105 t1_105 (.tup [.str "maybe"]) = H106 at s hp it S  ⊢
      clear s ht
      repeat walk_at "rd"
      refine ⟨Rd.sz (by simp), fun t1_106 ht => ?_⟩
      obtain ⟨s, hp, it⟩ := addT (xs := [.str "decline"]) (ds := [.str "decline"]) hp it ht (.cons (.str _) .nil)
      have S := S.trans s
      generalize upd H106 t1_106 (.tup [.str "decline"]) = H107 at s hp it S  ⊢
      clear s ht
      repeat walk_at "rd"
      refine ⟨Rd.sz (by simp), fun l1 hl => ?_⟩
      have s := Rd.sNew (o := .lst [.non, .ref t1_100, .str "yes", .ref t1_101, .ref t1_102, .ref t1_103, .ref t1_104, .ref t1_105, .ref t1_106]) hl
      have lo1 : Lo K (upd H107 l1 (.lst [.non, .ref t1_100, .str "yes", .ref t1_101, .ref t1_102, .ref t1_103, .ref t1_104, .ref t1_105, .ref t1_106])) p l1 [.non, .ref t1_100, .str "yes", .ref t1_101, .ref t1_102, .ref t1_103, .ref t1_104, .ref t1_105, .ref t1_106] odd1 := Lo.new hp hl it
      have S := S.trans s
      have hp := s _ _ hp
      generalize upd H107 l1 (.lst [.non, .ref t1_100, .str "yes", .ref t1_101, .ref t1_102, .ref t1_103, .ref t1_104, .ref t1_105, .ref t1_106]) = H108 at s hp lo1 S  ⊢
      clear s hl it
      repeat walk_at "rd"
      exact ⟨l1, _, rfl, S, lo1⟩
    obtain ⟨l0, vs0, rfl, S0, lo0⟩ := h
    repeat walk_at "rd"
    refine Rd.cut (fun σ' H' => ∃ l vs, σ' = [some (.ref p), some v, some (.int n), some (.ref l), none, none, none] ∧ Same H H' ∧ Lo K H' p l vs (odd1 ++ odd2)) ?_ (fun σ' H'' h => ?_)
    · have S := S0
      have hp := S0 _ _ hp0
      generalize H' = H200 at hp S lo0 ⊢
      have it : DpAll K (off H200 p) [] [] := .nil
      repeat walk_at "rd"
      refine ⟨Rd.sz (by simp), fun t2_200 ht => ?_⟩
      obtain ⟨s, hp, it⟩ := addT (xs := [.str "further"]) (ds := [.str "further"]) hp it ht (.cons (.str _) .nil)
      have S := S.trans s
      have lo0 := Lo.mono s lo0
      generalize upd H200 t2_200 (.tup [.str "further"]) = H201 at s hp it S lo0 ⊢
      clear s ht
      repeat walk_at "rd"
      refine ⟨Rd.sz (by simp), fun t2_201 ht => ?_⟩
      obtain ⟨s, hp, it⟩ := addT (xs := [.str "ask"]) (ds := [.str "ask"]) hp it ht (.cons (.str _) .nil)
      have S := S.trans s
      have lo0 := Lo.mono s lo0
      generalize upd H201 t2_201 (.tup [.str "ask"]) = H202 at s hp it S lo0 ⊢
      clear s ht
      repeat walk_at "rd"
      refine ⟨Rd.sz (by simp), fun t2_202 ht => ?_⟩
      obtain ⟨s, hp, it⟩ := addT (xs := [.str "ask", .str "each", .str "self"]) (ds := [.str "ask", .str "each", .str "self"]) hp it ht (.cons (.str _) (.cons (.str _) (.cons (.str _) .nil)))
      have S := S.trans s
      have lo0 := Lo.mono s lo0
      generalize upd H202 t2_202 (.tup [.str "ask", .str "each", .str "self"]) = H203 at s hp it S lo0 ⊢
      clear s ht
      repeat walk_at "rd"
      refine ⟨Rd.sz (by simp), fun t2_203 ht => ?_⟩
      obtain ⟨s, hp, it⟩ := addT (xs := [.str "ask", .str "like", .str "self", .str "self"]) (ds := [.str "ask", .str "like", .str "self", .str "self"]) hp it ht (.cons (.str _) (.cons (.str _) (.cons (.str _) (.cons (.str _) .nil))))
      have S := S.trans s
      have lo0 := Lo.mono s lo0
      generalize upd H203 t2_203 (.tup [.str "ask", .str "like", .str "self", .str "self"]) = H204 at s hp it S lo0 ⊢
      clear s ht
      repeat walk_at "rd"
      refine ⟨Rd.sz (by simp), fun t2_204 ht => ?_⟩
      obtain ⟨s, hp, it⟩ := addL (xs := [.str "no"]) (ds := [.str "no"]) hp it ht (.cons (.str _) .nil)
      have S := S.trans s
      have lo0 := Lo.mono s lo0
      generalize upd H204 t2_204 (.lst [.str "no"]) = H205 at s hp it S lo0 ⊢
      clear s ht
      have it := dpa_snoc it (.int 0 (H := off H205 p))
      repeat walk_at "rd"
      refine ⟨Rd.sz (by simp), fun l2 hl => ?_⟩
      have s := Rd.sNew (o := .lst [.ref t2_200, .ref t2_201, .ref t2_202, .ref t2_203, .ref t2_204, .int 0]) hl
      have lo2 : Lo K (upd H205 l2 (.lst [.ref t2_200, .ref t2_201, .ref t2_202, .ref t2_203, .ref t2_204, .int 0])) p l2 [.ref t2_200, .ref t2_201, .ref t2_202, .ref t2_203, .ref t2_204, .int 0] odd2 := Lo.new hp hl it
      have S := S.trans s
      have lo0 := Lo.mono s lo0
      have hp := s _ _ hp
      generalize upd H205 l2 (.lst [.ref t2_200, .ref t2_201, .ref t2_202, .ref t2_203, .ref t2_204, .int 0]) = H206 at s hp lo2 S lo0 ⊢
      clear s hl it
      repeat walk_at "rd"
      have e1 := lo0.len
      have e2 := lo2.len
      refine Rd.cat lo0.at_ lo2.at_ (Rd.sz (by rw [e1, e2]; decide)) fun r hr => ?_
      repeat walk_at "rd"
      exact ⟨r, _, rfl, S.trans (Rd.sNew hr), Lo.new hp hr (dpa_app lo0.dp lo2.dp)⟩
    clear S0 lo0
    obtain ⟨l0, vs0, rfl, S0, lo0⟩ := h
    repeat walk_at "rd"
    refine Rd.cut (fun σ' H' => ∃ l vs, σ' = [some (.ref p), some v, some (.int n), some (.ref l), none, none, none] ∧ Same H H' ∧ Lo K H' p l vs (odd1 ++ odd2 ++ odd3)) ?_ (fun σ' H3 h => ?_)
    · have S := S0
      have hp := S0 _ _ hp0
      generalize H'' = H300 at hp S lo0 ⊢
      have it : DpAll K (off H300 p) [] [] := .nil
      repeat walk_at "rd"
      refine ⟨Rd.sz (by simp), fun t3_300 ht => ?_⟩
      obtain ⟨s, hp, it⟩ := addT (xs := [.str "ask", .str "like", .str "self"]) (ds := [.str "ask", .str "like", .str "self"]) hp it ht (.cons (.str _) (.cons (.str _) (.cons (.str _) .nil)))
      have S := S.trans s
      have lo0 := Lo.mono s lo0
      generalize upd H300 t3_300 (.tup [.str "ask", .str "like", .str "self"]) = H301 at s hp it S lo0 ⊢
      clear s ht
      repeat walk_at "rd"
      refine ⟨Rd.sz (by simp), fun t3_301 ht => ?_⟩
      obtain ⟨s, hp, it⟩ := addT (xs := [.str "ask", .str "truth", .str "other"]) (ds := [.str "ask", .str "truth", .str "other"]) hp it ht (.cons (.str _) (.cons (.str _) (.cons (.str _) .nil)))
      have S := S.trans s
      have lo0 := Lo.mono s lo0
      generalize upd H301 t3_301 (.tup [.str "ask", .str "truth", .str "other"]) = H302 at s hp it S lo0 ⊢
      clear s ht
      repeat walk_at "rd"
      refine ⟨Rd.sz (by simp), fun t3_302 ht => ?_⟩
      obtain ⟨s, hp, it⟩ := addT (xs := [.str "ask", .str "truth", .str "me"]) (ds := [.str "ask", .str "truth", .str "me"]) hp it ht (.cons (.str _) (.cons (.str _) (.cons (.str _) .nil)))
      have S := S.trans s
      have lo0 := Lo.mono s lo0
      generalize upd H302 t3_302 (.tup [.str "ask", .str "truth", .str "me"]) = H303 at s hp it S lo0 ⊢
      clear s ht
      repeat walk_at "rd"
      refine ⟨Rd.sz (by simp), fun t3_303 ht => ?_⟩
      obtain ⟨s, hp, it⟩ := addT (xs := [.str "raise"]) (ds := [.str "raise"]) hp it ht (.cons (.str _) .nil)
      have S := S.trans s
      have lo0 := Lo.mono s lo0
      generalize upd H303 t3_303 (.tup [.str "raise"]) = H304 at s hp it S lo0 ⊢
      clear s ht
      repeat walk_at "rd"
      refine ⟨Rd.sz (by simp), fun t3_304 ht => ?_⟩
      obtain ⟨s, hp, it⟩ := addT (xs := [.str "count", .int 4]) (ds := [.str "count", .int 4]) hp it ht (.cons (.str _) (.cons (.int _) .nil))
      have S := S.trans s
      have lo0 := Lo.mono s lo0
      generalize upd H304 t3_304 (.tup [.str "count", .int 4]) = H305 at s hp it S lo0 ⊢
      clear s ht
      repeat walk_at "rd"
      refine ⟨Rd.sz (by simp), fun l3 hl => ?_⟩
      have s := Rd.sNew (o := .lst [.ref t3_300, .ref t3_301, .ref t3_302, .ref t3_303, .ref t3_304]) hl
      have lo3 : Lo K (upd H305 l3 (.lst [.ref t3_300, .ref t3_301, .ref t3_302, .ref t3_303, .ref t3_304])) p l3 [.ref t3_300, .ref t3_301, .ref t3_302, .ref t3_303, .ref t3_304] odd3 := Lo.new hp hl it
      have S := S.trans s
      have lo0 := Lo.mono s lo0
      have hp := s _ _ hp
      generalize upd H305 l3 (.lst [.ref t3_300, .ref t3_301, .ref t3_302, .ref t3_303, .ref t3_304]) = H306 at s hp lo3 S lo0 ⊢
      clear s hl it
      repeat walk_at "rd"
      have e1 := lo0.len
      have e2 := lo3.len
      refine Rd.cat lo0.at_ lo3.at_ (Rd.sz (by rw [e1, e2]; decide)) fun r hr => ?_
      repeat walk_at "rd"
      exact ⟨r, _, rfl, S.trans (Rd.sNew hr), Lo.new hp hr (dpa_app lo0.dp lo3.dp)⟩
    clear S0 lo0
    obtain ⟨l0, vs0, rfl, S0, lo0⟩ := h
    have hp3 := S0 _ _ hp0
    have dp3 := dp_mono (off_same (Keep.same (p := p) S0)) dp
    have K03 := Keep.same (p := p) S0
    clear S0
    repeat walk_at "rd"
    refine Rd.cut (fun σ' H' => ∃ x y, σ' = [some (.ref p), some v, some (.int n), some (.ref l0), none, none, none] ∧ Keep p H H' ∧ H' p = some (.lst [.int x, .int y]) ∧ PoolOk x y ∧ n ≠ 0 ∧ ∃ ds, d = .tuple ds ∧ 2 ≤ ds.length) ?_ (fun σ' H4 h => ?_)
    · repeat walk_at "rd"
      refine orS (fun H' => ∃ x y, Keep p H3 H' ∧ H' p = some (.lst [.int x, .int y]) ∧ PoolOk x y) ?_ (fun _ => ⟨x, y, fun _ _ _ e => e, hp3, ok⟩) (fun suite c => ?_)
      · rintro H5 ⟨x5, y5, K5, hp5, ok5⟩
        have dp5 := dp_mono (off_same K5) dp3
        have lo5 := lo0.keep K5
        repeat walk_at "rd"
        refine ⟨Rd.sz (by simp), fun l hl => ?_⟩
        have S6 := Rd.sNew (o := .lst [v]) hl
        have lo6 := lo5.mono S6
        have los : Lo K (upd H5 l (.lst [v])) p l [v] [d] := Lo.new hp5 hl (.cons dp5 .nil)
        have hp6 := S6 _ _ hp5
        have K6 := (K03.trans K5).trans (Keep.same S6)
        have dp6 := dp_mono (off_same (Keep.same (p := p) S6)) dp5
        generalize upd H5 l (.lst [v]) = H6 at lo6 los hp6 K6 dp6 ⊢
        clear S6 hl lo5 dp5 K5 hp5
        repeat walk_at "rd"
        refine Rd.cut (fun σ' H' => ∃ l vs es, σ' = [some (.ref p), some v, some (.int n), some (.ref l0), some (.ref l), none, none] ∧ Same H6 H' ∧ Lo K H' p l vs es ∧ es.length ≤ 4 ∧ ∀ e ∈ es, Bn d e) ?_ (fun σ' H7 h => ?_)
        · repeat walk_at "rd"
          refine isiT off_up dp6 ?_
          refine ⟨_, rfl, ?_⟩
          refine Rd.bool (fun e => ?_) (fun e => ?_)
          · obtain ⟨ds, rfl⟩ : ∃ ds, d = .tuple ds := by
              cases d <;> first | exact ⟨_, rfl⟩ | cases e
            obtain ⟨a, xs, rfl, hs6, ha6⟩ := dpT dp6
            have S := Same.refl H6
            have hp := hp6
            have dp7 := dp6
            have it : DpAll K (off H6 p) [] [] := .nil
            repeat walk_at "rd"
            refine ⟨Rd.sz (by simp), fun t1 ht => ?_⟩
            obtain ⟨s, hp, it⟩ := addT (xs := [.str "not", .ref a]) (ds := [.str "not", .tuple ds]) hp it ht (.cons (.str _) (.cons dp7 .nil))
            have S := S.trans s
            have dp7 := dp_mono (off_same (Keep.same (p := p) s)) dp7
            generalize upd H6 t1 (.tup [.str "not", .ref a]) = H7 at s hp it S dp7 ⊢
            clear s ht
            repeat walk_at "rd"
            refine ⟨Rd.sz (by simp), fun t2 ht => ?_⟩
            obtain ⟨s, hp, it⟩ := addT (xs := [.str "if", .ref a, .ref a, .ref a]) (ds := [.str "if", .tuple ds, .tuple ds, .tuple ds]) hp it ht (.cons (.str _) (.cons dp7 (.cons dp7 (.cons dp7 .nil))))
            have S := S.trans s
            have dp7 := dp_mono (off_same (Keep.same (p := p) s)) dp7
            generalize upd H7 t2 (.tup [.str "if", .ref a, .ref a, .ref a]) = H8 at s hp it S dp7 ⊢
            clear s ht
            repeat walk_at "rd"
            refine ⟨Rd.sz (by simp), fun t3 ht => ?_⟩
            obtain ⟨s, hp, it⟩ := addT (xs := [.ref a]) (ds := [.tuple ds]) hp it ht (.cons dp7 .nil)
            have S := S.trans s
            have dp7 := dp_mono (off_same (Keep.same (p := p) s)) dp7
            generalize upd H8 t3 (.tup [.ref a]) = H9 at s hp it S dp7 ⊢
            clear s ht
            obtain ⟨_, xs', ea, hs7, ha7⟩ := dpT dp7
            obtain rfl := V.ref.inj ea
            repeat walk_at "rd"
            refine ⟨a, xs', rfl, .inr (sqT_same off_up hs7), fun t4 ht => ?_⟩
            obtain ⟨s, hp, it⟩ := addL (xs := xs') (ds := ds) hp it ht ha7
            have S := S.trans s
            generalize upd H9 t4 (.lst xs') = HA at s hp it S ⊢
            clear s ht
            repeat walk_at "rd"
            refine ⟨Rd.sz (by simp), fun l2 hl => ?_⟩
            have lon : Lo K (upd HA l2 (.lst [.ref t1, .ref t2, .ref t3, .ref t4])) p l2 [.ref t1, .ref t2, .ref t3, .ref t4] [.tuple [.str "not", .tuple ds], .tuple [.str "if", .tuple ds, .tuple ds, .tuple ds], .tuple [.tuple ds], .list ds] := Lo.new hp hl it
            repeat walk_at "rd"
            refine ⟨l2, _, _, rfl, S.trans (Rd.sNew hl), lon, by simp, fun e he => ?_⟩
            simp only [List.mem_cons, List.not_mem_nil, or_false] at he
            rcases he with rfl | rfl | rfl | rfl
            · exact bn_not okd
            · exact bn_if okd
            · exact bn_one okd
            · exact bn_list okd
          · repeat walk_at "rd"
            refine ⟨l, _, _, rfl, Same.refl _, los, by simp, fun e he => ?_⟩
            simp only [List.mem_cons, List.not_mem_nil, or_false] at he
            subst he
            exact bn_self okd
        clear los
        obtain ⟨l2, vs2, es, rfl, S7, los, le4, hb⟩ := h
        have lo7 := lo6.mono S7
        have hp7 := S7 _ _ hp6
        have K7 := K6.trans (Keep.same S7)
        repeat walk_at "rd"
        have e1 := lo7.len
        have e2 := los.len
        have e3 : (odd1 ++ odd2 ++ odd3).length = 20 := rfl
        refine Rd.cat lo7.at_ los.at_ (Rd.sz (by omega)) fun r hr => ?_
        have S8 := Rd.sNew (o := .lst (vs0 ++ vs2)) hr
        have lo8 : Lo K (upd H7 r (.lst (vs0 ++ vs2))) p r (vs0 ++ vs2) (odd1 ++ odd2 ++ odd3 ++ es) := Lo.new hp7 hr (dpa_app lo7.dp los.dp)
        have hp8 := S8 _ _ hp7
        have K8 := K7.trans (Keep.same S8)
        generalize upd H7 r (.lst (vs0 ++ vs2)) = H8 at lo8 hp8 K8 ⊢
        repeat walk_at "rd"
        refine ⟨p, r, x5, y5, vs0 ++ vs2, rfl, hp8, SqL.of lo8.at_, fun o => SqL.of (by rw [upd_ne lo8.ne]; exact lo8.at_), ok5, by rw [List.length_append]; omega, by rw [List.length_append]; omega, fun v' x' y' hv ok' => ?_⟩
        obtain ⟨e, he, de⟩ := dpa_mem lo8.dp hv
        have K9 : Keep p H8 (upd H8 p (.lst [.int x', .int y'])) := Keep.put (fun _ _ _ e => e)
        refine q v' e _ x' y' (K8.trans K9) upd_same ok' (dp_mono (off_same K9) de) ?_
        rcases List.mem_append.mp he with he | he
        · exact odd_bn d he
        · exact hb e he
      · repeat walk_at "rd"
        refine isiT off_up dp3 ?_
        refine ⟨_, rfl, ?_⟩
        cases e : tupD d with
        | false => exact suite _ ⟨x, y, fun _ _ _ e => e, hp3, ok⟩
        | true =>
          obtain ⟨ds, rfl⟩ : ∃ ds, d = .tuple ds := by
            cases d <;> first | exact ⟨_, rfl⟩ | cases e
          obtain ⟨a, xs, rfl, hs, ha⟩ := dpT dp3
          have len := dpa_len ha
          refine offI ?_
          repeat walk_at "rd"
          refine Rd.lenT (sqT_same off_up hs) ?_
          repeat walk_at "rd"
          refine orS (fun H' => ∃ x y, Keep p H3 H' ∧ H' p = some (.lst [.int x, .int y]) ∧ PoolOk x y) suite (fun _ => ⟨x, y, fun _ _ _ e => e, hp3, ok⟩) (fun suite c2 => ?_)
          repeat walk_at "rd"
          refine ⟨p, x, y, 3, rfl, hp3, ok, by decide, by decide, fun c1 x1 y1 ok1 c0 c1 => ?_⟩
          have K1 : Keep p H3 (upd H3 p (.lst [.int x1, .int y1])) := Keep.put (fun _ _ _ e => e)
          have hp1 : upd H3 p (.lst [.int x1, .int y1]) p = some (.lst [.int x1, .int y1]) := upd_same
          generalize upd H3 p (.lst [.int x1, .int y1]) = H1 at K1 hp1 ⊢
          repeat walk_at "rd"
          refine Rd.dec (fun _ => suite _ ⟨x1, y1, K1, hp1, ok1⟩) (fun _ => ?_)
          repeat walk_at "rd"
          exact ⟨x1, y1, rfl, K03.trans K1, hp1, ok1, fun e => c (by rw [e]; rfl), ds, rfl, by omega⟩
    clear lo0 dp3 hp3 K03
    obtain ⟨x4, y4, rfl, K4, hp4, ok4, n0, ds, rfl, len2⟩ := h
    have dp4 := dp_mono (off_same K4) dp
    obtain ⟨a, xs, rfl, hs, ha⟩ := dpT dp4
    have len := dpa_len ha
    have wd1 : ds.length ≤ 90 := by
      rw [wid] at wdd; omega
    obtain ⟨m, rfl⟩ : ∃ m, n = m + 1 := ⟨n - 1, by omega⟩
    have dn : (((m + 1 : Nat) : Int) - 1) = (m : Int) := by omega
    repeat walk_at "rd"
    refine Rd.lenT (sqT_same off_up hs) ?_
    repeat walk_at "rd"
    refine ⟨p, x4, y4, (xs.length : Int), rfl, hp4, ok4, by omega, by omega, fun at_ x5 y5 ok5 a0 a1 => ?_⟩
    obtain ⟨i, rfl⟩ : ∃ i : Nat, at_ = (i : Int) := ⟨at_.toNat, by omega⟩
    have i1 : i < xs.length := by omega
    have i2 : i < ds.length := by omega
    have K5 : Keep p H4 (upd H4 p (.lst [.int x5, .int y5])) := Keep.put (fun _ _ _ e => e)
    have hp5 : upd H4 p (.lst [.int x5, .int y5]) p = some (.lst [.int x5, .int y5]) := upd_same
    generalize upd H4 p (.lst [.int x5, .int y5]) = H5 at K5 hp5 ⊢
    repeat walk_at "rd"
    refine ⟨p, x5, y5, 5, rfl, hp5, ok5, by decide, by decide, fun way x6 y6 ok6 b0 b1 => ?_⟩
    have K6 : Keep p H5 (upd H5 p (.lst [.int x6, .int y6])) := Keep.put (fun _ _ _ e => e)
    have hp6 : upd H5 p (.lst [.int x6, .int y6]) p = some (.lst [.int x6, .int y6]) := upd_same
    generalize upd H5 p (.lst [.int x6, .int y6]) = H6 at K6 hp6 ⊢
    have hs6 := sqT_same (off_same (K5.trans K6)) hs
    have ha6 := dpa_mono (off_same (K5.trans K6)) ha
    have K6 := (K4.trans K5).trans K6
    have sp := ds_split i2
    have si : ((i : Int) + 1) = ((i + 1 : Nat) : Int) := rfl
    repeat walk_at "rd"
    refine Rd.dec (fun _ => ?_) (fun w0 => ?_)
    · repeat walk_at "rd"
      refine cutX hp6 hs6 fun t1 H7 S7 ht1 => ?_
      rw [cutV_take (by omega)] at ht1
      have s7 := off_same (Keep.same (p := p) S7)
      have hp7 := S7 _ _ hp6
      repeat walk_at "rd"
      rw [si]
      refine cutX hp7 (sqT_same s7 hs6) fun t2 H8 S8 ht2 => ?_
      rw [cutV_drop (by omega)] at ht2
      have s8 := off_same (Keep.same (p := p) S8)
      have hp8 := S8 _ _ hp7
      repeat walk_at "rd"
      refine catX hp8 (sqT_same s8 ht1) ht2 (by rw [List.length_take, List.length_drop]; omega) fun t3 H9 S9 ht3 => ?_
      have s9 := off_same (Keep.same (p := p) S9)
      refine q (.ref t3) (.tuple (ds.take i ++ ds.drop (i + 1))) H9 x6 y6 (((K6.trans (Keep.same S7)).trans (Keep.same S8)).trans (Keep.same S9)) (S9 _ _ hp8) ok6 (.tup ht3 (dpa_mono s9 (dpa_mono s8 (dpa_mono s7 (dpa_app (dpa_take i ha6) (dpa_drop (i + 1) ha6)))))) ?_
      rw [sp] at okd
      have := bn_drop okd
      rwa [← sp] at this
    · repeat walk_at "rd"
      refine Rd.dec (fun _ => ?_) (fun w1 => ?_)
      · repeat walk_at "rd"
        refine cutX hp6 hs6 fun t1 H7 S7 ht1 => ?_
        rw [cutV_take (by omega)] at ht1
        have s7 := off_same (Keep.same (p := p) S7)
        have hp7 := S7 _ _ hp6
        have hs7 := sqT_same s7 hs6
        have ha7 := dpa_mono s7 ha6
        repeat walk_at "rd"
        refine Rd.ixT (sqT_same off_up hs7) (v := xs[i]) (by rw [atI_nat]; simp [i1]) ?_
        repeat walk_at "rd"
        refine ⟨Rd.sz (by simp), fun t2 h2 => ?_⟩
        have S8 := Rd.sNew (o := .tup [xs[i]]) h2
        have ht2 : SqT K (off (upd H7 t2 (.tup [xs[i]])) p) t2 [xs[i]] := .inl (.inl (new_off hp7 h2))
        have hp8 := S8 _ _ hp7
        generalize upd H7 t2 (.tup [xs[i]]) = H8 at S8 ht2 hp8 ⊢
        have s8 := off_same (Keep.same (p := p) S8)
        repeat walk_at "rd"
        refine catX hp8 (sqT_same s8 ht1) ht2 (by rw [List.length_take]; simp; omega) fun t3 H9 S9 ht3 => ?_
        have s9 := off_same (Keep.same (p := p) S9)
        have hp9 := S9 _ _ hp8
        have hs9 := sqT_same s9 (sqT_same s8 hs7)
        have ha9 := dpa_mono s9 (dpa_mono s8 ha7)
        repeat walk_at "rd"
        refine cutX hp9 hs9 fun t4 HA SA ht4 => ?_
        rw [cutV_drop (by omega)] at ht4
        have sA := off_same (Keep.same (p := p) SA)
        have hpA := SA _ _ hp9
        repeat walk_at "rd"
        refine catX hpA (sqT_same sA ht3) ht4 (by rw [List.length_append, List.length_take, List.length_drop]; simp; omega) fun t5 HB SB ht5 => ?_
        have sB := off_same (Keep.same (p := p) SB)
        have haB := dpa_mono sB (dpa_mono sA ha9)
        have hi : Dp K (off HB p) xs[i] ds[i] := dpa_at haB i1 i2
        refine q (.ref t5) (.tuple (ds.take i ++ [ds[i]] ++ ds.drop i)) HB x6 y6 (((((K6.trans (Keep.same S7)).trans (Keep.same S8)).trans (Keep.same S9)).trans (Keep.same SA)).trans (Keep.same SB)) (SB _ _ hpA) ok6 (.tup ht5 (dpa_app (dpa_app (dpa_take i haB) (.cons hi .nil)) (dpa_drop i haB))) ?_
        have dd : ds.drop i = ds[i] :: ds.drop (i + 1) := (List.getElem_cons_drop i2).symm
        rw [sp] at okd
        have := bn_dup okd
        rw [← sp] at this
        rw [dd]
        exact this
      · repeat walk_at "rd"
        refine cutX hp6 hs6 fun t1 H7 S7 ht1 => ?_
        rw [cutV_take (by omega)] at ht1
        have s7 := off_same (Keep.same (p := p) S7)
        have hp7 := S7 _ _ hp6
        have hs7 := sqT_same s7 hs6
        have ha7 := dpa_mono s7 ha6
        repeat walk_at "rd"
        refine Rd.ixT (sqT_same off_up hs7) (v := xs[i]) (by rw [atI_nat]; simp [i1]) ?_
        repeat walk_at "rd"
        rw [dn]
        have hi : Dp K (off H7 p) xs[i] ds[i] := dpa_at ha7 i1 i2
        have okd' := okd
        rw [sp, okU, okA_app, okUA, Bool.and_eq_true, Bool.and_eq_true] at okd'
        have mem : ds[i] ∈ ds := List.getElem_mem i2
        have wi : wid ds[i] ≤ 90 := by
          have := widA_mem mem
          rw [wid] at wdd; omega
        refine hsp m hj _ _ _ _ ⟨p, x6, y6, xs[i], ds[i], rfl, hp7, ok6, hi, okd'.2.1, wi, fun v' d' H8 x8 y8 K8 hp8 ok8 dp8 bn => ?_⟩
        have s8 := off_same K8
        repeat walk_at "rd"
        refine ⟨Rd.sz (by simp), fun t2 h2 => ?_⟩
        have S9 := Rd.sNew (o := .tup [v']) h2
        have ht2 : SqT K (off (upd H8 t2 (.tup [v'])) p) t2 [v'] := .inl (.inl (new_off hp8 h2))
        have hp9 := S9 _ _ hp8
        generalize upd H8 t2 (.tup [v']) = H9 at S9 ht2 hp9 ⊢
        have s9 := off_same (Keep.same (p := p) S9)
        have dp9 := dp_mono s9 dp8
        repeat walk_at "rd"
        refine catX hp9 (sqT_same s9 (sqT_same s8 ht1)) ht2 (by rw [List.length_take]; simp; omega) fun t3 HA SA ht3 => ?_
        have sA := off_same (Keep.same (p := p) SA)
        have hpA := SA _ _ hp9
        have hsA := sqT_same sA (sqT_same s9 (sqT_same s8 hs7))
        have haA := dpa_mono sA (dpa_mono s9 (dpa_mono s8 ha7))
        have dpA := dp_mono sA dp9
        repeat walk_at "rd"
        rw [si]
        refine cutX hpA hsA fun t4 HB SB ht4 => ?_
        rw [cutV_drop (by omega)] at ht4
        have sB := off_same (Keep.same (p := p) SB)
        have hpB := SB _ _ hpA
        repeat walk_at "rd"
        refine catX hpB (sqT_same sB ht3) ht4 (by rw [List.length_append, List.length_take, List.length_drop]; simp; omega) fun t5 HC SC ht5 => ?_
        have sC := off_same (Keep.same (p := p) SC)
        have haC := dpa_mono sC (dpa_mono sB haA)
        have dpC := dp_mono sC (dp_mono sB dpA)
        refine q (.ref t5) (.tuple (ds.take i ++ [d'] ++ ds.drop (i + 1))) HC x8 y8 ((((((K6.trans (Keep.same S7)).trans K8).trans (Keep.same S9)).trans (Keep.same SA)).trans (Keep.same SB)).trans (Keep.same SC)) (SC _ _ hpB) ok8 (.tup ht5 (dpa_app (dpa_app (dpa_take i haC) (.cons dpC .nil)) (dpa_drop (i + 1) haC))) ?_
        rw [sp] at okd
        have := bn_in okd bn
        rwa [← sp] at this
theorem ok_bent (T : Txt K mg) (D : DefAt K mg "_law_bent" sL_bent ["_law_pool_here", "_law_part_here", "_law_deep"]) (CL_take : CalG P w K mg base 1 "_law_take" spTake) (CL_one : CalG P w K mg base 2 "_law_one" (spOne K)) :
    ∀ n, CalG P w K mg base (n + 3) "_law_bent" (spBentA K n)
  | 0 => bent_step T D CL_take CL_one (Nat.le_refl 2) (sp := fun _ _ _ _ => False) (by
      obtain ⟨f, fd, h1, h2, h3⟩ := D
      exact ⟨f, fd, _, ⟨fun _ _ _ _ h => h.elim, fun _ _ _ _ _ _ _ _ _ _ _ _ _ _ h => h.elim⟩, h1, h2.kp, h3⟩) fun i h => absurd h (Nat.not_lt_zero i)
  | n + 1 => bent_step T D CL_take CL_one (by omega) (ok_bent T D CL_take CL_one n) fun i h vs H Q E q => ⟨i, Nat.lt_succ_iff.mp h, q⟩
end
end Ab
namespace Ab
open PySem.Spec PyProof.Rows
/-! ### bounds of a right body -/
def leafB (d : PyData) : Bool := okU d && decide (wid d ≤ 4) && decide (PyData.depth d ≤ 1) && decide (PyData.weight d ≤ 30)
structure Un (d : PyData) (k n : Nat) : Prop where
  ok : okU d = true
  wd : wid d ≤ 4
  dp : PyData.depth d ≤ k
  wt : PyData.weight d ≤ 30 * n
theorem leaf_un {d : PyData} (h : leafB d = true) : Un d 1 1 := by
  simp only [leafB, Bool.and_eq_true, decide_eq_true_iff] at h
  exact ⟨h.1.1.1, h.1.1.2, h.1.2, by have := h.2; omega⟩
theorem leaf_word : ∀ z ∈ (["yes", "no", "raise", "further", "decline"] : List Str), leafB (.tuple [.str z]) = true := by decide +kernel
theorem leaf_cnt : ∀ i ∈ ([0, 1, 2, 3, 4] : List Int), leafB (.tuple [.str "count", .int i]) = true := by decide +kernel
theorem leaf_ask1 : ∀ o ∈ askOne, ∀ r ∈ (["self", "other"] : List Str), leafB (.tuple [.str "ask", .str o, .str r]) = true := by decide +kernel
theorem leaf_ask2 : ∀ o ∈ askTwo, ∀ r ∈ (["self", "other"] : List Str), ∀ q ∈ (["self", "other"] : List Str), leafB (.tuple [.str "ask", .str o, .str r, .str q]) = true := by decide +kernel
theorem roles_two {m r : Str} (h : r ∈ rolesOf m) : r ∈ (["self", "other"] : List Str) := by
  unfold rolesOf at h
  split at h
  · exact h
  · rw [List.mem_singleton] at h
    subst h
    exact List.mem_cons_self
theorem nd_un {m : Str} : ∀ (nd : Nd) (t : Bool), nd.all m t = true → Un nd.d nd.dep nd.size
  | .word z, t, h => leaf_un (leaf_word z (of_decide_eq_true (top_wd (all_top h))))
  | .cnt i, t, h => by
    have h : (decide (0 ≤ i) && decide (i ≤ 4)) = true := h
    rw [Bool.and_eq_true, decide_eq_true_iff, decide_eq_true_iff] at h
    refine leaf_un (leaf_cnt i ?_)
    simp only [List.mem_cons, List.not_mem_nil, or_false]
    omega
  | .ask1 o r, t, h => by
    have h : (decide (o ∈ askOne) && decide (r ∈ rolesOf m)) = true := h
    rw [Bool.and_eq_true, decide_eq_true_iff, decide_eq_true_iff] at h
    exact leaf_un (leaf_ask1 o h.1 r (roles_two h.2))
  | .ask2 o r q, t, h => by
    have h : (decide (o ∈ askTwo) && decide (r ∈ rolesOf m) && decide (q ∈ rolesOf m) && decide (r ≠ q)) = true := h
    rw [Bool.and_eq_true, Bool.and_eq_true, Bool.and_eq_true, decide_eq_true_iff, decide_eq_true_iff, decide_eq_true_iff] at h
    exact leaf_un (leaf_ask2 o h.1.1.1 r (roles_two h.1.1.2) q (roles_two h.1.2))
  | .no a, t, h => by
    obtain ⟨o1, w1, d1, t1⟩ := nd_un a false h
    refine ⟨by rw [Nd.d, okU, okUA, okUA, okUA, ok_not, o1]; rfl, ?_, ?_, ?_⟩
    · simp only [Nd.d, wid, widA, List.length_cons, List.length_nil]; omega
    · simp only [Nd.d, Nd.dep, PyData.depth, PyData.depthAll]; omega
    · rw [Nd.d, PyData.weight, PyData.weightAll, PyData.weightAll, PyData.weightAll, wt_not, Nd.size]; omega
  | .iff a b c, t, h => by
    have h : (a.all m false && b.all m t && c.all m t) = true := h
    rw [Bool.and_eq_true, Bool.and_eq_true] at h
    obtain ⟨o1, w1, d1, t1⟩ := nd_un a false h.1.1
    obtain ⟨o2, w2, d2, t2⟩ := nd_un b t h.1.2
    obtain ⟨o3, w3, d3, t3⟩ := nd_un c t h.2
    refine ⟨by rw [Nd.d, okU, okUA, okUA, okUA, okUA, okUA, ok_if, o1, o2, o3]; rfl, ?_, ?_, ?_⟩
    · simp only [Nd.d, wid, widA, List.length_cons, List.length_nil]; omega
    · simp only [Nd.d, Nd.dep, PyData.depth, PyData.depthAll]; omega
    · rw [Nd.d, PyData.weight, PyData.weightAll, PyData.weightAll, PyData.weightAll, PyData.weightAll, PyData.weightAll, wt_if, Nd.size]; omega
theorem Un.uni {d : PyData} {k n : Nat} (h : Un d k n) (h1 : k ≤ 50) (h2 : n ≤ 1000) : Uni d := ⟨h.ok, by have := h.wd; omega, by have := h.dp; omega, by have := h.wt; omega⟩
def uniB (d : PyData) : Bool := okU d && decide (wid d ≤ 100) && decide (PyData.depth d ≤ 50) && decide (PyData.weight d ≤ 500000)
theorem uni_of {d : PyData} (h : uniB d = true) : Uni d := by
  simp only [uniB, Bool.and_eq_true, decide_eq_true_iff] at h
  exact ⟨h.1.1.1, h.1.1.2, h.1.2, h.2⟩
def yesD : PyData := .tuple [.str "yes"]
def noD : PyData := .tuple [.str "no"]
def raiD : PyData := .tuple [.str "raise"]
def tw : Nat → PyData
  | 0 => yesD
  | k + 1 => .tuple [.str "not", tw k]
def d3 : PyData := .tuple [.str "if", yesD, noD, raiD]
def chD : Nat → PyData
  | 0 => d3
  | 1 => .tuple [.str "if", d3, d3, yesD]
  | _ => yesD
def dw (c : Nat) : PyData := .tuple [.str "if", d3, d3, chD c]
def five (k c : Nat) : List PyData := [tw k, dw c, .tuple [.str "not", dw c], .tuple [.str "if", dw c, yesD, noD], .tuple [.str "if", yesD, dw c, dw c]]
theorem five_un : ∀ k ∈ List.range 8, ∀ c ∈ List.range 3, (five k c).all uniB = true := by decide +kernel
/-- what is not a method of a body -/
def oddM : List PyData := [.none, .str "", .str "item", .str "walk", .str "step", .str "call", .str "grow", .str "size", .int 5, .bool true, .tuple [.str "like"], .list [], .str "likes"]
def txB (d : PyData) : Bool := d.showable && !d.hasDict && decide (d.depth ≤ 60) && decide (d.shown.length ≤ 1000) && !inD bodyM d
theorem oddM_tx : oddM.all txB = true := by decide +kernel
theorem odd_tx {d : PyData} (h : d ∈ oddM) : Tx d ∧ inD bodyM d = false := by
  have h := List.all_eq_true.mp oddM_tx d h
  simp only [txB, Bool.and_eq_true, decide_eq_true_iff, Bool.not_eq_true'] at h
  exact ⟨⟨h.1.1.1.1, h.1.1.1.2, h.1.1.2, Nat.le_trans h.1.2 (by decide)⟩, h.2⟩
theorem due_plain (m : Str) (d : PyData) : (dueD m d).plain = true ∧ (dueD m d).depth ≤ 60 := by
  unfold dueD
  split <;> exact ⟨rfl, by simp [PyData.depth, PyData.depthAll]⟩
theorem name_plain (t : Str) : (nameD t).plain = true ∧ (nameD t).depth ≤ 60 := ⟨rfl, by simp [nameD, PyData.depth, PyData.depthAll]⟩
theorem neSame {K : PySem.W.Frag} {H : Hp} {x y : V} {d : PyData} {Q : VK} (p : d.plain = true ∧ d.depth ≤ 60) (a : Dp K H x d) (b : Dp K H y d) (k : Q (.bl false) H) : Pn.rNeP K x y H Q := by
  refine ⟨d, d, a, b, p.1, p.1, p.2, ?_⟩
  rw [SeqAt.eqv_refl_plain d p.1]
  exact k
theorem heardL {K : PySem.W.Frag} {H : Hp} {m : Str} {v : V} {d : PyData} {Q : VK} {E : XK} (hm : m ∈ bodyM) (dp : Dp K H v d) (un : Uni d) (k : ∀ y H1, Same H H1 → Dp K H1 y (dueD m d) → Q y H1) : spHeard K ([.str m, v] ++ []) H Q E :=
  ⟨.str m, v, "str", .str m, d, rfl, kd_str m, .str m, meth_tx hm, dp, un, fun z => absurd ((decide_eq_true hm).symm.trans z) (by decide), fun m' e _ => by cases e; exact k⟩
/-- the state of a turn: the pool, the body -/
structure Ln (K : PySem.W.Frag) (Hc H : Hp) (p : Addr) (v : V) (d : PyData) (x y : Int) : Prop where
  k : Keep p Hc H
  hp : H p = some (.lst [.int x, .int y])
  ok : PoolOk x y
  dp : Dp K (off H p) v d
section
variable {K : PySem.W.Frag} {Hc H H' : Hp} {p : Addr} {v : V} {d : PyData} {x y x' y' : Int}
theorem Ln.same (s : Same H H') (h : Ln K Hc H p v d x y) : Ln K Hc H' p v d x y := ⟨h.k.trans (Keep.same s), s _ _ h.hp, h.ok, dp_mono (off_same (Keep.same s)) h.dp⟩
theorem Ln.keep (k : Keep p H H') (hp : H' p = some (.lst [.int x', .int y'])) (ok : PoolOk x' y') (h : Ln K Hc H p v d x y) : Ln K Hc H' p v d x' y' := ⟨h.k.trans k, hp, ok, dp_mono (off_same k) h.dp⟩
theorem Ln.put (ok : PoolOk x' y') (h : Ln K Hc H p v d x y) : Ln K Hc (upd H p (.lst [.int x', .int y'])) p v d x' y' := h.keep (Keep.put (fun _ _ _ e => e)) upd_same ok
theorem dps {e : PyData} {u : V} (s : Same H H') (h : Dp K (off H p) u e) : Dp K (off H' p) u e := dp_mono (off_same (Keep.same s)) h
theorem dpk {e : PyData} {u : V} (s : Keep p H H') (h : Dp K (off H p) u e) : Dp K (off H' p) u e := dp_mono (off_same s) h
theorem dput {e : PyData} {u : V} {o : HO} (h : Dp K (off H p) u e) : Dp K (off (upd H p o) p) u e := dpk (Keep.put (fun _ _ _ e => e)) h
/-- a new tuple -/
theorem newT {xs : List V} {ds : List PyData} {t : Addr} (hp : H p = some (.lst ab)) (ht : H t = none) (a : DpAll K (off H p) xs ds) : Dp K (off (upd H t (.tup xs)) p) (.ref t) (.tuple ds) :=
  .tup (.inl (.inl (new_off hp ht))) (dpa_mono (off_same (Keep.same (p := p) (Rd.sNew ht))) a)
end
end Ab
namespace Ab
open PySem.Spec PyProof.Rows
local macro_rules | `(tactic| walk_at "rd") => `(tactic| (with_reducible first | refine Rd.tt_ ?_ | refine Rd.ff_ ?_))
def SLw (a L : Addr) (σ : L2.St) : Prop := ∃ z2 z3 z4 z5 z6 z7 z8 z9 z10 z11 z12, σ = [some (.ref a), some (.ref L), z2, z3, z4, z5, z6, z7, z8, z9, z10, z11, z12]
def SLt (a lm : Addr) (i : Int) (p : Addr) (m : Str) (v : V) (σ : L2.St) : Prop := ∃ z6 z7 z8 z9 z10 z11 z12, σ = [some (.ref a), some (.ref lm), some (.int i), some (.ref p), some (.str m), some v, z6, z7, z8, z9, z10, z11, z12]
def SLo (a lm : Addr) (i : Int) (p : Addr) (m : Str) (v : V) (t : V) (σ : L2.St) : Prop := ∃ z6 z7 z8 z10 z11 z12, σ = [some (.ref a), some (.ref lm), some (.int i), some (.ref p), some (.str m), some v, z6, z7, z8, some t, z10, z11, z12]
def SLu (a lm : Addr) (i : Int) (p : Addr) (m : Str) (v : V) (u : V) (σ : L2.St) : Prop := ∃ z6 z8 z9 z10 z11 z12, σ = [some (.ref a), some (.ref lm), some (.int i), some (.ref p), some (.str m), some v, z6, some u, z8, z9, z10, z11, z12]
def SL3 (a lm : Addr) (i : Int) (p : Addr) (m : Str) (v : V) (t h : V) (σ : L2.St) : Prop := ∃ z6 z7 z8 z11 z12, σ = [some (.ref a), some (.ref lm), some (.int i), some (.ref p), some (.str m), some v, z6, z7, z8, some t, some h, z11, z12]
def SLwd (a lm : Addr) (i : Int) (p : Addr) (m : Str) (v : V) (t w : V) (σ : L2.St) : Prop := ∃ z6 z7 z8 z10 z12, σ = [some (.ref a), some (.ref lm), some (.int i), some (.ref p), some (.str m), some v, z6, z7, z8, some t, z10, some w, z12]
def SLd (a lm : Addr) (i : Int) (p : Addr) (m : Str) (v : V) (o : V) (σ : L2.St) : Prop := ∃ z6 z7 z8 z9 z10 z11, σ = [some (.ref a), some (.ref lm), some (.int i), some (.ref p), some (.str m), some v, z6, z7, z8, z9, z10, z11, some o]
theorem forIL {K : PySem.W.Frag} {tl : TE} {g : TG} {tb : TS} {D : Ends} {σ : L2.St} {H : Hp} (k : tl σ H fun x H1 => tFor (iList K (tC x)) g tb D σ H1) : tFor (iList K tl) g tb D σ H := k
theorem keep_same {p : Addr} {H H' : Hp} (k : Keep p H H') (h : H p = none) : Same H H' := fun b u e => k b u (ne_of_none e h) e
theorem bn1_uni {d e : PyData} (U : Un d 3 13) (b : Bn d e) : Uni e := by
  obtain ⟨_, a1, a2, a3⟩ := U
  obtain ⟨b0, b1, b2, b3⟩ := b
  exact ⟨b0, by omega, by omega, by omega⟩
theorem bn2_uni {d e f : PyData} (U : Un d 3 13) (b : Bn d e) (c : Bn e f) : Uni f := by
  obtain ⟨_, a1, a2, a3⟩ := U
  obtain ⟨b0, b1, b2, b3⟩ := b
  obtain ⟨c0, c1, c2, c3⟩ := c
  exact ⟨c0, by omega, by omega, by omega⟩
section
variable {P : Program} {w : World} {K : PySem.W.Frag} {mg : Str → Option Value} {base : Heap}
def spLaw (K : PySem.W.Frag) : Sp := fun vs H Q _ => ∃ (a : Addr) (ns : List Int), vs = [.ref a] ∧ SqL K H a (ns.map V.int) ∧ ns.length ≤ 63 ∧ ∀ H', Q (.bl true) H'
abbrev sLaw : Stmt := top 50
abbrev nLaw : List Str := ["_law_script", "_law_methods", "_law_k", "_law_pool_here", "_law_method", "_law_part_here", "_law_turn", "_law_other", "_law_kept", "_law_tower", "_law_three", "_law_wide", "_law_odd"]
theorem scLaw : FnScope nLaw ["_law_script"] (defScope sLaw) := ⟨rfl, rfl, rfl, by decide +kernel, rfl, by decide +kernel, by decide +kernel⟩
set_option pp.maxSteps 3000 in
theorem ok_law (T : Txt K mg) (CL_pool : CalG P w K mg base 1 "_law_pool" (spPool K)) (CL_take : CalG P w K mg base 1 "_law_take" spTake) (CL_one : CalG P w K mg base 2 "_law_one" (spOne K)) (CL_part : CalG P w K mg base 6 "_law_part" (spPartA K 2))
    (CL_bent : CalG P w K mg base 7 "_law_bent" (spBentA K 4)) (CL_heard : CalG P w K mg base 11 "_law_heard" (spHeard K)) (CL_due : CalG P w K mg base 10 "_law_due" (spDue K))
    {f : Addr} {fd : FuncData} (F : Fun K "law" "law" sLaw f fd) : FnG P w K mg base CX0 12 f fd ["_law_script"] (spLaw K) := by
  refine defG0 F scLaw (fun vs H Q E h => ?_) (fun cd A hg outer s H vs Q E hr h => ?_)
  · obtain ⟨_, _, rfl, _⟩ := h
    rfl
  · obtain ⟨a, ns, rfl, hS, h63, q⟩ := h
    refine ⟨_, (pss_cons (ps_set (i := 1) scLaw.nd rfl (Or.inl rfl) (pe_lst (pa_cons pe_str (pa_cons pe_str (pa_cons pe_str (pa_cons pe_str (pa_cons pe_str (pa_cons pe_str (pa_cons pe_str (pa_cons pe_str pa_nil))))))))))
  (pss_cons (ps_for PassesOwn.never rfl (pi_range1 (by rfl) T.range (pa_cons (pe_callB (call_max2 rfl) (by rfl) T.max (by decide +kernel) (pa_cons pe_int (pa_cons (pe_callB (call_min2 rfl) (by rfl) T.min (by decide +kernel) (pa_cons pe_int (pa_cons (pe_callB (r := Rd.rLenK K) Rd.callLen (by rfl) T.len PySem.boot_len (pa_cons (pv 0) pa_nil)) pa_nil))) pa_nil))) pa_nil)) (pg_name (i := 2) scLaw.nd rfl (Or.inl rfl))
  (pss_cons (ps_set (i := 3) scLaw.nd rfl (Or.inl rfl) (pe_cG CL_pool hg hr (by decide) (pa_cons (pv 0) (pa_cons (pv 2) pa_nil))))
  (pss_cons (ps_set (i := 4) scLaw.nd rfl (Or.inl rfl) (pe_cG CL_one hg hr (by decide) (pa_cons (pv 3) (pa_cons (pv 1) pa_nil))))
  (pss_cons (ps_set (i := 5) scLaw.nd rfl (Or.inl rfl) (pe_cG CL_part hg hr (by decide) (pa_cons (pv 3) (pa_cons (pv 4) (pa_cons pe_int (pa_cons pe_bl pa_nil))))))
  (C8.pss_cut (ps_if (pt_cmpR (r := Pn.rNeP K) (Pn.op_neP hr.units) (pe_cG CL_heard hg hr (by decide) (pa_cons (pv 4) (pa_cons (pv 5) pa_nil))) (pe_cG CL_due hg hr (by decide) (pa_cons (pv 4) (pa_cons (pv 5) pa_nil))) (nomark _))
  (pss_one (ps_ret pe_bl))
  pss_nil)
  (C8.pss_cut (ps_for PassesOwn.never rfl (pi_range1 (by rfl) T.range (pa_cons pe_int pa_nil)) (pg_name (i := 6) scLaw.nd rfl (Or.inl rfl))
  (pss_cons (ps_set (i := 7) scLaw.nd rfl (Or.inl rfl) (pe_cG CL_bent hg hr (by decide) (pa_cons (pv 3) (pa_cons (pv 5) (pa_cons pe_int pa_nil)))))
  (C8.pss_cut (ps_if (pt_cmpR op_eq (pe_cG CL_take hg hr (by decide) (pa_cons (pv 3) (pa_cons pe_int pa_nil))) pe_int (nomark _))
  (pss_one (ps_set (i := 7) scLaw.nd rfl (Or.inl rfl) (pe_cG CL_bent hg hr (by decide) (pa_cons (pv 3) (pa_cons (pv 7) (pa_cons pe_int pa_nil))))))
  pss_nil)
  (pss_cons (ps_set (i := 8) scLaw.nd rfl (Or.inl rfl) (pe_callB (r := rReprX K) (call_reprX hg hr.units) (by rfl) T.repr (by decide +kernel) (pa_cons (pv 7) pa_nil)))
  (pss_one (ps_if (PW.pt (pw_or (pt_cmpR (r := Pn.rNeP K) (Pn.op_neP hr.units) (pe_cG CL_heard hg hr (by decide) (pa_cons (pv 4) (pa_cons (pv 7) pa_nil))) (pe_cG CL_due hg hr (by decide) (pa_cons (pv 4) (pa_cons (pv 7) pa_nil))) (nomark _)) (pw_or1 (pt_cmpR op_ne (pe_callB (r := rReprX K) (call_reprX hg hr.units) (by rfl) T.repr (by decide +kernel) (pa_cons (pv 7) pa_nil)) (pv 8) (nomark _)))))
  (pss_one (ps_ret pe_bl))
  pss_nil))))))
  (C8.pss_cut (ps_set (i := 9) scLaw.nd rfl (Or.inl rfl) (pe_tup (pa_cons pe_str pa_nil)))
  (C8.pss_cut (ps_for PassesOwn.never rfl (pi_range1 (by rfl) T.range (pa_cons (pe_cG CL_take hg hr (by decide) (pa_cons (pv 3) (pa_cons pe_int pa_nil))) pa_nil)) (pg_name (i := 6) scLaw.nd rfl (Or.inl rfl))
  (pss_one (ps_set (i := 9) scLaw.nd rfl (Or.inl rfl) (pe_tup (pa_cons pe_str (pa_cons (pv 9) pa_nil))))))
  (C8.pss_cut (ps_set (i := 10) scLaw.nd rfl (Or.inl rfl) (pe_tup (pa_cons pe_str (pa_cons (pe_tup (pa_cons pe_str pa_nil)) (pa_cons (pe_tup (pa_cons pe_str pa_nil)) (pa_cons (pe_tup (pa_cons pe_str pa_nil)) pa_nil))))))
  (C8.pss_cut (ps_set (i := 11) scLaw.nd rfl (Or.inl rfl) (pe_tup (pa_cons pe_str (pa_cons (pv 10) (pa_cons (pv 10) (pa_cons (pe_ix (r := rIxL K) ix_list (pe_lst (pa_cons (pv 10) (pa_cons (pe_tup (pa_cons pe_str (pa_cons (pv 10) (pa_cons (pv 10) (pa_cons (pe_tup (pa_cons pe_str pa_nil)) pa_nil))))) (pa_cons (pe_tup (pa_cons pe_str pa_nil)) pa_nil)))) (pe_cG CL_take hg hr (by decide) (pa_cons (pv 3) (pa_cons pe_int pa_nil))) (fun _ _ => rfl)) pa_nil))))))
  (C8.pss_cut (ps_for (wi := iList K _) PassesOwn.never rfl (pi_list (pe_lst (pa_cons (pv 9) (pa_cons (pv 11) (pa_cons (pe_tup (pa_cons pe_str (pa_cons (pv 11) pa_nil))) (pa_cons (pe_tup (pa_cons pe_str (pa_cons (pv 11) (pa_cons (pe_tup (pa_cons pe_str pa_nil)) (pa_cons (pe_tup (pa_cons pe_str pa_nil)) pa_nil))))) (pa_cons (pe_tup (pa_cons pe_str (pa_cons (pe_tup (pa_cons pe_str pa_nil)) (pa_cons (pv 11) (pa_cons (pv 11) pa_nil))))) pa_nil))))))) (pg_name (i := 7) scLaw.nd rfl (Or.inl rfl))
  (pss_one (ps_if (pt_cmpR (r := Pn.rNeP K) (Pn.op_neP hr.units) (pe_cG CL_heard hg hr (by decide) (pa_cons (pv 4) (pa_cons (pv 7) pa_nil))) (pe_cG CL_due hg hr (by decide) (pa_cons (pv 4) (pa_cons (pv 7) pa_nil))) (nomark _))
  (pss_one (ps_ret pe_bl))
  pss_nil)))
  (C8.pss_cut (ps_set (i := 12) scLaw.nd rfl (Or.inl rfl) (pe_lst (pa_cons pe_non (pa_cons pe_str (pa_cons pe_str (pa_cons pe_str (pa_cons pe_str (pa_cons pe_str (pa_cons pe_str (pa_cons pe_str (pa_cons pe_int (pa_cons pe_bl (pa_cons (pe_tup (pa_cons pe_str pa_nil)) (pa_cons (pe_lst pa_nil) (pa_cons pe_str pa_nil)))))))))))))))
  (C8.pss_cut (ps_set (i := 12) scLaw.nd rfl (Or.inl rfl) (pe_cG CL_one hg hr (by decide) (pa_cons (pv 3) (pa_cons (pv 12) pa_nil))))
  (pss_one (ps_if (pt_cmpR (r := Pn.rNeP K) (Pn.op_neP hr.units) (pe_cG CL_heard hg hr (by decide) (pa_cons (pv 12) (pa_cons (pe_cG CL_one hg hr (by decide) (pa_cons (pv 3) (pa_cons (pe_lst (pa_cons (pv 5) (pa_cons pe_non (pa_cons (pe_tup (pa_cons pe_str pa_nil)) pa_nil)))) pa_nil))) pa_nil))) (pe_lst (pa_cons pe_str (pa_cons (pe_callB (r := rReprX K) (call_reprX hg hr.units) (by rfl) T.repr (by decide +kernel) (pa_cons (pv 12) pa_nil)) (pa_cons pe_bl pa_nil)))) (nomark _))
  (pss_one (ps_ret pe_bl))
  pss_nil)))))))))))))))
  (pss_one (ps_ret pe_bl)))), ?_⟩
    repeat walk_at "rd"
    refine ⟨Rd.sz (by simp), fun lm hlm => ?_⟩
    have s0 := Rd.sNew (o := .lst (bodyM.map V.str)) hlm
    have em : upd H lm (.lst (bodyM.map V.str)) lm = some (.lst (bodyM.map V.str)) := upd_same
    have hS1 := s0.seq hS
    show gName _ _ _ (upd H lm (.lst (bodyM.map V.str))) _
    generalize upd H lm (.lst (bodyM.map V.str)) = H1 at s0 em hS1 ⊢
    repeat walk_at "rd"
    (try refine Rd.forR ?_)
    repeat walk_at "rd"
    refine Rd.rng (by (repeat' split) <;> omega) (by (repeat' split) <;> omega) ?_
    refine Rd.forGo (fun i σ Hc => SLw a lm σ ∧ Same H1 Hc) ⟨⟨_, _, _, _, _, _, _, _, _, _, _, rfl⟩, Same.refl _⟩ ?_ ?_
    · rintro n σ Hc hi ⟨⟨z2, z3, z4, z5, z6, z7, z8, z9, z10, z11, z12, rfl⟩, s1⟩
      have i9 : n < 100 := by
        rw [List.length_map] at hi
        revert hi
        (repeat' split) <;> intro hi <;> omega
      repeat walk_at "rd"
      refine ⟨a, ns, (n : Int), rfl, s1.seq hS1, by omega, by omega, fun p x y hp ok => ?_⟩
      have K2 : Keep p Hc (upd Hc p (.lst [.int x, .int y])) := Keep.put (fun _ _ _ e => e)
      have hp2 : upd Hc p (.lst [.int x, .int y]) p = some (.lst [.int x, .int y]) := upd_same
      have em2 := keep_same K2 hp _ _ (s1 _ _ em)
      generalize upd Hc p (.lst [.int x, .int y]) = H2 at K2 hp2 em2 ⊢
      repeat walk_at "rd"
      refine oneSs (ws := bodyM) hp2 em2 (ne_lp em2 hp2) ok (by decide) (by decide) fun m H3 x3 y3 hm K3 hp3 ok3 => ?_
      repeat walk_at "rd"
      refine ⟨2, Nat.le_refl _, p, x3, y3, m, true, rfl, hp3, ok3, hm, fun v nd H4 x4 y4 K4 hp4 ok4 dv al dep sz => ?_⟩
      have sz : nd.size ≤ 13 := sz
      have un := nd_un nd true al
      have U : Un nd.d 3 13 := ⟨un.ok, un.wd, by have := un.dp; omega, by have := un.wt; omega⟩
      have L4 : Ln K Hc H4 p v nd.d x4 y4 := ⟨(K2.trans K3).trans K4, hp4, ok4, nd_off (nt_lst hp4) dv⟩
      have back : ∀ H', (∃ x y, Ln K Hc H' p v nd.d x y) → Same H1 H' := fun H' ⟨_, _, h⟩ => s1.trans (keep_same h.k hp)
      clear un al dep sz dv K2 K3 K4 hp2 hp3 hp4 em2 ok ok3 ok4 hi
      generalize nd.d = d at U L4 back
      have uni : Uni d := U.uni (by decide) (by decide)
      generalize (n : Int) = i
      repeat walk_at "rd"
      refine Rd.cut (fun σ' H' => SLt a lm i p m v  σ' ∧ Ln K Hc H' p v d x4 y4) ?_ ?_
      · repeat walk_at "rd"
        refine heardL hm (dp_mono off_up L4.dp) uni fun y1 H5 s5 dy => ?_
        repeat walk_at "rd"
        refine ⟨m, v, d, rfl, hm, dp_mono off_up (L4.same s5).dp, uni, fun y2 H6 s6 dy2 => ?_⟩
        repeat walk_at "rd"
        refine neSame (due_plain m d) (dp_mono s6 dy) dy2 ?_
        refine ⟨_, rfl, ?_⟩
        refine offI ?_
        repeat walk_at "rd"
        exact ⟨⟨_, _, _, _, _, _, _, rfl⟩, (L4.same s5).same s6⟩
      · clear z2 z3 z4 z5 z6 z7 z8 z9 z10 z11 z12
        rintro σ' H5 ⟨⟨z6, z7, z8, z9, z10, z11, z12, rfl⟩, L5⟩
        refine Rd.cut (fun σ' H' => SLt a lm i p m v  σ' ∧ ∃ x y, Ln K Hc H' p v d x y) ?_ ?_
        · repeat walk_at "rd"
          (try refine Rd.forR ?_)
          repeat walk_at "rd"
          refine Rd.rng (by omega) (by omega) ?_
          refine Rd.forGo (fun j σ H' => SLt a lm i p m v  σ ∧ ∃ x y, Ln K Hc H' p v d x y) ⟨⟨_, _, _, _, _, _, _, rfl⟩, _, _, L5⟩ ?_ (fun σ H h => h)
          rintro j σ H6 _ ⟨⟨z6, z7, z8, z9, z10, z11, z12, rfl⟩, x6, y6, L6⟩
          repeat walk_at "rd"
          refine ⟨4, Nat.le_refl _, p, x6, y6, v, d, rfl, L6.hp, L6.ok, L6.dp, U.ok, by have := U.wd; omega, fun u e H7 x7 y7 K7 hp7 ok7 dp7 b7 => ?_⟩
          have L7 := L6.keep K7 hp7 ok7
          repeat walk_at "rd"
          refine Rd.cut (fun σ' H' => ∃ (u : V) (e : PyData) (x y : Int), SLu a lm i p m v u σ' ∧ Ln K Hc H' p v d x y ∧ Dp K (off H' p) u e ∧ Uni e) ?_ ?_
          · repeat walk_at "rd"
            refine ⟨p, x7, y7, 3, rfl, L7.hp, L7.ok, by decide, by decide, fun c x8 y8 ok8 c0 c1 => ?_⟩
            have L8 := L7.put ok8
            have dp8 : Dp K (off (upd H7 p (.lst [.int x8, .int y8])) p) u e := dput dp7
            generalize upd H7 p (.lst [.int x8, .int y8]) = H8 at L8 dp8 ⊢
            repeat walk_at "rd"
            refine Rd.dec (fun _ => ?_) (fun _ => ?_)
            · repeat walk_at "rd"
              refine ⟨4, Nat.le_refl _, p, x8, y8, u, e, rfl, L8.hp, L8.ok, dp8, b7.ok, by have := b7.wd; have := U.wd; omega, fun u2 e2 H9 x9 y9 K9 hp9 ok9 dp9 b9 => ?_⟩
              repeat walk_at "rd"
              exact ⟨u2, e2, x9, y9, ⟨_, _, _, _, _, _, rfl⟩, L8.keep K9 hp9 ok9, dp9, bn2_uni U b7 b9⟩
            · repeat walk_at "rd"
              exact ⟨u, e, x8, y8, ⟨_, _, _, _, _, _, rfl⟩, L8, dp8, bn1_uni U b7⟩
          · clear L7 dp7 b7 u e z6 z7 z8 z9 z10 z11 z12
            rintro σ' H8 ⟨u, e, x8, y8, ⟨z6, z8, z9, z10, z11, z12, rfl⟩, L8, dp8, une⟩
            repeat walk_at "rd"
            refine une.repr (dp_mono off_up dp8) ?_
            repeat walk_at "rd"
            refine heardL hm (dp_mono off_up dp8) une fun y1 H9 s9 dy => ?_
            repeat walk_at "rd"
            refine ⟨m, u, e, rfl, hm, dp_mono off_up (dps s9 dp8), une, fun y2 HA sA dy2 => ?_⟩
            repeat walk_at "rd"
            refine neSame (due_plain m e) (dp_mono sA dy) dy2 ?_
            refine ⟨_, rfl, ?_⟩
            refine offI ?_
            repeat walk_at "rd"
            refine une.repr (dp_mono off_up (dps sA (dps s9 dp8))) ?_
            repeat walk_at "rd"
            refine Rd.ndec (fun c => absurd rfl c) (fun _ => ?_)
            repeat walk_at "rd"
            exact ⟨⟨_, _, _, _, _, _, _, rfl⟩, x8, y8, (L8.same s9).same sA⟩
        · clear L5 L4 z6 z7 z8 z9 z10 z11 z12
          rintro σ' H6 ⟨⟨z6, z7, z8, z9, z10, z11, z12, rfl⟩, x6, y6, L6⟩
          repeat walk_at "rd"
          refine Rd.cut (fun σ' H' => ∃ t, SLo a lm i p m v t σ' ∧ Ln K Hc H' p v d x6 y6 ∧ Dp K (off H' p) t (tw 0)) ?_ ?_
          · repeat walk_at "rd"
            refine ⟨Rd.sz (by simp), fun t ht => ?_⟩
            repeat walk_at "rd"
            exact ⟨.ref t, ⟨_, _, _, _, _, _, rfl⟩, L6.same (Rd.sNew ht), newT L6.hp ht (.cons (.str _) .nil)⟩
          · clear z6 z7 z8 z9 z10 z11 z12 L6
            rintro σ' H7 ⟨t, ⟨z6, z7, z8, z10, z11, z12, rfl⟩, L7, dt7⟩
            refine Rd.cut (fun σ' H' => ∃ t k x y, SLo a lm i p m v t σ' ∧ Ln K Hc H' p v d x y ∧ Dp K (off H' p) t (tw k) ∧ k < 8) ?_ ?_
            · repeat walk_at "rd"
              (try refine Rd.forR ?_)
              repeat walk_at "rd"
              refine ⟨p, x6, y6, 8, rfl, L7.hp, L7.ok, by decide, by decide, fun c x8 y8 ok8 c0 c1 => ?_⟩
              have L8 := L7.put ok8
              have dt8 : Dp K (off (upd H7 p (.lst [.int x8, .int y8])) p) t (tw 0) := dput dt7
              generalize upd H7 p (.lst [.int x8, .int y8]) = H8 at L8 dt8 ⊢
              repeat walk_at "rd"
              refine Rd.rng (by omega) (by omega) ?_
              refine Rd.forGo (fun j σ H' => ∃ t, SLo a lm i p m v t σ ∧ Ln K Hc H' p v d x8 y8 ∧ Dp K (off H' p) t (tw j)) ⟨t, ⟨_, _, _, _, _, _, rfl⟩, L8, dt8⟩ ?_ (fun σ H ⟨t, h1, h2, h3⟩ => ⟨t, _, _, _, h1, h2, h3, by omega⟩)
              rintro j σ H9 _ ⟨t, ⟨z6, z7, z8, z10, z11, z12, rfl⟩, L9, dt9⟩
              repeat walk_at "rd"
              refine ⟨Rd.sz (by simp), fun t2 ht => ?_⟩
              repeat walk_at "rd"
              exact ⟨.ref t2, ⟨_, _, _, _, _, _, rfl⟩, L9.same (Rd.sNew ht), newT L9.hp ht (.cons (.str _) (.cons dt9 .nil))⟩
            · clear z6 z7 z8 z10 z11 z12 L7 dt7 t
              rintro σ' H8 ⟨t, kk, x8, y8, ⟨z6, z7, z8, z10, z11, z12, rfl⟩, L8, dt8, k8⟩
              repeat walk_at "rd"
              refine Rd.cut (fun σ' H' => ∃ h, SL3 a lm i p m v t h σ' ∧ Ln K Hc H' p v d x8 y8 ∧ Dp K (off H' p) t (tw kk) ∧ Dp K (off H' p) h d3) ?_ ?_
              · repeat walk_at "rd"
                refine ⟨Rd.sz (by simp), fun t1 h1 => ?_⟩
                have S1 := Rd.sNew (o := .tup [.str "yes"]) h1
                have L9 := L8.same S1
                have d1 : Dp K _ _ yesD := newT L8.hp h1 (.cons (.str _) .nil)
                generalize upd H8 t1 (.tup [.str "yes"]) = H9 at S1 L9 d1 ⊢
                repeat walk_at "rd"
                refine ⟨Rd.sz (by simp), fun t2 h2 => ?_⟩
                have S2 := Rd.sNew (o := .tup [.str "no"]) h2
                have LA := L9.same S2
                have d2 : Dp K _ _ noD := newT L9.hp h2 (.cons (.str _) .nil)
                have d1 := dps (p := p) S2 d1
                generalize upd H9 t2 (.tup [.str "no"]) = HA at S2 LA d1 d2 ⊢
                repeat walk_at "rd"
                refine ⟨Rd.sz (by simp), fun t3 h3 => ?_⟩
                have S3 := Rd.sNew (o := .tup [.str "raise"]) h3
                have LB := LA.same S3
                have d3' : Dp K _ _ raiD := newT LA.hp h3 (.cons (.str _) .nil)
                have d1 := dps (p := p) S3 d1
                have d2 := dps (p := p) S3 d2
                generalize upd HA t3 (.tup [.str "raise"]) = HB at S3 LB d1 d2 d3' ⊢
                repeat walk_at "rd"
                refine ⟨Rd.sz (by simp), fun t4 h4 => ?_⟩
                repeat walk_at "rd"
                exact ⟨.ref t4, ⟨_, _, _, _, _, rfl⟩, LB.same (Rd.sNew h4), dps (Rd.sNew h4) (dps S3 (dps S2 (dps S1 dt8))), newT LB.hp h4 (.cons (.str _) (.cons d1 (.cons d2 (.cons d3' .nil))))⟩
              · clear z6 z7 z8 z10 z11 z12 L8 dt8
                rintro σ' H9 ⟨h, ⟨z6, z7, z8, z11, z12, rfl⟩, L9, dt9, dh9⟩
                repeat walk_at "rd"
                refine Rd.cut (fun σ' H' => ∃ w c x y, SLwd a lm i p m v t w σ' ∧ Ln K Hc H' p v d x y ∧ Dp K (off H' p) t (tw kk) ∧ Dp K (off H' p) w (dw c) ∧ c < 3) ?_ ?_
                · repeat walk_at "rd"
                  refine ⟨Rd.sz (by simp), fun t1 h1 => ?_⟩
                  have S1 := Rd.sNew (o := .tup [.str "yes"]) h1
                  have LA := L9.same S1
                  have d1 : Dp K _ _ yesD := newT L9.hp h1 (.cons (.str _) .nil)
                  have dh := dps (p := p) S1 dh9
                  have dt := dps (p := p) S1 dt9
                  generalize upd H9 t1 (.tup [.str "yes"]) = HA at S1 LA d1 dh dt ⊢
                  repeat walk_at "rd"
                  refine ⟨Rd.sz (by simp), fun t2 h2 => ?_⟩
                  have S2 := Rd.sNew (o := .tup [.str "if", h, h, .ref t1]) h2
                  have LB := LA.same S2
                  have d2 : Dp K _ _ (chD 1) := newT LA.hp h2 (.cons (.str _) (.cons dh (.cons dh (.cons d1 .nil))))
                  have dh := dps (p := p) S2 dh
                  have dt := dps (p := p) S2 dt
                  generalize upd HA t2 (.tup [.str "if", h, h, .ref t1]) = HB at S2 LB d2 dh dt ⊢
                  clear d1
                  repeat walk_at "rd"
                  refine ⟨Rd.sz (by simp), fun t3 h3 => ?_⟩
                  have S3 := Rd.sNew (o := .tup [.str "yes"]) h3
                  have LC := LB.same S3
                  have d1 : Dp K _ _ yesD := newT LB.hp h3 (.cons (.str _) .nil)
                  have d2 := dps (p := p) S3 d2
                  have dh := dps (p := p) S3 dh
                  have dt := dps (p := p) S3 dt
                  generalize upd HB t3 (.tup [.str "yes"]) = HC at S3 LC d1 d2 dh dt ⊢
                  repeat walk_at "rd"
                  refine ⟨Rd.sz (by simp), fun l hl => ?_⟩
                  have S4 := Rd.sNew (o := .lst [h, .ref t2, .ref t3]) hl
                  have LD := LC.same S4
                  have lp : l ≠ p := new_ne LC.hp hl
                  have el : upd HC l (.lst [h, .ref t2, .ref t3]) l = some (.lst [h, .ref t2, .ref t3]) := upd_same
                  have d1 := dps (p := p) S4 d1
                  have d2 := dps (p := p) S4 d2
                  have dh := dps (p := p) S4 dh
                  have dt := dps (p := p) S4 dt
                  generalize upd HC l (.lst [h, .ref t2, .ref t3]) = HD at S4 LD el d1 d2 dh dt ⊢
                  repeat walk_at "rd"
                  refine ⟨p, x8, y8, 3, rfl, LD.hp, LD.ok, by decide, by decide, fun c xE yE okE c0 c1 => ?_⟩
                  have LE := LD.put okE
                  have el : upd HD p (.lst [.int xE, .int yE]) l = some (.lst [h, .ref t2, .ref t3]) := by rw [upd_ne lp]; exact el
                  have d1 : Dp K (off (upd HD p (.lst [.int xE, .int yE])) p) _ _ := dput d1
                  have d2 : Dp K (off (upd HD p (.lst [.int xE, .int yE])) p) _ _ := dput d2
                  have dh : Dp K (off (upd HD p (.lst [.int xE, .int yE])) p) _ _ := dput dh
                  have dt : Dp K (off (upd HD p (.lst [.int xE, .int yE])) p) _ _ := dput dt
                  generalize upd HD p (.lst [.int xE, .int yE]) = HE at LE el d1 d2 dh dt ⊢
                  obtain ⟨wv, cn, at_, dwv, cn3⟩ : ∃ wv cn, atI [h, .ref t2, .ref t3] c = some wv ∧ Dp K (off HE p) wv (chD cn) ∧ cn < 3 := by
                    rcases (show c = 0 ∨ c = 1 ∨ c = 2 by omega) with rfl | rfl | rfl
                    · exact ⟨h, 0, rfl, dh, by decide⟩
                    · exact ⟨.ref t2, 1, rfl, d2, by decide⟩
                    · exact ⟨.ref t3, 2, rfl, d1, by decide⟩
                  repeat walk_at "rd"
                  (try refine Rd.ixL (SqL.of el) at_ ?_)
                  repeat walk_at "rd"
                  refine ⟨Rd.sz (by simp), fun t5 h5 => ?_⟩
                  repeat walk_at "rd"
                  exact ⟨.ref t5, cn, xE, yE, ⟨_, _, _, _, _, rfl⟩, LE.same (Rd.sNew h5), dps (Rd.sNew h5) dt, newT LE.hp h5 (.cons (.str _) (.cons dh (.cons dh (.cons dwv .nil)))), cn3⟩
                · clear z6 z7 z8 z11 z12 L9 dt9 dh9 h
                  rintro σ' HF ⟨w, c, xF, yF, ⟨z6, z7, z8, z10, z12, rfl⟩, LF, dtF, dwF, c3⟩
                  refine Rd.cut (fun σ' H' => SLt a lm i p m v  σ' ∧ ∃ x y, Ln K Hc H' p v d x y) ?_ ?_
                  · repeat walk_at "rd"
                    refine forIL ?_
                    have dw_ := dwF
                    have dt_ := dtF
                    repeat walk_at "rd"
                    refine ⟨Rd.sz (by simp), fun t1 ht => ?_⟩
                    have s := Rd.sNew (o := .tup [.str "not", w]) ht
                    have e1_n : Dp K _ _ (.tuple [.str "not", dw c]) := newT LF.hp ht (.cons (.str _) (.cons dw_ .nil))
                    have dw_ := dps (p := p) s dw_
                    have dt_ := dps (p := p) s dt_
                    have LG0 := LF.same s
                    have e1 := e1_n
                    clear e1_n
                    generalize upd HF t1 (.tup [.str "not", w]) = G0 at s LG0 dw_ dt_ e1 ⊢
                    clear s ht
                    repeat walk_at "rd"
                    refine ⟨Rd.sz (by simp), fun t2 ht => ?_⟩
                    have s := Rd.sNew (o := .tup [.str "yes"]) ht
                    have y1_n : Dp K _ _ (yesD) := newT LG0.hp ht (.cons (.str _) .nil)
                    have dw_ := dps (p := p) s dw_
                    have dt_ := dps (p := p) s dt_
                    have e1 := dps (p := p) s e1
                    have LG1 := LG0.same s
                    have y1 := y1_n
                    clear y1_n
                    generalize upd G0 t2 (.tup [.str "yes"]) = G1 at s LG1 dw_ dt_ e1 y1 ⊢
                    clear s ht
                    repeat walk_at "rd"
                    refine ⟨Rd.sz (by simp), fun t3 ht => ?_⟩
                    have s := Rd.sNew (o := .tup [.str "no"]) ht
                    have n1_n : Dp K _ _ (noD) := newT LG1.hp ht (.cons (.str _) .nil)
                    have dw_ := dps (p := p) s dw_
                    have dt_ := dps (p := p) s dt_
                    have e1 := dps (p := p) s e1
                    have y1 := dps (p := p) s y1
                    have LG2 := LG1.same s
                    have n1 := n1_n
                    clear n1_n
                    generalize upd G1 t3 (.tup [.str "no"]) = G2 at s LG2 dw_ dt_ e1 y1 n1 ⊢
                    clear s ht
                    repeat walk_at "rd"
                    refine ⟨Rd.sz (by simp), fun t4 ht => ?_⟩
                    have s := Rd.sNew (o := .tup [.str "if", w, .ref t2, .ref t3]) ht
                    have e2_n : Dp K _ _ (.tuple [.str "if", dw c, yesD, noD]) := newT LG2.hp ht (.cons (.str _) (.cons dw_ (.cons y1 (.cons n1 .nil))))
                    have dw_ := dps (p := p) s dw_
                    have dt_ := dps (p := p) s dt_
                    have e1 := dps (p := p) s e1
                    have y1 := dps (p := p) s y1
                    have n1 := dps (p := p) s n1
                    have LG3 := LG2.same s
                    have e2 := e2_n
                    clear e2_n
                    generalize upd G2 t4 (.tup [.str "if", w, .ref t2, .ref t3]) = G3 at s LG3 dw_ dt_ e1 y1 n1 e2 ⊢
                    clear s ht
                    repeat walk_at "rd"
                    refine ⟨Rd.sz (by simp), fun t5 ht => ?_⟩
                    have s := Rd.sNew (o := .tup [.str "yes"]) ht
                    have y2_n : Dp K _ _ (yesD) := newT LG3.hp ht (.cons (.str _) .nil)
                    have dw_ := dps (p := p) s dw_
                    have dt_ := dps (p := p) s dt_
                    have e1 := dps (p := p) s e1
                    have y1 := dps (p := p) s y1
                    have n1 := dps (p := p) s n1
                    have e2 := dps (p := p) s e2
                    have LG4 := LG3.same s
                    have y2 := y2_n
                    clear y2_n
                    generalize upd G3 t5 (.tup [.str "yes"]) = G4 at s LG4 dw_ dt_ e1 y1 n1 e2 y2 ⊢
                    clear s ht
                    repeat walk_at "rd"
                    refine ⟨Rd.sz (by simp), fun t6 ht => ?_⟩
                    have s := Rd.sNew (o := .tup [.str "if", .ref t5, w, w]) ht
                    have e3_n : Dp K _ _ (.tuple [.str "if", yesD, dw c, dw c]) := newT LG4.hp ht (.cons (.str _) (.cons y2 (.cons dw_ (.cons dw_ .nil))))
                    have dw_ := dps (p := p) s dw_
                    have dt_ := dps (p := p) s dt_
                    have e1 := dps (p := p) s e1
                    have y1 := dps (p := p) s y1
                    have n1 := dps (p := p) s n1
                    have e2 := dps (p := p) s e2
                    have y2 := dps (p := p) s y2
                    have LG5 := LG4.same s
                    have e3 := e3_n
                    clear e3_n
                    generalize upd G4 t6 (.tup [.str "if", .ref t5, w, w]) = G5 at s LG5 dw_ dt_ e1 y1 n1 e2 y2 e3 ⊢
                    clear s ht
                    repeat walk_at "rd"
                    refine ⟨Rd.sz (by simp), fun l hl => ?_⟩
                    have s := Rd.sNew (o := .lst [t, w, .ref t1, .ref t4, .ref t6]) hl
                    have el : upd G5 l (.lst [t, w, .ref t1, .ref t4, .ref t6]) l = some (.lst [t, w, .ref t1, .ref t4, .ref t6]) := upd_same
                    have da : DpAll K (off G5 p) [t, w, .ref t1, .ref t4, .ref t6] (five kk c) := .cons dt_ (.cons dw_ (.cons e1 (.cons e2 (.cons e3 .nil))))
                    have da := dpa_mono (off_same (Keep.same (p := p) s)) da
                    have LH := LG5.same s
                    generalize upd G5 l (.lst [t, w, .ref t1, .ref t4, .ref t6]) = HH at s el da LH ⊢
                    clear s hl e1 e2 e3 y1 y2 n1 dt_ dw_ dtF dwF
                    repeat walk_at "rd"
                    refine ⟨l, rfl, ⟨_, SqL.of el⟩, ?_⟩
                    refine for_list (K := K) (a := l) (xs := [t, w, .ref t1, .ref t4, .ref t6]) (fun j σ H' => SLt a lm i p m v  σ ∧ Same HH H') ⟨⟨_, _, _, _, _, _, _, rfl⟩, Same.refl _⟩ (fun j σ H' _ h => SqL.of (h.2 _ _ el)) ?_ (fun σ H' h => ⟨h.1, _, _, LH.same h.2⟩)
                    rintro j xv σ HI hx ⟨⟨z6, z7, z8, z9, z10, z11, z12, rfl⟩, sI⟩
                    obtain ⟨e, he, de⟩ := dpa_mem da (List.mem_of_getElem? hx)
                    have une : Uni e := uni_of (List.all_eq_true.mp (five_un kk (List.mem_range.mpr k8) c (List.mem_range.mpr c3)) e he)
                    have de := dps (p := p) sI de
                    repeat walk_at "rd"
                    refine heardL hm (dp_mono off_up de) une fun y1 HJ sJ dy => ?_
                    repeat walk_at "rd"
                    refine ⟨m, xv, e, rfl, hm, dp_mono off_up (dps sJ de), une, fun y2 HK sK dy2 => ?_⟩
                    repeat walk_at "rd"
                    refine neSame (due_plain m e) (dp_mono sK dy) dy2 ?_
                    refine ⟨_, rfl, ?_⟩
                    refine offI ?_
                    repeat walk_at "rd"
                    exact ⟨⟨_, _, _, _, _, _, _, rfl⟩, (sI.trans sJ).trans sK⟩
                  · clear z6 z7 z8 z10 z12 LF dtF dwF w t
                    rintro σ' H200 ⟨⟨z6, z7, z8, z9, z10, z11, z12, rfl⟩, xF, yF, LF⟩
                    repeat walk_at "rd"
                    refine Rd.cut (fun σ' H' => ∃ l vs, SLd a lm i p m v (.ref l) σ' ∧ Ln K Hc H' p v d xF yF ∧ Lo K H' p l vs oddM) ?_ ?_
                    · have hp := LF.hp
                      have S := Same.refl H200
                      have L0 := LF
                      have it : DpAll K (off H200 p) [] [] := .nil
                      have it := dpa_snoc it (.non (H := off H200 p))
                      have it := dpa_snoc it (.str "" (H := off H200 p))
                      have it := dpa_snoc it (.str "item" (H := off H200 p))
                      have it := dpa_snoc it (.str "walk" (H := off H200 p))
                      have it := dpa_snoc it (.str "step" (H := off H200 p))
                      have it := dpa_snoc it (.str "call" (H := off H200 p))
                      have it := dpa_snoc it (.str "grow" (H := off H200 p))
                      have it := dpa_snoc it (.str "size" (H := off H200 p))
                      have it := dpa_snoc it (.int 5 (H := off H200 p))
                      have it := dpa_snoc it (.bl true (H := off H200 p))
                      repeat walk_at "rd"
                      refine ⟨Rd.sz (by simp), fun t9_200 ht => ?_⟩
                      obtain ⟨s, hp, it⟩ := addT (xs := [.str "like"]) (ds := [.str "like"]) hp it ht (.cons (.str _) .nil)
                      have S := S.trans s
                      generalize upd H200 t9_200 (.tup [.str "like"]) = H201 at s hp it S  ⊢
                      clear s ht
                      repeat walk_at "rd"
                      refine ⟨Rd.sz (by simp), fun t9_201 ht => ?_⟩
                      obtain ⟨s, hp, it⟩ := addL (xs := []) (ds := []) hp it ht .nil
                      have S := S.trans s
                      generalize upd H201 t9_201 (.lst []) = H202 at s hp it S  ⊢
                      clear s ht
                      have it := dpa_snoc it (.str "likes" (H := off H202 p))
                      repeat walk_at "rd"
                      refine ⟨Rd.sz (by simp), fun l9 hl => ?_⟩
                      have s := Rd.sNew (o := .lst [.non, .str "", .str "item", .str "walk", .str "step", .str "call", .str "grow", .str "size", .int 5, .bl true, .ref t9_200, .ref t9_201, .str "likes"]) hl
                      have lo9 : Lo K (upd H202 l9 (.lst [.non, .str "", .str "item", .str "walk", .str "step", .str "call", .str "grow", .str "size", .int 5, .bl true, .ref t9_200, .ref t9_201, .str "likes"])) p l9 [.non, .str "", .str "item", .str "walk", .str "step", .str "call", .str "grow", .str "size", .int 5, .bl true, .ref t9_200, .ref t9_201, .str "likes"] oddM := Lo.new hp hl it
                      have S := S.trans s
                      have hp := s _ _ hp
                      generalize upd H202 l9 (.lst [.non, .str "", .str "item", .str "walk", .str "step", .str "call", .str "grow", .str "size", .int 5, .bl true, .ref t9_200, .ref t9_201, .str "likes"]) = H203 at s hp lo9 S  ⊢
                      clear s hl it
                      repeat walk_at "rd"
                      exact ⟨l9, _, ⟨_, _, _, _, _, _, rfl⟩, L0.same S, lo9⟩
                    · clear z6 z7 z8 z9 z10 z11 z12 LF
                      rintro σ' HL ⟨l, vs, ⟨z6, z7, z8, z9, z10, z11, rfl⟩, LL, lo⟩
                      have vl : vs.length = 13 := lo.len
                      repeat walk_at "rd"
                      refine Rd.cut (fun σ' H' => ∃ o od x y, SLd a lm i p m v o σ' ∧ Ln K Hc H' p v d x y ∧ Dp K (off H' p) o od ∧ od ∈ oddM) ?_ ?_
                      · repeat walk_at "rd"
                        refine ⟨p, l, xF, yF, vs, rfl, LL.hp, SqL.of lo.at_, fun o => SqL.of (by rw [upd_ne lo.ne]; exact lo.at_), LL.ok, by omega, by omega, fun o xM yM hv okM => ?_⟩
                        obtain ⟨od, hod, dod⟩ := dpa_mem lo.dp hv
                        repeat walk_at "rd"
                        exact ⟨o, od, xM, yM, ⟨_, _, _, _, _, _, rfl⟩, LL.put okM, dput dod, hod⟩
                      · clear z6 z7 z8 z9 z10 z11 LL lo vl vs
                        rintro σ' HM ⟨o, od, xM, yM, ⟨z6, z7, z8, z9, z10, z11, rfl⟩, LM, dod, hod⟩
                        obtain ⟨tx, notin⟩ := odd_tx hod
                        repeat walk_at "rd"
                        refine ⟨Rd.sz (by simp), fun t1 ht => ?_⟩
                        have s := Rd.sNew (o := .tup [.str "maybe"]) ht
                        have dm : Dp K _ _ (.tuple [.str "maybe"]) := newT LM.hp ht (.cons (.str _) .nil)
                        have LN := LM.same s
                        have dod := dps (p := p) s dod
                        generalize upd HM t1 (.tup [.str "maybe"]) = HN at s dm LN dod ⊢
                        clear s ht
                        repeat walk_at "rd"
                        refine ⟨Rd.sz (by simp), fun l2 hl => ?_⟩
                        have s := Rd.sNew (o := .lst [v, .non, .ref t1]) hl
                        have lo : Lo K (upd HN l2 (.lst [v, .non, .ref t1])) p l2 [v, .non, .ref t1] [d, .none, .tuple [.str "maybe"]] := Lo.new LN.hp hl (.cons LN.dp (.cons .non (.cons dm .nil)))
                        have LO := LN.same s
                        have dod := dps (p := p) s dod
                        generalize upd HN l2 (.lst [v, .non, .ref t1]) = HO at s lo LO dod ⊢
                        clear s hl
                        repeat walk_at "rd"
                        refine ⟨p, l2, xM, yM, [v, .non, .ref t1], rfl, LO.hp, SqL.of lo.at_, fun o => SqL.of (by rw [upd_ne lo.ne]; exact lo.at_), LO.ok, by simp, by simp, fun u xP yP hv okP => ?_⟩
                        obtain ⟨e, he, de⟩ := dpa_mem lo.dp hv
                        have une : Uni e := by
                          simp only [List.mem_cons, List.not_mem_nil, or_false] at he
                          rcases he with rfl | rfl | rfl
                          · exact uni
                          · exact uni_of (by decide +kernel)
                          · exact uni_of (by decide +kernel)
                        have LP := LO.put okP
                        have de : Dp K (off (upd HO p (.lst [.int xP, .int yP])) p) u e := dput de
                        have dod : Dp K (off (upd HO p (.lst [.int xP, .int yP])) p) o od := dput dod
                        generalize upd HO p (.lst [.int xP, .int yP]) = HP at LP de dod ⊢
                        obtain ⟨tn, kd⟩ := dp_kd (dp_mono off_up dod)
                        repeat walk_at "rd"
                        refine ⟨o, u, tn, od, e, rfl, kd, dp_mono off_up dod, tx, dp_mono off_up de, une, fun _ y1 HQ sQ dy => ?_, fun m' em hm' => ?_⟩
                        · repeat walk_at "rd"
                          refine tx.repr (dp_mono off_up (dps sQ dod)) ?_
                          repeat walk_at "rd"
                          refine ⟨Rd.sz (by simp), fun l3 hl3 => ?_⟩
                          have sR := Rd.sNew (o := .lst [.str "name", .str od.shown, .bl true]) hl3
                          repeat walk_at "rd"
                          refine neSame (name_plain od.shown) (dp_mono sR dy) (.lst (SqL.of upd_same) (.cons (.str _) (.cons (.str _) (.cons (.bl _) .nil)))) ?_
                          refine ⟨_, rfl, ?_⟩
                          refine offI ?_
                          repeat walk_at "rd"
                          exact ⟨⟨_, _, _, _, _, _, _, _, _, _, _, rfl⟩, back _ ⟨_, _, (LP.same sQ).same sR⟩⟩
                        · have := dp_isIn bodyM dod
                          rw [notin, em] at this
                          exact absurd ((decide_eq_true hm').symm.trans this) (by decide)
    · rintro σ Hc ⟨⟨z2, z3, z4, z5, z6, z7, z8, z9, z10, z11, z12, rfl⟩, _⟩
      repeat walk_at "rd"
      exact q _
end
end Ab
namespace Ab
open PySem.Spec PyProof.Rows
abbrev sInit_NoName : Stmt := meth 3 0
theorem scInit_NoName : FnScope ["self", "value"] ["self", "value"] (defScope sInit_NoName) := ⟨rfl, rfl, rfl, by decide +kernel, rfl, by decide +kernel, by decide +kernel⟩
abbrev sInit_NoBody : Stmt := meth 4 0
theorem scInit_NoBody : FnScope ["self", "place"] ["self", "place"] (defScope sInit_NoBody) := ⟨rfl, rfl, rfl, by decide +kernel, rfl, by decide +kernel, by decide +kernel⟩
/-- a tuple that the top has written -/
theorem sqT_of {K : PySem.W.Frag} {p : Addr} {d : Option Addr} {its : Array Value} {m : Nat} {sl : Array (Option Value)} {xs : List V} (l : K.lookup p = some ⟨.type "tuple", d, .seq its m, sl⟩) (z : its.size ≤ sizeLine) (v : Vals xs its.toList) : ∀ H, SqT K H p xs :=
  fun _ => .inr ⟨_, its, m, l, rfl, rfl, z, v⟩
theorem kl_nil {P : Params} : PySem.W.KeysLit P [] := by unfold PySem.W.KeysLit; trivial
theorem kl_cons {P : Params} {x : Str} {t : Tok} {v : Value} {l : List DictEntry} (r : PySem.W.KeysLit P l) : PySem.W.KeysLit P (⟨PyData.keyHash P x, .str x t, v⟩ :: l) := by unfold PySem.W.KeysLit; exact ⟨⟨x, t, rfl, rfl⟩, r⟩
theorem kdct_of {K : PySem.W.Frag} {w : World} {p : Addr} {es : Array DictEntry} {m : Nat} (l : K.lookup p = some ⟨.type "dict", none, .dict es m, #[]⟩) (kl : PySem.W.KeysLit w.params es.toList) {x : Str} {u : Value} {v : V} (hn : PySem.W.nsIn K p x = some (some u)) (r : RelV v u) : KDct K w p x v :=
  ⟨es, m, u, l, kl, hn, r⟩
theorem kitCls_ref {K : PySem.W.Frag} {u : Value} {D : Addr} {b : Bool} (h2 : PySem.W.isClsIn K D = true) (h3 : PySem.W.typeIn K (.ref D) = some (.type "type")) (h4 : PySem.W.subIn K u (.ref D) = some b) : PySem.W.kitCls K u (.ref D) = some b := by
  have h2' : (PySem.W.clsIn K D).isSome = true := h2
  show (if ((PySem.W.clsIn K D).isSome && PySem.W.typeIn K (.ref D) == some (.type "type")) = true then PySem.W.subIn K u (.ref D) else none) = some b
  rw [h2', h3, if_pos (by rfl)]
  exact h4
theorem exm_own {K : PySem.W.Frag} {C : Addr} (h1 : PySem.W.subIn K (.ref C) (.type "BaseException") = some true) (h2 : PySem.W.isClsIn K C = true) (h3 : PySem.W.typeIn K (.ref C) = some (.type "type")) (h4 : PySem.W.subIn K (.ref C) (.ref C) = some true) : PySem.W.exmOne K (.ref C) (.ref C) = some true := by
  show (if (PySem.W.subIn K (.ref C) (.type "BaseException") == some true) = true then PySem.W.kitCls K (.ref C) (.ref C) else none) = some true
  rw [h1, if_pos (by rfl)]
  exact kitCls_ref h2 h3 h4
theorem kit_err {K : PySem.W.Frag} {C D : Addr} (h2 : PySem.W.isClsIn K D = true) (h3 : PySem.W.typeIn K (.ref D) = some (.type "type")) (h4 : PySem.W.subIn K (.ref C) (.ref D) = some true) : PySem.W.kitOne K (.ref C) (.ref D) = some true := by
  show (if (Value.ref C == Value.ref D) = true then some true else PySem.W.kitCls K (.ref C) (.ref D)) = some true
  split
  · rfl
  · exact kitCls_ref h2 h3 h4
theorem kit_value {K : PySem.W.Frag} {C : Addr} (h4 : PySem.W.subIn K (.ref C) (.type "ValueError") = some true) : PySem.W.kitOne K (.ref C) (.type "ValueError") = some true := by
  have e : (Value.ref C == Value.type "ValueError") = false := rfl
  show (if (Value.ref C == Value.type "ValueError") = true then some true else (if PySem.W.kitMeta "ValueError" = true then PySem.W.subIn K (.ref C) (.type "ValueError") else none)) = some true
  rw [e, if_neg Bool.false_ne_true, if_pos (by decide +kernel)]
  exact h4
theorem exm_not {K : PySem.W.Frag} {C D : Addr} (h1 : PySem.W.subIn K (.ref D) (.type "BaseException") = some true) (h2 : PySem.W.isClsIn K D = true) (h3 : PySem.W.typeIn K (.ref D) = some (.type "type")) (h4 : PySem.W.subIn K (.ref C) (.ref D) = some false) : PySem.W.exmOne K (.ref C) (.ref D) = some false := by
  show (if (PySem.W.subIn K (.ref D) (.type "BaseException") == some true) = true then PySem.W.kitCls K (.ref C) (.ref D) else none) = some false
  rw [h1, if_pos (by rfl)]
  exact kitCls_ref h2 h3 h4
theorem kit_ty {K : PySem.W.Frag} {C : Addr} {t : String} (h2 : PySem.W.isClsIn K C = true) (h3 : PySem.W.typeIn K (.ref C) = some (.type "type")) (h4 : PySem.W.subIn K (.type t) (.ref C) = some false) : PySem.W.kitOne K (.type t) (.ref C) = some false ∧ PySem.W.notFirst K C (.type t) = true := by
  have ne : (Value.type t == Value.ref C) = false := rfl
  refine ⟨?_, ?_⟩
  · show (if (Value.type t == Value.ref C) = true then some true else PySem.W.kitCls K (.type t) (.ref C)) = some false
    rw [ne, if_neg Bool.false_ne_true]
    exact kitCls_ref h2 h3 h4
  · show ((Value.type t == Value.ref C) || PySem.W.subIn K (.type t) (.ref C) == some false) = true
    rw [h4, ne]
    rfl
section
variable {P : Program} {w : World} {K : PySem.W.Frag} {mg : Str → Option Value} {base : Heap}
theorem ok_init_NoName {C fI : Addr} {fd : FuncData} (T : Ex.ErrC K mg "NoName" "value" C) (F : Fun K "__init__" "NoName.__init__" sInit_NoName fI fd) : FnOk P w K mg base CX0 1 fI fd ["self", "value"] (Ex.spInit C "value") := by
  refine F.ok scInit_NoName (fun vs H Q E h => ?_) (fun cdv A outer s H vs Q E hr h => ⟨_, pss_one (ps_ost (pv 0) (pv 1)), ?_⟩)
  · obtain ⟨a, v, rfl, _⟩ := h
    rfl
  · obtain ⟨a, v, rfl, ha, q⟩ := h
    exact ⟨_, rfl, _, rfl, a, C, rfl, T.t, T.no, .inl ⟨ha, q⟩⟩
theorem ok_init_NoBody {C fI : Addr} {fd : FuncData} (T : Ex.ErrC K mg "NoBody" "place" C) (F : Fun K "__init__" "NoBody.__init__" sInit_NoBody fI fd) : FnOk P w K mg base CX0 1 fI fd ["self", "place"] (Ex.spInit C "place") := by
  refine F.ok scInit_NoBody (fun vs H Q E h => ?_) (fun cdv A outer s H vs Q E hr h => ⟨_, pss_one (ps_ost (pv 0) (pv 1)), ?_⟩)
  · obtain ⟨a, v, rfl, _⟩ := h
    rfl
  · obtain ⟨a, v, rfl, ha, q⟩ := h
    exact ⟨_, rfl, _, rfl, a, C, rfl, T.t, T.no, .inl ⟨ha, q⟩⟩
end
theorem all_mk {l : PySem.W.OpenLaw} {w : World} {K : PySem.W.Frag} {h : Heap} {mg : Str → Option Value} {fa : Addr} (X : K.In h) (G : h.Ns mainGlobals mg) (hfa : mg "law" = some (.ref fa))
    {f1 : Addr} (a1 : PySem.W.nsIn K mainGlobals "is_number" = some (some (.ref f1)))
    {od1 an1 : Option Addr} {sl1 : Array (Option Value)} {oc1 kV1 dc1 pm1 cd1 ct1 : Value}
    (l1 : K.lookup f1 = some ⟨oc1, od1, .func (PySem.W.fnOf "is_number" "is_number" (defArgs sIs_number) (defBody sIs_number) (defScope sIs_number) .none kV1 dc1 pm1 an1 cd1 ct1), sl1⟩)
    (c1 : PySem.W.codeIn K cd1 "is_number" = true)
    (k1 : PySem.W.keepIn K (.ref f1) = true)
    {f2 : Addr} (a2 : PySem.W.nsIn K mainGlobals "is_one_of" = some (some (.ref f2)))
    {od2 an2 : Option Addr} {sl2 : Array (Option Value)} {oc2 kV2 dc2 pm2 cd2 ct2 : Value}
    (l2 : K.lookup f2 = some ⟨oc2, od2, .func (PySem.W.fnOf "is_one_of" "is_one_of" (defArgs sIs_one_of) (defBody sIs_one_of) (defScope sIs_one_of) .none kV2 dc2 pm2 an2 cd2 ct2), sl2⟩)
    (c2 : PySem.W.codeIn K cd2 "is_one_of" = true)
    (k2 : PySem.W.keepIn K (.ref f2) = true)
    {f3 : Addr} (a3 : PySem.W.nsIn K mainGlobals "check_method" = some (some (.ref f3)))
    {od3 an3 : Option Addr} {sl3 : Array (Option Value)} {oc3 kV3 dc3 pm3 cd3 ct3 : Value}
    (l3 : K.lookup f3 = some ⟨oc3, od3, .func (PySem.W.fnOf "check_method" "check_method" (defArgs sCheck_method) (defBody sCheck_method) (defScope sCheck_method) .none kV3 dc3 pm3 an3 cd3 ct3), sl3⟩)
    (c3 : PySem.W.codeIn K cd3 "check_method" = true)
    (k3 : PySem.W.keepIn K (.ref f3) = true)
    {f4 : Addr} (a4 : PySem.W.nsIn K mainGlobals "kind_of" = some (some (.ref f4)))
    {od4 an4 : Option Addr} {sl4 : Array (Option Value)} {oc4 kV4 dc4 pm4 cd4 ct4 : Value}
    (l4 : K.lookup f4 = some ⟨oc4, od4, .func (PySem.W.fnOf "kind_of" "kind_of" (defArgs sKind_of) (defBody sKind_of) (defScope sKind_of) .none kV4 dc4 pm4 an4 cd4 ct4), sl4⟩)
    (c4 : PySem.W.codeIn K cd4 "kind_of" = true)
    (k4 : PySem.W.keepIn K (.ref f4) = true)
    {f5 : Addr} (a5 : PySem.W.nsIn K mainGlobals "takes_other" = some (some (.ref f5)))
    {od5 an5 : Option Addr} {sl5 : Array (Option Value)} {oc5 kV5 dc5 pm5 cd5 ct5 : Value}
    (l5 : K.lookup f5 = some ⟨oc5, od5, .func (PySem.W.fnOf "takes_other" "takes_other" (defArgs sTakes_other) (defBody sTakes_other) (defScope sTakes_other) .none kV5 dc5 pm5 an5 cd5 ct5), sl5⟩)
    (c5 : PySem.W.codeIn K cd5 "takes_other" = true)
    (k5 : PySem.W.keepIn K (.ref f5) = true)
    {f6 : Addr} (a6 : PySem.W.nsIn K mainGlobals "may_decline" = some (some (.ref f6)))
    {od6 an6 : Option Addr} {sl6 : Array (Option Value)} {oc6 kV6 dc6 pm6 cd6 ct6 : Value}
    (l6 : K.lookup f6 = some ⟨oc6, od6, .func (PySem.W.fnOf "may_decline" "may_decline" (defArgs sMay_decline) (defBody sMay_decline) (defScope sMay_decline) .none kV6 dc6 pm6 an6 cd6 ct6), sl6⟩)
    (c6 : PySem.W.codeIn K cd6 "may_decline" = true)
    (k6 : PySem.W.keepIn K (.ref f6) = true)
    {f7 : Addr} (a7 : PySem.W.nsIn K mainGlobals "is_count" = some (some (.ref f7)))
    {od7 an7 : Option Addr} {sl7 : Array (Option Value)} {oc7 kV7 dc7 pm7 cd7 ct7 : Value}
    (l7 : K.lookup f7 = some ⟨oc7, od7, .func (PySem.W.fnOf "is_count" "is_count" (defArgs sIs_count) (defBody sIs_count) (defScope sIs_count) .none kV7 dc7 pm7 an7 cd7 ct7), sl7⟩)
    (c7 : PySem.W.codeIn K cd7 "is_count" = true)
    (k7 : PySem.W.keepIn K (.ref f7) = true)
    {f8 : Addr} (a8 : PySem.W.nsIn K mainGlobals "check_body_method" = some (some (.ref f8)))
    {od8 an8 : Option Addr} {sl8 : Array (Option Value)} {oc8 kV8 dc8 pm8 cd8 ct8 : Value}
    (l8 : K.lookup f8 = some ⟨oc8, od8, .func (PySem.W.fnOf "check_body_method" "check_body_method" (defArgs sCheck_body_method) (defBody sCheck_body_method) (defScope sCheck_body_method) .none kV8 dc8 pm8 an8 cd8 ct8), sl8⟩)
    (c8 : PySem.W.codeIn K cd8 "check_body_method" = true)
    (k8 : PySem.W.keepIn K (.ref f8) = true)
    {f9 : Addr} (a9 : PySem.W.nsIn K mainGlobals "_is_role" = some (some (.ref f9)))
    {od9 an9 : Option Addr} {sl9 : Array (Option Value)} {oc9 kV9 dc9 pm9 cd9 ct9 : Value}
    (l9 : K.lookup f9 = some ⟨oc9, od9, .func (PySem.W.fnOf "_is_role" "_is_role" (defArgs sIs_role) (defBody sIs_role) (defScope sIs_role) .none kV9 dc9 pm9 an9 cd9 ct9), sl9⟩)
    (c9 : PySem.W.codeIn K cd9 "_is_role" = true)
    (k9 : PySem.W.keepIn K (.ref f9) = true)
    {f10 : Addr} (a10 : PySem.W.nsIn K mainGlobals "_is_ask" = some (some (.ref f10)))
    {od10 an10 : Option Addr} {sl10 : Array (Option Value)} {oc10 kV10 dc10 pm10 cd10 ct10 : Value}
    (l10 : K.lookup f10 = some ⟨oc10, od10, .func (PySem.W.fnOf "_is_ask" "_is_ask" (defArgs sIs_ask) (defBody sIs_ask) (defScope sIs_ask) .none kV10 dc10 pm10 an10 cd10 ct10), sl10⟩)
    (c10 : PySem.W.codeIn K cd10 "_is_ask" = true)
    (k10 : PySem.W.keepIn K (.ref f10) = true)
    {f11 : Addr} (a11 : PySem.W.nsIn K mainGlobals "_is_word_alone" = some (some (.ref f11)))
    {od11 an11 : Option Addr} {sl11 : Array (Option Value)} {oc11 kV11 dc11 pm11 cd11 ct11 : Value}
    (l11 : K.lookup f11 = some ⟨oc11, od11, .func (PySem.W.fnOf "_is_word_alone" "_is_word_alone" (defArgs sIs_word_alone) (defBody sIs_word_alone) (defScope sIs_word_alone) .none kV11 dc11 pm11 an11 cd11 ct11), sl11⟩)
    (c11 : PySem.W.codeIn K cd11 "_is_word_alone" = true)
    (k11 : PySem.W.keepIn K (.ref f11) = true)
    {f12 : Addr} (a12 : PySem.W.nsIn K mainGlobals "_is_node" = some (some (.ref f12)))
    {od12 an12 : Option Addr} {sl12 : Array (Option Value)} {oc12 kV12 dc12 pm12 cd12 ct12 : Value}
    (l12 : K.lookup f12 = some ⟨oc12, od12, .func (PySem.W.fnOf "_is_node" "_is_node" (defArgs sIs_node) (defBody sIs_node) (defScope sIs_node) .none kV12 dc12 pm12 an12 cd12 ct12), sl12⟩)
    (c12 : PySem.W.codeIn K cd12 "_is_node" = true)
    (k12 : PySem.W.keepIn K (.ref f12) = true)
    {f13 : Addr} (a13 : PySem.W.nsIn K mainGlobals "_parts" = some (some (.ref f13)))
    {od13 an13 : Option Addr} {sl13 : Array (Option Value)} {oc13 kV13 dc13 pm13 cd13 ct13 : Value}
    (l13 : K.lookup f13 = some ⟨oc13, od13, .func (PySem.W.fnOf "_parts" "_parts" (defArgs sParts) (defBody sParts) (defScope sParts) .none kV13 dc13 pm13 an13 cd13 ct13), sl13⟩)
    (c13 : PySem.W.codeIn K cd13 "_parts" = true)
    (k13 : PySem.W.keepIn K (.ref f13) = true)
    {f14 : Addr} (a14 : PySem.W.nsIn K mainGlobals "_tails" = some (some (.ref f14)))
    {od14 an14 : Option Addr} {sl14 : Array (Option Value)} {oc14 kV14 dc14 pm14 cd14 ct14 : Value}
    (l14 : K.lookup f14 = some ⟨oc14, od14, .func (PySem.W.fnOf "_tails" "_tails" (defArgs sTails) (defBody sTails) (defScope sTails) .none kV14 dc14 pm14 an14 cd14 ct14), sl14⟩)
    (c14 : PySem.W.codeIn K cd14 "_tails" = true)
    (k14 : PySem.W.keepIn K (.ref f14) = true)
    {f15 : Addr} (a15 : PySem.W.nsIn K mainGlobals "_first_wrong" = some (some (.ref f15)))
    {od15 an15 : Option Addr} {sl15 : Array (Option Value)} {oc15 kV15 dc15 pm15 cd15 ct15 : Value}
    (l15 : K.lookup f15 = some ⟨oc15, od15, .func (PySem.W.fnOf "_first_wrong" "_first_wrong" (defArgs sFirst_wrong) (defBody sFirst_wrong) (defScope sFirst_wrong) .none kV15 dc15 pm15 an15 cd15 ct15), sl15⟩)
    (c15 : PySem.W.codeIn K cd15 "_first_wrong" = true)
    (k15 : PySem.W.keepIn K (.ref f15) = true)
    {f16 : Addr} (a16 : PySem.W.nsIn K mainGlobals "_numbered" = some (some (.ref f16)))
    {od16 an16 : Option Addr} {sl16 : Array (Option Value)} {oc16 kV16 dc16 pm16 cd16 ct16 : Value}
    (l16 : K.lookup f16 = some ⟨oc16, od16, .func (PySem.W.fnOf "_numbered" "_numbered" (defArgs sNumbered) (defBody sNumbered) (defScope sNumbered) .none kV16 dc16 pm16 an16 cd16 ct16), sl16⟩)
    (c16 : PySem.W.codeIn K cd16 "_numbered" = true)
    (k16 : PySem.W.keepIn K (.ref f16) = true)
    {f17 : Addr} (a17 : PySem.W.nsIn K mainGlobals "_law_pool" = some (some (.ref f17)))
    {od17 an17 : Option Addr} {sl17 : Array (Option Value)} {oc17 kV17 dc17 pm17 cd17 ct17 : Value}
    (l17 : K.lookup f17 = some ⟨oc17, od17, .func (PySem.W.fnOf "_law_pool" "_law_pool" (defArgs sL_pool) (defBody sL_pool) (defScope sL_pool) .none kV17 dc17 pm17 an17 cd17 ct17), sl17⟩)
    (c17 : PySem.W.codeIn K cd17 "_law_pool" = true)
    (k17 : PySem.W.keepIn K (.ref f17) = true)
    {f18 : Addr} (a18 : PySem.W.nsIn K mainGlobals "_law_take" = some (some (.ref f18)))
    {od18 an18 : Option Addr} {sl18 : Array (Option Value)} {oc18 kV18 dc18 pm18 cd18 ct18 : Value}
    (l18 : K.lookup f18 = some ⟨oc18, od18, .func (PySem.W.fnOf "_law_take" "_law_take" (defArgs sL_take) (defBody sL_take) (defScope sL_take) .none kV18 dc18 pm18 an18 cd18 ct18), sl18⟩)
    (c18 : PySem.W.codeIn K cd18 "_law_take" = true)
    (k18 : PySem.W.keepIn K (.ref f18) = true)
    {f19 : Addr} (a19 : PySem.W.nsIn K mainGlobals "_law_one" = some (some (.ref f19)))
    {od19 an19 : Option Addr} {sl19 : Array (Option Value)} {oc19 kV19 dc19 pm19 cd19 ct19 : Value}
    (l19 : K.lookup f19 = some ⟨oc19, od19, .func (PySem.W.fnOf "_law_one" "_law_one" (defArgs sL_one) (defBody sL_one) (defScope sL_one) .none kV19 dc19 pm19 an19 cd19 ct19), sl19⟩)
    (c19 : PySem.W.codeIn K cd19 "_law_one" = true)
    (k19 : PySem.W.keepIn K (.ref f19) = true)
    {f20 : Addr} (a20 : PySem.W.nsIn K mainGlobals "_law_leaf" = some (some (.ref f20)))
    {od20 an20 : Option Addr} {sl20 : Array (Option Value)} {oc20 kV20 dc20 pm20 cd20 ct20 : Value}
    (l20 : K.lookup f20 = some ⟨oc20, od20, .func (PySem.W.fnOf "_law_leaf" "_law_leaf" (defArgs sL_leaf) (defBody sL_leaf) (defScope sL_leaf) .none kV20 dc20 pm20 an20 cd20 ct20), sl20⟩)
    (c20 : PySem.W.codeIn K cd20 "_law_leaf" = true)
    (k20 : PySem.W.keepIn K (.ref f20) = true)
    {f21 : Addr} (a21 : PySem.W.nsIn K mainGlobals "_law_asking" = some (some (.ref f21)))
    {od21 an21 : Option Addr} {sl21 : Array (Option Value)} {oc21 kV21 dc21 pm21 cd21 ct21 : Value}
    (l21 : K.lookup f21 = some ⟨oc21, od21, .func (PySem.W.fnOf "_law_asking" "_law_asking" (defArgs sL_asking) (defBody sL_asking) (defScope sL_asking) .none kV21 dc21 pm21 an21 cd21 ct21), sl21⟩)
    (c21 : PySem.W.codeIn K cd21 "_law_asking" = true)
    (k21 : PySem.W.keepIn K (.ref f21) = true)
    {f22 : Addr} (a22 : PySem.W.nsIn K mainGlobals "_law_part" = some (some (.ref f22)))
    {od22 an22 : Option Addr} {sl22 : Array (Option Value)} {oc22 kV22 dc22 pm22 cd22 ct22 : Value}
    (l22 : K.lookup f22 = some ⟨oc22, od22, .func (PySem.W.fnOf "_law_part" "_law_part" (defArgs sL_part) (defBody sL_part) (defScope sL_part) .none kV22 dc22 pm22 an22 cd22 ct22), sl22⟩)
    (c22 : PySem.W.codeIn K cd22 "_law_part" = true)
    (k22 : PySem.W.keepIn K (.ref f22) = true)
    {f23 : Addr} (a23 : PySem.W.nsIn K mainGlobals "_law_is_role" = some (some (.ref f23)))
    {od23 an23 : Option Addr} {sl23 : Array (Option Value)} {oc23 kV23 dc23 pm23 cd23 ct23 : Value}
    (l23 : K.lookup f23 = some ⟨oc23, od23, .func (PySem.W.fnOf "_law_is_role" "_law_is_role" (defArgs sL_is_role) (defBody sL_is_role) (defScope sL_is_role) .none kV23 dc23 pm23 an23 cd23 ct23), sl23⟩)
    (c23 : PySem.W.codeIn K cd23 "_law_is_role" = true)
    (k23 : PySem.W.keepIn K (.ref f23) = true)
    {f24 : Addr} (a24 : PySem.W.nsIn K mainGlobals "_law_is_node" = some (some (.ref f24)))
    {od24 an24 : Option Addr} {sl24 : Array (Option Value)} {oc24 kV24 dc24 pm24 cd24 ct24 : Value}
    (l24 : K.lookup f24 = some ⟨oc24, od24, .func (PySem.W.fnOf "_law_is_node" "_law_is_node" (defArgs sL_is_node) (defBody sL_is_node) (defScope sL_is_node) .none kV24 dc24 pm24 an24 cd24 ct24), sl24⟩)
    (c24 : PySem.W.codeIn K cd24 "_law_is_node" = true)
    (k24 : PySem.W.keepIn K (.ref f24) = true)
    {f25 : Addr} (a25 : PySem.W.nsIn K mainGlobals "_law_wrong" = some (some (.ref f25)))
    {od25 an25 : Option Addr} {sl25 : Array (Option Value)} {oc25 kV25 dc25 pm25 cd25 ct25 : Value}
    (l25 : K.lookup f25 = some ⟨oc25, od25, .func (PySem.W.fnOf "_law_wrong" "_law_wrong" (defArgs sL_wrong) (defBody sL_wrong) (defScope sL_wrong) .none kV25 dc25 pm25 an25 cd25 ct25), sl25⟩)
    (c25 : PySem.W.codeIn K cd25 "_law_wrong" = true)
    (k25 : PySem.W.keepIn K (.ref f25) = true)
    {f26 : Addr} (a26 : PySem.W.nsIn K mainGlobals "_law_heard" = some (some (.ref f26)))
    {od26 an26 : Option Addr} {sl26 : Array (Option Value)} {oc26 kV26 dc26 pm26 cd26 ct26 : Value}
    (l26 : K.lookup f26 = some ⟨oc26, od26, .func (PySem.W.fnOf "_law_heard" "_law_heard" (defArgs sL_heard) (defBody sL_heard) (defScope sL_heard) .none kV26 dc26 pm26 an26 cd26 ct26), sl26⟩)
    (c26 : PySem.W.codeIn K cd26 "_law_heard" = true)
    (k26 : PySem.W.keepIn K (.ref f26) = true)
    {f27 : Addr} (a27 : PySem.W.nsIn K mainGlobals "_law_due" = some (some (.ref f27)))
    {od27 an27 : Option Addr} {sl27 : Array (Option Value)} {oc27 kV27 dc27 pm27 cd27 ct27 : Value}
    (l27 : K.lookup f27 = some ⟨oc27, od27, .func (PySem.W.fnOf "_law_due" "_law_due" (defArgs sL_due) (defBody sL_due) (defScope sL_due) .none kV27 dc27 pm27 an27 cd27 ct27), sl27⟩)
    (c27 : PySem.W.codeIn K cd27 "_law_due" = true)
    (k27 : PySem.W.keepIn K (.ref f27) = true)
    {f28 : Addr} (a28 : PySem.W.nsIn K mainGlobals "_law_bent" = some (some (.ref f28)))
    {od28 an28 : Option Addr} {sl28 : Array (Option Value)} {oc28 kV28 dc28 pm28 cd28 ct28 : Value}
    (l28 : K.lookup f28 = some ⟨oc28, od28, .func (PySem.W.fnOf "_law_bent" "_law_bent" (defArgs sL_bent) (defBody sL_bent) (defScope sL_bent) .none kV28 dc28 pm28 an28 cd28 ct28), sl28⟩)
    (c28 : PySem.W.codeIn K cd28 "_law_bent" = true)
    (k28 : PySem.W.keepIn K (.ref f28) = true)
    {f29 : Addr} (a29 : PySem.W.nsIn K mainGlobals "law" = some (some (.ref f29)))
    {od29 an29 : Option Addr} {sl29 : Array (Option Value)} {oc29 kV29 dc29 pm29 cd29 ct29 : Value}
    (l29 : K.lookup f29 = some ⟨oc29, od29, .func (PySem.W.fnOf "law" "law" (defArgs sLaw) (defBody sLaw) (defScope sLaw) .none kV29 dc29 pm29 an29 cd29 ct29), sl29⟩)
    (c29 : PySem.W.codeIn K cd29 "law" = true)
    (k29 : PySem.W.keepIn K (.ref f29) = true)
    (z_int : PySem.W.nsIn K mainGlobals "int" = some none)
    (z_len : PySem.W.nsIn K mainGlobals "len" = some none)
    (z_max : PySem.W.nsIn K mainGlobals "max" = some none)
    (z_min : PySem.W.nsIn K mainGlobals "min" = some none)
    (z_isinstance : PySem.W.nsIn K mainGlobals "isinstance" = some none)
    (z_range : PySem.W.nsIn K mainGlobals "range" = some none)
    (z_list : PySem.W.nsIn K mainGlobals "list" = some none)
    (z_dict : PySem.W.nsIn K mainGlobals "dict" = some none)
    (z_tuple : PySem.W.nsIn K mainGlobals "tuple" = some none)
    (z_set : PySem.W.nsIn K mainGlobals "set" = some none)
    (z_str : PySem.W.nsIn K mainGlobals "str" = some none)
    (z_bool : PySem.W.nsIn K mainGlobals "bool" = some none)
    (z_repr : PySem.W.nsIn K mainGlobals "repr" = some none)
    (z_all : PySem.W.nsIn K mainGlobals "all" = some none)
    (z_sum : PySem.W.nsIn K mainGlobals "sum" = some none)
    (z_zip : PySem.W.nsIn K mainGlobals "zip" = some none)
    (z_enumerate : PySem.W.nsIn K mainGlobals "enumerate" = some none)
    {CA : Addr}
    (aA : PySem.W.nsIn K mainGlobals "AnswerError" = some (some (.ref CA)))
    (hsp : PySem.W.specialIn K (.builtin "object.__class__") "__get__" = some (some (.builtin "getset_descriptor.__get__")))
    (htk : PySem.W.takesIn K (.builtin "object.__class__") = some true)
    {C_NoName N_NoName : Addr} {nm_NoName q_NoName : Str} {bs_NoName : List Value} {sn_NoName : List Str} {sub_NoName : List Value} {ab_NoName : Bool} {col_NoName : Option Bool} {dd_NoName : Option Addr} {m0_NoName m1_NoName m2_NoName m3_NoName m5_NoName : Option Value}
    (aC_NoName : PySem.W.nsIn K mainGlobals "NoName" = some (some (.ref C_NoName)))
    (xL_NoName : K.lookup C_NoName = some (excClassObj nm_NoName q_NoName C_NoName N_NoName bs_NoName [.ref CA, .type "ValueError", .type "Exception", .type "BaseException", .type "object"] true sn_NoName sub_NoName ab_NoName col_NoName dd_NoName m0_NoName m1_NoName m2_NoName m3_NoName m5_NoName "ValueError.__new__"))
    (sa_NoName : PySem.W.findIn K (.ref C_NoName) "__setattr__" = some (some (.builtin "object.__setattr__")))
    (eC_NoName : PySem.W.subIn K (.ref C_NoName) (.type "BaseException") = some true)
    (tC_NoName : PySem.W.typeIn K (.ref C_NoName) = some (.type "type"))
    (kC_NoName : PySem.W.keepIn K (.ref C_NoName) = true)
    (ga_NoName : PySem.W.findIn K (.ref C_NoName) "__getattribute__" = some (some (.builtin "BaseException.__getattribute__")))
    (gg_NoName : PySem.W.findIn K (.ref C_NoName) "__getattr__" = some none)
    (hC_NoName : PySem.W.hasDictIn K C_NoName = true)
    (hcl_NoName : PySem.W.findIn K (.ref C_NoName) "__class__" = some (some (.builtin "object.__class__")))
    (hmr_NoName : PySem.W.mroIn K C_NoName (.type "object") = some true)
    (nf_NoName : PySem.W.findIn K (.ref C_NoName) "value" = some none)
    (cC_NoName : PySem.W.isClsIn K C_NoName = true)
    (sC_NoName : PySem.W.subIn K (.ref C_NoName) (.ref C_NoName) = some true)
    {fI_NoName : Addr}
    (iI_NoName : PySem.W.findIn K (.ref C_NoName) "__init__" = some (some (.ref fI_NoName)))
    (tI_NoName : PySem.W.typeIn K (.ref fI_NoName) = some (.type "function"))
    {odI_NoName anI_NoName : Option Addr} {slI_NoName : Array (Option Value)} {ocI_NoName dcI_NoName pmI_NoName cdI_NoName ctI_NoName : Value}
    (lI_NoName : K.lookup fI_NoName = some ⟨ocI_NoName, odI_NoName, .func (PySem.W.fnOf "__init__" "NoName.__init__" (defArgs sInit_NoName) (defBody sInit_NoName) (defScope sInit_NoName) .none .none dcI_NoName pmI_NoName anI_NoName cdI_NoName ctI_NoName), slI_NoName⟩)
    (cI_NoName : PySem.W.codeIn K cdI_NoName "NoName.__init__" = true)
    (kI_NoName : PySem.W.keepIn K (.ref fI_NoName) = true)
    {C_NoBody N_NoBody : Addr} {nm_NoBody q_NoBody : Str} {bs_NoBody : List Value} {sn_NoBody : List Str} {sub_NoBody : List Value} {ab_NoBody : Bool} {col_NoBody : Option Bool} {dd_NoBody : Option Addr} {m0_NoBody m1_NoBody m2_NoBody m3_NoBody m5_NoBody : Option Value}
    (aC_NoBody : PySem.W.nsIn K mainGlobals "NoBody" = some (some (.ref C_NoBody)))
    (xL_NoBody : K.lookup C_NoBody = some (excClassObj nm_NoBody q_NoBody C_NoBody N_NoBody bs_NoBody [.ref CA, .type "ValueError", .type "Exception", .type "BaseException", .type "object"] true sn_NoBody sub_NoBody ab_NoBody col_NoBody dd_NoBody m0_NoBody m1_NoBody m2_NoBody m3_NoBody m5_NoBody "ValueError.__new__"))
    (sa_NoBody : PySem.W.findIn K (.ref C_NoBody) "__setattr__" = some (some (.builtin "object.__setattr__")))
    (eC_NoBody : PySem.W.subIn K (.ref C_NoBody) (.type "BaseException") = some true)
    (tC_NoBody : PySem.W.typeIn K (.ref C_NoBody) = some (.type "type"))
    (kC_NoBody : PySem.W.keepIn K (.ref C_NoBody) = true)
    (ga_NoBody : PySem.W.findIn K (.ref C_NoBody) "__getattribute__" = some (some (.builtin "BaseException.__getattribute__")))
    (gg_NoBody : PySem.W.findIn K (.ref C_NoBody) "__getattr__" = some none)
    (hC_NoBody : PySem.W.hasDictIn K C_NoBody = true)
    (hcl_NoBody : PySem.W.findIn K (.ref C_NoBody) "__class__" = some (some (.builtin "object.__class__")))
    (hmr_NoBody : PySem.W.mroIn K C_NoBody (.type "object") = some true)
    (nf_NoBody : PySem.W.findIn K (.ref C_NoBody) "place" = some none)
    (cC_NoBody : PySem.W.isClsIn K C_NoBody = true)
    (sC_NoBody : PySem.W.subIn K (.ref C_NoBody) (.ref C_NoBody) = some true)
    {fI_NoBody : Addr}
    (iI_NoBody : PySem.W.findIn K (.ref C_NoBody) "__init__" = some (some (.ref fI_NoBody)))
    (tI_NoBody : PySem.W.typeIn K (.ref fI_NoBody) = some (.type "function"))
    {odI_NoBody anI_NoBody : Option Addr} {slI_NoBody : Array (Option Value)} {ocI_NoBody dcI_NoBody pmI_NoBody cdI_NoBody ctI_NoBody : Value}
    (lI_NoBody : K.lookup fI_NoBody = some ⟨ocI_NoBody, odI_NoBody, .func (PySem.W.fnOf "__init__" "NoBody.__init__" (defArgs sInit_NoBody) (defBody sInit_NoBody) (defScope sInit_NoBody) .none .none dcI_NoBody pmI_NoBody anI_NoBody cdI_NoBody ctI_NoBody), slI_NoBody⟩)
    (cI_NoBody : PySem.W.codeIn K cdI_NoBody "NoBody.__init__" = true)
    (kI_NoBody : PySem.W.keepIn K (.ref fI_NoBody) = true)
    (cC_A : PySem.W.isClsIn K CA = true)
    (tC_A : PySem.W.typeIn K (.ref CA) = some (.type "type"))
    (ka_NoName : PySem.W.subIn K (.ref C_NoName) (.ref CA) = some true)
    (kv_NoName : PySem.W.subIn K (.ref C_NoName) (.type "ValueError") = some true)
    (ka_NoBody : PySem.W.subIn K (.ref C_NoBody) (.ref CA) = some true)
    (kv_NoBody : PySem.W.subIn K (.ref C_NoBody) (.type "ValueError") = some true)
    (no_NoBody_NoName : PySem.W.subIn K (.ref C_NoBody) (.ref C_NoName) = some false)
    {C_Body : Addr}
    (aK_Body : PySem.W.nsIn K mainGlobals "Body" = some (some (.ref C_Body)))
    (pg_Body : PySem.W.plainGet K C_Body Str.empty = true)
    (hd_Body : PySem.W.hasDictIn K C_Body = true)
    (po_Body : PySem.W.plainOver K C_Body = true)
    (sa_Body : PySem.W.findIn K (.ref C_Body) "__setattr__" = some (some (.builtin "object.__setattr__")))
    (mk_Body : PySem.W.makesIn K C_Body = true)
    (kc_Body : PySem.W.keepIn K (.ref C_Body) = true)
    (ne_Body : PySem.W.findIn K (.ref C_Body) "__ne__" = some (some (.builtin "object.__ne__")))
    (ob_Body : PySem.W.mroIn K C_Body (.type "object") = some true)
    (hc_Body : PySem.W.findIn K (.ref C_Body) "__class__" = some (some (.builtin "object.__class__")))
    (dq_Body : PySem.W.subIn K (.ref C_Body) (.type "collections.deque") = some false)
    (cC_Body : PySem.W.isClsIn K C_Body = true)
    (tC_Body : PySem.W.typeIn K (.ref C_Body) = some (.type "type"))
    (n_Body_method : PySem.W.findIn K (.ref C_Body) "method" = some none)
    (n_Body_expression : PySem.W.findIn K (.ref C_Body) "expression" = some none)
    (n_Body__nodes : PySem.W.findIn K (.ref C_Body) "_nodes" = some none)
    {f_Body_init : Addr}
    (a_Body_init : PySem.W.findIn K (.ref C_Body) "__init__" = some (some (.ref f_Body_init)))
    (i_Body_init : PySem.W.isFn K (.ref f_Body_init) = true)
    {od_Body_init an_Body_init : Option Addr} {sl_Body_init : Array (Option Value)} {oc_Body_init kV_Body_init dc_Body_init pm_Body_init cd_Body_init ct_Body_init : Value}
    (l_Body_init : K.lookup f_Body_init = some ⟨oc_Body_init, od_Body_init, .func (PySem.W.fnOf "__init__" "Body.__init__" (defArgs sBody___init__) (defBody sBody___init__) (defScope sBody___init__) .none kV_Body_init dc_Body_init pm_Body_init an_Body_init cd_Body_init ct_Body_init), sl_Body_init⟩)
    (c_Body_init : PySem.W.codeIn K cd_Body_init "Body.__init__" = true)
    (k_Body_init : PySem.W.keepIn K (.ref f_Body_init) = true)
    {p_METHODS : Addr} {d_METHODS : Option Addr} {i_METHODS : Array Value} {n_METHODS : Nat} {s_METHODS : Array (Option Value)}
    (a_METHODS : PySem.W.nsIn K mainGlobals "METHODS" = some (some (.ref p_METHODS)))
    (l_METHODS : K.lookup p_METHODS = some ⟨.type "tuple", d_METHODS, .seq i_METHODS n_METHODS, s_METHODS⟩)
    (z_METHODS : i_METHODS.size ≤ sizeLine)
    (v_METHODS : Vals (methods.map V.str) i_METHODS.toList)
    {p_OTHER_TAKERS : Addr} {d_OTHER_TAKERS : Option Addr} {i_OTHER_TAKERS : Array Value} {n_OTHER_TAKERS : Nat} {s_OTHER_TAKERS : Array (Option Value)}
    (a_OTHER_TAKERS : PySem.W.nsIn K mainGlobals "OTHER_TAKERS" = some (some (.ref p_OTHER_TAKERS)))
    (l_OTHER_TAKERS : K.lookup p_OTHER_TAKERS = some ⟨.type "tuple", d_OTHER_TAKERS, .seq i_OTHER_TAKERS n_OTHER_TAKERS, s_OTHER_TAKERS⟩)
    (z_OTHER_TAKERS : i_OTHER_TAKERS.size ≤ sizeLine)
    (v_OTHER_TAKERS : Vals (others.map V.str) i_OTHER_TAKERS.toList)
    {p_DECLINERS : Addr} {d_DECLINERS : Option Addr} {i_DECLINERS : Array Value} {n_DECLINERS : Nat} {s_DECLINERS : Array (Option Value)}
    (a_DECLINERS : PySem.W.nsIn K mainGlobals "DECLINERS" = some (some (.ref p_DECLINERS)))
    (l_DECLINERS : K.lookup p_DECLINERS = some ⟨.type "tuple", d_DECLINERS, .seq i_DECLINERS n_DECLINERS, s_DECLINERS⟩)
    (z_DECLINERS : i_DECLINERS.size ≤ sizeLine)
    (v_DECLINERS : Vals (decliners.map V.str) i_DECLINERS.toList)
    {p_BODY_KINDS : Addr} {d_BODY_KINDS : Option Addr} {i_BODY_KINDS : Array Value} {n_BODY_KINDS : Nat} {s_BODY_KINDS : Array (Option Value)}
    (a_BODY_KINDS : PySem.W.nsIn K mainGlobals "BODY_KINDS" = some (some (.ref p_BODY_KINDS)))
    (l_BODY_KINDS : K.lookup p_BODY_KINDS = some ⟨.type "tuple", d_BODY_KINDS, .seq i_BODY_KINDS n_BODY_KINDS, s_BODY_KINDS⟩)
    (z_BODY_KINDS : i_BODY_KINDS.size ≤ sizeLine)
    (v_BODY_KINDS : Vals (bodyKinds.map V.str) i_BODY_KINDS.toList)
    {p_ANSWER_WORDS : Addr} {d_ANSWER_WORDS : Option Addr} {i_ANSWER_WORDS : Array Value} {n_ANSWER_WORDS : Nat} {s_ANSWER_WORDS : Array (Option Value)}
    (a_ANSWER_WORDS : PySem.W.nsIn K mainGlobals "ANSWER_WORDS" = some (some (.ref p_ANSWER_WORDS)))
    (l_ANSWER_WORDS : K.lookup p_ANSWER_WORDS = some ⟨.type "tuple", d_ANSWER_WORDS, .seq i_ANSWER_WORDS n_ANSWER_WORDS, s_ANSWER_WORDS⟩)
    (z_ANSWER_WORDS : i_ANSWER_WORDS.size ≤ sizeLine)
    (v_ANSWER_WORDS : Vals (answerW.map V.str) i_ANSWER_WORDS.toList)
    {p_ASKED_OF_ONE : Addr} {d_ASKED_OF_ONE : Option Addr} {i_ASKED_OF_ONE : Array Value} {n_ASKED_OF_ONE : Nat} {s_ASKED_OF_ONE : Array (Option Value)}
    (a_ASKED_OF_ONE : PySem.W.nsIn K mainGlobals "ASKED_OF_ONE" = some (some (.ref p_ASKED_OF_ONE)))
    (l_ASKED_OF_ONE : K.lookup p_ASKED_OF_ONE = some ⟨.type "tuple", d_ASKED_OF_ONE, .seq i_ASKED_OF_ONE n_ASKED_OF_ONE, s_ASKED_OF_ONE⟩)
    (z_ASKED_OF_ONE : i_ASKED_OF_ONE.size ≤ sizeLine)
    (v_ASKED_OF_ONE : Vals (askOne.map V.str) i_ASKED_OF_ONE.toList)
    {p_ASKED_OF_TWO : Addr} {d_ASKED_OF_TWO : Option Addr} {i_ASKED_OF_TWO : Array Value} {n_ASKED_OF_TWO : Nat} {s_ASKED_OF_TWO : Array (Option Value)}
    (a_ASKED_OF_TWO : PySem.W.nsIn K mainGlobals "ASKED_OF_TWO" = some (some (.ref p_ASKED_OF_TWO)))
    (l_ASKED_OF_TWO : K.lookup p_ASKED_OF_TWO = some ⟨.type "tuple", d_ASKED_OF_TWO, .seq i_ASKED_OF_TWO n_ASKED_OF_TWO, s_ASKED_OF_TWO⟩)
    (z_ASKED_OF_TWO : i_ASKED_OF_TWO.size ≤ sizeLine)
    (v_ASKED_OF_TWO : Vals (askTwo.map V.str) i_ASKED_OF_TWO.toList)
    {t_MOST_COUNT : Tok}
    (a_MOST_COUNT : PySem.W.nsIn K mainGlobals "MOST_COUNT" = some (some (.int 4 t_MOST_COUNT)))
    {t_MOST_NODES : Tok}
    (a_MOST_NODES : PySem.W.nsIn K mainGlobals "MOST_NODES" = some (some (.int 16 t_MOST_NODES)))
    {t_MOST_DEPTH : Tok}
    (a_MOST_DEPTH : PySem.W.nsIn K mainGlobals "MOST_DEPTH" = some (some (.int 6 t_MOST_DEPTH)))
    {p_KINDS : Addr} {e_KINDS : Array DictEntry} {n_KINDS : Nat}
    (a_KINDS : PySem.W.nsIn K mainGlobals "KINDS" = some (some (.ref p_KINDS)))
    (l_KINDS : K.lookup p_KINDS = some ⟨.type "dict", none, .dict e_KINDS n_KINDS, #[]⟩)
    (y_KINDS : PySem.W.KeysLit w.params e_KINDS.toList)
    {t_KINDS_truth : Tok}
    (g_KINDS_truth : PySem.W.nsIn K p_KINDS "truth" = some (some (.str "flag" t_KINDS_truth)))
    {t_KINDS_length : Tok}
    (g_KINDS_length : PySem.W.nsIn K p_KINDS "length" = some (some (.str "count" t_KINDS_length)))
    {t_KINDS_item : Tok}
    (g_KINDS_item : PySem.W.nsIn K p_KINDS "item" = some (some (.str "item" t_KINDS_item)))
    {t_KINDS_walk : Tok}
    (g_KINDS_walk : PySem.W.nsIn K p_KINDS "walk" = some (some (.str "walker" t_KINDS_walk)))
    {t_KINDS_back : Tok}
    (g_KINDS_back : PySem.W.nsIn K p_KINDS "back" = some (some (.str "walker" t_KINDS_back)))
    {t_KINDS_has : Tok}
    (g_KINDS_has : PySem.W.nsIn K p_KINDS "has" = some (some (.str "flag" t_KINDS_has)))
    {t_KINDS_like : Tok}
    (g_KINDS_like : PySem.W.nsIn K p_KINDS "like" = some (some (.str "flag" t_KINDS_like)))
    {t_KINDS_unlike : Tok}
    (g_KINDS_unlike : PySem.W.nsIn K p_KINDS "unlike" = some (some (.str "flag" t_KINDS_unlike)))
    {t_KINDS_before : Tok}
    (g_KINDS_before : PySem.W.nsIn K p_KINDS "before" = some (some (.str "flag" t_KINDS_before)))
    {t_KINDS_behind : Tok}
    (g_KINDS_behind : PySem.W.nsIn K p_KINDS "behind" = some (some (.str "flag" t_KINDS_behind)))
    {t_KINDS_hash : Tok}
    (g_KINDS_hash : PySem.W.nsIn K p_KINDS "hash" = some (some (.str "count" t_KINDS_hash)))
    {t_KINDS_grow : Tok}
    (g_KINDS_grow : PySem.W.nsIn K p_KINDS "grow" = some (some (.str "any" t_KINDS_grow)))
    {t_KINDS_plus : Tok}
    (g_KINDS_plus : PySem.W.nsIn K p_KINDS "plus" = some (some (.str "any" t_KINDS_plus)))
    {t_KINDS_call : Tok}
    (g_KINDS_call : PySem.W.nsIn K p_KINDS "call" = some (some (.str "any" t_KINDS_call)))
    {p_PARTS : Addr} {e_PARTS : Array DictEntry} {n_PARTS : Nat}
    (a_PARTS : PySem.W.nsIn K mainGlobals "PARTS" = some (some (.ref p_PARTS)))
    (l_PARTS : K.lookup p_PARTS = some ⟨.type "dict", none, .dict e_PARTS n_PARTS, #[]⟩)
    (y_PARTS : PySem.W.KeysLit w.params e_PARTS.toList)
    {t_PARTS_not : Tok}
    (g_PARTS_not : PySem.W.nsIn K p_PARTS "not" = some (some (.int 1 t_PARTS_not)))
    {t_PARTS_if : Tok}
    (g_PARTS_if : PySem.W.nsIn K p_PARTS "if" = some (some (.int 3 t_PARTS_if)))
    (o_PARTS : (p_PARTS == sysModules) = false)
    (m_PARTS_yes : PySem.W.nsIn K p_PARTS "yes" = some none)
    (m_PARTS_no : PySem.W.nsIn K p_PARTS "no" = some none)
    (m_PARTS_raise : PySem.W.nsIn K p_PARTS "raise" = some none)
    (m_PARTS_further : PySem.W.nsIn K p_PARTS "further" = some none)
    (m_PARTS_decline : PySem.W.nsIn K p_PARTS "decline" = some none)
    (m_PARTS_count : PySem.W.nsIn K p_PARTS "count" = some none)
    (m_PARTS_ask : PySem.W.nsIn K p_PARTS "ask" = some none)
    (m_PARTS_truth : PySem.W.nsIn K p_PARTS "truth" = some none)
    (m_PARTS_size : PySem.W.nsIn K p_PARTS "size" = some none)
    (m_PARTS_hash : PySem.W.nsIn K p_PARTS "hash" = some none)
    (m_PARTS_member : PySem.W.nsIn K p_PARTS "member" = some none)
    (m_PARTS_like : PySem.W.nsIn K p_PARTS "like" = some none)
    (m_PARTS_unlike : PySem.W.nsIn K p_PARTS "unlike" = some none)
    (m_PARTS_before : PySem.W.nsIn K p_PARTS "before" = some none)
    (m_PARTS_behind : PySem.W.nsIn K p_PARTS "behind" = some none)
    (m_PARTS_self : PySem.W.nsIn K p_PARTS "self" = some none)
    (m_PARTS_other : PySem.W.nsIn K p_PARTS "other" = some none)
    (m_PARTS_maybe : PySem.W.nsIn K p_PARTS "maybe" = some none)
    (m_PARTS_1 : PySem.W.nsIn K p_PARTS "1" = some none)
    (m_PARTS_each : PySem.W.nsIn K p_PARTS "each" = some none)
    (m_PARTS_me : PySem.W.nsIn K p_PARTS "me" = some none)
    : ∃ fd : FuncData, (∀ (s : Shared) (u : Value), BindsTo s fd ⟨[u], []⟩ [("_law_script", u)]) ∧ ∀ base : Heap, K.In base → base.Ns mainGlobals mg → FnG l.prog w K mg base CX0 12 fa fd ["_law_script"] (spLaw K) := by
  have e := hfa.symm.trans (PySem.W.mg_of X G a29)
  cases e
  have T : Txt K mg := { int := PySem.W.mg_none_of X G z_int, len := PySem.W.mg_none_of X G z_len, max := PySem.W.mg_none_of X G z_max, min := PySem.W.mg_none_of X G z_min, isinstance := PySem.W.mg_none_of X G z_isinstance, range := PySem.W.mg_none_of X G z_range, list := PySem.W.mg_none_of X G z_list, dict := PySem.W.mg_none_of X G z_dict, tuple := PySem.W.mg_none_of X G z_tuple, set := PySem.W.mg_none_of X G z_set, str := PySem.W.mg_none_of X G z_str, bool := PySem.W.mg_none_of X G z_bool, repr := PySem.W.mg_none_of X G z_repr, all := PySem.W.mg_none_of X G z_all, sum := PySem.W.mg_none_of X G z_sum, zip := PySem.W.mg_none_of X G z_zip, enumerate := PySem.W.mg_none_of X G z_enumerate }
  have D_is_number : DefAt K mg "is_number" sIs_number ["value"] := defAt X G (fun _ _ _ _ _ _ us hl => match us, hl with | [_], _ => rfl) a1 l1 c1 k1
  have D_is_one_of : DefAt K mg "is_one_of" sIs_one_of ["value", "words"] := defAt X G (fun _ _ _ _ _ _ us hl => match us, hl with | [_, _], _ => rfl) a2 l2 c2 k2
  have D_check_method : DefAt K mg "check_method" sCheck_method ["method"] := defAt X G (fun _ _ _ _ _ _ us hl => match us, hl with | [_], _ => rfl) a3 l3 c3 k3
  have D_kind_of : DefAt K mg "kind_of" sKind_of ["method"] := defAt X G (fun _ _ _ _ _ _ us hl => match us, hl with | [_], _ => rfl) a4 l4 c4 k4
  have D_takes_other : DefAt K mg "takes_other" sTakes_other ["method"] := defAt X G (fun _ _ _ _ _ _ us hl => match us, hl with | [_], _ => rfl) a5 l5 c5 k5
  have D_may_decline : DefAt K mg "may_decline" sMay_decline ["method"] := defAt X G (fun _ _ _ _ _ _ us hl => match us, hl with | [_], _ => rfl) a6 l6 c6 k6
  have D_is_count : DefAt K mg "is_count" sIs_count ["value"] := defAt X G (fun _ _ _ _ _ _ us hl => match us, hl with | [_], _ => rfl) a7 l7 c7 k7
  have D_check_body_method : DefAt K mg "check_body_method" sCheck_body_method ["method"] := defAt X G (fun _ _ _ _ _ _ us hl => match us, hl with | [_], _ => rfl) a8 l8 c8 k8
  have D__is_role : DefAt K mg "_is_role" sIs_role ["method", "value"] := defAt X G (fun _ _ _ _ _ _ us hl => match us, hl with | [_, _], _ => rfl) a9 l9 c9 k9
  have D__is_ask : DefAt K mg "_is_ask" sIs_ask ["method", "node"] := defAt X G (fun _ _ _ _ _ _ us hl => match us, hl with | [_, _], _ => rfl) a10 l10 c10 k10
  have D__is_word_alone : DefAt K mg "_is_word_alone" sIs_word_alone ["method", "word", "tail"] := defAt X G (fun _ _ _ _ _ _ us hl => match us, hl with | [_, _, _], _ => rfl) a11 l11 c11 k11
  have D__is_node : DefAt K mg "_is_node" sIs_node ["method", "node", "tail"] := defAt X G (fun _ _ _ _ _ _ us hl => match us, hl with | [_, _, _], _ => rfl) a12 l12 c12 k12
  have D__parts : DefAt K mg "_parts" sParts ["node"] := defAt X G (fun _ _ _ _ _ _ us hl => match us, hl with | [_], _ => rfl) a13 l13 c13 k13
  have D__tails : DefAt K mg "_tails" sTails ["node", "tail"] := defAt X G (fun _ _ _ _ _ _ us hl => match us, hl with | [_, _], _ => rfl) a14 l14 c14 k14
  have D__first_wrong : DefAt K mg "_first_wrong" sFirst_wrong ["method", "expression"] := defAt X G (fun _ _ _ _ _ _ us hl => match us, hl with | [_, _], _ => rfl) a15 l15 c15 k15
  have D__numbered : DefAt K mg "_numbered" sNumbered ["node", "number"] := defAt X G (fun _ _ _ _ _ _ us hl => match us, hl with | [_, _], _ => rfl) a16 l16 c16 k16
  have D_L_pool : DefAt K mg "_law_pool" sL_pool ["_law_script", "_law_k"] := defAt X G (fun _ _ _ _ _ _ us hl => match us, hl with | [_, _], _ => rfl) a17 l17 c17 k17
  have D_L_take : DefAt K mg "_law_take" sL_take ["_law_pool_here", "_law_many"] := defAt X G (fun _ _ _ _ _ _ us hl => match us, hl with | [_, _], _ => rfl) a18 l18 c18 k18
  have D_L_one : DefAt K mg "_law_one" sL_one ["_law_pool_here", "_law_some"] := defAt X G (fun _ _ _ _ _ _ us hl => match us, hl with | [_, _], _ => rfl) a19 l19 c19 k19
  have D_L_leaf : DefAt K mg "_law_leaf" sL_leaf ["_law_pool_here", "_law_method", "_law_at_tail"] := defAt X G (fun _ _ _ _ _ _ us hl => match us, hl with | [_, _, _], _ => rfl) a20 l20 c20 k20
  have D_L_asking : DefAt K mg "_law_asking" sL_asking ["_law_pool_here", "_law_method"] := defAt X G (fun _ _ _ _ _ _ us hl => match us, hl with | [_, _], _ => rfl) a21 l21 c21 k21
  have D_L_part : DefAt K mg "_law_part" sL_part ["_law_pool_here", "_law_method", "_law_deep", "_law_at_tail"] := defAt X G (fun _ _ _ _ _ _ us hl => match us, hl with | [_, _, _, _], _ => rfl) a22 l22 c22 k22
  have D_L_is_role : DefAt K mg "_law_is_role" sL_is_role ["_law_method", "_law_role"] := defAt X G (fun _ _ _ _ _ _ us hl => match us, hl with | [_, _], _ => rfl) a23 l23 c23 k23
  have D_L_is_node : DefAt K mg "_law_is_node" sL_is_node ["_law_method", "_law_part_here", "_law_at_tail"] := defAt X G (fun _ _ _ _ _ _ us hl => match us, hl with | [_, _, _], _ => rfl) a24 l24 c24 k24
  have D_L_wrong : DefAt K mg "_law_wrong" sL_wrong ["_law_method", "_law_part_here", "_law_deep", "_law_at_tail", "_law_seen"] := defAt X G (fun _ _ _ _ _ _ us hl => match us, hl with | [_, _, _, _, _], _ => rfl) a25 l25 c25 k25
  have D_L_heard : DefAt K mg "_law_heard" sL_heard ["_law_method", "_law_part_here"] := defAt X G (fun _ _ _ _ _ _ us hl => match us, hl with | [_, _], _ => rfl) a26 l26 c26 k26
  have D_L_due : DefAt K mg "_law_due" sL_due ["_law_method", "_law_part_here"] := defAt X G (fun _ _ _ _ _ _ us hl => match us, hl with | [_, _], _ => rfl) a27 l27 c27 k27
  have D_L_bent : DefAt K mg "_law_bent" sL_bent ["_law_pool_here", "_law_part_here", "_law_deep"] := defAt X G (fun _ _ _ _ _ _ us hl => match us, hl with | [_, _, _], _ => rfl) a28 l28 c28 k28
  have FL := fun_mk (st := sLaw) l29 c29 k29
  have T_NoName : Ex.ErrC K mg "NoName" "value" C_NoName := { t := ⟨⟨nm_NoName, q_NoName, N_NoName, bs_NoName, _, sn_NoName, sub_NoName, ab_NoName, col_NoName, dd_NoName, m0_NoName, m1_NoName, m2_NoName, m3_NoName, m5_NoName, xL_NoName, by rfl⟩, sa_NoName, eC_NoName, tC_NoName, kC_NoName⟩, xf := ⟨ga_NoName, gg_NoName, eC_NoName, hC_NoName⟩, ic := ⟨ga_NoName, gg_NoName, eC_NoName, hC_NoName, hcl_NoName, hsp, htk, hmr_NoName⟩, no := nf_NoName, g := PySem.W.mg_of X G aC_NoName, te := exm_own eC_NoName cC_NoName tC_NoName sC_NoName }
  have FI_NoName := fun_mk (st := sInit_NoName) lI_NoName cI_NoName kI_NoName
  have bI_NoName := FI_NoName.binds (ps := ["self", "value"]) fun _ _ _ _ _ _ us hl => match us, hl with | [_, _], _ => rfl
  have T_NoBody : Ex.ErrC K mg "NoBody" "place" C_NoBody := { t := ⟨⟨nm_NoBody, q_NoBody, N_NoBody, bs_NoBody, _, sn_NoBody, sub_NoBody, ab_NoBody, col_NoBody, dd_NoBody, m0_NoBody, m1_NoBody, m2_NoBody, m3_NoBody, m5_NoBody, xL_NoBody, by rfl⟩, sa_NoBody, eC_NoBody, tC_NoBody, kC_NoBody⟩, xf := ⟨ga_NoBody, gg_NoBody, eC_NoBody, hC_NoBody⟩, ic := ⟨ga_NoBody, gg_NoBody, eC_NoBody, hC_NoBody, hcl_NoBody, hsp, htk, hmr_NoBody⟩, no := nf_NoBody, g := PySem.W.mg_of X G aC_NoBody, te := exm_own eC_NoBody cC_NoBody tC_NoBody sC_NoBody }
  have FI_NoBody := fun_mk (st := sInit_NoBody) lI_NoBody cI_NoBody kI_NoBody
  have bI_NoBody := FI_NoBody.binds (ps := ["self", "place"]) fun _ _ _ _ _ _ us hl => match us, hl with | [_, _], _ => rfl
  have S_METHODS := sqT_of l_METHODS z_METHODS v_METHODS
  have S_OTHER_TAKERS := sqT_of l_OTHER_TAKERS z_OTHER_TAKERS v_OTHER_TAKERS
  have S_DECLINERS := sqT_of l_DECLINERS z_DECLINERS v_DECLINERS
  have S_BODY_KINDS := sqT_of l_BODY_KINDS z_BODY_KINDS v_BODY_KINDS
  have S_ANSWER_WORDS := sqT_of l_ANSWER_WORDS z_ANSWER_WORDS v_ANSWER_WORDS
  have S_ASKED_OF_ONE := sqT_of l_ASKED_OF_ONE z_ASKED_OF_ONE v_ASKED_OF_ONE
  have S_ASKED_OF_TWO := sqT_of l_ASKED_OF_TWO z_ASKED_OF_TWO v_ASKED_OF_TWO
  have F_Body_init := fun_mk (st := sBody___init__) l_Body_init c_Body_init k_Body_init
  have b_Body_init_ := F_Body_init.binds (ps := ["self", "method", "expression"]) fun _ _ _ _ _ _ us hl => match us, hl with | [_, _, _], _ => rfl
  have cl_Body : L2.Cls K C_Body := ⟨pg_Body, hd_Body, po_Body, sa_Body⟩
  refine ⟨PySem.W.fnOf "law" "law" (defArgs sLaw) (defBody sLaw) (defScope sLaw) .none kV29 dc29 pm29 an29 cd29 ct29, fun s v => .of_eq rfl, fun base _ _ => ?_⟩
  have M_NoName : Ex.InitOk l.prog w K mg base "value" C_NoName := ⟨fI_NoName, _, iI_NoName, tI_NoName, ok_init_NoName T_NoName FI_NoName, bI_NoName⟩
  have M_NoBody : Ex.InitOk l.prog w K mg base "place" C_NoBody := ⟨fI_NoBody, _, iI_NoBody, tI_NoBody, ok_init_NoBody T_NoBody FI_NoBody, bI_NoBody⟩

  have tK : ∀ s ∈ methods, KDct K w p_KINDS s (.str (kindOf s)) := by
    intro s hs
    simp only [methods, List.mem_cons, List.not_mem_nil, or_false] at hs
    rcases hs with rfl | rfl | rfl | rfl | rfl | rfl | rfl | rfl | rfl | rfl | rfl | rfl | rfl | rfl
    · exact kdct_of l_KINDS y_KINDS g_KINDS_truth ⟨_, rfl⟩
    · exact kdct_of l_KINDS y_KINDS g_KINDS_length ⟨_, rfl⟩
    · exact kdct_of l_KINDS y_KINDS g_KINDS_item ⟨_, rfl⟩
    · exact kdct_of l_KINDS y_KINDS g_KINDS_walk ⟨_, rfl⟩
    · exact kdct_of l_KINDS y_KINDS g_KINDS_back ⟨_, rfl⟩
    · exact kdct_of l_KINDS y_KINDS g_KINDS_has ⟨_, rfl⟩
    · exact kdct_of l_KINDS y_KINDS g_KINDS_like ⟨_, rfl⟩
    · exact kdct_of l_KINDS y_KINDS g_KINDS_unlike ⟨_, rfl⟩
    · exact kdct_of l_KINDS y_KINDS g_KINDS_before ⟨_, rfl⟩
    · exact kdct_of l_KINDS y_KINDS g_KINDS_behind ⟨_, rfl⟩
    · exact kdct_of l_KINDS y_KINDS g_KINDS_hash ⟨_, rfl⟩
    · exact kdct_of l_KINDS y_KINDS g_KINDS_grow ⟨_, rfl⟩
    · exact kdct_of l_KINDS y_KINDS g_KINDS_plus ⟨_, rfl⟩
    · exact kdct_of l_KINDS y_KINDS g_KINDS_call ⟨_, rfl⟩
  have pt : PartsA K w mg p_PARTS := by
    refine ⟨PySem.W.mg_of X G a_PARTS, ⟨_, _, l_PARTS, y_PARTS, o_PARTS⟩, ?_, kdct_of l_PARTS y_PARTS g_PARTS_not ⟨_, rfl⟩, kdct_of l_PARTS y_PARTS g_PARTS_if ⟨_, rfl⟩⟩
    intro z hz
    simp only [wordsU, List.mem_cons, List.not_mem_nil, or_false] at hz
    rcases hz with rfl | rfl | rfl | rfl | rfl | rfl | rfl | rfl | rfl | rfl | rfl | rfl | rfl | rfl | rfl | rfl | rfl | rfl | rfl | rfl | rfl | rfl | rfl
    · exact ⟨_, m_PARTS_yes, by decide +kernel⟩
    · exact ⟨_, m_PARTS_no, by decide +kernel⟩
    · exact ⟨_, m_PARTS_raise, by decide +kernel⟩
    · exact ⟨_, m_PARTS_further, by decide +kernel⟩
    · exact ⟨_, m_PARTS_decline, by decide +kernel⟩
    · exact ⟨_, m_PARTS_count, by decide +kernel⟩
    · exact ⟨_, m_PARTS_ask, by decide +kernel⟩
    · exact ⟨_, g_PARTS_not, (decide_eq_true (show ("not" : Str) ∈ partW by decide +kernel)).symm⟩
    · exact ⟨_, g_PARTS_if, (decide_eq_true (show ("if" : Str) ∈ partW by decide +kernel)).symm⟩
    · exact ⟨_, m_PARTS_truth, by decide +kernel⟩
    · exact ⟨_, m_PARTS_size, by decide +kernel⟩
    · exact ⟨_, m_PARTS_hash, by decide +kernel⟩
    · exact ⟨_, m_PARTS_member, by decide +kernel⟩
    · exact ⟨_, m_PARTS_like, by decide +kernel⟩
    · exact ⟨_, m_PARTS_unlike, by decide +kernel⟩
    · exact ⟨_, m_PARTS_before, by decide +kernel⟩
    · exact ⟨_, m_PARTS_behind, by decide +kernel⟩
    · exact ⟨_, m_PARTS_self, by decide +kernel⟩
    · exact ⟨_, m_PARTS_other, by decide +kernel⟩
    · exact ⟨_, m_PARTS_maybe, by decide +kernel⟩
    · exact ⟨_, m_PARTS_1, by decide +kernel⟩
    · exact ⟨_, m_PARTS_each, by decide +kernel⟩
    · exact ⟨_, m_PARTS_me, by decide +kernel⟩
  have B : BdF K mg C_Body := { cl := cl_Body, g := PySem.W.mg_of X G aK_Body, ne := ne_Body, ob := ob_Body, n1 := n_Body_method, n2 := n_Body_expression, n3 := n_Body__nodes }
  have E_num := ok_number (P := l.prog) (w := w) (base := base) T D_is_number
  have E_one := ok_one_of (P := l.prog) (w := w) (base := base) T D_is_one_of
  have E_cm := ok_check_method T (PySem.W.mg_of X G a_METHODS) S_METHODS T_NoName M_NoName D_check_method E_one
  have E_kind := ok_kind_of T (PySem.W.mg_of X G a_KINDS) tK D_kind_of E_cm
  have E_take := ok_takes_other T (PySem.W.mg_of X G a_OTHER_TAKERS) S_OTHER_TAKERS D_takes_other E_cm
  have E_may := ok_may_decline T (PySem.W.mg_of X G a_DECLINERS) S_DECLINERS D_may_decline E_cm
  have E_cnt := ok_count T (PySem.W.mg_of X G a_MOST_COUNT) D_is_count E_num
  have E_role := ok_role T D__is_role E_take E_one
  have E_ask := ok_ask T (PySem.W.mg_of X G a_ASKED_OF_ONE) S_ASKED_OF_ONE (PySem.W.mg_of X G a_ASKED_OF_TWO) S_ASKED_OF_TWO D__is_ask E_role E_one
  have E_alone := ok_alone T (PySem.W.mg_of X G a_ANSWER_WORDS) S_ANSWER_WORDS D__is_word_alone E_may
  have E_node := ok_node T pt D__is_node E_cnt E_ask E_alone
  have E_parts := ok_parts (P := l.prog) (base := base) T pt D__parts
  have E_partsN := CalG.imp E_parts parts_nd
  have E_tails := ok_tails T D__tails E_parts
  have E_first := ok_first T (PySem.W.mg_of X G a_MOST_NODES) (PySem.W.mg_of X G a_MOST_DEPTH) D__first_wrong E_parts E_tails E_node
  have E_numb := ok_numb T D__numbered E_partsN 6
  have E_cb := ok_checkB T (PySem.W.mg_of X G a_BODY_KINDS) S_BODY_KINDS T_NoName M_NoName D_check_body_method E_kind
  have IB : Ob.MkCal l.prog w K mg base (L2.CX l.prog w) C_Body 9 "Body" (spBInit K C_Body C_NoName C_NoBody) := ⟨_, _, _, ok_bdinit T B T_NoBody M_NoBody E_cb E_first E_numb ⟨F_Body_init, b_Body_init_⟩, ⟨mk_Body, a_Body_init, i_Body_init, kc_Body⟩, b_Body_init_, PySem.W.mg_of X G aK_Body⟩
  have R : Errs K CA C_NoName C_NoBody := { aN := kit_err cC_A tC_A ka_NoName, aB := kit_err cC_A tC_A ka_NoBody, nB := exm_not eC_NoName cC_NoName tC_NoName no_NoBody_NoName }
  have E_pool := ok_pool (P := l.prog) (w := w) (base := base) T D_L_pool
  have E_ltake := ok_take (P := l.prog) (w := w) (base := base) T D_L_take
  have E_lone := ok_one T D_L_one E_ltake
  have E_leaf := ok_leaf T D_L_leaf E_ltake E_lone
  have E_asking := ok_asking T D_L_asking E_ltake E_lone
  have E_part := ok_part T D_L_part E_ltake E_leaf E_asking 2
  have E_bent := ok_bent T D_L_bent E_ltake E_lone 4
  have E_lrole := ok_lrole (P := l.prog) (w := w) (base := base) T D_L_is_role
  have E_lnode := ok_lnode T D_L_is_node E_lrole
  have E_wrong := ok_lwrong T D_L_wrong E_lnode 6 (Nat.le_refl 6)
  have E_due := ok_due T D_L_due E_wrong
  have E_heard := ok_heard T B R T_NoName T_NoBody (PySem.W.mg_of X G aA) IB D_L_heard
  exact ok_law T E_pool E_ltake E_lone E_part E_bent E_heard E_due FL
end Ab
open PySem PySem.W PyProof.Rows
set_option maxRecDepth 100000 in
set_option maxHeartbeats 0 in
theorem PySem.Challenge.cw_answersby_k04_bodies_looked_at_holds : PySem.Challenge.rw_answersby_k04_bodies_looked_at.Holds := by
  w_on; o_law; k_head; (case hw => w_witness2)
  k_fill
  refine Gk.walkG (l := PySem.Challenge.rw_answersby_k04_bodies_looked_at) (n := 63) (k := 12) (x := "_law_script") (sp := fun w => Ab.spLaw _) rfl (by decide) rfl ⟨rfl, by decide, by decide⟩ (fun w h Y => PySem.W.kIn_of Y) ?F (fun w H a ns hl _ hS => ⟨a, ns, rfl, hS, hl, fun _ => rfl⟩)
  case F =>
    intro w mg fa h KX G hmg
    refine' Ab.all_mk KX G hmg ?a1 ?l1 ?c1 ?k1 ?a2 ?l2 ?c2 ?k2 ?a3 ?l3 ?c3 ?k3 ?a4 ?l4 ?c4 ?k4 ?a5 ?l5 ?c5 ?k5 ?a6 ?l6 ?c6 ?k6 ?a7 ?l7 ?c7 ?k7 ?a8 ?l8 ?c8 ?k8 ?a9 ?l9 ?c9 ?k9 ?a10 ?l10 ?c10 ?k10 ?a11 ?l11 ?c11 ?k11 ?a12 ?l12 ?c12 ?k12 ?a13 ?l13 ?c13 ?k13 ?a14 ?l14 ?c14 ?k14 ?a15 ?l15 ?c15 ?k15 ?a16 ?l16 ?c16 ?k16 ?a17 ?l17 ?c17 ?k17 ?a18 ?l18 ?c18 ?k18 ?a19 ?l19 ?c19 ?k19 ?a20 ?l20 ?c20 ?k20 ?a21 ?l21 ?c21 ?k21 ?a22 ?l22 ?c22 ?k22 ?a23 ?l23 ?c23 ?k23 ?a24 ?l24 ?c24 ?k24 ?a25 ?l25 ?c25 ?k25 ?a26 ?l26 ?c26 ?k26 ?a27 ?l27 ?c27 ?k27 ?a28 ?l28 ?c28 ?k28 ?a29 ?l29 ?c29 ?k29 ?z_int ?z_len ?z_max ?z_min ?z_isinstance ?z_range ?z_list ?z_dict ?z_tuple ?z_set ?z_str ?z_bool ?z_repr ?z_all ?z_sum ?z_zip ?z_enumerate ?aA ?hsp ?htk ?aC_NoName ?xL_NoName ?sa_NoName ?eC_NoName ?tC_NoName ?kC_NoName ?ga_NoName ?gg_NoName ?hC_NoName ?hcl_NoName ?hmr_NoName ?nf_NoName ?cC_NoName ?sC_NoName ?iI_NoName ?tI_NoName ?lI_NoName ?cI_NoName ?kI_NoName ?aC_NoBody ?xL_NoBody ?sa_NoBody ?eC_NoBody ?tC_NoBody ?kC_NoBody ?ga_NoBody ?gg_NoBody ?hC_NoBody ?hcl_NoBody ?hmr_NoBody ?nf_NoBody ?cC_NoBody ?sC_NoBody ?iI_NoBody ?tI_NoBody ?lI_NoBody ?cI_NoBody ?kI_NoBody ?cC_A ?tC_A ?ka_NoName ?kv_NoName ?ka_NoBody ?kv_NoBody ?no_NoBody_NoName ?aK_Body ?pg_Body ?hd_Body ?po_Body ?sa_Body ?mk_Body ?kc_Body ?ne_Body ?ob_Body ?hc_Body ?dq_Body ?cC_Body ?tC_Body ?n_Body_method ?n_Body_expression ?n_Body__nodes ?a_Body_init ?i_Body_init ?l_Body_init ?c_Body_init ?k_Body_init ?a_METHODS ?l_METHODS ?z_METHODS ?v_METHODS ?a_OTHER_TAKERS ?l_OTHER_TAKERS ?z_OTHER_TAKERS ?v_OTHER_TAKERS ?a_DECLINERS ?l_DECLINERS ?z_DECLINERS ?v_DECLINERS ?a_BODY_KINDS ?l_BODY_KINDS ?z_BODY_KINDS ?v_BODY_KINDS ?a_ANSWER_WORDS ?l_ANSWER_WORDS ?z_ANSWER_WORDS ?v_ANSWER_WORDS ?a_ASKED_OF_ONE ?l_ASKED_OF_ONE ?z_ASKED_OF_ONE ?v_ASKED_OF_ONE ?a_ASKED_OF_TWO ?l_ASKED_OF_TWO ?z_ASKED_OF_TWO ?v_ASKED_OF_TWO ?a_MOST_COUNT ?a_MOST_NODES ?a_MOST_DEPTH ?a_KINDS ?l_KINDS ?y_KINDS ?g_KINDS_truth ?g_KINDS_length ?g_KINDS_item ?g_KINDS_walk ?g_KINDS_back ?g_KINDS_has ?g_KINDS_like ?g_KINDS_unlike ?g_KINDS_before ?g_KINDS_behind ?g_KINDS_hash ?g_KINDS_grow ?g_KINDS_plus ?g_KINDS_call ?a_PARTS ?l_PARTS ?y_PARTS ?g_PARTS_not ?g_PARTS_if ?o_PARTS ?m_PARTS_yes ?m_PARTS_no ?m_PARTS_raise ?m_PARTS_further ?m_PARTS_decline ?m_PARTS_count ?m_PARTS_ask ?m_PARTS_truth ?m_PARTS_size ?m_PARTS_hash ?m_PARTS_member ?m_PARTS_like ?m_PARTS_unlike ?m_PARTS_before ?m_PARTS_behind ?m_PARTS_self ?m_PARTS_other ?m_PARTS_maybe ?m_PARTS_1 ?m_PARTS_each ?m_PARTS_me
    (case a1 => k_is)
    (case l1 => k_is)
    (case c1 => k_is)
    (case k1 => k_is)
    (case a2 => k_is)
    (case l2 => k_is)
    (case c2 => k_is)
    (case k2 => k_is)
    (case a3 => k_is)
    (case l3 => k_is)
    (case c3 => k_is)
    (case k3 => k_is)
    (case a4 => k_is)
    (case l4 => k_is)
    (case c4 => k_is)
    (case k4 => k_is)
    (case a5 => k_is)
    (case l5 => k_is)
    (case c5 => k_is)
    (case k5 => k_is)
    (case a6 => k_is)
    (case l6 => k_is)
    (case c6 => k_is)
    (case k6 => k_is)
    (case a7 => k_is)
    (case l7 => k_is)
    (case c7 => k_is)
    (case k7 => k_is)
    (case a8 => k_is)
    (case l8 => k_is)
    (case c8 => k_is)
    (case k8 => k_is)
    (case a9 => k_is)
    (case l9 => k_is)
    (case c9 => k_is)
    (case k9 => k_is)
    (case a10 => k_is)
    (case l10 => k_is)
    (case c10 => k_is)
    (case k10 => k_is)
    (case a11 => k_is)
    (case l11 => k_is)
    (case c11 => k_is)
    (case k11 => k_is)
    (case a12 => k_is)
    (case l12 => k_is)
    (case c12 => k_is)
    (case k12 => k_is)
    (case a13 => k_is)
    (case l13 => k_is)
    (case c13 => k_is)
    (case k13 => k_is)
    (case a14 => k_is)
    (case l14 => k_is)
    (case c14 => k_is)
    (case k14 => k_is)
    (case a15 => k_is)
    (case l15 => k_is)
    (case c15 => k_is)
    (case k15 => k_is)
    (case a16 => k_is)
    (case l16 => k_is)
    (case c16 => k_is)
    (case k16 => k_is)
    (case a17 => k_is)
    (case l17 => k_is)
    (case c17 => k_is)
    (case k17 => k_is)
    (case a18 => k_is)
    (case l18 => k_is)
    (case c18 => k_is)
    (case k18 => k_is)
    (case a19 => k_is)
    (case l19 => k_is)
    (case c19 => k_is)
    (case k19 => k_is)
    (case a20 => k_is)
    (case l20 => k_is)
    (case c20 => k_is)
    (case k20 => k_is)
    (case a21 => k_is)
    (case l21 => k_is)
    (case c21 => k_is)
    (case k21 => k_is)
    (case a22 => k_is)
    (case l22 => k_is)
    (case c22 => k_is)
    (case k22 => k_is)
    (case a23 => k_is)
    (case l23 => k_is)
    (case c23 => k_is)
    (case k23 => k_is)
    (case a24 => k_is)
    (case l24 => k_is)
    (case c24 => k_is)
    (case k24 => k_is)
    (case a25 => k_is)
    (case l25 => k_is)
    (case c25 => k_is)
    (case k25 => k_is)
    (case a26 => k_is)
    (case l26 => k_is)
    (case c26 => k_is)
    (case k26 => k_is)
    (case a27 => k_is)
    (case l27 => k_is)
    (case c27 => k_is)
    (case k27 => k_is)
    (case a28 => k_is)
    (case l28 => k_is)
    (case c28 => k_is)
    (case k28 => k_is)
    (case a29 => k_is)
    (case l29 => k_is)
    (case c29 => k_is)
    (case k29 => k_is)
    (case z_int => k_is)
    (case z_len => k_is)
    (case z_max => k_is)
    (case z_min => k_is)
    (case z_isinstance => k_is)
    (case z_range => k_is)
    (case z_list => k_is)
    (case z_dict => k_is)
    (case z_tuple => k_is)
    (case z_set => k_is)
    (case z_str => k_is)
    (case z_bool => k_is)
    (case z_repr => k_is)
    (case z_all => k_is)
    (case z_sum => k_is)
    (case z_zip => k_is)
    (case z_enumerate => k_is)
    (case aA => k_is)
    (case hsp => k_is)
    (case htk => k_is)
    (case aC_NoName => k_is)
    (case xL_NoName => k_is)
    (case sa_NoName => k_is)
    (case eC_NoName => k_is)
    (case tC_NoName => k_is)
    (case kC_NoName => k_is)
    (case ga_NoName => k_is)
    (case gg_NoName => k_is)
    (case hC_NoName => k_is)
    (case hcl_NoName => k_is)
    (case hmr_NoName => k_is)
    (case nf_NoName => k_is)
    (case cC_NoName => k_is)
    (case sC_NoName => k_is)
    (case iI_NoName => k_is)
    (case tI_NoName => k_is)
    (case lI_NoName => k_is)
    (case cI_NoName => k_is)
    (case kI_NoName => k_is)
    (case aC_NoBody => k_is)
    (case xL_NoBody => k_is)
    (case sa_NoBody => k_is)
    (case eC_NoBody => k_is)
    (case tC_NoBody => k_is)
    (case kC_NoBody => k_is)
    (case ga_NoBody => k_is)
    (case gg_NoBody => k_is)
    (case hC_NoBody => k_is)
    (case hcl_NoBody => k_is)
    (case hmr_NoBody => k_is)
    (case nf_NoBody => k_is)
    (case cC_NoBody => k_is)
    (case sC_NoBody => k_is)
    (case iI_NoBody => k_is)
    (case tI_NoBody => k_is)
    (case lI_NoBody => k_is)
    (case cI_NoBody => k_is)
    (case kI_NoBody => k_is)
    (case cC_A => k_is)
    (case tC_A => k_is)
    (case ka_NoName => k_is)
    (case kv_NoName => k_is)
    (case ka_NoBody => k_is)
    (case kv_NoBody => k_is)
    (case no_NoBody_NoName => k_is)
    (case aK_Body => k_is)
    (case pg_Body => k_is)
    (case hd_Body => k_is)
    (case po_Body => k_is)
    (case sa_Body => k_is)
    (case mk_Body => k_is)
    (case kc_Body => k_is)
    (case ne_Body => k_is)
    (case ob_Body => k_is)
    (case hc_Body => k_is)
    (case dq_Body => k_is)
    (case cC_Body => k_is)
    (case tC_Body => k_is)
    (case n_Body_method => k_is)
    (case n_Body_expression => k_is)
    (case n_Body__nodes => k_is)
    (case a_Body_init => k_is)
    (case i_Body_init => k_is)
    (case l_Body_init => k_is)
    (case c_Body_init => k_is)
    (case k_Body_init => k_is)
    (case a_METHODS => k_is)
    (case l_METHODS => k_is)
    (case z_METHODS => decide +kernel)
    (case v_METHODS => repeat (first | exact .nil | refine .cons ⟨_, rfl⟩ ?_))
    (case a_OTHER_TAKERS => k_is)
    (case l_OTHER_TAKERS => k_is)
    (case z_OTHER_TAKERS => decide +kernel)
    (case v_OTHER_TAKERS => repeat (first | exact .nil | refine .cons ⟨_, rfl⟩ ?_))
    (case a_DECLINERS => k_is)
    (case l_DECLINERS => k_is)
    (case z_DECLINERS => decide +kernel)
    (case v_DECLINERS => repeat (first | exact .nil | refine .cons ⟨_, rfl⟩ ?_))
    (case a_BODY_KINDS => k_is)
    (case l_BODY_KINDS => k_is)
    (case z_BODY_KINDS => decide +kernel)
    (case v_BODY_KINDS => repeat (first | exact .nil | refine .cons ⟨_, rfl⟩ ?_))
    (case a_ANSWER_WORDS => k_is)
    (case l_ANSWER_WORDS => k_is)
    (case z_ANSWER_WORDS => decide +kernel)
    (case v_ANSWER_WORDS => repeat (first | exact .nil | refine .cons ⟨_, rfl⟩ ?_))
    (case a_ASKED_OF_ONE => k_is)
    (case l_ASKED_OF_ONE => k_is)
    (case z_ASKED_OF_ONE => decide +kernel)
    (case v_ASKED_OF_ONE => repeat (first | exact .nil | refine .cons ⟨_, rfl⟩ ?_))
    (case a_ASKED_OF_TWO => k_is)
    (case l_ASKED_OF_TWO => k_is)
    (case z_ASKED_OF_TWO => decide +kernel)
    (case v_ASKED_OF_TWO => repeat (first | exact .nil | refine .cons ⟨_, rfl⟩ ?_))
    (case a_MOST_COUNT => k_is)
    (case a_MOST_NODES => k_is)
    (case a_MOST_DEPTH => k_is)
    (case a_KINDS => k_is)
    (case l_KINDS => k_is)
    (case y_KINDS => repeat (first | exact Ab.kl_nil | refine Ab.kl_cons ?_))
    (case g_KINDS_truth => k_is)
    (case g_KINDS_length => k_is)
    (case g_KINDS_item => k_is)
    (case g_KINDS_walk => k_is)
    (case g_KINDS_back => k_is)
    (case g_KINDS_has => k_is)
    (case g_KINDS_like => k_is)
    (case g_KINDS_unlike => k_is)
    (case g_KINDS_before => k_is)
    (case g_KINDS_behind => k_is)
    (case g_KINDS_hash => k_is)
    (case g_KINDS_grow => k_is)
    (case g_KINDS_plus => k_is)
    (case g_KINDS_call => k_is)
    (case a_PARTS => k_is)
    (case l_PARTS => k_is)
    (case y_PARTS => repeat (first | exact Ab.kl_nil | refine Ab.kl_cons ?_))
    (case g_PARTS_not => k_is)
    (case g_PARTS_if => k_is)
    (case o_PARTS => first | rfl | decide +kernel)
    (case m_PARTS_yes => k_is)
    (case m_PARTS_no => k_is)
    (case m_PARTS_raise => k_is)
    (case m_PARTS_further => k_is)
    (case m_PARTS_decline => k_is)
    (case m_PARTS_count => k_is)
    (case m_PARTS_ask => k_is)
    (case m_PARTS_truth => k_is)
    (case m_PARTS_size => k_is)
    (case m_PARTS_hash => k_is)
    (case m_PARTS_member => k_is)
    (case m_PARTS_like => k_is)
    (case m_PARTS_unlike => k_is)
    (case m_PARTS_before => k_is)
    (case m_PARTS_behind => k_is)
    (case m_PARTS_self => k_is)
    (case m_PARTS_other => k_is)
    (case m_PARTS_maybe => k_is)
    (case m_PARTS_1 => k_is)
    (case m_PARTS_each => k_is)
    (case m_PARTS_me => k_is)
