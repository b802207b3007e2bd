import PyProof.Rows.All
import Wide.All
import OpenK.AllK
import Wide.FinOn
import HandS.ForMost
import HandS.ExcInit
import HandS.ExcField
import HandS.ExcOwn
import HandS.IsInst
import KE.KExcIs
import HandS.Exc
import HandS.Lambda
import HandS.EndTab
import KE.KNestM
import HandS.TupMul
import HandS.More
import PyProof.NeKinds
import HandS.Wide
import HandS.Evl
import HandS.Walk
import HandS.WordsExc
import HandS.Rev
import HandS.TupAny
import PySem.Challenge.RW_restcounts_k01_moduli_and_digits
set_option Elab.async false
set_option linter.all false
set_option maxRecDepth 100000
set_option maxHeartbeats 2000000
/-! Gd: defs whose promise leans on there being no repr under way around them; calls of such; a law's end over such. -/
namespace Gd
open PySem PySem.Spec PyProof.Rows L2

/-- a promise kept wherever no guard stands around -/
structure FnG (P : Program) (w : World) (K : PySem.W.Frag) (mg : Str → Option Value) (base : Heap)
    (CX : CXT) (k : Nat) (f : Addr) (fd : FuncData) (ps : List Str) (sp : Sp) : Prop where
  len : ∀ vs H Q E, sp vs H Q E → vs.length = ps.length
  go : ∀ (A : Around) (outer : List Env) (s : Shared) (H : Hp) (args : Args) (us : List Value) (vs : List V) (Q : VK) (E : XK),
    A.guards = some [] → Room k A → Env0 P w K mg base A outer s H →
    BindsTo s fd args (ps.zip us) → Vals vs us → sp vs H Q E →
    codeAny (model P w) A (.call (.ref f) args) (CR CX outer P w H s Q E) s

section
variable {P : Program} {w : World} {K : PySem.W.Frag} {mg : Str → Option Value} {base : Heap} {CX : CXT}

theorem FnG.ofOk {k : Nat} {f : Addr} {fd : FuncData} {ps : List Str} {sp : Sp}
    (F : FnOk P w K mg base CX k f fd ps sp) : FnG P w K mg base CX k f fd ps sp where
  len := F.len
  go := fun A outer s H args us vs Q E _ => F.run A outer s H args us vs Q E

/-- a def by its body, where the guards are none -/
theorem fnG_of {k : Nat} {f : Addr} {name qual : Str} {params : Arguments} {body : List Stmt} {scope : Scope}
    {dV kV doc pm cdv ct oc : Value} {an od : Option Addr} {osl : Array (Option Value)} {N ps : List Str} {sp : Sp}
    (lk : K.lookup f = some ⟨oc, od, .func (PySem.W.fnOf name qual params body scope dV kV doc pm an cdv ct), osl⟩)
    (hcd : PySem.W.codeIn K cdv qual = true) (S : FnScope N ps scope)
    (len : ∀ vs H Q E, sp vs H Q E → vs.length = ps.length)
    (B : ∀ (A : Around) (outer : List Env) (s : Shared) (H : Hp) (vs : List V) (Q : VK) (E : XK),
      A.guards = some [] → Room k (A.deeper (envOfC qual scope s.heap.objs.size f cdv)) → sp vs H Q E →
      ∃ t, PSs (cxOf CX P w K mg base N qual scope f cdv A outer s H E) body t ∧
        t { nx := fun _ H' => Q .non H', rt := Q } (start N vs) H) :
    FnG P w K mg base CX (k + 1) f (PySem.W.fnOf name qual params body scope dV kV doc pm an cdv ct) ps sp where
  len := len
  go := by
    intro A outer s H args us vs Q E hgd room env0 hbind rel hs
    have hlen := len _ _ _ _ hs
    have old : ∀ b o, base.get? b = some o → s.heap.get? b = some o := fun b o h => (env0.bs b o h).1
    have kin := env0.mod.kin.keeps old
    have nolim := env0.mod.nolimit.keeps old
    refine codeAny_call_function room.depth (kin _ _ lk) rfl S.co S.gen rfl
      (PySem.W.codeRec_of kin hcd) (hbind _ _ _ _ ?_)
    refine wpAny_newFunctionEnv_cells S.kind ?kinds fun env he s1 inC => ?_
    case kinds =>
      rintro ⟨n, v⟩ hm
      have hn := S.par n (List.of_mem_zip hm).1
      exact hn.imp (fun q => q) fun q => ⟨q, PySem.W.cellsFrom_some _ _ _ (.inl q)⟩
    subst he
    refine ⟨nolim.keeps inC.toInCall.keep, codeAny_func ?_⟩
    have ⟨t, derived, reading⟩ := B A outer s H vs Q E hgd (room.deeper _) hs
    have inv0 := inv_start (CX := CX) (E := E) S room.hd env0 hlen rel inC
    refine wpAny_mono (derived.run [] s1 (start N vs) H _ inv0 reading) ?_ fun _ _ he => he
    intro fl s' hfl
    match fl, hfl with
    | .ret _, ⟨v, _, H', J, rv, q⟩ => exact ⟨v, H', J.os, J.bare, J.base, J.hok, rv, q⟩
    | .next, ⟨_, H', J, q⟩ => exact ⟨V.non, H', J.os, J.bare, J.base, J.hok, rfl, q⟩
    | .brk, ⟨_, _, _, q⟩ => exact q.elim
    | .cont, ⟨_, _, _, q⟩ => exact q.elim

/-- for a def of the text that no exception leaves -/
theorem okG {x qual : Str} {st : Stmt} {f : Addr} {fd : FuncData} {N ps : List Str} {k : Nat} {sp : Sp}
    (F : Fun K x qual st f fd) (S : FnScope N ps (defScope st)) (len : ∀ vs H Q E, sp vs H Q E → vs.length = ps.length)
    (B : ∀ (cdv : Value) (A : Around) (outer : List Env) (s : Shared) (H : Hp) (vs : List V) (Q : VK) (E : XK),
      A.guards = some [] → Room k (A.deeper (envOfC qual (defScope st) s.heap.objs.size f cdv)) → sp vs H Q E →
      ∃ t, PSs (cxOf CX0 P w K mg base N qual (defScope st) f cdv A outer s H E).nox (defBody st) t ∧
        t { nx := fun _ H' => Q .non H', rt := Q } (start N vs) H) : FnG P w K mg base CX0 (k + 1) f fd ps sp := by
  have ⟨oc, od, kV, doc, pm, an, cdv, ct, osl, e, lk, hcd⟩ := F.ex
  subst e
  refine fnG_of lk hcd S len ?_
  intro A outer s H vs Q E hgd room hs
  have ⟨t, d, q⟩ := B cdv A outer s H vs Q E hgd room hs
  exact ⟨t, d.nox, q⟩
end

section
variable {X : Cx} {CX : CXT} {k : Nat} {f : Addr} {fd : FuncData} {ps : List Str} {sp : Sp} {dvs : List V} {ds : List Value} {E : XK}
/-- the call of such a def -/
theorem run_fnG {pins : List (Addr × Obj)} {σ : L2.St} {H : Hp} {s : Shared} {Q : VK} {us : List Value} {vs : List V}
    (F : FnG X.prog X.w X.K X.mg X.base CX k f fd ps sp) (hgd : X.A.guards = some []) (room : Room k X.A)
    (hb : Binds X.K fd ps ds) (hd : Vals dvs ds) (hx : Passes CX X E) (I : Inv X pins σ H s) (r : Vals vs us)
    (h : sp (vs ++ dvs) H Q E) : wpAny (model X.prog X.w) X.A (call (.ref f) us) (EP X pins σ Q) X.xe s := by
  have rr := r.append hd
  have hlen := F.len _ _ _ _ h
  rw [rr.length] at hlen
  have c := F.go X.A X.stack s H ⟨us, []⟩ (us ++ ds) (vs ++ dvs) Q E hgd room I.env0 (hb s us I.kIn hlen) rr h
  refine wpAny_call (codeAny_mono c ?_)
  intro res s' hres
  match res, hres with
  | .error e, he => exact hx pins σ H s e s' I he
  | .ok (.ret u), he => exact I.after he
  | .ok .next, he => exact he.elim
  | .ok .brk, he => exact he.elim
  | .ok .cont, he => exact he.elim

theorem pe_callG {x : Str} {p pos : Pos} {e : Expr} {es : List Expr} {t : TA}
    (F : FnG X.prog X.w X.K X.mg X.base CX k f fd ps sp) (hgd : X.A.guards = some []) (hr : Room k X.A) (hg : Gl X x)
    (hm : X.mg x = some (.ref f)) (hk : PySem.W.keepIn X.K (.ref f) = true) (hb : Binds X.K fd ps ds) (hd : Vals dvs ds)
    (hx : Passes CX X E) (ha : PA X (e :: es) t) (hdb : (x == ("__debug__" : Str)) = false := by decide)
    (he : starEach (e :: es) X.env = (false, eval e X.env) :: starEach es X.env := by rfl)
    (hpl : (backTo pos (starEach es X.env)).any (·.1) = false := by rfl) :
    PE X (.Call (.Name x p) (e :: es) [] pos) (tCall sp dvs E t) where
  run := by
    intro pins s σ H Q I h
    refine wpAny_Call_Name_kw (ld_glob I hg hm ?_ hdb)
    refine PySem.W.callWith_K (h₀ := X.base) I.ok.mod.kin hk ?_ he hpl
    refine thn (ha.run pos pins s σ H _ I h) ?_
    rintro us s1 ⟨vs, H1, I1, rel, q⟩
    exact ⟨I1.kIn, run_fnG F hgd hr hb hd hx I1 rel q⟩
end

/-! ### repr of data -/
mutual
theorem dp_nodict {K : PySem.W.Frag} {H : Hp} : ∀ (d : PyData) (v : V), Dp K H v d → d.hasDict = false
  | .none, _, _ => by simp only [PyData.hasDict]
  | .bool _, _, _ => by simp only [PyData.hasDict]
  | .int _, _, _ => by simp only [PyData.hasDict]
  | .str _, _, _ => by simp only [PyData.hasDict]
  | .list ds, _, h => by
    cases h with
    | lst _ ha => simp only [PyData.hasDict]; exact dpAll_nodict ds _ ha
  | .tuple ds, _, h => by
    cases h with
    | tup _ ha => simp only [PyData.hasDict]; exact dpAll_nodict ds _ ha
  | .dict _, _, h => by cases h
theorem dpAll_nodict {K : PySem.W.Frag} {H : Hp} : ∀ (ds : List PyData) (vs : List V), DpAll K H vs ds → PyData.hasDictAll ds = false
  | [], _, _ => by simp only [PyData.hasDictAll]
  | d :: ds, _, h => by
    cases h with
    | cons a b => simp only [PyData.hasDictAll, dp_nodict d _ a, dpAll_nodict ds _ b, Bool.or_self]
end

/-- repr(x) of data without dicts -/
def rRepr (K : PySem.W.Frag) : List V → Hp → VK → Prop := fun xs H Q => ∃ x d, xs = [x] ∧ Dp K H x d ∧
  d.showable = true ∧ d.depth ≤ 60 ∧ d.shown.length ≤ sizeLine ∧ Q (.str d.shown) H
theorem call_repr {X : Cx} (hgd : X.A.guards = some []) (hu : X.A.units + 64 < cLine) : CallR X (.builtin "repr") (rRepr X.K) := by
  intro pins s σ H xs us Q I rel h
  obtain ⟨x, d, rfl, dp, sh, hd, hz, q⟩ := h
  cases rel with
  | cons rx rt =>
    cases rt
    rename_i u
    obtain ⟨as, rd⟩ := Dp.reads I d x u dp rx
    have nod := dp_nodict d x dp
    cases dp with
    | non =>
      cases rx
      exact PySem.P.repr_of_none ⟨.str _, H, I.tok _, ⟨_, rfl⟩, q⟩
    | bl b =>
      cases rx
      exact PySem.P.repr_of_bool ⟨.str _, H, I.tok _, ⟨_, rfl⟩, q⟩
    | int i =>
      obtain ⟨t, rfl⟩ := rx
      exact PySem.P.repr_of_int (by simpa [PyData.showable] using sh) ⟨.str _, H, I.tok _, ⟨_, rfl⟩, q⟩
    | str z =>
      obtain ⟨t, rfl⟩ := rx
      exact PySem.P.repr_of_str ⟨.str _, H, I.tok _, ⟨_, rfl⟩, q⟩ (by simpa only [PyData.shown] using hz)
    | lst _ _ =>
      cases rx
      exact repr_of_reads' rd sh (PySem.PyData.noDict_hsm nod) hgd (by omega) (fun _ _ e => e) (fun h' t tk k => ⟨.str _, H, I.kept k, ⟨_, rfl⟩, q⟩) hz
    | tup _ _ =>
      cases rx
      exact repr_of_reads' rd sh (PySem.PyData.noDict_hsm nod) hgd (by omega) (fun _ _ e => e) (fun h' t tk k => ⟨.str _, H, I.kept k, ⟨_, rfl⟩, q⟩) hz
end Gd

/-! Ge: the end of a law row over a def of the kind FnG. -/
namespace Gd
open PySem PySem.Spec PyProof.Rows L2

/-- what the law's call finds: an abstract heap that tracks the script at most, a base without it -/
structure Entry (P : Program) (w : World) (K : PySem.W.Frag) (mg : Str → Option Value) (s : Shared) (a : Addr) (ns : List Int)
    (H : Hp) (base : Heap) : Prop where
  only : Only H
  script : SqL K H a (ns.map V.int)
  kin : K.In base
  glob : base.Ns mainGlobals mg
  env : Env0 P w K mg base callerA [] s H
  old : ∀ (H' : Hp) (s' : Shared), Un [] [] H H' s.heap s'.heap → HOk P w H' s'.heap → PySem.OldK s.heap s'.heap

section
variable {P : Program} {w : World} {K : PySem.W.Frag} {mg mb : Str → Option Value} {s : Shared} {a : Addr} {vs : List Value} {ns : List Int}
theorem entry_of {H : Hp} (kin : K.In s.heap) (hns : s.heap.Ns mainGlobals mg) (hb : s.heap.Ns builtinsNs mb)
    (hbb : ∀ x : Str, x ≠ "__name__" → mb x = bootBuiltins x) (hlim : s.heap.NoLimit) (hg : s.gens = #[])
    (ha : s.heap.get? a = some { cls := .type "list", data := .seq vs.toArray })
    (o1 : Only H) (o2 : SqL K H a (ns.map V.int)) (o3 : HOk P w H s.heap) (o4 : ∀ b, H b ≠ none → b = a)
    (o5 : H a ≠ none → K.lookup a = none) : ∃ base, Entry P w K mg s a ns H base := by
  -- whatever isn't the script's own object is in the base
  have stays : ∀ {b : Addr} {o : Obj}, s.heap.get? b = some o → (b = a → H b = none) → (hidT s.heap H).get? b = some o := by
    intro b o e h
    refine hidT_get e ?_
    by_cases z : b = a
    · exact h z
    · exact Classical.byContradiction fun q => z (o4 b q)
  have ns_in : ∀ {b : Addr} {m : Str → Option Value}, s.heap.Ns b m → (hidT s.heap H).Ns b m := by
    rintro b m ⟨o, es, ep, e, d, r⟩
    refine ⟨o, es, ep, stays e fun z => ?_, d, r⟩
    rw [z, ha] at e
    rw [← Option.some.inj e] at d
    cases d
  have kin' : K.In (hidT s.heap H) := by
    intro b o e
    refine stays (kin b o e) fun z => Classical.byContradiction fun q => ?_
    rw [z] at q e
    rw [o5 q] at e
    cases e
  obtain ⟨mc, l1, l2⟩ := hlim
  refine ⟨hidT s.heap H, o1, o2, kin', ns_in hns, ?_, ?_⟩
  · refine ⟨rfl, ⟨kin', ns_in hns, ⟨mb, ns_in hb, hbb⟩, ⟨mc, ns_in l1, l2⟩⟩, fun b o e => of_hidT e, Nat.le_of_eq (hidT_size _ _), trivial, ?_, o3, .of_eq hg⟩
    intro b hm
    exact (List.not_mem_nil hm).elim
  · intro H' s' un ok'
    refine PySem.OldK.of_keep fun b o e => ?_
    cases q : H b with
    | none => exact un.keep b o e q List.not_mem_nil List.not_mem_nil
    | some u =>
      obtain z | ⟨ob, xs, z⟩ := o1 b
      · rw [q] at z
        cases z
      · obtain ⟨was, _⟩ := o3 b _ z
        obtain ⟨still, _⟩ := ok' b _ (un.frzs b ob _ z)
        rw [e] at was
        rw [Option.some.inj was]
        exact still

theorem entry_is (kin : K.In s.heap) (hns : s.heap.Ns mainGlobals mg) (hb : s.heap.Ns builtinsNs mb)
    (hbb : ∀ x : Str, x ≠ "__name__" → mb x = bootBuiltins x) (hlim : s.heap.NoLimit) (hg : s.gens = #[])
    (ha : s.heap.get? a = some { cls := .type "list", data := .seq vs.toArray })
    (hi : IntsAre vs ns) (hl : ns.length ≤ sizeLine) : ∃ H base, Entry P w K mg s a ns H base := by
  have rv := vals_ints hi
  have ln := hi.length
  cases hk : K.lookup a with
  | some o =>
    have e := kin a o hk
    rw [ha] at e
    cases e
    have sq : SqL K (fun _ => none) a (ns.map V.int) :=
      .inr ⟨_, vs.toArray, _, hk, rfl, rfl, rfl, by rw [List.size_toArray, ln]; exact hl, by simpa using rv⟩
    obtain ⟨base, E⟩ := entry_of (P := P) (w := w) kin hns hb hbb hlim hg ha (fun _ => .inl rfl) sq
      (fun b u z => by cases (show (none : Option HO) = some u from z)) (fun b z => absurd rfl z) fun z => absurd rfl z
    exact ⟨_, base, E⟩
  | none =>
    let H : Hp := fun b => if b = a then some (.frz { cls := .type "list", data := .seq vs.toArray } (.lst (ns.map V.int))) else none
    have at_a : H a = some (.frz { cls := .type "list", data := .seq vs.toArray } (.lst (ns.map V.int))) := if_pos rfl
    have off_a : ∀ {b}, b ≠ a → H b = none := fun z => if_neg z
    have ok : HOk P w H s.heap := by
      intro b u z
      by_cases q : b = a
      · subst q
        rw [at_a] at z
        cases z
        exact ⟨ha, by rw [List.length_map]; exact hl, vs, _, rv, ha⟩
      · rw [off_a q] at z
        cases z
    have on : Only H := by
      intro b
      by_cases q : b = a
      · subst q
        exact .inr ⟨_, _, at_a⟩
      · exact .inl (off_a q)
    obtain ⟨base, E⟩ := entry_of (P := P) (w := w) kin hns hb hbb hlim hg ha on (.inl (.inr ⟨_, at_a⟩)) ok
      (fun b z => Classical.byContradiction fun q => z (off_a q)) fun _ => hk
    exact ⟨H, base, E⟩
end

theorem walkG {l : PySem.W.OpenLaw} {n k : Nat} {q : Program} {loose : List Str} {XP : (Str → Option Value) → Heap → Prop}
    {YP : World → Heap → Prop} {d : DefRec} {K : Params → PySem.W.Frag} {sp : World → Sp} {x : Str}
    (hn : l.most = some n) (hn2 : n ≤ sizeLine) (hdf : d.params.defaults = []) (hr : Room k callerA)
    (hY : ∀ (w : World) (h : Heap), YP w h → (K w.params).In h)
    (F : ∀ (w : World) (mg : Str → Option Value) (fa : Addr) (h : Heap), (K w.params).In h → h.Ns mainGlobals mg → mg d.name = some (.ref fa) →
      ∃ fd : FuncData, (∀ (s : Shared) (u : Value), BindsTo s fd ⟨[u], []⟩ [(x, u)]) ∧
        ∀ base : Heap, (K w.params).In base → base.Ns mainGlobals mg → FnG l.prog w (K w.params) mg base CX0 k fa fd [x] (sp w))
    (hsp : ∀ (w : World) (H : Hp) (a : Addr) (ns : List Int), ns.length ≤ n → Only H → SqL (K w.params) H a (ns.map V.int) →
      sp w [.ref a] H (fun v _ => v = .bl true) fun _ _ _ => False) :
    PySem.W.WalkO q loose XP YP l.row.toRowW d [] (fun f vs => PySem.call f vs) := by
  refine Att.attach_call hn hdf ?_
  intro w s₀ s₁ mg mb fa o pm cd doc a vs ns G Y ho hd hcd hmg hobj hints hlen hgens
  have kin := hY w _ Y
  obtain ⟨fd, binds, all⟩ := F w mg fa _ kin G.T.g hmg
  obtain ⟨H, base, E⟩ := entry_is (P := l.prog) (w := w) kin G.T.g G.T.b G.T.builtins G.T.nolimit hgens hobj hints (Nat.le_trans hlen hn2)
  have run := (all base E.kin E.glob).go callerA [] s₁ H ⟨[.ref a], []⟩ [.ref a] [.ref a] _ _ rfl hr E.env (binds s₁ (.ref a)) (.cons rfl .nil)
    (hsp w H a ns hlen E.only E.script)
  refine codeAny_mono run ?_
  intro res s' hres
  match res, hres with
  | .ok (.ret u), ⟨v, H', os, bare, un, ok', rel, e⟩ =>
    subst e
    cases (show u = Value.bool true from rel)
    exact ⟨rfl, E.old H' s' un ok', os, bare⟩
end Gd

/-! Ex: errors of own classes as values: made, their fields read, asked for their class. -/
namespace Gd
open PySem PySem.Spec PyProof.Rows L2

/-- what isinstance and the fields ask of such a class -/
structure ErC (K : PySem.W.Frag) (C : Addr) : Prop where
  ga : PySem.W.findIn K (.ref C) "__getattribute__" = some (some (.builtin "BaseException.__getattribute__"))
  gg : PySem.W.findIn K (.ref C) "__getattr__" = some none
  be : PySem.W.subIn K (.ref C) (.type "BaseException") = some true
  hd : PySem.W.hasDictIn K C = true
  ci : PySem.W.isClsIn K C = true
  cc : PySem.W.findIn K (.ref C) "__class__" = some (some (.builtin "object.__class__"))
  cg : PySem.W.specialIn K (.builtin "object.__class__") "__get__" = some (some (.builtin "getset_descriptor.__get__"))
  ct : PySem.W.takesIn K (.builtin "object.__class__") = some true
  om : PySem.W.mroIn K C (.type "object") = some true

section
variable {X : Cx} {CX : CXT} {pins : List (Addr × Obj)} {σ : L2.St} {H : Hp} {s : Shared}

/-- an error of the class at C stands at a, its fields fs (the last stored first) -/
def ErA (H : Hp) (a C : Addr) (fs : List (Str × V)) : Prop :=
  (H a = some (exo a C none) ∧ fs = []) ∨ ∃ d, H a = some (exo a C (some d)) ∧ H d = some (exd d fs)

/-- such an error, as the library's rules see it -/
theorem inst_of {a C : Addr} {fs : List (Str × V)} (I : Inv X pins σ H s) (e : ErA H a C fs) :
    ∃ ox od, PySem.W.InstAt s.heap a ox C od ∧ ∀ n v, fs.lookup n = some v →
      ∃ u o, od = some o ∧ PySem.W.lookIn n o = some (some u) ∧ RelV v u := by
  obtain ⟨e, rfl⟩ | ⟨d, e, ed⟩ := e
  · obtain ⟨t, ho⟩ := exo_at I.hok e
    exact ⟨_, none, ⟨ho, rfl, rfl, trivial⟩, fun n v z => by cases z⟩
  · obtain ⟨t, ho⟩ := exo_at I.hok e
    obtain ⟨mA, hns, rel⟩ := exd_at I.hok ed
    obtain ⟨od, hod, look⟩ := lookIn_ns hns
    refine ⟨_, some od, ⟨ho, rfl, rfl, hod⟩, fun n v z => ?_⟩
    have rn := rel n
    rw [z] at rn
    cases q : mA n with
    | none => rw [q] at rn; exact rn.elim
    | some u =>
      rw [q] at rn
      exact ⟨u, od, rfl, by rw [look, q], rn⟩

/-- isinstance(e, c) -/
def rIsEr (K : PySem.W.Frag) : List V → Hp → VK → Prop := fun xs H Q => ∃ (a C : Addr) (fs : List (Str × V)) (c : V) (u : Value) (b : Bool),
  xs = [.ref a, c] ∧ ErA H a C fs ∧ ErC K C ∧ ClsV c u ∧ PySem.W.kitOne K (.ref C) u = some b ∧ Q (.bl b) H
theorem call_isEr : CallR X (.builtin "isinstance") (rIsEr X.K) := by
  intro pins s σ H xs us Q I rel h
  obtain ⟨a, C, fs, c, u, b, rfl, ea, T, kc, kit, q⟩ := h
  obtain ⟨u1, u2, rfl, r1, r2⟩ := vals2 rel
  cases (show u1 = Value.ref a from r1)
  have e2 := kc.eq r2
  subst e2
  obtain ⟨ox, od, J, _⟩ := inst_of I ea
  have Z := PySem.W.kitx_exc (x := a) (ox := ox) (od := od) (K := X.K) T.ci T.ga T.gg T.be T.cc T.cg T.ct T.om
  exact PySem.W.kia_one Z I.kIn J kit (fun z => nomatch z) fun tk => ⟨.bl b, H, I.tok tk, rfl, q⟩

/-- e.f -/
def tErF (K : PySem.W.Frag) (f : Str) (te : TE) : TE := fun σ H Q => te σ H fun x H1 => ∃ (a C : Addr) (fs : List (Str × V)) (v : V),
  x = .ref a ∧ ErA H1 a C fs ∧ ErC K C ∧ PySem.W.findIn K (.ref C) f = some none ∧ fs.lookup f = some v ∧ Q v H1
theorem pe_erF {e : Expr} {te : TE} {pos : Pos} {f : Str} (he : PE X e te)
    (hb : attributeBase e f X.env (eval e X.env) = eval e X.env := by rfl) : PE X (.Attribute e f pos) (tErF X.K f te) where
  run := by
    intro pins s σ H Q I h
    refine attr_of hb (thn (he.run pins s σ H _ I h) ?_)
    rintro u s1 ⟨x, H1, I1, rx, a, C, fs, v, ex, ea, T, no, l, q⟩
    subst ex
    cases (show u = Value.ref a from rx)
    obtain ⟨ox, od, J, g⟩ := inst_of I1 ea
    obtain ⟨u, o, rfl, lk, ru⟩ := g f v l
    exact HandSPX.exc_get I1.kIn J T.ga T.gg T.be (PySem.W.findObj_own T.hd no rfl lk) (handed_of ru) ⟨v, H1, I1.tok _, ru, q⟩

/-- C(), an error class without an __init__ of its own -/
def tEr0 (C : Addr) : TE := fun _ H Q => ∀ a, H a = none → Q (.ref a) (upd H a (exo a C none))
theorem pe_er0 {C : Addr} {bmB : List Value} {B newId initId : String} {x : Str} {p pos : Pos} (F : ExcBaseFacts B newId initId bmB)
    (q : PySem.W.excIn X.K C bmB newId = true) (gC : X.mg x = some (.ref C)) (kC : PySem.W.keepIn X.K (.ref C) = true) (hg : Gl X x)
    (hdb : (x == ("__debug__" : Str)) = false := by decide) : PE X (.Call (.Name x p) [] [] pos) (tEr0 C) where
  run := by
    intro pins s σ H Q I h
    refine wpAny_Call_Name_kw (ld_glob I hg gC ?_ hdb)
    refine PySem.W.callWith_K0 I.kIn kC ?_
    obtain ⟨bm, N, nm, qn, bs, hdct, sn, sub, ab, col, dd, k0, k1, k2, k3, k5, mN, hC, hN, hni, T⟩ := exc_obj I.kIn q
    obtain ⟨hp, g, d, t, os⟩ := s
    refine wpAny_call_exc_subT F T hC hN hni ?_ (by show 0 ≤ sizeLine; exact Nat.zero_le _)
    intro h' a hm
    have fresh : H a = none := I.hok.gone hm.new
    obtain ⟨t0, ht, _, _⟩ := hm.there
    have lay : ObjOk X.prog X.w (upd H a (exo a C none)) h' a (exo a C none) := exo_ok ht
    refine ⟨.ref a, _, I.un (t' := t) ?_ ?_, rfl, h a fresh⟩
    · exact {
        keep := fun b u z _ _ _ => hm.keeps b u z
        slot := fun b u z _ _ _ => ⟨u.slots, hm.keeps b u z⟩
        free := fun b u z n _ => by rw [upd_ne (fun e => by rw [e] at z; have := hm.new; rw [this] at z; cases z)]; exact n
        there := fun b u z _ => ⟨u, hm.keeps b u z⟩
        tups := fun b xs z => by rw [upd_ne (ne_of_none z fresh)]; exact z
        frzs := fun b o u z => by rw [upd_ne (ne_of_none z fresh)]; exact z
        tbls := fun b ps z => ⟨#[], by rw [upd_ne (ne_of_none z fresh), z]; simp⟩ }
    · intro b u z
      by_cases e : b = a
      · subst e
        rw [upd_same] at z
        cases z
        exact lay
      · rw [upd_ne e] at z
        exact (I.hok b u z).stay (fun c v _ y => hm.keeps c v y) (fun c y => by rw [upd_ne (ne_of_none y fresh)]; exact y)
          fun c xs y => by rw [upd_ne (ne_of_none y fresh)]; exact y

/-- C(e, ..), C's own __init__ keeping sp -/
def tErI (C : Addr) (sp : Sp) (ta : TA) : TE := fun σ H Q => ta σ H fun vs H1 => vs.length ≤ 1000 ∧ ∀ a, H1 a = none →
  sp (.ref a :: vs) (upd H1 a (exo a C none)) (fun v H2 => v = .non ∧ Q (.ref a) H2) (fun _ _ _ => False)
theorem pe_erI {x : Str} {C fI : Addr} {k : Nat} {fd : FuncData} {ps : List Str} {sp : Sp} {e : Expr} {es : List Expr} {ta : TA} {p pos : Pos}
    (T : OexC X.K C) (iC : PySem.W.findIn X.K (.ref C) "__init__" = some (some (.ref fI))) (tI : PySem.W.typeIn X.K (.ref fI) = some (.type "function"))
    (F1 : FnOk X.prog X.w X.K X.mg X.base CX k fI fd ps sp) (hr : Room (k + 1) X.A) (hb : Binds X.K fd ps [])
    (hx : Passes CX X (fun _ _ _ => False)) (hg : Gl X x) (hm : X.mg x = some (.ref C)) (ha : PA X (e :: es) ta)
    (hdb : (x == ("__debug__" : Str)) = false := by decide)
    (he : starEach (e :: es) X.env = (false, eval e X.env) :: starEach es X.env := by rfl)
    (hpl : (backTo pos (starEach es X.env)).any (·.1) = false := by rfl) :
    PE X (.Call (.Name x p) (e :: es) [] pos) (tErI C sp ta) where
  run := by
    intro pins s σ H Q I h
    obtain ⟨nm, q, N, bs, bm, sn, sub, ab, col, dd, k0, k1, k2, k3, k5, hC, hbm⟩ := T.cls
    refine wpAny_Call_Name_kw (ld_glob I hg hm ?_ hdb)
    refine PySem.W.callWith_K (h₀ := X.base) I.ok.mod.kin T.kC (thn (ha.run pos pins s σ H _ I h) ?_) he hpl
    rintro us s1 ⟨vs, H1, I1, rel, few, next⟩
    refine ⟨I1.kIn, ?_⟩
    show wpAny _ _ (call (.ref C) us) _ _ _
    obtain ⟨hp, g, dr, tk, os⟩ := s1
    have above : hp.objs.size ≤ hp.objs.size + 1 := Nat.le_succ _
    have call := next (hp.objs.size + 1) (I1.hok.fresh above)
    have kept : ∀ b o, hp.get? b = some o → ((hp.push (PySem.W.kdv_tup us)).push (PySem.HandSPX.excO C hp.objs.size)).get? b = some o :=
      fun b o z => Heap.get?_push_of_some _ (Heap.get?_push_of_some _ z)
    have there : ((hp.push (PySem.W.kdv_tup us)).push (PySem.HandSPX.excO C hp.objs.size)).get? (hp.objs.size + 1) = some (PySem.HandSPX.excO C hp.objs.size) := by heap_get
    have I2 := I1.laid (t' := tk) (o := exo (hp.objs.size + 1) C none) kept above (exo_ok there)
    have rel2 : Vals (V.ref (hp.objs.size + 1) :: vs) (Value.ref (hp.objs.size + 1) :: us) := .cons rfl rel
    have len2 : (Value.ref (hp.objs.size + 1) :: us ++ []).length = ps.length := by
      rw [List.append_nil, ← rel2.length]
      exact F1.len _ _ _ _ call
    have usz : us.length ≤ sizeLine := by
      have := Paired.length rel
      rw [sizeLine_eq]
      omega
    have bound := hb _ (Value.ref (hp.objs.size + 1) :: us) I2.kIn len2
    rw [List.append_nil] at bound
    refine wpAny_call (PySem.HandSPX.call_own F.excBase_ValueError (fun Y => PySem.HandSPX.refsVE_contains Y bm hbm) (I1.kIn _ _ hC)
      (PySem.W.looks_findIn I1.kIn iC) (fun self => PySem.W.bind_fn I1.kIn self tI) usz ?_)
    refine codeAny_mono (F1.run _ X.stack _ _ ⟨Value.ref (hp.objs.size + 1) :: us, []⟩ _ _ _ (fun _ _ _ => False) (hr.make C us [])
      (I2.env0.make C us []) bound rel2 call) ?_
    intro r s' hr'
    match r, hr' with
    | .error er, z => exact hx pins σ _ _ er s' I2 z
    | .ok (.ret u), z =>
      obtain ⟨v, H2, I3, rv, ev, q2⟩ := I2.after z
      subst ev
      exact ⟨rv, ⟨V.ref (hp.objs.size + 1), H2, I3, rfl, q2⟩⟩
    | .ok .next, z => exact z.elim
    | .ok .brk, z => exact z.elim
    | .ok .cont, z => exact z.elim
end
end Gd

/-! Gr: repr of data, lists and tuples and dicts within one another. -/
namespace Gd
open PySem PySem.Spec PyProof.Rows L2
def kD : Key → PyData
  | .inl i => .int i
  | .inr x => .str x
mutual
/-- v is the data d, at the abstract heap -/
inductive Dq (K : PySem.W.Frag) (H : Hp) : V → PyData → Prop
  | non : Dq K H .non .none
  | bl (b : Bool) : Dq K H (.bl b) (.bool b)
  | int (i : Int) : Dq K H (.int i) (.int i)
  | str (x : Str) : Dq K H (.str x) (.str x)
  | lst {a : Addr} {xs : List V} {ds : List PyData} : SqL K H a xs → DqAll K H xs ds → Dq K H (.ref a) (.list ds)
  | tup {a : Addr} {xs : List V} {ds : List PyData} : SqT K H a xs → DqAll K H xs ds → Dq K H (.ref a) (.tuple ds)
  | dct {a : Addr} {kvs : List (Key × V)} {ds : List (PyData × PyData)} : Rd H a (.dK kvs) → DqKv K H kvs ds → Dq K H (.ref a) (.dict ds)
inductive DqAll (K : PySem.W.Frag) (H : Hp) : List V → List PyData → Prop
  | nil : DqAll K H [] []
  | cons {v : V} {vs : List V} {d : PyData} {ds : List PyData} : Dq K H v d → DqAll K H vs ds → DqAll K H (v :: vs) (d :: ds)
inductive DqKv (K : PySem.W.Frag) (H : Hp) : List (Key × V) → List (PyData × PyData) → Prop
  | nil : DqKv K H [] []
  | cons {k : Key} {v : V} {vs : List (Key × V)} {d : PyData} {ds : List (PyData × PyData)} : Dq K H v d → DqKv K H vs ds → DqKv K H ((k, v) :: vs) ((kD k, d) :: ds)
end

theorem ram_nil {h : Heap} {n : Nat} : ReadAtMost h n [] := fun b hb => (List.not_mem_nil hb).elim
/-- a value's own repr, and what it reads -/
structure Rp (prog : Program) (w : World) (h : Heap) (u : Value) (d : PyData) : Prop where
  reads : ∃ as, Reads h u d as
  repr : d.showable = true → d.shown.length ≤ sizeLine → ∃ bs, ReadAtMost h d.depth bs ∧ ReprK prog w bs h d.depth u d.shown
structure RpAll (prog : Program) (w : World) (h : Heap) (us : List Value) (ds : List PyData) : Prop where
  reads : ∃ as, ReadsAll h us ds as
  repr : PyData.showableAll ds = true → (∀ t ∈ PyData.shownAll ds, t.length ≤ sizeLine) →
    ∃ bs, ReadAtMost h (PyData.depthAll ds) bs ∧ ReprAllK prog w bs h (PyData.depthAll ds) us (PyData.shownAll ds)
section
variable {prog : Program} {w : World} {h : Heap}
theorem RpAll.nil : RpAll prog w h [] [] := ⟨⟨_, .nil⟩, fun _ _ => ⟨[], ram_nil, by simp only [PyData.shownAll]; exact .nil⟩⟩
theorem RpAll.cons {u : Value} {d : PyData} {us : List Value} {ds : List PyData} (a : Rp prog w h u d) (b : RpAll prog w h us ds) : RpAll prog w h (u :: us) (d :: ds) where
  reads := by
    obtain ⟨as, r⟩ := a.reads
    obtain ⟨bs, rs⟩ := b.reads
    exact ⟨_, .cons r rs⟩
  repr := by
    intro hs hz
    obtain ⟨s1, s2⟩ : d.showable = true ∧ PyData.showableAll ds = true := by simpa [PyData.showableAll] using hs
    obtain ⟨b1, m1, k1⟩ := a.repr s1 (hz _ (by simp only [PyData.shownAll]; exact List.mem_cons_self ..))
    obtain ⟨b2, m2, k2⟩ := b.repr s2 fun t ht => hz t (by simp only [PyData.shownAll]; exact List.mem_cons_of_mem _ ht)
    refine ⟨b1 ++ b2, ?_, ?_⟩
    · simp only [PyData.depthAll]
      exact (m1.mono (Nat.le_max_left _ _)).append (m2.mono (Nat.le_max_right _ _))
    · simp only [PyData.depthAll, PyData.shownAll]
      have sub1 : ∀ c ∈ b1, c ∈ b1 ++ b2 := fun c hc => List.mem_append_left _ hc
      have sub2 : ∀ c ∈ b2, c ∈ b1 ++ b2 := fun c hc => List.mem_append_right _ hc
      exact .cons ((k1.more sub1).level_le (Nat.le_max_left _ _)) (k2.more_le sub2 (Nat.le_max_right _ _))
theorem Rp.list {a : Addr} {o : Obj} {us : List Value} {n : Nat} {ds : List PyData} (ho : h.get? a = some o) (hc : o.cls = .type "list") (hd : o.data = .seq us.toArray n) (all : RpAll prog w h us ds) : Rp prog w h (.ref a) (.list ds) := by
  obtain ⟨as, rs⟩ := all.reads
  have r : Reads h (.ref a) (.list ds) _ := .list ho hc hd rs
  refine ⟨⟨_, r⟩, fun hs hz => ?_⟩
  have hz' : (listText (PyData.shownAll ds)).length ≤ sizeLine := by simpa only [PyData.shown] using hz
  obtain ⟨bs, m, k⟩ := all.repr (by simpa [PyData.showable] using hs) fun t ht => Nat.le_trans (listText_mem_le ht) hz'
  have deep : PyData.depthAll ds < PyData.depth (.list ds) := by simp only [PyData.depth]; omega
  have off : a ∉ bs := not_mem_of_deeper r deep m
  refine ⟨a :: bs, ReadAtMost.cons r (Nat.le_of_lt deep) m, ?_⟩
  simp only [PyData.depth, PyData.shown]
  cases us with
  | nil =>
    cases rs
    simp only [PyData.shownAll, listText_nil]
    exact ReprK.listEmpty ho hc hd
  | cons u us => exact ReprK.list ho hc hd off (by simpa using k.length_eq) fun i y e => k.item i y (by simpa using e)
theorem Rp.tuple {a : Addr} {o : Obj} {us : List Value} {n : Nat} {ds : List PyData} (ho : h.get? a = some o) (hc : o.cls = .type "tuple") (hd : o.data = .seq us.toArray n) (all : RpAll prog w h us ds) : Rp prog w h (.ref a) (.tuple ds) := by
  obtain ⟨as, rs⟩ := all.reads
  have r : Reads h (.ref a) (.tuple ds) _ := .tuple ho hc hd rs
  refine ⟨⟨_, r⟩, fun hs hz => ?_⟩
  have hz' : (tupleText (PyData.shownAll ds)).length ≤ sizeLine := by simpa only [PyData.shown] using hz
  obtain ⟨bs, m, k⟩ := all.repr (by simpa [PyData.showable] using hs) fun t ht => Nat.le_trans (tupleText_mem_le ht) hz'
  have deep : PyData.depthAll ds < PyData.depth (.tuple ds) := by simp only [PyData.depth]; omega
  refine ⟨a :: bs, ReadAtMost.cons r (Nat.le_of_lt deep) m, ?_⟩
  simp only [PyData.depth, PyData.shown]
  exact ReprK.tuple ho hc hd (not_mem_of_deeper r deep m) k
theorem Rp.dict {a : Addr} {o : Obj} {es : Array DictEntry} {n : Nat} {ds : List (PyData × PyData)} (ho : h.get? a = some o) (hc : o.cls = .type "dict") (hd : o.data = .dict es n) (low : (a == sysModules) = false)
    (ks : RpAll prog w h (es.toList.map (·.key)) (ds.map (·.1))) (vs : RpAll prog w h (es.toList.map (·.val)) (ds.map (·.2))) : Rp prog w h (.ref a) (.dict ds) := by
  obtain ⟨as, r1⟩ := ks.reads
  obtain ⟨bs, r2⟩ := vs.reads
  have r : Reads h (.ref a) (.dict ds) _ := .dict ho hc hd r1 r2
  refine ⟨⟨_, r⟩, fun hs hz => ?_⟩
  have hz' : (dictText (PyData.shownKv ds)).length ≤ sizeLine := by simpa only [PyData.shown] using hz
  obtain ⟨s1, s2⟩ := PyData.showableKv_split ds (by simpa [PyData.showable] using hs)
  obtain ⟨b1, m1, k1⟩ := ks.repr s1 fun t ht => by
    obtain ⟨p, hp, hl⟩ := PyData.shownKv_key_le ds t ht
    exact Nat.le_trans hl (Nat.le_trans (dictText_mem_le hp) hz')
  obtain ⟨b2, m2, k2⟩ := vs.repr s2 fun t ht => by
    obtain ⟨p, hp, hl⟩ := PyData.shownKv_val_le ds t ht
    exact Nat.le_trans hl (Nat.le_trans (dictText_mem_le hp) hz')
  have deep : PyData.depthKv ds < PyData.depth (.dict ds) := by simp only [PyData.depth]; omega
  have m := (m1.mono (PyData.depthAll_keys_le ds)).append (m2.mono (PyData.depthAll_vals_le ds))
  refine ⟨a :: (b1 ++ b2), ReadAtMost.cons r (Nat.le_of_lt deep) m, ?_⟩
  simp only [PyData.depth, PyData.shown, PyData.shownKv_eq]
  have sub1 : ∀ c ∈ b1, c ∈ b1 ++ b2 := fun c hc => List.mem_append_left _ hc
  have sub2 : ∀ c ∈ b2, c ∈ b1 ++ b2 := fun c hc => List.mem_append_right _ hc
  exact ReprK.dict ho hc hd low (not_mem_of_deeper r deep m) (ReprEntriesK.of_two es.toList _ _ (k1.more_le sub1 (PyData.depthAll_keys_le ds)) (k2.more_le sub2 (PyData.depthAll_vals_le ds)))
theorem Rp.int (i : Int) (t : Tok) : Rp prog w h (.int i t) (.int i) :=
  ⟨⟨_, .int i t⟩, fun hs _ => ⟨[], ram_nil, by simp only [PyData.shown]; exact .of_is (ReprIs.int t (by simpa [PyData.showable] using hs)) _ _ _⟩⟩
theorem Rp.str (x : Str) (t : Tok) : Rp prog w h (.str x t) (.str x) :=
  ⟨⟨_, .str x t⟩, fun _ hz => ⟨[], ram_nil, by simp only [PyData.shown]; exact .of_is (ReprIs.str x t (by simpa only [PyData.shown] using hz)) _ _ _⟩⟩
theorem Rp.bool (b : Bool) : Rp prog w h (.bool b) (.bool b) :=
  ⟨⟨_, .bool b⟩, fun _ _ => ⟨[], ram_nil, by simp only [PyData.shown]; exact .of_is (ReprIs.bool b) _ _ _⟩⟩
theorem Rp.none : Rp prog w h .none .none :=
  ⟨⟨_, .none⟩, fun _ _ => ⟨[], ram_nil, by simp only [PyData.shown]; exact .of_is ReprIs.none _ _ _⟩⟩
end
section
variable {X : Cx} {pins : List (Addr × Obj)} {σ : L2.St} {H : Hp} {s : Shared}
theorem key_rp {prog : Program} {w : World} {h : Heap} {k : Key} {u : Value} (e : keyIs k u = true) : Rp prog w h u (kD k) := by
  rcases keyIs_shape e with ⟨i, t, rfl, rfl⟩ | ⟨x, t, rfl, rfl⟩
  · exact Rp.int i t
  · exact Rp.str x t
mutual
theorem Dq.rp (I : Inv X pins σ H s) : ∀ (d : PyData) (v : V) (u : Value), Dq X.K H v d → RelV v u → Rp X.prog X.w s.heap u d
  | .none, _, _, h, r => by cases h; cases r; exact Rp.none
  | .bool b, _, _, h, r => by cases h; cases r; exact Rp.bool b
  | .int i, _, _, h, r => by cases h; obtain ⟨t, rfl⟩ := r; exact Rp.int i t
  | .str x, _, _, h, r => by cases h; obtain ⟨t, rfl⟩ := r; exact Rp.str x t
  | .list ds, _, _, h, r => by
    cases h with
    | lst hs ha =>
      cases r
      obtain ⟨its, rv, ⟨o, n, ho, hc, _, hd⟩, _⟩ := I.list hs
      exact Rp.list ho hc hd (DqAll.rp I ds _ its ha rv)
  | .tuple ds, _, _, h, r => by
    cases h with
    | tup hs ha =>
      cases r
      obtain ⟨its, rv, ⟨o, ho, hc, n, hd⟩, _⟩ := I.tuple hs
      exact Rp.tuple ho hc hd (DqAll.rp I ds _ its ha rv)
  | .dict ds, _, _, h, r => by
    cases h with
    | dct hs ha =>
      cases r
      obtain ⟨_, low, vs, kv, o, es, ep, ho, hx, hd, _, hp, _⟩ := dk_rd I.hok hs
      obtain ⟨k1, k2⟩ := DqKv.rp I ds _ vs es.toList ha kv hp
      exact Rp.dict ho hx.1 hd low k1 k2
theorem DqAll.rp (I : Inv X pins σ H s) : ∀ (ds : List PyData) (vs : List V) (us : List Value), DqAll X.K H vs ds → Vals vs us → RpAll X.prog X.w s.heap us ds
  | [], _, _, h, r => by cases h; cases r; exact RpAll.nil
  | d :: ds, _, _, h, r => by
    cases h with
    | cons h1 h2 =>
      cases r with
      | cons r1 r2 => exact RpAll.cons (Dq.rp I d _ _ h1 r1) (DqAll.rp I ds _ _ h2 r2)
theorem DqKv.rp (I : Inv X pins σ H s) : ∀ (ds : List (PyData × PyData)) (kvs : List (Key × V)) (vs : List (Key × Value)) (es : List DictEntry), DqKv X.K H kvs ds → KV kvs vs → Pairs (mixKind X.prog X.w) es vs →
    RpAll X.prog X.w s.heap (es.map (·.key)) (ds.map (·.1)) ∧ RpAll X.prog X.w s.heap (es.map (·.val)) (ds.map (·.2))
  | [], _, _, _, h, r, p => by cases h; cases r; cases p; exact ⟨RpAll.nil, RpAll.nil⟩
  | (dk, d) :: ds, _, _, _, h, r, p => by
    cases h with
    | cons h1 h2 =>
      cases r with
      | cons r1 r2 =>
        obtain ⟨r0, r1⟩ := r1
        cases p with
        | cons hk hv ht =>
          obtain ⟨a, b⟩ := DqKv.rp I ds _ _ _ h2 r2 ht
          simp only at r0 r1
          subst r0
          exact ⟨RpAll.cons (key_rp hk) a, RpAll.cons (Dq.rp I d _ _ h1 (by rw [← hv] at r1; exact r1)) b⟩
end
end
/-- repr(x) of data -/
def rReprQ (K : PySem.W.Frag) : List V → Hp → VK → Prop := fun xs H Q => ∃ x d, xs = [x] ∧ Dq K H x d ∧
  d.showable = true ∧ d.depth ≤ 60 ∧ d.shown.length ≤ sizeLine ∧ Q (.str d.shown) H
theorem call_reprQ {X : Cx} (hgd : X.A.guards = some []) (hu : X.A.units + 64 < cLine) : CallR X (.builtin "repr") (rReprQ X.K) := by
  intro pins s σ H xs us Q I rel h
  obtain ⟨x, d, rfl, dq, sh, hd, hz, q⟩ := h
  cases rel with
  | cons rx rt =>
    cases rt
    rename_i u
    cases dq with
    | non =>
      cases rx
      exact PySem.P.repr_of_none ⟨.str _, H, I.tok _, ⟨_, rfl⟩, q⟩
    | bl b =>
      cases rx
      exact PySem.P.repr_of_bool ⟨.str _, H, I.tok _, ⟨_, rfl⟩, q⟩
    | int i =>
      obtain ⟨t, rfl⟩ := rx
      exact PySem.P.repr_of_int (by simpa [PyData.showable] using sh) ⟨.str _, H, I.tok _, ⟨_, rfl⟩, q⟩
    | str z =>
      obtain ⟨t, rfl⟩ := rx
      exact PySem.P.repr_of_str ⟨.str _, H, I.tok _, ⟨_, rfl⟩, q⟩ (by simpa only [PyData.shown] using hz)
    | lst hs ha =>
      cases rx
      rename_i a zs ds
      obtain ⟨its, rv, ⟨o, n, ho, hc, _, hdt⟩, _⟩ := I.list hs
      have all := DqAll.rp I ds _ its ha rv
      obtain ⟨as, rs⟩ := all.reads
      have r : Reads s.heap (.ref a) (.list ds) _ := .list ho hc hdt rs
      have hz' : (listText (PyData.shownAll ds)).length ≤ sizeLine := by simpa only [PyData.shown] using hz
      obtain ⟨bs, m, k⟩ := all.repr (by simpa [PyData.showable] using sh) fun t ht => Nat.le_trans (listText_mem_le ht) hz'
      have deep : PyData.depthAll ds < PyData.depth (.list ds) := by simp only [PyData.depth]; omega
      refine call_repr_slot (by omega) ⟨o, ho, hc⟩ F.slot_list_repr.toG ?_
      cases its with
      | nil =>
        cases rs
        refine call_list_repr_empty ⟨o, ho, hc⟩ ho hdt ?_
        exact ⟨_, _, rfl, .str _, H, I.tok _, ⟨_, rfl⟩, by simpa only [PyData.shown, PyData.shownAll, listText_nil] using q⟩
      | cons u0 us0 =>
        refine call_list_reprK ho hc hdt (not_mem_of_deeper r deep m) (by simpa using k.length_eq) (fun i y e => k.item i y (by simpa using e)) hgd (fun b _ => Clear.nil b) (by show X.A.units + 1 + _ < cLine; omega) (fun _ _ e => e) (fun h' t tk kk => ?_) hz'
        exact ⟨_, _, rfl, .str _, H, I.kept kk, ⟨_, rfl⟩, by simpa only [PyData.shown] using q⟩
    | tup hs ha =>
      cases rx
      rename_i a zs ds
      obtain ⟨its, rv, ⟨o, ho, hc, n, hdt⟩, _⟩ := I.tuple hs
      have all := DqAll.rp I ds _ its ha rv
      obtain ⟨as, rs⟩ := all.reads
      have r : Reads s.heap (.ref a) (.tuple ds) _ := .tuple ho hc hdt rs
      have hz' : (tupleText (PyData.shownAll ds)).length ≤ sizeLine := by simpa only [PyData.shown] using hz
      obtain ⟨bs, m, k⟩ := all.repr (by simpa [PyData.showable] using sh) fun t ht => Nat.le_trans (tupleText_mem_le ht) hz'
      have deep : PyData.depthAll ds < PyData.depth (.tuple ds) := by simp only [PyData.depth]; omega
      refine call_repr_slot (by omega) ⟨o, ho, hc⟩ F.slot_tuple_repr ?_
      refine call_tuple_reprK ho hc hdt (not_mem_of_deeper r deep m) k hgd (fun b _ => Clear.nil b) (by show X.A.units + 1 + _ < cLine; omega) (fun _ _ e => e) (fun h' t tk kk => ?_) hz'
      exact ⟨_, _, rfl, .str _, H, I.kept kk, ⟨_, rfl⟩, by simpa only [PyData.shown] using q⟩
    | dct hs ha =>
      cases rx
      rename_i a kvs ds
      obtain ⟨_, low, vs, kv, o, es, ep, ho, hx, hdt, _, hp, _⟩ := dk_rd I.hok hs
      obtain ⟨ks, vals⟩ := DqKv.rp I ds _ vs es.toList ha kv hp
      obtain ⟨as, r1⟩ := ks.reads
      obtain ⟨bs, r2⟩ := vals.reads
      have r : Reads s.heap (.ref a) (.dict ds) _ := .dict ho hx.1 hdt r1 r2
      have hz' : (dictText (PyData.shownKv ds)).length ≤ sizeLine := by simpa only [PyData.shown] using hz
      obtain ⟨s1, s2⟩ := PyData.showableKv_split ds (by simpa [PyData.showable] using sh)
      obtain ⟨b1, m1, k1⟩ := ks.repr s1 fun t ht => by
        obtain ⟨p, hp, hl⟩ := PyData.shownKv_key_le ds t ht
        exact Nat.le_trans hl (Nat.le_trans (dictText_mem_le hp) hz')
      obtain ⟨b2, m2, k2⟩ := vals.repr s2 fun t ht => by
        obtain ⟨p, hp, hl⟩ := PyData.shownKv_val_le ds t ht
        exact Nat.le_trans hl (Nat.le_trans (dictText_mem_le hp) hz')
      have deep : PyData.depthKv ds < PyData.depth (.dict ds) := by simp only [PyData.depth]; omega
      have m := (m1.mono (PyData.depthAll_keys_le ds)).append (m2.mono (PyData.depthAll_vals_le ds))
      have sub1 : ∀ c ∈ b1, c ∈ b1 ++ b2 := fun c hc => List.mem_append_left _ hc
      have sub2 : ∀ c ∈ b2, c ∈ b1 ++ b2 := fun c hc => List.mem_append_right _ hc
      refine call_repr_slot (by omega) ⟨o, ho, hx.1⟩ F.slot_dict_repr ?_
      refine call_dict_reprK ho hx.1 hdt low (not_mem_of_deeper r deep m) (ReprEntriesK.of_two es.toList _ _ (k1.more_le sub1 (PyData.depthAll_keys_le ds)) (k2.more_le sub2 (PyData.depthAll_vals_le ds)))
        hgd (fun b _ => Clear.nil b) (by show X.A.units + 1 + _ < cLine; omega) (fun _ _ e => e) (fun h' t tk kk => ?_) (by rw [← PyData.shownKv_eq]; exact hz')
      exact ⟨_, _, rfl, .str _, H, I.kept kk, ⟨_, rfl⟩, by simpa only [PyData.shown, PyData.shownKv_eq] using q⟩
end Gd

/-! Lw: several clauses `except .. as n`; the end of a law row that makes lambdas, where no guard stands around. -/
namespace Gd
open PySem PySem.Spec PyProof.Rows L2

/-! ### several clauses, each with the name at slot i -/
abbrev Clause := Value × (Addr → Value → Option Addr → TS)
/-- behind the suite the name is gone -/
def offE (i : Nat) (D : Ends) : Ends :=
  { nx := fun σ H => D.nx (σ.set i none) H, rt := D.rt, bk := fun σ H => D.bk (σ.set i none) H, ct := fun σ H => D.ct (σ.set i none) H }
def wAll (K : PySem.W.Frag) (n i : Nat) (W : WX) (D : Ends) : List Clause → WX
  | [] => W
  | (c, ts) :: r => fun cls d σ H => ∃ b, PySem.W.exmOne K cls c = some b ∧
      (b = true → σ.length = n → ∀ a, H a = none → ts a cls d (offE i D) (σ.set i (some (.ref a))) H) ∧ (b = false → wAll K n i W D r cls d σ H)
inductive Clauses (X : Cx) (n : Str) : List ExceptHandler → List Clause → Prop
  | nil : Clauses X n [] []
  | cons {x : Str} {c : Value} {ts : Addr → Value → Option Addr → TS} {st : Stmt} {sts : List Stmt} {p1 p2 : Pos}
      {hds : List ExceptHandler} {l : List Clause} (nm : Names X x c)
      (su : ∀ (a : Addr) (oe : Obj) (cls : Value) (d : Option Addr) (pn : List (Addr × Obj)), Zc cls d oe →
        (∃ vs, oe.data = .fields vs) → PSs (X.suite a ((a, oe) :: pn)) (st :: sts) (ts a cls d))
      (rest : Clauses X n hds l) : Clauses X n (.ExceptHandler (some (.Name x p1)) (some n) (st :: sts) p2 :: hds) ((c, ts) :: l)

section
variable {X : Cx} {n : Str} {i : Nat} {body : List Stmt} {h₀ : ExceptHandler} {hds : List ExceptHandler} {l : List Clause} {pos : Pos} {tb : WX → TS} {W : WX}
theorem ps_tryAll (stk : X.stack = X.env :: X.outer) (frm : X.env.frame = some X.env.locals) (nd : X.N.Nodup) (at_ : X.N[i]? = some n)
    (loc : X.env.kindOf n = some .local) (tk : Takes X W)
    (hb : ∀ (V : WX) (pn : List (Addr × Obj)) (xe : Value → Shared → Prop), Takes (X.tr pn xe) V → PassesOwn (model X.prog X.w) X.A X.env xe →
      PSs (X.tr pn xe) body (tb V)) (hh : Clauses X n (h₀ :: hds) l) :
    PS X (.Try body (h₀ :: hds) [] [] pos) (fun D σ H => tb (wAll X.K X.N.length i W D l) D σ H) where
  run := by
    intro pins s σ H D I h
    have ok := I.ok
    have frames : X.A.frames = some (X.env :: X.outer) := by rw [ok.frames, stk]
    have isLoc : Loc X.env.scope n := .inl loc
    refine wpAny_Try_except (wpAny_mono ((hb (wAll X.K X.N.length i W D l) (X.pn ++ pins)
      (fun e s₁ => wpAny (model X.prog X.w) X.A (noteFrame e X.env)
        (fun _ s₂ => wpAny (model X.prog X.w) X.A (setFlight e none)
          (fun _ s₃ => wpAny (model X.prog X.w) X.A (handleBy e X.env (h₀ :: hds)) (SP X pins D) X.xe s₃) X.xe s₂) X.xe s₁)
      ?caught PassesOwn.looking).run [] s σ H D (I.toTry _) h) ?through fun _ _ z => z)
    case through =>
      intro f s1 q
      match f, q with
      | .next, ⟨σ', H', J, q⟩ => exact wpAny_execs_nil ⟨σ', H', J.ofTry ok, q⟩
      | .brk, ⟨σ', H', J, q⟩ => exact ⟨σ', H', J.ofTry ok, q⟩
      | .cont, ⟨σ', H', J, q⟩ => exact ⟨σ', H', J.ofTry ok, q⟩
      | .ret u, ⟨v, σ', H', J, r, q⟩ => exact ⟨v, σ', H', J.ofTry ok, r, q⟩
    case caught =>
      rintro u s' ⟨a, B, sI, pins', σ', H', cls, d, rfl, J0, nb, up, sky, na, os, ag, w⟩
      have J : Inv X pins σ' H' sI := J0.ofTry ok
      have sk : Sky B (X.env :: X.outer) a (Zc cls d) X.env.locals s'.heap := stk ▸ sky
      show wpAny (model X.prog X.w) X.A (noteFrame (.ref a) X.env) _ _ _
      refine Sky.land Zc.steady frames frm sk ?_
      intro hp fl up2
      have landed : Inv X pins σ' H' { s' with heap := hp } := J.landed nb fl.1 (up.trans up2) os ag
      obtain ⟨ob, vs, atA, zc, dat⟩ := fl.there
      have noFrame : a ∉ frs (X.env :: X.outer) := by
        intro hm
        obtain ⟨_, o', e', no⟩ := fl.2.2.1.mem hm
        rw [atA] at e'
        cases e'
        exact no _ dat
      have neL : a ≠ X.env.locals := fun z => noFrame (List.mem_filterMap.mpr ⟨X.env, List.mem_cons_self, by rw [frm, z]⟩)
      have neF : a ∉ X.fs := by
        intro hm
        obtain ⟨e, he, q⟩ := List.mem_filterMap.mp hm
        exact noFrame (List.mem_filterMap.mpr ⟨e, List.mem_cons_of_mem _ he, q⟩)
      have inSuite := landed.suite atA dat na neL neF
      have go : ∀ {hs : List ExceptHandler} {ls : List Clause}, Clauses X n hs ls → wAll X.K X.N.length i W D ls cls d σ' H' →
          wpAny (model X.prog X.w) X.A (handleBy (.ref a) X.env hs) (SP X pins D) X.xe { s' with heap := hp } := by
        intro hs ls k
        induction k with
        | nil =>
          intro w
          refine wpAny_handleBy_nil ?_
          obtain ⟨_, _, _, oe, vs2, T, oT, ts', he, hz, hd, h1, _⟩ := id fl
          unfold PySem.passOn
          refine wpAny_bind (wpAny_field he hd h1 ?_)
          have ref : ¬ ((Value.ref T == Value.none) = true) := by simp
          rw [if_neg ref]
          have fin : wpAny (model X.prog X.w) X.A (setFlight (.ref a) X.env.frame)
              (fun _ s4 => wpAny (model X.prog X.w) X.A (throw (.ref a) : Sem Flow) (SP X pins D) X.xe s4) X.xe { s' with heap := hp } := by
            rw [frm]
            refine HandSPX.setFlight_upZ fl fun h4 hh4 up4 => wpAny_throw (tk _ _ ?_)
            exact ⟨a, B, sI, pins, σ', H', cls, d, rfl, J, nb, (up.trans up2).trans up4, .inr (.inr (stk ▸ hh4)), na, os, ag, w⟩
          first
            | exact wpAny_bind (wpAny_pure (wpAny_bind fin))
            | exact wpAny_bind fin
        | @cons x c ts st sts p1 p2 hds2 l2 nm su rest ih =>
          rintro ⟨b, hb1, yes, no⟩
          refine wpAny_handleBy_cons (codeAny_handlers_test ?_) (fun q => by cases q)
          have typ : PySem.W.Looks (model X.prog X.w) hp (typeOf (.ref a)) cls :=
            fun A Q E s k q => wpAny_typeOf_ref (k _ _ atA) (by rw [zc.1]; exact q)
          have fits := PySem.W.exm_one (M := model X.prog X.w) (landed.kIn) typ hb1
          have named : ∀ {Q : Value → Shared → Prop} {E : Value → Shared → Prop}, Q c { s' with heap := hp } →
              wpAny (model X.prog X.w) (X.A.mark (some (.ref a))) (eval (.Name x p1) X.env) Q E { s' with heap := hp } := by
            intro Q E q
            obtain ⟨hg, dbg, hm | ⟨hm, hv, hn⟩⟩ := nm
            · exact ld_glob (X := X.suite a ((a, ob) :: (X.pn ++ pins))) inSuite hg hm q dbg
            · exact ld_blt (X := X.suite a ((a, ob) :: (X.pn ++ pins))) inSuite hg hm hv q hn dbg
          refine named (fits.here ?_)
          cases b with
          | false =>
            show wpAny _ X.A (handleBy (.ref a) X.env hds2) _ _ _
            exact ih (no rfl)
          | true =>
            refine codeAny_handlers_suite_as (HandSPX.lands_againZ fl ?_)
            intro h4 fl4 up4
            have land4 : Inv X pins σ' H' { s' with heap := h4 } := J.landed nb fl4.1 ((up.trans up2).trans up4) os ag
            obtain ⟨ob4, vs4, at4, z4, d4⟩ := fl4.there
            have in4 := land4.suite at4 d4 na neL neF
            refine store_ok (X := X.suite a ((a, ob4) :: (X.pn ++ pins))) (v := .ref a) in4 nd at_ isLoc rfl ?_ (.inr loc)
            intro s5 S5
            refine wpAny_mono ((su a ob4 cls d (X.pn ++ pins) z4 ⟨_, d4⟩).run [] s5 _ H' _ S5 (yes rfl J.len a na)) ?_ fun _ _ z => z.elim
            intro f s6 q
            have over : ∀ {σ6 : L2.St} {H6 : Hp} {Q : Shared → Prop}, Inv (X.suite a ((a, ob4) :: (X.pn ++ pins))) [] σ6 H6 s6 →
                (∀ s7, Inv X pins (σ6.set i none) H6 s7 → Q s7) →
                wpAny (model X.prog X.w) X.A (do bindName X.env n .none; unbindBehindTheSuite X.env n p2) (fun _ s7 => Q s7) X.xe s6 :=
              fun S q => gone_ok (S.unsuite ok) nd at_ loc q
            match f, q with
            | .next, ⟨σ6, H6, S6, q6⟩ => exact over S6 fun s7 J7 => ⟨_, _, J7, q6⟩
            | .brk, ⟨σ6, H6, S6, q6⟩ => exact over S6 fun s7 J7 => ⟨_, _, J7, q6⟩
            | .cont, ⟨σ6, H6, S6, q6⟩ => exact over S6 fun s7 J7 => ⟨_, _, J7, q6⟩
            | .ret u, ⟨v6, σ6, H6, S6, r6, q6⟩ => exact over S6 fun s7 J7 => ⟨_, _, _, J7, r6, q6⟩
      exact go hh w
end

/-! ### the law's end, the tables of its makers' code objects tracked -/
open LamX in
/-- what the law's call finds -/
structure EntryT (P : Program) (w : World) (K : PySem.W.Frag) (mg : Str → Option Value) (s : Shared) (a : Addr) (ns : List Int)
    (cs : List (Addr × Addr)) (H : Hp) (base : Heap) : Prop where
  tabs : ∀ p ∈ cs, H p.2 = some (.tbl #[])
  script : SqL K H a (ns.map V.int)
  kin : K.In base
  glob : base.Ns mainGlobals mg
  env : Env0 P w K mg base callerA [] s H
  bs : ∀ p ∈ cs, TabB base mg p.1 p.2
  old : ∀ (H' : Hp) (s' : Shared), Un [] [] H H' s.heap s'.heap → HOk P w H' s'.heap → PySem.OldK s.heap s'.heap

section
variable {P : Program} {w : World} {K : PySem.W.Frag} {mg mb : Str → Option Value} {s : Shared} {a : Addr} {vs : List Value} {ns : List Int} {cs : List (Addr × Addr)}
open LamX in
theorem entryT_of {H : Hp} (kin : K.In s.heap) (hns : s.heap.Ns mainGlobals mg) (hb : s.heap.Ns builtinsNs mb)
    (hbb : ∀ x : Str, x ≠ "__name__" → mb x = bootBuiltins x) (hlim : s.heap.NoLimit) (hg : s.gens = #[])
    (bmain : ∃ (bm : Addr) (ob : Obj), mg "__builtins__" = some (.ref bm) ∧ bm ≠ builtinsNs ∧ s.heap.get? bm = some ob ∧
      ob.cls = .type "module" ∧ ob.dict = some builtinsNs ∧ ob.data = .plain)
    (tabs : ∀ p ∈ cs, s.heap.get? p.2 = some { cls := .none, data := .fields #[] }) (noK : ∀ p ∈ cs, K.lookup p.2 = none)
    (heads : ∀ p ∈ cs, PySem.W.CodeHd s.heap p.1 p.2)
    (ha : s.heap.get? a = some { cls := .type "list", data := .seq vs.toArray })
    (o0 : ∀ p ∈ cs, H p.2 = some (.tbl #[])) (o1 : ∀ b, H b = none ∨ (∃ p ∈ cs, p.2 = b) ∨ ∃ o xs, H b = some (.frz o (.lst xs)))
    (o2 : SqL K H a (ns.map V.int)) (o3 : HOk P w H s.heap) (o4 : ∀ b, H b ≠ none → b = a ∨ ∃ p ∈ cs, p.2 = b)
    (o5 : H a ≠ none → K.lookup a = none) : ∃ base, EntryT P w K mg s a ns cs H base := by
  -- an object that is neither a sequence nor an empty record is in the base
  have stays : ∀ {b : Addr} {o : Obj}, s.heap.get? b = some o → (b = a → H b = none) → o.data ≠ .fields #[] → (hidT s.heap H).get? b = some o := by
    intro b o e h no
    refine hidT_get e (Classical.byContradiction fun q => ?_)
    obtain z | ⟨p, hp, z⟩ := o4 b q
    · exact q (h z)
    · have t := tabs p hp
      rw [z, e] at t
      rw [Option.some.inj t] at no
      exact no rfl
  have other : ∀ {b : Addr} {o : Obj}, s.heap.get? b = some o → (∀ xs n, o.data ≠ .seq xs n) → o.data ≠ .fields #[] → (hidT s.heap H).get? b = some o := by
    intro b o e nos nof
    refine stays e (fun z => ?_) nof
    rw [z, ha] at e
    rw [← Option.some.inj e] at nos
    exact (nos _ _ rfl).elim
  have ns_in : ∀ {b : Addr} {m : Str → Option Value}, s.heap.Ns b m → (hidT s.heap H).Ns b m := by
    rintro b m ⟨o, es, ep, e, d, r⟩
    refine ⟨o, es, ep, other e (fun xs n z => ?_) (fun z => ?_), d, r⟩
    · rw [d] at z
      cases z
    · rw [d] at z
      cases z
  have kin' : K.In (hidT s.heap H) := by
    intro b o e
    refine hidT_get (kin b o e) (Classical.byContradiction fun q => ?_)
    obtain z | ⟨p, hp, z⟩ := o4 b q
    · rw [z] at q e
      rw [o5 q] at e
      cases e
    · rw [← z, noK p hp] at e
      cases e
  have noPlain : ∀ {o : Obj}, o.data = .plain → (∀ xs n, o.data ≠ .seq xs n) ∧ o.data ≠ .fields #[] := by
    intro o d
    rw [d]
    refine ⟨fun xs n z => ?_, fun z => ?_⟩ <;> cases z
  obtain ⟨mc, l1, l2⟩ := hlim
  refine ⟨hidT s.heap H, o0, o2, kin', ns_in hns, ?_, ?_, ?_⟩
  · refine ⟨rfl, ⟨kin', ns_in hns, ⟨mb, ns_in hb, hbb⟩, ⟨mc, ns_in l1, l2⟩⟩, fun b o e => of_hidT e, Nat.le_of_eq (hidT_size _ _), trivial, ?_, o3, .of_eq hg⟩
    intro b hm
    exact (List.not_mem_nil hm).elim
  · intro p hp
    refine ⟨?_, ?_, ?_⟩
    · obtain ⟨o, us, file, tf, flags, tg, inF, text, tt, e1, r1, r2, r3, rest⟩ := heads p hp
      refine ⟨o, us, file, tf, flags, tg, inF, text, tt, other e1 (fun xs n z => ?_) (fun z => ?_), r1, r2, r3, rest⟩
      · rw [r2] at z
        cases z
      · rw [r2] at z
        cases z
        simp at r3
    · obtain ⟨bm, ob, b1, b2, b3, b4, b5, b6⟩ := bmain
      refine ⟨bm, ob, b1, b2, fun z => ?_, fun z => ?_, other b3 (noPlain b6).1 (noPlain b6).2, b4, b5, b6⟩
      · obtain ⟨o, es, ep, e, d, _⟩ := hns
        rw [z, e] at b3
        rw [← Option.some.inj b3, d] at b6
        cases b6
      · rw [z, tabs p hp] at b3
        rw [← Option.some.inj b3] at b6
        cases b6
    · intro z
      obtain ⟨o, es, ep, e, d, _⟩ := hns
      rw [z, tabs p hp] at e
      rw [← Option.some.inj e] at d
      cases d
  · intro H' s' un ok'
    have grown : ∀ p ∈ cs, ∃ more : Array Value, s'.heap.get? p.2 = some { cls := .none, data := .fields more } := by
      intro p hp
      obtain ⟨more, z⟩ := un.tbls p.2 #[] (o0 p hp)
      exact ⟨_, ok' p.2 _ z⟩
    have key : ∀ b o, (∀ p ∈ cs, p.2 ≠ b) → s.heap.get? b = some o → s'.heap.get? b = some o := by
      intro b o nb e
      cases q : H b with
      | none => exact un.keep b o e q List.not_mem_nil List.not_mem_nil
      | some u =>
        obtain z | ⟨p, hp, z⟩ | ⟨ob, xs, z⟩ := o1 b
        · rw [q] at z
          cases z
        · exact (nb p hp z).elim
        · obtain ⟨was, _⟩ := o3 b _ z
          obtain ⟨still, _⟩ := ok' b _ (un.frzs b ob _ z)
          rw [e] at was
          rw [Option.some.inj was]
          exact still
    refine ⟨fun b o e => ?_, fun b o e => ?_⟩
    · by_cases hb' : ∃ p ∈ cs, p.2 = b
      · obtain ⟨p, hp, rfl⟩ := hb'
        obtain ⟨more, hm⟩ := grown p hp
        have t := tabs p hp
        rw [e] at t
        rw [Option.some.inj t]
        exact .inr (.inl ⟨((heads p hp).tab (tabs p hp)).isCodeTable, rfl, #[], more, rfl, by rw [Array.empty_append]; exact hm⟩)
      · exact .inl (key b o (fun p hp z => hb' ⟨p, hp, z⟩) e)
    · by_cases hb' : ∃ p ∈ cs, p.2 = b
      · obtain ⟨p, hp, rfl⟩ := hb'
        obtain ⟨more, hm⟩ := grown p hp
        exact ⟨_, hm⟩
      · exact ⟨o, key b o (fun p hp z => hb' ⟨p, hp, z⟩) e⟩

open LamX in
theorem entryT_is (kin : K.In s.heap) (hns : s.heap.Ns mainGlobals mg) (hb : s.heap.Ns builtinsNs mb)
    (hbb : ∀ x : Str, x ≠ "__name__" → mb x = bootBuiltins x) (hlim : s.heap.NoLimit) (hg : s.gens = #[])
    (bmain : ∃ (bm : Addr) (ob : Obj), mg "__builtins__" = some (.ref bm) ∧ bm ≠ builtinsNs ∧ s.heap.get? bm = some ob ∧
      ob.cls = .type "module" ∧ ob.dict = some builtinsNs ∧ ob.data = .plain)
    (tabs : ∀ p ∈ cs, s.heap.get? p.2 = some { cls := .none, data := .fields #[] }) (noK : ∀ p ∈ cs, K.lookup p.2 = none)
    (heads : ∀ p ∈ cs, PySem.W.CodeHd s.heap p.1 p.2)
    (ha : s.heap.get? a = some { cls := .type "list", data := .seq vs.toArray })
    (hi : IntsAre vs ns) (hl : ns.length ≤ sizeLine) : ∃ H base, EntryT P w K mg s a ns cs H base := by
  have rv := vals_ints hi
  have ln := hi.length
  have noT : ¬ ∃ p ∈ cs, p.2 = a := by
    rintro ⟨p, hp, z⟩
    have t := tabs p hp
    rw [z, ha] at t
    have d := congrArg Obj.data (Option.some.inj t)
    cases d
  let T : Hp := fun b => if ∃ p ∈ cs, p.2 = b then some (.tbl #[]) else none
  have T_in : ∀ {b}, (∃ p ∈ cs, p.2 = b) → T b = some (.tbl #[]) := fun z => if_pos z
  have T_off : ∀ {b}, (¬ ∃ p ∈ cs, p.2 = b) → T b = none := fun z => if_neg z
  have okT : ∀ (H : Hp) b u, T b = some u → ObjOk P w H s.heap b u := by
    intro H b u z
    by_cases q : ∃ p ∈ cs, p.2 = b
    · rw [T_in q] at z
      cases z
      obtain ⟨p, hp, rfl⟩ := q
      exact tabs p hp
    · rw [T_off q] at z
      cases z
  cases hk : K.lookup a with
  | some o =>
    have e := kin a o hk
    rw [ha] at e
    cases e
    have sq : SqL K T a (ns.map V.int) :=
      .inr ⟨_, vs.toArray, _, hk, rfl, rfl, rfl, by rw [List.size_toArray, ln]; exact hl, by simpa using rv⟩
    obtain ⟨base, E⟩ := entryT_of (P := P) (w := w) (H := T) kin hns hb hbb hlim hg bmain tabs noK heads ha (fun p hp => T_in ⟨p, hp, rfl⟩)
      (fun b => by
        by_cases q : ∃ p ∈ cs, p.2 = b
        · exact .inr (.inl q)
        · exact .inl (T_off q)) sq (fun b u z => okT T b u z)
      (fun b z => by
        by_cases q : ∃ p ∈ cs, p.2 = b
        · exact .inr q
        · exact (z (T_off q)).elim) fun z => (z (T_off noT)).elim
    exact ⟨_, base, E⟩
  | none =>
    let H : Hp := fun b => if b = a then some (.frz { cls := .type "list", data := .seq vs.toArray } (.lst (ns.map V.int))) else T b
    have at_a : H a = some (.frz { cls := .type "list", data := .seq vs.toArray } (.lst (ns.map V.int))) := if_pos rfl
    have off_a : ∀ {b}, b ≠ a → H b = T b := fun z => if_neg z
    have H_in : ∀ p ∈ cs, H p.2 = some (.tbl #[]) := by
      intro p hp
      rw [off_a fun z => noT ⟨p, hp, z⟩]
      exact T_in ⟨p, hp, rfl⟩
    have ok : HOk P w H s.heap := by
      intro b u z
      by_cases q : b = a
      · subst q
        rw [at_a] at z
        cases z
        exact ⟨ha, by rw [List.length_map]; exact hl, vs, _, rv, ha⟩
      · rw [off_a q] at z
        exact okT H b u z
    obtain ⟨base, E⟩ := entryT_of (P := P) (w := w) (H := H) kin hns hb hbb hlim hg bmain tabs noK heads ha H_in
      (fun b => by
        by_cases q : b = a
        · subst q
          exact .inr (.inr ⟨_, _, at_a⟩)
        · by_cases r : ∃ p ∈ cs, p.2 = b
          · exact .inr (.inl r)
          · exact .inl ((off_a q).trans (T_off r))) (.inl (.inr ⟨_, at_a⟩)) ok
      (fun b z => by
        by_cases q : b = a
        · exact .inl q
        · rw [off_a q] at z
          by_cases r : ∃ p ∈ cs, p.2 = b
          · exact .inr r
          · exact (z (T_off r)).elim) fun _ => hk
    exact ⟨H, base, E⟩
end

open LamX in
theorem walkT {l : PySem.W.OpenLaw} {n k : Nat} {q : Program} {loose : List Str} {XP : (Str → Option Value) → Heap → Prop}
    {YP : World → Heap → Prop} {d : DefRec} {K : Params → PySem.W.Frag} {cs : List (Addr × Addr)} {sp : World → Sp} {x : Str}
    (hn : l.most = some n) (hn2 : n ≤ sizeLine) (hdf : d.params.defaults = []) (hr : Room k callerA)
    (hY : ∀ (w : World) (h : Heap), YP w h → (K w.params).In h)
    (hT : ∀ (w : World) (h : Heap), YP w h → ∀ p ∈ cs, h.get? p.2 = some { cls := .none, data := .fields #[] })
    (F : ∀ (w : World) (mg : Str → Option Value) (fa : Addr) (h : Heap), (K w.params).In h → h.Ns mainGlobals mg → mg d.name = some (.ref fa) →
      (∀ p ∈ cs, (K w.params).lookup p.2 = none ∧ PySem.W.codeHdIn (K w.params) p.1 p.2 = true) ∧
      ∃ fd : FuncData, (∀ (s : Shared) (u : Value), BindsTo s fd ⟨[u], []⟩ [(x, u)]) ∧
        ∀ base : Heap, (K w.params).In base → base.Ns mainGlobals mg → (∀ p ∈ cs, TabB base mg p.1 p.2) →
          FnG l.prog w (K w.params) mg base CX0 k fa fd [x] (sp w))
    (hsp : ∀ (w : World) (H : Hp) (a : Addr) (ns : List Int), ns.length ≤ n → (∀ p ∈ cs, H p.2 = some (.tbl #[])) → SqL (K w.params) H a (ns.map V.int) →
      sp w [.ref a] H (fun v _ => v = .bl true) fun _ _ _ => False) :
    PySem.W.WalkO q loose XP YP l.row.toRowW d [] (fun f vs => PySem.call f vs) := by
  refine Att.attach_call hn hdf ?_
  intro w s₀ s₁ mg mb fa o pm cd doc a vs ns G Y ho hd hcd hmg hobj hints hlen hgens
  have kin := hY w _ Y
  obtain ⟨heads, fd, binds, all⟩ := F w mg fa _ kin G.T.g hmg
  obtain ⟨H, base, E⟩ := entryT_is (P := l.prog) (w := w) kin G.T.g G.T.b G.T.builtins G.T.nolimit hgens G.T.bmain (hT w _ Y)
    (fun p hp => (heads p hp).1) (fun p hp => PySem.W.codeHd_of_K kin (heads p hp).2) hobj hints (Nat.le_trans hlen hn2)
  have run := (all base E.kin E.glob E.bs).go callerA [] s₁ H ⟨[.ref a], []⟩ [.ref a] [.ref a] _ _ rfl hr E.env (binds s₁ (.ref a)) (.cons rfl .nil)
    (hsp w H a ns hlen E.tabs E.script)
  refine codeAny_mono run ?_
  intro res s' hres
  match res, hres with
  | .ok (.ret u), ⟨v, H', os, bare, un, ok', rel, e⟩ =>
    subst e
    cases (show u = Value.bool true from rel)
    exact ⟨rfl, E.old H' s' un ok', os, bare⟩

/-! ### a lambda's body: what a callee raises leaves it -/
open LamX in
theorem takesLam {X : Cx} {A : Around} {outer : List Env} {s : Shared} {H : Hp} {E : XK} {scope : Scope} {f c : Addr} :
    Passes (L2.CX X.prog X.w) (lamCx X A outer s H E scope f c) E :=
  passes_call (takes_of (X := lamCx X A outer s H E scope f c) (E := E) rfl rfl rfl rfl) fun _ _ _ _ h => h

/-! ### a written dict of ints: each value a tuple of ints -/
def keyI : Value → Option Int
  | .int i _ => some i
  | _ => none
def allI : List Value → Option (List Int)
  | [] => some []
  | v :: r => match keyI v, allI r with
    | some i, some is => some (i :: is)
    | _, _ => none
/-- the ints of the tuple of the written part at a -/
def tupI (K : PySem.W.Frag) : Value → Option (List Int)
  | .ref a => match K.lookup a with
    | some ⟨.type "tuple", none, .seq us _, _⟩ => allI us.toList
    | _ => none
  | _ => none
def rowsI (K : PySem.W.Frag) : List DictEntry → Option (List (Int × List Int))
  | [] => some []
  | e :: r => match keyI e.key, tupI K e.val, rowsI K r with
    | some i, some t, some l => if e.hash = hashInt i then some ((i, t) :: l) else none
    | _, _, _ => none
def dictI (K : PySem.W.Frag) (d : Addr) : Option (List (Int × List Int)) :=
  match K.lookup d with
  | some ⟨.type "dict", none, .dict es _, sl⟩ => if sl.isEmpty && !(d == sysModules) then rowsI K es.toList else none
  | _ => none

theorem keyI_some {v : Value} {i : Int} (h : keyI v = some i) : ∃ t, v = .int i t := by
  cases v <;> simp_all [keyI]
theorem allI_some : ∀ {us : List Value} {is : List Int}, allI us = some is → Vals (is.map V.int) us := by
  intro us
  induction us with
  | nil =>
    intro is h
    cases h
    exact .nil
  | cons v r ih =>
    intro is h
    unfold allI at h
    split at h
    · rename_i i l e1 e2
      cases h
      obtain ⟨t, rfl⟩ := keyI_some e1
      exact .cons ⟨t, rfl⟩ (ih e2)
    · cases h

theorem tupI_some {K : PySem.W.Frag} {v : Value} {is : List Int} (h : tupI K v = some is) :
    ∃ a us n sl, v = .ref a ∧ K.lookup a = some ⟨.type "tuple", none, .seq us n, sl⟩ ∧ Vals (is.map V.int) us.toList := by
  unfold tupI at h
  split at h
  · rename_i a
    split at h
    · rename_i us n sl e
      exact ⟨a, us, n, sl, rfl, e, allI_some h⟩
    · cases h
  · cases h

theorem rowsI_all {K : PySem.W.Frag} : ∀ {es : List DictEntry} {rows : List (Int × List Int)}, rowsI K es = some rows →
    (∀ e ∈ es, ∃ k t, e.key = .int k t ∧ e.hash = hashInt k) ∧
    (∀ k, rows.lookup k = none → (es.find? fun e => Value.isInt k e.key) = none) ∧
    ∀ k is, rows.lookup k = some is → ∃ e, (es.find? fun e => Value.isInt k e.key) = some e ∧ tupI K e.val = some is := by
  intro es
  induction es with
  | nil =>
    intro rows h
    cases h
    exact ⟨fun e he => (List.not_mem_nil he).elim, fun _ _ => rfl, fun k is z => by cases z⟩
  | cons e r ih =>
    intro rows h
    unfold rowsI at h
    split at h
    · rename_i i t l e1 e2 e3
      split at h
      · rename_i hh
        cases h
        obtain ⟨tk, ek⟩ := keyI_some e1
        obtain ⟨h1, h2, h3⟩ := ih e3
        have test : ∀ k, Value.isInt k e.key = decide (i = k) := by
          intro k
          rw [ek]
          show (i == k) = decide (i = k)
          by_cases q : i = k
          · subst q
            rw [beq_self_eq_true, decide_eq_true rfl]
          · rw [beq_eq_false_iff_ne.mpr q, decide_eq_false q]
        refine ⟨fun x hx => ?_, fun k z => ?_, fun k is z => ?_⟩
        · obtain rfl | hx := List.mem_cons.mp hx
          · exact ⟨i, tk, ek, hh⟩
          · exact h1 x hx
        · rw [List.lookup_cons] at z
          rw [List.find?_cons, test]
          by_cases q : k = i
          · subst q
            rw [beq_self_eq_true] at z
            cases z
          · rw [show (k == i) = false from beq_eq_false_iff_ne.mpr q] at z
            rw [show decide (i = k) = false from decide_eq_false fun y => q y.symm]
            exact h2 k z
        · rw [List.lookup_cons] at z
          rw [List.find?_cons, test]
          by_cases q : k = i
          · subst q
            rw [beq_self_eq_true] at z
            cases z
            rw [show decide (k = k) = true from decide_eq_true rfl]
            exact ⟨e, rfl, e2⟩
          · rw [show (k == i) = false from beq_eq_false_iff_ne.mpr q] at z
            rw [show decide (i = k) = false from decide_eq_false fun y => q y.symm]
            exact h3 k is z
      · cases h
    · cases h

/-- what such a dict tells, as the library's dict rules want it -/
theorem dictI_map {K : PySem.W.Frag} {prog : Program} {w : World} {h : Heap} {d : Addr} {rows : List (Int × List Int)} (kin : K.In h)
    (e : dictI K d = some rows) : (d == sysModules) = false ∧ ∃ f : Int → Option Value, h.MapOf (intKind prog w) d f ∧
      (∀ k, rows.lookup k = none → f k = none) ∧ ∀ k is, rows.lookup k = some is → ∃ v, f k = some v ∧ tupI K v = some is := by
  unfold dictI at e
  split at e
  · rename_i es n sl hl
    split at e
    · rename_i hc
      rw [Bool.and_eq_true] at hc
      obtain ⟨c1, c2⟩ := hc
      obtain ⟨h1, h2, h3⟩ := rowsI_all e
      have c1 : sl = #[] := Array.isEmpty_iff.mp c1
      subst c1
      have same : ∀ k, findBy Value.isInt es k = ((es.toList.find? fun e => Value.isInt k e.key).map (·.val)) := by
        intro k
        obtain ⟨l⟩ := es
        unfold findBy
        rw [List.find?_toArray]
      refine ⟨by simpa using c2, fun k => findBy Value.isInt es k, ⟨_, es, n, kin _ _ hl, ⟨rfl, rfl, rfl⟩, rfl, fun x hx => ?_, fun k => rfl⟩, fun k z => ?_, fun k is z => ?_⟩
      · obtain ⟨k, t, ek, eh⟩ := h1 x (Array.mem_toList_iff.mpr hx)
        exact ⟨k, by rw [ek]; simp [intKind, Value.isInt], eh⟩
      · show findBy Value.isInt es k = none
        rw [same, h2 k z]
        rfl
      · obtain ⟨x, e1, e2⟩ := h3 k is z
        exact ⟨x.val, by show findBy Value.isInt es k = _; rw [same, e1]; rfl, e2⟩
    · cases e
  · cases e

section
variable {X : Cx}
/-- k not in d, of such a dict -/
def rNotInI (K : PySem.W.Frag) : R2 := fun x y H Q => ∃ (k : Int) (d : Addr) (rows : List (Int × List Int)),
  x = .int k ∧ y = .ref d ∧ dictI K d = some rows ∧ Q (.bl (!(rows.lookup k).isSome)) H
theorem op_notInI : OpR X (compareOp .NotIn) (rNotInI X.K) := by
  intro pins s σ H x y v u Q I rx ry h
  obtain ⟨k, d, rows, rfl, rfl, e, q⟩ := h
  obtain ⟨t, rfl⟩ := rx
  cases (show u = Value.ref d from ry)
  obtain ⟨low, f, hm, f1, f2⟩ := dictI_map (prog := X.prog) (w := X.w) I.kIn e
  refine wpAny_notIn_of (intKind_is X.prog X.w k t) low hm ?_
  have fe : (f k).isSome = (rows.lookup k).isSome := by
    cases z : rows.lookup k with
    | none =>
      rw [f1 k z]
      rfl
    | some is =>
      obtain ⟨v, e1, _⟩ := f2 k is z
      rw [e1]
      rfl
  rw [fe]
  exact ⟨.bl _, H, I.tok _, rfl, q⟩
/-- d[k]: the tuple that stands there -/
def rIxI (K : PySem.W.Frag) : R2 := fun x y H Q => ∃ (k : Int) (d : Addr) (rows : List (Int × List Int)) (is : List Int),
  x = .ref d ∧ y = .int k ∧ dictI K d = some rows ∧ rows.lookup k = some is ∧ is.length ≤ 1000 ∧ ∀ a, SqT K H a (is.map V.int) → Q (.ref a) H
theorem ix_int : IxR X (rIxI X.K) := by
  intro value slice pins s σ H x y v u Q I rx ry h hs
  obtain ⟨k, d, rows, is, rfl, rfl, e, l, few, q⟩ := h
  cases (show v = Value.ref d from rx)
  obtain ⟨t, rfl⟩ := ry
  obtain ⟨low, f, hm, f1, f2⟩ := dictI_map (prog := X.prog) (w := X.w) I.kIn e
  obtain ⟨v, e1, e2⟩ := f2 k is l
  obtain ⟨a, us, n, sl, rfl, ha, rv⟩ := tupI_some e2
  have size : us.size ≤ sizeLine := by
    have z := Paired.length rv
    rw [List.length_map] at z
    have z2 : us.toList.length = us.size := Array.length_toList
    rw [sizeLine_eq]
    omega
  refine tail_any hm.typeIs slot_dict_getitem.lookup (wpAny_getItem_of (intKind_is X.prog X.w k t) hm e1 ⟨.ref a, H, I.tok _, rfl, q a ?_⟩) hs
  exact .inr ⟨_, us, n, ha, rfl, rfl, size, rv⟩
end
end Gd

/-! Rp: a tuple times 0 or 1. -/
namespace Gd
open PySem PySem.Spec PyProof.Rows L2
theorem mul_one (l : Addr) (items : Array Value) (n : Nat) (dd : Option Addr) (sl : Array (Option Value)) (u : Tok) :
    Meets (Builtin.«tuple.__mul__» ⟨[.ref l, .int 1 u], []⟩)
      (fun _ R s => s.heap.get? l = some { cls := .type "tuple", dict := dd, data := .seq items n, slots := sl } ∧ R (.ok (.ret (Value.ref l))) s) :=
  .of_wp fun prog w A R s h => by
    obtain ⟨hp, g, d, tk, os⟩ := s
    obtain ⟨hl, h⟩ := h
    have f1 := AutoSeq1.idx_int
    wp_walk using wpAny_loadPart' hl
    repeat (first
      | (refine wpAny_ite_false (by decide) ?_; wp_walk using wpAny_loadPart' hl)
      | (refine wpAny_ite_true (by simp) ?_; wp_walk using wpAny_loadPart' hl))
    exact ⟨_, rfl, h⟩
theorem mul_zero (l : Addr) (items : Array Value) (n : Nat) (dd : Option Addr) (sl : Array (Option Value)) (u : Tok) (ne : items.isEmpty = false) :
    Meets (Builtin.«tuple.__mul__» ⟨[.ref l, .int 0 u], []⟩)
      (fun _ R s => s.heap.get? l = some { cls := .type "tuple", dict := dd, data := .seq items n, slots := sl } ∧
        R (.ok (.ret (Value.ref s.heap.objs.size))) { s with heap := s.heap.push { cls := Value.type "tuple", data := Data.seq #[] }, toks := s.toks }) :=
  .of_wp fun prog w A R s h => by
    obtain ⟨hp, g, d, tk, os⟩ := s
    obtain ⟨hl, h⟩ := h
    have f1 := AutoSeq1.idx_int
    wp_walk using wpAny_loadPart' hl
    repeat (first
      | (refine wpAny_ite_false (by simp [ne]) ?_; wp_walk using wpAny_loadPart' hl)
      | (refine wpAny_ite_true (by simp [ne]) ?_; wp_walk using wpAny_loadPart' hl))
    exact ⟨_, rfl, h⟩

/-- a tuple times a small number -/
def rRepN (K : PySem.W.Frag) : R2 := fun x y H Q => rRepT K x y H Q ∨ ∃ (l : Addr) (k : Int) (xs : List V), x = .ref l ∧ y = .int k ∧ SqT K H l xs ∧ xs ≠ [] ∧
  ((k = 1 ∧ Q (.ref l) H) ∨ (k = 0 ∧ ∀ p, H p = none → Q (.ref p) (upd H p (.tup []))))
theorem op_repN {X : Cx} : OpR X (binaryOp .Mult) (rRepN X.K) := by
  intro pins s σ H x y v u Q I rx ry h
  obtain h | ⟨l, k, xs, rfl, rfl, hT, hne, h⟩ := h
  · exact op_repT pins s σ H x y v u Q I rx ry h
  cases rx
  obtain ⟨t, rfl⟩ := ry
  obtain ⟨its, r, ⟨⟨cls, dd, data, sl⟩, ho, hc, n, hd⟩, hs⟩ := I.tuple hT
  simp only at hc hd
  subst hc hd
  have hn : its.toArray.isEmpty = false := by
    cases its with
    | cons a b => rfl
    | nil =>
      have e := r.length
      exact (hne (List.eq_nil_of_length_eq_zero e)).elim
  have is : s.TypeIs (.ref l) "tuple" := ⟨_, ho, rfl⟩
  obtain ⟨rfl, q⟩ | ⟨rfl, q⟩ := h
  · refine wpAny_binaryOp_repeat_ref (T := "tuple") (U := "int") (by decide) is (fun s' => typeIs_int s' 1 t) noFill_tuple_mul F.fills_int_mul F.slot_int_rmul repeat_tuple F.slot_int_index.lookup
      (call_meets F.slot_int_rmul (typeIs_int s 1 t) F.entry_int_rmul (F.args_int_rmul_2 _ _) (int_rmul_tuple 1 t l its.toArray n dd sl)
        ⟨ho, rfl, is, call_meets F.slot_tuple_mul is F.entry_tuple_mul (F.args_tuple_mul_2 _ _) (mul_one l its.toArray n dd sl t) ⟨ho, ?_⟩⟩)
    exact ⟨.ref l, H, I, rfl, q⟩
  · refine wpAny_binaryOp_repeat_ref (T := "tuple") (U := "int") (by decide) is (fun s' => typeIs_int s' 0 t) noFill_tuple_mul F.fills_int_mul F.slot_int_rmul repeat_tuple F.slot_int_index.lookup
      (call_meets F.slot_int_rmul (typeIs_int s 0 t) F.entry_int_rmul (F.args_int_rmul_2 _ _) (int_rmul_tuple 0 t l its.toArray n dd sl)
        ⟨ho, rfl, is, call_meets F.slot_tuple_mul is F.entry_tuple_mul (F.args_tuple_mul_2 _ _) (mul_zero l its.toArray n dd sl t hn) ⟨ho, ?_⟩⟩)
    refine ⟨.ref s.heap.objs.size, _, I.laid (t' := s.toks) (o := .tup []) (fun b ob q => Heap.get?_push_of_some _ q) (Nat.le_refl _) ?_, rfl, q _ (I.hok.fresh (Nat.le_refl _))⟩
    exact ⟨Nat.zero_le _, _, .nil, IsTup.new _ _⟩

/-- two tuples of the same flat values -/
theorem items_same {A : Around} {s : Shared} : ∀ {xs : List V} {us ws : List Value}, xs.all flatB = true → Vals xs us → Vals xs ws →
    ∀ j (h1 : j < us.length) (h2 : j < ws.length), SeqAt.EqAt A s us[j] ws[j] true
  | _, _, _, _, .nil, .nil, j, h1, _ => absurd h1 (Nat.not_lt_zero j)
  | _, _, _, f, .cons a as, .cons b bs, j, h1, h2 => by
    rw [List.all_cons, Bool.and_eq_true] at f
    cases j with
    | zero => exact eqAt_same a b f.1
    | succ j => exact items_same f.2 as bs j (Nat.lt_of_succ_lt_succ h1) (Nat.lt_of_succ_lt_succ h2)
def rTS (K : PySem.W.Frag) (r : Bool) : R2 := fun x y H Q => ∃ (a b : Addr) (xs : List V), x = .ref a ∧ y = .ref b ∧ SqT K H a xs ∧ SqT K H b xs ∧
  xs.all flatB = true ∧ Q (.bl r) H
section
variable {X : Cx}
theorem all_true {m n : Nat} (h : m = n) : ((List.range (min m n)).all (fun _ => true) && m == n) = true := by
  subst h
  rw [beq_self_eq_true, Bool.and_true]
  exact List.all_eq_true.mpr fun _ _ => rfl
theorem op_eqTS (hu : X.A.units < cLine) : OpR X (compareOp .Eq) (rTS X.K true) := by
  intro pins s σ H x y v u Q I rx ry h
  obtain ⟨a, b, xs, rfl, rfl, ha, hb, f, q⟩ := h
  cases (show v = Value.ref a from rx)
  cases (show u = Value.ref b from ry)
  obtain ⟨us, r1, p1, _⟩ := I.tuple ha
  obtain ⟨ws, r2, p2, _⟩ := I.tuple hb
  have same : us.toArray.size = ws.toArray.size := by
    rw [List.size_toArray, List.size_toArray, ← r1.length, ← r2.length]
  have all := SeqAt.RcAt.tuples (A := X.A) (s := s) (e := fun _ => true) p1 p2 hu fun j h1 h2 => by
    have k := items_same (A := X.A.in1) (s := s) f r1 r2 j (by simpa using h1) (by simpa using h2)
    simpa using k
  refine all X.prog X.w _ _ ?_
  rw [all_true same]
  exact ⟨.bl true, H, I, rfl, q⟩
theorem op_neTS (hu : X.A.units < cLine) : OpR X (compareOp .NotEq) (rTS X.K false) := by
  intro pins s σ H x y v u Q I rx ry h
  obtain ⟨a, b, xs, rfl, rfl, ha, hb, f, q⟩ := h
  cases (show v = Value.ref a from rx)
  cases (show u = Value.ref b from ry)
  obtain ⟨us, r1, p1, _⟩ := I.tuple ha
  obtain ⟨ws, r2, p2, _⟩ := I.tuple hb
  have same : us.toArray.size = ws.toArray.size := by
    rw [List.size_toArray, List.size_toArray, ← r1.length, ← r2.length]
  have all := SeqAt.RcNeAt.tuples (A := X.A) (s := s) (e := fun _ => true) p1 p2 hu fun j h1 h2 => by
    have k := items_same (A := X.A.in1) (s := s) f r1 r2 j (by simpa using h1) (by simpa using h2)
    simpa using k
  refine all X.prog X.w _ _ ?_
  rw [all_true same]
  exact ⟨.bl false, H, I, rfl, q⟩
end
end Gd

namespace K01
open PySem L2 Gd
def top (i : Nat) : Stmt := PySem.Challenge.pw_restcounts_k01_moduli_and_digits.main.body.getD i (.Pass ⟨0, 0, 0, 0⟩)
abbrev sPen : Stmt := top 15
abbrev sDraw : Stmt := top 16
abbrev sPick : Stmt := top 17
abbrev sLarge : Stmt := top 19
/-! ### the law's pen: where drawn numbers come from -/
abbrev kC : Key := Sum.inr "cells"
abbrev kA : Key := Sum.inr "at"
abbrev kG : Key := Sum.inr "digits"
abbrev kN : Key := Sum.inr "count"
abbrev kF : Key := Sum.inr "fold"
theorem kne : (kA = kC) = False ∧ (kG = kC) = False ∧ (kN = kC) = False ∧ (kF = kC) = False ∧ (kC = kA) = False ∧ (kG = kA) = False ∧ (kN = kA) = False ∧ (kF = kA) = False ∧
    (kC = kG) = False ∧ (kA = kG) = False ∧ (kN = kG) = False ∧ (kF = kG) = False ∧ (kC = kN) = False ∧ (kA = kN) = False ∧ (kG = kN) = False ∧ (kF = kN) = False ∧
    (kC = kF) = False ∧ (kA = kF) = False ∧ (kG = kF) = False ∧ (kN = kF) = False := by
  refine ⟨?_, ?_, ?_, ?_, ?_, ?_, ?_, ?_, ?_, ?_, ?_, ?_, ?_, ?_, ?_, ?_, ?_, ?_, ?_, ?_⟩ <;> exact eq_false (by decide +kernel)
theorem putK_same {kvs : List (Key × V)} {k : Key} {v x : V} (h : valV kvs k = some x) : (putK kvs k v).length = kvs.length := by
  have e := valV_any k kvs
  rw [h, Option.isSome_some] at e
  unfold putK
  rw [if_pos e, List.length_map]
theorem dg {H : Hp} {a : Addr} {kvs : List (Key × V)} (k : Key) {v : V} (hd : H a = some (.dK kvs)) (h : valV kvs k = some v) : DGet H a (kV k) (some v) := h ▸ DGet.k hd
theorem five {n : Nat} (h : n ≤ 5) : n < sizeLine := small1000 (by omega)
theorem put_in {kvs : List (Key × V)} (k j : Key) (v : V) {x : V} (h : valV kvs j = some x) (ne : (j = k) = False) : valV (putK kvs k v) j = some x := by
  rw [valV_put, if_neg (by rw [ne]; exact id)]
  exact h
theorem put_at {kvs : List (Key × V)} (k : Key) (v : V) : valV (putK kvs k v) k = some v := by
  rw [valV_put, if_pos rfl]
/-- the pen at d, its cells at c; n draws were made -/
def Pen (H : Hp) (d c : Addr) (n : Int) : Prop := ∃ (kvs : List (Key × V)) (cs : List Int) (p g f : Int), H d = some (.dK kvs) ∧ H c = some (.lst (cs.map V.int)) ∧
  kvs.length ≤ 5 ∧ valV kvs kC = some (.ref c) ∧ valV kvs kA = some (.int p) ∧ valV kvs kG = some (.int g) ∧ valV kvs kN = some (.int n) ∧ valV kvs kF = some (.int f) ∧
  (0 ≤ p ∧ 0 ≤ g) ∧ (0 ≤ f ∧ f < 2147483648)
theorem Pen.ne {H : Hp} {d c : Addr} {n : Int} (h : Pen H d c n) : c ≠ d := by
  obtain ⟨kvs, cs, p, g, f, h1, h2, _⟩ := h
  exact ne_of h2 h1 (by intro z; cases z)
theorem Pen.keep {H H' : Hp} {d c : Addr} {n : Int} (h : Pen H d c n) (e1 : H' d = H d) (e2 : H' c = H c) : Pen H' d c n := by
  obtain ⟨kvs, cs, p, g, f, h1, h2, r⟩ := h
  exact ⟨kvs, cs, p, g, f, e1.trans h1, e2.trans h2, r⟩
theorem Pen.at {H : Hp} {d c : Addr} {n : Int} (h : Pen H d c n) : ∃ o, H d = some o := let ⟨_, _, _, _, _, h1, _⟩ := h; ⟨_, h1⟩
theorem Pen.atc {H : Hp} {d c : Addr} {n : Int} (h : Pen H d c n) : ∃ o, H c = some o := let ⟨_, _, _, _, _, _, h2, _⟩ := h; ⟨_, h2⟩
/-- new objects do not touch the pen -/
theorem Pen.upd {H : Hp} {d c p : Addr} {n : Int} {o : HO} (h : Pen H d c n) (hp : H p = none) : Pen (upd H p o) d c n := by
  obtain ⟨o1, h1⟩ := h.at
  obtain ⟨o2, h2⟩ := h.atc
  exact h.keep (upd_ne (ne_of_none h1 hp)) (upd_ne (ne_of_none h2 hp))
/-- what a draw leaves -/
structure Drawn (H H' : Hp) (d c : Addr) (n : Int) : Prop where
  pen : Pen H' d c n
  off : ∀ b, b ≠ d → H' b = H b
theorem Drawn.trans {H H1 H2 : Hp} {d c : Addr} {n m : Int} (a : Drawn H H1 d c n) (b : Drawn H1 H2 d c m) : Drawn H H2 d c m := ⟨b.pen, fun x hx => (b.off x hx).trans (a.off x hx)⟩
/-- one step: a number of the pen is put anew -/
theorem pen_put {H : Hp} {d c : Addr} {kvs : List (Key × V)} {k : Key} {v x : V} (hd : H d = some (.dK kvs)) (l : kvs.length ≤ 5) (h : valV kvs k = some x) :
    (upd H d (.dK (putK kvs k v))) d = some (.dK (putK kvs k v)) ∧ (putK kvs k v).length ≤ 5 := ⟨upd_same, by rw [putK_same h]; exact l⟩

def spDraw : Sp := fun vs H Q _ => ∃ (d c : Addr) (n m : Int), vs = [.ref d, .int m] ∧ Pen H d c n ∧ 0 < m ∧ m ≤ 1000000 ∧ 0 ≤ n ∧ n < 1000000000 ∧
  ∀ (r : Int) (H' : Hp), 0 ≤ r → r < m → Drawn H H' d c (n + 1) → Q (.int r) H'
def spPen (K : PySem.W.Frag) : Sp := fun vs H Q _ => ∃ (a : Addr) (ns : List Int), vs = [.ref a] ∧ SqL K H a (ns.map V.int) ∧
  ∀ (H' : Hp) (d c : Addr), Pen H' d c 0 → (∀ b o, H b = some o → H' b = some o) → H d = none → Q (.ref d) H'
def spPick (K : PySem.W.Frag) : Sp := fun vs H Q _ => ∃ (d c a : Addr) (n : Int) (xs : List V), vs = [.ref d, .ref a] ∧ Pen H d c n ∧ H a = some (.lst xs) ∧ 0 < xs.length ∧ xs.length ≤ 1000 ∧ 0 ≤ n ∧ n < 1000000000 ∧
  ∀ (x : V) (H' : Hp), x ∈ xs → Drawn H H' d c (n + 1) → Q x H'
/-- a number of up to nineteen groups of three digits -/
def spLarge : Sp := fun vs H Q _ => ∃ (d c : Addr) (n : Int), vs = [.ref d] ∧ Pen H d c n ∧ 0 ≤ n ∧ n < 900000000 ∧
  ∀ (r n' : Int) (H' : Hp), 0 ≤ r → r < 10 ^ 57 → n ≤ n' → n' ≤ n + 30 → Pen H' d c n' → (∀ b o, H b = some o → b ≠ d → H' b = some o) → Q (.int r) H'

section
variable {P : Program} {w : World} {K : PySem.W.Frag} {mg : Str → Option Value} {base : Heap}
theorem scDraw : FnScope ["_law_pen_here", "_law_many", "_law_cell", "_law_digit", "_law_mixed"] ["_law_pen_here", "_law_many"] (defScope sDraw) := ⟨rfl, rfl, rfl, by decide +kernel, rfl, by decide +kernel, by decide +kernel⟩
theorem ok_draw {f : Addr} {fd : FuncData} (F : Fun K "_law_draw" "_law_draw" sDraw f fd) (mInt : mg "int" = none) (mLen : mg "len" = none) : FnOk P w K mg base CX0 1 f fd ["_law_pen_here", "_law_many"] spDraw := by
  refine F.ok scDraw (fun vs H Q E h => ?_) (fun cdv A outer s H vs Q E hr h => ?_)
  · obtain ⟨d, c, n, m, rfl, _⟩ := h
    rfl
  · obtain ⟨d, c, n, m, rfl, pen, m0, m1, n0, n1, k⟩ := h
    have hu := hu_of hr
    have ne := pen.ne
    obtain ⟨kvs, cs, p, g, f, hd, hc, hl, vC, vA, vG, vN, vF, ⟨p0, g0⟩, f0, f1⟩ := pen
    refine ⟨_, pss_cons (ps_dput hu (pv 0) pe_str (pe_op op_add (pe_dget hu (pv 0) pe_str (fun _ _ => rfl)) pe_int) rfl)
      (Evl.pss_cut (ps_if (PW.pt (pw_and (pt_cmpR op_eq (pe_dget hu (pv 0) pe_str (fun _ _ => rfl)) pe_int (nomark _))
            (pw_and1 (pt_cmpR op_lt (pe_dget hu (pv 0) pe_str (fun _ _ => rfl)) (pe_callB call_len_seq (by rfl) mLen PySem.boot_len (pa_cons (pe_dget hu (pv 0) pe_str (fun _ _ => rfl)) pa_nil)) (nomark _)))))
          (pss_cons (ps_set (i := 2) scDraw.nd rfl (Or.inl rfl) (pe_ix ix_list (pe_dget hu (pv 0) pe_str (fun _ _ => rfl)) (pe_dget hu (pv 0) pe_str (fun _ _ => rfl)) (fun _ _ => rfl)))
          (pss_cons (ps_dput hu (pv 0) pe_str (pe_op op_add (pe_dget hu (pv 0) pe_str (fun _ _ => rfl)) pe_int) rfl)
          (pss_one (ps_if (pt_cmpR op_ge (pv 2) (pe_op op_pow pe_int pe_int) (nomark _))
            (pss_one (ps_dput hu (pv 0) pe_str (pe_op op_sub (pv 2) (pe_op op_pow pe_int pe_int)) rfl))
            (pss_one (ps_dput hu (pv 0) pe_str (pe_op op_mod (pe_callTy call_int1 (by rfl) mInt (by decide +kernel) (pa_cons (pe_op op_add (pe_op op_mul (pe_dget hu (pv 0) pe_str (fun _ _ => rfl)) pe_int) (pv 2)) pa_nil)) pe_int) rfl))))))
          pss_nil)
      (pss_cons (ps_if (pt_cmpR op_gt (pe_dget hu (pv 0) pe_str (fun _ _ => rfl)) pe_int (nomark _))
          (pss_cons (ps_set (i := 3) scDraw.nd rfl (Or.inl rfl) (pe_op op_mod (pe_callTy call_int1 (by rfl) mInt (by decide +kernel) (pa_cons (pe_dget hu (pv 0) pe_str (fun _ _ => rfl)) pa_nil)) (pv 1)))
          (pss_cons (ps_dput hu (pv 0) pe_str (pe_op op_fdiv (pe_dget hu (pv 0) pe_str (fun _ _ => rfl)) (pv 1)) rfl)
          (pss_one (ps_ret (pv 3)))))
          pss_nil)
      (pss_cons (ps_set (i := 4) scDraw.nd rfl (Or.inl rfl) (pe_op op_add (pe_op op_add (pe_dget hu (pv 0) pe_str (fun _ _ => rfl)) (pe_op op_mul (pe_dget hu (pv 0) pe_str (fun _ _ => rfl)) pe_int)) pe_int))
      (pss_one (ps_ret (pe_op op_mod (pe_op op_fdiv (pe_callTy call_int1 (by rfl) mInt (by decide +kernel) (pa_cons (pe_op op_mod (pe_op op_pow (pv 4) pe_int) pe_int) pa_nil)) pe_int) (pv 1))))))), ?_⟩
    -- pen['count'] = pen['count'] + 1
    obtain ⟨ac, gc, nc, fc, ca, ga, na, fa, cg, ag, ng, fg, cn, an, gn, fn, cf, af, gf, nf⟩ := kne
    have l1 : (putK kvs kN (V.int (n + 1))).length ≤ 5 := by rw [putK_same vN]; exact hl
    have vC1 := put_in kN kC (V.int (n + 1)) vC cn
    have vA1 := put_in kN kA (V.int (n + 1)) vA an
    have vG1 := put_in kN kG (V.int (n + 1)) vG gn
    have vF1 := put_in kN kF (V.int (n + 1)) vF fn
    have vN1 : valV (putK kvs kN (V.int (n + 1))) kN = some (V.int (n + 1)) := put_at kN _
    refine ⟨_, rfl, d, _, rfl, dg kN hd vN, _, _, rfl, rfl, _, rfl, d, _, rfl, DPut.k (k := kN) hd (five hl), ?_⟩
    have hc1 : ∀ o, (L2.upd H d o) c = some (.lst (cs.map V.int)) := fun o => by rw [upd_ne ne]; exact hc
    generalize putK kvs kN (V.int (n + 1)) = kvs1 at *
    clear vC vA vG vN vF
    -- behind the if: a heap that differs at the pen alone
    refine ⟨fun σ' H' => ∃ (kvs : List (Key × V)) (p g f : Int) (z : Option V), σ' = [some (.ref d), some (.int m), z, none, none] ∧ H' d = some (.dK kvs) ∧ (∀ b, b ≠ d → H' b = H b) ∧
      kvs.length ≤ 5 ∧ valV kvs kC = some (.ref c) ∧ valV kvs kA = some (.int p) ∧ valV kvs kG = some (.int g) ∧ valV kvs kN = some (.int (n + 1)) ∧ valV kvs kF = some (.int f) ∧
      (0 ≤ p ∧ 0 ≤ g) ∧ (0 ≤ f ∧ f < 2147483648), ?_, ?_⟩
    · have mid : ∀ (z : Option V) (kvs2 : List (Key × V)) (H2 : Hp) (p g f : Int), H2 d = some (.dK kvs2) → (∀ b, b ≠ d → H2 b = H b) → kvs2.length ≤ 5 → valV kvs2 kC = some (.ref c) → valV kvs2 kA = some (.int p) →
          valV kvs2 kG = some (.int g) → valV kvs2 kN = some (.int (n + 1)) → valV kvs2 kF = some (.int f) → (0 ≤ p ∧ 0 ≤ g) → (0 ≤ f ∧ f < 2147483648) →
          ∃ (kvs : List (Key × V)) (p g f : Int) (z' : Option V), [some (V.ref d), some (V.int m), z, none, none] = [some (V.ref d), some (V.int m), z', none, none] ∧ H2 d = some (.dK kvs) ∧ (∀ b, b ≠ d → H2 b = H b) ∧
            kvs.length ≤ 5 ∧ valV kvs kC = some (.ref c) ∧ valV kvs kA = some (.int p) ∧ valV kvs kG = some (.int g) ∧ valV kvs kN = some (.int (n + 1)) ∧ valV kvs kF = some (.int f) ∧ (0 ≤ p ∧ 0 ≤ g) ∧ (0 ≤ f ∧ f < 2147483648) :=
        fun z kvs2 H2 p g f a1 a2 a3 a4 a5 a6 a7 a8 a9 a10 => ⟨kvs2, p, g, f, z, rfl, a1, a2, a3, a4, a5, a6, a7, a8, a9, a10⟩
      have off : ∀ o b, b ≠ d → (L2.upd H d o) b = H b := fun o b hb => upd_ne hb
      refine ⟨_, rfl, d, _, rfl, dg kG upd_same vG1, rfl, _, rfl, ite2 (fun _ => ?_) (fun _ => ?_)⟩
      · refine ⟨_, rfl, d, _, rfl, dg kA upd_same vA1, _, rfl, d, _, rfl, dg kC upd_same vC1, c, _, rfl, .inl (SqL.of (hc1 _)), _, _, rfl, rfl, _, rfl, ite2 (fun hlt => ?_) (fun _ => ?_)⟩
        · have hlt := of_decide_eq_true hlt
          rw [List.length_map] at hlt
          have hp : p.toNat < cs.length := by omega
          have hat : (cs.map V.int)[p.toNat]? = some (V.int cs[p.toNat]) := by rw [List.getElem?_map, List.getElem?_eq_getElem hp]; rfl
          refine ⟨_, rfl, d, _, rfl, dg kC upd_same vC1, _, rfl, d, _, rfl, dg kA upd_same vA1, c, _, _, _, rfl, rfl, SqL.of (hc1 _), at_of (by omega) hat, ?_⟩
          generalize cs[p.toNat] = x
          -- pen['at'] = pen['at'] + 1
          have l2 : (putK kvs1 kA (V.int (p + 1))).length ≤ 5 := by rw [putK_same vA1]; exact l1
          have vC2 := put_in kA kC (V.int (p + 1)) vC1 ca
          have vG2 := put_in kA kG (V.int (p + 1)) vG1 ga
          have vF2 := put_in kA kF (V.int (p + 1)) vF1 fa
          have vN2 := put_in kA kN (V.int (p + 1)) vN1 na
          have vA2 : valV (putK kvs1 kA (V.int (p + 1))) kA = some (V.int (p + 1)) := put_at kA _
          refine ⟨_, rfl, d, _, rfl, dg kA upd_same vA1, _, _, rfl, rfl, _, rfl, d, _, rfl, DPut.k (k := kA) upd_same (five l1), ?_⟩
          rw [upd_upd]
          generalize putK kvs1 kA (V.int (p + 1)) = kvs2 at *
          refine ⟨_, rfl, _, _, rfl, rfl, ⟨by decide, by decide, by decide⟩, _, _, rfl, rfl, _, rfl, ite2 (fun hge => ?_) (fun _ => ?_)⟩
          · have hge := of_decide_eq_true hge
            refine ⟨_, rfl, _, _, rfl, rfl, ⟨by decide, by decide, by decide⟩, _, _, rfl, rfl, _, rfl, d, _, rfl, DPut.k (k := kG) upd_same (five l2), ?_⟩
            rw [upd_upd]
            have e10 : (10 : Int) ^ (18 : Int).toNat = 1000000000000000000 := by decide
            exact mid _ _ _ (p + 1) _ f upd_same (off _) (by rw [putK_same vG2]; exact l2) (put_in kG kC _ vC2 cg) (put_in kG kA _ vA2 ag) (put_at kG _) (put_in kG kN _ vN2 ng) (put_in kG kF _ vF2 fg) ⟨by omega, by omega⟩ ⟨f0, f1⟩
          · refine ⟨_, rfl, d, _, rfl, dg kF upd_same vF2, _, _, rfl, rfl, .inl ⟨by omega, by omega⟩, _, rfl, _, _, rfl, rfl, .inl ⟨_, rfl, _, _, rfl, rfl, (by show (0 : Int) < 2147483587; decide), _, rfl, d, _, rfl, DPut.k (k := kF) upd_same (five l2), ?_⟩⟩
            rw [upd_upd]
            exact mid _ _ _ (p + 1) g _ upd_same (off _) (by rw [putK_same vF2]; exact l2) (put_in kF kC _ vC2 cf) (put_in kF kA _ vA2 af) (put_in kF kG _ vG2 gf) (put_in kF kN _ vN2 nf) (put_at kF _) ⟨by omega, by omega⟩ ⟨by omega, by omega⟩
        · exact mid _ _ _ p g f upd_same (off _) l1 vC1 vA1 vG1 vN1 vF1 ⟨p0, g0⟩ ⟨f0, f1⟩
      · refine iteF ?_
        exact mid _ _ _ p g f upd_same (off _) l1 vC1 vA1 vG1 vN1 vF1 ⟨p0, g0⟩ ⟨f0, f1⟩
    · clear vC1 vA1 vG1 vF1 vN1 l1 hc1 p0 g0 f0 f1 hl hd
      rintro σ' H2 ⟨kvs2, p2, g2, f2, z, rfl, hd2, off, l2, vC2, vA2, vG2, vN2, vF2, ⟨p0, g0⟩, f0, f1⟩
      have hc2 : H2 c = some (.lst (cs.map V.int)) := (off c ne).trans hc
      have m30 : m < 1073741824 := by omega
      refine ⟨_, rfl, d, _, rfl, dg kG hd2 vG2, _, _, rfl, rfl, _, rfl, ite2 (fun hgt => ?_) (fun _ => ?_)⟩
      · refine ⟨_, rfl, d, _, rfl, dg kG hd2 vG2, .inl ⟨_, rfl, _, rfl, _, _, rfl, rfl, m0, ?_⟩⟩
        refine ⟨_, rfl, d, _, rfl, dg kG hd2 vG2, _, rfl, _, _, rfl, rfl, ⟨m0, m30⟩, _, rfl, d, _, rfl, DPut.k (k := kG) hd2 (five l2), _, rfl, ?_⟩
        have q0 : 0 ≤ g2 / m := Int.ediv_nonneg g0 (by omega)
        refine k _ _ (Int.emod_nonneg _ (by omega)) (Int.emod_lt_of_pos _ m0) ⟨⟨_, cs, p2, g2 / m, f2, upd_same, by rw [upd_ne ne]; exact hc2, by rw [putK_same vG2]; exact l2, put_in kG kC _ vC2 cg, put_in kG kA _ vA2 ag, put_at kG _, put_in kG kN _ vN2 ng, put_in kG kF _ vF2 fg, ⟨p0, q0⟩, f0, f1⟩, fun b hb => by rw [upd_ne hb]; exact off b hb⟩
      · refine ⟨_, rfl, d, _, rfl, dg kF hd2 vF2, _, rfl, d, _, rfl, dg kN hd2 vN2, _, _, rfl, rfl, .inr ⟨by decide, by decide⟩, _, _, rfl, rfl, _, _, rfl, rfl, ?_⟩
        refine ⟨_, rfl, _, _, rfl, rfl, ⟨by decide, by decide, by omega⟩, _, _, rfl, rfl, (by show (0 : Int) < 2305843009213693951; decide), .inl ⟨_, rfl, _, _, rfl, rfl, ⟨by decide, by decide⟩, _, rfl, _, _, rfl, rfl, m0, ?_⟩⟩
        exact k _ _ (Int.emod_nonneg _ (by omega)) (Int.emod_lt_of_pos _ m0) ⟨⟨kvs2, cs, p2, g2, f2, hd2, hc2, l2, vC2, vA2, vG2, vN2, vF2, ⟨p0, g0⟩, f0, f1⟩, off⟩

theorem scPen : FnScope ["_law_script", "_law_fold", "_law_cell"] ["_law_script"] (defScope sPen) := ⟨rfl, rfl, rfl, by decide +kernel, rfl, by decide +kernel, by decide +kernel⟩
theorem ok_pen {f : Addr} {fd : FuncData} (F : Fun K "_law_pen" "_law_pen" sPen f fd) (mInt : mg "int" = none) (mLst : mg "list" = none) : FnOk P w K mg base CX0 1 f fd ["_law_script"] (spPen K) := by
  refine F.ok scPen (fun vs H Q E h => ?_) (fun cdv A outer s H vs Q E hr h => ?_)
  · obtain ⟨a, ns, rfl, _⟩ := h
    rfl
  · obtain ⟨a, ns, rfl, hS, k⟩ := h
    refine ⟨_, pss_cons (ps_set (i := 1) scPen.nd rfl (Or.inl rfl) pe_int)
      (pss_cons (ps_for PassesOwn.never rfl (pi_list (pv 0)) (pg_name (i := 2) scPen.nd rfl (Or.inl rfl))
        (pss_one (ps_set (i := 1) scPen.nd rfl (Or.inl rfl) (pe_op op_mod (pe_callTy call_int1 (by rfl) mInt (by decide +kernel) (pa_cons (pe_op op_add (pe_op op_mul (pv 1) pe_int) (pv 2)) pa_nil)) pe_int))))
      (pss_one (ps_ret (pe_disp (pps_cons pe_str (pe_callTy call_list_of (by rfl) mLst (by decide +kernel) (pa_cons (pv 0) pa_nil))
        (pps_cons pe_str pe_int (pps_cons pe_str pe_int (pps_cons pe_str pe_int (pps_cons pe_str (pv 1) pps_nil))))) rfl rfl (by simp) (by decide))))), ?_⟩
    refine ⟨_, rfl, a, rfl, ⟨_, hS⟩, for_list (K := K) (a := a) (xs := ns.map V.int) (fun _ σ H2 => ∃ (f : Int) (v : Option V), σ = [some (.ref a), some (.int f), v] ∧ H2 = H ∧ 0 ≤ f ∧ f < 1000000007)
      ⟨0, none, rfl, rfl, by decide, by decide⟩ (fun i σ H2 _ ⟨_, _, _, e, _⟩ => e ▸ hS) ?_ ?_⟩
    · rintro i y σ H2 hi ⟨f, v, rfl, rfl, f0, f1⟩
      obtain ⟨z, rfl⟩ : ∃ z, y = V.int z := by
        rw [List.getElem?_map] at hi
        cases e : ns[i]? with
        | none => rw [e] at hi; cases hi
        | some z => rw [e] at hi; exact ⟨z, (Option.some.inj hi).symm⟩
      refine ⟨_, rfl, _, _, rfl, rfl, .inl ⟨by omega, by omega⟩, _, rfl, _, _, rfl, rfl, .inl ⟨_, rfl, _, _, rfl, rfl, (by show (0 : Int) < 1000000007; decide), ?_⟩⟩
      exact ⟨_, _, rfl, rfl, Int.emod_nonneg _ (by decide), Int.emod_lt_of_pos _ (by decide)⟩
    · rintro σ H2 ⟨f, v, rfl, rfl, f0, f1⟩
      intro d hd
      have hS1 : SqL K (L2.upd H2 d (.dK [])) a (ns.map V.int) := Same.seq (fun b o e => by rw [upd_ne (ne_of_none e hd)]; exact e) hS
      refine ⟨_, rfl, a, _, rfl, .inl hS1, fun c hc => ?_⟩
      have ncd : c ≠ d := fun e => by
        rw [e, upd_same] at hc
        cases hc
      have hc0 : H2 c = none := by rw [upd_ne ncd] at hc; exact hc
      refine ⟨_, rfl, by rw [upd_ne ncd.symm, upd_same], [(kC, .ref c), (kA, .int 0), (kG, .int 0), (kN, .int 0), (kF, .int f)], rfl, (by show 5 ≤ 15; decide), ?_⟩
      have lm := length_mergeK [(kC, V.ref c), (kA, .int 0), (kG, .int 0), (kN, .int 0), (kF, .int f)] []
      obtain ⟨ac, gc, nc, fc, ca, ga, na, fa, cg, ag, ng, fg, cn, an, gn, fn, cf, af, gf, nf⟩ := kne
      have em : mergeK [] [(kC, V.ref c), (kA, .int 0), (kG, .int 0), (kN, .int 0), (kF, .int f)] = putK (putK (putK (putK (putK [] kC (.ref c)) kA (.int 0)) kG (.int 0)) kN (.int 0)) kF (.int f) := rfl
      have v1 : valV (mergeK [] [(kC, V.ref c), (kA, .int 0), (kG, .int 0), (kN, .int 0), (kF, .int f)]) kC = some (.ref c) := by
        rw [em]; exact put_in _ _ _ (put_in _ _ _ (put_in _ _ _ (put_in _ _ _ (put_at _ _) ca) cg) cn) cf
      have v2 : valV (mergeK [] [(kC, V.ref c), (kA, .int 0), (kG, .int 0), (kN, .int 0), (kF, .int f)]) kA = some (.int 0) := by
        rw [em]; exact put_in _ _ _ (put_in _ _ _ (put_in _ _ _ (put_at _ _) ag) an) af
      have v3 : valV (mergeK [] [(kC, V.ref c), (kA, .int 0), (kG, .int 0), (kN, .int 0), (kF, .int f)]) kG = some (.int 0) := by
        rw [em]; exact put_in _ _ _ (put_in _ _ _ (put_at _ _) gn) gf
      have v4 : valV (mergeK [] [(kC, V.ref c), (kA, .int 0), (kG, .int 0), (kN, .int 0), (kF, .int f)]) kN = some (.int 0) := by
        rw [em]; exact put_in _ _ _ (put_at _ _) nf
      have v5 : valV (mergeK [] [(kC, V.ref c), (kA, .int 0), (kG, .int 0), (kN, .int 0), (kF, .int f)]) kF = some (.int f) := by
        rw [em]; exact put_at _ _
      have l5 : (mergeK [] [(kC, V.ref c), (kA, .int 0), (kG, .int 0), (kN, .int 0), (kF, .int f)]).length ≤ 5 := lm
      refine k _ d c ⟨_, ns, 0, 0, f, upd_same, by rw [upd_ne ncd, upd_same], l5, v1, v2, v3, v4, v5, by decide, f0, by omega⟩ (fun b o e => ?_) hd
      rw [upd_ne (ne_of_none e hd), upd_ne (ne_of_none e hc0), upd_ne (ne_of_none e hd)]
      exact e
theorem scPick : FnScope ["_law_pen_here", "_law_some"] ["_law_pen_here", "_law_some"] (defScope sPick) := ⟨rfl, rfl, rfl, by decide +kernel, rfl, by decide +kernel, by decide +kernel⟩
theorem ok_pick {f fD : Addr} {fd fdD : FuncData} (F : Fun K "_law_pick" "_law_pick" sPick f fd) (FD : Fun K "_law_draw" "_law_draw" sDraw fD fdD) (bD : Binds K fdD ["_law_pen_here", "_law_many"] []) (mD : mg "_law_draw" = some (.ref fD))
    (mInt : mg "int" = none) (mLen : mg "len" = none) : FnOk P w K mg base CX0 2 f fd ["_law_pen_here", "_law_some"] (spPick K) := by
  have GD : FnOk P w K mg base CX0 1 fD fdD ["_law_pen_here", "_law_many"] spDraw := ok_draw FD mInt mLen
  refine F.ok scPick (fun vs H Q E h => ?_) (fun cdv A outer s H vs Q E hr h => ?_)
  · obtain ⟨d, c, a, n, xs, rfl, _⟩ := h
    rfl
  · obtain ⟨d, c, a, n, xs, rfl, pen, ha, x0, x1, n0, n1, k⟩ := h
    refine ⟨_, pss_one (ps_ret (pe_ix ix_list (pv 1) (pe_call GD hr rfl mD FD.kp bD .nil pass0 (pa_cons (pv 0) (pa_cons (pe_callB call_len_seq (by rfl) mLen PySem.boot_len (pa_cons (pv 1) pa_nil)) pa_nil))) (fun _ _ => rfl))), ?_⟩
    refine ⟨_, rfl, _, rfl, _, rfl, a, _, rfl, .inl (SqL.of ha), d, c, n, _, rfl, pen, by omega, by omega, n0, n1, fun r H' r0 r1 dr => ?_⟩
    have nda : a ≠ d := fun e => by
      obtain ⟨kvs, cs, p, g, f, h1, _⟩ := pen
      rw [e, h1] at ha
      cases ha
    have hr : r.toNat < xs.length := by omega
    refine ⟨a, _, _, _, rfl, rfl, SqL.of ((dr.off a nda).trans ha), at_of (j := r.toNat) (by omega) (List.getElem?_eq_getElem hr), ?_⟩
    exact k _ _ (List.getElem_mem hr) dr
theorem scLarge : FnScope ["_law_pen_here", "_law_way", "_law_total", "_law_k"] ["_law_pen_here"] (defScope sLarge) := ⟨rfl, rfl, rfl, by decide +kernel, rfl, by decide +kernel, by decide +kernel⟩
theorem ok_large {f fD fP : Addr} {fd fdD fdP : FuncData} (F : Fun K "_law_large" "_law_large" sLarge f fd) (FD : Fun K "_law_draw" "_law_draw" sDraw fD fdD) (bD : Binds K fdD ["_law_pen_here", "_law_many"] []) (mD : mg "_law_draw" = some (.ref fD))
    (FP : Fun K "_law_pick" "_law_pick" sPick fP fdP) (bP : Binds K fdP ["_law_pen_here", "_law_some"] []) (mP : mg "_law_pick" = some (.ref fP))
    (mInt : mg "int" = none) (mLen : mg "len" = none) (mRng : mg "range" = none) : FnOk P w K mg base CX0 3 f fd ["_law_pen_here"] spLarge := by
  have GD : FnOk P w K mg base CX0 1 fD fdD ["_law_pen_here", "_law_many"] spDraw := ok_draw FD mInt mLen
  have GP : FnOk P w K mg base CX0 2 fP fdP ["_law_pen_here", "_law_some"] (spPick K) := ok_pick FP FD bD mD mInt mLen
  refine F.ok scLarge (fun vs H Q E h => ?_) (fun cdv A outer s H vs Q E hr h => ?_)
  · obtain ⟨d, c, n, rfl, _⟩ := h
    rfl
  · obtain ⟨d, c, n, rfl, pen, n0, n1, k⟩ := h
    have hr1 : Room 1 _ := hr.mono (by decide)
    refine ⟨_, pss_cons (ps_par (i := 1) (j := 2) rfl scLarge.nd rfl rfl (by decide) rfl rfl (pa_cons (pe_call GD hr1 rfl mD FD.kp bD .nil pass0 (pa_cons (pv 0) (pa_cons pe_int pa_nil))) (pa_cons pe_int pa_nil)) (by rfl))
      (pss_cons (ps_if (pt_cmpR op_lt (pv 1) pe_int (nomark _)) (pss_one (ps_ret (pe_call GD hr1 rfl mD FD.kp bD .nil pass0 (pa_cons (pv 0) (pa_cons pe_int pa_nil))))) pss_nil)
      (pss_cons (ps_for PassesOwn.never rfl (pi_range1 rfl mRng (pa_cons (pe_call GP hr rfl mP FP.kp bP .nil pass0 (pa_cons (pv 0) (pa_cons (pe_lst (pa_cons pe_int (pa_cons pe_int (pa_cons pe_int (pa_cons pe_int pa_nil))))) pa_nil))) pa_nil)) (pg_name (i := 3) scLarge.nd rfl (Or.inl rfl))
        (pss_one (ps_set (i := 2) scLarge.nd rfl (Or.inl rfl) (pe_op op_add (pe_op op_mul (pv 2) pe_int) (pe_call GD hr1 rfl mD FD.kp bD .nil pass0 (pa_cons (pv 0) (pa_cons pe_int pa_nil)))))))
      (pss_one (ps_ret (pv 2))))), ?_⟩
    refine ⟨_, rfl, d, c, n, 6, rfl, pen, by decide, by decide, n0, by omega, fun way H1 w0 w1 dr1 => ?_⟩
    refine ⟨_, _, rfl, ?_⟩
    refine ⟨_, rfl, _, _, rfl, rfl, _, rfl, ite2 (fun _ => ?_) (fun _ => ?_)⟩
    · refine ⟨_, rfl, d, c, n + 1, 40, rfl, dr1.pen, by decide, by decide, by omega, by omega, fun r H2 r0 r1 dr2 => ?_⟩
      have dr := dr1.trans dr2
      exact k r (n + 1 + 1) H2 r0 (Int.lt_trans r1 (by decide)) (by omega) (by omega) dr.pen fun b o e hb => (dr.off b hb).trans e
    · refine ⟨_, rfl, (by show 4 ≤ sizeLine; decide), fun p np => ?_⟩
      have pen1 := dr1.pen.upd (o := .lst [.int 1, .int 2, .int 6, .int 19]) np
      refine ⟨d, c, p, n + 1, [.int 1, .int 2, .int 6, .int 19], rfl, pen1, upd_same, by decide, by decide, by omega, by omega, fun x H2 hx dr2 => ?_⟩
      obtain ⟨j, rfl, j0, j1⟩ : ∃ j : Int, x = .int j ∧ 1 ≤ j ∧ j ≤ 19 := by
        rcases List.mem_cons.mp hx with rfl | hx
        · exact ⟨_, rfl, by decide, by decide⟩
        rcases List.mem_cons.mp hx with rfl | hx
        · exact ⟨_, rfl, by decide, by decide⟩
        rcases List.mem_cons.mp hx with rfl | hx
        · exact ⟨_, rfl, by decide, by decide⟩
        rcases List.mem_cons.mp hx with rfl | hx
        · exact ⟨_, rfl, by decide, by decide⟩
        · exact (List.not_mem_nil hx).elim
      have fr2 : ∀ b o, H b = some o → b ≠ d → H2 b = some o := fun b o e hb => by
        have h1 : H1 b = some o := (dr1.off b hb).trans e
        rw [dr2.off b hb, upd_ne (ne_of_none h1 np)]
        exact h1
      refine ⟨j, rfl, by omega, by omega, for_range (lo := 0) (n := j.toNat) (fun i σ H3 => ∃ (t n' : Int) (v : Option V), σ = [some (.ref d), some (.int way), some (.int t), v] ∧ 0 ≤ t ∧ t < ((1000 ^ i : Nat) : Int) ∧ n' = n + 2 + (i : Int) ∧
        Pen H3 d c n' ∧ ∀ b o, H b = some o → b ≠ d → H3 b = some o) ⟨0, _, none, rfl, by decide, by decide, rfl, ?_, fr2⟩ ?_ ?_⟩
      · have e := dr2.pen
        rw [show n + 1 + 1 = n + 2 + ((0 : Nat) : Int) by omega] at e
        exact e
      · rintro i σ H3 hi ⟨t, n', v, rfl, t0, t1, rfl, pen3, fr3⟩
        refine ⟨_, rfl, _, _, rfl, rfl, .inr ⟨by decide, by decide⟩, _, rfl, d, c, _, 1000, rfl, pen3, by decide, by decide, by omega, by omega, fun r H4 r0 r1 dr4 => ?_⟩
        refine ⟨_, _, rfl, rfl, ?_⟩
        refine ⟨_, _, _, rfl, by omega, ?_, ?_, dr4.pen, fun b o e hb => (dr4.off b hb).trans (fr3 b o e hb)⟩
        · rw [Nat.pow_succ]
          omega
        · omega
      · rintro σ H3 ⟨t, n', v, rfl, t0, t1, rfl, pen3, fr3⟩
        have hp : 1000 ^ j.toNat ≤ 1000 ^ 19 := Nat.pow_le_pow_right (by decide) (by omega)
        have e19 : (1000 ^ 19 : Nat) = 10 ^ 57 := by decide
        refine ⟨_, rfl, ?_⟩
        refine k t _ H3 t0 ?_ (by omega) (by omega) pen3 fr3
        have : ((1000 ^ j.toNat : Nat) : Int) ≤ ((10 ^ 57 : Nat) : Int) := by rw [← e19]; exact Int.ofNat_le.mpr hp
        exact Int.lt_of_lt_of_le t1 this
end
/-! ### the errors -/
/-- what an __init__ that keeps its arguments as fields does -/
def spIni (C : Addr) (fs : List Str) : Sp := fun vs H Q _ => ∃ (a : Addr) (ys : List V), vs = .ref a :: ys ∧ ys.length = fs.length ∧ H a = some (exo a C none) ∧
  ∀ (H' : Hp) (dx : Addr), H dx = none → dx ≠ a → (∀ b, b ≠ a → b ≠ dx → H' b = H b) → H' a = some (exo a C (some dx)) → H' dx = some (exd dx (fs.zip ys).reverse) → Q .non H'
section
variable {P : Program} {w : World} {K : PySem.W.Frag} {mg : Str → Option Value} {base : Heap}
abbrev sBadNumber : Stmt := inClass (top 2) 0
theorem scBadNumber : FnScope ["self", "what", "number"] ["self", "what", "number"] (defScope sBadNumber) := ⟨rfl, rfl, rfl, by decide +kernel, rfl, by decide +kernel, by decide +kernel⟩
theorem okBadNumber {f C : Addr} {fd : FuncData} (F : Fun K "__init__" "BadNumber.__init__" sBadNumber f fd) (T : OexC K C) (no : ∀ g ∈ (["what", "number"] : List Str), PySem.W.findIn K (.ref C) g = some none) : FnOk P w K mg base CX0 1 f fd ["self", "what", "number"] (spIni C ["what", "number"]) := by
  refine F.ok scBadNumber (fun vs H Q E h => ?_) (fun cdv A outer s H vs Q E hr h => ?_)
  · obtain ⟨a, ys, rfl, hl, _⟩ := h
    show ys.length + 1 = _
    rw [hl]
    rfl
  · obtain ⟨a, ys, rfl, hl, ha, k⟩ := h
    match ys, hl with
    | [y0, y1], _ =>
    refine ⟨_, pss_cons (ps_ost (pv 0) (pv 1)) (pss_one (ps_ost (pv 0) (pv 2))), ?_⟩
    refine ⟨_, rfl, _, rfl, a, C, rfl, T, no _ (.head _), .inl ⟨ha, fun dx hdx ne => ?_⟩⟩
    refine ⟨_, rfl, _, rfl, a, C, rfl, T, no _ (.tail _ (.head _)), .inr ⟨dx, _, upd_same, by rw [upd_ne ne, upd_same], by show 1 ≤ 900; decide, ?_⟩⟩
    refine k _ dx hdx ne (fun b hb hd => ?_) ?_ ?_
    · rw [upd_ne hd, upd_ne hb, upd_ne hd]
    · rw [upd_ne ne.symm, upd_same]
    · exact upd_same
abbrev sBadRow : Stmt := inClass (top 3) 0
theorem scBadRow : FnScope ["self", "row"] ["self", "row"] (defScope sBadRow) := ⟨rfl, rfl, rfl, by decide +kernel, rfl, by decide +kernel, by decide +kernel⟩
theorem okBadRow {f C : Addr} {fd : FuncData} (F : Fun K "__init__" "BadRow.__init__" sBadRow f fd) (T : OexC K C) (no : ∀ g ∈ (["row"] : List Str), PySem.W.findIn K (.ref C) g = some none) : FnOk P w K mg base CX0 1 f fd ["self", "row"] (spIni C ["row"]) := by
  refine F.ok scBadRow (fun vs H Q E h => ?_) (fun cdv A outer s H vs Q E hr h => ?_)
  · obtain ⟨a, ys, rfl, hl, _⟩ := h
    show ys.length + 1 = _
    rw [hl]
    rfl
  · obtain ⟨a, ys, rfl, hl, ha, k⟩ := h
    match ys, hl with
    | [y0], _ =>
    refine ⟨_, pss_one (ps_ost (pv 0) (pv 1)), ?_⟩
    refine ⟨_, rfl, _, rfl, a, C, rfl, T, no _ (.head _), .inl ⟨ha, fun dx hdx ne => ?_⟩⟩
    refine k _ dx hdx ne (fun b hb hd => ?_) ?_ ?_
    · rw [upd_ne hb, upd_ne hd]
    · exact upd_same
    · rw [upd_ne ne, upd_same]; rfl
end
end K01

namespace K01
open PySem L2 Gd
/-! ### words of digits -/
/-- the digits of n to the base p, the low one first -/
def dgs (p : Nat) (n : Nat) : List Int := if h : n = 0 ∨ p < 2 then [] else ((n % p : Nat) : Int) :: dgs p (n / p)
termination_by n
decreasing_by exact Nat.div_lt_self (by omega) (by omega)
theorem dgs_zero {p : Nat} : dgs p 0 = [] := by
  rw [dgs, dif_pos (.inl rfl)]
theorem dgs_pos {p n : Nat} (h : 0 < n) (hp : 2 ≤ p) : dgs p n = ((n % p : Nat) : Int) :: dgs p (n / p) := by
  rw [dgs, dif_neg (by omega)]
theorem dgs_len {p : Nat} (hp : 2 ≤ p) : ∀ (k n : Nat), n < 2 ^ k → (dgs p n).length ≤ k
  | 0, n, h => by
    have e : n = 0 := by simpa using h
    rw [e, dgs_zero]
    exact Nat.le_refl _
  | k + 1, n, h => by
    by_cases z : n = 0
    · rw [z, dgs_zero]
      exact Nat.zero_le _
    · rw [dgs_pos (by omega) hp]
      have h2 : n / p < 2 ^ k := by
        refine Nat.lt_of_le_of_lt (Nat.div_le_div_left hp (by decide)) ?_
        rw [Nat.pow_succ] at h
        omega
      have := dgs_len hp k _ h2
      simp only [List.length_cons]
      omega
theorem dgs_are {p : Nat} (hp : 2 ≤ p) : ∀ (k n : Nat), n ≤ k → ∀ d ∈ dgs p n, 0 ≤ d ∧ d < (p : Int)
  | 0, n, h, d, hd => by
    have e : n = 0 := by omega
    rw [e, dgs_zero] at hd
    cases hd
  | k + 1, n, h, d, hd => by
    by_cases z : n = 0
    · rw [z, dgs_zero] at hd
      cases hd
    · rw [dgs_pos (by omega) hp] at hd
      rcases List.mem_cons.mp hd with rfl | hd
      · have := Nat.mod_lt n (show p > 0 by omega)
        omega
      · exact dgs_are hp k _ (by have := Nat.div_lt_self (show 0 < n by omega) (show 1 < p by omega); omega) d hd
/-- the number that a word tells -/
def val (p : Int) : List Int → Int
  | [] => 0
  | d :: r => val p r * p + d
theorem val_dgs {p : Nat} (hp : 2 ≤ p) : ∀ (k n : Nat), n ≤ k → val p (dgs p n) = n
  | 0, n, h => by
    have e : n = 0 := by omega
    rw [e, dgs_zero]
    rfl
  | k + 1, n, h => by
    by_cases z : n = 0
    · rw [z, dgs_zero]
      rfl
    · rw [dgs_pos (by omega) hp]
      have lt := Nat.div_lt_self (show 0 < n by omega) (show 1 < p by omega)
      show val p (dgs p (n / p)) * p + ((n % p : Nat) : Int) = n
      rw [val_dgs hp k _ (by omega)]
      have := Nat.div_add_mod n p
      rw [Nat.mul_comm] at this
      omega
theorem val_zeros {p : Int} : ∀ (l : List Int) (k : Nat), val p (l ++ List.replicate k 0) = val p l
  | [], 0 => rfl
  | [], k + 1 => by
    have ih := val_zeros (p := p) [] k
    rw [List.nil_append] at ih ⊢
    show val p (List.replicate k 0) * p + 0 = 0
    rw [ih]
    show (0 : Int) * p + 0 = 0
    rw [Int.zero_mul]
    rfl
  | d :: l, k => by
    show val p (l ++ List.replicate k 0) * p + d = val p l * p + d
    rw [val_zeros l k]
theorem val_drop {p : Int} {l : List Int} {i : Nat} {d : Int} (h : l[i]? = some d) : val p (l.drop i) = val p (l.drop (i + 1)) * p + d := by
  have hi : i < l.length := by
    rcases Nat.lt_or_ge i l.length with z | z
    · exact z
    · rw [List.getElem?_eq_none z] at h
      cases h
  rw [List.drop_eq_getElem_cons hi]
  have e : l[i] = d := by
    rw [List.getElem?_eq_getElem hi] at h
    exact Option.some.inj h
  rw [e]
  rfl
/-! ### kinds of values -/
def offInt : List String := ["bool", "NoneType", "str", "list", "tuple", "dict"]
theorem off_int : ∀ n ∈ offInt, kitB n "int" = some (decide (n = "bool")) ∧ kitB n "bool" = some (decide (n = "bool")) := by decide +kernel
theorem on_int : kitB "int" "int" = some true ∧ kitB "int" "bool" = some false := by decide +kernel
/-- no int at all, or a bool -/
def NoInt (K : PySem.W.Frag) (H : Hp) (x : V) : Prop := ∃ n, n ∈ offInt ∧ TyX K H x (.type n)
theorem tyMore {K : PySem.W.Frag} {H H' : Hp} {x : V} {n : String} (e : ∀ b o, H b = some o → H' b = some o) (t : TyX K H x (.type n)) : TyX K H' x (.type n) := by
  cases t with
  | base t =>
    refine .base ?_
    cases t with
    | non => exact .non
    | bl b => exact .bl b
    | int i => exact .int i
    | str z => exact .str z
    | flt z => exact .flt z
    | lst h => exact .lst (e _ _ h)
    | frz h => exact .frz (e _ _ h)
    | tup h => exact .tup (e _ _ h)
    | dK h => exact .dK (e _ _ h)
    | dT h => exact .dT (e _ _ h)
  | byt b => exact .byt b
  | set h => exact .set (e _ _ h)
  | kList h c => exact .kList h c
  | kTuple h c => exact .kTuple h c
  | kDict h c => exact .kDict h c
  | fTuple h => exact .fTuple (e _ _ h)
  | fDict h => exact .fDict (e _ _ h)
theorem NoInt.more {K : PySem.W.Frag} {H H' : Hp} {x : V} (e : ∀ b o, H b = some o → H' b = some o) (h : NoInt K H x) : NoInt K H' x :=
  let ⟨n, m, t⟩ := h; ⟨n, m, tyMore e t⟩
def spIsI (K : PySem.W.Frag) : Sp := fun vs H Q _ => ∃ x, vs = [x] ∧ ((∃ i, x = .int i ∧ Q (.bl true) H) ∨ (NoInt K H x ∧ Q (.bl false) H))
section
variable {P : Program} {w : World} {K : PySem.W.Frag} {mg : Str → Option Value} {base : Heap}
abbrev sIsI : Stmt := top 5
theorem scIsI : FnScope ["value"] ["value"] (defScope sIsI) := ⟨rfl, rfl, rfl, by decide +kernel, rfl, by decide +kernel, by decide +kernel⟩
theorem ok_isI {f : Addr} {fd : FuncData} (F : Fun K "is_integer" "is_integer" sIsI f fd) (mIsi : mg "isinstance" = none) (mInt : mg "int" = none) (mBool : mg "bool" = none) : FnOk P w K mg base CX0 1 f fd ["value"] (spIsI K) := by
  refine F.ok scIsI (fun vs H Q E h => ?_) (fun cdv A outer s H vs Q E hr h => ?_)
  · obtain ⟨x, rfl, _⟩ := h
    rfl
  · obtain ⟨x, rfl, h⟩ := h
    refine ⟨_, pss_one (ps_ret (pe_and (pe_callB call_isi (by rfl) mIsi (by decide +kernel) (pa_cons (pv 0) (pa_cons (pe_bltn (v := .ty "int") rfl mInt (by decide +kernel) rfl) pa_nil)))
      (pe_one (pe_not (pe_callB call_isi (by rfl) mIsi (by decide +kernel) (pa_cons (pv 0) (pa_cons (pe_bltn (v := .ty "bool") rfl mBool (by decide +kernel) rfl) pa_nil))))))), ?_⟩
    obtain ⟨i, rfl, q⟩ | ⟨⟨n, hn, t⟩, q⟩ := h
    · refine ⟨_, rfl, _, _, _, _, _, rfl, .ty "int", .base (.int i), kit_ty on_int.1, _, rfl, iteT ?_⟩
      exact ⟨_, rfl, _, _, _, _, _, rfl, .ty "bool", .base (.int i), kit_ty on_int.2, _, rfl, q⟩
    · obtain ⟨k1, k2⟩ := off_int n hn
      refine ⟨_, rfl, _, _, _, _, _, rfl, .ty "int", t, kit_ty k1, _, rfl, ite2 (fun z => ?_) (fun z => q)⟩
      refine ⟨_, rfl, _, _, _, _, _, rfl, .ty "bool", t, kit_ty k2, _, rfl, ?_⟩
      rw [z]
      exact q
end
end K01

namespace K01
open PySem L2 Gd
theorem pi_or {X : Cx} {tg it : Expr} {u v : TI} (a : PI X tg it u) (b : PI X tg it v) : PI X tg it (fun σ H R => u σ H R ∨ v σ H R) where
  run := by
    rintro pins s σ H R I (h | h)
    · exact a.run pins s σ H R I h
    · exact b.run pins s σ H R I h
theorem sqT_more {K : PySem.W.Frag} {H H' : Hp} {a : Addr} {xs : List V} (e : ∀ b o, H b = some o → H' b = some o) : SqT K H a xs → SqT K H' a xs
  | .inl (.inl h) => .inl (.inl (e _ _ h))
  | .inl (.inr ⟨o, h⟩) => .inl (.inr ⟨o, e _ _ h⟩)
  | .inr h => .inr h
/-- a list or a tuple of xs -/
def Sq (K : PySem.W.Frag) (H : Hp) (a : Addr) (xs : List V) : Prop := SqL K H a xs ∨ SqT K H a xs
theorem Sq.more {K : PySem.W.Frag} {H H' : Hp} {a : Addr} {xs : List V} (e : ∀ b o, H b = some o → H' b = some o) : Sq K H a xs → Sq K H' a xs
  | .inl h => .inl (Same.seq e h)
  | .inr h => .inr (sqT_more e h)
/-! ### errors of the program -/
structure Er (K : PySem.W.Frag) (mg : Str → Option Value) (x q : Str) (C fI : Addr) (fs : List Str) (st : Stmt) (fd : FuncData) : Prop where
  T : OexC K C
  iC : PySem.W.findIn K (.ref C) "__init__" = some (some (.ref fI))
  tI : PySem.W.typeIn K (.ref fI) = some (.type "function")
  fn : Fun K "__init__" q st fI fd
  b : Binds K fd ("self" :: fs) []
  no : ∀ g ∈ fs, PySem.W.findIn K (.ref C) g = some none
  g : mg x = some (.ref C)
theorem mk_ini {C : Addr} {fs : List Str} {vs : List V} {H1 : Hp} {Q : XK} (hl : vs.length = fs.length) (h9 : vs.length ≤ 900)
    (h : ∀ d, H1 d = none → Q (.ref C) (some d) (upd H1 d (.xd (fs.zip vs).reverse))) : vs.length ≤ 1000 ∧ ∀ a, H1 a = none →
      spIni C fs (.ref a :: (vs ++ [])) (upd H1 a (exo a C none)) (fun v H2 => v = .non ∧ ∃ (d : Addr) (fs' : List (Str × V)), H2 a = some (exo a C (some d)) ∧
        H2 d = some (exd d fs') ∧ H1 d = none ∧ Q (.ref C) (some d) (upd (del H2 a) d (.xd fs'))) (fun _ _ _ => False) := by
  refine ⟨by omega, fun a ha => ⟨a, vs, by rw [List.append_nil], hl, upd_same, fun H' dx hdx ne off e1 e2 => ⟨rfl, dx, _, e1, e2, ?_, ?_⟩⟩⟩
  · rw [upd_ne ne] at hdx
    exact hdx
  · rw [upd_ne ne] at hdx
    have same : upd (del H' a) dx (.xd (fs.zip vs).reverse) = upd H1 dx (.xd (fs.zip vs).reverse) := by
      funext b
      by_cases q : b = dx
      · subst q
        rw [upd_same, upd_same]
      · rw [upd_ne q, upd_ne q]
        by_cases z : b = a
        · subst z
          rw [del_same, ha]
        · rw [del_ne z, off b z q, upd_ne z]
    rw [same]
    exact h dx hdx
/-- BadNumber(what, x) is raised -/
def RNum (CN : Addr) (what : Str) (x : V) (H : Hp) (E : XK) : Prop := ∀ d, H d = none → E (.ref CN) (some d) (upd H d (.xd [("number", x), ("what", .str what)]))
def RRow (CR : Addr) (x : V) (H : Hp) (E : XK) : Prop := ∀ d, H d = none → E (.ref CR) (some d) (upd H d (.xd [("row", x)]))
def ppT : List (Int × List Int) := [(2, [2, 1]), (4, [2, 2]), (8, [2, 3]), (16, [2, 4]), (3, [3, 1]), (9, [3, 2]), (27, [3, 3]), (5, [5, 1]), (25, [5, 2]), (7, [7, 1])]
theorem ppT_few : ∀ m is, ppT.lookup m = some is → is.length ≤ 1000 := by
  intro m is h
  have all : ∀ q ∈ ppT, q.2.length ≤ 1000 := by decide
  have mem : ∀ l : List (Int × List Int), l.lookup m = some is → (m, is) ∈ l := by
    intro l
    induction l with
    | nil => intro z; cases z
    | cons q r ih =>
      intro z
      rw [List.lookup_cons] at z
      by_cases e : m = q.1
      · rw [show (m == q.1) = true from beq_iff_eq.mpr e] at z
        cases z
        rw [e]
        exact .head _
      · rw [show (m == q.1) = false from beq_eq_false_iff_ne.mpr e] at z
        exact .tail _ (ih z)
  exact all _ (mem _ h)
/-- no prime power -/
def spPP (K : PySem.W.Frag) (CN : Addr) : Sp := fun vs H Q E => ∃ x, vs = [x] ∧
  ((∃ m is, x = .int m ∧ ppT.lookup m = some is ∧ ∀ a, SqT K H a (is.map V.int) → Q (.ref a) H) ∨
    (((∃ m, x = .int m ∧ ppT.lookup m = none) ∨ NoInt K H x) ∧ RNum CN "modulus" x H E))
def isPr (p : Int) : Bool := inV (.int p) ([2, 3, 5, 7].map V.int)
def BadP (K : PySem.W.Frag) (H : Hp) (x : V) : Prop := (∃ m, x = .int m ∧ isPr m = false) ∨ NoInt K H x
def spCP (K : PySem.W.Frag) (CN : Addr) : Sp := fun vs H Q E => ∃ x, vs = [x] ∧
  ((∃ m, x = .int m ∧ isPr m = true ∧ Q .non H) ∨ (BadP K H x ∧ RNum CN "p" x H E))
section
variable {P : Program} {w : World} {K : PySem.W.Frag} {mg : Str → Option Value} {base : Heap}
/-- a def of the text -/
structure Cl (K : PySem.W.Frag) (mg : Str → Option Value) (x : Str) (st : Stmt) (ps : List Str) (f : Addr) (fd : FuncData) : Prop where
  fn : Fun K x x st f fd
  b : Binds K fd ps []
  g : mg x = some (.ref f)
theorem Cl.k {x : Str} {st : Stmt} {ps : List Str} {f : Addr} {fd : FuncData} (h : Cl K mg x st ps f fd) : PySem.W.keepIn K (.ref f) = true := h.fn.kp
structure Blt (mg : Str → Option Value) : Prop where
  int_ : mg "int" = none
  bool_ : mg "bool" = none
  tup_ : mg "tuple" = none
  len_ : mg "len" = none
  list_ : mg "list" = none
  range_ : mg "range" = none
  isi_ : mg "isinstance" = none
  repr_ : mg "repr" = none
  all_ : mg "all" = none
  divmod_ : mg "divmod" = none
  rev_ : mg "reversed" = none
abbrev sPP : Stmt := top 10
abbrev sCP : Stmt := top 11
theorem scPP : FnScope ["m"] ["m"] (defScope sPP) := ⟨rfl, rfl, rfl, by decide +kernel, rfl, by decide +kernel, by decide +kernel⟩
theorem scCP : FnScope ["p"] ["p"] (defScope sCP) := ⟨rfl, rfl, rfl, by decide +kernel, rfl, by decide +kernel, by decide +kernel⟩
variable {fN CN fI f : Addr} {fdN fdI fd : FuncData} {D : Addr}
theorem ok_pp (F : Fun K "prime_power" "prime_power" sPP f fd) (B : Blt mg) (I : Cl K mg "is_integer" sIsI ["value"] fI fdI)
    (N : Er K mg "BadNumber" "BadNumber.__init__" CN fN ["what", "number"] sBadNumber fdN) (gD : mg "PRIME_POWERS" = some (.ref D)) (dD : dictI K D = some ppT) :
    FnOk P w K mg base (L2.CX P w) 3 f fd ["m"] (spPP K CN) := by
  have GI : FnOk P w K mg base CX0 1 fI fdI ["value"] (spIsI K) := ok_isI I.fn B.isi_ B.int_ B.bool_
  have GN : FnOk P w K mg base CX0 1 fN fdN ["self", "what", "number"] (spIni CN ["what", "number"]) := okBadNumber N.fn N.T N.no
  refine F.okX scPP (fun vs H Q E h => ?_) (fun cdv A outer s H vs Q E hr h => ?_)
  · obtain ⟨x, rfl, _⟩ := h
    rfl
  · obtain ⟨x, rfl, h⟩ := h
    refine ⟨_, pss_cons (ps_if (PW.pt (pw_or (pt_not (pt_val (pe_call GI (hr.mono (by decide)) rfl I.g I.k I.b .nil pass0 (pa_cons (pv 0) pa_nil))))
          (pw_or1 (pt_cmpR op_notInI (pv 0) (pe_glob (v := .ref D) rfl gD rfl) (by rfl)))))
        (pss_one (ps_raise rfl (takes_of rfl rfl rfl rfl) (pmk_oex N.T N.iC N.tI GN hr N.b .nil pass0 rfl N.g (pa_cons pe_str (pa_cons (pv 0) pa_nil))))) pss_nil)
      (pss_one (ps_ret (pe_ix ix_int (pe_glob (v := .ref D) rfl gD rfl) (pv 0) (fun _ _ => rfl)))), ?_⟩
    obtain ⟨m, is, rfl, l, q⟩ | ⟨⟨m, rfl, l⟩ | bad, q⟩ := h
    · refine ⟨_, rfl, _, rfl, .inl ⟨m, rfl, _, rfl, iteF ⟨_, rfl, m, D, ppT, rfl, rfl, dD, ?_⟩⟩⟩
      refine ⟨_, rfl, ?_⟩
      rw [l]
      refine iteF ?_
      exact ⟨_, rfl, m, D, ppT, is, rfl, rfl, dD, l, ppT_few _ _ l, q⟩
    · refine ⟨_, rfl, _, rfl, .inl ⟨m, rfl, _, rfl, iteF ⟨_, rfl, m, D, ppT, rfl, rfl, dD, ?_⟩⟩⟩
      refine ⟨_, rfl, ?_⟩
      rw [l]
      refine iteT ?_
      exact ⟨_, rfl, mk_ini rfl (by show 2 ≤ 900; decide) q⟩
    · refine ⟨_, rfl, _, rfl, .inr ⟨bad, _, rfl, iteT (iteT ?_)⟩⟩
      exact ⟨_, rfl, mk_ini rfl (by show 2 ≤ 900; decide) q⟩
theorem ok_cp (F : Fun K "check_prime" "check_prime" sCP f fd) (B : Blt mg) (I : Cl K mg "is_integer" sIsI ["value"] fI fdI)
    (N : Er K mg "BadNumber" "BadNumber.__init__" CN fN ["what", "number"] sBadNumber fdN) (gD : mg "PRIMES" = some (.ref D)) (dD : tupI K (.ref D) = some [2, 3, 5, 7]) :
    FnOk P w K mg base (L2.CX P w) 3 f fd ["p"] (spCP K CN) := by
  have GI : FnOk P w K mg base CX0 1 fI fdI ["value"] (spIsI K) := ok_isI I.fn B.isi_ B.int_ B.bool_
  have GN : FnOk P w K mg base CX0 1 fN fdN ["self", "what", "number"] (spIni CN ["what", "number"]) := okBadNumber N.fn N.T N.no
  refine F.okX scCP (fun vs H Q E h => ?_) (fun cdv A outer s H vs Q E hr h => ?_)
  · obtain ⟨x, rfl, _⟩ := h
    rfl
  · obtain ⟨x, rfl, h⟩ := h
    have hT : SqT K H D ([2, 3, 5, 7].map V.int) := by
      obtain ⟨a, us, n, sl, ea, hk, rv⟩ := tupI_some dD
      cases ea
      refine .inr ⟨_, us, n, hk, rfl, rfl, ?_, rv⟩
      have z := Paired.length rv
      have z2 : us.toList.length = us.size := Array.length_toList
      rw [← z2, ← z, sizeLine_eq]
      show 4 ≤ 16777216
      decide
    refine ⟨_, pss_one (ps_if (PW.pt (pw_or (pt_not (pt_val (pe_call GI (hr.mono (by decide)) rfl I.g I.k I.b .nil pass0 (pa_cons (pv 0) pa_nil))))
          (pw_or1 (pt_cmpR op_notIn_seq (pv 0) (pe_glob (v := .ref D) rfl gD rfl) (by rfl)))))
        (pss_one (ps_raise rfl (takes_of rfl rfl rfl rfl) (pmk_oex N.T N.iC N.tI GN hr N.b .nil pass0 rfl N.g (pa_cons pe_str (pa_cons (pv 0) pa_nil))))) pss_nil), ?_⟩
    obtain ⟨m, rfl, l, q⟩ | ⟨⟨m, rfl, l⟩ | bad, q⟩ := h
    · refine ⟨_, rfl, _, rfl, .inl ⟨m, rfl, _, rfl, iteF ⟨_, rfl, D, _, rfl, .inr hT, rfl, rfl, _, rfl, ?_⟩⟩⟩
      rw [if_pos rfl, show inV (V.int m) ([2, 3, 5, 7].map V.int) = true from l]
      exact iteF q
    · refine ⟨_, rfl, _, rfl, .inl ⟨m, rfl, _, rfl, iteF ⟨_, rfl, D, _, rfl, .inr hT, rfl, rfl, _, rfl, ?_⟩⟩⟩
      rw [if_pos rfl, show inV (V.int m) ([2, 3, 5, 7].map V.int) = false from l]
      exact iteT ⟨_, rfl, mk_ini rfl (by show 2 ≤ 900; decide) q⟩
    · exact ⟨_, rfl, _, rfl, .inr ⟨bad, _, rfl, iteT (iteT ⟨_, rfl, mk_ini rfl (by show 2 ≤ 900; decide) q⟩)⟩⟩
end
end K01

namespace K01
open PySem L2 Gd
abbrev More (H H' : Hp) : Prop := ∀ b o, H b = some o → H' b = some o
theorem More.new {H H' : Hp} {p : Addr} {o : HO} (m : More H H') (hp : H' p = none) : More H (upd H' p o) := fun b u e => by
  rw [upd_ne (ne_of_none (m b u e) hp)]
  exact m b u e
theorem More.at {H H' : Hp} {p : Addr} {o : HO} (m : More H H') (hp : H p = none) : More H (upd H' p o) := fun b u e => by
  rw [upd_ne (ne_of_none e hp)]
  exact m b u e
theorem More.off {H H' : Hp} {p : Addr} (m : More H H') (hp : H' p = none) : H p = none := by
  cases e : H p with
  | none => rfl
  | some o =>
    rw [m p o e] at hp
    cases hp
/-! ### sequences of integers -/
def isI : V → Bool
  | .int _ => true
  | _ => false
theorem noInt_isI {K : PySem.W.Frag} {H : Hp} {y : V} (h : NoInt K H y) : isI y = false := by
  obtain ⟨n, hn, t⟩ := h
  cases y with
  | int i =>
    cases t with
    | base t =>
      cases t
      exact absurd hn (by decide)
  | _ => rfl
theorem tyL {K : PySem.W.Frag} {H : Hp} {a : Addr} {xs : List V} : SqL K H a xs → TyX K H (.ref a) (.type "list")
  | .inl (.inl h) => .base (.lst h)
  | .inl (.inr ⟨o, h⟩) => .base (.frz h)
  | .inr ⟨o, its, n, h, c, _⟩ => .kList h c
theorem tyT {K : PySem.W.Frag} {H : Hp} {a : Addr} {xs : List V} : SqT K H a xs → TyX K H (.ref a) (.type "tuple")
  | .inl (.inl h) => .base (.tup h)
  | .inl (.inr ⟨o, h⟩) => .fTuple h
  | .inr ⟨o, its, n, h, c, _⟩ => .kTuple h c
def noSeq : List String := ["int", "bool", "NoneType", "str", "dict"]
theorem seq_no : ∀ n ∈ noSeq, kitB n "tuple" = some false ∧ kitB n "list" = some false := by decide +kernel
theorem seq_yes : kitB "tuple" "tuple" = some true ∧ kitB "list" "tuple" = some false ∧ kitB "list" "list" = some true := by decide +kernel
def spIsIs (K : PySem.W.Frag) : Sp := fun vs H Q _ => ∃ x, vs = [x] ∧
  ((∃ n, n ∈ noSeq ∧ TyX K H x (.type n) ∧ ∀ H', More H H' → Q (.bl false) H') ∨
    ∃ a xs, x = .ref a ∧ Sq K H a xs ∧ xs.length ≤ 1000 ∧ (∀ y ∈ xs, (∃ i, y = .int i) ∨ NoInt K H y) ∧ ∀ H', More H H' → Q (.bl (xs.all isI)) H')
theorem take_snoc {α : Type} {l : List α} {i : Nat} {x : α} (h : l[i]? = some x) : l.take (i + 1) = l.take i ++ [x] := by
  rw [List.take_succ, h]
  rfl
def inD (p : Int) : V → Bool
  | .int d => decide (0 ≤ d ∧ d < p)
  | _ => false
theorem isPr_small {p : Int} (h : isPr p = true) : 2 ≤ p ∧ p ≤ 7 := by
  have z : (decide (2 = p) || (decide (3 = p) || (decide (5 = p) || (decide (7 = p) || false)))) = true := h
  simp only [Bool.or_eq_true, decide_eq_true_eq, Bool.or_false] at z
  omega
def spDg (K : PySem.W.Frag) (CN : Addr) : Sp := fun vs H Q E => ∃ x y, vs = [x, y] ∧
  ((∃ n p : Nat, x = .int n ∧ y = .int p ∧ isPr p = true ∧ n < 2 ^ 400 ∧ ∀ H' a, More H H' → H a = none → H' a = some (.tup ((dgs p n).map V.int)) → Q (.ref a) H') ∨
    (((∃ i, x = .int i ∧ i < 0) ∨ NoInt K H x) ∧ RNum CN "n" x H E) ∨
    ∃ n : Int, x = .int n ∧ 0 ≤ n ∧ BadP K H y ∧ RNum CN "p" y H E)
def BadW (K : PySem.W.Frag) (H : Hp) (p : Int) (x : V) : Prop :=
  (∃ n, n ∈ noSeq ∧ TyX K H x (.type n)) ∨
  (∃ a xs, x = .ref a ∧ Sq K H a xs ∧ xs.length ≤ 1000 ∧ (∀ y ∈ xs, (∃ i, y = .int i) ∨ NoInt K H y) ∧ xs.all isI = false) ∨
  ∃ (a : Addr) (ds : List Int), x = .ref a ∧ Sq K H a (ds.map V.int) ∧ ds.length ≤ 1000 ∧ ∃ d ∈ ds, ¬ (0 ≤ d ∧ d < p)
def spNo (K : PySem.W.Frag) (CN CR : Addr) : Sp := fun vs H Q E => ∃ x y, vs = [x, y] ∧
  ((BadP K H y ∧ RNum CN "p" y H E) ∨ ∃ p : Int, y = .int p ∧ isPr p = true ∧
    ((∃ (a : Addr) (ds : List Int), x = .ref a ∧ Sq K H a (ds.map V.int) ∧ ds.length ≤ 1000 ∧ (∀ d ∈ ds, 0 ≤ d ∧ d < p) ∧ ∀ H', More H H' → Q (.int (val p ds)) H') ∨
      (BadW K H p x ∧ ∀ H', More H H' → RRow CR x H' E)))
section
variable {P : Program} {w : World} {K : PySem.W.Frag} {mg : Str → Option Value} {base : Heap}
variable {fN CN fR CR fI fC f : Addr} {fdN fdR fdI fdC fd : FuncData} {D : Addr}
abbrev sIsIs : Stmt := top 6
abbrev sDg : Stmt := top 12
abbrev sNo : Stmt := top 13
theorem scIsIs : FnScope ["value", "item"] ["value"] (defScope sIsIs) := ⟨rfl, rfl, rfl, by decide +kernel, rfl, by decide +kernel, by decide +kernel⟩
theorem scDg : FnScope ["n", "p", "found", "digit"] ["n", "p"] (defScope sDg) := ⟨rfl, rfl, rfl, by decide +kernel, rfl, by decide +kernel, by decide +kernel⟩
theorem scNo : FnScope ["row", "p", "number", "digit"] ["row", "p"] (defScope sNo) := ⟨rfl, rfl, rfl, by decide +kernel, rfl, by decide +kernel, by decide +kernel⟩
theorem ok_isIs (F : Fun K "is_integers" "is_integers" sIsIs f fd) (B : Blt mg) (I : Cl K mg "is_integer" sIsI ["value"] fI fdI) :
    FnOk P w K mg base CX0 2 f fd ["value"] (spIsIs K) := by
  have GI : FnOk P w K mg base CX0 1 fI fdI ["value"] (spIsI K) := ok_isI I.fn B.isi_ B.int_ B.bool_
  refine F.ok scIsIs (fun vs H Q E h => ?_) (fun cdv A outer s H vs Q E hr h => ?_)
  · obtain ⟨x, rfl, _⟩ := h
    rfl
  · obtain ⟨x, rfl, h⟩ := h
    refine ⟨_, pss_one (ps_ret (pe_and (pe_callB call_isiT (by rfl) B.isi_ (by decide +kernel) (pa_cons (pv 0) (pa_cons (pe_tup (pa_cons (pe_bltn (v := .ty "tuple") rfl B.tup_ (by decide +kernel) rfl)
        (pa_cons (pe_bltn (v := .ty "list") rfl B.list_ (by decide +kernel) rfl) pa_nil))) pa_nil)))
      (pe_one (pe_callB (cr_all rfl) (by rfl) B.all_ (by decide +kernel) (pa_cons (pe_lc (own := [("item", 1)]) (g := gName 1) (tt := tYes) rfl scIsIs.nd (pi_or (pi_list (pv 0)) (pi_tup (pv 0)))
        (blkOk_by (N := ["value", "item"]) (sc := defScope sIsIs) (by decide +kernel))
        (fun _ _ _ _ _ => pg_name (i := 1) scIsIs.nd rfl (Or.inl rfl)) (fun _ _ _ _ _ => pts_nil)
        (fun _ _ _ _ _ => pe_call GI hr rfl I.g I.k I.b .nil pass0 (pa_cons (pv 1) pa_nil))) pa_nil))))), ?_⟩
    refine ⟨_, rfl, (by show 2 ≤ sizeLine; decide), fun t ht => ?_⟩
    have m1 : More H (upd H t (.tup [.ty "tuple", .ty "list"])) := More.new (fun _ _ e => e) ht
    obtain ⟨n, hn, ty, q⟩ | ⟨a, xs, rfl, sq, few, all, q⟩ := h
    · obtain ⟨k1, k2⟩ := seq_no n hn
      refine ⟨_, t, _, _, _, false, rfl, upd_same, .cons (.ty "tuple") (.cons (.ty "list") .nil), tyMore m1 ty, kitAny_cons (kit_ty k1) (fun _ => kitAny_cons (kit_ty k2) (fun _ => kitAny_nil) (fun z => nomatch z)) (fun z => nomatch z), _, rfl, iteF ?_⟩
      exact q _ m1
    · have yes : ∃ n, TyX K H (.ref a) (.type n) ∧ PySem.W.kitAny K (.type n) [.type "tuple", .type "list"] = some true := by
        obtain h | h := sq
        · exact ⟨_, tyL h, kitAny_cons (kit_ty seq_yes.2.1) (fun _ => kitAny_cons (kit_ty seq_yes.2.2) (fun z => nomatch z) (fun _ => rfl)) (fun z => nomatch z)⟩
        · exact ⟨_, tyT h, kitAny_cons (kit_ty seq_yes.1) (fun z => nomatch z) (fun _ => rfl)⟩
      obtain ⟨n, ty, ka⟩ := yes
      refine ⟨_, t, _, _, _, true, rfl, upd_same, .cons (.ty "tuple") (.cons (.ty "list") .nil), tyMore m1 ty, ka, _, rfl, iteT ?_⟩
      have sq1 := Sq.more m1 sq
      generalize upd H t (.tup [.ty "tuple", .ty "list"]) = H1 at m1 sq1 ⊢
      have body : ∀ (J : It) (G : Hp → Prop), Walk J xs.length G (YAt xs) → (∀ H', More H1 H' → G H') → ∀ L, H1 L = none → _ :=
        fun J G wk hG L hL => lc_it (w := wk) (vs := [1]) (g := gName 1) (tt := tYes) (σ := [some (.ref a), none]) (D := L) (H1 := H1)
          (te := tCall (spIsI K) [] (fun _ _ _ => False) (tCons (tVar 1) tNil))
          (Qd := fun H' => ∃ (b : Addr) (bs : List Bool), [V.ref L] = [V.ref b] ∧ SqL K H' b (bs.map V.bl) ∧ Q (.bl (bs.all id)) H')
          (fun i H' => H' L = some (.lst ((xs.take i).map fun y => V.bl (isI y))) ∧ More H1 H') ⟨upd_same, More.new (fun _ _ e => e) hL⟩ (fun i H' _ h => hG H' h.2)
          (fun i y H2 H3 hi ⟨e1, m2⟩ ⟨eH, hy⟩ => by
            subst eH
            have la : ((xs.take i).map fun y => V.bl (isI y)).length < sizeLine := by
              rw [List.length_map, List.length_take]
              exact small1000 (by omega)
            have fin : ∀ b, isI y = b → ∃ acc, H3 L = some (.lst acc) ∧ acc.length < sizeLine ∧ (upd H3 L (.lst (acc ++ [V.bl b]))) L = some (.lst ((xs.take (i + 1)).map fun y => V.bl (isI y))) ∧ More H1 (upd H3 L (.lst (acc ++ [V.bl b]))) := by
              intro b hb
              refine ⟨_, e1, la, ?_, m2.at hL⟩
              rw [upd_same, take_snoc hy, List.map_append, List.map_cons, List.map_nil, hb]
            refine ⟨rfl, _, rfl, y, rfl, ?_⟩
            obtain ⟨z, rfl⟩ | no := all y (List.mem_of_getElem? hy)
            · exact .inl ⟨z, rfl, fin _ rfl⟩
            · exact .inr ⟨no.more fun b o e => m2 b o (m1 b o e), fin _ (noInt_isI no)⟩)
          (fun H' ⟨e1, m2⟩ => by
            rw [List.take_length] at e1
            refine ⟨L, xs.map isI, rfl, SqL.of (by rw [List.map_map]; exact e1), ?_⟩
            have : ((xs.map isI).all id) = xs.all isI := by rw [List.all_map]; rfl
            rw [this]
            exact q _ fun b o e => m2 b o (m1 b o e))
      obtain h | h := sq1
      · exact .inl ⟨_, rfl, a, rfl, ⟨xs, h⟩, body _ _ walk_list fun H' m => Same.seq m h⟩
      · exact .inr ⟨_, rfl, a, rfl, ⟨xs, h⟩, body _ _ walk_tup fun H' m => sqT_more m h⟩
end
end K01

namespace K01
open PySem L2 Gd
section
variable {P : Program} {w : World} {K : PySem.W.Frag} {mg : Str → Option Value} {base : Heap}
variable {fN CN fR CR fI fC fS f : Addr} {fdN fdR fdI fdC fdS fd : FuncData} {D : Addr}
theorem ok_dg (F : Fun K "digits" "digits" sDg f fd) (B : Blt mg) (I : Cl K mg "is_integer" sIsI ["value"] fI fdI) (C : Cl K mg "check_prime" sCP ["p"] fC fdC)
    (N : Er K mg "BadNumber" "BadNumber.__init__" CN fN ["what", "number"] sBadNumber fdN) (gD : mg "PRIMES" = some (.ref D)) (dD : tupI K (.ref D) = some [2, 3, 5, 7]) :
    FnOk P w K mg base (L2.CX P w) 4 f fd ["n", "p"] (spDg K CN) := by
  have GI : FnOk P w K mg base CX0 1 fI fdI ["value"] (spIsI K) := ok_isI I.fn B.isi_ B.int_ B.bool_
  have GN : FnOk P w K mg base CX0 1 fN fdN ["self", "what", "number"] (spIni CN ["what", "number"]) := okBadNumber N.fn N.T N.no
  have GC : FnOk P w K mg base (L2.CX P w) 3 fC fdC ["p"] (spCP K CN) := ok_cp C.fn B I N gD dD
  refine F.okX scDg (fun vs H Q E h => ?_) (fun cdv A outer s H vs Q E hr h => ?_)
  · obtain ⟨x, y, rfl, _⟩ := h
    rfl
  · obtain ⟨x, y, rfl, h⟩ := h
    refine ⟨_, pss_cons (ps_if (PW.pt (pw_or (pt_not (pt_val (pe_call GI (hr.mono (by decide)) rfl I.g I.k I.b .nil pass0 (pa_cons (pv 0) pa_nil))))
          (pw_or1 (pt_cmpR op_lt (pv 0) pe_int (nomark _)))))
        (pss_one (ps_raise rfl (takes_of rfl rfl rfl rfl) (pmk_oex N.T N.iC N.tI GN (hr.mono (by decide)) N.b .nil pass0 rfl N.g (pa_cons pe_str (pa_cons (pv 0) pa_nil))))) pss_nil)
      (pss_cons (ps_expr (pe_call GC hr rfl C.g C.k C.b .nil (passes_call (takes_of rfl rfl rfl rfl) (fun _ _ _ _ h => h)) (pa_cons (pv 1) pa_nil)))
      (pss_cons (ps_set (i := 2) scDg.nd rfl (Or.inl rfl) (pe_lst pa_nil))
      (pss_cons (ps_while (passes_of rfl) (pt_cmpR op_gt (pv 0) pe_int (nomark _))
        (pss_cons (ps_asg (pe_callB call_divmod (by rfl) B.divmod_ (by decide +kernel) (pa_cons (pv 0) (pa_cons (pv 1) pa_nil)))
            (pg_tup (by rfl) (pgs_cons (pg_name (i := 0) scDg.nd rfl (Or.inl rfl)) (pgs_cons (pg_name (i := 3) scDg.nd rfl (Or.inl rfl)) pgs_nil))))
          (pss_one (ps_expr (pe_bm PySem.F.plainAttrs_list PySem.F.slot_list_append PySem.F.type_list_append mt_append (pv 2) (pa_cons (pv 3) pa_nil))))))
      (pss_one (ps_ret (pe_callTy call_tuple_of (by rfl) B.tup_ (by decide +kernel) (pa_cons (pv 2) pa_nil))))))), ?_⟩
    obtain ⟨n, p, rfl, rfl, pr, big, q⟩ | ⟨⟨i, rfl, neg⟩ | bad, q⟩ | ⟨n, rfl, n0, bad, q⟩ := h
    · obtain ⟨p2, p7⟩ := isPr_small pr
      refine ⟨_, rfl, _, rfl, .inl ⟨_, rfl, _, rfl, iteF ⟨_, rfl, _, _, rfl, rfl, _, rfl, ?_⟩⟩⟩
      rw [show decide ((n : Int) < 0) = false from decide_eq_false (by omega)]
      refine iteF ⟨_, rfl, _, rfl, .inl ⟨_, rfl, pr, ?_⟩⟩
      refine ⟨(by show 0 ≤ sizeLine; exact Nat.zero_le _), fun l hl => ?_⟩
      refine while_by (fun σ H2 => ∃ (m : Nat) (acc : List Int) (z : Option V), σ = [some (.int m), some (.int p), some (.ref l), z] ∧ H2 l = some (.lst (acc.map V.int)) ∧
          More H H2 ∧ acc ++ dgs p m = dgs p n) (fun σ _ => match σ with | some (.int m) :: _ => m.toNat | _ => 0)
        ⟨n, [], none, rfl, upd_same, More.new (fun _ _ e => e) hl, rfl⟩ ?_ ?_
      · rintro σ H2 ⟨m, acc, z, rfl, hl2, mo, eq⟩
        refine ⟨_, rfl, _, _, rfl, rfl, _, rfl, ite2 (fun hm => ?_) (fun hm => ?_)⟩
        · have hm : (0 : Int) < m := of_decide_eq_true hm
          have m0 : 0 < m := by omega
          refine ⟨_, rfl, _, rfl, _, _, rfl, ⟨by omega, by omega⟩, fun t ht => ?_⟩
          have lt : l ≠ t := ne_of_none hl2 ht
          have hl3 : (upd H2 t (.tup [.int ((m : Int) / p), .int ((m : Int) % p)])) l = some (.lst (acc.map V.int)) := by rw [upd_ne lt]; exact hl2
          refine ⟨t, _, rfl, SqT.of upd_same, rfl, _, _, rfl, _, _, rfl, rfl, ?_⟩
          have short : acc.length < sizeLine := by
            have e := congrArg List.length eq
            rw [List.length_append] at e
            have := dgs_len (show 2 ≤ p by omega) 400 n big
            exact small1000 (by omega)
          refine ⟨_, rfl, .inl ⟨rfl, _, SqL.of hl3⟩, _, rfl, l, _, _, rfl, rfl, hl3, by rw [List.length_map]; exact short, ?_⟩
          refine ⟨⟨m / p, acc ++ [((m % p : Nat) : Int)], _, rfl, ?_, ?_, ?_⟩, ?_⟩
          · rw [upd_same, List.map_append]
            rfl
          · refine More.at (More.new mo ht) (More.off ?_ hl)
            exact fun b o e => e
          · rw [List.append_assoc, List.singleton_append, ← dgs_pos m0 (by omega)]
            exact eq
          · show ((m / p : Nat) : Int).toNat < (m : Int).toNat
            have := Nat.div_lt_self m0 (show 1 < p by omega)
            omega
        · have hm : ¬ ((0 : Int) < m) := fun z => hm (decide_eq_true z)
          have m0 : m = 0 := by omega
          rw [m0, dgs_zero, List.append_nil] at eq
          rw [eq] at hl2
          refine ⟨_, rfl, l, _, rfl, .inl ⟨SqL.of hl2, fun t ht => ?_⟩⟩
          exact q _ t (More.new mo ht) (More.off mo ht) upd_same
      · rintro σ H2 Q1 Q2 f ⟨v, e, x, y, e1, e2, c, e3, q2⟩
        exact ⟨v, e, x, y, e1, e2, c, e3, f _ _ q2⟩
    · refine ⟨_, rfl, _, rfl, .inl ⟨i, rfl, _, rfl, iteF ⟨_, rfl, _, _, rfl, rfl, _, rfl, ?_⟩⟩⟩
      rw [show decide (i < 0) = true from decide_eq_true neg]
      exact iteT ⟨_, rfl, mk_ini rfl (by show 2 ≤ 900; decide) q⟩
    · exact ⟨_, rfl, _, rfl, .inr ⟨bad, _, rfl, iteT (iteT ⟨_, rfl, mk_ini rfl (by show 2 ≤ 900; decide) q⟩)⟩⟩
    · refine ⟨_, rfl, _, rfl, .inl ⟨n, rfl, _, rfl, iteF ⟨_, rfl, _, _, rfl, rfl, _, rfl, ?_⟩⟩⟩
      rw [show decide (n < 0) = false from decide_eq_false (by omega)]
      exact iteF ⟨_, rfl, _, rfl, .inr ⟨bad, q⟩⟩
end
end K01

namespace K01
open PySem L2 Gd
theorem isI_all : ∀ ds : List Int, (ds.map V.int).all isI = true
  | [] => rfl
  | _ :: r => by
    rw [List.map_cons, List.all_cons, isI_all r]
    rfl
theorem inD_all {p : Int} {ds : List Int} (h : ∀ d ∈ ds, 0 ≤ d ∧ d < p) : (ds.map V.int).all (inD p) = true := by
  rw [List.all_eq_true]
  intro x hx
  obtain ⟨d, hd, rfl⟩ := List.mem_map.mp hx
  exact decide_eq_true (h d hd)
theorem inD_not {p : Int} {ds : List Int} {d : Int} (hd : d ∈ ds) (h : ¬ (0 ≤ d ∧ d < p)) : (ds.map V.int).all (inD p) = false := by
  rw [List.all_eq_false]
  refine ⟨_, List.mem_map.mpr ⟨d, hd, rfl⟩, ?_⟩
  show ¬ decide (0 ≤ d ∧ d < p) = true
  rw [decide_eq_false h]
  exact Bool.false_ne_true
section
variable {P : Program} {w : World} {K : PySem.W.Frag} {mg : Str → Option Value} {base : Heap}
variable {fN CN fR CR fI fC fS f : Addr} {fdN fdR fdI fdC fdS fd : FuncData} {D : Addr}
theorem ok_no (F : Fun K "number_of" "number_of" sNo f fd) (B : Blt mg) (I : Cl K mg "is_integer" sIsI ["value"] fI fdI) (S : Cl K mg "is_integers" sIsIs ["value"] fS fdS) (C : Cl K mg "check_prime" sCP ["p"] fC fdC)
    (N : Er K mg "BadNumber" "BadNumber.__init__" CN fN ["what", "number"] sBadNumber fdN) (R : Er K mg "BadRow" "BadRow.__init__" CR fR ["row"] sBadRow fdR) (gD : mg "PRIMES" = some (.ref D)) (dD : tupI K (.ref D) = some [2, 3, 5, 7]) :
    FnOk P w K mg base (L2.CX P w) 4 f fd ["row", "p"] (spNo K CN CR) := by
  have GS : FnOk P w K mg base CX0 2 fS fdS ["value"] (spIsIs K) := ok_isIs S.fn B I
  have GR : FnOk P w K mg base CX0 1 fR fdR ["self", "row"] (spIni CR ["row"]) := okBadRow R.fn R.T R.no
  have GC : FnOk P w K mg base (L2.CX P w) 3 fC fdC ["p"] (spCP K CN) := ok_cp C.fn B I N gD dD
  refine F.okX scNo (fun vs H Q E h => ?_) (fun cdv A outer s H vs Q E hr h => ?_)
  · obtain ⟨x, y, rfl, _⟩ := h
    rfl
  · obtain ⟨x, y, rfl, h⟩ := h
    refine ⟨_, pss_cons (ps_expr (pe_call GC hr rfl C.g C.k C.b .nil (passes_call (takes_of rfl rfl rfl rfl) (fun _ _ _ _ h => h)) (pa_cons (pv 1) pa_nil)))
      (pss_cons (ps_if (PW.pt (pw_or (pt_not (pt_val (pe_call GS (hr.mono (by decide)) rfl S.g S.k S.b .nil pass0 (pa_cons (pv 0) pa_nil))))
          (pw_or1 (pt_not (pt_val (pe_callB (cr_all rfl) (by rfl) B.all_ (by decide +kernel) (pa_cons (pe_lc (own := [("digit", 3)]) (g := gName 3) (tt := tYes) rfl scNo.nd (pi_or (pi_list (pv 0)) (pi_tup (pv 0)))
            (blkOk_by (N := ["row", "p", "number", "digit"]) (sc := defScope sNo) (by decide +kernel))
            (fun _ _ _ _ _ => pg_name (i := 3) scNo.nd rfl (Or.inl rfl)) (fun _ _ _ _ _ => pts_nil)
            (fun _ _ _ _ _ => pe_chain op_le op_lt pe_int (pv 3) (pv 1))) pa_nil)))))))
        (pss_one (ps_raise rfl (takes_of rfl rfl rfl rfl) (pmk_oex R.T R.iC R.tI GR (hr.mono (by decide)) R.b .nil pass0 rfl R.g (pa_cons (pv 0) pa_nil)))) pss_nil)
      (pss_cons (ps_set (i := 2) scNo.nd rfl (Or.inl rfl) pe_int)
      (pss_cons (ps_for (passes_of rfl) rfl (RT.pi_revA rfl B.rev_ (pv 0)) (pg_name (i := 3) scNo.nd rfl (Or.inl rfl))
        (pss_one (ps_set (i := 2) scNo.nd rfl (Or.inl rfl) (pe_op op_add (pe_op op_mul (pv 2) (pv 1)) (pv 3)))))
      (pss_one (ps_ret (pv 2)))))), ?_⟩
    obtain ⟨bad, q⟩ | ⟨p, rfl, pr, h⟩ := h
    · exact ⟨_, rfl, _, rfl, .inr ⟨bad, q⟩⟩
    obtain ⟨p2, p7⟩ := isPr_small pr
    refine ⟨_, rfl, _, rfl, .inl ⟨_, rfl, pr, ?_⟩⟩
    -- the test over all digits
    have comp : ∀ (a : Addr) (xs : List V) (H1 : Hp) (Z : Addr → Hp → Prop), xs.length ≤ 1000 → (∀ y ∈ xs, ∃ i, y = .int i) →
        (∀ L H2, H2 L = some (.lst (xs.map fun y => V.bl (inD p y))) → More H1 H2 → Z L H2) →
        ∀ (J : It) (G : Hp → Prop), Walk J xs.length G (YAt xs) → (∀ H', More H1 H' → G H') → ∀ L, H1 L = none → _ :=
      fun a xs H1 Z few all q J G wk hG L hL => lc_it (w := wk) (vs := [3]) (g := gName 3) (tt := tYes) (σ := [some (.ref a), some (.int p), none, none]) (D := L) (H1 := H1)
        (te := tChain (rI0 fun i j => .bl (decide (i ≤ j))) (rI0 fun i j => .bl (decide (i < j))) (fun _ H Q => Q (.int 0) H) (tVar 3) (tVar 1))
        (Qd := Z L)
        (fun i H' => H' L = some (.lst ((xs.take i).map fun y => V.bl (inD p y))) ∧ More H1 H') ⟨upd_same, More.new (fun _ _ e => e) hL⟩ (fun i H' _ h => hG H' h.2)
        (fun i y H2 H3 hi ⟨e1, m2⟩ ⟨eH, hy⟩ => by
          subst eH
          have la : ((xs.take i).map fun y => V.bl (inD p y)).length < sizeLine := by
            rw [List.length_map, List.length_take]
            exact small1000 (by omega)
          have fin : ∀ b, inD p y = b → ∃ acc, H3 L = some (.lst acc) ∧ acc.length < sizeLine ∧ (upd H3 L (.lst (acc ++ [V.bl b]))) L = some (.lst ((xs.take (i + 1)).map fun y => V.bl (inD p y))) ∧ More H1 (upd H3 L (.lst (acc ++ [V.bl b]))) := by
            intro b hb
            refine ⟨_, e1, la, ?_, m2.at hL⟩
            rw [upd_same, take_snoc hy, List.map_append, List.map_cons, List.map_nil, hb]
          obtain ⟨z, rfl⟩ := all y (List.mem_of_getElem? hy)
          refine ⟨rfl, _, rfl, _, _, rfl, rfl, _, rfl, ite2 (fun h => ⟨_, rfl, _, _, rfl, rfl, fin _ ?_⟩) (fun h => fin _ ?_)⟩
          · have h := of_decide_eq_true h
            show decide (0 ≤ z ∧ z < p) = decide (z < p)
            rw [decide_eq_decide]
            exact ⟨fun q => q.2, fun q => ⟨h, q⟩⟩
          · show decide (0 ≤ z ∧ z < p) = false
            exact decide_eq_false fun q => h (decide_eq_true q.1))
        (fun H' ⟨e1, m2⟩ => by
          rw [List.take_length] at e1
          exact q L H' e1 m2)
    have allInt : ∀ ds : List Int, ∀ y ∈ ds.map V.int, ∃ i, y = V.int i := fun ds y hy => let ⟨i, _, e⟩ := List.mem_map.mp hy; ⟨i, e.symm⟩
    have len : ∀ ds : List Int, ds.length ≤ 1000 → (ds.map V.int).length ≤ 1000 := fun ds h => by rw [List.length_map]; exact h
    obtain ⟨a, ds, rfl, sq, few, ok, q⟩ | ⟨⟨n, hn, ty⟩ | ⟨a, xs, rfl, sq, few, all, no⟩ | ⟨a, ds, rfl, sq, few, d, hd, nd⟩, q⟩ := h
    · refine ⟨_, rfl, _, rfl, .inr ⟨a, ds.map V.int, rfl, sq, len _ few, fun y hy => .inl (allInt ds y hy), fun H1 m1 => ⟨_, rfl, ?_⟩⟩⟩
      rw [isI_all]
      refine iteF ?_
      have sq1 := Sq.more m1 sq
      have turn : ∀ (i : Nat) (y : V) (σ : L2.St) (H : Hp), i < (ds.map V.int).length → (ds.map V.int)[(ds.map V.int).length - 1 - i]? = some y →
          ∀ t : Int, t = val p (ds.drop (ds.length - i)) → ∃ d, y = V.int d ∧ t * p + d = val p (ds.drop (ds.length - (i + 1))) := by
        intro i y σ H hi hy t ht
        rw [List.length_map] at hi hy
        rw [List.getElem?_map] at hy
        cases e : ds[ds.length - 1 - i]? with
        | none =>
          rw [e] at hy
          cases hy
        | some d =>
          rw [e] at hy
          refine ⟨d, (Option.some.inj hy).symm, ?_⟩
          have v := val_drop (p := p) e
          rw [show ds.length - (i + 1) = ds.length - 1 - i by omega, v, ht, show ds.length - 1 - i + 1 = ds.length - i by omega]
      have start : (0 : Int) = val p (ds.drop (ds.length - 0)) := by
        rw [Nat.sub_zero, List.drop_length]
        rfl
      have last : ∀ t, t = val p (ds.drop (ds.length - (ds.map V.int).length)) → t = val p ds := by
        intro t ht
        rw [List.length_map, Nat.sub_self, List.drop_zero] at ht
        exact ht
      obtain h | h := sq1
      · refine .inl ⟨_, rfl, a, rfl, ⟨_, h⟩, comp a _ H1 _ (len _ few) (allInt ds) (fun L H2 e2 m2 => ?_) _ _ walk_list fun H' m => Same.seq m h⟩
        refine ⟨L, (ds.map V.int).map (inD p), rfl, SqL.of (by rw [List.map_map]; exact e2), _, rfl, ?_⟩
        rw [List.all_map, show (id ∘ inD p) = inD p from rfl, inD_all ok]
        refine iteF ?_
        have h2 := Same.seq m2 h
        refine ⟨_, rfl, a, _, rfl, .inl ⟨h2, RT.for_Itv (fun i σ H => ∃ (t : Int) (z : Option V), σ = [some (.ref a), some (.int p), some (.int t), z] ∧ t = val p (ds.drop (ds.length - i)) ∧ H = H2)
          ⟨0, none, rfl, start, rfl⟩ (fun i σ H ⟨_, _, _, _, e⟩ => e ▸ h2) ?_ ?_⟩⟩
        · rintro i y σ H hi hy ⟨t, z, rfl, ht, rfl⟩
          obtain ⟨d, rfl, e⟩ := turn i y [] H hi hy t ht
          exact ⟨_, rfl, _, rfl, _, _, rfl, rfl, .inr ⟨by omega, by omega⟩, _, rfl, _, _, rfl, rfl, _, _, rfl, e, rfl⟩
        · rintro σ H ⟨t, z, rfl, ht, rfl⟩
          rw [last t ht]
          exact ⟨_, rfl, q _ fun b o e => m2 b o (m1 b o e)⟩
      · refine .inr ⟨_, rfl, a, rfl, ⟨_, h⟩, comp a _ H1 _ (len _ few) (allInt ds) (fun L H2 e2 m2 => ?_) _ _ walk_tup fun H' m => sqT_more m h⟩
        refine ⟨L, (ds.map V.int).map (inD p), rfl, SqL.of (by rw [List.map_map]; exact e2), _, rfl, ?_⟩
        rw [List.all_map, show (id ∘ inD p) = inD p from rfl, inD_all ok]
        refine iteF ?_
        have h2 := sqT_more m2 h
        refine ⟨_, rfl, a, _, rfl, .inr ⟨h2, RT.for_ItvT (fun i σ H => ∃ (t : Int) (z : Option V), σ = [some (.ref a), some (.int p), some (.int t), z] ∧ t = val p (ds.drop (ds.length - i)) ∧ H = H2)
          ⟨0, none, rfl, start, rfl⟩ (fun i σ H ⟨_, _, _, _, e⟩ => e ▸ h2) ?_ ?_⟩⟩
        · rintro i y σ H hi hy ⟨t, z, rfl, ht, rfl⟩
          obtain ⟨d, rfl, e⟩ := turn i y [] H hi hy t ht
          exact ⟨_, rfl, _, rfl, _, _, rfl, rfl, .inr ⟨by omega, by omega⟩, _, rfl, _, _, rfl, rfl, _, _, rfl, e, rfl⟩
        · rintro σ H ⟨t, z, rfl, ht, rfl⟩
          rw [last t ht]
          exact ⟨_, rfl, q _ fun b o e => m2 b o (m1 b o e)⟩
    · refine ⟨_, rfl, _, rfl, .inl ⟨n, hn, ty, fun H1 m1 => ⟨_, rfl, iteT (iteT ?_)⟩⟩⟩
      exact ⟨_, rfl, mk_ini rfl (by show 1 ≤ 900; decide) (q H1 m1)⟩
    · refine ⟨_, rfl, _, rfl, .inr ⟨a, xs, rfl, sq, few, all, fun H1 m1 => ⟨_, rfl, ?_⟩⟩⟩
      rw [no]
      exact iteT (iteT ⟨_, rfl, mk_ini rfl (by show 1 ≤ 900; decide) (q H1 m1)⟩)
    · refine ⟨_, rfl, _, rfl, .inr ⟨a, ds.map V.int, rfl, sq, len _ few, fun y hy => .inl (allInt ds y hy), fun H1 m1 => ⟨_, rfl, ?_⟩⟩⟩
      rw [isI_all]
      refine iteF ?_
      have sq1 := Sq.more m1 sq
      obtain h | h := sq1
      · refine .inl ⟨_, rfl, a, rfl, ⟨_, h⟩, comp a _ H1 _ (len _ few) (allInt ds) (fun L H2 e2 m2 => ?_) _ _ walk_list fun H' m => Same.seq m h⟩
        refine ⟨L, (ds.map V.int).map (inD p), rfl, SqL.of (by rw [List.map_map]; exact e2), _, rfl, ?_⟩
        rw [List.all_map, show (id ∘ inD p) = inD p from rfl, inD_not hd nd]
        exact iteT ⟨_, rfl, mk_ini rfl (by show 1 ≤ 900; decide) (q H2 fun b o e => m2 b o (m1 b o e))⟩
      · refine .inr ⟨_, rfl, a, rfl, ⟨_, h⟩, comp a _ H1 _ (len _ few) (allInt ds) (fun L H2 e2 m2 => ?_) _ _ walk_tup fun H' m => sqT_more m h⟩
        refine ⟨L, (ds.map V.int).map (inD p), rfl, SqL.of (by rw [List.map_map]; exact e2), _, rfl, ?_⟩
        rw [List.all_map, show (id ∘ inD p) = inD p from rfl, inD_not hd nd]
        exact iteT ⟨_, rfl, mk_ini rfl (by show 1 ≤ 900; decide) (q H2 fun b o e => m2 b o (m1 b o e))⟩
end
end K01

namespace K01
open PySem L2 Gd
/-! ### the law's helpers -/
def spLd : Sp := fun vs H Q _ => ∃ n p : Nat, vs = [.int n, .int p] ∧ isPr p = true ∧ n < 2 ^ 400 ∧
  ∀ H' l, More H H' → H l = none → H' l = some (.lst ((dgs p n).map V.int)) → Q (.ref l) H'
def spRa : Sp := fun vs H Q _ => ∃ b m : Nat, vs = [.int b, .int m] ∧ b ≤ 7 ∧ m ≤ 41 ∧ Q (.int ((b ^ m : Nat) : Int)) H
/-- what repr asks of a value -/
structure Shows (K : PySem.W.Frag) (H : Hp) (x : V) (d : PyData) : Prop where
  dq : Dq K H x d
  sh : d.showable = true
  dp : d.depth ≤ 60
  ln : d.shown.length ≤ sizeLine
def EWhy (K : PySem.W.Frag) (CN CR : Addr) (Q : VK) : XK := fun cls d H =>
  (cls = .ref CN ∧ ∃ (dd : Addr) (what : Str) (x : V) (dx : PyData), d = some dd ∧ H dd = some (.xd [("number", x), ("what", .str what)]) ∧ Shows K H x dx ∧
    ∀ t, H t = none → Q (.ref t) (upd H t (.tup [.str "number", .str what, .str dx.shown]))) ∨
  (cls = .ref CR ∧ ∃ (dd : Addr) (x : V) (dx : PyData), d = some dd ∧ H dd = some (.xd [("row", x)]) ∧ Shows K H x dx ∧
    ∀ t, H t = none → Q (.ref t) (upd H t (.tup [.str "row", .str dx.shown])))
def TWhy (K : PySem.W.Frag) (CN CR : Addr) : (XK → Hp → VK → Prop) → Hp → VK → Prop := fun tl H Q => tl (EWhy K CN CR Q) H fun _ H' => Q .non H'
/-- what the clauses and the fields ask of the two classes -/
structure Cau (K : PySem.W.Frag) (CN CR : Addr) : Prop where
  nn : PySem.W.exmOne K (.ref CN) (.ref CN) = some true
  rn : PySem.W.exmOne K (.ref CR) (.ref CN) = some false
  rr : PySem.W.exmOne K (.ref CR) (.ref CR) = some true
  xn : XfC K CN
  xr : XfC K CR
section
variable {P : Program} {w : World} {K : PySem.W.Frag} {mg : Str → Option Value} {base : Heap}
abbrev sIw : Stmt := top 18
abbrev sLd : Stmt := top 20
abbrev sRa : Stmt := top 21
abbrev sWhy : Stmt := top 22
theorem scIw : FnScope ["_law_value"] ["_law_value"] (defScope sIw) := ⟨rfl, rfl, rfl, by decide +kernel, rfl, by decide +kernel, by decide +kernel⟩
theorem scLd : FnScope ["_law_n", "_law_p", "_law_found", "_law_lap"] ["_law_n", "_law_p"] (defScope sLd) := ⟨rfl, rfl, rfl, by decide +kernel, rfl, by decide +kernel, by decide +kernel⟩
theorem scRa : FnScope ["_law_base", "_law_many", "_law_found", "_law_lap"] ["_law_base", "_law_many"] (defScope sRa) := ⟨rfl, rfl, rfl, by decide +kernel, rfl, by decide +kernel, by decide +kernel⟩
theorem scWhy : FnScope ["_law_call", "e"] ["_law_call"] (defScope sWhy) := ⟨rfl, rfl, rfl, by decide +kernel, rfl, by decide +kernel, by decide +kernel⟩
variable {f : Addr} {fd : FuncData}
theorem ok_iw (F : Fun K "_law_is_whole" "_law_is_whole" sIw f fd) (B : Blt mg) : FnOk P w K mg base CX0 1 f fd ["_law_value"] (spIsI K) := by
  refine F.ok scIw (fun vs H Q E h => ?_) (fun cdv A outer s H vs Q E hr h => ?_)
  · obtain ⟨x, rfl, _⟩ := h
    rfl
  · obtain ⟨x, rfl, h⟩ := h
    refine ⟨_, pss_one (ps_ret (pe_and (pe_callB call_isi (by rfl) B.isi_ (by decide +kernel) (pa_cons (pv 0) (pa_cons (pe_bltn (v := .ty "int") rfl B.int_ (by decide +kernel) rfl) pa_nil)))
      (pe_one (pe_not (pe_callB call_isi (by rfl) B.isi_ (by decide +kernel) (pa_cons (pv 0) (pa_cons (pe_bltn (v := .ty "bool") rfl B.bool_ (by decide +kernel) rfl) pa_nil))))))), ?_⟩
    obtain ⟨i, rfl, q⟩ | ⟨⟨n, hn, t⟩, q⟩ := h
    · refine ⟨_, rfl, _, _, _, _, _, rfl, .ty "int", .base (.int i), kit_ty on_int.1, _, rfl, iteT ?_⟩
      exact ⟨_, rfl, _, _, _, _, _, rfl, .ty "bool", .base (.int i), kit_ty on_int.2, _, rfl, q⟩
    · obtain ⟨k1, k2⟩ := off_int n hn
      refine ⟨_, rfl, _, _, _, _, _, rfl, .ty "int", t, kit_ty k1, _, rfl, ite2 (fun z => ?_) (fun z => q)⟩
      refine ⟨_, rfl, _, _, _, _, _, rfl, .ty "bool", t, kit_ty k2, _, rfl, ?_⟩
      rw [z]
      exact q
theorem ok_ld (F : Fun K "_law_digits" "_law_digits" sLd f fd) (B : Blt mg) : FnOk P w K mg base CX0 1 f fd ["_law_n", "_law_p"] spLd := by
  refine F.ok scLd (fun vs H Q E h => ?_) (fun cdv A outer s H vs Q E hr h => ?_)
  · obtain ⟨n, p, rfl, _⟩ := h
    rfl
  · obtain ⟨n, p, rfl, pr, big, q⟩ := h
    obtain ⟨p2, p7⟩ := isPr_small pr
    refine ⟨_, pss_cons (ps_set (i := 2) scLd.nd rfl (Or.inl rfl) (pe_lst pa_nil))
      (pss_cons (ps_for PassesOwn.never rfl (pi_range1 rfl B.range_ (pa_cons pe_int pa_nil)) (pg_name (i := 3) scLd.nd rfl (Or.inl rfl))
        (pss_cons (ps_if (pt_cmpR op_eq (pv 0) pe_int (nomark _)) (pss_one ps_break) pss_nil)
        (pss_cons (ps_expr (pe_bm PySem.F.plainAttrs_list PySem.F.slot_list_append PySem.F.type_list_append mt_append (pv 2)
            (pa_cons (pe_op op_mod (pe_callTy call_int1 (by rfl) B.int_ (by decide +kernel) (pa_cons (pv 0) pa_nil)) (pv 1)) pa_nil)))
        (pss_one (ps_set (i := 0) scLd.nd rfl (Or.inl rfl) (pe_op op_fdiv (pv 0) (pv 1)))))))
      (pss_one (ps_ret (pv 2)))), ?_⟩
    refine ⟨(by show 0 ≤ sizeLine; exact Nat.zero_le _), fun l hl => ?_⟩
    have stop : ∀ (m : Nat) (acc : List Int) (z : Option V) (H2 : Hp), m = 0 → H2 l = some (.lst (acc.map V.int)) → More H H2 → acc ++ dgs p m = dgs p n → Q (.ref l) H2 := by
      intro m acc z H2 m0 hl2 mo eq
      rw [m0, dgs_zero, List.append_nil] at eq
      rw [eq] at hl2
      exact q _ l mo hl hl2
    refine ⟨400, rfl, by decide, by decide, for_range (lo := 0) (n := 400) (fun i σ H2 => ∃ (m : Nat) (acc : List Int) (z : Option V), σ = [some (.int m), some (.int p), some (.ref l), z] ∧ H2 l = some (.lst (acc.map V.int)) ∧
          More H H2 ∧ acc ++ dgs p m = dgs p n ∧ m < 2 ^ (400 - i)) ⟨n, [], none, rfl, upd_same, More.new (fun _ _ e => e) hl, rfl, big⟩ ?_ ?_⟩
    · rintro i σ H2 hi ⟨m, acc, z, rfl, hl2, mo, eq, lim⟩
      refine ⟨_, rfl, rfl, _, rfl, ite2 (fun hm => ?_) (fun hm => ?_)⟩
      · have m0 : (V.int m) = V.int 0 := of_decide_eq_true hm
        have m0 : m = 0 := by
          have := V.int.inj m0
          omega
        exact ⟨_, rfl, stop m acc none H2 m0 hl2 mo eq⟩
      · have m0 : 0 < m := by
          rcases Nat.eq_zero_or_pos m with z | z
          · subst z
            exact (hm (decide_eq_true rfl)).elim
          · exact z
        have short : acc.length < sizeLine := by
          have e := congrArg List.length eq
          rw [List.length_append] at e
          have := dgs_len (show 2 ≤ p by omega) 400 n big
          exact small1000 (by omega)
        refine ⟨_, rfl, .inl ⟨rfl, _, SqL.of hl2⟩, _, rfl, .inl ⟨_, rfl, _, rfl, _, _, rfl, rfl, (by show (0 : Int) < p; omega), l, _, _, rfl, rfl, hl2, by rw [List.length_map]; exact short, ?_⟩⟩
        refine ⟨_, rfl, _, rfl, _, _, rfl, rfl, ⟨by omega, by omega⟩, ?_⟩
        refine ⟨m / p, acc ++ [((m % p : Nat) : Int)], _, rfl, ?_, ?_, ?_, ?_⟩
        · rw [upd_same, List.map_append]
          rfl
        · exact More.at mo hl
        · rw [List.append_assoc, List.singleton_append, ← dgs_pos m0 (by omega)]
          exact eq
        · have e : 400 - i = (400 - (i + 1)) + 1 := by omega
          rw [e, Nat.pow_succ] at lim
          refine Nat.lt_of_le_of_lt (Nat.div_le_div_left (show 2 ≤ p by omega) (by decide)) ?_
          omega
    · rintro σ H2 ⟨m, acc, z, rfl, hl2, mo, eq, lim⟩
      exact ⟨_, rfl, stop m acc none H2 (by simpa using lim) hl2 mo eq⟩
theorem ok_ra (F : Fun K "_law_raised" "_law_raised" sRa f fd) (B : Blt mg) : FnOk P w K mg base CX0 1 f fd ["_law_base", "_law_many"] spRa := by
  refine F.ok scRa (fun vs H Q E h => ?_) (fun cdv A outer s H vs Q E hr h => ?_)
  · obtain ⟨b, m, rfl, _⟩ := h
    rfl
  · obtain ⟨b, m, rfl, b7, m41, q⟩ := h
    refine ⟨_, pss_cons (ps_set (i := 2) scRa.nd rfl (Or.inl rfl) pe_int)
      (pss_cons (ps_for PassesOwn.never rfl (pi_range1 rfl B.range_ (pa_cons (pv 1) pa_nil)) (pg_name (i := 3) scRa.nd rfl (Or.inl rfl))
        (pss_one (ps_set (i := 2) scRa.nd rfl (Or.inl rfl) (pe_op op_mul (pv 2) (pv 0)))))
      (pss_one (ps_ret (pv 2)))), ?_⟩
    refine ⟨_, rfl, m, rfl, by omega, by omega, for_range (lo := 0) (n := (m : Int).toNat) (fun i σ H2 => ∃ z : Option V, σ = [some (.int b), some (.int m), some (.int ((b ^ i : Nat) : Int)), z] ∧ H2 = H) ⟨none, rfl, rfl⟩ ?_ ?_⟩
    · rintro i σ H2 hi ⟨z, rfl, rfl⟩
      refine ⟨_, rfl, _, rfl, _, _, rfl, rfl, .inr ⟨by omega, by omega⟩, some (V.int (0 + (i : Int))), ?_, rfl⟩
      rw [Nat.pow_succ]
      rfl
    · rintro σ H2 ⟨z, rfl, rfl⟩
      exact ⟨_, rfl, q⟩
open LamX in
theorem why_gives {X : Cx} {k : Nat} {g : Addr} {cdg : Value} {q : Str} {CN CR : Addr} (hgd : X.A.guards = some []) (hr : Room (k + 2) X.A) (T : Cau X.K CN CR)
    (gN : X.mg "BadNumber" = some (.ref CN)) (gR : X.mg "BadRow" = some (.ref CR)) (mR : X.mg "repr" = none)
    (nW : PySem.W.findIn X.K (.ref CN) "what" = some none) (nN : PySem.W.findIn X.K (.ref CN) "number" = some none) (nR : PySem.W.findIn X.K (.ref CR) "row" = some none) :
    GivesTo X ["_law_call", "e"] "_law_why" (defScope sWhy) g cdg (defBody sWhy) "_law_call" q (TWhy X.K CN CR) := by
  intro f c' s H Q tl act hc h
  have hr1 : Room (k + 1) (X.A.deeper (PyProof.Rows.envOfC "_law_why" (defScope sWhy) s.heap.objs.size g cdg)) := hr.deeper _
  have hu64 := hr1.units
  have rp : ∀ (a : Addr) (pn : List (Addr × Obj)), CallR (Cx.suite (cxOf C8.CX0 X.prog X.w X.K X.mg X.base ["_law_call", "e"] "_law_why" (defScope sWhy) g cdg X.A X.stack s H C8.E0).nox a pn) (.builtin "repr") (rReprQ X.K) :=
    fun a pn => call_reprQ (X := Cx.suite (cxOf C8.CX0 X.prog X.w X.K X.mg X.base ["_law_call", "e"] "_law_why" (defScope sWhy) g cdg X.A X.stack s H C8.E0).nox a pn) hgd hu64
  refine ⟨_, pss_cons (ps_tryAll (X := (cxOf C8.CX0 X.prog X.w X.K X.mg X.base ["_law_call", "e"] "_law_why" (defScope sWhy) g cdg X.A X.stack s H C8.E0).nox) (n := "e") (i := 1)
      (tb := fun W D σ H => ∃ Ech : XK, (∀ cls d σ' H', Ech cls d H' → W cls d σ' H') ∧ σ[0]? = some (some (.ref f)) ∧ H c' = some (CodeO c' q) ∧ tl Ech H (fun _ H' => D.nx σ H'))
      rfl rfl scWhy.nd rfl rfl LamX.takes0 (fun W pn xe tk _ => ?_)
      (.cons (c := .ref CN) ⟨rfl, by decide, .inl gN⟩ (fun a oe cls d pn hz hf => pss_one (ps_ret (pe_tup (pa_cons pe_str (pa_cons (pe_xf T.xn nW hz hf (pv 1))
          (pa_cons (pe_callB (rp _ _) (by rfl) mR (by decide +kernel) (pa_cons (pe_xf T.xn nN hz hf (pv 1)) pa_nil)) pa_nil))))))
        (.cons (c := .ref CR) ⟨rfl, by decide, .inl gR⟩ (fun a oe cls d pn hz hf => pss_one (ps_ret (pe_tup (pa_cons pe_str
          (pa_cons (pe_callB (rp _ _) (by rfl) mR (by decide +kernel) (pa_cons (pe_xf T.xr nR hz hf (pv 1)) pa_nil)) pa_nil))))) .nil)))
    (pss_one (ps_ret pe_non)), ?_⟩
  · refine ⟨fun pins s' σ H' D I h' => ?_⟩
    obtain ⟨Ech, hW, h1, h2, h3⟩ := h'
    exact (pss_one (ps_expr (act W pn xe Ech _ _ tk hW))).run pins s' σ H' D I ⟨h1, h2, h3⟩
  · refine ⟨EWhy X.K CN CR Q, fun cls d σ' H' e => ?_, rfl, hc, h⟩
    obtain ⟨rfl, dd, what, x, dx, rfl, hd, sw, q1⟩ | ⟨rfl, dd, x, dx, rfl, hd, sw, q1⟩ := e
    · refine ⟨true, T.nn, fun _ hl a na => ?_, fun z => nomatch z⟩
      have at1 : (σ'.set 1 (some (V.ref a)))[1]? = some (some (V.ref a)) := List.getElem?_set_self (by rw [hl]; show 1 < 2; decide)
      refine ⟨_, at1, rfl, rfl, dd, _, _, rfl, hd, rfl, _, at1, rfl, rfl, dd, _, _, rfl, hd, rfl, x, dx, rfl, sw.dq, sw.sh, sw.dp, sw.ln, (by show 3 ≤ sizeLine; decide), fun t ht => q1 t ht⟩
    · refine ⟨false, T.rn, (fun z => nomatch z), fun _ => ⟨true, T.rr, fun _ hl a na => ?_, fun z => nomatch z⟩⟩
      have at1 : (σ'.set 1 (some (V.ref a)))[1]? = some (some (V.ref a)) := List.getElem?_set_self (by rw [hl]; show 1 < 2; decide)
      refine ⟨_, at1, rfl, rfl, dd, _, _, rfl, hd, rfl, x, dx, rfl, sw.dq, sw.sh, sw.dp, sw.ln, (by show 2 ≤ sizeLine; decide), fun t ht => q1 t ht⟩
end
end K01

namespace K01
open PySem L2 Gd
/-! ### data -/
theorem same_seqT {K : PySem.W.Frag} {H H' : Hp} {a : Addr} {xs : List V} (e : Same H H') (h : SqT K H a xs) : SqT K H' a xs := by
  rcases h with (h | ⟨o, h⟩) | h
  · exact .inl (.inl (e _ _ h))
  · exact .inl (.inr ⟨o, e _ _ h⟩)
  · exact .inr h
mutual
theorem Dq.mono {K : PySem.W.Frag} {H H' : Hp} (s : Same H H') : ∀ (d : PyData) (v : V), Dq K H v d → Dq K H' v d
  | .none, _, h => by cases h; exact .non
  | .bool _, _, h => by cases h; exact .bl _
  | .int _, _, h => by cases h; exact .int _
  | .str _, _, h => by cases h; exact .str _
  | .list ds, _, h => by
    cases h with
    | lst a b => exact .lst (s.seq a) (DqAll.mono s ds _ b)
  | .tuple ds, _, h => by
    cases h with
    | tup a b => exact .tup (same_seqT s a) (DqAll.mono s ds _ b)
  | .dict ds, _, h => by
    cases h with
    | dct a b =>
      refine .dct ?_ (DqKv.mono s ds _ b)
      rcases a with a | ⟨o, a⟩
      · exact .inl (s _ _ a)
      · exact .inr ⟨o, s _ _ a⟩
theorem DqAll.mono {K : PySem.W.Frag} {H H' : Hp} (s : Same H H') : ∀ (ds : List PyData) (vs : List V), DqAll K H vs ds → DqAll K H' vs ds
  | [], _, h => by cases h; exact .nil
  | d :: ds, _, h => by
    cases h with
    | cons a b => exact .cons (Dq.mono s d _ a) (DqAll.mono s ds _ b)
theorem DqKv.mono {K : PySem.W.Frag} {H H' : Hp} (s : Same H H') : ∀ (ds : List (PyData × PyData)) (vs : List (Key × V)), DqKv K H vs ds → DqKv K H' vs ds
  | [], _, h => by cases h; exact .nil
  | (_, d) :: ds, _, h => by
    cases h with
    | cons a b => exact .cons (Dq.mono s d _ a) (DqKv.mono s ds _ b)
end
/-- data that a repr shows in a short text -/
structure Sz (d : PyData) : Prop where
  show_ : d.showable = true
  deep : d.depth ≤ 3
  leaves : d.leavesShort 2000 = true
  bulk : d.bulk ≤ 100
theorem big_log {i : Int} (h : i.natAbs < 10 ^ 60) : i.natAbs.log2 < 1920 := by
  by_cases z : i.natAbs = 0
  · rw [z]; decide
  · have : i.natAbs < 2 ^ 1920 := Nat.lt_trans h (by decide +kernel)
    exact (Nat.log2_lt z).mpr this
theorem int_short {i : Int} (h : i.natAbs < 10 ^ 60) : (PyData.shown (.int i)).length ≤ 2000 := by
  have := PyProof.Rows.int_text_len_1921 (big_log h)
  simp only [PyData.shown]
  exact Nat.le_trans this (by decide)
theorem Sz.int {i : Int} (h : i.natAbs < 10 ^ 60) : Sz (.int i) where
  show_ := by simp only [PyData.showable]; exact decide_eq_true (big_log h)
  deep := by simp only [PyData.depth]; omega
  leaves := by simp only [PyData.leavesShort]; exact decide_eq_true (int_short h)
  bulk := by simp only [PyData.bulk]; omega

theorem Shows.of {K : PySem.W.Frag} {H : Hp} {x : V} {d : PyData} (dq : Dq K H x d) (z : Sz d) : Shows K H x d where
  dq := dq
  sh := z.show_
  dp := Nat.le_trans z.deep (by decide)
  ln := by
    have h := PyData.shown_le_bulk 2000 (by decide) d z.leaves
    have : (2000 + 2) * d.bulk ≤ (2000 + 2) * 100 := Nat.mul_le_mul_left _ z.bulk
    rw [sizeLine_eq]
    omega
theorem Shows.more {K : PySem.W.Frag} {H H' : Hp} {x : V} {d : PyData} (s : Same H H') (h : Shows K H x d) : Shows K H' x d := ⟨K01.Dq.mono s _ _ h.dq, h.sh, h.dp, h.ln⟩
theorem Dq.mono' {K : PySem.W.Frag} {H H' : Hp} {d : PyData} {v : V} (s : Same H H') (h : Dq K H v d) : Dq K H' v d := Dq.mono s d v h
/-- a tuple or list of one or two data -/
theorem Sz.two {a b : PyData} (ha : Sz a) (hb : Sz b) (da : a.depth ≤ 1) (db : b.depth ≤ 2) (ka : a.bulk ≤ 20) (kb : b.bulk ≤ 20) : Sz (.tuple [a, b]) ∧ Sz (.list [a, b]) := by
  have := ha.show_
  have := hb.show_
  have := ha.leaves
  have := hb.leaves
  refine ⟨⟨?_, ?_, ?_, ?_⟩, ⟨?_, ?_, ?_, ?_⟩⟩ <;> simp_all only [PyData.showable, PyData.showableAll, PyData.depth, PyData.depthAll, PyData.leavesShort, PyData.leavesShortAll, PyData.bulk, PyData.bulkAll, Bool.and_self] <;> omega
theorem Sz.one {a : PyData} (ha : Sz a) (da : a.depth ≤ 1) (ka : a.bulk ≤ 20) : Sz (.tuple [a]) ∧ Sz (.list [a]) := by
  have := ha.show_
  have := ha.leaves
  refine ⟨⟨?_, ?_, ?_, ?_⟩, ⟨?_, ?_, ?_, ?_⟩⟩ <;> simp_all only [PyData.showable, PyData.showableAll, PyData.depth, PyData.depthAll, PyData.leavesShort, PyData.leavesShortAll, PyData.bulk, PyData.bulkAll, Bool.and_self] <;> omega
theorem sz_ints : ∀ {l : List Int}, (∀ i ∈ l, 0 ≤ i ∧ i < 7) → l.length ≤ 400 → (PyData.tuple (l.map PyData.int)).showable = true ∧ (PyData.tuple (l.map PyData.int)).depth ≤ 60 ∧ (PyData.tuple (l.map PyData.int)).shown.length ≤ sizeLine := by
  intro l hl few
  have all : ∀ r : List Int, (∀ i ∈ r, 0 ≤ i ∧ i < 7) → PyData.showableAll (r.map PyData.int) = true ∧ PyData.depthAll (r.map PyData.int) ≤ 1 ∧ PyData.leavesShortAll 2000 (r.map PyData.int) = true ∧ PyData.bulkAll (r.map PyData.int) ≤ 5 * r.length := by
    intro r
    induction r with
    | nil => intro _; simp [PyData.showableAll, PyData.depthAll, PyData.leavesShortAll, PyData.bulkAll]
    | cons i r ih =>
      intro hh
      obtain ⟨a1, a2, a3, a4⟩ := ih fun j hj => hh j (.tail _ hj)
      have hi := hh i (.head _)
      have s : Sz (.int i) := Sz.int (by omega)
      refine ⟨?_, ?_, ?_, ?_⟩
      · simp only [List.map_cons, PyData.showableAll, s.show_, a1, Bool.and_self]
      · simp only [List.map_cons, PyData.depthAll, PyData.depth]
        omega
      · simp only [List.map_cons, PyData.leavesShortAll, s.leaves, a3, Bool.and_self]
      · simp only [List.map_cons, PyData.bulkAll, PyData.bulk, List.length_cons]
        omega
  obtain ⟨a1, a2, a3, a4⟩ := all l hl
  refine ⟨by simp only [PyData.showable]; exact a1, by simp only [PyData.depth]; omega, ?_⟩
  have h := PyData.shown_le_bulk 2000 (by decide) (.tuple (l.map PyData.int)) (by simp only [PyData.leavesShort]; exact a3)
  simp only [PyData.bulk] at h
  rw [sizeLine_eq]
  have : (2000 + 2) * PyData.bulkAll (l.map PyData.int) ≤ (2000 + 2) * 2000 := Nat.mul_le_mul_left _ (by omega)
  omega
/-! ### the heap without the pen and the tables -/
def Bs (d : Addr) (H : Hp) : Hp := fun b => if b = d then none else match H b with
  | some (.tbl _) => none
  | r => r
def Go (d : Addr) (H H' : Hp) : Prop := ∀ b o, H b = some o → b ≠ d → (∀ ps, o ≠ .tbl ps) → H' b = some o
theorem Bs.of {d b : Addr} {H : Hp} {o : HO} (h : Bs d H b = some o) : b ≠ d ∧ H b = some o ∧ ∀ ps, o ≠ .tbl ps := by
  unfold Bs at h
  split at h
  · cases h
  · rename_i ne
    split at h
    · cases h
    · rename_i no
      refine ⟨ne, h, fun ps e => ?_⟩
      rw [e] at h
      exact no ps h
theorem Bs.at {d b : Addr} {H : Hp} {o : HO} (ne : b ≠ d) (h : H b = some o) (no : ∀ ps, o ≠ .tbl ps) : Bs d H b = some o := by
  unfold Bs
  rw [if_neg ne, h]
  split
  · rename_i ps e
    exact (no ps (Option.some.inj e)).elim
  · rfl
theorem Bs.le {d : Addr} {H : Hp} : Same (Bs d H) H := fun b o e => (Bs.of e).2.1
theorem Go.bs {d : Addr} {H H' : Hp} (g : Go d H H') : Same (Bs d H) (Bs d H') := fun b o e =>
  let ⟨ne, h, no⟩ := Bs.of e; Bs.at ne (g b o h ne no) no
theorem Go.refl {d : Addr} {H : Hp} : Go d H H := fun _ _ e _ _ => e
theorem Go.trans {d : Addr} {H H1 H2 : Hp} (a : Go d H H1) (b : Go d H1 H2) : Go d H H2 := fun x o e ne no => b x o (a x o e ne no) ne no
theorem Go.more {d : Addr} {H H' : Hp} (m : More H H') : Go d H H' := fun b o e _ _ => m b o e
theorem Go.off {d : Addr} {H H' : Hp} (m : ∀ b o, H b = some o → b ≠ d → H' b = some o) : Go d H H' := fun b o e ne _ => m b o e ne
theorem Go.ext {d : Addr} {H H' : Hp} (m : LamX.ExtN H H') : Go d H H' := fun b o e _ no => m b o e no
/-- the pen and the table -/
structure Stt (P : Addr) (q : Str) (d cc : Addr) (n : Int) (H : Hp) : Prop where
  pen : Pen H d cc n
  tab : LamX.Tabs [(P, q)] H
section
variable {P d cc : Addr} {q : Str} {n n' : Int} {H H' : Hp}
theorem Stt.dne (s : Stt P q d cc n H) : ∃ o, H d = some o := s.pen.at
theorem Stt.ne (s : Stt P q d cc n H) {p : Addr} (hp : H p = none) : p ≠ d := by
  obtain ⟨o, e⟩ := s.pen.at
  intro z
  rw [z, e] at hp
  cases hp
theorem Stt.more (s : Stt P q d cc n H) (m : More H H') : Stt P q d cc n H' := by
  obtain ⟨o1, e1⟩ := s.pen.at
  obtain ⟨o2, e2⟩ := s.pen.atc
  exact ⟨s.pen.keep ((m _ _ e1).trans e1.symm) ((m _ _ e2).trans e2.symm), s.tab.ext m⟩
theorem Stt.off (s : Stt P q d cc n H) (p : Pen H' d cc n') (m : ∀ b o, H b = some o → b ≠ d → H' b = some o) : Stt P q d cc n' H' := by
  obtain ⟨kvs, _, _, _, _, hd, _⟩ := s.pen
  refine ⟨p, fun pq hpq => ?_⟩
  obtain ⟨ps, h1, h2, h3⟩ := s.tab pq hpq
  refine ⟨ps, m _ _ h1 (fun z => ?_), h2, fun pos cv hc => ?_⟩
  · rw [z, hd] at h1
    cases h1
  · obtain ⟨c, e1, e2⟩ := h3 pos cv hc
    refine ⟨c, e1, m _ _ e2 fun z => ?_⟩
    rw [z, hd] at e2
    cases e2
theorem Stt.ext (s : Stt P q d cc n H) (m : LamX.ExtN H H') (t : LamX.Tabs [(P, q)] H') : Stt P q d cc n H' := by
  obtain ⟨kvs, cs, p, g, f, h1, h2, r⟩ := s.pen
  refine ⟨⟨kvs, cs, p, g, f, m _ _ h1 (fun ps z => by cases z), m _ _ h2 (fun ps z => by cases z), r⟩, t⟩
end
end K01

namespace K01
open PySem L2 Gd
theorem ite_not {b : Bool} {A B : Prop} (h : b = true) (q : B) : if (!b) = true then A else B := by
  rw [h]
  exact iteF q
theorem pp_in {m : Int} {is : List Int} (h : ppT.lookup m = some is) : 0 < m ∧ m < 28 := by
  have all : ∀ q ∈ ppT, 0 < q.1 ∧ q.1 < 28 := by decide
  have mem : ∀ l : List (Int × List Int), l.lookup m = some is → ∃ q ∈ l, q.1 = m := by
    intro l
    induction l with
    | nil => intro z; cases z
    | cons q r ih =>
      intro z
      rw [List.lookup_cons] at z
      by_cases e : m = q.1
      · exact ⟨q, .head _, e.symm⟩
      · rw [show (m == q.1) = false from beq_eq_false_iff_ne.mpr e] at z
        obtain ⟨x, hx, ex⟩ := ih z
        exact ⟨x, .tail _ hx, ex⟩
  obtain ⟨q, hq, e⟩ := mem _ h
  rw [← e]
  exact all q hq
theorem pp_out {m : Int} (h : m ≤ 0 ∨ 28 ≤ m) : ppT.lookup m = none := by
  cases e : ppT.lookup m with
  | none => rfl
  | some is =>
    have := pp_in e
    omega
theorem pr_out {m : Int} (h : m < 2 ∨ 7 < m) : isPr m = false := by
  cases e : isPr m with
  | false => rfl
  | true =>
    have := isPr_small e
    omega
section
variable {K : PySem.W.Frag} {H : Hp}
def Sho (K : PySem.W.Frag) (H : Hp) (x : V) : Prop := ∃ dx, Shows K H x dx
def Odd (K : PySem.W.Frag) (H : Hp) (x : V) : Prop := Sho K H x ∧ ((∃ m, x = .int m ∧ ppT.lookup m = none) ∨ NoInt K H x)
def Bad (K : PySem.W.Frag) (H : Hp) (x : V) : Prop := Sho K H x ∧ ((∃ i, x = .int i ∧ i < 0) ∨ NoInt K H x)
def Bas (K : PySem.W.Frag) (H : Hp) (x : V) : Prop := Sho K H x ∧ BadP K H x
def Rw (K : PySem.W.Frag) (H : Hp) (p : Int) (x : V) : Prop := Sho K H x ∧ BadW K H p x
theorem Sho.more {H' : Hp} {x : V} (s : Same H H') : Sho K H x → Sho K H' x := fun ⟨d, h⟩ => ⟨d, h.more s⟩
theorem Odd.more {H' : Hp} {x : V} (s : Same H H') : Odd K H x → Odd K H' x := fun ⟨a, b⟩ => ⟨a.more s, b.imp id fun h => h.more s⟩
theorem Bad.more {H' : Hp} {x : V} (s : Same H H') : Bad K H x → Bad K H' x := fun ⟨a, b⟩ => ⟨a.more s, b.imp id fun h => h.more s⟩
theorem Bas.more {H' : Hp} {x : V} (s : Same H H') : Bas K H x → Bas K H' x := fun ⟨a, b⟩ => ⟨a.more s, b.imp id fun h => h.more s⟩
theorem Rw.more {H' : Hp} {p : Int} {x : V} (s : Same H H') : Rw K H p x → Rw K H' p x := fun ⟨a, b⟩ => ⟨a.more s, by
  obtain ⟨n, hn, t⟩ | ⟨a, xs, e, sq, few, all, no⟩ | ⟨a, ds, e, sq, r⟩ := b
  · exact .inl ⟨n, hn, tyMore s t⟩
  · exact .inr (.inl ⟨a, xs, e, sq.more s, few, fun y hy => (all y hy).imp id fun h => h.more s, no⟩)
  · exact .inr (.inr ⟨a, ds, e, sq.more s, r⟩)⟩
theorem sho_int {i : Int} (h : i.natAbs < 10 ^ 60) : Sho K H (.int i) := ⟨_, Shows.of (.int i) (Sz.int h)⟩
theorem sho_bl {b : Bool} : Sho K H (.bl b) := ⟨_, Shows.of (.bl b) (by cases b <;> exact ⟨by decide +kernel, by decide +kernel, by decide +kernel, by decide +kernel⟩)⟩
theorem sho_non : Sho K H .non := ⟨_, Shows.of .non ⟨by decide +kernel, by decide +kernel, by decide +kernel, by decide +kernel⟩⟩
theorem no_bl {b : Bool} : NoInt K H (.bl b) := ⟨"bool", by decide, .base (.bl b)⟩
theorem no_non : NoInt K H .non := ⟨"NoneType", by decide, .base .non⟩
theorem no_str {x : Str} : NoInt K H (.str x) := ⟨"str", by decide, .base (.str x)⟩
theorem no_tup {a : Addr} {xs : List V} (h : H a = some (.tup xs)) : NoInt K H (.ref a) := ⟨"tuple", by decide, .base (.tup h)⟩
theorem no_lst {a : Addr} {xs : List V} (h : H a = some (.lst xs)) : NoInt K H (.ref a) := ⟨"list", by decide, .base (.lst h)⟩
theorem no_dct {a : Addr} {kvs : List (Key × V)} (h : H a = some (.dK kvs)) : NoInt K H (.ref a) := ⟨"dict", by decide, .base (.dK h)⟩
theorem bulk_int {i : Int} : (PyData.int i).bulk ≤ 20 := by simp only [PyData.bulk]; omega
theorem dep_int {i : Int} : (PyData.int i).depth ≤ 1 := by simp only [PyData.depth]; omega
theorem sho_tup1 {a : Addr} {i : Int} (h : H a = some (.tup [.int i])) (b : i.natAbs < 10 ^ 60) : Sho K H (.ref a) :=
  ⟨_, Shows.of (.tup (SqT.of h) (.cons (.int i) .nil)) (Sz.one (Sz.int b) dep_int bulk_int).1⟩
theorem sho_lst1 {a : Addr} {i : Int} (h : H a = some (.lst [.int i])) (b : i.natAbs < 10 ^ 60) : Sho K H (.ref a) :=
  ⟨_, Shows.of (.lst (SqL.of h) (.cons (.int i) .nil)) (Sz.one (Sz.int b) dep_int bulk_int).2⟩
theorem sho_str {z : Str} (s : Sz (.str z)) : Sho K H (.str z) := ⟨_, Shows.of (.str z) s⟩
theorem sz_small : Sz (.str "2") ∧ Sz (.str "5") ∧ Sz (.str "3") ∧ Sz (.str "01") ∧ Sz (.str "1") :=
  ⟨⟨by decide +kernel, by decide +kernel, by decide +kernel, by decide +kernel⟩, ⟨by decide +kernel, by decide +kernel, by decide +kernel, by decide +kernel⟩, ⟨by decide +kernel, by decide +kernel, by decide +kernel, by decide +kernel⟩,
    ⟨by decide +kernel, by decide +kernel, by decide +kernel, by decide +kernel⟩, ⟨by decide +kernel, by decide +kernel, by decide +kernel, by decide +kernel⟩⟩
/-- the values in the place of a modulus -/
theorem odd_ok {t l : Addr} {r : Int} (ht : H t = some (.tup [.int 2])) (hl : H l = some (.lst [.int 4])) (r0 : 0 ≤ r) (r1 : r < 10 ^ 57) :
    ∀ x ∈ [V.int 0, .int 1, .int 6, .int 32, .int 81, .int 49, .int 125, .int 10, .int (-2), .bl true, .non, .str "2", .ref t, .ref l, .int (r + 28), .int (-r), .int (4 ^ 50)], Odd K H x := by
  intro x hx
  simp only [List.mem_cons, List.not_mem_nil, or_false] at hx
  have i : ∀ m : Int, m.natAbs < 10 ^ 60 → ppT.lookup m = none → Odd K H (.int m) := fun m a b => ⟨sho_int a, .inl ⟨m, rfl, b⟩⟩
  obtain rfl | rfl | rfl | rfl | rfl | rfl | rfl | rfl | rfl | rfl | rfl | rfl | rfl | rfl | rfl | rfl | rfl := hx
  · exact i _ (by decide) (by decide)
  · exact i _ (by decide) (by decide)
  · exact i _ (by decide) (by decide)
  · exact i _ (by decide) (by decide)
  · exact i _ (by decide) (by decide)
  · exact i _ (by decide) (by decide)
  · exact i _ (by decide) (by decide)
  · exact i _ (by decide) (by decide)
  · exact i _ (by decide) (by decide)
  · exact ⟨sho_bl, .inr no_bl⟩
  · exact ⟨sho_non, .inr no_non⟩
  · exact ⟨sho_str sz_small.1, .inr no_str⟩
  · exact ⟨sho_tup1 ht (by decide), .inr (no_tup ht)⟩
  · exact ⟨sho_lst1 hl (by decide), .inr (no_lst hl)⟩
  · exact i _ (by omega) (pp_out (.inr (by omega)))
  · exact i _ (by omega) (pp_out (.inl (by omega)))
  · exact i _ (by decide) (pp_out (.inr (by decide)))
theorem bad_ok {t l : Addr} {r : Int} (ht : H t = some (.tup [.int 3])) (hl : H l = some (.lst [.int 1])) (r0 : 0 ≤ r) (r1 : r < 10 ^ 57) :
    ∀ x ∈ [V.int (-1), .int (-r - 1), .bl true, .non, .str "5", .ref t, .ref l], Bad K H x := by
  intro x hx
  simp only [List.mem_cons, List.not_mem_nil, or_false] at hx
  obtain rfl | rfl | rfl | rfl | rfl | rfl | rfl := hx
  · exact ⟨sho_int (by decide), .inl ⟨_, rfl, by decide⟩⟩
  · exact ⟨sho_int (by omega), .inl ⟨_, rfl, by omega⟩⟩
  · exact ⟨sho_bl, .inr no_bl⟩
  · exact ⟨sho_non, .inr no_non⟩
  · exact ⟨sho_str sz_small.2.1, .inr no_str⟩
  · exact ⟨sho_tup1 ht (by decide), .inr (no_tup ht)⟩
  · exact ⟨sho_lst1 hl (by decide), .inr (no_lst hl)⟩
theorem bas_ok {t : Addr} {r : Int} (ht : H t = some (.tup [.int 2])) (r0 : 0 ≤ r) (r1 : r < 10 ^ 57) :
    ∀ x ∈ [V.int 0, .int 1, .int 4, .int 6, .int 9, .int 11, .bl true, .non, .str "3", .ref t, .int (-2), .int (r + 8)], Bas K H x := by
  intro x hx
  simp only [List.mem_cons, List.not_mem_nil, or_false] at hx
  have i : ∀ m : Int, m.natAbs < 10 ^ 60 → isPr m = false → Bas K H (.int m) := fun m a b => ⟨sho_int a, .inl ⟨m, rfl, b⟩⟩
  obtain rfl | rfl | rfl | rfl | rfl | rfl | rfl | rfl | rfl | rfl | rfl | rfl := hx
  · exact i _ (by decide) (by decide)
  · exact i _ (by decide) (by decide)
  · exact i _ (by decide) (by decide)
  · exact i _ (by decide) (by decide)
  · exact i _ (by decide) (by decide)
  · exact i _ (by decide) (by decide)
  · exact ⟨sho_bl, .inr no_bl⟩
  · exact ⟨sho_non, .inr no_non⟩
  · exact ⟨sho_str sz_small.2.2.1, .inr no_str⟩
  · exact ⟨sho_tup1 ht (by decide), .inr (no_tup ht)⟩
  · exact i _ (by decide) (by decide)
  · exact i _ (by omega) (pr_out (.inr (by omega)))
theorem bw_ty {x : V} {p : Int} {n : String} (hn : n ∈ noSeq) (t : TyX K H x (.type n)) : BadW K H p x := .inl ⟨n, hn, t⟩
theorem row_ok {t1 t2 t3 t4 t5 t6 t7 l dd : Addr} {r p : Int} (h1 : H t1 = some (.tup [.int p])) (h2 : H t2 = some (.tup [.int 0, .int (-1)])) (h3 : H t3 = some (.tup [.bl true])) (hl : H l = some (.lst [.int 0, .str "1"]))
    (h4 : H t4 = some (.tup [.int 0, .non])) (hd : H dd = some (.dK [(Sum.inr "a", .int 1)])) (h5 : H t5 = some (.tup [.int 1])) (h6 : H t6 = some (.tup [.int 0, .ref t5])) (h7 : H t7 = some (.tup [.int (r + p)]))
    (r0 : 0 ≤ r) (r1 : r < 10 ^ 57) (p2 : 2 ≤ p) (p7 : p ≤ 7) :
    ∀ x ∈ [V.non, .int 5, .str "01", .ref t1, .ref t2, .ref t3, .ref l, .ref t4, .ref dd, .ref t6, .ref t7], Rw K H p x := by
  intro x hx
  simp only [List.mem_cons, List.not_mem_nil, or_false] at hx
  have z1 : Sz (.int 0) := Sz.int (by decide)
  have zm : Sz (.int (-1)) := Sz.int (by decide)
  have zt : Sz (.bool true) := ⟨by decide +kernel, by decide +kernel, by decide +kernel, by decide +kernel⟩
  have zn : Sz .none := ⟨by decide +kernel, by decide +kernel, by decide +kernel, by decide +kernel⟩
  have zs : Sz (.str "1") := sz_small.2.2.2.2
  have intsB : ∀ (a : Addr) (ds : List Int), H a = some (.tup (ds.map V.int)) → ds.length ≤ 1000 → (∃ d ∈ ds, ¬ (0 ≤ d ∧ d < p)) → BadW K H p (.ref a) := fun a ds h few no => .inr (.inr ⟨a, ds, rfl, .inr (SqT.of h), few, no⟩)
  have mixT : ∀ (a : Addr) (xs : List V), H a = some (.tup xs) → xs.length ≤ 1000 → (∀ y ∈ xs, (∃ i, y = .int i) ∨ NoInt K H y) → xs.all isI = false → BadW K H p (.ref a) := fun a xs h few al no => .inr (.inl ⟨a, xs, rfl, .inr (SqT.of h), few, al, no⟩)
  obtain rfl | rfl | rfl | rfl | rfl | rfl | rfl | rfl | rfl | rfl | rfl := hx
  · exact ⟨sho_non, bw_ty (n := "NoneType") (by decide) (.base .non)⟩
  · exact ⟨sho_int (by decide), bw_ty (n := "int") (by decide) (.base (.int 5))⟩
  · exact ⟨sho_str sz_small.2.2.2.1, bw_ty (n := "str") (by decide) (.base (.str _))⟩
  · exact ⟨sho_tup1 h1 (by omega), intsB t1 [p] h1 (by show 1 ≤ 1000; decide) ⟨p, .head _, by omega⟩⟩
  · exact ⟨⟨_, Shows.of (.tup (SqT.of h2) (.cons (.int 0) (.cons (.int (-1)) .nil))) (Sz.two z1 zm dep_int (Nat.le_trans dep_int (by decide)) bulk_int bulk_int).1⟩, intsB t2 [0, -1] h2 (by decide) ⟨-1, .tail _ (.head _), by omega⟩⟩
  · exact ⟨⟨_, Shows.of (.tup (SqT.of h3) (.cons (.bl true) .nil)) (Sz.one zt (by decide +kernel) (by decide +kernel)).1⟩, mixT t3 _ h3 (by show 1 ≤ 1000; decide) (fun y hy => by
      simp only [List.mem_cons, List.not_mem_nil, or_false] at hy
      subst hy
      exact .inr no_bl) rfl⟩
  · exact ⟨⟨_, Shows.of (.lst (SqL.of hl) (.cons (.int 0) (.cons (.str "1") .nil))) (Sz.two z1 zs dep_int (by decide +kernel) bulk_int (by decide +kernel)).2⟩, .inr (.inl ⟨l, _, rfl, .inl (SqL.of hl), by show 2 ≤ 1000; decide, fun y hy => by
      simp only [List.mem_cons, List.not_mem_nil, or_false] at hy
      obtain rfl | rfl := hy
      · exact .inl ⟨0, rfl⟩
      · exact .inr no_str, rfl⟩)⟩
  · exact ⟨⟨_, Shows.of (.tup (SqT.of h4) (.cons (.int 0) (.cons .non .nil))) (Sz.two z1 zn dep_int (by decide +kernel) bulk_int (by decide +kernel)).1⟩, mixT t4 _ h4 (by show 2 ≤ 1000; decide) (fun y hy => by
      simp only [List.mem_cons, List.not_mem_nil, or_false] at hy
      obtain rfl | rfl := hy
      · exact .inl ⟨0, rfl⟩
      · exact .inr no_non) rfl⟩
  · exact ⟨⟨.dict [(.str "a", .int 1)], Shows.of (.dct (.inl hd) (.cons (k := Sum.inr "a") (.int 1) .nil)) ⟨by decide +kernel, by decide +kernel, by decide +kernel, by decide +kernel⟩⟩, bw_ty (n := "dict") (by decide) (.base (.dK hd))⟩
  · exact ⟨⟨_, Shows.of (.tup (SqT.of h6) (.cons (.int 0) (.cons (.tup (SqT.of h5) (.cons (.int 1) .nil)) .nil))) ⟨by decide +kernel, by decide +kernel, by decide +kernel, by decide +kernel⟩⟩, mixT t6 _ h6 (by show 2 ≤ 1000; decide) (fun y hy => by
      simp only [List.mem_cons, List.not_mem_nil, or_false] at hy
      obtain rfl | rfl := hy
      · exact .inl ⟨0, rfl⟩
      · exact .inr (no_tup h5)) rfl⟩
  · exact ⟨sho_tup1 h7 (by omega), intsB t7 [r + p] h7 (by show 1 ≤ 1000; decide) ⟨r + p, .head _, by omega⟩⟩
end
end K01

namespace K01
open PySem L2 Gd
theorem go_new {d p : Addr} {H H' : Hp} {o : HO} (g : Go d H H') (hp : H' p = none) : Go d H (upd H' p o) := g.trans (Go.more (More.new (fun _ _ e => e) hp))
theorem new_more {H : Hp} {p : Addr} {o : HO} (hp : H p = none) : More H (upd H p o) := More.new (fun _ _ e => e) hp
theorem Go.low {d : Addr} {H H' : Hp} (g : Go d H H') : Same (Bs d H) H' := fun b o e => let ⟨ne, h, no⟩ := Bs.of e; g b o h ne no
/-- behind a call of _law_why that told an error: the heap with the error's dict, the answer and the tuple beside it -/
theorem why_end {P d cc : Addr} {q : Str} {n : Int} {H H9 : Hp} {dd tt t5 : Addr} {o1 o2 o3 : HO} (st : Stt P q d cc n H) (eN : LamX.ExtN H H9) (tN : LamX.Tabs [(P, q)] H9) (h1 : H9 dd = none) (h2 : (upd H9 dd o1) tt = none)
    (h3 : (upd (upd H9 dd o1) tt o2) t5 = none) : Stt P q d cc n (upd (upd (upd H9 dd o1) tt o2) t5 o3) ∧ Go d H (upd (upd (upd H9 dd o1) tt o2) t5 o3) :=
  ⟨(((st.ext eN tN).more (new_more h1)).more (new_more h2)).more (new_more h3), go_new (go_new (go_new (Go.ext eN) h1) h2) h3⟩
theorem rep_any {K : PySem.W.Frag} {H : Hp} {z : Addr} {k : Int} {Q : VK} (hz : SqT K H z [.int 0]) (k0 : 0 ≤ k) (k5 : k < 5)
    (q : ∀ b H', More H H' → SqT K H' b (List.replicate k.toNat (.int 0)) → Q (.ref b) H') : rRepN K (.ref z) (.int k) H Q := by
  by_cases h2 : 2 ≤ k
  · refine .inl ⟨z, k, _, rfl, rfl, hz, by simp, h2, by omega, by show 1 ≤ 1000; decide, fun p np => q _ _ (new_more np) ?_⟩
    refine SqT.of ?_
    rw [upd_same]
    have : (List.replicate k.toNat [V.int 0]).flatten = List.replicate k.toNat (V.int 0) := by
      induction k.toNat with
      | zero => rfl
      | succ n ih => rw [List.replicate_succ, List.replicate_succ, List.flatten_cons, ih]; rfl
    rw [this]
  · by_cases h1 : k = 1
    · subst h1
      exact .inr ⟨z, 1, _, rfl, rfl, hz, by simp, .inl ⟨rfl, q _ _ (fun _ _ e => e) hz⟩⟩
    · have : k = 0 := by omega
      subst this
      exact .inr ⟨z, 0, _, rfl, rfl, hz, by simp, .inr ⟨rfl, fun p np => q _ _ (new_more np) (SqT.of upd_same)⟩⟩
theorem cat_any {K : PySem.W.Frag} {H : Hp} {a b : Addr} {xs ys : List V} {Q : VK} (ha : SqT K H a xs) (hb : SqT K H b ys) (few : xs.length + ys.length ≤ 1000)
    (q : ∀ e H', More H H' → SqT K H' e (xs ++ ys) → Q (.ref e) H') : rCatA K (.ref a) (.ref b) H Q := by
  refine ⟨a, b, xs, ys, rfl, rfl, ha, hb, by rw [sizeLine_eq]; omega, fun e => ?_, fun _ e => ?_, fun _ _ p np => q _ _ (new_more np) (SqT.of upd_same)⟩
  · subst e
    exact q _ _ (fun _ _ e => e) hb
  · subst e
    refine q _ _ (fun _ _ e => e) ?_
    rw [List.append_nil]
    exact ha
theorem dq_ints {K : PySem.W.Frag} {H : Hp} : ∀ l : List Int, DqAll K H (l.map V.int) (l.map PyData.int)
  | [] => .nil
  | i :: l => .cons (.int i) (dq_ints l)
theorem pick_p {x : V} (h : x ∈ [V.int 2, .int 3, .int 5, .int 7]) : ∃ p : Nat, x = .int p ∧ isPr p = true := by
  simp only [List.mem_cons, List.not_mem_nil, or_false] at h
  obtain rfl | rfl | rfl | rfl := h
  · exact ⟨2, rfl, by decide⟩
  · exact ⟨3, rfl, by decide⟩
  · exact ⟨5, rfl, by decide⟩
  · exact ⟨7, rfl, by decide⟩
theorem pow_big {p m : Nat} (p2 : 2 ≤ p) (p7 : p ≤ 7) (hm : m ≤ 41) : 1 ≤ p ^ m ∧ p ^ m < 2 ^ 400 := by
  refine ⟨Nat.one_le_iff_ne_zero.mpr (by have := Nat.pow_pos (n := m) (show 0 < p by omega); omega), ?_⟩
  have h1 : p ^ m ≤ 7 ^ m := Nat.pow_le_pow_left p7 m
  have h2 : 7 ^ m ≤ 7 ^ 41 := Nat.pow_le_pow_right (by decide) hm
  exact Nat.lt_of_le_of_lt (Nat.le_trans h1 h2) (by decide +kernel)
abbrev sLaw : Stmt := top 23
def spLaw (K : PySem.W.Frag) (Pt : Addr) : Sp := fun vs H Q _ => ∃ (a : Addr) (ns : List Int), vs = [.ref a] ∧ SqL K H a (ns.map V.int) ∧ H Pt = some (.tbl #[]) ∧ ∀ H', Q (.bl true) H'
theorem scLaw : FnScope ["_law_script", "_law_pen_here", "_law_known", "_law_m", "_law_k", "_law_lap", "_law_n", "_law_told", "_law_more", "_law_bad", "_law_base", "_law_far", "_law_odd", "_law_p", "_law_row"] ["_law_script"] (defScope sLaw) :=
  ⟨rfl, rfl, rfl, by decide +kernel, rfl, by decide +kernel, by decide +kernel⟩
def lamQ : Str := (PyProof.Rows.envOfC "law" (defScope sLaw) 0 0 .none).qual ++ "<lambda>"
section
variable {P : Program} {w : World} {K : PySem.W.Frag} {mg : Str → Option Value} {base : Heap}
theorem ok_law {f c Pt : Addr} {kV doc pm ct oc : Value} {an od : Option Addr} {osl : Array (Option Value)}
    {g5 g6 gP gC gG gO g0 g1 g2 g3 g4 gL gA gW fN CN fR CR D1 D2 : Addr} {d5 d6 dP dC dG dO d0 d1 d2 d3 d4 dL dA dW fdN fdR : FuncData}
    (lk : K.lookup f = some ⟨oc, od, .func (PySem.W.fnOf "law" "law" (defArgs sLaw) (defBody sLaw) (defScope sLaw) .none kV doc pm an (.ref c) ct), osl⟩)
    (hcd : PySem.W.codeIn K (.ref c) "law" = true) (TB : LamX.TabB base mg c Pt) (B : Blt mg)
    (I : Cl K mg "is_integer" sIsI ["value"] g5 d5) (S : Cl K mg "is_integers" sIsIs ["value"] g6 d6) (PP : Cl K mg "prime_power" sPP ["m"] gP dP)
    (C : Cl K mg "check_prime" sCP ["p"] gC dC) (DG : Cl K mg "digits" sDg ["n", "p"] gG dG) (NO : Cl K mg "number_of" sNo ["row", "p"] gO dO)
    (Pe : Cl K mg "_law_pen" sPen ["_law_script"] g0 d0) (Dr : Cl K mg "_law_draw" sDraw ["_law_pen_here", "_law_many"] g1 d1) (Pi : Cl K mg "_law_pick" sPick ["_law_pen_here", "_law_some"] g2 d2)
    (Iw : Cl K mg "_law_is_whole" sIw ["_law_value"] g3 d3) (La : Cl K mg "_law_large" sLarge ["_law_pen_here"] g4 d4) (Ld : Cl K mg "_law_digits" sLd ["_law_n", "_law_p"] gL dL)
    (Ra : Cl K mg "_law_raised" sRa ["_law_base", "_law_many"] gA dA) (W : Cl K mg "_law_why" sWhy ["_law_call"] gW dW)
    (N : Er K mg "BadNumber" "BadNumber.__init__" CN fN ["what", "number"] sBadNumber fdN) (R : Er K mg "BadRow" "BadRow.__init__" CR fR ["row"] sBadRow fdR) (T : Cau K CN CR)
    (gD1 : mg "PRIMES" = some (.ref D1)) (dD1 : tupI K (.ref D1) = some [2, 3, 5, 7]) (gD2 : mg "PRIME_POWERS" = some (.ref D2)) (dD2 : dictI K D2 = some ppT) :
    FnG P w K mg base CX0 7 f (PySem.W.fnOf "law" "law" (defArgs sLaw) (defBody sLaw) (defScope sLaw) .none kV doc pm an (.ref c) ct) ["_law_script"] (spLaw K Pt) := by
  have GP : FnOk P w K mg base (L2.CX P w) 3 gP dP ["m"] (spPP K CN) := ok_pp PP.fn B I N gD2 dD2
  have GG : FnOk P w K mg base (L2.CX P w) 4 gG dG ["n", "p"] (spDg K CN) := ok_dg DG.fn B I C N gD1 dD1
  have GO : FnOk P w K mg base (L2.CX P w) 4 gO dO ["row", "p"] (spNo K CN CR) := ok_no NO.fn B I S C N R gD1 dD1
  have G0 : FnOk P w K mg base CX0 1 g0 d0 ["_law_script"] (spPen K) := ok_pen Pe.fn B.int_ B.list_
  have G1 : FnOk P w K mg base CX0 1 g1 d1 ["_law_pen_here", "_law_many"] spDraw := ok_draw Dr.fn B.int_ B.len_
  have G2 : FnOk P w K mg base CX0 2 g2 d2 ["_law_pen_here", "_law_some"] (spPick K) := ok_pick Pi.fn Dr.fn Dr.b Dr.g B.int_ B.len_
  have G3 : FnOk P w K mg base CX0 1 g3 d3 ["_law_value"] (spIsI K) := ok_iw Iw.fn B
  have G4 : FnOk P w K mg base CX0 3 g4 d4 ["_law_pen_here"] spLarge := ok_large La.fn Dr.fn Dr.b Dr.g Pi.fn Pi.b Pi.g B.int_ B.len_ B.range_
  have GL : FnOk P w K mg base CX0 1 gL dL ["_law_n", "_law_p"] spLd := ok_ld Ld.fn B
  have GA : FnOk P w K mg base CX0 1 gA dA ["_law_base", "_law_many"] spRa := ok_ra Ra.fn B
  refine fnG_of lk hcd scLaw (fun vs H Q E h => ?_) (fun A outer s H vs Q E hgd hr h => ?_)
  · obtain ⟨a, ns, rfl, _⟩ := h
    rfl
  · obtain ⟨a, ns, rfl, hS, hP, fin⟩ := h
    have hr1 : Room 1 _ := hr.mono (by decide)
    have hr2 : Room 2 _ := hr.mono (by decide)
    have hr3 : Room 3 _ := hr.mono (by decide)
    have hr4 : Room 4 _ := hr.mono (by decide)
    have hu64 := hr.units
    obtain ⟨ocW, odW, kVW, docW, pmW, anW, cdW, ctW, oslW, rfl, lkW, hcdW⟩ := W.fn.ex
    have bW := W.b
    have lam : ∀ {params : Arguments} {body : Expr} {scope : Scope} {lpos p pos : Pos} {t : XK → TE}, LamX.LamS (defScope sLaw) scope →
        defaultsOf params (cxOf CX0 P w K mg base ["_law_script", "_law_pen_here", "_law_known", "_law_m", "_law_k", "_law_lap", "_law_n", "_law_told", "_law_more", "_law_bad", "_law_base", "_law_far", "_law_odd", "_law_p", "_law_row"] "law" (defScope sLaw) f (.ref c) A outer s H E).nox.env = ([], []) →
        (∀ (q : Str) (cl : List (Str × Addr)) (pm cv ctv : Value), bindArgs (PySem.W.kla_fn "<lambda>" q params body scope cl pm cv ctv) ⟨[], []⟩ = pure []) →
        (∀ (A' : Around) (outer' : List Env) (s' : Shared) (H' : Hp) (E' : XK) (f' c' : Addr), Room 4 (A'.deeper (LamX.lamEnv (cxOf CX0 P w K mg base ["_law_script", "_law_pen_here", "_law_known", "_law_m", "_law_k", "_law_lap", "_law_n", "_law_told", "_law_more", "_law_bad", "_law_base", "_law_far", "_law_odd", "_law_p", "_law_row"] "law" (defScope sLaw) f (.ref c) A outer s H E).nox scope s'.heap.objs.size f' c')) →
          PE (LamX.lamCx (cxOf CX0 P w K mg base ["_law_script", "_law_pen_here", "_law_known", "_law_m", "_law_k", "_law_lap", "_law_n", "_law_told", "_law_more", "_law_bad", "_law_base", "_law_far", "_law_odd", "_law_p", "_law_row"] "law" (defScope sLaw) f (.ref c) A outer s H E).nox A' outer' s' H' E' scope f' c') body (t E')) →
        PE (cxOf CX0 P w K mg base ["_law_script", "_law_pen_here", "_law_known", "_law_m", "_law_k", "_law_lap", "_law_n", "_law_told", "_law_more", "_law_bad", "_law_base", "_law_far", "_law_odd", "_law_p", "_law_row"] "law" (defScope sLaw) f (.ref c) A outer s H E).nox
          (.Call (.Name "_law_why" p) [.Lambda params body scope lpos] [] pos) (LamX.tLam [(Pt, lamQ)] (TWhy K CN CR) t) := by
      intro params body scope lpos p pos t L hdef hbind hbody
      exact LamX.pe_lamcall (k := 4) (T := [(Pt, lamQ)]) (c := c) (P := Pt) rfl W.g W.k lkW hcdW bW scWhy rfl (.inl rfl)
        (why_gives (k := 4) hgd hr T N.g R.g B.repr_ (N.no _ (.head _)) (N.no _ (.tail _ (.head _))) (R.no _ (.head _))) TB rfl (.head _)
        (fun p hp _ => by
          obtain rfl | hp := List.mem_cons.mp hp
          · rfl
          · exact (List.not_mem_nil hp).elim) hr L hdef hbind hbody
    have hu1 : (A.deeper (PyProof.Rows.envOfC "law" (defScope sLaw) s.heap.objs.size f (.ref c))).units < cLine := by omega
    suffices hh : ∃ t, PSs (cxOf CX0 P w K mg base ["_law_script", "_law_pen_here", "_law_known", "_law_m", "_law_k", "_law_lap", "_law_n", "_law_told", "_law_more", "_law_bad", "_law_base", "_law_far", "_law_odd", "_law_p", "_law_row"] "law" (defScope sLaw) f (.ref c) A outer s H E).nox (defBody sLaw) t ∧ t { nx := fun _ H' => Q .non H', rt := Q } (L2.start ["_law_script", "_law_pen_here", "_law_known", "_law_m", "_law_k", "_law_lap", "_law_n", "_law_told", "_law_more", "_law_bad", "_law_base", "_law_far", "_law_odd", "_law_p", "_law_row"] [.ref a]) H by
      obtain ⟨t, d, q⟩ := hh
      exact ⟨t, d.nox, q⟩
    refine ⟨_, (pss_cons (ps_set (i := 1) scLaw.nd rfl (Or.inl rfl) (pe_call G0 hr1 rfl Pe.g Pe.k Pe.b .nil pass0 (pa_cons (pv 0) pa_nil)))
      (pss_cons (ps_set (i := 2) scLaw.nd rfl (Or.inl rfl) (pe_lst (pa_cons (pe_tup (pa_cons pe_int (pa_cons pe_int (pa_cons pe_int pa_nil)))) (pa_cons (pe_tup (pa_cons pe_int (pa_cons pe_int (pa_cons pe_int pa_nil)))) (pa_cons (pe_tup (pa_cons pe_int (pa_cons pe_int (pa_cons pe_int pa_nil)))) (pa_cons (pe_tup (pa_cons pe_int (pa_cons pe_int (pa_cons pe_int pa_nil)))) (pa_cons (pe_tup (pa_cons pe_int (pa_cons pe_int (pa_cons pe_int pa_nil)))) (pa_cons (pe_tup (pa_cons pe_int (pa_cons pe_int (pa_cons pe_int pa_nil)))) (pa_cons (pe_tup (pa_cons pe_int (pa_cons pe_int (pa_cons pe_int pa_nil)))) (pa_cons (pe_tup (pa_cons pe_int (pa_cons pe_int (pa_cons pe_int pa_nil)))) (pa_cons (pe_tup (pa_cons pe_int (pa_cons pe_int (pa_cons pe_int pa_nil)))) pa_nil)))))))))))
      (pss_cons (ps_for PassesOwn.never rfl (pi_list (pv 2)) (pg_tup (by rfl) (pgs_cons (pg_name (i := 3) scLaw.nd rfl (Or.inl rfl)) (pgs_cons (pg_name (i := 13) scLaw.nd rfl (Or.inr rfl)) (pgs_cons (pg_name (i := 4) scLaw.nd rfl (Or.inl rfl)) pgs_nil))))
        (pss_one (ps_if (pt_cmpR op_ne (pe_callB (call_reprQ hgd hu64) (by rfl) B.repr_ (by decide +kernel) (pa_cons (pe_call GP hr3 rfl PP.g PP.k PP.b .nil (passes_call LamX.takes0 (fun _ _ _ _ h => h)) (pa_cons (pv 3) pa_nil)) pa_nil))
            (pe_callB (call_reprQ hgd hu64) (by rfl) B.repr_ (by decide +kernel) (pa_cons (pe_tup (pa_cons (pv 13) (pa_cons (pv 4) pa_nil))) pa_nil)) (nomark _)) (pss_one (ps_ret pe_bl)) pss_nil)))
      (pss_cons (ps_set (i := 11) scLaw.nd rfl (Or.inr rfl) (pe_call G4 hr3 rfl La.g La.k La.b .nil pass0 (pa_cons (pv 1) pa_nil)))
      (pss_cons (ps_set (i := 12) scLaw.nd rfl (Or.inr rfl) (pe_call G2 hr2 rfl Pi.g Pi.k Pi.b .nil pass0 (pa_cons (pv 1) (pa_cons (pe_lst (pa_cons pe_int (pa_cons pe_int (pa_cons pe_int (pa_cons pe_int (pa_cons pe_int (pa_cons pe_int (pa_cons pe_int (pa_cons pe_int (pa_cons (pe_un un_neg pe_int) (pa_cons pe_bl (pa_cons pe_non (pa_cons pe_str (pa_cons (pe_tup (pa_cons pe_int pa_nil)) (pa_cons (pe_lst (pa_cons pe_int pa_nil)) (pa_cons (pe_op op_add (pv 11) pe_int) (pa_cons (pe_un un_neg (pv 11)) (pa_cons (pe_op op_pow pe_int pe_int) pa_nil)))))))))))))))))) pa_nil))))
      (pss_cons (ps_if (PW.pt (pw_or (pt_cmpR (op_neTS hu1) (pe_call GP hr3 rfl PP.g PP.k PP.b .nil (passes_call LamX.takes0 (fun _ _ _ _ h => h)) (pa_cons pe_int pa_nil)) (pe_tup (pa_cons pe_int (pa_cons pe_int pa_nil))) (nomark _))
          (pw_or1 (pt_cmpR (op_neTS hu1) (lam (LamX.lamS_by (by decide +kernel)) rfl (fun _ _ _ _ _ => rfl) (fun A' outer' s' H' E' f' c' hr' => pe_call GP (hr'.mono (by decide)) rfl PP.g PP.k PP.b .nil takesLam (pa_cons (pv 12) pa_nil)))
            (pe_tup (pa_cons pe_str (pa_cons pe_str (pa_cons (pe_callB (call_reprQ hgd hu64) (by rfl) B.repr_ (by decide +kernel) (pa_cons (pv 12) pa_nil)) pa_nil)))) (nomark _))))) (pss_one (ps_ret pe_bl)) pss_nil)
      (pss_cons (ps_for PassesOwn.never rfl (pi_range1 rfl B.range_ (pa_cons pe_int pa_nil)) (pg_name (i := 5) scLaw.nd rfl (Or.inl rfl))
        (pss_cons (ps_asg (pe_tup (pa_cons (pe_call G2 hr2 rfl Pi.g Pi.k Pi.b .nil pass0 (pa_cons (pv 1) (pa_cons (pe_lst (pa_cons pe_int (pa_cons pe_int (pa_cons pe_int (pa_cons pe_int pa_nil))))) pa_nil)))
              (pa_cons (pe_call G2 hr2 rfl Pi.g Pi.k Pi.b .nil pass0 (pa_cons (pv 1) (pa_cons (pe_lst (pa_cons (pe_call G4 hr3 rfl La.g La.k La.b .nil pass0 (pa_cons (pv 1) pa_nil))
                (pa_cons (pe_call G1 hr1 rfl Dr.g Dr.k Dr.b .nil pass0 (pa_cons (pv 1) (pa_cons pe_int pa_nil))) pa_nil))) pa_nil))) pa_nil)))
            (pg_tup (by rfl) (pgs_cons (pg_name (i := 13) scLaw.nd rfl (Or.inr rfl)) (pgs_cons (pg_name (i := 6) scLaw.nd rfl (Or.inl rfl)) pgs_nil))))
        (pss_cons (ps_set (i := 6) scLaw.nd rfl (Or.inl rfl) (pe_call G2 hr2 rfl Pi.g Pi.k Pi.b .nil pass0 (pa_cons (pv 1) (pa_cons (pe_lst (pa_cons (pv 6)
              (pa_cons (pe_call GA hr1 rfl Ra.g Ra.k Ra.b .nil pass0 (pa_cons (pv 13) (pa_cons (pe_call G1 hr1 rfl Dr.g Dr.k Dr.b .nil pass0 (pa_cons (pv 1) (pa_cons pe_int pa_nil))) pa_nil)))
              (pa_cons (pe_op op_sub (pe_call GA hr1 rfl Ra.g Ra.k Ra.b .nil pass0 (pa_cons (pv 13) (pa_cons (pe_op op_add pe_int (pe_call G1 hr1 rfl Dr.g Dr.k Dr.b .nil pass0 (pa_cons (pv 1) (pa_cons pe_int pa_nil)))) pa_nil))) pe_int) pa_nil)))) pa_nil))))
        (pss_cons (ps_set (i := 7) scLaw.nd rfl (Or.inl rfl) (pe_call GG hr4 rfl DG.g DG.k DG.b .nil (passes_call LamX.takes0 (fun _ _ _ _ h => h)) (pa_cons (pv 6) (pa_cons (pv 13) pa_nil))))
        (pss_cons (ps_if (pt_cmpR op_ne (pe_callB (call_reprQ hgd hu64) (by rfl) B.repr_ (by decide +kernel) (pa_cons (pv 7) pa_nil))
            (pe_callB (call_reprQ hgd hu64) (by rfl) B.repr_ (by decide +kernel) (pa_cons (pe_callTy call_tuple_of (by rfl) B.tup_ (by decide +kernel) (pa_cons (pe_call GL hr1 rfl Ld.g Ld.k Ld.b .nil pass0 (pa_cons (pv 6) (pa_cons (pv 13) pa_nil))) pa_nil)) pa_nil)) (nomark _)) (pss_one (ps_ret pe_bl)) pss_nil)
        (pss_cons (ps_set (i := 8) scLaw.nd rfl (Or.inl rfl) (pe_op op_catA (pv 7) (pe_op op_repN (pe_tup (pa_cons pe_int pa_nil)) (pe_call G1 hr1 rfl Dr.g Dr.k Dr.b .nil pass0 (pa_cons (pv 1) (pa_cons pe_int pa_nil))))))
        (pss_one (ps_if (PW.pt (pw_or (pt_cmpR op_ne (pe_call GO hr4 rfl NO.g NO.k NO.b .nil (passes_call LamX.takes0 (fun _ _ _ _ h => h)) (pa_cons (pv 8) (pa_cons (pv 13) pa_nil))) (pv 6) (nomark _))
            (pw_or (pt_cmpR op_ne (pe_call GO hr4 rfl NO.g NO.k NO.b .nil (passes_call LamX.takes0 (fun _ _ _ _ h => h)) (pa_cons (pe_callTy call_list_of (by rfl) B.list_ (by decide +kernel) (pa_cons (pv 8) pa_nil)) (pa_cons (pv 13) pa_nil))) (pv 6) (nomark _))
            (pw_or1 (pt_not (pt_val (pe_call G3 hr1 rfl Iw.g Iw.k Iw.b .nil pass0 (pa_cons (pe_call GO hr4 rfl NO.g NO.k NO.b .nil (passes_call LamX.takes0 (fun _ _ _ _ h => h)) (pa_cons (pv 7) (pa_cons (pv 13) pa_nil))) pa_nil)))))))) (pss_one (ps_ret pe_bl)) pss_nil))))))))
      (pss_cons (ps_asg (pe_tup (pa_cons (pe_call G2 hr2 rfl Pi.g Pi.k Pi.b .nil pass0 (pa_cons (pv 1) (pa_cons (pe_lst (pa_cons pe_int (pa_cons pe_int (pa_cons pe_int (pa_cons pe_int pa_nil))))) pa_nil)))
            (pa_cons (pe_call G2 hr2 rfl Pi.g Pi.k Pi.b .nil pass0 (pa_cons (pv 1) (pa_cons (pe_lst (pa_cons (pe_un un_neg pe_int) (pa_cons (pe_op op_sub (pe_un un_neg (pv 11)) pe_int) (pa_cons pe_bl (pa_cons pe_non (pa_cons pe_str (pa_cons (pe_tup (pa_cons pe_int pa_nil)) (pa_cons (pe_lst (pa_cons pe_int pa_nil)) pa_nil)))))))) pa_nil))) pa_nil)))
          (pg_tup (by rfl) (pgs_cons (pg_name (i := 13) scLaw.nd rfl (Or.inr rfl)) (pgs_cons (pg_name (i := 9) scLaw.nd rfl (Or.inr rfl)) pgs_nil))))
      (pss_cons (ps_set (i := 10) scLaw.nd rfl (Or.inr rfl) (pe_call G2 hr2 rfl Pi.g Pi.k Pi.b .nil pass0 (pa_cons (pv 1) (pa_cons (pe_lst (pa_cons pe_int (pa_cons pe_int (pa_cons pe_int (pa_cons pe_int (pa_cons pe_int (pa_cons pe_int (pa_cons pe_bl (pa_cons pe_non (pa_cons pe_str (pa_cons (pe_tup (pa_cons pe_int pa_nil)) (pa_cons (pe_un un_neg pe_int) (pa_cons (pe_op op_add (pv 11) pe_int) pa_nil))))))))))))) pa_nil))))
      (pss_cons (ps_if (pt_cmpR (op_neTS hu1) (lam (LamX.lamS_by (by decide +kernel)) rfl (fun _ _ _ _ _ => rfl) (fun A' outer' s' H' E' f' c' hr' => pe_call GG hr' rfl DG.g DG.k DG.b .nil takesLam (pa_cons (pv 9) (pa_cons (pv 10) pa_nil))))
            (pe_tup (pa_cons pe_str (pa_cons pe_str (pa_cons (pe_callB (call_reprQ hgd hu64) (by rfl) B.repr_ (by decide +kernel) (pa_cons (pv 9) pa_nil)) pa_nil)))) (nomark _)) (pss_one (ps_ret pe_bl)) pss_nil)
      (pss_cons (ps_if (pt_cmpR (op_neTS hu1) (lam (LamX.lamS_by (by decide +kernel)) rfl (fun _ _ _ _ _ => rfl) (fun A' outer' s' H' E' f' c' hr' => pe_call GG hr' rfl DG.g DG.k DG.b .nil takesLam (pa_cons (pv 11) (pa_cons (pv 10) pa_nil))))
            (pe_tup (pa_cons pe_str (pa_cons pe_str (pa_cons (pe_callB (call_reprQ hgd hu64) (by rfl) B.repr_ (by decide +kernel) (pa_cons (pv 10) pa_nil)) pa_nil)))) (nomark _)) (pss_one (ps_ret pe_bl)) pss_nil)
      (pss_cons (ps_if (pt_cmpR (op_neTS hu1) (lam (LamX.lamS_by (by decide +kernel)) rfl (fun _ _ _ _ _ => rfl) (fun A' outer' s' H' E' f' c' hr' => pe_call GO hr' rfl NO.g NO.k NO.b .nil takesLam (pa_cons (pv 9) (pa_cons (pv 10) pa_nil))))
            (pe_tup (pa_cons pe_str (pa_cons pe_str (pa_cons (pe_callB (call_reprQ hgd hu64) (by rfl) B.repr_ (by decide +kernel) (pa_cons (pv 10) pa_nil)) pa_nil)))) (nomark _)) (pss_one (ps_ret pe_bl)) pss_nil)
      (pss_cons (ps_set (i := 14) scLaw.nd rfl (Or.inr rfl) (pe_call G2 hr2 rfl Pi.g Pi.k Pi.b .nil pass0 (pa_cons (pv 1) (pa_cons (pe_lst (pa_cons pe_non (pa_cons pe_int (pa_cons pe_str (pa_cons (pe_tup (pa_cons (pv 13) pa_nil)) (pa_cons (pe_tup (pa_cons pe_int (pa_cons (pe_un un_neg pe_int) pa_nil))) (pa_cons (pe_tup (pa_cons pe_bl pa_nil)) (pa_cons (pe_lst (pa_cons pe_int (pa_cons pe_str pa_nil))) (pa_cons (pe_tup (pa_cons pe_int (pa_cons pe_non pa_nil))) (pa_cons (pe_disp (pps_cons pe_str pe_int pps_nil) rfl rfl (by simp) (by decide)) (pa_cons (pe_tup (pa_cons pe_int (pa_cons (pe_tup (pa_cons pe_int pa_nil)) pa_nil))) (pa_cons (pe_tup (pa_cons (pe_op op_add (pv 11) (pv 13)) pa_nil)) pa_nil)))))))))))) pa_nil))))
      (pss_one (ps_ret (pe_cmpR (op_eqTS hu1) (lam (LamX.lamS_by (by decide +kernel)) rfl (fun _ _ _ _ _ => rfl) (fun A' outer' s' H' E' f' c' hr' => pe_call GO hr' rfl NO.g NO.k NO.b .nil takesLam (pa_cons (pv 14) (pa_cons (pv 13) pa_nil))))
            (pe_tup (pa_cons pe_str (pa_cons (pe_callB (call_reprQ hgd hu64) (by rfl) B.repr_ (by decide +kernel) (pa_cons (pv 14) pa_nil)) pa_nil))) (nomark _))))))))))))))))), ?_⟩
    -- the pen
    refine ⟨_, rfl, a, ns, rfl, hS, fun H0 d cc pen0 fr0 nd0 => ?_⟩
    have hP0 : H0 Pt = some (.tbl #[]) := fr0 _ _ hP
    have st0 : Stt Pt lamQ d cc 0 H0 := ⟨pen0, fun pq hpq => by
      obtain rfl | hpq := List.mem_cons.mp hpq
      · exact LamX.TabS.nil hP0
      · exact (List.not_mem_nil hpq).elim⟩
    -- the known moduli
    refine ⟨(by show 3 ≤ sizeLine; decide), fun t0 n0 => ?_⟩
    have m0 : More H0 (upd H0 t0 (.tup [.int 2, .int 2, .int 1])) := More.new (fun _ _ e => e) n0
    have e0 : (upd H0 t0 (.tup [.int 2, .int 2, .int 1])) t0 = some (.tup [.int 2, .int 2, .int 1]) := upd_same
    generalize upd H0 t0 (.tup [.int 2, .int 2, .int 1]) = J0 at m0 e0 ⊢
    refine ⟨(by show 3 ≤ sizeLine; decide), fun t1 n1 => ?_⟩
    have m1 : More J0 (upd J0 t1 (.tup [.int 4, .int 2, .int 2])) := More.new (fun _ _ e => e) n1
    have e1 : (upd J0 t1 (.tup [.int 4, .int 2, .int 2])) t1 = some (.tup [.int 4, .int 2, .int 2]) := upd_same
    generalize upd J0 t1 (.tup [.int 4, .int 2, .int 2]) = J1 at m1 e1 ⊢
    refine ⟨(by show 3 ≤ sizeLine; decide), fun t2 n2 => ?_⟩
    have m2 : More J1 (upd J1 t2 (.tup [.int 8, .int 2, .int 3])) := More.new (fun _ _ e => e) n2
    have e2 : (upd J1 t2 (.tup [.int 8, .int 2, .int 3])) t2 = some (.tup [.int 8, .int 2, .int 3]) := upd_same
    generalize upd J1 t2 (.tup [.int 8, .int 2, .int 3]) = J2 at m2 e2 ⊢
    refine ⟨(by show 3 ≤ sizeLine; decide), fun t3 n3 => ?_⟩
    have m3 : More J2 (upd J2 t3 (.tup [.int 16, .int 2, .int 4])) := More.new (fun _ _ e => e) n3
    have e3 : (upd J2 t3 (.tup [.int 16, .int 2, .int 4])) t3 = some (.tup [.int 16, .int 2, .int 4]) := upd_same
    generalize upd J2 t3 (.tup [.int 16, .int 2, .int 4]) = J3 at m3 e3 ⊢
    refine ⟨(by show 3 ≤ sizeLine; decide), fun t4 n4 => ?_⟩
    have m4 : More J3 (upd J3 t4 (.tup [.int 3, .int 3, .int 1])) := More.new (fun _ _ e => e) n4
    have e4 : (upd J3 t4 (.tup [.int 3, .int 3, .int 1])) t4 = some (.tup [.int 3, .int 3, .int 1]) := upd_same
    generalize upd J3 t4 (.tup [.int 3, .int 3, .int 1]) = J4 at m4 e4 ⊢
    refine ⟨(by show 3 ≤ sizeLine; decide), fun t5 n5 => ?_⟩
    have m5 : More J4 (upd J4 t5 (.tup [.int 9, .int 3, .int 2])) := More.new (fun _ _ e => e) n5
    have e5 : (upd J4 t5 (.tup [.int 9, .int 3, .int 2])) t5 = some (.tup [.int 9, .int 3, .int 2]) := upd_same
    generalize upd J4 t5 (.tup [.int 9, .int 3, .int 2]) = J5 at m5 e5 ⊢
    refine ⟨(by show 3 ≤ sizeLine; decide), fun t6 n6 => ?_⟩
    have m6 : More J5 (upd J5 t6 (.tup [.int 27, .int 3, .int 3])) := More.new (fun _ _ e => e) n6
    have e6 : (upd J5 t6 (.tup [.int 27, .int 3, .int 3])) t6 = some (.tup [.int 27, .int 3, .int 3]) := upd_same
    generalize upd J5 t6 (.tup [.int 27, .int 3, .int 3]) = J6 at m6 e6 ⊢
    refine ⟨(by show 3 ≤ sizeLine; decide), fun t7 n7 => ?_⟩
    have m7 : More J6 (upd J6 t7 (.tup [.int 5, .int 5, .int 1])) := More.new (fun _ _ e => e) n7
    have e7 : (upd J6 t7 (.tup [.int 5, .int 5, .int 1])) t7 = some (.tup [.int 5, .int 5, .int 1]) := upd_same
    generalize upd J6 t7 (.tup [.int 5, .int 5, .int 1]) = J7 at m7 e7 ⊢
    refine ⟨(by show 3 ≤ sizeLine; decide), fun t8 n8 => ?_⟩
    have m8 : More J7 (upd J7 t8 (.tup [.int 25, .int 5, .int 2])) := More.new (fun _ _ e => e) n8
    have e8 : (upd J7 t8 (.tup [.int 25, .int 5, .int 2])) t8 = some (.tup [.int 25, .int 5, .int 2]) := upd_same
    generalize upd J7 t8 (.tup [.int 25, .int 5, .int 2]) = J8 at m8 e8 ⊢
    refine ⟨(by show 9 ≤ sizeLine; decide), fun l nl => ?_⟩
    have mL : More J8 (upd J8 l (.lst [.ref t0, .ref t1, .ref t2, .ref t3, .ref t4, .ref t5, .ref t6, .ref t7, .ref t8])) := More.new (fun _ _ e => e) nl
    have eL : (upd J8 l (.lst [.ref t0, .ref t1, .ref t2, .ref t3, .ref t4, .ref t5, .ref t6, .ref t7, .ref t8])) l = some (.lst [.ref t0, .ref t1, .ref t2, .ref t3, .ref t4, .ref t5, .ref t6, .ref t7, .ref t8]) := upd_same
    generalize upd J8 l (.lst [.ref t0, .ref t1, .ref t2, .ref t3, .ref t4, .ref t5, .ref t6, .ref t7, .ref t8]) = H1 at mL eL ⊢
    have f0 := mL _ _ (m8 _ _ (m7 _ _ (m6 _ _ (m5 _ _ (m4 _ _ (m3 _ _ (m2 _ _ (m1 _ _ (e0)))))))))
    have f1 := mL _ _ (m8 _ _ (m7 _ _ (m6 _ _ (m5 _ _ (m4 _ _ (m3 _ _ (m2 _ _ (e1))))))))
    have f2 := mL _ _ (m8 _ _ (m7 _ _ (m6 _ _ (m5 _ _ (m4 _ _ (m3 _ _ (e2)))))))
    have f3 := mL _ _ (m8 _ _ (m7 _ _ (m6 _ _ (m5 _ _ (m4 _ _ (e3))))))
    have f4 := mL _ _ (m8 _ _ (m7 _ _ (m6 _ _ (m5 _ _ (e4)))))
    have f5 := mL _ _ (m8 _ _ (m7 _ _ (m6 _ _ (e5))))
    have f6 := mL _ _ (m8 _ _ (m7 _ _ (e6)))
    have f7 := mL _ _ (m8 _ _ (e7))
    have f8 := mL _ _ (e8)
    have m01 : More H0 H1 := fun b o e => mL _ _ (m8 _ _ (m7 _ _ (m6 _ _ (m5 _ _ (m4 _ _ (m3 _ _ (m2 _ _ (m1 _ _ (m0 _ _ e)))))))))
    have st1 := st0.more m01
    have known : ∀ y ∈ [V.ref t0, V.ref t1, V.ref t2, V.ref t3, V.ref t4, V.ref t5, V.ref t6, V.ref t7, V.ref t8], ∃ (t : Addr) (m p k : Int), y = V.ref t ∧ H1 t = some (.tup [.int m, .int p, .int k]) ∧ ppT.lookup m = some [p, k] ∧ p.natAbs < 100 ∧ k.natAbs < 100 := by
      intro y hy
      simp only [List.mem_cons, List.not_mem_nil, or_false] at hy
      obtain rfl | rfl | rfl | rfl | rfl | rfl | rfl | rfl | rfl := hy
      · exact ⟨_, _, _, _, rfl, f0, by decide, by decide, by decide⟩
      · exact ⟨_, _, _, _, rfl, f1, by decide, by decide, by decide⟩
      · exact ⟨_, _, _, _, rfl, f2, by decide, by decide, by decide⟩
      · exact ⟨_, _, _, _, rfl, f3, by decide, by decide, by decide⟩
      · exact ⟨_, _, _, _, rfl, f4, by decide, by decide, by decide⟩
      · exact ⟨_, _, _, _, rfl, f5, by decide, by decide, by decide⟩
      · exact ⟨_, _, _, _, rfl, f6, by decide, by decide, by decide⟩
      · exact ⟨_, _, _, _, rfl, f7, by decide, by decide, by decide⟩
      · exact ⟨_, _, _, _, rfl, f8, by decide, by decide, by decide⟩
    clear m0 e0 m1 e1 m2 e2 m3 e3 m4 e4 m5 e5 m6 e6 m7 e7 m8 e8 f0 f1 f2 f3 f4 f5 f6 f7 f8 mL hP hP0 hS fr0 pen0
    refine ⟨_, rfl, l, rfl, ⟨_, SqL.of eL⟩, for_list (K := K) (a := l) (xs := [.ref t0, .ref t1, .ref t2, .ref t3, .ref t4, .ref t5, .ref t6, .ref t7, .ref t8])
      (fun _ σ H => ∃ z3 z4 z13 : Option V, σ = [some (.ref a), some (.ref d), some (.ref l), z3, z4, none, none, none, none, none, none, none, none, z13, none] ∧ More H1 H)
      ⟨none, none, none, rfl, fun _ _ e => e⟩ (fun i σ H _ ⟨_, _, _, _, m⟩ => SqL.of (m _ _ eL)) ?_ ?_⟩
    · rintro i y σ H hi ⟨z3, z4, z13, rfl, mo⟩
      obtain ⟨t, m, p, k, rfl, et, lk, pb, kb⟩ := known y (List.mem_of_getElem? hi)
      refine ⟨t, _, rfl, SqT.of (mo _ _ et), rfl, _, _, rfl, _, _, rfl, _, _, rfl, rfl, ?_⟩
      have sz : Sz (.tuple [.int p, .int k]) := (Sz.two (Sz.int (by omega)) (Sz.int (by omega)) dep_int (Nat.le_trans dep_int (by decide)) bulk_int bulk_int).1
      have sh : ∀ (H : Hp) (b : Addr), SqT K H b [.int p, .int k] → Shows K H (.ref b) (.tuple [.int p, .int k]) := fun H b h => Shows.of (.tup h (.cons (.int p) (.cons (.int k) .nil))) sz
      refine ⟨_, rfl, _, rfl, .inl ⟨m, [p, k], rfl, lk, fun b hb => ?_⟩⟩
      have s1 := sh _ _ hb
      refine ⟨_, _, rfl, s1.dq, s1.sh, s1.dp, s1.ln, _, rfl, _, rfl, (by show 2 ≤ sizeLine; decide), fun b2 nb2 => ?_⟩
      have s2 := sh _ b2 (SqT.of (H := upd H b2 (.tup [.int p, .int k])) upd_same)
      refine ⟨_, _, rfl, s2.dq, s2.sh, s2.dp, s2.ln, rfl, _, rfl, iteNS rfl ?_⟩
      exact ⟨_, _, _, rfl, mo.new nb2⟩
    rintro σ H2 ⟨z3, z4, z13, rfl, mo⟩
    have st2 := st1.more mo
    clear known st0 st1 m01 mo eL
    -- far
    refine ⟨_, rfl, d, cc, 0, rfl, st2.pen, by decide, by decide, fun r n3 H3 r0 r1 a3 b3 pen3 fr3 => ?_⟩
    have st3 := st2.off pen3 fr3
    clear pen3 fr3 st2
    -- odd
    refine ⟨_, rfl, _, rfl, (by show 1 ≤ sizeLine; decide), fun u1 nu1 => ?_⟩
    have ne1 := st3.ne nu1
    have k1 : More H3 (upd H3 u1 (.tup [.int 2])) := new_more nu1
    have v1 : (upd H3 u1 (.tup [.int 2])) u1 = some (.tup [.int 2]) := upd_same
    generalize upd H3 u1 (.tup [.int 2]) = H4 at k1 v1 ⊢
    have st4 := st3.more k1
    refine ⟨(by show 1 ≤ sizeLine; decide), fun u2 nu2 => ?_⟩
    have ne2 := st4.ne nu2
    have k2 : More H4 (upd H4 u2 (.lst [.int 4])) := new_more nu2
    have v2 : (upd H4 u2 (.lst [.int 4])) u2 = some (.lst [.int 4]) := upd_same
    generalize upd H4 u2 (.lst [.int 4]) = H5 at k2 v2 ⊢
    have st5 := st4.more k2
    refine ⟨_, rfl, _, _, rfl, rfl, _, rfl, _, rfl, _, _, rfl, rfl, ⟨by decide, by decide, by decide⟩, (by show 17 ≤ sizeLine; decide), fun u3 nu3 => ?_⟩
    have st6 := st5.more (new_more (o := .lst [V.int 0, .int 1, .int 6, .int 32, .int 81, .int 49, .int 125, .int 10, .int (-2), .bl true, .non, .str "2", .ref u1, .ref u2, .int (r + 28), .int (-r), .int (4 ^ 50)]) nu3)
    have w1 := new_more (o := .lst [V.int 0, .int 1, .int 6, .int 32, .int 81, .int 49, .int 125, .int 10, .int (-2), .bl true, .non, .str "2", .ref u1, .ref u2, .int (r + 28), .int (-r), .int (4 ^ 50)]) nu3 _ _ (k2 _ _ v1)
    have w2 := new_more (o := .lst [V.int 0, .int 1, .int 6, .int 32, .int 81, .int 49, .int 125, .int 10, .int (-2), .bl true, .non, .str "2", .ref u1, .ref u2, .int (r + 28), .int (-r), .int (4 ^ 50)]) nu3 _ _ v2
    refine ⟨d, cc, u3, n3, [V.int 0, .int 1, .int 6, .int 32, .int 81, .int 49, .int 125, .int 10, .int (-2), .bl true, .non, .str "2", .ref u1, .ref u2, .int (r + 28), .int (-r), .int (4 ^ 50)], rfl, st6.pen, upd_same, by show 0 < 17; decide, by show 17 ≤ 1000; decide, by omega, by omega, fun x H7 hx dr => ?_⟩
    have odd6 := odd_ok (K := K) (Bs.at ne1 w1 (fun ps z => by cases z)) (Bs.at ne2 w2 (fun ps z => by cases z)) r0 r1 x hx
    have st7 := st6.off dr.pen fun b o e hb => (dr.off b hb).trans e
    have odd7 := odd6.more (Go.bs (Go.off fun b o e hb => (dr.off b hb).trans e))
    clear odd6 hx dr w1 w2 st6 st5 st4 st3 v1 v2 k1 k2 nu1 nu2 nu3 ne1 ne2
    -- prime_power(7), and of what is no modulus
    refine ⟨_, rfl, .inl ⟨7, [7, 1], rfl, by decide, fun b7 hb7 => ⟨(by show 2 ≤ sizeLine; decide), fun tq ntq => ?_⟩⟩⟩
    refine ⟨b7, tq, [.int 7, .int 1], rfl, rfl, sqT_more (new_more ntq) hb7, SqT.of upd_same, by decide, _, rfl, iteF ?_⟩
    have st8 := st7.more (new_more (o := .tup [.int 7, .int 1]) ntq)
    have odd8 := odd7.more (Go.bs (Go.more (new_more (o := .tup [.int 7, .int 1]) ntq)))
    generalize upd H7 tq (.tup [.int 7, .int 1]) = H8 at st8 odd8 ⊢
    clear st7 odd7 hb7
    obtain ⟨⟨dx, sx⟩, cx⟩ := odd8
    refine ⟨st8.tab, fun H9 eN tN => ⟨_, rfl, _, rfl, .inr ⟨cx.imp id (fun h => h.more ((Go.ext eN).low)), fun dd hdd => .inl ⟨rfl, dd, _, x, dx, rfl, upd_same, sx.more ((go_new (Go.ext eN) hdd).low), fun tt htt => ?_⟩⟩⟩⟩
    have s9 := sx.more ((go_new (o := .tup [.str "number", .str "modulus", .str dx.shown]) (go_new (o := .xd [("number", x), ("what", .str "modulus")]) (Go.ext eN) hdd) htt).low)
    refine ⟨_, rfl, _, dx, rfl, s9.dq, s9.sh, s9.dp, s9.ln, (by show 3 ≤ sizeLine; decide), fun t5 ht5 => ?_⟩
    obtain ⟨st10, go10⟩ := why_end (o3 := .tup [.str "number", .str "modulus", .str dx.shown]) st8 eN tN hdd htt ht5
    refine ⟨tt, t5, [.str "number", .str "modulus", .str dx.shown], rfl, rfl, SqT.of (new_more ht5 _ _ upd_same), SqT.of upd_same, rfl, _, rfl, iteF ?_⟩
    generalize upd (upd (upd H9 dd (.xd [("number", x), ("what", .str "modulus")])) tt (.tup [.str "number", .str "modulus", .str dx.shown])) t5 (.tup [.str "number", .str "modulus", .str dx.shown]) = H10 at st10 ⊢
    have n3b : n3 ≤ 30 := b3
    clear b3 sx cx
    -- four laps
    refine ⟨4, rfl, by decide, by decide, for_range (lo := 0) (n := 4) (fun i σ H => ∃ (z5 z6 z7 z8 zp : Option V) (n' : Int), σ = [some (.ref a), some (.ref d), some (.ref l), z3, z4, z5, z6, z7, z8, none, none, some (.int r), some x, zp, none] ∧
        Stt Pt lamQ d cc n' H ∧ n3 + 1 ≤ n' ∧ n' ≤ n3 + 1 + 40 * (i : Int)) ⟨_, _, _, _, _, _, rfl, st10, by omega, by omega⟩ ?_ ?_⟩
    · rintro i σ H hi ⟨z5, z6, z7, z8, zp, n4, rfl, st, lo, up⟩
      refine ⟨_, rfl, (by show 4 ≤ sizeLine; decide), fun q1 nq1 => ?_⟩
      have sa := st.more (new_more (o := .lst [V.int 2, .int 3, .int 5, .int 7]) nq1)
      refine ⟨d, cc, q1, n4, [V.int 2, .int 3, .int 5, .int 7], rfl, sa.pen, upd_same, by decide, by decide, by omega, by omega, fun xp Ha hxp dra => ?_⟩
      obtain ⟨p, rfl, pr⟩ := pick_p hxp
      obtain ⟨p2, p7⟩ := isPr_small pr
      have sb := sa.off dra.pen fun b o e hb => (dra.off b hb).trans e
      clear sa dra hxp
      refine ⟨_, rfl, _, rfl, d, cc, _, rfl, sb.pen, by omega, by omega, fun r1' n5 Hb ra0 ra1 lo5 up5 penb frb => ?_⟩
      have sc := sb.off penb frb
      clear sb penb frb
      refine ⟨_, rfl, d, cc, n5, 10, rfl, sc.pen, by decide, by decide, by omega, by omega, fun r2' Hc rb0 rb1 drc => ?_⟩
      have sd := sc.off drc.pen fun b o e hb => (drc.off b hb).trans e
      clear sc drc
      refine ⟨(by show 2 ≤ sizeLine; decide), fun q2 nq2 => ?_⟩
      have se := sd.more (new_more (o := .lst [V.int r1', .int r2']) nq2)
      refine ⟨d, cc, q2, _, [V.int r1', .int r2'], rfl, se.pen, upd_same, by show 0 < 2; decide, by show 2 ≤ 1000; decide, by omega, by omega, fun y Hd hy drd => ?_⟩
      obtain ⟨nn, rfl, nb⟩ : ∃ nn : Nat, y = V.int nn ∧ nn < 2 ^ 400 := by
        have t57 : (10 : Nat) ^ 57 < 2 ^ 400 := by decide +kernel
        have t57i : (10 : Int) ^ 57 = ((10 ^ 57 : Nat) : Int) := by decide
        simp only [List.mem_cons, List.not_mem_nil, or_false] at hy
        obtain rfl | rfl := hy
        · refine ⟨r1'.toNat, by rw [Int.toNat_of_nonneg ra0], ?_⟩
          omega
        · refine ⟨r2'.toNat, by rw [Int.toNat_of_nonneg rb0], Nat.lt_of_lt_of_le (show r2'.toNat < 10 by omega) (by decide +kernel)⟩
      have sf := se.off drd.pen fun b o e hb => (drd.off b hb).trans e
      clear se drd hy
      refine ⟨(by show 2 ≤ sizeLine; decide), fun T0 nT0 => ⟨T0, _, rfl, SqT.of upd_same, rfl, _, _, rfl, _, _, rfl, rfl, ?_⟩⟩
      have sg := sf.more (new_more (o := .tup [V.int p, .int nn]) nT0)
      clear sf
      -- one of three
      refine ⟨_, rfl, _, rfl, _, rfl, _, rfl, d, cc, _, 40, rfl, sg.pen, by decide, by decide, by omega, by omega, fun m1 He m10 m11 dre => ?_⟩
      have sh := sg.off dre.pen fun b o e hb => (dre.off b hb).trans e
      clear sg dre
      refine ⟨p, m1.toNat, by rw [Int.toNat_of_nonneg m10]; rfl, by omega, by omega, _, rfl, _, rfl, d, cc, _, 40, rfl, sh.pen, by decide, by decide, by omega, by omega, fun m2 Hf m20 m21 drf => ?_⟩
      have si := sh.off drf.pen fun b o e hb => (drf.off b hb).trans e
      clear sh drf
      refine ⟨_, _, rfl, rfl, p, (1 + m2).toNat, by rw [Int.toNat_of_nonneg (show 0 ≤ 1 + m2 by omega)]; rfl, by omega, by omega, _, _, rfl, rfl, (by show 3 ≤ sizeLine; decide), fun q3 nq3 => ?_⟩
      have sj := si.more (new_more (o := .lst [V.int nn, .int ((p ^ m1.toNat : Nat) : Int), .int (((p ^ (1 + m2).toNat : Nat) : Int) - 1)]) nq3)
      refine ⟨d, cc, q3, _, [V.int nn, .int ((p ^ m1.toNat : Nat) : Int), .int (((p ^ (1 + m2).toNat : Nat) : Int) - 1)], rfl, sj.pen, upd_same, by show 0 < 3; decide, by show 3 ≤ 1000; decide, by omega, by omega, fun y Hg hy drg => ?_⟩
      obtain ⟨N, rfl, big⟩ : ∃ N : Nat, y = V.int N ∧ N < 2 ^ 400 := by
        simp only [List.mem_cons, List.not_mem_nil, or_false] at hy
        obtain rfl | rfl | rfl := hy
        · exact ⟨nn, rfl, nb⟩
        · exact ⟨_, rfl, (pow_big (by omega) (by omega) (by omega)).2⟩
        · obtain ⟨o1, o2⟩ := pow_big (p := p) (m := (1 + m2).toNat) (by omega) (by omega) (by omega)
          refine ⟨p ^ (1 + m2).toNat - 1, ?_, by omega⟩
          congr 1
          omega
      have sk := sj.off drg.pen fun b o e hb => (drg.off b hb).trans e
      clear sj drg hy si nb
      -- digits
      refine ⟨_, rfl, _, rfl, _, _, rfl, .inl ⟨N, p, rfl, rfl, pr, big, fun Hh t mo no et => ?_⟩⟩
      have sl := sk.more mo
      have len := dgs_len (show 2 ≤ p by omega) 400 N big
      have are := dgs_are (show 2 ≤ p by omega) N N (Nat.le_refl _)
      obtain ⟨y1, y2, y3⟩ := sz_ints (l := dgs p N) (fun i hi => by have := are i hi; omega) len
      refine ⟨_, rfl, _, .tuple ((dgs p N).map PyData.int), rfl, .tup (SqT.of et) (dq_ints _), y1, y2, y3, _, rfl, _, rfl, N, p, rfl, pr, big, fun Hi l2 mo2 no2 el => ?_⟩
      refine ⟨l2, _, rfl, .inl ⟨SqL.of el, fun t2 nt2 => ⟨_, .tuple ((dgs p N).map PyData.int), rfl, .tup (SqT.of upd_same) (dq_ints _), y1, y2, y3, rfl, _, rfl, iteNS rfl ?_⟩⟩⟩
      have et2 := new_more (o := .tup ((dgs p N).map V.int)) nt2 _ _ (mo2 _ _ et)
      have sm := (sl.more mo2).more (new_more (o := .tup ((dgs p N).map V.int)) nt2)
      generalize upd Hi t2 (.tup ((dgs p N).map V.int)) = Hj at et2 sm ⊢
      clear sl sk mo mo2 el et no no2 y1 y2 y3
      -- zeros at the end
      refine ⟨_, rfl, (by show 1 ≤ sizeLine; decide), fun z nz => ⟨_, rfl, d, cc, _, 5, rfl, (sm.more (new_more (o := .tup [V.int 0]) nz)).pen, by decide, by decide, by omega, by omega, fun k Hk k0 k1 drk => ?_⟩⟩
      have sn := (sm.more (new_more (o := .tup [V.int 0]) nz)).off drk.pen fun b o e hb => (drk.off b hb).trans e
      have zd := sm.ne nz
      have hz : SqT K Hk z [V.int 0] := SqT.of ((drk.off z zd).trans upd_same)
      have td : t ≠ d := by
        obtain ⟨o, e⟩ := sm.pen.at
        obtain ⟨kvs, _, _, _, _, e2, _⟩ := sm.pen
        intro q
        rw [q, e2] at et2
        cases et2
      have et3 : Hk t = some (.tup ((dgs p N).map V.int)) := (drk.off t td).trans (new_more nz _ _ et2)
      clear sm drk et2 nz
      refine rep_any hz k0 k1 fun b Hl mol hb => cat_any (SqT.of (mol _ _ et3)) hb (by rw [List.length_map, List.length_replicate]; omega) fun e Hm mom he => ?_
      have so := (sn.more mol).more mom
      have et4 := mom _ _ (mol _ _ et3)
      have map0 : (dgs p N).map V.int ++ List.replicate k.toNat (V.int 0) = (dgs p N ++ List.replicate k.toNat 0).map V.int := by
        rw [List.map_append, List.map_replicate]
      rw [map0] at he
      have few : (dgs p N ++ List.replicate k.toNat 0).length ≤ 1000 := by
        rw [List.length_append, List.length_replicate]
        omega
      have ok : ∀ q ∈ dgs p N ++ List.replicate k.toNat 0, 0 ≤ q ∧ q < (p : Int) := by
        intro q hq
        rcases List.mem_append.mp hq with h | h
        · exact are q h
        · rw [(List.mem_replicate.mp h).2]
          omega
      have v1 : val p (dgs p N ++ List.replicate k.toNat 0) = N := by
        rw [val_zeros]
        exact val_dgs (by omega) N N (Nat.le_refl _)
      have v2 : val p (dgs p N) = N := val_dgs (by omega) N N (Nat.le_refl _)
      clear sn hz hb et3 mol mom
      refine ⟨_, rfl, _, rfl, _, _, rfl, .inr ⟨p, rfl, pr, .inl ⟨e, _, rfl, .inr he, few, ok, fun Hn mon => ?_⟩⟩⟩
      refine ⟨_, rfl, rfl, _, rfl, iteNS (congrArg V.int v1) ?_⟩
      refine ⟨_, rfl, e, _, rfl, .inr (sqT_more mon he), fun l3 nl3 => ⟨_, rfl, _, _, rfl, .inr ⟨p, rfl, pr, .inl ⟨l3, _, rfl, .inl (SqL.of upd_same), few, ok, fun Ho moo => ?_⟩⟩⟩⟩
      refine ⟨_, rfl, rfl, _, rfl, iteNS (congrArg V.int v1) ?_⟩
      have mno : More Hm Ho := fun b o e => moo b o (new_more nl3 b o (mon b o e))
      refine ⟨_, rfl, _, rfl, _, _, rfl, .inr ⟨p, rfl, pr, .inl ⟨t, dgs p N, rfl, .inr (SqT.of (mno _ _ et4)), by omega, are, fun Hp' mop => ?_⟩⟩⟩
      refine ⟨_, rfl, .inl ⟨_, rfl, _, rfl, iteF ?_⟩⟩
      exact ⟨_, _, _, _, _, _, rfl, (so.more mno).more mop, by omega, by omega⟩
    rintro σ H ⟨z5, z6, z7, z8, zp, n4, rfl, st, lo, up⟩
    -- a prime, and no number
    refine ⟨_, rfl, (by show 4 ≤ sizeLine; decide), fun q1 nq1 => ?_⟩
    have sa := st.more (new_more (o := .lst [V.int 2, .int 3, .int 5, .int 7]) nq1)
    refine ⟨d, cc, q1, n4, [V.int 2, .int 3, .int 5, .int 7], rfl, sa.pen, upd_same, by decide, by decide, by omega, by omega, fun xp Ha hxp dra => ?_⟩
    obtain ⟨p, rfl, pr⟩ := pick_p hxp
    obtain ⟨p2, p7⟩ := isPr_small pr
    have sb := sa.off dra.pen fun b o e hb => (dra.off b hb).trans e
    clear sa dra hxp st
    refine ⟨_, rfl, _, rfl, _, rfl, _, rfl, _, _, rfl, rfl, (by show 1 ≤ sizeLine; decide), fun u1 nu1 => ?_⟩
    have ne_u1 := sb.ne nu1
    have k_u1 : More Ha (upd Ha u1 (.tup [.int 3])) := new_more nu1
    have v_u1 : (upd Ha u1 (.tup [.int 3])) u1 = some (.tup [.int 3]) := upd_same
    generalize upd Ha u1 (.tup [.int 3]) = Hb at k_u1 v_u1 ⊢
    have sc := sb.more k_u1
    refine ⟨(by show 1 ≤ sizeLine; decide), fun u2 nu2 => ?_⟩
    have ne_u2 := sc.ne nu2
    have k_u2 : More Hb (upd Hb u2 (.lst [.int 1])) := new_more nu2
    have v_u2 : (upd Hb u2 (.lst [.int 1])) u2 = some (.lst [.int 1]) := upd_same
    generalize upd Hb u2 (.lst [.int 1]) = Hc at k_u2 v_u2 ⊢
    have sd := sc.more k_u2
    refine ⟨(by show 7 ≤ sizeLine; decide), fun u3 nu3 => ?_⟩
    have w1 := new_more (o := .lst [V.int (-1), .int (-r - 1), .bl true, .non, .str "5", .ref u1, .ref u2]) nu3 _ _ (k_u2 _ _ v_u1)
    have w2 := new_more (o := .lst [V.int (-1), .int (-r - 1), .bl true, .non, .str "5", .ref u1, .ref u2]) nu3 _ _ v_u2
    have se := sd.more (new_more (o := .lst [V.int (-1), .int (-r - 1), .bl true, .non, .str "5", .ref u1, .ref u2]) nu3)
    refine ⟨d, cc, u3, _, [V.int (-1), .int (-r - 1), .bl true, .non, .str "5", .ref u1, .ref u2], rfl, se.pen, upd_same, by show 0 < 7; decide, by show 7 ≤ 1000; decide, by omega, by omega, fun xb Hd hxb drb => ?_⟩
    have bad := (bad_ok (K := K) (Bs.at ne_u1 w1 (fun ps z => by cases z)) (Bs.at ne_u2 w2 (fun ps z => by cases z)) r0 r1 xb hxb).more (Go.bs (Go.off fun b o e hb => (drb.off b hb).trans e))
    have sf := se.off drb.pen fun b o e hb => (drb.off b hb).trans e
    clear hxb drb w1 w2 se sd sc sb v_u1 v_u2 k_u1 k_u2 nu1 nu2 nu3 ne_u1 ne_u2
    refine ⟨(by show 2 ≤ sizeLine; decide), fun T0 nT0 => ⟨T0, _, rfl, SqT.of upd_same, rfl, _, _, rfl, _, _, rfl, rfl, ?_⟩⟩
    have sg := sf.more (new_more (o := .tup [V.int p, xb]) nT0)
    have bad := bad.more (Go.bs (Go.more (new_more (o := .tup [V.int p, xb]) nT0)))
    generalize upd Hd T0 (.tup [V.int p, xb]) = He at sg bad ⊢
    clear sf
    -- no base
    refine ⟨_, rfl, (by show 1 ≤ sizeLine; decide), fun u1 nu1 => ?_⟩
    have bad0 := bad.more (Go.bs (Go.more (new_more (o := .tup [V.int 2]) nu1)))
    have ne_u1 := sg.ne nu1
    have k_u1 : More He (upd He u1 (.tup [.int 2])) := new_more nu1
    have v_u1 : (upd He u1 (.tup [.int 2])) u1 = some (.tup [.int 2]) := upd_same
    generalize upd He u1 (.tup [.int 2]) = Hf at k_u1 v_u1 ⊢
    have sh := sg.more k_u1
    refine ⟨_, rfl, _, rfl, _, _, rfl, rfl, (by show 12 ≤ sizeLine; decide), fun u3 nu3 => ?_⟩
    have w1 := new_more (o := .lst [V.int 0, .int 1, .int 4, .int 6, .int 9, .int 11, .bl true, .non, .str "3", .ref u1, .int (-2), .int (r + 8)]) nu3 _ _ v_u1
    have si := sh.more (new_more (o := .lst [V.int 0, .int 1, .int 4, .int 6, .int 9, .int 11, .bl true, .non, .str "3", .ref u1, .int (-2), .int (r + 8)]) nu3)
    refine ⟨d, cc, u3, _, [V.int 0, .int 1, .int 4, .int 6, .int 9, .int 11, .bl true, .non, .str "3", .ref u1, .int (-2), .int (r + 8)], rfl, si.pen, upd_same, by show 0 < 12; decide, by show 12 ≤ 1000; decide, by omega, by omega, fun xq Hg hxq drq => ?_⟩
    have gq : Go d (upd Hf u3 (.lst [V.int 0, .int 1, .int 4, .int 6, .int 9, .int 11, .bl true, .non, .str "3", .ref u1, .int (-2), .int (r + 8)])) Hg := Go.off fun b o e hb => (drq.off b hb).trans e
    have bas := (bas_ok (K := K) (Bs.at ne_u1 w1 (fun ps z => by cases z)) r0 r1 xq hxq).more (Go.bs gq)
    have bad := ((bad.more (Go.bs (Go.more k_u1))).more (Go.bs (Go.more (new_more (o := .lst [V.int 0, .int 1, .int 4, .int 6, .int 9, .int 11, .bl true, .non, .str "3", .ref u1, .int (-2), .int (r + 8)]) nu3)))).more (Go.bs gq)
    have sj := si.off drq.pen fun b o e hb => (drq.off b hb).trans e
    clear hxq drq w1 si sh sg v_u1 k_u1 nu1 nu3 ne_u1 gq bad0
    obtain ⟨⟨db, sxb⟩, cb⟩ := bad
    obtain ⟨⟨dq, sxq⟩, cq⟩ := bas
    -- digits(bad, base)
    refine ⟨sj.tab, fun H9 eN tN => ⟨_, rfl, _, rfl, _, _, rfl, .inr (.inl ⟨cb.imp id (fun h => NoInt.more ((Go.ext eN).low) h), fun dd hdd => .inl ⟨rfl, dd, _, xb, db, rfl, upd_same, sxb.more ((go_new (Go.ext eN) hdd).low), fun tt htt => ?_⟩⟩)⟩⟩
    have s9 := sxb.more ((go_new (o := .tup [.str "number", .str "n", .str db.shown]) (go_new (o := .xd [("number", xb), ("what", .str "n")]) (Go.ext eN) hdd) htt).low)
    refine ⟨_, rfl, _, db, rfl, s9.dq, s9.sh, s9.dp, s9.ln, (by show 3 ≤ sizeLine; decide), fun t5 ht5 => ?_⟩
    obtain ⟨sk, go⟩ := why_end (o1 := .xd [("number", xb), ("what", .str "n")]) (o2 := .tup [.str "number", .str "n", .str db.shown]) (o3 := .tup [.str "number", .str "n", .str db.shown]) sj eN tN hdd htt ht5
    refine ⟨tt, t5, [.str "number", .str "n", .str db.shown], rfl, rfl, SqT.of (new_more ht5 _ _ upd_same), SqT.of upd_same, rfl, _, rfl, iteF ?_⟩
    generalize upd (upd (upd H9 dd (.xd [("number", xb), ("what", .str "n")])) tt (.tup [.str "number", .str "n", .str db.shown])) t5 (.tup [.str "number", .str "n", .str db.shown]) = Hh at sk go ⊢
    have sxb := sxb.more go.bs
    have sxq := sxq.more go.bs
    have cb := cb.imp id (fun h => NoInt.more go.bs h)
    have cq := Or.imp id (fun h => NoInt.more go.bs h) cq
    clear s9 go eN tN hdd htt ht5 sj
    -- digits(far, base)
    refine ⟨sk.tab, fun H9 eN tN => ⟨_, rfl, _, rfl, _, _, rfl, .inr (.inr ⟨r, rfl, r0, Or.imp id (fun h => NoInt.more ((Go.ext eN).low) h) cq, fun dd hdd => .inl ⟨rfl, dd, _, xq, dq, rfl, upd_same, sxq.more ((go_new (Go.ext eN) hdd).low), fun tt htt => ?_⟩⟩)⟩⟩
    have s9 := sxq.more ((go_new (o := .tup [.str "number", .str "p", .str dq.shown]) (go_new (o := .xd [("number", xq), ("what", .str "p")]) (Go.ext eN) hdd) htt).low)
    refine ⟨_, rfl, _, dq, rfl, s9.dq, s9.sh, s9.dp, s9.ln, (by show 3 ≤ sizeLine; decide), fun t5 ht5 => ?_⟩
    obtain ⟨sl, go⟩ := why_end (o1 := .xd [("number", xq), ("what", .str "p")]) (o2 := .tup [.str "number", .str "p", .str dq.shown]) (o3 := .tup [.str "number", .str "p", .str dq.shown]) sk eN tN hdd htt ht5
    refine ⟨tt, t5, [.str "number", .str "p", .str dq.shown], rfl, rfl, SqT.of (new_more ht5 _ _ upd_same), SqT.of upd_same, rfl, _, rfl, iteF ?_⟩
    generalize upd (upd (upd H9 dd (.xd [("number", xq), ("what", .str "p")])) tt (.tup [.str "number", .str "p", .str dq.shown])) t5 (.tup [.str "number", .str "p", .str dq.shown]) = Hi at sl go ⊢
    have sxb := sxb.more go.bs
    have sxq := sxq.more go.bs
    have cb := cb.imp id (fun h => NoInt.more go.bs h)
    have cq := Or.imp id (fun h => NoInt.more go.bs h) cq
    clear s9 go eN tN hdd htt ht5 sk
    -- number_of(bad, base)
    refine ⟨sl.tab, fun H9 eN tN => ⟨_, rfl, _, rfl, _, _, rfl, .inl ⟨Or.imp id (fun h => NoInt.more ((Go.ext eN).low) h) cq, fun dd hdd => .inl ⟨rfl, dd, _, xq, dq, rfl, upd_same, sxq.more ((go_new (Go.ext eN) hdd).low), fun tt htt => ?_⟩⟩⟩⟩
    have s9 := sxq.more ((go_new (o := .tup [.str "number", .str "p", .str dq.shown]) (go_new (o := .xd [("number", xq), ("what", .str "p")]) (Go.ext eN) hdd) htt).low)
    refine ⟨_, rfl, _, dq, rfl, s9.dq, s9.sh, s9.dp, s9.ln, (by show 3 ≤ sizeLine; decide), fun t5 ht5 => ?_⟩
    obtain ⟨sm, go⟩ := why_end (o1 := .xd [("number", xq), ("what", .str "p")]) (o2 := .tup [.str "number", .str "p", .str dq.shown]) (o3 := .tup [.str "number", .str "p", .str dq.shown]) sl eN tN hdd htt ht5
    refine ⟨tt, t5, [.str "number", .str "p", .str dq.shown], rfl, rfl, SqT.of (new_more ht5 _ _ upd_same), SqT.of upd_same, rfl, _, rfl, iteF ?_⟩
    generalize upd (upd (upd H9 dd (.xd [("number", xq), ("what", .str "p")])) tt (.tup [.str "number", .str "p", .str dq.shown])) t5 (.tup [.str "number", .str "p", .str dq.shown]) = Hj at sm go ⊢
    clear s9 go eN tN hdd htt ht5 sl
    clear sxb sxq cb cq
    -- no row
    refine ⟨_, rfl, _, rfl, (by show 1 ≤ sizeLine; decide), fun v1 nv1 => ?_⟩
    have ne_v1 := sm.ne nv1
    have k_v1 : More Hj (upd Hj v1 (.tup [.int (p : Int)])) := new_more nv1
    have v_v1 : (upd Hj v1 (.tup [.int (p : Int)])) v1 = some (.tup [.int (p : Int)]) := upd_same
    generalize upd Hj v1 (.tup [.int (p : Int)]) = R1 at k_v1 v_v1 ⊢
    have s1 := sm.more k_v1
    refine ⟨_, rfl, (by show 2 ≤ sizeLine; decide), fun v2 nv2 => ?_⟩
    have ne_v2 := s1.ne nv2
    have k_v2 : More R1 (upd R1 v2 (.tup [.int 0, .int (-1)])) := new_more nv2
    have v_v2 : (upd R1 v2 (.tup [.int 0, .int (-1)])) v2 = some (.tup [.int 0, .int (-1)]) := upd_same
    generalize upd R1 v2 (.tup [.int 0, .int (-1)]) = R2 at k_v2 v_v2 ⊢
    have s2 := s1.more k_v2
    refine ⟨(by show 1 ≤ sizeLine; decide), fun v3 nv3 => ?_⟩
    have ne_v3 := s2.ne nv3
    have k_v3 : More R2 (upd R2 v3 (.tup [.bl true])) := new_more nv3
    have v_v3 : (upd R2 v3 (.tup [.bl true])) v3 = some (.tup [.bl true]) := upd_same
    generalize upd R2 v3 (.tup [.bl true]) = R3 at k_v3 v_v3 ⊢
    have s3 := s2.more k_v3
    refine ⟨(by show 2 ≤ sizeLine; decide), fun vl nvl => ?_⟩
    have ne_vl := s3.ne nvl
    have k_vl : More R3 (upd R3 vl (.lst [.int 0, .str "1"])) := new_more nvl
    have v_vl : (upd R3 vl (.lst [.int 0, .str "1"])) vl = some (.lst [.int 0, .str "1"]) := upd_same
    generalize upd R3 vl (.lst [.int 0, .str "1"]) = R4 at k_vl v_vl ⊢
    have s4 := s3.more k_vl
    refine ⟨(by show 2 ≤ sizeLine; decide), fun v4 nv4 => ?_⟩
    have ne_v4 := s4.ne nv4
    have k_v4 : More R4 (upd R4 v4 (.tup [.int 0, .non])) := new_more nv4
    have v_v4 : (upd R4 v4 (.tup [.int 0, .non])) v4 = some (.tup [.int 0, .non]) := upd_same
    generalize upd R4 v4 (.tup [.int 0, .non]) = R5 at k_v4 v_v4 ⊢
    have s5 := s4.more k_v4
    intro vd nvd
    refine ⟨upd_same, [(Sum.inr "a", .int 1)], rfl, (by show 1 ≤ 15; decide), ?_⟩
    rw [upd_upd]
    have ne_vd := s5.ne nvd
    have k_vd : More R5 (upd R5 vd (.dK (mergeK [] [(Sum.inr "a", .int 1)]))) := new_more nvd
    have v_vd : (upd R5 vd (.dK (mergeK [] [(Sum.inr "a", .int 1)]))) vd = some (.dK (mergeK [] [(Sum.inr "a", .int 1)])) := upd_same
    generalize upd R5 vd (.dK (mergeK [] [(Sum.inr "a", .int 1)])) = R6 at k_vd v_vd ⊢
    have s6 := s5.more k_vd
    refine ⟨(by show 1 ≤ sizeLine; decide), fun v5 nv5 => ?_⟩
    have ne_v5 := s6.ne nv5
    have k_v5 : More R6 (upd R6 v5 (.tup [.int 1])) := new_more nv5
    have v_v5 : (upd R6 v5 (.tup [.int 1])) v5 = some (.tup [.int 1]) := upd_same
    generalize upd R6 v5 (.tup [.int 1]) = R7 at k_v5 v_v5 ⊢
    have s7 := s6.more k_v5
    refine ⟨(by show 2 ≤ sizeLine; decide), fun v6 nv6 => ?_⟩
    have ne_v6 := s7.ne nv6
    have k_v6 : More R7 (upd R7 v6 (.tup [.int 0, .ref v5])) := new_more nv6
    have v_v6 : (upd R7 v6 (.tup [.int 0, .ref v5])) v6 = some (.tup [.int 0, .ref v5]) := upd_same
    generalize upd R7 v6 (.tup [.int 0, .ref v5]) = R8 at k_v6 v_v6 ⊢
    have s8 := s7.more k_v6
    refine ⟨_, rfl, _, rfl, _, _, rfl, rfl, (by show 1 ≤ sizeLine; decide), fun v7 nv7 => ?_⟩
    have ne_v7 := s8.ne nv7
    have k_v7 : More R8 (upd R8 v7 (.tup [.int (r + p)])) := new_more nv7
    have v_v7 : (upd R8 v7 (.tup [.int (r + p)])) v7 = some (.tup [.int (r + p)]) := upd_same
    generalize upd R8 v7 (.tup [.int (r + p)]) = R9 at k_v7 v_v7 ⊢
    have s9 := s8.more k_v7
    refine ⟨(by show 11 ≤ sizeLine; decide), fun vL nvL => ?_⟩
    have kL := new_more (o := .lst [V.non, .int 5, .str "01", .ref v1, .ref v2, .ref v3, .ref vl, .ref v4, .ref vd, .ref v6, .ref v7]) nvL
    have g_v1 := Bs.at ne_v1 (kL _ _ (k_v7 _ _ (k_v6 _ _ (k_v5 _ _ (k_vd _ _ (k_v4 _ _ (k_vl _ _ (k_v3 _ _ (k_v2 _ _ (v_v1)))))))))) (fun ps z => by cases z)
    have g_v2 := Bs.at ne_v2 (kL _ _ (k_v7 _ _ (k_v6 _ _ (k_v5 _ _ (k_vd _ _ (k_v4 _ _ (k_vl _ _ (k_v3 _ _ (v_v2))))))))) (fun ps z => by cases z)
    have g_v3 := Bs.at ne_v3 (kL _ _ (k_v7 _ _ (k_v6 _ _ (k_v5 _ _ (k_vd _ _ (k_v4 _ _ (k_vl _ _ (v_v3)))))))) (fun ps z => by cases z)
    have g_vl := Bs.at ne_vl (kL _ _ (k_v7 _ _ (k_v6 _ _ (k_v5 _ _ (k_vd _ _ (k_v4 _ _ (v_vl))))))) (fun ps z => by cases z)
    have g_v4 := Bs.at ne_v4 (kL _ _ (k_v7 _ _ (k_v6 _ _ (k_v5 _ _ (k_vd _ _ (v_v4)))))) (fun ps z => by cases z)
    have g_vd := Bs.at ne_vd (kL _ _ (k_v7 _ _ (k_v6 _ _ (k_v5 _ _ (v_vd))))) (fun ps z => by cases z)
    have g_v5 := Bs.at ne_v5 (kL _ _ (k_v7 _ _ (k_v6 _ _ (v_v5)))) (fun ps z => by cases z)
    have g_v6 := Bs.at ne_v6 (kL _ _ (k_v7 _ _ (v_v6))) (fun ps z => by cases z)
    have g_v7 := Bs.at ne_v7 (kL _ _ (v_v7)) (fun ps z => by cases z)
    have s10 := s9.more kL
    refine ⟨d, cc, vL, _, [V.non, .int 5, .str "01", .ref v1, .ref v2, .ref v3, .ref vl, .ref v4, .ref vd, .ref v6, .ref v7], rfl, s10.pen, upd_same, by show 0 < 11; decide, by show 11 ≤ 1000; decide, by omega, by omega, fun xr Hk hxr drr => ?_⟩
    have gr : Go d (upd R9 vL (.lst [V.non, .int 5, .str "01", .ref v1, .ref v2, .ref v3, .ref vl, .ref v4, .ref vd, .ref v6, .ref v7])) Hk := Go.off fun b o e hb => (drr.off b hb).trans e
    have row := (row_ok (K := K) g_v1 g_v2 g_v3 g_vl g_v4 g_vd g_v5 g_v6 g_v7 r0 r1 p2 p7 xr hxr).more (Go.bs gr)
    have s11 := s10.off drr.pen fun b o e hb => (drr.off b hb).trans e
    obtain ⟨⟨dr, sxr⟩, cr⟩ := row
    have crM : ∀ H9, LamX.ExtN Hk H9 → BadW K H9 p xr := fun H9 eN => (Rw.more (Go.ext eN).low ⟨⟨dr, sxr⟩, cr⟩).2
    refine ⟨s11.tab, fun H9 eN tN => ⟨_, rfl, _, rfl, _, _, rfl, .inr ⟨p, rfl, pr, .inr ⟨crM H9 eN, fun Hm mm dd hdd => .inr ⟨rfl, dd, xr, dr, rfl, upd_same, sxr.more ((go_new ((Go.ext eN).trans (Go.more mm)) hdd).low), fun tt htt => ?_⟩⟩⟩⟩⟩
    have s12 := sxr.more ((go_new (o := .tup [.str "row", .str dr.shown]) (go_new (o := .xd [("row", xr)]) ((Go.ext eN).trans (Go.more mm)) hdd) htt).low)
    refine ⟨_, rfl, _, dr, rfl, s12.dq, s12.sh, s12.dp, s12.ln, (by show 2 ≤ sizeLine; decide), fun t5 ht5 => ?_⟩
    exact ⟨tt, t5, [.str "row", .str dr.shown], rfl, rfl, SqT.of (new_more ht5 _ _ upd_same), SqT.of upd_same, rfl, fin _⟩
end
end K01

namespace K01
open PySem L2 Gd
/-! ### what the top has written -/
structure ErIn (K : PySem.W.Frag) (x : Str) (C : Addr) : Prop where
  aC : PySem.W.nsIn K mainGlobals x = some (some (.ref C))
  kC : PySem.W.keepIn K (.ref C) = true
  ga : PySem.W.findIn K (.ref C) "__getattribute__" = some (some (.builtin "BaseException.__getattribute__"))
  gg : PySem.W.findIn K (.ref C) "__getattr__" = some none
  be : PySem.W.subIn K (.ref C) (.type "BaseException") = some true
  hd : PySem.W.hasDictIn K C = true
structure IniIn (K : PySem.W.Frag) (q : Str) (st : Stmt) (C fI : Addr) (oc kV dc pm cd ct : Value) (od an : Option Addr) (sl : Array (Option Value)) (nm q' : Str) (N : Addr) (bs : List Value) (ce : Addr) (sn : List Str) (sub : List Value) (ab : Bool) (col : Option Bool) (dd : Option Addr) (m0 m1 m2 m3 m5 : Option Value) : Prop where
  xL : K.lookup C = some (excClassObj nm q' C N bs [.ref ce, .type "ValueError", .type "Exception", .type "BaseException", .type "object"] true sn sub ab col dd m0 m1 m2 m3 m5 "ValueError.__new__")
  sa : PySem.W.findIn K (.ref C) "__setattr__" = some (some (.builtin "object.__setattr__"))
  tC : PySem.W.typeIn K (.ref C) = some (.type "type")
  iC : PySem.W.findIn K (.ref C) "__init__" = some (some (.ref fI))
  tI : PySem.W.typeIn K (.ref fI) = some (.type "function")
  lI : K.lookup fI = some ⟨oc, od, .func (PySem.W.fnOf "__init__" q (defArgs st) (defBody st) (defScope st) .none kV dc pm an cd ct), sl⟩
  cI : PySem.W.codeIn K cd q = true
  kI : PySem.W.keepIn K (.ref fI) = true
theorem er_of {K : PySem.W.Frag} {h : Heap} {mg : Str → Option Value} (X : K.In h) (G : h.Ns mainGlobals mg) {x q : Str} {st : Stmt} {fs : List Str} {C fI : Addr} {oc kV dc pm cd ct : Value} {od an : Option Addr} {sl : Array (Option Value)} {nm q' : Str} {N : Addr} {bs : List Value} {ce : Addr} {sn : List Str} {sub : List Value} {ab : Bool} {col : Option Bool} {dd : Option Addr} {m0 m1 m2 m3 m5 : Option Value}
    (E : ErIn K x C) (I : IniIn K q st C fI oc kV dc pm cd ct od an sl nm q' N bs ce sn sub ab col dd m0 m1 m2 m3 m5) (no : ∀ g ∈ fs, PySem.W.findIn K (.ref C) g = some none)
    (b : ∀ (kV doc pm : Value) (an : Option Addr) (cdv ct : Value) (us : List Value), us.length = (("self" : Str) :: fs).length → bindArgs (PySem.W.fnOf "__init__" q (defArgs st) (defBody st) (defScope st) .none kV doc pm an cdv ct) ⟨us, []⟩ = pure ((("self" : Str) :: fs).zip us)) :
    Er K mg x q C fI fs st (PySem.W.fnOf "__init__" q (defArgs st) (defBody st) (defScope st) .none kV dc pm an cd ct) := by
  have F := fun_mk (st := st) I.lI I.cI I.kI
  exact ⟨⟨⟨nm, q', N, bs, _, sn, sub, ab, col, dd, m0, m1, m2, m3, m5, I.xL, by show PySem.HandSPX.refsVE [.type "ValueError", .type "Exception", .type "BaseException", .type "object"] = true; decide +kernel⟩, I.sa, E.be, I.tC, E.kC⟩, I.iC, I.tI, F, F.binds b, no, PySem.W.mg_of X G E.aC⟩
theorem all_mk {l : PySem.W.OpenLaw} {w : World} {K : PySem.W.Frag} {h : Heap} {mg : Str → Option Value} {fa ce CN CR D1 D2 c Pt gF : Addr} (X : K.In h) (G : h.Ns mainGlobals mg) (hfa : mg "law" = some (.ref fa))
    {i0 : Addr} {oc0 kV0 dc0 pm0 cd0 ct0 : Value} {od0 an0 : Option Addr} {sl0 : Array (Option Value)} {nm0 q0 : Str} {N0 : Addr} {bs0 : List Value} {sn0 : List Str} {sub0 : List Value} {ab0 : Bool} {col0 : Option Bool} {dd0 : Option Addr} {m00 m10 m20 m30 m50 : Option Value}
    {i1 : Addr} {oc1 kV1 dc1 pm1 cd1 ct1 : Value} {od1 an1 : Option Addr} {sl1 : Array (Option Value)} {nm1 q1 : Str} {N1 : Addr} {bs1 : List Value} {sn1 : List Str} {sub1 : List Value} {ab1 : Bool} {col1 : Option Bool} {dd1 : Option Addr} {m01 m11 m21 m31 m51 : Option Value}
    {g0 : Addr} {ood0 oan0 : Option Addr} {osl0 : Array (Option Value)} {ooc0 okV0 odc0 opm0 ocd0 oct0 : Value}
    {g1 : Addr} {ood1 oan1 : Option Addr} {osl1 : Array (Option Value)} {ooc1 okV1 odc1 opm1 ocd1 oct1 : Value}
    {g2 : Addr} {ood2 oan2 : Option Addr} {osl2 : Array (Option Value)} {ooc2 okV2 odc2 opm2 ocd2 oct2 : Value}
    {g3 : Addr} {ood3 oan3 : Option Addr} {osl3 : Array (Option Value)} {ooc3 okV3 odc3 opm3 ocd3 oct3 : Value}
    {g4 : Addr} {ood4 oan4 : Option Addr} {osl4 : Array (Option Value)} {ooc4 okV4 odc4 opm4 ocd4 oct4 : Value}
    {g5 : Addr} {ood5 oan5 : Option Addr} {osl5 : Array (Option Value)} {ooc5 okV5 odc5 opm5 ocd5 oct5 : Value}
    {g6 : Addr} {ood6 oan6 : Option Addr} {osl6 : Array (Option Value)} {ooc6 okV6 odc6 opm6 ocd6 oct6 : Value}
    {g7 : Addr} {ood7 oan7 : Option Addr} {osl7 : Array (Option Value)} {ooc7 okV7 odc7 opm7 ocd7 oct7 : Value}
    {g8 : Addr} {ood8 oan8 : Option Addr} {osl8 : Array (Option Value)} {ooc8 okV8 odc8 opm8 ocd8 oct8 : Value}
    {g9 : Addr} {ood9 oan9 : Option Addr} {osl9 : Array (Option Value)} {ooc9 okV9 odc9 opm9 ocd9 oct9 : Value}
    {g10 : Addr} {ood10 oan10 : Option Addr} {osl10 : Array (Option Value)} {ooc10 okV10 odc10 opm10 ocd10 oct10 : Value}
    {g11 : Addr} {ood11 oan11 : Option Addr} {osl11 : Array (Option Value)} {ooc11 okV11 odc11 opm11 ocd11 oct11 : Value}
    {g12 : Addr} {ood12 oan12 : Option Addr} {osl12 : Array (Option Value)} {ooc12 okV12 odc12 opm12 ocd12 oct12 : Value}
    {g13 : Addr} {ood13 oan13 : Option Addr} {osl13 : Array (Option Value)} {ooc13 okV13 odc13 opm13 ocd13 oct13 : Value}
    {oodF oanF : Option Addr} {oslF : Array (Option Value)} {oocF okVF odcF opmF octF : Value}
    (e0 : ErIn K "BadNumber" CN)
    (e1 : ErIn K "BadRow" CR)
    (j0 : IniIn K "BadNumber.__init__" sBadNumber CN i0 oc0 kV0 dc0 pm0 cd0 ct0 od0 an0 sl0 nm0 q0 N0 bs0 ce sn0 sub0 ab0 col0 dd0 m00 m10 m20 m30 m50)
    (j1 : IniIn K "BadRow.__init__" sBadRow CR i1 oc1 kV1 dc1 pm1 cd1 ct1 od1 an1 sl1 nm1 q1 N1 bs1 ce sn1 sub1 ab1 col1 dd1 m01 m11 m21 m31 m51)
    (nW : PySem.W.findIn K (.ref CN) "what" = some none)
    (nN : PySem.W.findIn K (.ref CN) "number" = some none)
    (nR : PySem.W.findIn K (.ref CR) "row" = some none)
    (x0 : PySem.W.exmOne K (.ref CN) (.ref CN) = some true)
    (x1 : PySem.W.exmOne K (.ref CR) (.ref CN) = some false)
    (x2 : PySem.W.exmOne K (.ref CR) (.ref CR) = some true)
    (aP : PySem.W.nsIn K mainGlobals "PRIMES" = some (some (.ref D1)))
    (tP : tupI K (.ref D1) = some [2, 3, 5, 7])
    (aQ : PySem.W.nsIn K mainGlobals "PRIME_POWERS" = some (some (.ref D2)))
    (tQ : dictI K D2 = some ppT)
    (a0 : PySem.W.nsIn K mainGlobals "is_integer" = some (some (.ref g0)))
    (l0 : K.lookup g0 = some ⟨ooc0, ood0, .func (PySem.W.fnOf "is_integer" "is_integer" (defArgs sIsI) (defBody sIsI) (defScope sIsI) .none okV0 odc0 opm0 oan0 ocd0 oct0), osl0⟩)
    (c0 : PySem.W.codeIn K ocd0 "is_integer" = true)
    (k0 : PySem.W.keepIn K (.ref g0) = true)
    (a1 : PySem.W.nsIn K mainGlobals "is_integers" = some (some (.ref g1)))
    (l1 : K.lookup g1 = some ⟨ooc1, ood1, .func (PySem.W.fnOf "is_integers" "is_integers" (defArgs sIsIs) (defBody sIsIs) (defScope sIsIs) .none okV1 odc1 opm1 oan1 ocd1 oct1), osl1⟩)
    (c1 : PySem.W.codeIn K ocd1 "is_integers" = true)
    (k1 : PySem.W.keepIn K (.ref g1) = true)
    (a2 : PySem.W.nsIn K mainGlobals "prime_power" = some (some (.ref g2)))
    (l2 : K.lookup g2 = some ⟨ooc2, ood2, .func (PySem.W.fnOf "prime_power" "prime_power" (defArgs sPP) (defBody sPP) (defScope sPP) .none okV2 odc2 opm2 oan2 ocd2 oct2), osl2⟩)
    (c2 : PySem.W.codeIn K ocd2 "prime_power" = true)
    (k2 : PySem.W.keepIn K (.ref g2) = true)
    (a3 : PySem.W.nsIn K mainGlobals "check_prime" = some (some (.ref g3)))
    (l3 : K.lookup g3 = some ⟨ooc3, ood3, .func (PySem.W.fnOf "check_prime" "check_prime" (defArgs sCP) (defBody sCP) (defScope sCP) .none okV3 odc3 opm3 oan3 ocd3 oct3), osl3⟩)
    (c3 : PySem.W.codeIn K ocd3 "check_prime" = true)
    (k3 : PySem.W.keepIn K (.ref g3) = true)
    (a4 : PySem.W.nsIn K mainGlobals "digits" = some (some (.ref g4)))
    (l4 : K.lookup g4 = some ⟨ooc4, ood4, .func (PySem.W.fnOf "digits" "digits" (defArgs sDg) (defBody sDg) (defScope sDg) .none okV4 odc4 opm4 oan4 ocd4 oct4), osl4⟩)
    (c4 : PySem.W.codeIn K ocd4 "digits" = true)
    (k4 : PySem.W.keepIn K (.ref g4) = true)
    (a5 : PySem.W.nsIn K mainGlobals "number_of" = some (some (.ref g5)))
    (l5 : K.lookup g5 = some ⟨ooc5, ood5, .func (PySem.W.fnOf "number_of" "number_of" (defArgs sNo) (defBody sNo) (defScope sNo) .none okV5 odc5 opm5 oan5 ocd5 oct5), osl5⟩)
    (c5 : PySem.W.codeIn K ocd5 "number_of" = true)
    (k5 : PySem.W.keepIn K (.ref g5) = true)
    (a6 : PySem.W.nsIn K mainGlobals "_law_pen" = some (some (.ref g6)))
    (l6 : K.lookup g6 = some ⟨ooc6, ood6, .func (PySem.W.fnOf "_law_pen" "_law_pen" (defArgs sPen) (defBody sPen) (defScope sPen) .none okV6 odc6 opm6 oan6 ocd6 oct6), osl6⟩)
    (c6 : PySem.W.codeIn K ocd6 "_law_pen" = true)
    (k6 : PySem.W.keepIn K (.ref g6) = true)
    (a7 : PySem.W.nsIn K mainGlobals "_law_draw" = some (some (.ref g7)))
    (l7 : K.lookup g7 = some ⟨ooc7, ood7, .func (PySem.W.fnOf "_law_draw" "_law_draw" (defArgs sDraw) (defBody sDraw) (defScope sDraw) .none okV7 odc7 opm7 oan7 ocd7 oct7), osl7⟩)
    (c7 : PySem.W.codeIn K ocd7 "_law_draw" = true)
    (k7 : PySem.W.keepIn K (.ref g7) = true)
    (a8 : PySem.W.nsIn K mainGlobals "_law_pick" = some (some (.ref g8)))
    (l8 : K.lookup g8 = some ⟨ooc8, ood8, .func (PySem.W.fnOf "_law_pick" "_law_pick" (defArgs sPick) (defBody sPick) (defScope sPick) .none okV8 odc8 opm8 oan8 ocd8 oct8), osl8⟩)
    (c8 : PySem.W.codeIn K ocd8 "_law_pick" = true)
    (k8 : PySem.W.keepIn K (.ref g8) = true)
    (a9 : PySem.W.nsIn K mainGlobals "_law_is_whole" = some (some (.ref g9)))
    (l9 : K.lookup g9 = some ⟨ooc9, ood9, .func (PySem.W.fnOf "_law_is_whole" "_law_is_whole" (defArgs sIw) (defBody sIw) (defScope sIw) .none okV9 odc9 opm9 oan9 ocd9 oct9), osl9⟩)
    (c9 : PySem.W.codeIn K ocd9 "_law_is_whole" = true)
    (k9 : PySem.W.keepIn K (.ref g9) = true)
    (a10 : PySem.W.nsIn K mainGlobals "_law_large" = some (some (.ref g10)))
    (l10 : K.lookup g10 = some ⟨ooc10, ood10, .func (PySem.W.fnOf "_law_large" "_law_large" (defArgs sLarge) (defBody sLarge) (defScope sLarge) .none okV10 odc10 opm10 oan10 ocd10 oct10), osl10⟩)
    (c10 : PySem.W.codeIn K ocd10 "_law_large" = true)
    (k10 : PySem.W.keepIn K (.ref g10) = true)
    (a11 : PySem.W.nsIn K mainGlobals "_law_digits" = some (some (.ref g11)))
    (l11 : K.lookup g11 = some ⟨ooc11, ood11, .func (PySem.W.fnOf "_law_digits" "_law_digits" (defArgs sLd) (defBody sLd) (defScope sLd) .none okV11 odc11 opm11 oan11 ocd11 oct11), osl11⟩)
    (c11 : PySem.W.codeIn K ocd11 "_law_digits" = true)
    (k11 : PySem.W.keepIn K (.ref g11) = true)
    (a12 : PySem.W.nsIn K mainGlobals "_law_raised" = some (some (.ref g12)))
    (l12 : K.lookup g12 = some ⟨ooc12, ood12, .func (PySem.W.fnOf "_law_raised" "_law_raised" (defArgs sRa) (defBody sRa) (defScope sRa) .none okV12 odc12 opm12 oan12 ocd12 oct12), osl12⟩)
    (c12 : PySem.W.codeIn K ocd12 "_law_raised" = true)
    (k12 : PySem.W.keepIn K (.ref g12) = true)
    (a13 : PySem.W.nsIn K mainGlobals "_law_why" = some (some (.ref g13)))
    (l13 : K.lookup g13 = some ⟨ooc13, ood13, .func (PySem.W.fnOf "_law_why" "_law_why" (defArgs sWhy) (defBody sWhy) (defScope sWhy) .none okV13 odc13 opm13 oan13 ocd13 oct13), osl13⟩)
    (c13 : PySem.W.codeIn K ocd13 "_law_why" = true)
    (k13 : PySem.W.keepIn K (.ref g13) = true)
    (aF : PySem.W.nsIn K mainGlobals "law" = some (some (.ref gF)))
    (lF : K.lookup gF = some ⟨oocF, oodF, .func (PySem.W.fnOf "law" "law" (defArgs sLaw) (defBody sLaw) (defScope sLaw) .none okVF odcF opmF oanF (.ref c) octF), oslF⟩)
    (cF : PySem.W.codeIn K (.ref c) "law" = true)
    (nP : K.lookup Pt = none)
    (hP : PySem.W.codeHdIn K c Pt = true)
    (z_int : PySem.W.nsIn K mainGlobals "int" = some none)
    (z_bool : PySem.W.nsIn K mainGlobals "bool" = some none)
    (z_tuple : PySem.W.nsIn K mainGlobals "tuple" = some none)
    (z_len : PySem.W.nsIn K mainGlobals "len" = some none)
    (z_list : PySem.W.nsIn K mainGlobals "list" = some none)
    (z_range : PySem.W.nsIn K mainGlobals "range" = some none)
    (z_isinstance : PySem.W.nsIn K mainGlobals "isinstance" = some none)
    (z_repr : PySem.W.nsIn K mainGlobals "repr" = some none)
    (z_all : PySem.W.nsIn K mainGlobals "all" = some none)
    (z_divmod : PySem.W.nsIn K mainGlobals "divmod" = some none)
    (z_reversed : PySem.W.nsIn K mainGlobals "reversed" = some none)
    : (∀ p ∈ [(c, Pt)], K.lookup p.2 = none ∧ PySem.W.codeHdIn K p.1 p.2 = true) ∧ ∃ fd : FuncData, (∀ (s : Shared) (u : Value), BindsTo s fd ⟨[u], []⟩ [("_law_script", u)]) ∧
      ∀ base : Heap, K.In base → base.Ns mainGlobals mg → (∀ p ∈ [(c, Pt)], LamX.TabB base mg p.1 p.2) → FnG l.prog w K mg base CX0 7 fa fd ["_law_script"] (spLaw K Pt) := by
  have e := hfa.symm.trans (PySem.W.mg_of X G aF)
  cases e
  refine ⟨fun p hp => ?_, PySem.W.fnOf "law" "law" (defArgs sLaw) (defBody sLaw) (defScope sLaw) .none okVF odcF opmF oanF (.ref c) octF, fun s v => .of_eq rfl, fun base _ _ TB => ?_⟩
  · obtain rfl | hp := List.mem_cons.mp hp
    · exact ⟨nP, hP⟩
    · exact (List.not_mem_nil hp).elim
  have BB : Blt mg := ⟨PySem.W.mg_none_of X G z_int, PySem.W.mg_none_of X G z_bool, PySem.W.mg_none_of X G z_tuple, PySem.W.mg_none_of X G z_len, PySem.W.mg_none_of X G z_list, PySem.W.mg_none_of X G z_range, PySem.W.mg_none_of X G z_isinstance, PySem.W.mg_none_of X G z_repr, PySem.W.mg_none_of X G z_all, PySem.W.mg_none_of X G z_divmod, PySem.W.mg_none_of X G z_reversed⟩
  have F0 := fun_mk (st := sIsI) l0 c0 k0
  have E0 : Cl K mg "is_integer" sIsI ["value"] g0 _ := ⟨F0, F0.binds (ps := ["value"]) (fun _ _ _ _ _ _ us hl => match us, hl with | [_], _ => rfl), PySem.W.mg_of X G a0⟩
  have F1 := fun_mk (st := sIsIs) l1 c1 k1
  have E1 : Cl K mg "is_integers" sIsIs ["value"] g1 _ := ⟨F1, F1.binds (ps := ["value"]) (fun _ _ _ _ _ _ us hl => match us, hl with | [_], _ => rfl), PySem.W.mg_of X G a1⟩
  have F2 := fun_mk (st := sPP) l2 c2 k2
  have E2 : Cl K mg "prime_power" sPP ["m"] g2 _ := ⟨F2, F2.binds (ps := ["m"]) (fun _ _ _ _ _ _ us hl => match us, hl with | [_], _ => rfl), PySem.W.mg_of X G a2⟩
  have F3 := fun_mk (st := sCP) l3 c3 k3
  have E3 : Cl K mg "check_prime" sCP ["p"] g3 _ := ⟨F3, F3.binds (ps := ["p"]) (fun _ _ _ _ _ _ us hl => match us, hl with | [_], _ => rfl), PySem.W.mg_of X G a3⟩
  have F4 := fun_mk (st := sDg) l4 c4 k4
  have E4 : Cl K mg "digits" sDg ["n", "p"] g4 _ := ⟨F4, F4.binds (ps := ["n", "p"]) (fun _ _ _ _ _ _ us hl => match us, hl with | [_, _], _ => rfl), PySem.W.mg_of X G a4⟩
  have F5 := fun_mk (st := sNo) l5 c5 k5
  have E5 : Cl K mg "number_of" sNo ["row", "p"] g5 _ := ⟨F5, F5.binds (ps := ["row", "p"]) (fun _ _ _ _ _ _ us hl => match us, hl with | [_, _], _ => rfl), PySem.W.mg_of X G a5⟩
  have F6 := fun_mk (st := sPen) l6 c6 k6
  have E6 : Cl K mg "_law_pen" sPen ["_law_script"] g6 _ := ⟨F6, F6.binds (ps := ["_law_script"]) (fun _ _ _ _ _ _ us hl => match us, hl with | [_], _ => rfl), PySem.W.mg_of X G a6⟩
  have F7 := fun_mk (st := sDraw) l7 c7 k7
  have E7 : Cl K mg "_law_draw" sDraw ["_law_pen_here", "_law_many"] g7 _ := ⟨F7, F7.binds (ps := ["_law_pen_here", "_law_many"]) (fun _ _ _ _ _ _ us hl => match us, hl with | [_, _], _ => rfl), PySem.W.mg_of X G a7⟩
  have F8 := fun_mk (st := sPick) l8 c8 k8
  have E8 : Cl K mg "_law_pick" sPick ["_law_pen_here", "_law_some"] g8 _ := ⟨F8, F8.binds (ps := ["_law_pen_here", "_law_some"]) (fun _ _ _ _ _ _ us hl => match us, hl with | [_, _], _ => rfl), PySem.W.mg_of X G a8⟩
  have F9 := fun_mk (st := sIw) l9 c9 k9
  have E9 : Cl K mg "_law_is_whole" sIw ["_law_value"] g9 _ := ⟨F9, F9.binds (ps := ["_law_value"]) (fun _ _ _ _ _ _ us hl => match us, hl with | [_], _ => rfl), PySem.W.mg_of X G a9⟩
  have F10 := fun_mk (st := sLarge) l10 c10 k10
  have E10 : Cl K mg "_law_large" sLarge ["_law_pen_here"] g10 _ := ⟨F10, F10.binds (ps := ["_law_pen_here"]) (fun _ _ _ _ _ _ us hl => match us, hl with | [_], _ => rfl), PySem.W.mg_of X G a10⟩
  have F11 := fun_mk (st := sLd) l11 c11 k11
  have E11 : Cl K mg "_law_digits" sLd ["_law_n", "_law_p"] g11 _ := ⟨F11, F11.binds (ps := ["_law_n", "_law_p"]) (fun _ _ _ _ _ _ us hl => match us, hl with | [_, _], _ => rfl), PySem.W.mg_of X G a11⟩
  have F12 := fun_mk (st := sRa) l12 c12 k12
  have E12 : Cl K mg "_law_raised" sRa ["_law_base", "_law_many"] g12 _ := ⟨F12, F12.binds (ps := ["_law_base", "_law_many"]) (fun _ _ _ _ _ _ us hl => match us, hl with | [_, _], _ => rfl), PySem.W.mg_of X G a12⟩
  have F13 := fun_mk (st := sWhy) l13 c13 k13
  have E13 : Cl K mg "_law_why" sWhy ["_law_call"] g13 _ := ⟨F13, F13.binds (ps := ["_law_call"]) (fun _ _ _ _ _ _ us hl => match us, hl with | [_], _ => rfl), PySem.W.mg_of X G a13⟩
  have NN := er_of (x := "BadNumber") (fs := ["what", "number"]) X G e0 j0 (fun g hg => by
    rcases List.mem_cons.mp hg with rfl | hg
    · exact nW
    rcases List.mem_cons.mp hg with rfl | hg
    · exact nN
    · exact (List.not_mem_nil hg).elim) (fun _ _ _ _ _ _ us hl => match us, hl with | [_, _, _], _ => rfl)
  have RR := er_of (x := "BadRow") (fs := ["row"]) X G e1 j1 (fun g hg => by
    rcases List.mem_cons.mp hg with rfl | hg
    · exact nR
    · exact (List.not_mem_nil hg).elim) (fun _ _ _ _ _ _ us hl => match us, hl with | [_, _], _ => rfl)
  have TT : Cau K CN CR := ⟨x0, x1, x2, ⟨e0.ga, e0.gg, e0.be, e0.hd⟩, ⟨e1.ga, e1.gg, e1.be, e1.hd⟩⟩
  exact ok_law lF cF (TB _ (.head _)) BB E0 E1 E2 E3 E4 E5 E6 E7 E8 E9 E10 E11 E12 E13 NN RR TT (PySem.W.mg_of X G aP) tP (PySem.W.mg_of X G aQ) tQ
theorem walk {l : PySem.W.OpenLaw} {q : Program} {loose : List Str} {XP : (Str → Option Value) → Heap → Prop} {YP : World → Heap → Prop} {d : DefRec} {K : Params → PySem.W.Frag} {c Pt : Addr} (hn : l.most = some 63) (hdf : d.params.defaults = [])
    (hY : ∀ (w : World) (h : Heap), YP w h → (K w.params).In h) (hT : ∀ (w : World) (h : Heap), YP w h → ∀ p ∈ [(c, Pt)], h.get? p.2 = some { cls := .none, data := .fields #[] })
    (F : ∀ (w : World) (mg : Str → Option Value) (fa : Addr) (h : Heap), (K w.params).In h → h.Ns mainGlobals mg → mg d.name = some (.ref fa) →
      (∀ p ∈ [(c, Pt)], (K w.params).lookup p.2 = none ∧ PySem.W.codeHdIn (K w.params) p.1 p.2 = true) ∧
      ∃ fd : FuncData, (∀ (s : Shared) (u : Value), BindsTo s fd ⟨[u], []⟩ [("_law_script", u)]) ∧ ∀ base : Heap, (K w.params).In base → base.Ns mainGlobals mg → (∀ p ∈ [(c, Pt)], LamX.TabB base mg p.1 p.2) → FnG l.prog w (K w.params) mg base CX0 7 fa fd ["_law_script"] (spLaw (K w.params) Pt)) :
    PySem.W.WalkO q loose XP YP l.row.toRowW d [] (fun f vs => PySem.call f vs) :=
  walkT (n := 63) (k := 7) (x := "_law_script") (cs := [(c, Pt)]) (sp := fun w => spLaw (K w.params) Pt) hn (by decide) hdf ⟨rfl, by decide, by decide⟩ hY hT F (fun _ _ a ns _ hP hS => ⟨a, ns, rfl, hS, hP _ (.head _), fun _ => rfl⟩)
end K01

open PySem PySem.W PyProof.Rows
set_option maxRecDepth 100000 in
set_option maxHeartbeats 0 in
theorem PySem.Challenge.cw_restcounts_k01_moduli_and_digits_holds : PySem.Challenge.rw_restcounts_k01_moduli_and_digits.Holds := by
  w_on; o_law; k_head; (case hw => w_witness2)
  k_fill
  refine' K01.walk (l := PySem.Challenge.rw_restcounts_k01_moduli_and_digits) (c := ?c) (Pt := 173) rfl rfl (fun w h Y => PySem.W.km_in_of Y) (fun w h Y p hp => ?T) ?F
  case F =>
    intro w mg fa h KX G hmg
    refine' K01.all_mk KX G hmg ?e0 ?e1 ?j0 ?j1 ?nW ?nN ?nR ?x0 ?x1 ?x2 ?aP ?tP ?aQ ?tQ ?a0 ?l0 ?c0 ?k0 ?a1 ?l1 ?c1 ?k1 ?a2 ?l2 ?c2 ?k2 ?a3 ?l3 ?c3 ?k3 ?a4 ?l4 ?c4 ?k4 ?a5 ?l5 ?c5 ?k5 ?a6 ?l6 ?c6 ?k6 ?a7 ?l7 ?c7 ?k7 ?a8 ?l8 ?c8 ?k8 ?a9 ?l9 ?c9 ?k9 ?a10 ?l10 ?c10 ?k10 ?a11 ?l11 ?c11 ?k11 ?a12 ?l12 ?c12 ?k12 ?a13 ?l13 ?c13 ?k13 ?aF ?lF ?cF ?nP ?hP ?z_int ?z_bool ?z_tuple ?z_len ?z_list ?z_range ?z_isinstance ?z_repr ?z_all ?z_divmod ?z_reversed
    (case e0 => (refine' K01.ErIn.mk ?_ ?_ ?_ ?_ ?_ ?_ <;> try k_is))
    (case e1 => (refine' K01.ErIn.mk ?_ ?_ ?_ ?_ ?_ ?_ <;> try k_is))
    (case j0 => (refine' K01.IniIn.mk ?_ ?_ ?_ ?_ ?_ ?_ ?_ ?_ <;> try k_is))
    (case j1 => (refine' K01.IniIn.mk ?_ ?_ ?_ ?_ ?_ ?_ ?_ ?_ <;> try k_is))
    (case nW => k_is)
    (case nN => k_is)
    (case nR => k_is)
    (case x0 => (first | kernel_rfl | k_is | kit_is | decide +kernel))
    (case x1 => (first | kernel_rfl | k_is | kit_is | decide +kernel))
    (case x2 => (first | kernel_rfl | k_is | kit_is | decide +kernel))
    (case aP => k_is)
    (case tP => (first | kernel_rfl | k_is | kit_is | decide +kernel))
    (case aQ => k_is)
    (case tQ => (first | kernel_rfl | k_is | kit_is | decide +kernel))
    (case a0 => k_is)
    (case l0 => k_is)
    (case c0 => k_is)
    (case k0 => k_is)
    (case a1 => k_is)
    (case l1 => k_is)
    (case c1 => k_is)
    (case k1 => k_is)
    (case a2 => k_is)
    (case l2 => k_is)
    (case c2 => k_is)
    (case k2 => k_is)
    (case a3 => k_is)
    (case l3 => k_is)
    (case c3 => k_is)
    (case k3 => k_is)
    (case a4 => k_is)
    (case l4 => k_is)
    (case c4 => k_is)
    (case k4 => k_is)
    (case a5 => k_is)
    (case l5 => k_is)
    (case c5 => k_is)
    (case k5 => k_is)
    (case a6 => k_is)
    (case l6 => k_is)
    (case c6 => k_is)
    (case k6 => k_is)
    (case a7 => k_is)
    (case l7 => k_is)
    (case c7 => k_is)
    (case k7 => k_is)
    (case a8 => k_is)
    (case l8 => k_is)
    (case c8 => k_is)
    (case k8 => k_is)
    (case a9 => k_is)
    (case l9 => k_is)
    (case c9 => k_is)
    (case k9 => k_is)
    (case a10 => k_is)
    (case l10 => k_is)
    (case c10 => k_is)
    (case k10 => k_is)
    (case a11 => k_is)
    (case l11 => k_is)
    (case c11 => k_is)
    (case k11 => k_is)
    (case a12 => k_is)
    (case l12 => k_is)
    (case c12 => k_is)
    (case k12 => k_is)
    (case a13 => k_is)
    (case l13 => k_is)
    (case c13 => k_is)
    (case k13 => k_is)
    (case aF => k_is)
    (case lF => k_is)
    (case cF => k_is)
    (case nP => (first | kernel_rfl | k_is | kit_is | decide +kernel))
    (case hP => (first | kernel_rfl | k_is | kit_is | decide +kernel))
    (case z_int => k_is)
    (case z_bool => k_is)
    (case z_tuple => k_is)
    (case z_len => k_is)
    (case z_list => k_is)
    (case z_range => k_is)
    (case z_isinstance => k_is)
    (case z_repr => k_is)
    (case z_all => k_is)
    (case z_divmod => k_is)
    (case z_reversed => k_is)
  case T =>
    obtain z | hp := List.mem_cons.mp hp
    · rw [z]
      exact PySem.W.km_tabs_of Y _ (.head _)
    · exact (List.not_mem_nil hp).elim

