import PyProof.Rows.All
import Wide.All
import OpenK.AllK
import Wide.FinOn
import HandS.ForMost
import HandS.ExcInit
import HandS.ExcField
import HandS.ExcOwn
import HandS.IsInst
import KE.KExcIs
import HandS.Walk
import HandS.Wide
import HandS.Evl
import PySem.Challenge.RW_restcounts_k00_errors
set_option Elab.async false
set_option linter.all false
set_option maxRecDepth 100000
set_option maxHeartbeats 2000000
/-! Gd: defs whose promise leans on there being no repr under way around them; calls of such; a law's end over such. -/
namespace Gd
open PySem PySem.Spec PyProof.Rows L2

/-- a promise kept wherever no guard stands around -/
structure FnG (P : Program) (w : World) (K : PySem.W.Frag) (mg : Str → Option Value) (base : Heap)
    (CX : CXT) (k : Nat) (f : Addr) (fd : FuncData) (ps : List Str) (sp : Sp) : Prop where
  len : ∀ vs H Q E, sp vs H Q E → vs.length = ps.length
  go : ∀ (A : Around) (outer : List Env) (s : Shared) (H : Hp) (args : Args) (us : List Value) (vs : List V) (Q : VK) (E : XK),
    A.guards = some [] → Room k A → Env0 P w K mg base A outer s H →
    BindsTo s fd args (ps.zip us) → Vals vs us → sp vs H Q E →
    codeAny (model P w) A (.call (.ref f) args) (CR CX outer P w H s Q E) s

section
variable {P : Program} {w : World} {K : PySem.W.Frag} {mg : Str → Option Value} {base : Heap} {CX : CXT}

theorem FnG.ofOk {k : Nat} {f : Addr} {fd : FuncData} {ps : List Str} {sp : Sp}
    (F : FnOk P w K mg base CX k f fd ps sp) : FnG P w K mg base CX k f fd ps sp where
  len := F.len
  go := fun A outer s H args us vs Q E _ => F.run A outer s H args us vs Q E

/-- a def by its body, where the guards are none -/
theorem fnG_of {k : Nat} {f : Addr} {name qual : Str} {params : Arguments} {body : List Stmt} {scope : Scope}
    {dV kV doc pm cdv ct oc : Value} {an od : Option Addr} {osl : Array (Option Value)} {N ps : List Str} {sp : Sp}
    (lk : K.lookup f = some ⟨oc, od, .func (PySem.W.fnOf name qual params body scope dV kV doc pm an cdv ct), osl⟩)
    (hcd : PySem.W.codeIn K cdv qual = true) (S : FnScope N ps scope)
    (len : ∀ vs H Q E, sp vs H Q E → vs.length = ps.length)
    (B : ∀ (A : Around) (outer : List Env) (s : Shared) (H : Hp) (vs : List V) (Q : VK) (E : XK),
      A.guards = some [] → Room k (A.deeper (envOfC qual scope s.heap.objs.size f cdv)) → sp vs H Q E →
      ∃ t, PSs (cxOf CX P w K mg base N qual scope f cdv A outer s H E) body t ∧
        t { nx := fun _ H' => Q .non H', rt := Q } (start N vs) H) :
    FnG P w K mg base CX (k + 1) f (PySem.W.fnOf name qual params body scope dV kV doc pm an cdv ct) ps sp where
  len := len
  go := by
    intro A outer s H args us vs Q E hgd room env0 hbind rel hs
    have hlen := len _ _ _ _ hs
    have old : ∀ b o, base.get? b = some o → s.heap.get? b = some o := fun b o h => (env0.bs b o h).1
    have kin := env0.mod.kin.keeps old
    have nolim := env0.mod.nolimit.keeps old
    refine codeAny_call_function room.depth (kin _ _ lk) rfl S.co S.gen rfl
      (PySem.W.codeRec_of kin hcd) (hbind _ _ _ _ ?_)
    refine wpAny_newFunctionEnv_cells S.kind ?kinds fun env he s1 inC => ?_
    case kinds =>
      rintro ⟨n, v⟩ hm
      have hn := S.par n (List.of_mem_zip hm).1
      exact hn.imp (fun q => q) fun q => ⟨q, PySem.W.cellsFrom_some _ _ _ (.inl q)⟩
    subst he
    refine ⟨nolim.keeps inC.toInCall.keep, codeAny_func ?_⟩
    have ⟨t, derived, reading⟩ := B A outer s H vs Q E hgd (room.deeper _) hs
    have inv0 := inv_start (CX := CX) (E := E) S room.hd env0 hlen rel inC
    refine wpAny_mono (derived.run [] s1 (start N vs) H _ inv0 reading) ?_ fun _ _ he => he
    intro fl s' hfl
    match fl, hfl with
    | .ret _, ⟨v, _, H', J, rv, q⟩ => exact ⟨v, H', J.os, J.bare, J.base, J.hok, rv, q⟩
    | .next, ⟨_, H', J, q⟩ => exact ⟨V.non, H', J.os, J.bare, J.base, J.hok, rfl, q⟩
    | .brk, ⟨_, _, _, q⟩ => exact q.elim
    | .cont, ⟨_, _, _, q⟩ => exact q.elim

/-- for a def of the text that no exception leaves -/
theorem okG {x qual : Str} {st : Stmt} {f : Addr} {fd : FuncData} {N ps : List Str} {k : Nat} {sp : Sp}
    (F : Fun K x qual st f fd) (S : FnScope N ps (defScope st)) (len : ∀ vs H Q E, sp vs H Q E → vs.length = ps.length)
    (B : ∀ (cdv : Value) (A : Around) (outer : List Env) (s : Shared) (H : Hp) (vs : List V) (Q : VK) (E : XK),
      A.guards = some [] → Room k (A.deeper (envOfC qual (defScope st) s.heap.objs.size f cdv)) → sp vs H Q E →
      ∃ t, PSs (cxOf CX0 P w K mg base N qual (defScope st) f cdv A outer s H E).nox (defBody st) t ∧
        t { nx := fun _ H' => Q .non H', rt := Q } (start N vs) H) : FnG P w K mg base CX0 (k + 1) f fd ps sp := by
  have ⟨oc, od, kV, doc, pm, an, cdv, ct, osl, e, lk, hcd⟩ := F.ex
  subst e
  refine fnG_of lk hcd S len ?_
  intro A outer s H vs Q E hgd room hs
  have ⟨t, d, q⟩ := B cdv A outer s H vs Q E hgd room hs
  exact ⟨t, d.nox, q⟩
end

section
variable {X : Cx} {CX : CXT} {k : Nat} {f : Addr} {fd : FuncData} {ps : List Str} {sp : Sp} {dvs : List V} {ds : List Value} {E : XK}
/-- the call of such a def -/
theorem run_fnG {pins : List (Addr × Obj)} {σ : L2.St} {H : Hp} {s : Shared} {Q : VK} {us : List Value} {vs : List V}
    (F : FnG X.prog X.w X.K X.mg X.base CX k f fd ps sp) (hgd : X.A.guards = some []) (room : Room k X.A)
    (hb : Binds X.K fd ps ds) (hd : Vals dvs ds) (hx : Passes CX X E) (I : Inv X pins σ H s) (r : Vals vs us)
    (h : sp (vs ++ dvs) H Q E) : wpAny (model X.prog X.w) X.A (call (.ref f) us) (EP X pins σ Q) X.xe s := by
  have rr := r.append hd
  have hlen := F.len _ _ _ _ h
  rw [rr.length] at hlen
  have c := F.go X.A X.stack s H ⟨us, []⟩ (us ++ ds) (vs ++ dvs) Q E hgd room I.env0 (hb s us I.kIn hlen) rr h
  refine wpAny_call (codeAny_mono c ?_)
  intro res s' hres
  match res, hres with
  | .error e, he => exact hx pins σ H s e s' I he
  | .ok (.ret u), he => exact I.after he
  | .ok .next, he => exact he.elim
  | .ok .brk, he => exact he.elim
  | .ok .cont, he => exact he.elim

theorem pe_callG {x : Str} {p pos : Pos} {e : Expr} {es : List Expr} {t : TA}
    (F : FnG X.prog X.w X.K X.mg X.base CX k f fd ps sp) (hgd : X.A.guards = some []) (hr : Room k X.A) (hg : Gl X x)
    (hm : X.mg x = some (.ref f)) (hk : PySem.W.keepIn X.K (.ref f) = true) (hb : Binds X.K fd ps ds) (hd : Vals dvs ds)
    (hx : Passes CX X E) (ha : PA X (e :: es) t) (hdb : (x == ("__debug__" : Str)) = false := by decide)
    (he : starEach (e :: es) X.env = (false, eval e X.env) :: starEach es X.env := by rfl)
    (hpl : (backTo pos (starEach es X.env)).any (·.1) = false := by rfl) :
    PE X (.Call (.Name x p) (e :: es) [] pos) (tCall sp dvs E t) where
  run := by
    intro pins s σ H Q I h
    refine wpAny_Call_Name_kw (ld_glob I hg hm ?_ hdb)
    refine PySem.W.callWith_K (h₀ := X.base) I.ok.mod.kin hk ?_ he hpl
    refine thn (ha.run pos pins s σ H _ I h) ?_
    rintro us s1 ⟨vs, H1, I1, rel, q⟩
    exact ⟨I1.kIn, run_fnG F hgd hr hb hd hx I1 rel q⟩
end

/-! ### repr of data -/
mutual
theorem dp_nodict {K : PySem.W.Frag} {H : Hp} : ∀ (d : PyData) (v : V), Dp K H v d → d.hasDict = false
  | .none, _, _ => by simp only [PyData.hasDict]
  | .bool _, _, _ => by simp only [PyData.hasDict]
  | .int _, _, _ => by simp only [PyData.hasDict]
  | .str _, _, _ => by simp only [PyData.hasDict]
  | .list ds, _, h => by
    cases h with
    | lst _ ha => simp only [PyData.hasDict]; exact dpAll_nodict ds _ ha
  | .tuple ds, _, h => by
    cases h with
    | tup _ ha => simp only [PyData.hasDict]; exact dpAll_nodict ds _ ha
  | .dict _, _, h => by cases h
theorem dpAll_nodict {K : PySem.W.Frag} {H : Hp} : ∀ (ds : List PyData) (vs : List V), DpAll K H vs ds → PyData.hasDictAll ds = false
  | [], _, _ => by simp only [PyData.hasDictAll]
  | d :: ds, _, h => by
    cases h with
    | cons a b => simp only [PyData.hasDictAll, dp_nodict d _ a, dpAll_nodict ds _ b, Bool.or_self]
end

/-- repr(x) of data without dicts -/
def rRepr (K : PySem.W.Frag) : List V → Hp → VK → Prop := fun xs H Q => ∃ x d, xs = [x] ∧ Dp K H x d ∧
  d.showable = true ∧ d.depth ≤ 60 ∧ d.shown.length ≤ sizeLine ∧ Q (.str d.shown) H
theorem call_repr {X : Cx} (hgd : X.A.guards = some []) (hu : X.A.units + 64 < cLine) : CallR X (.builtin "repr") (rRepr X.K) := by
  intro pins s σ H xs us Q I rel h
  obtain ⟨x, d, rfl, dp, sh, hd, hz, q⟩ := h
  cases rel with
  | cons rx rt =>
    cases rt
    rename_i u
    obtain ⟨as, rd⟩ := Dp.reads I d x u dp rx
    have nod := dp_nodict d x dp
    cases dp with
    | non =>
      cases rx
      exact PySem.P.repr_of_none ⟨.str _, H, I.tok _, ⟨_, rfl⟩, q⟩
    | bl b =>
      cases rx
      exact PySem.P.repr_of_bool ⟨.str _, H, I.tok _, ⟨_, rfl⟩, q⟩
    | int i =>
      obtain ⟨t, rfl⟩ := rx
      exact PySem.P.repr_of_int (by simpa [PyData.showable] using sh) ⟨.str _, H, I.tok _, ⟨_, rfl⟩, q⟩
    | str z =>
      obtain ⟨t, rfl⟩ := rx
      exact PySem.P.repr_of_str ⟨.str _, H, I.tok _, ⟨_, rfl⟩, q⟩ (by simpa only [PyData.shown] using hz)
    | lst _ _ =>
      cases rx
      exact repr_of_reads' rd sh (PySem.PyData.noDict_hsm nod) hgd (by omega) (fun _ _ e => e) (fun h' t tk k => ⟨.str _, H, I.kept k, ⟨_, rfl⟩, q⟩) hz
    | tup _ _ =>
      cases rx
      exact repr_of_reads' rd sh (PySem.PyData.noDict_hsm nod) hgd (by omega) (fun _ _ e => e) (fun h' t tk k => ⟨.str _, H, I.kept k, ⟨_, rfl⟩, q⟩) hz
end Gd

/-! Ge: the end of a law row over a def of the kind FnG. -/
namespace Gd
open PySem PySem.Spec PyProof.Rows L2

/-- what the law's call finds: an abstract heap that tracks the script at most, a base without it -/
structure Entry (P : Program) (w : World) (K : PySem.W.Frag) (mg : Str → Option Value) (s : Shared) (a : Addr) (ns : List Int)
    (H : Hp) (base : Heap) : Prop where
  only : Only H
  script : SqL K H a (ns.map V.int)
  kin : K.In base
  glob : base.Ns mainGlobals mg
  env : Env0 P w K mg base callerA [] s H
  old : ∀ (H' : Hp) (s' : Shared), Un [] [] H H' s.heap s'.heap → HOk P w H' s'.heap → PySem.OldK s.heap s'.heap

section
variable {P : Program} {w : World} {K : PySem.W.Frag} {mg mb : Str → Option Value} {s : Shared} {a : Addr} {vs : List Value} {ns : List Int}
theorem entry_of {H : Hp} (kin : K.In s.heap) (hns : s.heap.Ns mainGlobals mg) (hb : s.heap.Ns builtinsNs mb)
    (hbb : ∀ x : Str, x ≠ "__name__" → mb x = bootBuiltins x) (hlim : s.heap.NoLimit) (hg : s.gens = #[])
    (ha : s.heap.get? a = some { cls := .type "list", data := .seq vs.toArray })
    (o1 : Only H) (o2 : SqL K H a (ns.map V.int)) (o3 : HOk P w H s.heap) (o4 : ∀ b, H b ≠ none → b = a)
    (o5 : H a ≠ none → K.lookup a = none) : ∃ base, Entry P w K mg s a ns H base := by
  -- whatever isn't the script's own object is in the base
  have stays : ∀ {b : Addr} {o : Obj}, s.heap.get? b = some o → (b = a → H b = none) → (hidT s.heap H).get? b = some o := by
    intro b o e h
    refine hidT_get e ?_
    by_cases z : b = a
    · exact h z
    · exact Classical.byContradiction fun q => z (o4 b q)
  have ns_in : ∀ {b : Addr} {m : Str → Option Value}, s.heap.Ns b m → (hidT s.heap H).Ns b m := by
    rintro b m ⟨o, es, ep, e, d, r⟩
    refine ⟨o, es, ep, stays e fun z => ?_, d, r⟩
    rw [z, ha] at e
    rw [← Option.some.inj e] at d
    cases d
  have kin' : K.In (hidT s.heap H) := by
    intro b o e
    refine stays (kin b o e) fun z => Classical.byContradiction fun q => ?_
    rw [z] at q e
    rw [o5 q] at e
    cases e
  obtain ⟨mc, l1, l2⟩ := hlim
  refine ⟨hidT s.heap H, o1, o2, kin', ns_in hns, ?_, ?_⟩
  · refine ⟨rfl, ⟨kin', ns_in hns, ⟨mb, ns_in hb, hbb⟩, ⟨mc, ns_in l1, l2⟩⟩, fun b o e => of_hidT e, Nat.le_of_eq (hidT_size _ _), trivial, ?_, o3, .of_eq hg⟩
    intro b hm
    exact (List.not_mem_nil hm).elim
  · intro H' s' un ok'
    refine PySem.OldK.of_keep fun b o e => ?_
    cases q : H b with
    | none => exact un.keep b o e q List.not_mem_nil List.not_mem_nil
    | some u =>
      obtain z | ⟨ob, xs, z⟩ := o1 b
      · rw [q] at z
        cases z
      · obtain ⟨was, _⟩ := o3 b _ z
        obtain ⟨still, _⟩ := ok' b _ (un.frzs b ob _ z)
        rw [e] at was
        rw [Option.some.inj was]
        exact still

theorem entry_is (kin : K.In s.heap) (hns : s.heap.Ns mainGlobals mg) (hb : s.heap.Ns builtinsNs mb)
    (hbb : ∀ x : Str, x ≠ "__name__" → mb x = bootBuiltins x) (hlim : s.heap.NoLimit) (hg : s.gens = #[])
    (ha : s.heap.get? a = some { cls := .type "list", data := .seq vs.toArray })
    (hi : IntsAre vs ns) (hl : ns.length ≤ sizeLine) : ∃ H base, Entry P w K mg s a ns H base := by
  have rv := vals_ints hi
  have ln := hi.length
  cases hk : K.lookup a with
  | some o =>
    have e := kin a o hk
    rw [ha] at e
    cases e
    have sq : SqL K (fun _ => none) a (ns.map V.int) :=
      .inr ⟨_, vs.toArray, _, hk, rfl, rfl, rfl, by rw [List.size_toArray, ln]; exact hl, by simpa using rv⟩
    obtain ⟨base, E⟩ := entry_of (P := P) (w := w) kin hns hb hbb hlim hg ha (fun _ => .inl rfl) sq
      (fun b u z => by cases (show (none : Option HO) = some u from z)) (fun b z => absurd rfl z) fun z => absurd rfl z
    exact ⟨_, base, E⟩
  | none =>
    let H : Hp := fun b => if b = a then some (.frz { cls := .type "list", data := .seq vs.toArray } (.lst (ns.map V.int))) else none
    have at_a : H a = some (.frz { cls := .type "list", data := .seq vs.toArray } (.lst (ns.map V.int))) := if_pos rfl
    have off_a : ∀ {b}, b ≠ a → H b = none := fun z => if_neg z
    have ok : HOk P w H s.heap := by
      intro b u z
      by_cases q : b = a
      · subst q
        rw [at_a] at z
        cases z
        exact ⟨ha, by rw [List.length_map]; exact hl, vs, _, rv, ha⟩
      · rw [off_a q] at z
        cases z
    have on : Only H := by
      intro b
      by_cases q : b = a
      · subst q
        exact .inr ⟨_, _, at_a⟩
      · exact .inl (off_a q)
    obtain ⟨base, E⟩ := entry_of (P := P) (w := w) kin hns hb hbb hlim hg ha on (.inl (.inr ⟨_, at_a⟩)) ok
      (fun b z => Classical.byContradiction fun q => z (off_a q)) fun _ => hk
    exact ⟨H, base, E⟩
end

theorem walkG {l : PySem.W.OpenLaw} {n k : Nat} {q : Program} {loose : List Str} {XP : (Str → Option Value) → Heap → Prop}
    {YP : World → Heap → Prop} {d : DefRec} {K : Params → PySem.W.Frag} {sp : World → Sp} {x : Str}
    (hn : l.most = some n) (hn2 : n ≤ sizeLine) (hdf : d.params.defaults = []) (hr : Room k callerA)
    (hY : ∀ (w : World) (h : Heap), YP w h → (K w.params).In h)
    (F : ∀ (w : World) (mg : Str → Option Value) (fa : Addr) (h : Heap), (K w.params).In h → h.Ns mainGlobals mg → mg d.name = some (.ref fa) →
      ∃ fd : FuncData, (∀ (s : Shared) (u : Value), BindsTo s fd ⟨[u], []⟩ [(x, u)]) ∧
        ∀ base : Heap, (K w.params).In base → base.Ns mainGlobals mg → FnG l.prog w (K w.params) mg base CX0 k fa fd [x] (sp w))
    (hsp : ∀ (w : World) (H : Hp) (a : Addr) (ns : List Int), ns.length ≤ n → Only H → SqL (K w.params) H a (ns.map V.int) →
      sp w [.ref a] H (fun v _ => v = .bl true) fun _ _ _ => False) :
    PySem.W.WalkO q loose XP YP l.row.toRowW d [] (fun f vs => PySem.call f vs) := by
  refine Att.attach_call hn hdf ?_
  intro w s₀ s₁ mg mb fa o pm cd doc a vs ns G Y ho hd hcd hmg hobj hints hlen hgens
  have kin := hY w _ Y
  obtain ⟨fd, binds, all⟩ := F w mg fa _ kin G.T.g hmg
  obtain ⟨H, base, E⟩ := entry_is (P := l.prog) (w := w) kin G.T.g G.T.b G.T.builtins G.T.nolimit hgens hobj hints (Nat.le_trans hlen hn2)
  have run := (all base E.kin E.glob).go callerA [] s₁ H ⟨[.ref a], []⟩ [.ref a] [.ref a] _ _ rfl hr E.env (binds s₁ (.ref a)) (.cons rfl .nil)
    (hsp w H a ns hlen E.only E.script)
  refine codeAny_mono run ?_
  intro res s' hres
  match res, hres with
  | .ok (.ret u), ⟨v, H', os, bare, un, ok', rel, e⟩ =>
    subst e
    cases (show u = Value.bool true from rel)
    exact ⟨rfl, E.old H' s' un ok', os, bare⟩
end Gd

/-! Ex: errors of own classes as values: made, their fields read, asked for their class. -/
namespace Gd
open PySem PySem.Spec PyProof.Rows L2

/-- what isinstance and the fields ask of such a class -/
structure ErC (K : PySem.W.Frag) (C : Addr) : Prop where
  ga : PySem.W.findIn K (.ref C) "__getattribute__" = some (some (.builtin "BaseException.__getattribute__"))
  gg : PySem.W.findIn K (.ref C) "__getattr__" = some none
  be : PySem.W.subIn K (.ref C) (.type "BaseException") = some true
  hd : PySem.W.hasDictIn K C = true
  ci : PySem.W.isClsIn K C = true
  cc : PySem.W.findIn K (.ref C) "__class__" = some (some (.builtin "object.__class__"))
  cg : PySem.W.specialIn K (.builtin "object.__class__") "__get__" = some (some (.builtin "getset_descriptor.__get__"))
  ct : PySem.W.takesIn K (.builtin "object.__class__") = some true
  om : PySem.W.mroIn K C (.type "object") = some true

section
variable {X : Cx} {CX : CXT} {pins : List (Addr × Obj)} {σ : L2.St} {H : Hp} {s : Shared}

/-- an error of the class at C stands at a, its fields fs (the last stored first) -/
def ErA (H : Hp) (a C : Addr) (fs : List (Str × V)) : Prop :=
  (H a = some (exo a C none) ∧ fs = []) ∨ ∃ d, H a = some (exo a C (some d)) ∧ H d = some (exd d fs)

/-- such an error, as the library's rules see it -/
theorem inst_of {a C : Addr} {fs : List (Str × V)} (I : Inv X pins σ H s) (e : ErA H a C fs) :
    ∃ ox od, PySem.W.InstAt s.heap a ox C od ∧ ∀ n v, fs.lookup n = some v →
      ∃ u o, od = some o ∧ PySem.W.lookIn n o = some (some u) ∧ RelV v u := by
  obtain ⟨e, rfl⟩ | ⟨d, e, ed⟩ := e
  · obtain ⟨t, ho⟩ := exo_at I.hok e
    exact ⟨_, none, ⟨ho, rfl, rfl, trivial⟩, fun n v z => by cases z⟩
  · obtain ⟨t, ho⟩ := exo_at I.hok e
    obtain ⟨mA, hns, rel⟩ := exd_at I.hok ed
    obtain ⟨od, hod, look⟩ := lookIn_ns hns
    refine ⟨_, some od, ⟨ho, rfl, rfl, hod⟩, fun n v z => ?_⟩
    have rn := rel n
    rw [z] at rn
    cases q : mA n with
    | none => rw [q] at rn; exact rn.elim
    | some u =>
      rw [q] at rn
      exact ⟨u, od, rfl, by rw [look, q], rn⟩

/-- isinstance(e, c) -/
def rIsEr (K : PySem.W.Frag) : List V → Hp → VK → Prop := fun xs H Q => ∃ (a C : Addr) (fs : List (Str × V)) (c : V) (u : Value) (b : Bool),
  xs = [.ref a, c] ∧ ErA H a C fs ∧ ErC K C ∧ ClsV c u ∧ PySem.W.kitOne K (.ref C) u = some b ∧ Q (.bl b) H
theorem call_isEr : CallR X (.builtin "isinstance") (rIsEr X.K) := by
  intro pins s σ H xs us Q I rel h
  obtain ⟨a, C, fs, c, u, b, rfl, ea, T, kc, kit, q⟩ := h
  obtain ⟨u1, u2, rfl, r1, r2⟩ := vals2 rel
  cases (show u1 = Value.ref a from r1)
  have e2 := kc.eq r2
  subst e2
  obtain ⟨ox, od, J, _⟩ := inst_of I ea
  have Z := PySem.W.kitx_exc (x := a) (ox := ox) (od := od) (K := X.K) T.ci T.ga T.gg T.be T.cc T.cg T.ct T.om
  exact PySem.W.kia_one Z I.kIn J kit (fun z => nomatch z) fun tk => ⟨.bl b, H, I.tok tk, rfl, q⟩

/-- e.f -/
def tErF (K : PySem.W.Frag) (f : Str) (te : TE) : TE := fun σ H Q => te σ H fun x H1 => ∃ (a C : Addr) (fs : List (Str × V)) (v : V),
  x = .ref a ∧ ErA H1 a C fs ∧ ErC K C ∧ PySem.W.findIn K (.ref C) f = some none ∧ fs.lookup f = some v ∧ Q v H1
theorem pe_erF {e : Expr} {te : TE} {pos : Pos} {f : Str} (he : PE X e te)
    (hb : attributeBase e f X.env (eval e X.env) = eval e X.env := by rfl) : PE X (.Attribute e f pos) (tErF X.K f te) where
  run := by
    intro pins s σ H Q I h
    refine attr_of hb (thn (he.run pins s σ H _ I h) ?_)
    rintro u s1 ⟨x, H1, I1, rx, a, C, fs, v, ex, ea, T, no, l, q⟩
    subst ex
    cases (show u = Value.ref a from rx)
    obtain ⟨ox, od, J, g⟩ := inst_of I1 ea
    obtain ⟨u, o, rfl, lk, ru⟩ := g f v l
    exact HandSPX.exc_get I1.kIn J T.ga T.gg T.be (PySem.W.findObj_own T.hd no rfl lk) (handed_of ru) ⟨v, H1, I1.tok _, ru, q⟩

/-- C(), an error class without an __init__ of its own -/
def tEr0 (C : Addr) : TE := fun _ H Q => ∀ a, H a = none → Q (.ref a) (upd H a (exo a C none))
theorem pe_er0 {C : Addr} {bmB : List Value} {B newId initId : String} {x : Str} {p pos : Pos} (F : ExcBaseFacts B newId initId bmB)
    (q : PySem.W.excIn X.K C bmB newId = true) (gC : X.mg x = some (.ref C)) (kC : PySem.W.keepIn X.K (.ref C) = true) (hg : Gl X x)
    (hdb : (x == ("__debug__" : Str)) = false := by decide) : PE X (.Call (.Name x p) [] [] pos) (tEr0 C) where
  run := by
    intro pins s σ H Q I h
    refine wpAny_Call_Name_kw (ld_glob I hg gC ?_ hdb)
    refine PySem.W.callWith_K0 I.kIn kC ?_
    obtain ⟨bm, N, nm, qn, bs, hdct, sn, sub, ab, col, dd, k0, k1, k2, k3, k5, mN, hC, hN, hni, T⟩ := exc_obj I.kIn q
    obtain ⟨hp, g, d, t, os⟩ := s
    refine wpAny_call_exc_subT F T hC hN hni ?_ (by show 0 ≤ sizeLine; exact Nat.zero_le _)
    intro h' a hm
    have fresh : H a = none := I.hok.gone hm.new
    obtain ⟨t0, ht, _, _⟩ := hm.there
    have lay : ObjOk X.prog X.w (upd H a (exo a C none)) h' a (exo a C none) := exo_ok ht
    refine ⟨.ref a, _, I.un (t' := t) ?_ ?_, rfl, h a fresh⟩
    · exact {
        keep := fun b u z _ _ _ => hm.keeps b u z
        slot := fun b u z _ _ _ => ⟨u.slots, hm.keeps b u z⟩
        free := fun b u z n _ => by rw [upd_ne (fun e => by rw [e] at z; have := hm.new; rw [this] at z; cases z)]; exact n
        there := fun b u z _ => ⟨u, hm.keeps b u z⟩
        tups := fun b xs z => by rw [upd_ne (ne_of_none z fresh)]; exact z
        frzs := fun b o u z => by rw [upd_ne (ne_of_none z fresh)]; exact z
        tbls := fun b ps z => ⟨#[], by rw [upd_ne (ne_of_none z fresh), z]; simp⟩ }
    · intro b u z
      by_cases e : b = a
      · subst e
        rw [upd_same] at z
        cases z
        exact lay
      · rw [upd_ne e] at z
        exact (I.hok b u z).stay (fun c v _ y => hm.keeps c v y) (fun c y => by rw [upd_ne (ne_of_none y fresh)]; exact y)
          fun c xs y => by rw [upd_ne (ne_of_none y fresh)]; exact y

/-- C(e, ..), C's own __init__ keeping sp -/
def tErI (C : Addr) (sp : Sp) (ta : TA) : TE := fun σ H Q => ta σ H fun vs H1 => vs.length ≤ 1000 ∧ ∀ a, H1 a = none →
  sp (.ref a :: vs) (upd H1 a (exo a C none)) (fun v H2 => v = .non ∧ Q (.ref a) H2) (fun _ _ _ => False)
theorem pe_erI {x : Str} {C fI : Addr} {k : Nat} {fd : FuncData} {ps : List Str} {sp : Sp} {e : Expr} {es : List Expr} {ta : TA} {p pos : Pos}
    (T : OexC X.K C) (iC : PySem.W.findIn X.K (.ref C) "__init__" = some (some (.ref fI))) (tI : PySem.W.typeIn X.K (.ref fI) = some (.type "function"))
    (F1 : FnOk X.prog X.w X.K X.mg X.base CX k fI fd ps sp) (hr : Room (k + 1) X.A) (hb : Binds X.K fd ps [])
    (hx : Passes CX X (fun _ _ _ => False)) (hg : Gl X x) (hm : X.mg x = some (.ref C)) (ha : PA X (e :: es) ta)
    (hdb : (x == ("__debug__" : Str)) = false := by decide)
    (he : starEach (e :: es) X.env = (false, eval e X.env) :: starEach es X.env := by rfl)
    (hpl : (backTo pos (starEach es X.env)).any (·.1) = false := by rfl) :
    PE X (.Call (.Name x p) (e :: es) [] pos) (tErI C sp ta) where
  run := by
    intro pins s σ H Q I h
    obtain ⟨nm, q, N, bs, bm, sn, sub, ab, col, dd, k0, k1, k2, k3, k5, hC, hbm⟩ := T.cls
    refine wpAny_Call_Name_kw (ld_glob I hg hm ?_ hdb)
    refine PySem.W.callWith_K (h₀ := X.base) I.ok.mod.kin T.kC (thn (ha.run pos pins s σ H _ I h) ?_) he hpl
    rintro us s1 ⟨vs, H1, I1, rel, few, next⟩
    refine ⟨I1.kIn, ?_⟩
    show wpAny _ _ (call (.ref C) us) _ _ _
    obtain ⟨hp, g, dr, tk, os⟩ := s1
    have above : hp.objs.size ≤ hp.objs.size + 1 := Nat.le_succ _
    have call := next (hp.objs.size + 1) (I1.hok.fresh above)
    have kept : ∀ b o, hp.get? b = some o → ((hp.push (PySem.W.kdv_tup us)).push (PySem.HandSPX.excO C hp.objs.size)).get? b = some o :=
      fun b o z => Heap.get?_push_of_some _ (Heap.get?_push_of_some _ z)
    have there : ((hp.push (PySem.W.kdv_tup us)).push (PySem.HandSPX.excO C hp.objs.size)).get? (hp.objs.size + 1) = some (PySem.HandSPX.excO C hp.objs.size) := by heap_get
    have I2 := I1.laid (t' := tk) (o := exo (hp.objs.size + 1) C none) kept above (exo_ok there)
    have rel2 : Vals (V.ref (hp.objs.size + 1) :: vs) (Value.ref (hp.objs.size + 1) :: us) := .cons rfl rel
    have len2 : (Value.ref (hp.objs.size + 1) :: us ++ []).length = ps.length := by
      rw [List.append_nil, ← rel2.length]
      exact F1.len _ _ _ _ call
    have usz : us.length ≤ sizeLine := by
      have := Paired.length rel
      rw [sizeLine_eq]
      omega
    have bound := hb _ (Value.ref (hp.objs.size + 1) :: us) I2.kIn len2
    rw [List.append_nil] at bound
    refine wpAny_call (PySem.HandSPX.call_own F.excBase_ValueError (fun Y => PySem.HandSPX.refsVE_contains Y bm hbm) (I1.kIn _ _ hC)
      (PySem.W.looks_findIn I1.kIn iC) (fun self => PySem.W.bind_fn I1.kIn self tI) usz ?_)
    refine codeAny_mono (F1.run _ X.stack _ _ ⟨Value.ref (hp.objs.size + 1) :: us, []⟩ _ _ _ (fun _ _ _ => False) (hr.make C us [])
      (I2.env0.make C us []) bound rel2 call) ?_
    intro r s' hr'
    match r, hr' with
    | .error er, z => exact hx pins σ _ _ er s' I2 z
    | .ok (.ret u), z =>
      obtain ⟨v, H2, I3, rv, ev, q2⟩ := I2.after z
      subst ev
      exact ⟨rv, ⟨V.ref (hp.objs.size + 1), H2, I3, rfl, q2⟩⟩
    | .ok .next, z => exact z.elim
    | .ok .brk, z => exact z.elim
    | .ok .cont, z => exact z.elim
end
end Gd

/-! Gr: repr of data, lists and tuples and dicts within one another. -/
namespace Gd
open PySem PySem.Spec PyProof.Rows L2
def kD : Key → PyData
  | .inl i => .int i
  | .inr x => .str x
mutual
/-- v is the data d, at the abstract heap -/
inductive Dq (K : PySem.W.Frag) (H : Hp) : V → PyData → Prop
  | non : Dq K H .non .none
  | bl (b : Bool) : Dq K H (.bl b) (.bool b)
  | int (i : Int) : Dq K H (.int i) (.int i)
  | str (x : Str) : Dq K H (.str x) (.str x)
  | lst {a : Addr} {xs : List V} {ds : List PyData} : SqL K H a xs → DqAll K H xs ds → Dq K H (.ref a) (.list ds)
  | tup {a : Addr} {xs : List V} {ds : List PyData} : SqT K H a xs → DqAll K H xs ds → Dq K H (.ref a) (.tuple ds)
  | dct {a : Addr} {kvs : List (Key × V)} {ds : List (PyData × PyData)} : Rd H a (.dK kvs) → DqKv K H kvs ds → Dq K H (.ref a) (.dict ds)
inductive DqAll (K : PySem.W.Frag) (H : Hp) : List V → List PyData → Prop
  | nil : DqAll K H [] []
  | cons {v : V} {vs : List V} {d : PyData} {ds : List PyData} : Dq K H v d → DqAll K H vs ds → DqAll K H (v :: vs) (d :: ds)
inductive DqKv (K : PySem.W.Frag) (H : Hp) : List (Key × V) → List (PyData × PyData) → Prop
  | nil : DqKv K H [] []
  | cons {k : Key} {v : V} {vs : List (Key × V)} {d : PyData} {ds : List (PyData × PyData)} : Dq K H v d → DqKv K H vs ds → DqKv K H ((k, v) :: vs) ((kD k, d) :: ds)
end

theorem ram_nil {h : Heap} {n : Nat} : ReadAtMost h n [] := fun b hb => (List.not_mem_nil hb).elim
/-- a value's own repr, and what it reads -/
structure Rp (prog : Program) (w : World) (h : Heap) (u : Value) (d : PyData) : Prop where
  reads : ∃ as, Reads h u d as
  repr : d.showable = true → d.shown.length ≤ sizeLine → ∃ bs, ReadAtMost h d.depth bs ∧ ReprK prog w bs h d.depth u d.shown
structure RpAll (prog : Program) (w : World) (h : Heap) (us : List Value) (ds : List PyData) : Prop where
  reads : ∃ as, ReadsAll h us ds as
  repr : PyData.showableAll ds = true → (∀ t ∈ PyData.shownAll ds, t.length ≤ sizeLine) →
    ∃ bs, ReadAtMost h (PyData.depthAll ds) bs ∧ ReprAllK prog w bs h (PyData.depthAll ds) us (PyData.shownAll ds)
section
variable {prog : Program} {w : World} {h : Heap}
theorem RpAll.nil : RpAll prog w h [] [] := ⟨⟨_, .nil⟩, fun _ _ => ⟨[], ram_nil, by simp only [PyData.shownAll]; exact .nil⟩⟩
theorem RpAll.cons {u : Value} {d : PyData} {us : List Value} {ds : List PyData} (a : Rp prog w h u d) (b : RpAll prog w h us ds) : RpAll prog w h (u :: us) (d :: ds) where
  reads := by
    obtain ⟨as, r⟩ := a.reads
    obtain ⟨bs, rs⟩ := b.reads
    exact ⟨_, .cons r rs⟩
  repr := by
    intro hs hz
    obtain ⟨s1, s2⟩ : d.showable = true ∧ PyData.showableAll ds = true := by simpa [PyData.showableAll] using hs
    obtain ⟨b1, m1, k1⟩ := a.repr s1 (hz _ (by simp only [PyData.shownAll]; exact List.mem_cons_self ..))
    obtain ⟨b2, m2, k2⟩ := b.repr s2 fun t ht => hz t (by simp only [PyData.shownAll]; exact List.mem_cons_of_mem _ ht)
    refine ⟨b1 ++ b2, ?_, ?_⟩
    · simp only [PyData.depthAll]
      exact (m1.mono (Nat.le_max_left _ _)).append (m2.mono (Nat.le_max_right _ _))
    · simp only [PyData.depthAll, PyData.shownAll]
      have sub1 : ∀ c ∈ b1, c ∈ b1 ++ b2 := fun c hc => List.mem_append_left _ hc
      have sub2 : ∀ c ∈ b2, c ∈ b1 ++ b2 := fun c hc => List.mem_append_right _ hc
      exact .cons ((k1.more sub1).level_le (Nat.le_max_left _ _)) (k2.more_le sub2 (Nat.le_max_right _ _))
theorem Rp.list {a : Addr} {o : Obj} {us : List Value} {n : Nat} {ds : List PyData} (ho : h.get? a = some o) (hc : o.cls = .type "list") (hd : o.data = .seq us.toArray n) (all : RpAll prog w h us ds) : Rp prog w h (.ref a) (.list ds) := by
  obtain ⟨as, rs⟩ := all.reads
  have r : Reads h (.ref a) (.list ds) _ := .list ho hc hd rs
  refine ⟨⟨_, r⟩, fun hs hz => ?_⟩
  have hz' : (listText (PyData.shownAll ds)).length ≤ sizeLine := by simpa only [PyData.shown] using hz
  obtain ⟨bs, m, k⟩ := all.repr (by simpa [PyData.showable] using hs) fun t ht => Nat.le_trans (listText_mem_le ht) hz'
  have deep : PyData.depthAll ds < PyData.depth (.list ds) := by simp only [PyData.depth]; omega
  have off : a ∉ bs := not_mem_of_deeper r deep m
  refine ⟨a :: bs, ReadAtMost.cons r (Nat.le_of_lt deep) m, ?_⟩
  simp only [PyData.depth, PyData.shown]
  cases us with
  | nil =>
    cases rs
    simp only [PyData.shownAll, listText_nil]
    exact ReprK.listEmpty ho hc hd
  | cons u us => exact ReprK.list ho hc hd off (by simpa using k.length_eq) fun i y e => k.item i y (by simpa using e)
theorem Rp.tuple {a : Addr} {o : Obj} {us : List Value} {n : Nat} {ds : List PyData} (ho : h.get? a = some o) (hc : o.cls = .type "tuple") (hd : o.data = .seq us.toArray n) (all : RpAll prog w h us ds) : Rp prog w h (.ref a) (.tuple ds) := by
  obtain ⟨as, rs⟩ := all.reads
  have r : Reads h (.ref a) (.tuple ds) _ := .tuple ho hc hd rs
  refine ⟨⟨_, r⟩, fun hs hz => ?_⟩
  have hz' : (tupleText (PyData.shownAll ds)).length ≤ sizeLine := by simpa only [PyData.shown] using hz
  obtain ⟨bs, m, k⟩ := all.repr (by simpa [PyData.showable] using hs) fun t ht => Nat.le_trans (tupleText_mem_le ht) hz'
  have deep : PyData.depthAll ds < PyData.depth (.tuple ds) := by simp only [PyData.depth]; omega
  refine ⟨a :: bs, ReadAtMost.cons r (Nat.le_of_lt deep) m, ?_⟩
  simp only [PyData.depth, PyData.shown]
  exact ReprK.tuple ho hc hd (not_mem_of_deeper r deep m) k
theorem Rp.dict {a : Addr} {o : Obj} {es : Array DictEntry} {n : Nat} {ds : List (PyData × PyData)} (ho : h.get? a = some o) (hc : o.cls = .type "dict") (hd : o.data = .dict es n) (low : (a == sysModules) = false)
    (ks : RpAll prog w h (es.toList.map (·.key)) (ds.map (·.1))) (vs : RpAll prog w h (es.toList.map (·.val)) (ds.map (·.2))) : Rp prog w h (.ref a) (.dict ds) := by
  obtain ⟨as, r1⟩ := ks.reads
  obtain ⟨bs, r2⟩ := vs.reads
  have r : Reads h (.ref a) (.dict ds) _ := .dict ho hc hd r1 r2
  refine ⟨⟨_, r⟩, fun hs hz => ?_⟩
  have hz' : (dictText (PyData.shownKv ds)).length ≤ sizeLine := by simpa only [PyData.shown] using hz
  obtain ⟨s1, s2⟩ := PyData.showableKv_split ds (by simpa [PyData.showable] using hs)
  obtain ⟨b1, m1, k1⟩ := ks.repr s1 fun t ht => by
    obtain ⟨p, hp, hl⟩ := PyData.shownKv_key_le ds t ht
    exact Nat.le_trans hl (Nat.le_trans (dictText_mem_le hp) hz')
  obtain ⟨b2, m2, k2⟩ := vs.repr s2 fun t ht => by
    obtain ⟨p, hp, hl⟩ := PyData.shownKv_val_le ds t ht
    exact Nat.le_trans hl (Nat.le_trans (dictText_mem_le hp) hz')
  have deep : PyData.depthKv ds < PyData.depth (.dict ds) := by simp only [PyData.depth]; omega
  have m := (m1.mono (PyData.depthAll_keys_le ds)).append (m2.mono (PyData.depthAll_vals_le ds))
  refine ⟨a :: (b1 ++ b2), ReadAtMost.cons r (Nat.le_of_lt deep) m, ?_⟩
  simp only [PyData.depth, PyData.shown, PyData.shownKv_eq]
  have sub1 : ∀ c ∈ b1, c ∈ b1 ++ b2 := fun c hc => List.mem_append_left _ hc
  have sub2 : ∀ c ∈ b2, c ∈ b1 ++ b2 := fun c hc => List.mem_append_right _ hc
  exact ReprK.dict ho hc hd low (not_mem_of_deeper r deep m) (ReprEntriesK.of_two es.toList _ _ (k1.more_le sub1 (PyData.depthAll_keys_le ds)) (k2.more_le sub2 (PyData.depthAll_vals_le ds)))
theorem Rp.int (i : Int) (t : Tok) : Rp prog w h (.int i t) (.int i) :=
  ⟨⟨_, .int i t⟩, fun hs _ => ⟨[], ram_nil, by simp only [PyData.shown]; exact .of_is (ReprIs.int t (by simpa [PyData.showable] using hs)) _ _ _⟩⟩
theorem Rp.str (x : Str) (t : Tok) : Rp prog w h (.str x t) (.str x) :=
  ⟨⟨_, .str x t⟩, fun _ hz => ⟨[], ram_nil, by simp only [PyData.shown]; exact .of_is (ReprIs.str x t (by simpa only [PyData.shown] using hz)) _ _ _⟩⟩
theorem Rp.bool (b : Bool) : Rp prog w h (.bool b) (.bool b) :=
  ⟨⟨_, .bool b⟩, fun _ _ => ⟨[], ram_nil, by simp only [PyData.shown]; exact .of_is (ReprIs.bool b) _ _ _⟩⟩
theorem Rp.none : Rp prog w h .none .none :=
  ⟨⟨_, .none⟩, fun _ _ => ⟨[], ram_nil, by simp only [PyData.shown]; exact .of_is ReprIs.none _ _ _⟩⟩
end
section
variable {X : Cx} {pins : List (Addr × Obj)} {σ : L2.St} {H : Hp} {s : Shared}
theorem key_rp {prog : Program} {w : World} {h : Heap} {k : Key} {u : Value} (e : keyIs k u = true) : Rp prog w h u (kD k) := by
  rcases keyIs_shape e with ⟨i, t, rfl, rfl⟩ | ⟨x, t, rfl, rfl⟩
  · exact Rp.int i t
  · exact Rp.str x t
mutual
theorem Dq.rp (I : Inv X pins σ H s) : ∀ (d : PyData) (v : V) (u : Value), Dq X.K H v d → RelV v u → Rp X.prog X.w s.heap u d
  | .none, _, _, h, r => by cases h; cases r; exact Rp.none
  | .bool b, _, _, h, r => by cases h; cases r; exact Rp.bool b
  | .int i, _, _, h, r => by cases h; obtain ⟨t, rfl⟩ := r; exact Rp.int i t
  | .str x, _, _, h, r => by cases h; obtain ⟨t, rfl⟩ := r; exact Rp.str x t
  | .list ds, _, _, h, r => by
    cases h with
    | lst hs ha =>
      cases r
      obtain ⟨its, rv, ⟨o, n, ho, hc, _, hd⟩, _⟩ := I.list hs
      exact Rp.list ho hc hd (DqAll.rp I ds _ its ha rv)
  | .tuple ds, _, _, h, r => by
    cases h with
    | tup hs ha =>
      cases r
      obtain ⟨its, rv, ⟨o, ho, hc, n, hd⟩, _⟩ := I.tuple hs
      exact Rp.tuple ho hc hd (DqAll.rp I ds _ its ha rv)
  | .dict ds, _, _, h, r => by
    cases h with
    | dct hs ha =>
      cases r
      obtain ⟨_, low, vs, kv, o, es, ep, ho, hx, hd, _, hp, _⟩ := dk_rd I.hok hs
      obtain ⟨k1, k2⟩ := DqKv.rp I ds _ vs es.toList ha kv hp
      exact Rp.dict ho hx.1 hd low k1 k2
theorem DqAll.rp (I : Inv X pins σ H s) : ∀ (ds : List PyData) (vs : List V) (us : List Value), DqAll X.K H vs ds → Vals vs us → RpAll X.prog X.w s.heap us ds
  | [], _, _, h, r => by cases h; cases r; exact RpAll.nil
  | d :: ds, _, _, h, r => by
    cases h with
    | cons h1 h2 =>
      cases r with
      | cons r1 r2 => exact RpAll.cons (Dq.rp I d _ _ h1 r1) (DqAll.rp I ds _ _ h2 r2)
theorem DqKv.rp (I : Inv X pins σ H s) : ∀ (ds : List (PyData × PyData)) (kvs : List (Key × V)) (vs : List (Key × Value)) (es : List DictEntry), DqKv X.K H kvs ds → KV kvs vs → Pairs (mixKind X.prog X.w) es vs →
    RpAll X.prog X.w s.heap (es.map (·.key)) (ds.map (·.1)) ∧ RpAll X.prog X.w s.heap (es.map (·.val)) (ds.map (·.2))
  | [], _, _, _, h, r, p => by cases h; cases r; cases p; exact ⟨RpAll.nil, RpAll.nil⟩
  | (dk, d) :: ds, _, _, _, h, r, p => by
    cases h with
    | cons h1 h2 =>
      cases r with
      | cons r1 r2 =>
        obtain ⟨r0, r1⟩ := r1
        cases p with
        | cons hk hv ht =>
          obtain ⟨a, b⟩ := DqKv.rp I ds _ _ _ h2 r2 ht
          simp only at r0 r1
          subst r0
          exact ⟨RpAll.cons (key_rp hk) a, RpAll.cons (Dq.rp I d _ _ h1 (by rw [← hv] at r1; exact r1)) b⟩
end
end
/-- repr(x) of data -/
def rReprQ (K : PySem.W.Frag) : List V → Hp → VK → Prop := fun xs H Q => ∃ x d, xs = [x] ∧ Dq K H x d ∧
  d.showable = true ∧ d.depth ≤ 60 ∧ d.shown.length ≤ sizeLine ∧ Q (.str d.shown) H
theorem call_reprQ {X : Cx} (hgd : X.A.guards = some []) (hu : X.A.units + 64 < cLine) : CallR X (.builtin "repr") (rReprQ X.K) := by
  intro pins s σ H xs us Q I rel h
  obtain ⟨x, d, rfl, dq, sh, hd, hz, q⟩ := h
  cases rel with
  | cons rx rt =>
    cases rt
    rename_i u
    cases dq with
    | non =>
      cases rx
      exact PySem.P.repr_of_none ⟨.str _, H, I.tok _, ⟨_, rfl⟩, q⟩
    | bl b =>
      cases rx
      exact PySem.P.repr_of_bool ⟨.str _, H, I.tok _, ⟨_, rfl⟩, q⟩
    | int i =>
      obtain ⟨t, rfl⟩ := rx
      exact PySem.P.repr_of_int (by simpa [PyData.showable] using sh) ⟨.str _, H, I.tok _, ⟨_, rfl⟩, q⟩
    | str z =>
      obtain ⟨t, rfl⟩ := rx
      exact PySem.P.repr_of_str ⟨.str _, H, I.tok _, ⟨_, rfl⟩, q⟩ (by simpa only [PyData.shown] using hz)
    | lst hs ha =>
      cases rx
      rename_i a zs ds
      obtain ⟨its, rv, ⟨o, n, ho, hc, _, hdt⟩, _⟩ := I.list hs
      have all := DqAll.rp I ds _ its ha rv
      obtain ⟨as, rs⟩ := all.reads
      have r : Reads s.heap (.ref a) (.list ds) _ := .list ho hc hdt rs
      have hz' : (listText (PyData.shownAll ds)).length ≤ sizeLine := by simpa only [PyData.shown] using hz
      obtain ⟨bs, m, k⟩ := all.repr (by simpa [PyData.showable] using sh) fun t ht => Nat.le_trans (listText_mem_le ht) hz'
      have deep : PyData.depthAll ds < PyData.depth (.list ds) := by simp only [PyData.depth]; omega
      refine call_repr_slot (by omega) ⟨o, ho, hc⟩ F.slot_list_repr.toG ?_
      cases its with
      | nil =>
        cases rs
        refine call_list_repr_empty ⟨o, ho, hc⟩ ho hdt ?_
        exact ⟨_, _, rfl, .str _, H, I.tok _, ⟨_, rfl⟩, by simpa only [PyData.shown, PyData.shownAll, listText_nil] using q⟩
      | cons u0 us0 =>
        refine call_list_reprK ho hc hdt (not_mem_of_deeper r deep m) (by simpa using k.length_eq) (fun i y e => k.item i y (by simpa using e)) hgd (fun b _ => Clear.nil b) (by show X.A.units + 1 + _ < cLine; omega) (fun _ _ e => e) (fun h' t tk kk => ?_) hz'
        exact ⟨_, _, rfl, .str _, H, I.kept kk, ⟨_, rfl⟩, by simpa only [PyData.shown] using q⟩
    | tup hs ha =>
      cases rx
      rename_i a zs ds
      obtain ⟨its, rv, ⟨o, ho, hc, n, hdt⟩, _⟩ := I.tuple hs
      have all := DqAll.rp I ds _ its ha rv
      obtain ⟨as, rs⟩ := all.reads
      have r : Reads s.heap (.ref a) (.tuple ds) _ := .tuple ho hc hdt rs
      have hz' : (tupleText (PyData.shownAll ds)).length ≤ sizeLine := by simpa only [PyData.shown] using hz
      obtain ⟨bs, m, k⟩ := all.repr (by simpa [PyData.showable] using sh) fun t ht => Nat.le_trans (tupleText_mem_le ht) hz'
      have deep : PyData.depthAll ds < PyData.depth (.tuple ds) := by simp only [PyData.depth]; omega
      refine call_repr_slot (by omega) ⟨o, ho, hc⟩ F.slot_tuple_repr ?_
      refine call_tuple_reprK ho hc hdt (not_mem_of_deeper r deep m) k hgd (fun b _ => Clear.nil b) (by show X.A.units + 1 + _ < cLine; omega) (fun _ _ e => e) (fun h' t tk kk => ?_) hz'
      exact ⟨_, _, rfl, .str _, H, I.kept kk, ⟨_, rfl⟩, by simpa only [PyData.shown] using q⟩
    | dct hs ha =>
      cases rx
      rename_i a kvs ds
      obtain ⟨_, low, vs, kv, o, es, ep, ho, hx, hdt, _, hp, _⟩ := dk_rd I.hok hs
      obtain ⟨ks, vals⟩ := DqKv.rp I ds _ vs es.toList ha kv hp
      obtain ⟨as, r1⟩ := ks.reads
      obtain ⟨bs, r2⟩ := vals.reads
      have r : Reads s.heap (.ref a) (.dict ds) _ := .dict ho hx.1 hdt r1 r2
      have hz' : (dictText (PyData.shownKv ds)).length ≤ sizeLine := by simpa only [PyData.shown] using hz
      obtain ⟨s1, s2⟩ := PyData.showableKv_split ds (by simpa [PyData.showable] using sh)
      obtain ⟨b1, m1, k1⟩ := ks.repr s1 fun t ht => by
        obtain ⟨p, hp, hl⟩ := PyData.shownKv_key_le ds t ht
        exact Nat.le_trans hl (Nat.le_trans (dictText_mem_le hp) hz')
      obtain ⟨b2, m2, k2⟩ := vals.repr s2 fun t ht => by
        obtain ⟨p, hp, hl⟩ := PyData.shownKv_val_le ds t ht
        exact Nat.le_trans hl (Nat.le_trans (dictText_mem_le hp) hz')
      have deep : PyData.depthKv ds < PyData.depth (.dict ds) := by simp only [PyData.depth]; omega
      have m := (m1.mono (PyData.depthAll_keys_le ds)).append (m2.mono (PyData.depthAll_vals_le ds))
      have sub1 : ∀ c ∈ b1, c ∈ b1 ++ b2 := fun c hc => List.mem_append_left _ hc
      have sub2 : ∀ c ∈ b2, c ∈ b1 ++ b2 := fun c hc => List.mem_append_right _ hc
      refine call_repr_slot (by omega) ⟨o, ho, hx.1⟩ F.slot_dict_repr ?_
      refine call_dict_reprK ho hx.1 hdt low (not_mem_of_deeper r deep m) (ReprEntriesK.of_two es.toList _ _ (k1.more_le sub1 (PyData.depthAll_keys_le ds)) (k2.more_le sub2 (PyData.depthAll_vals_le ds)))
        hgd (fun b _ => Clear.nil b) (by show X.A.units + 1 + _ < cLine; omega) (fun _ _ e => e) (fun h' t tk kk => ?_) (by rw [← PyData.shownKv_eq]; exact hz')
      exact ⟨_, _, rfl, .str _, H, I.kept kk, ⟨_, rfl⟩, by simpa only [PyData.shown, PyData.shownKv_eq] using q⟩
end Gd

namespace K00
open PySem L2 Gd
def top (i : Nat) : Stmt := PySem.Challenge.pw_restcounts_k00_errors.main.body.getD i (.Pass ⟨0, 0, 0, 0⟩)
abbrev sPen : Stmt := top 16
abbrev sDraw : Stmt := top 17
abbrev sPick : Stmt := top 18
abbrev sLarge : Stmt := top 19
/-! ### the law's pen: where drawn numbers come from -/
abbrev kC : Key := Sum.inr "cells"
abbrev kA : Key := Sum.inr "at"
abbrev kG : Key := Sum.inr "digits"
abbrev kN : Key := Sum.inr "count"
abbrev kF : Key := Sum.inr "fold"
theorem kne : (kA = kC) = False ∧ (kG = kC) = False ∧ (kN = kC) = False ∧ (kF = kC) = False ∧ (kC = kA) = False ∧ (kG = kA) = False ∧ (kN = kA) = False ∧ (kF = kA) = False ∧
    (kC = kG) = False ∧ (kA = kG) = False ∧ (kN = kG) = False ∧ (kF = kG) = False ∧ (kC = kN) = False ∧ (kA = kN) = False ∧ (kG = kN) = False ∧ (kF = kN) = False ∧
    (kC = kF) = False ∧ (kA = kF) = False ∧ (kG = kF) = False ∧ (kN = kF) = False := by
  refine ⟨?_, ?_, ?_, ?_, ?_, ?_, ?_, ?_, ?_, ?_, ?_, ?_, ?_, ?_, ?_, ?_, ?_, ?_, ?_, ?_⟩ <;> exact eq_false (by decide +kernel)
theorem putK_same {kvs : List (Key × V)} {k : Key} {v x : V} (h : valV kvs k = some x) : (putK kvs k v).length = kvs.length := by
  have e := valV_any k kvs
  rw [h, Option.isSome_some] at e
  unfold putK
  rw [if_pos e, List.length_map]
theorem dg {H : Hp} {a : Addr} {kvs : List (Key × V)} (k : Key) {v : V} (hd : H a = some (.dK kvs)) (h : valV kvs k = some v) : DGet H a (kV k) (some v) := h ▸ DGet.k hd
theorem five {n : Nat} (h : n ≤ 5) : n < sizeLine := small1000 (by omega)
theorem put_in {kvs : List (Key × V)} (k j : Key) (v : V) {x : V} (h : valV kvs j = some x) (ne : (j = k) = False) : valV (putK kvs k v) j = some x := by
  rw [valV_put, if_neg (by rw [ne]; exact id)]
  exact h
theorem put_at {kvs : List (Key × V)} (k : Key) (v : V) : valV (putK kvs k v) k = some v := by
  rw [valV_put, if_pos rfl]
/-- the pen at d, its cells at c; n draws were made -/
def Pen (H : Hp) (d c : Addr) (n : Int) : Prop := ∃ (kvs : List (Key × V)) (cs : List Int) (p g f : Int), H d = some (.dK kvs) ∧ H c = some (.lst (cs.map V.int)) ∧
  kvs.length ≤ 5 ∧ valV kvs kC = some (.ref c) ∧ valV kvs kA = some (.int p) ∧ valV kvs kG = some (.int g) ∧ valV kvs kN = some (.int n) ∧ valV kvs kF = some (.int f) ∧
  (0 ≤ p ∧ 0 ≤ g) ∧ (0 ≤ f ∧ f < 2147483648)
theorem Pen.ne {H : Hp} {d c : Addr} {n : Int} (h : Pen H d c n) : c ≠ d := by
  obtain ⟨kvs, cs, p, g, f, h1, h2, _⟩ := h
  exact ne_of h2 h1 (by intro z; cases z)
theorem Pen.keep {H H' : Hp} {d c : Addr} {n : Int} (h : Pen H d c n) (e1 : H' d = H d) (e2 : H' c = H c) : Pen H' d c n := by
  obtain ⟨kvs, cs, p, g, f, h1, h2, r⟩ := h
  exact ⟨kvs, cs, p, g, f, e1.trans h1, e2.trans h2, r⟩
theorem Pen.at {H : Hp} {d c : Addr} {n : Int} (h : Pen H d c n) : ∃ o, H d = some o := let ⟨_, _, _, _, _, h1, _⟩ := h; ⟨_, h1⟩
theorem Pen.atc {H : Hp} {d c : Addr} {n : Int} (h : Pen H d c n) : ∃ o, H c = some o := let ⟨_, _, _, _, _, _, h2, _⟩ := h; ⟨_, h2⟩
/-- new objects do not touch the pen -/
theorem Pen.upd {H : Hp} {d c p : Addr} {n : Int} {o : HO} (h : Pen H d c n) (hp : H p = none) : Pen (upd H p o) d c n := by
  obtain ⟨o1, h1⟩ := h.at
  obtain ⟨o2, h2⟩ := h.atc
  exact h.keep (upd_ne (ne_of_none h1 hp)) (upd_ne (ne_of_none h2 hp))
/-- what a draw leaves -/
structure Drawn (H H' : Hp) (d c : Addr) (n : Int) : Prop where
  pen : Pen H' d c n
  off : ∀ b, b ≠ d → H' b = H b
theorem Drawn.trans {H H1 H2 : Hp} {d c : Addr} {n m : Int} (a : Drawn H H1 d c n) (b : Drawn H1 H2 d c m) : Drawn H H2 d c m := ⟨b.pen, fun x hx => (b.off x hx).trans (a.off x hx)⟩
/-- one step: a number of the pen is put anew -/
theorem pen_put {H : Hp} {d c : Addr} {kvs : List (Key × V)} {k : Key} {v x : V} (hd : H d = some (.dK kvs)) (l : kvs.length ≤ 5) (h : valV kvs k = some x) :
    (upd H d (.dK (putK kvs k v))) d = some (.dK (putK kvs k v)) ∧ (putK kvs k v).length ≤ 5 := ⟨upd_same, by rw [putK_same h]; exact l⟩

def spDraw : Sp := fun vs H Q _ => ∃ (d c : Addr) (n m : Int), vs = [.ref d, .int m] ∧ Pen H d c n ∧ 0 < m ∧ m ≤ 1000000 ∧ 0 ≤ n ∧ n < 1000000000 ∧
  ∀ (r : Int) (H' : Hp), 0 ≤ r → r < m → Drawn H H' d c (n + 1) → Q (.int r) H'
def spPen (K : PySem.W.Frag) : Sp := fun vs H Q _ => ∃ (a : Addr) (ns : List Int), vs = [.ref a] ∧ SqL K H a (ns.map V.int) ∧
  ∀ (H' : Hp) (d c : Addr), Pen H' d c 0 → (∀ b o, H b = some o → H' b = some o) → H d = none → Q (.ref d) H'
def spPick (K : PySem.W.Frag) : Sp := fun vs H Q _ => ∃ (d c a : Addr) (n : Int) (xs : List V), vs = [.ref d, .ref a] ∧ Pen H d c n ∧ H a = some (.lst xs) ∧ 0 < xs.length ∧ xs.length ≤ 1000 ∧ 0 ≤ n ∧ n < 1000000000 ∧
  ∀ (x : V) (H' : Hp), x ∈ xs → Drawn H H' d c (n + 1) → Q x H'
/-- a number of up to nineteen groups of three digits -/
def spLarge : Sp := fun vs H Q _ => ∃ (d c : Addr) (n : Int), vs = [.ref d] ∧ Pen H d c n ∧ 0 ≤ n ∧ n < 900000000 ∧
  ∀ (r n' : Int) (H' : Hp), 0 ≤ r → r < 10 ^ 57 → n ≤ n' → n' ≤ n + 30 → Pen H' d c n' → (∀ b o, H b = some o → b ≠ d → H' b = some o) → Q (.int r) H'

section
variable {P : Program} {w : World} {K : PySem.W.Frag} {mg : Str → Option Value} {base : Heap}
theorem scDraw : FnScope ["_law_pen_here", "_law_many", "_law_cell", "_law_digit", "_law_mixed"] ["_law_pen_here", "_law_many"] (defScope sDraw) := ⟨rfl, rfl, rfl, by decide +kernel, rfl, by decide +kernel, by decide +kernel⟩
theorem ok_draw {f : Addr} {fd : FuncData} (F : Fun K "_law_draw" "_law_draw" sDraw f fd) (mInt : mg "int" = none) (mLen : mg "len" = none) : FnOk P w K mg base CX0 1 f fd ["_law_pen_here", "_law_many"] spDraw := by
  refine F.ok scDraw (fun vs H Q E h => ?_) (fun cdv A outer s H vs Q E hr h => ?_)
  · obtain ⟨d, c, n, m, rfl, _⟩ := h
    rfl
  · obtain ⟨d, c, n, m, rfl, pen, m0, m1, n0, n1, k⟩ := h
    have hu := hu_of hr
    have ne := pen.ne
    obtain ⟨kvs, cs, p, g, f, hd, hc, hl, vC, vA, vG, vN, vF, ⟨p0, g0⟩, f0, f1⟩ := pen
    refine ⟨_, pss_cons (ps_dput hu (pv 0) pe_str (pe_op op_add (pe_dget hu (pv 0) pe_str (fun _ _ => rfl)) pe_int) rfl)
      (Evl.pss_cut (ps_if (PW.pt (pw_and (pt_cmpR op_eq (pe_dget hu (pv 0) pe_str (fun _ _ => rfl)) pe_int (nomark _))
            (pw_and1 (pt_cmpR op_lt (pe_dget hu (pv 0) pe_str (fun _ _ => rfl)) (pe_callB call_len_seq (by rfl) mLen PySem.boot_len (pa_cons (pe_dget hu (pv 0) pe_str (fun _ _ => rfl)) pa_nil)) (nomark _)))))
          (pss_cons (ps_set (i := 2) scDraw.nd rfl (Or.inl rfl) (pe_ix ix_list (pe_dget hu (pv 0) pe_str (fun _ _ => rfl)) (pe_dget hu (pv 0) pe_str (fun _ _ => rfl)) (fun _ _ => rfl)))
          (pss_cons (ps_dput hu (pv 0) pe_str (pe_op op_add (pe_dget hu (pv 0) pe_str (fun _ _ => rfl)) pe_int) rfl)
          (pss_one (ps_if (pt_cmpR op_ge (pv 2) (pe_op op_pow pe_int pe_int) (nomark _))
            (pss_one (ps_dput hu (pv 0) pe_str (pe_op op_sub (pv 2) (pe_op op_pow pe_int pe_int)) rfl))
            (pss_one (ps_dput hu (pv 0) pe_str (pe_op op_mod (pe_callTy call_int1 (by rfl) mInt (by decide +kernel) (pa_cons (pe_op op_add (pe_op op_mul (pe_dget hu (pv 0) pe_str (fun _ _ => rfl)) pe_int) (pv 2)) pa_nil)) pe_int) rfl))))))
          pss_nil)
      (pss_cons (ps_if (pt_cmpR op_gt (pe_dget hu (pv 0) pe_str (fun _ _ => rfl)) pe_int (nomark _))
          (pss_cons (ps_set (i := 3) scDraw.nd rfl (Or.inl rfl) (pe_op op_mod (pe_callTy call_int1 (by rfl) mInt (by decide +kernel) (pa_cons (pe_dget hu (pv 0) pe_str (fun _ _ => rfl)) pa_nil)) (pv 1)))
          (pss_cons (ps_dput hu (pv 0) pe_str (pe_op op_fdiv (pe_dget hu (pv 0) pe_str (fun _ _ => rfl)) (pv 1)) rfl)
          (pss_one (ps_ret (pv 3)))))
          pss_nil)
      (pss_cons (ps_set (i := 4) scDraw.nd rfl (Or.inl rfl) (pe_op op_add (pe_op op_add (pe_dget hu (pv 0) pe_str (fun _ _ => rfl)) (pe_op op_mul (pe_dget hu (pv 0) pe_str (fun _ _ => rfl)) pe_int)) pe_int))
      (pss_one (ps_ret (pe_op op_mod (pe_op op_fdiv (pe_callTy call_int1 (by rfl) mInt (by decide +kernel) (pa_cons (pe_op op_mod (pe_op op_pow (pv 4) pe_int) pe_int) pa_nil)) pe_int) (pv 1))))))), ?_⟩
    -- pen['count'] = pen['count'] + 1
    obtain ⟨ac, gc, nc, fc, ca, ga, na, fa, cg, ag, ng, fg, cn, an, gn, fn, cf, af, gf, nf⟩ := kne
    have l1 : (putK kvs kN (V.int (n + 1))).length ≤ 5 := by rw [putK_same vN]; exact hl
    have vC1 := put_in kN kC (V.int (n + 1)) vC cn
    have vA1 := put_in kN kA (V.int (n + 1)) vA an
    have vG1 := put_in kN kG (V.int (n + 1)) vG gn
    have vF1 := put_in kN kF (V.int (n + 1)) vF fn
    have vN1 : valV (putK kvs kN (V.int (n + 1))) kN = some (V.int (n + 1)) := put_at kN _
    refine ⟨_, rfl, d, _, rfl, dg kN hd vN, _, _, rfl, rfl, _, rfl, d, _, rfl, DPut.k (k := kN) hd (five hl), ?_⟩
    have hc1 : ∀ o, (L2.upd H d o) c = some (.lst (cs.map V.int)) := fun o => by rw [upd_ne ne]; exact hc
    generalize putK kvs kN (V.int (n + 1)) = kvs1 at *
    clear vC vA vG vN vF
    -- behind the if: a heap that differs at the pen alone
    refine ⟨fun σ' H' => ∃ (kvs : List (Key × V)) (p g f : Int) (z : Option V), σ' = [some (.ref d), some (.int m), z, none, none] ∧ H' d = some (.dK kvs) ∧ (∀ b, b ≠ d → H' b = H b) ∧
      kvs.length ≤ 5 ∧ valV kvs kC = some (.ref c) ∧ valV kvs kA = some (.int p) ∧ valV kvs kG = some (.int g) ∧ valV kvs kN = some (.int (n + 1)) ∧ valV kvs kF = some (.int f) ∧
      (0 ≤ p ∧ 0 ≤ g) ∧ (0 ≤ f ∧ f < 2147483648), ?_, ?_⟩
    · have mid : ∀ (z : Option V) (kvs2 : List (Key × V)) (H2 : Hp) (p g f : Int), H2 d = some (.dK kvs2) → (∀ b, b ≠ d → H2 b = H b) → kvs2.length ≤ 5 → valV kvs2 kC = some (.ref c) → valV kvs2 kA = some (.int p) →
          valV kvs2 kG = some (.int g) → valV kvs2 kN = some (.int (n + 1)) → valV kvs2 kF = some (.int f) → (0 ≤ p ∧ 0 ≤ g) → (0 ≤ f ∧ f < 2147483648) →
          ∃ (kvs : List (Key × V)) (p g f : Int) (z' : Option V), [some (V.ref d), some (V.int m), z, none, none] = [some (V.ref d), some (V.int m), z', none, none] ∧ H2 d = some (.dK kvs) ∧ (∀ b, b ≠ d → H2 b = H b) ∧
            kvs.length ≤ 5 ∧ valV kvs kC = some (.ref c) ∧ valV kvs kA = some (.int p) ∧ valV kvs kG = some (.int g) ∧ valV kvs kN = some (.int (n + 1)) ∧ valV kvs kF = some (.int f) ∧ (0 ≤ p ∧ 0 ≤ g) ∧ (0 ≤ f ∧ f < 2147483648) :=
        fun z kvs2 H2 p g f a1 a2 a3 a4 a5 a6 a7 a8 a9 a10 => ⟨kvs2, p, g, f, z, rfl, a1, a2, a3, a4, a5, a6, a7, a8, a9, a10⟩
      have off : ∀ o b, b ≠ d → (L2.upd H d o) b = H b := fun o b hb => upd_ne hb
      refine ⟨_, rfl, d, _, rfl, dg kG upd_same vG1, rfl, _, rfl, ite2 (fun _ => ?_) (fun _ => ?_)⟩
      · refine ⟨_, rfl, d, _, rfl, dg kA upd_same vA1, _, rfl, d, _, rfl, dg kC upd_same vC1, c, _, rfl, .inl (SqL.of (hc1 _)), _, _, rfl, rfl, _, rfl, ite2 (fun hlt => ?_) (fun _ => ?_)⟩
        · have hlt := of_decide_eq_true hlt
          rw [List.length_map] at hlt
          have hp : p.toNat < cs.length := by omega
          have hat : (cs.map V.int)[p.toNat]? = some (V.int cs[p.toNat]) := by rw [List.getElem?_map, List.getElem?_eq_getElem hp]; rfl
          refine ⟨_, rfl, d, _, rfl, dg kC upd_same vC1, _, rfl, d, _, rfl, dg kA upd_same vA1, c, _, _, _, rfl, rfl, SqL.of (hc1 _), at_of (by omega) hat, ?_⟩
          generalize cs[p.toNat] = x
          -- pen['at'] = pen['at'] + 1
          have l2 : (putK kvs1 kA (V.int (p + 1))).length ≤ 5 := by rw [putK_same vA1]; exact l1
          have vC2 := put_in kA kC (V.int (p + 1)) vC1 ca
          have vG2 := put_in kA kG (V.int (p + 1)) vG1 ga
          have vF2 := put_in kA kF (V.int (p + 1)) vF1 fa
          have vN2 := put_in kA kN (V.int (p + 1)) vN1 na
          have vA2 : valV (putK kvs1 kA (V.int (p + 1))) kA = some (V.int (p + 1)) := put_at kA _
          refine ⟨_, rfl, d, _, rfl, dg kA upd_same vA1, _, _, rfl, rfl, _, rfl, d, _, rfl, DPut.k (k := kA) upd_same (five l1), ?_⟩
          rw [upd_upd]
          generalize putK kvs1 kA (V.int (p + 1)) = kvs2 at *
          refine ⟨_, rfl, _, _, rfl, rfl, ⟨by decide, by decide, by decide⟩, _, _, rfl, rfl, _, rfl, ite2 (fun hge => ?_) (fun _ => ?_)⟩
          · have hge := of_decide_eq_true hge
            refine ⟨_, rfl, _, _, rfl, rfl, ⟨by decide, by decide, by decide⟩, _, _, rfl, rfl, _, rfl, d, _, rfl, DPut.k (k := kG) upd_same (five l2), ?_⟩
            rw [upd_upd]
            have e10 : (10 : Int) ^ (18 : Int).toNat = 1000000000000000000 := by decide
            exact mid _ _ _ (p + 1) _ f upd_same (off _) (by rw [putK_same vG2]; exact l2) (put_in kG kC _ vC2 cg) (put_in kG kA _ vA2 ag) (put_at kG _) (put_in kG kN _ vN2 ng) (put_in kG kF _ vF2 fg) ⟨by omega, by omega⟩ ⟨f0, f1⟩
          · refine ⟨_, rfl, d, _, rfl, dg kF upd_same vF2, _, _, rfl, rfl, .inl ⟨by omega, by omega⟩, _, rfl, _, _, rfl, rfl, .inl ⟨_, rfl, _, _, rfl, rfl, (by show (0 : Int) < 2147483587; decide), _, rfl, d, _, rfl, DPut.k (k := kF) upd_same (five l2), ?_⟩⟩
            rw [upd_upd]
            exact mid _ _ _ (p + 1) g _ upd_same (off _) (by rw [putK_same vF2]; exact l2) (put_in kF kC _ vC2 cf) (put_in kF kA _ vA2 af) (put_in kF kG _ vG2 gf) (put_in kF kN _ vN2 nf) (put_at kF _) ⟨by omega, by omega⟩ ⟨by omega, by omega⟩
        · exact mid _ _ _ p g f upd_same (off _) l1 vC1 vA1 vG1 vN1 vF1 ⟨p0, g0⟩ ⟨f0, f1⟩
      · refine iteF ?_
        exact mid _ _ _ p g f upd_same (off _) l1 vC1 vA1 vG1 vN1 vF1 ⟨p0, g0⟩ ⟨f0, f1⟩
    · clear vC1 vA1 vG1 vF1 vN1 l1 hc1 p0 g0 f0 f1 hl hd
      rintro σ' H2 ⟨kvs2, p2, g2, f2, z, rfl, hd2, off, l2, vC2, vA2, vG2, vN2, vF2, ⟨p0, g0⟩, f0, f1⟩
      have hc2 : H2 c = some (.lst (cs.map V.int)) := (off c ne).trans hc
      have m30 : m < 1073741824 := by omega
      refine ⟨_, rfl, d, _, rfl, dg kG hd2 vG2, _, _, rfl, rfl, _, rfl, ite2 (fun hgt => ?_) (fun _ => ?_)⟩
      · refine ⟨_, rfl, d, _, rfl, dg kG hd2 vG2, .inl ⟨_, rfl, _, rfl, _, _, rfl, rfl, m0, ?_⟩⟩
        refine ⟨_, rfl, d, _, rfl, dg kG hd2 vG2, _, rfl, _, _, rfl, rfl, ⟨m0, m30⟩, _, rfl, d, _, rfl, DPut.k (k := kG) hd2 (five l2), _, rfl, ?_⟩
        have q0 : 0 ≤ g2 / m := Int.ediv_nonneg g0 (by omega)
        refine k _ _ (Int.emod_nonneg _ (by omega)) (Int.emod_lt_of_pos _ m0) ⟨⟨_, cs, p2, g2 / m, f2, upd_same, by rw [upd_ne ne]; exact hc2, by rw [putK_same vG2]; exact l2, put_in kG kC _ vC2 cg, put_in kG kA _ vA2 ag, put_at kG _, put_in kG kN _ vN2 ng, put_in kG kF _ vF2 fg, ⟨p0, q0⟩, f0, f1⟩, fun b hb => by rw [upd_ne hb]; exact off b hb⟩
      · refine ⟨_, rfl, d, _, rfl, dg kF hd2 vF2, _, rfl, d, _, rfl, dg kN hd2 vN2, _, _, rfl, rfl, .inr ⟨by decide, by decide⟩, _, _, rfl, rfl, _, _, rfl, rfl, ?_⟩
        refine ⟨_, rfl, _, _, rfl, rfl, ⟨by decide, by decide, by omega⟩, _, _, rfl, rfl, (by show (0 : Int) < 2305843009213693951; decide), .inl ⟨_, rfl, _, _, rfl, rfl, ⟨by decide, by decide⟩, _, rfl, _, _, rfl, rfl, m0, ?_⟩⟩
        exact k _ _ (Int.emod_nonneg _ (by omega)) (Int.emod_lt_of_pos _ m0) ⟨⟨kvs2, cs, p2, g2, f2, hd2, hc2, l2, vC2, vA2, vG2, vN2, vF2, ⟨p0, g0⟩, f0, f1⟩, off⟩

theorem scPen : FnScope ["_law_script", "_law_fold", "_law_cell"] ["_law_script"] (defScope sPen) := ⟨rfl, rfl, rfl, by decide +kernel, rfl, by decide +kernel, by decide +kernel⟩
theorem ok_pen {f : Addr} {fd : FuncData} (F : Fun K "_law_pen" "_law_pen" sPen f fd) (mInt : mg "int" = none) (mLst : mg "list" = none) : FnOk P w K mg base CX0 1 f fd ["_law_script"] (spPen K) := by
  refine F.ok scPen (fun vs H Q E h => ?_) (fun cdv A outer s H vs Q E hr h => ?_)
  · obtain ⟨a, ns, rfl, _⟩ := h
    rfl
  · obtain ⟨a, ns, rfl, hS, k⟩ := h
    refine ⟨_, pss_cons (ps_set (i := 1) scPen.nd rfl (Or.inl rfl) pe_int)
      (pss_cons (ps_for PassesOwn.never rfl (pi_list (pv 0)) (pg_name (i := 2) scPen.nd rfl (Or.inl rfl))
        (pss_one (ps_set (i := 1) scPen.nd rfl (Or.inl rfl) (pe_op op_mod (pe_callTy call_int1 (by rfl) mInt (by decide +kernel) (pa_cons (pe_op op_add (pe_op op_mul (pv 1) pe_int) (pv 2)) pa_nil)) pe_int))))
      (pss_one (ps_ret (pe_disp (pps_cons pe_str (pe_callTy call_list_of (by rfl) mLst (by decide +kernel) (pa_cons (pv 0) pa_nil))
        (pps_cons pe_str pe_int (pps_cons pe_str pe_int (pps_cons pe_str pe_int (pps_cons pe_str (pv 1) pps_nil))))) rfl rfl (by simp) (by decide))))), ?_⟩
    refine ⟨_, rfl, a, rfl, ⟨_, hS⟩, for_list (K := K) (a := a) (xs := ns.map V.int) (fun _ σ H2 => ∃ (f : Int) (v : Option V), σ = [some (.ref a), some (.int f), v] ∧ H2 = H ∧ 0 ≤ f ∧ f < 1000000007)
      ⟨0, none, rfl, rfl, by decide, by decide⟩ (fun i σ H2 _ ⟨_, _, _, e, _⟩ => e ▸ hS) ?_ ?_⟩
    · rintro i y σ H2 hi ⟨f, v, rfl, rfl, f0, f1⟩
      obtain ⟨z, rfl⟩ : ∃ z, y = V.int z := by
        rw [List.getElem?_map] at hi
        cases e : ns[i]? with
        | none => rw [e] at hi; cases hi
        | some z => rw [e] at hi; exact ⟨z, (Option.some.inj hi).symm⟩
      refine ⟨_, rfl, _, _, rfl, rfl, .inl ⟨by omega, by omega⟩, _, rfl, _, _, rfl, rfl, .inl ⟨_, rfl, _, _, rfl, rfl, (by show (0 : Int) < 1000000007; decide), ?_⟩⟩
      exact ⟨_, _, rfl, rfl, Int.emod_nonneg _ (by decide), Int.emod_lt_of_pos _ (by decide)⟩
    · rintro σ H2 ⟨f, v, rfl, rfl, f0, f1⟩
      intro d hd
      have hS1 : SqL K (L2.upd H2 d (.dK [])) a (ns.map V.int) := Same.seq (fun b o e => by rw [upd_ne (ne_of_none e hd)]; exact e) hS
      refine ⟨_, rfl, a, _, rfl, .inl hS1, fun c hc => ?_⟩
      have ncd : c ≠ d := fun e => by
        rw [e, upd_same] at hc
        cases hc
      have hc0 : H2 c = none := by rw [upd_ne ncd] at hc; exact hc
      refine ⟨_, rfl, by rw [upd_ne ncd.symm, upd_same], [(kC, .ref c), (kA, .int 0), (kG, .int 0), (kN, .int 0), (kF, .int f)], rfl, (by show 5 ≤ 15; decide), ?_⟩
      have lm := length_mergeK [(kC, V.ref c), (kA, .int 0), (kG, .int 0), (kN, .int 0), (kF, .int f)] []
      obtain ⟨ac, gc, nc, fc, ca, ga, na, fa, cg, ag, ng, fg, cn, an, gn, fn, cf, af, gf, nf⟩ := kne
      have em : mergeK [] [(kC, V.ref c), (kA, .int 0), (kG, .int 0), (kN, .int 0), (kF, .int f)] = putK (putK (putK (putK (putK [] kC (.ref c)) kA (.int 0)) kG (.int 0)) kN (.int 0)) kF (.int f) := rfl
      have v1 : valV (mergeK [] [(kC, V.ref c), (kA, .int 0), (kG, .int 0), (kN, .int 0), (kF, .int f)]) kC = some (.ref c) := by
        rw [em]; exact put_in _ _ _ (put_in _ _ _ (put_in _ _ _ (put_in _ _ _ (put_at _ _) ca) cg) cn) cf
      have v2 : valV (mergeK [] [(kC, V.ref c), (kA, .int 0), (kG, .int 0), (kN, .int 0), (kF, .int f)]) kA = some (.int 0) := by
        rw [em]; exact put_in _ _ _ (put_in _ _ _ (put_in _ _ _ (put_at _ _) ag) an) af
      have v3 : valV (mergeK [] [(kC, V.ref c), (kA, .int 0), (kG, .int 0), (kN, .int 0), (kF, .int f)]) kG = some (.int 0) := by
        rw [em]; exact put_in _ _ _ (put_in _ _ _ (put_at _ _) gn) gf
      have v4 : valV (mergeK [] [(kC, V.ref c), (kA, .int 0), (kG, .int 0), (kN, .int 0), (kF, .int f)]) kN = some (.int 0) := by
        rw [em]; exact put_in _ _ _ (put_at _ _) nf
      have v5 : valV (mergeK [] [(kC, V.ref c), (kA, .int 0), (kG, .int 0), (kN, .int 0), (kF, .int f)]) kF = some (.int f) := by
        rw [em]; exact put_at _ _
      have l5 : (mergeK [] [(kC, V.ref c), (kA, .int 0), (kG, .int 0), (kN, .int 0), (kF, .int f)]).length ≤ 5 := lm
      refine k _ d c ⟨_, ns, 0, 0, f, upd_same, by rw [upd_ne ncd, upd_same], l5, v1, v2, v3, v4, v5, by decide, f0, by omega⟩ (fun b o e => ?_) hd
      rw [upd_ne (ne_of_none e hd), upd_ne (ne_of_none e hc0), upd_ne (ne_of_none e hd)]
      exact e
theorem scPick : FnScope ["_law_pen_here", "_law_some"] ["_law_pen_here", "_law_some"] (defScope sPick) := ⟨rfl, rfl, rfl, by decide +kernel, rfl, by decide +kernel, by decide +kernel⟩
theorem ok_pick {f fD : Addr} {fd fdD : FuncData} (F : Fun K "_law_pick" "_law_pick" sPick f fd) (FD : Fun K "_law_draw" "_law_draw" sDraw fD fdD) (bD : Binds K fdD ["_law_pen_here", "_law_many"] []) (mD : mg "_law_draw" = some (.ref fD))
    (mInt : mg "int" = none) (mLen : mg "len" = none) : FnOk P w K mg base CX0 2 f fd ["_law_pen_here", "_law_some"] (spPick K) := by
  have GD : FnOk P w K mg base CX0 1 fD fdD ["_law_pen_here", "_law_many"] spDraw := ok_draw FD mInt mLen
  refine F.ok scPick (fun vs H Q E h => ?_) (fun cdv A outer s H vs Q E hr h => ?_)
  · obtain ⟨d, c, a, n, xs, rfl, _⟩ := h
    rfl
  · obtain ⟨d, c, a, n, xs, rfl, pen, ha, x0, x1, n0, n1, k⟩ := h
    refine ⟨_, pss_one (ps_ret (pe_ix ix_list (pv 1) (pe_call GD hr rfl mD FD.kp bD .nil pass0 (pa_cons (pv 0) (pa_cons (pe_callB call_len_seq (by rfl) mLen PySem.boot_len (pa_cons (pv 1) pa_nil)) pa_nil))) (fun _ _ => rfl))), ?_⟩
    refine ⟨_, rfl, _, rfl, _, rfl, a, _, rfl, .inl (SqL.of ha), d, c, n, _, rfl, pen, by omega, by omega, n0, n1, fun r H' r0 r1 dr => ?_⟩
    have nda : a ≠ d := fun e => by
      obtain ⟨kvs, cs, p, g, f, h1, _⟩ := pen
      rw [e, h1] at ha
      cases ha
    have hr : r.toNat < xs.length := by omega
    refine ⟨a, _, _, _, rfl, rfl, SqL.of ((dr.off a nda).trans ha), at_of (j := r.toNat) (by omega) (List.getElem?_eq_getElem hr), ?_⟩
    exact k _ _ (List.getElem_mem hr) dr
theorem scLarge : FnScope ["_law_pen_here", "_law_way", "_law_total", "_law_k"] ["_law_pen_here"] (defScope sLarge) := ⟨rfl, rfl, rfl, by decide +kernel, rfl, by decide +kernel, by decide +kernel⟩
theorem ok_large {f fD fP : Addr} {fd fdD fdP : FuncData} (F : Fun K "_law_large" "_law_large" sLarge f fd) (FD : Fun K "_law_draw" "_law_draw" sDraw fD fdD) (bD : Binds K fdD ["_law_pen_here", "_law_many"] []) (mD : mg "_law_draw" = some (.ref fD))
    (FP : Fun K "_law_pick" "_law_pick" sPick fP fdP) (bP : Binds K fdP ["_law_pen_here", "_law_some"] []) (mP : mg "_law_pick" = some (.ref fP))
    (mInt : mg "int" = none) (mLen : mg "len" = none) (mRng : mg "range" = none) : FnOk P w K mg base CX0 3 f fd ["_law_pen_here"] spLarge := by
  have GD : FnOk P w K mg base CX0 1 fD fdD ["_law_pen_here", "_law_many"] spDraw := ok_draw FD mInt mLen
  have GP : FnOk P w K mg base CX0 2 fP fdP ["_law_pen_here", "_law_some"] (spPick K) := ok_pick FP FD bD mD mInt mLen
  refine F.ok scLarge (fun vs H Q E h => ?_) (fun cdv A outer s H vs Q E hr h => ?_)
  · obtain ⟨d, c, n, rfl, _⟩ := h
    rfl
  · obtain ⟨d, c, n, rfl, pen, n0, n1, k⟩ := h
    have hr1 : Room 1 _ := hr.mono (by decide)
    refine ⟨_, pss_cons (ps_par (i := 1) (j := 2) rfl scLarge.nd rfl rfl (by decide) rfl rfl (pa_cons (pe_call GD hr1 rfl mD FD.kp bD .nil pass0 (pa_cons (pv 0) (pa_cons pe_int pa_nil))) (pa_cons pe_int pa_nil)) (by rfl))
      (pss_cons (ps_if (pt_cmpR op_lt (pv 1) pe_int (nomark _)) (pss_one (ps_ret (pe_call GD hr1 rfl mD FD.kp bD .nil pass0 (pa_cons (pv 0) (pa_cons pe_int pa_nil))))) pss_nil)
      (pss_cons (ps_for PassesOwn.never rfl (pi_range1 rfl mRng (pa_cons (pe_call GP hr rfl mP FP.kp bP .nil pass0 (pa_cons (pv 0) (pa_cons (pe_lst (pa_cons pe_int (pa_cons pe_int (pa_cons pe_int (pa_cons pe_int pa_nil))))) pa_nil))) pa_nil)) (pg_name (i := 3) scLarge.nd rfl (Or.inl rfl))
        (pss_one (ps_set (i := 2) scLarge.nd rfl (Or.inl rfl) (pe_op op_add (pe_op op_mul (pv 2) pe_int) (pe_call GD hr1 rfl mD FD.kp bD .nil pass0 (pa_cons (pv 0) (pa_cons pe_int pa_nil)))))))
      (pss_one (ps_ret (pv 2))))), ?_⟩
    refine ⟨_, rfl, d, c, n, 6, rfl, pen, by decide, by decide, n0, by omega, fun way H1 w0 w1 dr1 => ?_⟩
    refine ⟨_, _, rfl, ?_⟩
    refine ⟨_, rfl, _, _, rfl, rfl, _, rfl, ite2 (fun _ => ?_) (fun _ => ?_)⟩
    · refine ⟨_, rfl, d, c, n + 1, 40, rfl, dr1.pen, by decide, by decide, by omega, by omega, fun r H2 r0 r1 dr2 => ?_⟩
      have dr := dr1.trans dr2
      exact k r (n + 1 + 1) H2 r0 (Int.lt_trans r1 (by decide)) (by omega) (by omega) dr.pen fun b o e hb => (dr.off b hb).trans e
    · refine ⟨_, rfl, (by show 4 ≤ sizeLine; decide), fun p np => ?_⟩
      have pen1 := dr1.pen.upd (o := .lst [.int 1, .int 2, .int 6, .int 19]) np
      refine ⟨d, c, p, n + 1, [.int 1, .int 2, .int 6, .int 19], rfl, pen1, upd_same, by decide, by decide, by omega, by omega, fun x H2 hx dr2 => ?_⟩
      obtain ⟨j, rfl, j0, j1⟩ : ∃ j : Int, x = .int j ∧ 1 ≤ j ∧ j ≤ 19 := by
        rcases List.mem_cons.mp hx with rfl | hx
        · exact ⟨_, rfl, by decide, by decide⟩
        rcases List.mem_cons.mp hx with rfl | hx
        · exact ⟨_, rfl, by decide, by decide⟩
        rcases List.mem_cons.mp hx with rfl | hx
        · exact ⟨_, rfl, by decide, by decide⟩
        rcases List.mem_cons.mp hx with rfl | hx
        · exact ⟨_, rfl, by decide, by decide⟩
        · exact (List.not_mem_nil hx).elim
      have fr2 : ∀ b o, H b = some o → b ≠ d → H2 b = some o := fun b o e hb => by
        have h1 : H1 b = some o := (dr1.off b hb).trans e
        rw [dr2.off b hb, upd_ne (ne_of_none h1 np)]
        exact h1
      refine ⟨j, rfl, by omega, by omega, for_range (lo := 0) (n := j.toNat) (fun i σ H3 => ∃ (t n' : Int) (v : Option V), σ = [some (.ref d), some (.int way), some (.int t), v] ∧ 0 ≤ t ∧ t < ((1000 ^ i : Nat) : Int) ∧ n' = n + 2 + (i : Int) ∧
        Pen H3 d c n' ∧ ∀ b o, H b = some o → b ≠ d → H3 b = some o) ⟨0, _, none, rfl, by decide, by decide, rfl, ?_, fr2⟩ ?_ ?_⟩
      · have e := dr2.pen
        rw [show n + 1 + 1 = n + 2 + ((0 : Nat) : Int) by omega] at e
        exact e
      · rintro i σ H3 hi ⟨t, n', v, rfl, t0, t1, rfl, pen3, fr3⟩
        refine ⟨_, rfl, _, _, rfl, rfl, .inr ⟨by decide, by decide⟩, _, rfl, d, c, _, 1000, rfl, pen3, by decide, by decide, by omega, by omega, fun r H4 r0 r1 dr4 => ?_⟩
        refine ⟨_, _, rfl, rfl, ?_⟩
        refine ⟨_, _, _, rfl, by omega, ?_, ?_, dr4.pen, fun b o e hb => (dr4.off b hb).trans (fr3 b o e hb)⟩
        · rw [Nat.pow_succ]
          omega
        · omega
      · rintro σ H3 ⟨t, n', v, rfl, t0, t1, rfl, pen3, fr3⟩
        have hp : 1000 ^ j.toNat ≤ 1000 ^ 19 := Nat.pow_le_pow_right (by decide) (by omega)
        have e19 : (1000 ^ 19 : Nat) = 10 ^ 57 := by decide
        refine ⟨_, rfl, ?_⟩
        refine k t _ H3 t0 ?_ (by omega) (by omega) pen3 fr3
        have : ((1000 ^ j.toNat : Nat) : Int) ≤ ((10 ^ 57 : Nat) : Int) := by rw [← e19]; exact Int.ofNat_le.mpr hp
        exact Int.lt_of_lt_of_le t1 this
end
/-! ### the errors -/
/-- what an __init__ that keeps its arguments as fields does -/
def spIni (C : Addr) (fs : List Str) : Sp := fun vs H Q _ => ∃ (a : Addr) (ys : List V), vs = .ref a :: ys ∧ ys.length = fs.length ∧ H a = some (exo a C none) ∧
  ∀ (H' : Hp) (dx : Addr), H dx = none → dx ≠ a → (∀ b, b ≠ a → b ≠ dx → H' b = H b) → H' a = some (exo a C (some dx)) → H' dx = some (exd dx (fs.zip ys).reverse) → Q .non H'
section
variable {P : Program} {w : World} {K : PySem.W.Frag} {mg : Str → Option Value} {base : Heap}
abbrev sBadText : Stmt := inClass (top 2) 0
theorem scBadText : FnScope ["self", "column"] ["self", "column"] (defScope sBadText) := ⟨rfl, rfl, rfl, by decide +kernel, rfl, by decide +kernel, by decide +kernel⟩
theorem okBadText {f C : Addr} {fd : FuncData} (F : Fun K "__init__" "BadText.__init__" sBadText f fd) (T : OexC K C) (no : ∀ g ∈ (["column"] : List Str), PySem.W.findIn K (.ref C) g = some none) : FnOk P w K mg base CX0 1 f fd ["self", "column"] (spIni C ["column"]) := by
  refine F.ok scBadText (fun vs H Q E h => ?_) (fun cdv A outer s H vs Q E hr h => ?_)
  · obtain ⟨a, ys, rfl, hl, _⟩ := h
    show ys.length + 1 = _
    rw [hl]
    rfl
  · obtain ⟨a, ys, rfl, hl, ha, k⟩ := h
    match ys, hl with
    | [y0], _ =>
    refine ⟨_, pss_one (ps_ost (pv 0) (pv 1)), ?_⟩
    refine ⟨_, rfl, _, rfl, a, C, rfl, T, no _ (.head _), .inl ⟨ha, fun dx hdx ne => ?_⟩⟩
    refine k _ dx hdx ne (fun b hb hd => ?_) ?_ ?_
    · rw [upd_ne hb, upd_ne hd]
    · exact upd_same
    · rw [upd_ne ne, upd_same]; rfl
abbrev sBadLine : Stmt := inClass (top 3) 0
theorem scBadLine : FnScope ["self", "line", "column"] ["self", "line", "column"] (defScope sBadLine) := ⟨rfl, rfl, rfl, by decide +kernel, rfl, by decide +kernel, by decide +kernel⟩
theorem okBadLine {f C : Addr} {fd : FuncData} (F : Fun K "__init__" "BadLine.__init__" sBadLine f fd) (T : OexC K C) (no : ∀ g ∈ (["line", "column"] : List Str), PySem.W.findIn K (.ref C) g = some none) : FnOk P w K mg base CX0 1 f fd ["self", "line", "column"] (spIni C ["line", "column"]) := by
  refine F.ok scBadLine (fun vs H Q E h => ?_) (fun cdv A outer s H vs Q E hr h => ?_)
  · obtain ⟨a, ys, rfl, hl, _⟩ := h
    show ys.length + 1 = _
    rw [hl]
    rfl
  · obtain ⟨a, ys, rfl, hl, ha, k⟩ := h
    match ys, hl with
    | [y0, y1], _ =>
    refine ⟨_, pss_cons (ps_ost (pv 0) (pv 1)) (pss_one (ps_ost (pv 0) (pv 2))), ?_⟩
    refine ⟨_, rfl, _, rfl, a, C, rfl, T, no _ (.head _), .inl ⟨ha, fun dx hdx ne => ?_⟩⟩
    refine ⟨_, rfl, _, rfl, a, C, rfl, T, no _ (.tail _ (.head _)), .inr ⟨dx, _, upd_same, by rw [upd_ne ne, upd_same], by show 1 ≤ 900; decide, ?_⟩⟩
    refine k _ dx hdx ne (fun b hb hd => ?_) ?_ ?_
    · rw [upd_ne hd, upd_ne hb, upd_ne hd]
    · rw [upd_ne ne.symm, upd_same]
    · exact upd_same
abbrev sBadNumber : Stmt := inClass (top 4) 0
theorem scBadNumber : FnScope ["self", "what", "number"] ["self", "what", "number"] (defScope sBadNumber) := ⟨rfl, rfl, rfl, by decide +kernel, rfl, by decide +kernel, by decide +kernel⟩
theorem okBadNumber {f C : Addr} {fd : FuncData} (F : Fun K "__init__" "BadNumber.__init__" sBadNumber f fd) (T : OexC K C) (no : ∀ g ∈ (["what", "number"] : List Str), PySem.W.findIn K (.ref C) g = some none) : FnOk P w K mg base CX0 1 f fd ["self", "what", "number"] (spIni C ["what", "number"]) := by
  refine F.ok scBadNumber (fun vs H Q E h => ?_) (fun cdv A outer s H vs Q E hr h => ?_)
  · obtain ⟨a, ys, rfl, hl, _⟩ := h
    show ys.length + 1 = _
    rw [hl]
    rfl
  · obtain ⟨a, ys, rfl, hl, ha, k⟩ := h
    match ys, hl with
    | [y0, y1], _ =>
    refine ⟨_, pss_cons (ps_ost (pv 0) (pv 1)) (pss_one (ps_ost (pv 0) (pv 2))), ?_⟩
    refine ⟨_, rfl, _, rfl, a, C, rfl, T, no _ (.head _), .inl ⟨ha, fun dx hdx ne => ?_⟩⟩
    refine ⟨_, rfl, _, rfl, a, C, rfl, T, no _ (.tail _ (.head _)), .inr ⟨dx, _, upd_same, by rw [upd_ne ne, upd_same], by show 1 ≤ 900; decide, ?_⟩⟩
    refine k _ dx hdx ne (fun b hb hd => ?_) ?_ ?_
    · rw [upd_ne hd, upd_ne hb, upd_ne hd]
    · rw [upd_ne ne.symm, upd_same]
    · exact upd_same
abbrev sBadRow : Stmt := inClass (top 5) 0
theorem scBadRow : FnScope ["self", "row"] ["self", "row"] (defScope sBadRow) := ⟨rfl, rfl, rfl, by decide +kernel, rfl, by decide +kernel, by decide +kernel⟩
theorem okBadRow {f C : Addr} {fd : FuncData} (F : Fun K "__init__" "BadRow.__init__" sBadRow f fd) (T : OexC K C) (no : ∀ g ∈ (["row"] : List Str), PySem.W.findIn K (.ref C) g = some none) : FnOk P w K mg base CX0 1 f fd ["self", "row"] (spIni C ["row"]) := by
  refine F.ok scBadRow (fun vs H Q E h => ?_) (fun cdv A outer s H vs Q E hr h => ?_)
  · obtain ⟨a, ys, rfl, hl, _⟩ := h
    show ys.length + 1 = _
    rw [hl]
    rfl
  · obtain ⟨a, ys, rfl, hl, ha, k⟩ := h
    match ys, hl with
    | [y0], _ =>
    refine ⟨_, pss_one (ps_ost (pv 0) (pv 1)), ?_⟩
    refine ⟨_, rfl, _, rfl, a, C, rfl, T, no _ (.head _), .inl ⟨ha, fun dx hdx ne => ?_⟩⟩
    refine k _ dx hdx ne (fun b hb hd => ?_) ?_ ?_
    · rw [upd_ne hb, upd_ne hd]
    · exact upd_same
    · rw [upd_ne ne, upd_same]; rfl
abbrev sBadName : Stmt := inClass (top 6) 0
theorem scBadName : FnScope ["self", "name"] ["self", "name"] (defScope sBadName) := ⟨rfl, rfl, rfl, by decide +kernel, rfl, by decide +kernel, by decide +kernel⟩
theorem okBadName {f C : Addr} {fd : FuncData} (F : Fun K "__init__" "BadName.__init__" sBadName f fd) (T : OexC K C) (no : ∀ g ∈ (["name"] : List Str), PySem.W.findIn K (.ref C) g = some none) : FnOk P w K mg base CX0 1 f fd ["self", "name"] (spIni C ["name"]) := by
  refine F.ok scBadName (fun vs H Q E h => ?_) (fun cdv A outer s H vs Q E hr h => ?_)
  · obtain ⟨a, ys, rfl, hl, _⟩ := h
    show ys.length + 1 = _
    rw [hl]
    rfl
  · obtain ⟨a, ys, rfl, hl, ha, k⟩ := h
    match ys, hl with
    | [y0], _ =>
    refine ⟨_, pss_one (ps_ost (pv 0) (pv 1)), ?_⟩
    refine ⟨_, rfl, _, rfl, a, C, rfl, T, no _ (.head _), .inl ⟨ha, fun dx hdx ne => ?_⟩⟩
    refine k _ dx hdx ne (fun b hb hd => ?_) ?_ ?_
    · rw [upd_ne hb, upd_ne hd]
    · exact upd_same
    · rw [upd_ne ne, upd_same]; rfl
abbrev sUnlike : Stmt := inClass (top 7) 0
theorem scUnlike : FnScope ["self", "what"] ["self", "what"] (defScope sUnlike) := ⟨rfl, rfl, rfl, by decide +kernel, rfl, by decide +kernel, by decide +kernel⟩
theorem okUnlike {f C : Addr} {fd : FuncData} (F : Fun K "__init__" "Unlike.__init__" sUnlike f fd) (T : OexC K C) (no : ∀ g ∈ (["what"] : List Str), PySem.W.findIn K (.ref C) g = some none) : FnOk P w K mg base CX0 1 f fd ["self", "what"] (spIni C ["what"]) := by
  refine F.ok scUnlike (fun vs H Q E h => ?_) (fun cdv A outer s H vs Q E hr h => ?_)
  · obtain ⟨a, ys, rfl, hl, _⟩ := h
    show ys.length + 1 = _
    rw [hl]
    rfl
  · obtain ⟨a, ys, rfl, hl, ha, k⟩ := h
    match ys, hl with
    | [y0], _ =>
    refine ⟨_, pss_one (ps_ost (pv 0) (pv 1)), ?_⟩
    refine ⟨_, rfl, _, rfl, a, C, rfl, T, no _ (.head _), .inl ⟨ha, fun dx hdx ne => ?_⟩⟩
    refine k _ dx hdx ne (fun b hb hd => ?_) ?_ ?_
    · rw [upd_ne hb, upd_ne hd]
    · exact upd_same
    · rw [upd_ne ne, upd_same]; rfl
abbrev sTooMany : Stmt := inClass (top 8) 0
theorem scTooMany : FnScope ["self", "what", "limit"] ["self", "what", "limit"] (defScope sTooMany) := ⟨rfl, rfl, rfl, by decide +kernel, rfl, by decide +kernel, by decide +kernel⟩
theorem okTooMany {f C : Addr} {fd : FuncData} (F : Fun K "__init__" "TooMany.__init__" sTooMany f fd) (T : OexC K C) (no : ∀ g ∈ (["what", "limit"] : List Str), PySem.W.findIn K (.ref C) g = some none) : FnOk P w K mg base CX0 1 f fd ["self", "what", "limit"] (spIni C ["what", "limit"]) := by
  refine F.ok scTooMany (fun vs H Q E h => ?_) (fun cdv A outer s H vs Q E hr h => ?_)
  · obtain ⟨a, ys, rfl, hl, _⟩ := h
    show ys.length + 1 = _
    rw [hl]
    rfl
  · obtain ⟨a, ys, rfl, hl, ha, k⟩ := h
    match ys, hl with
    | [y0, y1], _ =>
    refine ⟨_, pss_cons (ps_ost (pv 0) (pv 1)) (pss_one (ps_ost (pv 0) (pv 2))), ?_⟩
    refine ⟨_, rfl, _, rfl, a, C, rfl, T, no _ (.head _), .inl ⟨ha, fun dx hdx ne => ?_⟩⟩
    refine ⟨_, rfl, _, rfl, a, C, rfl, T, no _ (.tail _ (.head _)), .inr ⟨dx, _, upd_same, by rw [upd_ne ne, upd_same], by show 1 ≤ 900; decide, ?_⟩⟩
    refine k _ dx hdx ne (fun b hb hd => ?_) ?_ ?_
    · rw [upd_ne hd, upd_ne hb, upd_ne hd]
    · rw [upd_ne ne.symm, upd_same]
    · exact upd_same
abbrev sTooLarge : Stmt := inClass (top 9) 0
theorem scTooLarge : FnScope ["self", "what", "number", "limit"] ["self", "what", "number", "limit"] (defScope sTooLarge) := ⟨rfl, rfl, rfl, by decide +kernel, rfl, by decide +kernel, by decide +kernel⟩
theorem okTooLarge {f C : Addr} {fd : FuncData} (F : Fun K "__init__" "TooLarge.__init__" sTooLarge f fd) (T : OexC K C) (no : ∀ g ∈ (["what", "number", "limit"] : List Str), PySem.W.findIn K (.ref C) g = some none) : FnOk P w K mg base CX0 1 f fd ["self", "what", "number", "limit"] (spIni C ["what", "number", "limit"]) := by
  refine F.ok scTooLarge (fun vs H Q E h => ?_) (fun cdv A outer s H vs Q E hr h => ?_)
  · obtain ⟨a, ys, rfl, hl, _⟩ := h
    show ys.length + 1 = _
    rw [hl]
    rfl
  · obtain ⟨a, ys, rfl, hl, ha, k⟩ := h
    match ys, hl with
    | [y0, y1, y2], _ =>
    refine ⟨_, pss_cons (ps_ost (pv 0) (pv 1)) (pss_cons (ps_ost (pv 0) (pv 2)) (pss_one (ps_ost (pv 0) (pv 3)))), ?_⟩
    refine ⟨_, rfl, _, rfl, a, C, rfl, T, no _ (.head _), .inl ⟨ha, fun dx hdx ne => ?_⟩⟩
    refine ⟨_, rfl, _, rfl, a, C, rfl, T, no _ (.tail _ (.head _)), .inr ⟨dx, _, upd_same, by rw [upd_ne ne, upd_same], by show 1 ≤ 900; decide, ?_⟩⟩
    refine ⟨_, rfl, _, rfl, a, C, rfl, T, no _ (.tail _ (.tail _ (.head _))), .inr ⟨dx, _, by rw [upd_ne ne.symm, upd_same], upd_same, by show 2 ≤ 900; decide, ?_⟩⟩
    refine k _ dx hdx ne (fun b hb hd => ?_) ?_ ?_
    · rw [upd_ne hd, upd_ne hd, upd_ne hb, upd_ne hd]
    · rw [upd_ne ne.symm, upd_ne ne.symm, upd_same]
    · exact upd_same
abbrev sNoName : Stmt := inClass (top 10) 0
theorem scNoName : FnScope ["self", "name"] ["self", "name"] (defScope sNoName) := ⟨rfl, rfl, rfl, by decide +kernel, rfl, by decide +kernel, by decide +kernel⟩
theorem okNoName {f C : Addr} {fd : FuncData} (F : Fun K "__init__" "NoName.__init__" sNoName f fd) (T : OexC K C) (no : ∀ g ∈ (["name"] : List Str), PySem.W.findIn K (.ref C) g = some none) : FnOk P w K mg base CX0 1 f fd ["self", "name"] (spIni C ["name"]) := by
  refine F.ok scNoName (fun vs H Q E h => ?_) (fun cdv A outer s H vs Q E hr h => ?_)
  · obtain ⟨a, ys, rfl, hl, _⟩ := h
    show ys.length + 1 = _
    rw [hl]
    rfl
  · obtain ⟨a, ys, rfl, hl, ha, k⟩ := h
    match ys, hl with
    | [y0], _ =>
    refine ⟨_, pss_one (ps_ost (pv 0) (pv 1)), ?_⟩
    refine ⟨_, rfl, _, rfl, a, C, rfl, T, no _ (.head _), .inl ⟨ha, fun dx hdx ne => ?_⟩⟩
    refine k _ dx hdx ne (fun b hb hd => ?_) ?_ ?_
    · rw [upd_ne hb, upd_ne hd]
    · exact upd_same
    · rw [upd_ne ne, upd_same]; rfl
abbrev sTakenName : Stmt := inClass (top 11) 0
theorem scTakenName : FnScope ["self", "name"] ["self", "name"] (defScope sTakenName) := ⟨rfl, rfl, rfl, by decide +kernel, rfl, by decide +kernel, by decide +kernel⟩
theorem okTakenName {f C : Addr} {fd : FuncData} (F : Fun K "__init__" "TakenName.__init__" sTakenName f fd) (T : OexC K C) (no : ∀ g ∈ (["name"] : List Str), PySem.W.findIn K (.ref C) g = some none) : FnOk P w K mg base CX0 1 f fd ["self", "name"] (spIni C ["name"]) := by
  refine F.ok scTakenName (fun vs H Q E h => ?_) (fun cdv A outer s H vs Q E hr h => ?_)
  · obtain ⟨a, ys, rfl, hl, _⟩ := h
    show ys.length + 1 = _
    rw [hl]
    rfl
  · obtain ⟨a, ys, rfl, hl, ha, k⟩ := h
    match ys, hl with
    | [y0], _ =>
    refine ⟨_, pss_one (ps_ost (pv 0) (pv 1)), ?_⟩
    refine ⟨_, rfl, _, rfl, a, C, rfl, T, no _ (.head _), .inl ⟨ha, fun dx hdx ne => ?_⟩⟩
    refine k _ dx hdx ne (fun b hb hd => ?_) ?_ ?_
    · rw [upd_ne hb, upd_ne hd]
    · exact upd_same
    · rw [upd_ne ne, upd_same]; rfl
abbrev sNotKept : Stmt := inClass (top 12) 0
theorem scNotKept : FnScope ["self", "promise", "witness"] ["self", "promise", "witness"] (defScope sNotKept) := ⟨rfl, rfl, rfl, by decide +kernel, rfl, by decide +kernel, by decide +kernel⟩
theorem okNotKept {f C : Addr} {fd : FuncData} (F : Fun K "__init__" "NotKept.__init__" sNotKept f fd) (T : OexC K C) (no : ∀ g ∈ (["promise", "witness"] : List Str), PySem.W.findIn K (.ref C) g = some none) : FnOk P w K mg base CX0 1 f fd ["self", "promise", "witness"] (spIni C ["promise", "witness"]) := by
  refine F.ok scNotKept (fun vs H Q E h => ?_) (fun cdv A outer s H vs Q E hr h => ?_)
  · obtain ⟨a, ys, rfl, hl, _⟩ := h
    show ys.length + 1 = _
    rw [hl]
    rfl
  · obtain ⟨a, ys, rfl, hl, ha, k⟩ := h
    match ys, hl with
    | [y0, y1], _ =>
    refine ⟨_, pss_cons (ps_ost (pv 0) (pv 1)) (pss_one (ps_ost (pv 0) (pv 2))), ?_⟩
    refine ⟨_, rfl, _, rfl, a, C, rfl, T, no _ (.head _), .inl ⟨ha, fun dx hdx ne => ?_⟩⟩
    refine ⟨_, rfl, _, rfl, a, C, rfl, T, no _ (.tail _ (.head _)), .inr ⟨dx, _, upd_same, by rw [upd_ne ne, upd_same], by show 1 ≤ 900; decide, ?_⟩⟩
    refine k _ dx hdx ne (fun b hb hd => ?_) ?_ ?_
    · rw [upd_ne hd, upd_ne hb, upd_ne hd]
    · rw [upd_ne ne.symm, upd_same]
    · exact upd_same
end
/-! ### errors made -/
theorem PE.imp {X : Cx} {e : Expr} {t t' : TE} (h : PE X e t) (i : ∀ σ H Q, t' σ H Q → t σ H Q) : PE X e t' := ⟨fun pins s σ H Q I q => h.run pins s σ H Q I (i σ H Q q)⟩
def tMonoA (t : TA) : TA := fun σ H Q => ∃ Q0, t σ H Q0 ∧ ∀ vs H1, Q0 vs H1 → Q vs H1
theorem PA.mono {X : Cx} {es : List Expr} {t : TA} (h : PA X es t) : PA X es (tMonoA t) := ⟨fun pos pins s σ H Q I ⟨Q0, q, i⟩ =>
  thn (h.run pos pins s σ H Q0 I q) fun us s1 ⟨vs, H1, I1, r, z⟩ => ⟨vs, H1, I1, r, i vs H1 z⟩⟩
theorem ErA.mono {H H' : Hp} {a C : Addr} {fs : List (Str × V)} (s : Same H H') (h : ErA H a C fs) : ErA H' a C fs := by
  obtain ⟨h, e⟩ | ⟨d, h1, h2⟩ := h
  · exact .inl ⟨s _ _ h, e⟩
  · exact .inr ⟨d, s _ _ h1, s _ _ h2⟩
/-- an error class with an __init__ that keeps its arguments -/
structure Er1 (K : PySem.W.Frag) (mg : Str → Option Value) (x q : Str) (st : Stmt) (ps fs : List Str) (C : Addr) : Prop where
  g : mg x = some (.ref C)
  oex : OexC K C
  no : ∀ g ∈ fs, PySem.W.findIn K (.ref C) g = some none
  ini : ∃ (fI : Addr) (fd : FuncData), PySem.W.findIn K (.ref C) "__init__" = some (some (.ref fI)) ∧ PySem.W.typeIn K (.ref fI) = some (.type "function") ∧ Fun K "__init__" q st fI fd ∧ Binds K fd ps []
structure Er0 (K : PySem.W.Frag) (mg : Str → Option Value) (x : Str) (C : Addr) : Prop where
  g : mg x = some (.ref C)
  ex : PySem.W.excIn K C [.type "ValueError", .type "Exception", .type "BaseException", .type "object"] "ValueError.__new__" = true
  k : PySem.W.keepIn K (.ref C) = true
/-- C(e, ..): a new error with these fields, what stood stands -/
def tErM (C : Addr) (fs : List Str) (ta : TA) : TE := fun σ H Q => ta σ H fun vs H1 => vs.length = fs.length ∧ ∀ (a : Addr) (H2 : Hp), Same H1 H2 → ErA H2 a C (fs.zip vs).reverse → Q (.ref a) H2
theorem pe_erM {X : Cx} {x q : Str} {st : Stmt} {ps fs : List Str} {C : Addr} {e : Expr} {es : List Expr} {ta : TA} {p pos : Pos} (T : Er1 X.K X.mg x q st ps fs C)
    (G : ∀ (fI : Addr) (fd : FuncData), Fun X.K "__init__" q st fI fd → OexC X.K C → (∀ g ∈ fs, PySem.W.findIn X.K (.ref C) g = some none) → FnOk X.prog X.w X.K X.mg X.base CX0 1 fI fd ps (spIni C fs)) (few : fs.length ≤ 1000)
    (hr : Room 2 X.A) (hg : Gl X x) (ha : PA X (e :: es) ta) (hdb : (x == ("__debug__" : Str)) = false := by decide)
    (he : starEach (e :: es) X.env = (false, eval e X.env) :: starEach es X.env := by rfl) (hpl : (backTo pos (starEach es X.env)).any (·.1) = false := by rfl) :
    PE X (.Call (.Name x p) (e :: es) [] pos) (tErM C fs ta) := by
  obtain ⟨fI, fd, iC, tI, FF, b⟩ := T.ini
  refine PE.imp (pe_erI T.oex iC tI (G fI fd FF T.oex T.no) hr b (fun pins σ H s e s' I h => h.elim) hg T.g (PA.mono ha) hdb he hpl) fun σ H Q q => ?_
  have w : ∀ (vs : List V) (H1 : Hp), (vs.length = fs.length ∧ ∀ (a : Addr) (H2 : Hp), Same H1 H2 → ErA H2 a C (fs.zip vs).reverse → Q (.ref a) H2) →
      vs.length ≤ 1000 ∧ ∀ a, H1 a = none → spIni C fs (.ref a :: vs) (upd H1 a (exo a C none)) (fun v H2 => v = .non ∧ Q (.ref a) H2) (fun _ _ _ => False) := by
    rintro vs H1 ⟨hl, k⟩
    refine ⟨by omega, fun a hn => ⟨a, vs, rfl, hl, upd_same, fun H' dx hdx ne fr e1 e2 => ⟨rfl, k a H' (fun b o z => ?_) (.inr ⟨dx, e1, e2⟩)⟩⟩⟩
    have ba : b ≠ a := ne_of_none z hn
    have z2 : upd H1 a (exo a C none) b = some o := by rw [upd_ne ba]; exact z
    rw [fr b ba (ne_of_none z2 hdx)]
    exact z2
  exact ⟨_, q, w⟩

/-- what the law and the program's errors say of one another -/
structure Txt (K : PySem.W.Frag) (mg : Str → Option Value) (c : Nat → Addr) (ce : Addr) : Prop where
  e0 : Er1 K mg "BadText" "BadText.__init__" sBadText ["self", "column"] ["column"] (c 0)
  e1 : Er1 K mg "BadLine" "BadLine.__init__" sBadLine ["self", "line", "column"] ["line", "column"] (c 1)
  e2 : Er1 K mg "BadNumber" "BadNumber.__init__" sBadNumber ["self", "what", "number"] ["what", "number"] (c 2)
  e3 : Er1 K mg "BadRow" "BadRow.__init__" sBadRow ["self", "row"] ["row"] (c 3)
  e4 : Er1 K mg "BadName" "BadName.__init__" sBadName ["self", "name"] ["name"] (c 4)
  e5 : Er1 K mg "Unlike" "Unlike.__init__" sUnlike ["self", "what"] ["what"] (c 5)
  e6 : Er1 K mg "TooMany" "TooMany.__init__" sTooMany ["self", "what", "limit"] ["what", "limit"] (c 6)
  e7 : Er1 K mg "TooLarge" "TooLarge.__init__" sTooLarge ["self", "what", "number", "limit"] ["what", "number", "limit"] (c 7)
  e8 : Er1 K mg "NoName" "NoName.__init__" sNoName ["self", "name"] ["name"] (c 8)
  e9 : Er1 K mg "TakenName" "TakenName.__init__" sTakenName ["self", "name"] ["name"] (c 9)
  e10 : Er1 K mg "NotKept" "NotKept.__init__" sNotKept ["self", "promise", "witness"] ["promise", "witness"] (c 10)
  e11 : Er0 K mg "NothingToUndo" (c 11)
  e12 : Er0 K mg "NothingToRedo" (c 12)
  gce : mg "CountError" = some (.ref ce)
  er : ∀ i < 13, ErC K (c i)
  kit : ∀ i < 13, ∀ j < 13, PySem.W.kitOne K (.ref (c i)) (.ref (c j)) = some (decide (j = i))
  kce : ∀ i < 13, PySem.W.kitOne K (.ref (c i)) (.ref ce) = some true
  kve : ∀ i < 13, PySem.W.kitOne K (.ref (c i)) (.type "ValueError") = some true
/-- the fields of the i-th error of the law's row, the last stored first -/
def flds (x y z : V) : Nat → List (Str × V)
  | 0 => [("column", x)] | 1 => [("column", y), ("line", x)] | 2 => [("number", y), ("what", x)] | 3 => [("row", x)] | 4 => [("name", x)] | 5 => [("what", x)]
  | 6 => [("limit", y), ("what", x)] | 7 => [("limit", z), ("number", y), ("what", x)] | 8 => [("name", x)] | 9 => [("name", x)] | 10 => [("witness", y), ("promise", x)] | _ => []
/-- a list of errors es stands at p -/
def RowA (H : Hp) (c : Nat → Addr) (x y z : V) (p : Addr) (es : List Addr) : Prop := es.length = 13 ∧ H p = some (.lst (es.map V.ref)) ∧ ∀ i a, es[i]? = some a → ErA H a (c i) (flds x y z i)
theorem RowA.mono {H H' : Hp} {c : Nat → Addr} {x y z : V} {p : Addr} {es : List Addr} (s : Same H H') (h : RowA H c x y z p es) : RowA H' c x y z p es :=
  ⟨h.1, s _ _ h.2.1, fun i a e => ErA.mono s (h.2.2 i a e)⟩
theorem same_upd {H : Hp} {p : Addr} {o : HO} (n : H p = none) : Same H (upd H p o) := fun b u e => by rw [upd_ne (ne_of_none e n)]; exact e
def spMade (c : Nat → Addr) : Sp := fun vs H Q _ => ∃ x y z, vs = [x, y, z] ∧ ∀ (H' : Hp) (p : Addr) (es : List Addr), Same H H' → RowA H' c x y z p es → Q (.ref p) H'
abbrev sMade : Stmt := top 21
section
variable {P : Program} {w : World} {K : PySem.W.Frag} {mg : Str → Option Value} {base : Heap} {c : Nat → Addr} {ce : Addr}
theorem scMade : FnScope ["_law_a", "_law_b", "_law_c", "_law_first"] ["_law_a", "_law_b", "_law_c"] (defScope sMade) := ⟨rfl, rfl, rfl, by decide +kernel, rfl, by decide +kernel, by decide +kernel⟩
theorem ok_made {f : Addr} {fd : FuncData} (F : Fun K "_law_made" "_law_made" sMade f fd) (T : Txt K mg c ce) : FnOk P w K mg base CX0 3 f fd ["_law_a", "_law_b", "_law_c"] (spMade c) := by
  refine F.ok scMade (fun vs H Q E h => ?_) (fun cdv A outer s H vs Q E hr h => ?_)
  · obtain ⟨x, y, z, rfl, _⟩ := h
    rfl
  · obtain ⟨x, y, z, rfl, k⟩ := h
    refine ⟨_, pss_cons (ps_set (i := 3) scMade.nd rfl (Or.inl rfl) (pe_lst
        (pa_cons (pe_erM T.e0 (fun _ _ F T n => okBadText F T n) (by decide) hr rfl (pa_cons (pv 0) pa_nil))
        (pa_cons (pe_erM T.e1 (fun _ _ F T n => okBadLine F T n) (by decide) hr rfl (pa_cons (pv 0) (pa_cons (pv 1) pa_nil)))
        (pa_cons (pe_erM T.e2 (fun _ _ F T n => okBadNumber F T n) (by decide) hr rfl (pa_cons (pv 0) (pa_cons (pv 1) pa_nil)))
        (pa_cons (pe_erM T.e3 (fun _ _ F T n => okBadRow F T n) (by decide) hr rfl (pa_cons (pv 0) pa_nil))
        (pa_cons (pe_erM T.e4 (fun _ _ F T n => okBadName F T n) (by decide) hr rfl (pa_cons (pv 0) pa_nil))
        (pa_cons (pe_erM T.e5 (fun _ _ F T n => okUnlike F T n) (by decide) hr rfl (pa_cons (pv 0) pa_nil))
        (pa_cons (pe_erM T.e6 (fun _ _ F T n => okTooMany F T n) (by decide) hr rfl (pa_cons (pv 0) (pa_cons (pv 1) pa_nil))) pa_nil)))))))))
      (pss_one (ps_ret (pe_op op_cat (pv 3) (pe_lst
        (pa_cons (pe_erM T.e7 (fun _ _ F T n => okTooLarge F T n) (by decide) hr rfl (pa_cons (pv 0) (pa_cons (pv 1) (pa_cons (pv 2) pa_nil))))
        (pa_cons (pe_erM T.e8 (fun _ _ F T n => okNoName F T n) (by decide) hr rfl (pa_cons (pv 0) pa_nil))
        (pa_cons (pe_erM T.e9 (fun _ _ F T n => okTakenName F T n) (by decide) hr rfl (pa_cons (pv 0) pa_nil))
        (pa_cons (pe_erM T.e10 (fun _ _ F T n => okNotKept F T n) (by decide) hr rfl (pa_cons (pv 0) (pa_cons (pv 1) pa_nil)))
        (pa_cons (pe_er0 PySem.F.excBase_ValueError T.e11.ex T.e11.g T.e11.k rfl)
        (pa_cons (pe_er0 PySem.F.excBase_ValueError T.e12.ex T.e12.g T.e12.k rfl) pa_nil)))))))))), ?_⟩
    refine ⟨_, rfl, rfl, fun a0 H0 s0 f0 => ⟨_, rfl, _, rfl, rfl, fun a1 H1 s1 f1 => ⟨_, rfl, _, rfl, rfl, fun a2 H2 s2 f2 => ⟨_, rfl, rfl, fun a3 H3 s3 f3 => ⟨_, rfl, rfl, fun a4 H4 s4 f4 => ⟨_, rfl, rfl, fun a5 H5 s5 f5 => ⟨_, rfl, _, rfl, rfl, fun a6 H6 s6 f6 => ?_⟩⟩⟩⟩⟩⟩⟩
    refine ⟨(by show 7 ≤ sizeLine; decide), fun p np => ?_⟩
    have s7 := same_upd (o := .lst [.ref a0, .ref a1, .ref a2, .ref a3, .ref a4, .ref a5, .ref a6]) np
    have hp : (upd H6 p (.lst [.ref a0, .ref a1, .ref a2, .ref a3, .ref a4, .ref a5, .ref a6])) p = some (.lst [.ref a0, .ref a1, .ref a2, .ref a3, .ref a4, .ref a5, .ref a6]) := upd_same
    generalize upd H6 p (.lst [.ref a0, .ref a1, .ref a2, .ref a3, .ref a4, .ref a5, .ref a6]) = H7 at *
    refine ⟨_, rfl, ?_⟩
    refine ⟨_, rfl, _, rfl, _, rfl, rfl, fun a7 H8 s8 f7 => ⟨_, rfl, rfl, fun a8 H9 s9 f8 => ⟨_, rfl, rfl, fun a9 Ha sa f9 => ⟨_, rfl, _, rfl, rfl, fun a10 Hb sb f10 => fun a11 n11 => fun a12 n12 => ?_⟩⟩⟩⟩
    have sc := same_upd (o := exo a11 (c 11) none) n11
    have f11 : ErA (upd Hb a11 (exo a11 (c 11) none)) a11 (c 11) [] := .inl ⟨upd_same, rfl⟩
    have sd := same_upd (o := exo a12 (c 12) none) n12
    have f12 : ErA (upd (upd Hb a11 (exo a11 (c 11) none)) a12 (exo a12 (c 12) none)) a12 (c 12) [] := .inl ⟨upd_same, rfl⟩
    generalize upd (upd Hb a11 (exo a11 (c 11) none)) a12 (exo a12 (c 12) none) = Hd at *
    generalize upd Hb a11 (exo a11 (c 11) none) = Hc at *
    refine ⟨(by show 6 ≤ sizeLine; decide), fun q nq => ?_⟩
    have se := same_upd (o := .lst [.ref a7, .ref a8, .ref a9, .ref a10, .ref a11, .ref a12]) nq
    have t12 := se
    have t11 := sd.trans t12
    have t10 := sc.trans t11
    have t9 := sb.trans t10
    have t8 := sa.trans t9
    have t7 := s9.trans t8
    have t6 := (s7.trans s8).trans t7
    have t5 := s6.trans t6
    have t4 := s5.trans t5
    have t3 := s4.trans t4
    have t2 := s3.trans t3
    have t1 := s2.trans t2
    have t0 := s1.trans t1
    refine ⟨p, q, _, _, rfl, rfl, (s8.trans t7) _ _ hp, upd_same, (by show 7 + 6 ≤ sizeLine; decide), fun r nr => ?_⟩
    have sr := same_upd (o := .lst ([.ref a0, .ref a1, .ref a2, .ref a3, .ref a4, .ref a5, .ref a6] ++ [.ref a7, .ref a8, .ref a9, .ref a10, .ref a11, .ref a12])) nr
    refine k _ r [a0, a1, a2, a3, a4, a5, a6, a7, a8, a9, a10, a11, a12] ((s0.trans t0).trans sr) ⟨rfl, upd_same, fun i a e => ?_⟩
    match i, e with
    | 0, e => cases e; exact ErA.mono sr (ErA.mono t0 f0)
    | 1, e => cases e; exact ErA.mono sr (ErA.mono t1 f1)
    | 2, e => cases e; exact ErA.mono sr (ErA.mono t2 f2)
    | 3, e => cases e; exact ErA.mono sr (ErA.mono t3 f3)
    | 4, e => cases e; exact ErA.mono sr (ErA.mono t4 f4)
    | 5, e => cases e; exact ErA.mono sr (ErA.mono t5 f5)
    | 6, e => cases e; exact ErA.mono sr (ErA.mono t6 f6)
    | 7, e => cases e; exact ErA.mono sr (ErA.mono t7 f7)
    | 8, e => cases e; exact ErA.mono sr (ErA.mono t8 f8)
    | 9, e => cases e; exact ErA.mono sr (ErA.mono t9 f9)
    | 10, e => cases e; exact ErA.mono sr (ErA.mono t10 f10)
    | 11, e => cases e; exact ErA.mono sr (ErA.mono t11 f11)
    | 12, e => cases e; exact ErA.mono sr (ErA.mono t12 f12)
    | n + 13, e => cases e
end
def spKinds (c : Nat → Addr) : Sp := fun vs H Q _ => ∃ (a : Addr) (i : Nat) (fs : List (Str × V)), vs = [.ref a] ∧ i < 13 ∧ ErA H a (c i) fs ∧
  ∀ (H' : Hp) (q : Addr), Same H H' → H' q = some (.lst ((List.range 13).map fun j => V.bl (decide (j = i)))) → Q (.ref q) H'
abbrev sKinds : Stmt := top 20
section
variable {P : Program} {w : World} {K : PySem.W.Frag} {mg : Str → Option Value} {base : Heap} {c : Nat → Addr} {ce : Addr}
theorem scKinds : FnScope ["_law_e", "_law_first"] ["_law_e"] (defScope sKinds) := ⟨rfl, rfl, rfl, by decide +kernel, rfl, by decide +kernel, by decide +kernel⟩
theorem ok_kinds {f : Addr} {fd : FuncData} (F : Fun K "_law_kinds" "_law_kinds" sKinds f fd) (T : Txt K mg c ce) (mIsi : mg "isinstance" = none) : FnOk P w K mg base CX0 1 f fd ["_law_e"] (spKinds c) := by
  refine F.ok scKinds (fun vs H Q E h => ?_) (fun cdv A outer s H vs Q E hr h => ?_)
  · obtain ⟨a, i, fs, rfl, _⟩ := h
    rfl
  · obtain ⟨a, i, fs, rfl, hi, ea, k⟩ := h
    have S : Same H H := Same.refl H
    refine ⟨_, pss_cons (ps_set (i := 1) scKinds.nd rfl (Or.inl rfl) (pe_lst (pa_cons (pe_callB call_isEr (by rfl) mIsi (by decide +kernel) (pa_cons (pv 0) (pa_cons (pe_glob (v := .ref (c 0)) rfl T.e0.g rfl) pa_nil))) (pa_cons (pe_callB call_isEr (by rfl) mIsi (by decide +kernel) (pa_cons (pv 0) (pa_cons (pe_glob (v := .ref (c 1)) rfl T.e1.g rfl) pa_nil))) (pa_cons (pe_callB call_isEr (by rfl) mIsi (by decide +kernel) (pa_cons (pv 0) (pa_cons (pe_glob (v := .ref (c 2)) rfl T.e2.g rfl) pa_nil))) (pa_cons (pe_callB call_isEr (by rfl) mIsi (by decide +kernel) (pa_cons (pv 0) (pa_cons (pe_glob (v := .ref (c 3)) rfl T.e3.g rfl) pa_nil))) pa_nil)))))) (pss_cons (ps_set (i := 1) scKinds.nd rfl (Or.inl rfl) (pe_op op_cat (pv 1) (pe_lst (pa_cons (pe_callB call_isEr (by rfl) mIsi (by decide +kernel) (pa_cons (pv 0) (pa_cons (pe_glob (v := .ref (c 4)) rfl T.e4.g rfl) pa_nil))) (pa_cons (pe_callB call_isEr (by rfl) mIsi (by decide +kernel) (pa_cons (pv 0) (pa_cons (pe_glob (v := .ref (c 5)) rfl T.e5.g rfl) pa_nil))) (pa_cons (pe_callB call_isEr (by rfl) mIsi (by decide +kernel) (pa_cons (pv 0) (pa_cons (pe_glob (v := .ref (c 6)) rfl T.e6.g rfl) pa_nil))) (pa_cons (pe_callB call_isEr (by rfl) mIsi (by decide +kernel) (pa_cons (pv 0) (pa_cons (pe_glob (v := .ref (c 7)) rfl T.e7.g rfl) pa_nil))) pa_nil))))))) (pss_cons (ps_set (i := 1) scKinds.nd rfl (Or.inl rfl) (pe_op op_cat (pv 1) (pe_lst (pa_cons (pe_callB call_isEr (by rfl) mIsi (by decide +kernel) (pa_cons (pv 0) (pa_cons (pe_glob (v := .ref (c 8)) rfl T.e8.g rfl) pa_nil))) (pa_cons (pe_callB call_isEr (by rfl) mIsi (by decide +kernel) (pa_cons (pv 0) (pa_cons (pe_glob (v := .ref (c 9)) rfl T.e9.g rfl) pa_nil))) (pa_cons (pe_callB call_isEr (by rfl) mIsi (by decide +kernel) (pa_cons (pv 0) (pa_cons (pe_glob (v := .ref (c 10)) rfl T.e10.g rfl) pa_nil))) pa_nil)))))) (pss_one (ps_ret (pe_op op_cat (pv 1) (pe_lst (pa_cons (pe_callB call_isEr (by rfl) mIsi (by decide +kernel) (pa_cons (pv 0) (pa_cons (pe_glob (v := .ref (c 11)) rfl T.e11.g rfl) pa_nil))) (pa_cons (pe_callB call_isEr (by rfl) mIsi (by decide +kernel) (pa_cons (pv 0) (pa_cons (pe_glob (v := .ref (c 12)) rfl T.e12.g rfl) pa_nil))) pa_nil)))))))), ?_⟩
    refine ⟨_, rfl, a, c i, fs, .ref (c 0), .ref (c 0), decide (0 = i), rfl, ErA.mono S ea, T.er i hi, ClsV.own _, T.kit i hi 0 (by decide), ?_⟩
    refine ⟨_, rfl, a, c i, fs, .ref (c 1), .ref (c 1), decide (1 = i), rfl, ErA.mono S ea, T.er i hi, ClsV.own _, T.kit i hi 1 (by decide), ?_⟩
    refine ⟨_, rfl, a, c i, fs, .ref (c 2), .ref (c 2), decide (2 = i), rfl, ErA.mono S ea, T.er i hi, ClsV.own _, T.kit i hi 2 (by decide), ?_⟩
    refine ⟨_, rfl, a, c i, fs, .ref (c 3), .ref (c 3), decide (3 = i), rfl, ErA.mono S ea, T.er i hi, ClsV.own _, T.kit i hi 3 (by decide), ?_⟩
    refine ⟨(by show 4 ≤ sizeLine; decide), fun q0 nq0 => ?_⟩
    have sN := same_upd (o := .lst [.bl (decide (0 = i)), .bl (decide (1 = i)), .bl (decide (2 = i)), .bl (decide (3 = i))]) nq0
    have atq0 : (upd H q0 (.lst [.bl (decide (0 = i)), .bl (decide (1 = i)), .bl (decide (2 = i)), .bl (decide (3 = i))])) q0 = some (.lst [.bl (decide (0 = i)), .bl (decide (1 = i)), .bl (decide (2 = i)), .bl (decide (3 = i))]) := upd_same
    have S := S.trans sN
    generalize upd H q0 (.lst [.bl (decide (0 = i)), .bl (decide (1 = i)), .bl (decide (2 = i)), .bl (decide (3 = i))]) = H1 at *
    clear sN
    refine ⟨_, rfl, ?_⟩
    refine ⟨_, rfl, a, c i, fs, .ref (c 4), .ref (c 4), decide (4 = i), rfl, ErA.mono S ea, T.er i hi, ClsV.own _, T.kit i hi 4 (by decide), ?_⟩
    refine ⟨_, rfl, a, c i, fs, .ref (c 5), .ref (c 5), decide (5 = i), rfl, ErA.mono S ea, T.er i hi, ClsV.own _, T.kit i hi 5 (by decide), ?_⟩
    refine ⟨_, rfl, a, c i, fs, .ref (c 6), .ref (c 6), decide (6 = i), rfl, ErA.mono S ea, T.er i hi, ClsV.own _, T.kit i hi 6 (by decide), ?_⟩
    refine ⟨_, rfl, a, c i, fs, .ref (c 7), .ref (c 7), decide (7 = i), rfl, ErA.mono S ea, T.er i hi, ClsV.own _, T.kit i hi 7 (by decide), ?_⟩
    refine ⟨(by show 4 ≤ sizeLine; decide), fun q1 nq1 => ?_⟩
    have sN := same_upd (o := .lst [.bl (decide (4 = i)), .bl (decide (5 = i)), .bl (decide (6 = i)), .bl (decide (7 = i))]) nq1
    have atq1 : (upd H1 q1 (.lst [.bl (decide (4 = i)), .bl (decide (5 = i)), .bl (decide (6 = i)), .bl (decide (7 = i))])) q1 = some (.lst [.bl (decide (4 = i)), .bl (decide (5 = i)), .bl (decide (6 = i)), .bl (decide (7 = i))]) := upd_same
    have S := S.trans sN
    have atq0 := sN _ _ atq0
    generalize upd H1 q1 (.lst [.bl (decide (4 = i)), .bl (decide (5 = i)), .bl (decide (6 = i)), .bl (decide (7 = i))]) = H2 at *
    clear sN
    refine ⟨q0, q1, _, _, rfl, rfl, atq0, atq1, (by show 4 + 4 ≤ sizeLine; decide), fun r1 nr1 => ?_⟩
    have sN := same_upd (o := .lst ([.bl (decide (0 = i)), .bl (decide (1 = i)), .bl (decide (2 = i)), .bl (decide (3 = i))] ++ [.bl (decide (4 = i)), .bl (decide (5 = i)), .bl (decide (6 = i)), .bl (decide (7 = i))])) nr1
    have atr1 : (upd H2 r1 (.lst ([.bl (decide (0 = i)), .bl (decide (1 = i)), .bl (decide (2 = i)), .bl (decide (3 = i))] ++ [.bl (decide (4 = i)), .bl (decide (5 = i)), .bl (decide (6 = i)), .bl (decide (7 = i))]))) r1 = some (.lst ([.bl (decide (0 = i)), .bl (decide (1 = i)), .bl (decide (2 = i)), .bl (decide (3 = i))] ++ [.bl (decide (4 = i)), .bl (decide (5 = i)), .bl (decide (6 = i)), .bl (decide (7 = i))])) := upd_same
    have S := S.trans sN
    have atq0 := sN _ _ atq0
    have atq1 := sN _ _ atq1
    generalize upd H2 r1 (.lst ([.bl (decide (0 = i)), .bl (decide (1 = i)), .bl (decide (2 = i)), .bl (decide (3 = i))] ++ [.bl (decide (4 = i)), .bl (decide (5 = i)), .bl (decide (6 = i)), .bl (decide (7 = i))])) = H3 at *
    clear sN
    refine ⟨_, rfl, ?_⟩
    refine ⟨_, rfl, a, c i, fs, .ref (c 8), .ref (c 8), decide (8 = i), rfl, ErA.mono S ea, T.er i hi, ClsV.own _, T.kit i hi 8 (by decide), ?_⟩
    refine ⟨_, rfl, a, c i, fs, .ref (c 9), .ref (c 9), decide (9 = i), rfl, ErA.mono S ea, T.er i hi, ClsV.own _, T.kit i hi 9 (by decide), ?_⟩
    refine ⟨_, rfl, a, c i, fs, .ref (c 10), .ref (c 10), decide (10 = i), rfl, ErA.mono S ea, T.er i hi, ClsV.own _, T.kit i hi 10 (by decide), ?_⟩
    refine ⟨(by show 3 ≤ sizeLine; decide), fun q2 nq2 => ?_⟩
    have sN := same_upd (o := .lst [.bl (decide (8 = i)), .bl (decide (9 = i)), .bl (decide (10 = i))]) nq2
    have atq2 : (upd H3 q2 (.lst [.bl (decide (8 = i)), .bl (decide (9 = i)), .bl (decide (10 = i))])) q2 = some (.lst [.bl (decide (8 = i)), .bl (decide (9 = i)), .bl (decide (10 = i))]) := upd_same
    have S := S.trans sN
    have atq0 := sN _ _ atq0
    have atq1 := sN _ _ atq1
    have atr1 := sN _ _ atr1
    generalize upd H3 q2 (.lst [.bl (decide (8 = i)), .bl (decide (9 = i)), .bl (decide (10 = i))]) = H4 at *
    clear sN
    refine ⟨r1, q2, _, _, rfl, rfl, atr1, atq2, (by show 8 + 3 ≤ sizeLine; decide), fun r2 nr2 => ?_⟩
    have sN := same_upd (o := .lst (([.bl (decide (0 = i)), .bl (decide (1 = i)), .bl (decide (2 = i)), .bl (decide (3 = i))] ++ [.bl (decide (4 = i)), .bl (decide (5 = i)), .bl (decide (6 = i)), .bl (decide (7 = i))]) ++ [.bl (decide (8 = i)), .bl (decide (9 = i)), .bl (decide (10 = i))])) nr2
    have atr2 : (upd H4 r2 (.lst (([.bl (decide (0 = i)), .bl (decide (1 = i)), .bl (decide (2 = i)), .bl (decide (3 = i))] ++ [.bl (decide (4 = i)), .bl (decide (5 = i)), .bl (decide (6 = i)), .bl (decide (7 = i))]) ++ [.bl (decide (8 = i)), .bl (decide (9 = i)), .bl (decide (10 = i))]))) r2 = some (.lst (([.bl (decide (0 = i)), .bl (decide (1 = i)), .bl (decide (2 = i)), .bl (decide (3 = i))] ++ [.bl (decide (4 = i)), .bl (decide (5 = i)), .bl (decide (6 = i)), .bl (decide (7 = i))]) ++ [.bl (decide (8 = i)), .bl (decide (9 = i)), .bl (decide (10 = i))])) := upd_same
    have S := S.trans sN
    have atq0 := sN _ _ atq0
    have atq1 := sN _ _ atq1
    have atr1 := sN _ _ atr1
    have atq2 := sN _ _ atq2
    generalize upd H4 r2 (.lst (([.bl (decide (0 = i)), .bl (decide (1 = i)), .bl (decide (2 = i)), .bl (decide (3 = i))] ++ [.bl (decide (4 = i)), .bl (decide (5 = i)), .bl (decide (6 = i)), .bl (decide (7 = i))]) ++ [.bl (decide (8 = i)), .bl (decide (9 = i)), .bl (decide (10 = i))])) = H5 at *
    clear sN
    refine ⟨_, rfl, ?_⟩
    refine ⟨_, rfl, a, c i, fs, .ref (c 11), .ref (c 11), decide (11 = i), rfl, ErA.mono S ea, T.er i hi, ClsV.own _, T.kit i hi 11 (by decide), ?_⟩
    refine ⟨_, rfl, a, c i, fs, .ref (c 12), .ref (c 12), decide (12 = i), rfl, ErA.mono S ea, T.er i hi, ClsV.own _, T.kit i hi 12 (by decide), ?_⟩
    refine ⟨(by show 2 ≤ sizeLine; decide), fun q3 nq3 => ?_⟩
    have sN := same_upd (o := .lst [.bl (decide (11 = i)), .bl (decide (12 = i))]) nq3
    have atq3 : (upd H5 q3 (.lst [.bl (decide (11 = i)), .bl (decide (12 = i))])) q3 = some (.lst [.bl (decide (11 = i)), .bl (decide (12 = i))]) := upd_same
    have S := S.trans sN
    have atq0 := sN _ _ atq0
    have atq1 := sN _ _ atq1
    have atr1 := sN _ _ atr1
    have atq2 := sN _ _ atq2
    have atr2 := sN _ _ atr2
    generalize upd H5 q3 (.lst [.bl (decide (11 = i)), .bl (decide (12 = i))]) = H6 at *
    clear sN
    refine ⟨r2, q3, _, _, rfl, rfl, atr2, atq3, (by show 11 + 2 ≤ sizeLine; decide), fun r3 nr3 => ?_⟩
    have sN := same_upd (o := .lst ((([.bl (decide (0 = i)), .bl (decide (1 = i)), .bl (decide (2 = i)), .bl (decide (3 = i))] ++ [.bl (decide (4 = i)), .bl (decide (5 = i)), .bl (decide (6 = i)), .bl (decide (7 = i))]) ++ [.bl (decide (8 = i)), .bl (decide (9 = i)), .bl (decide (10 = i))]) ++ [.bl (decide (11 = i)), .bl (decide (12 = i))])) nr3
    have atr3 : (upd H6 r3 (.lst ((([.bl (decide (0 = i)), .bl (decide (1 = i)), .bl (decide (2 = i)), .bl (decide (3 = i))] ++ [.bl (decide (4 = i)), .bl (decide (5 = i)), .bl (decide (6 = i)), .bl (decide (7 = i))]) ++ [.bl (decide (8 = i)), .bl (decide (9 = i)), .bl (decide (10 = i))]) ++ [.bl (decide (11 = i)), .bl (decide (12 = i))]))) r3 = some (.lst ((([.bl (decide (0 = i)), .bl (decide (1 = i)), .bl (decide (2 = i)), .bl (decide (3 = i))] ++ [.bl (decide (4 = i)), .bl (decide (5 = i)), .bl (decide (6 = i)), .bl (decide (7 = i))]) ++ [.bl (decide (8 = i)), .bl (decide (9 = i)), .bl (decide (10 = i))]) ++ [.bl (decide (11 = i)), .bl (decide (12 = i))])) := upd_same
    have S := S.trans sN
    have atq0 := sN _ _ atq0
    have atq1 := sN _ _ atq1
    have atr1 := sN _ _ atr1
    have atq2 := sN _ _ atq2
    have atr2 := sN _ _ atr2
    have atq3 := sN _ _ atq3
    generalize upd H6 r3 (.lst ((([.bl (decide (0 = i)), .bl (decide (1 = i)), .bl (decide (2 = i)), .bl (decide (3 = i))] ++ [.bl (decide (4 = i)), .bl (decide (5 = i)), .bl (decide (6 = i)), .bl (decide (7 = i))]) ++ [.bl (decide (8 = i)), .bl (decide (9 = i)), .bl (decide (10 = i))]) ++ [.bl (decide (11 = i)), .bl (decide (12 = i))])) = H7 at *
    clear sN
    exact k _ r3 S atr3
end
theorem lk0_0 (x y z : V) : (flds x y z 0).lookup ("column" : Str) = some x := by
  show List.lookup ("column" : Str) [(("column" : Str), x)] = some x
  rw [lookup_put, if_pos rfl]
theorem lk1_0 (x y z : V) : (flds x y z 1).lookup ("line" : Str) = some x := by
  show List.lookup ("line" : Str) [(("column" : Str), y), (("line" : Str), x)] = some x
  rw [lookup_put, if_neg (by decide +kernel), lookup_put, if_pos rfl]
theorem lk1_1 (x y z : V) : (flds x y z 1).lookup ("column" : Str) = some y := by
  show List.lookup ("column" : Str) [(("column" : Str), y), (("line" : Str), x)] = some y
  rw [lookup_put, if_pos rfl]
theorem lk2_0 (x y z : V) : (flds x y z 2).lookup ("what" : Str) = some x := by
  show List.lookup ("what" : Str) [(("number" : Str), y), (("what" : Str), x)] = some x
  rw [lookup_put, if_neg (by decide +kernel), lookup_put, if_pos rfl]
theorem lk2_1 (x y z : V) : (flds x y z 2).lookup ("number" : Str) = some y := by
  show List.lookup ("number" : Str) [(("number" : Str), y), (("what" : Str), x)] = some y
  rw [lookup_put, if_pos rfl]
theorem lk3_0 (x y z : V) : (flds x y z 3).lookup ("row" : Str) = some x := by
  show List.lookup ("row" : Str) [(("row" : Str), x)] = some x
  rw [lookup_put, if_pos rfl]
theorem lk4_0 (x y z : V) : (flds x y z 4).lookup ("name" : Str) = some x := by
  show List.lookup ("name" : Str) [(("name" : Str), x)] = some x
  rw [lookup_put, if_pos rfl]
theorem lk5_0 (x y z : V) : (flds x y z 5).lookup ("what" : Str) = some x := by
  show List.lookup ("what" : Str) [(("what" : Str), x)] = some x
  rw [lookup_put, if_pos rfl]
theorem lk6_0 (x y z : V) : (flds x y z 6).lookup ("what" : Str) = some x := by
  show List.lookup ("what" : Str) [(("limit" : Str), y), (("what" : Str), x)] = some x
  rw [lookup_put, if_neg (by decide +kernel), lookup_put, if_pos rfl]
theorem lk6_1 (x y z : V) : (flds x y z 6).lookup ("limit" : Str) = some y := by
  show List.lookup ("limit" : Str) [(("limit" : Str), y), (("what" : Str), x)] = some y
  rw [lookup_put, if_pos rfl]
theorem lk7_0 (x y z : V) : (flds x y z 7).lookup ("what" : Str) = some x := by
  show List.lookup ("what" : Str) [(("limit" : Str), z), (("number" : Str), y), (("what" : Str), x)] = some x
  rw [lookup_put, if_neg (by decide +kernel), lookup_put, if_neg (by decide +kernel), lookup_put, if_pos rfl]
theorem lk7_1 (x y z : V) : (flds x y z 7).lookup ("number" : Str) = some y := by
  show List.lookup ("number" : Str) [(("limit" : Str), z), (("number" : Str), y), (("what" : Str), x)] = some y
  rw [lookup_put, if_neg (by decide +kernel), lookup_put, if_pos rfl]
theorem lk7_2 (x y z : V) : (flds x y z 7).lookup ("limit" : Str) = some z := by
  show List.lookup ("limit" : Str) [(("limit" : Str), z), (("number" : Str), y), (("what" : Str), x)] = some z
  rw [lookup_put, if_pos rfl]
theorem lk8_0 (x y z : V) : (flds x y z 8).lookup ("name" : Str) = some x := by
  show List.lookup ("name" : Str) [(("name" : Str), x)] = some x
  rw [lookup_put, if_pos rfl]
theorem lk9_0 (x y z : V) : (flds x y z 9).lookup ("name" : Str) = some x := by
  show List.lookup ("name" : Str) [(("name" : Str), x)] = some x
  rw [lookup_put, if_pos rfl]
theorem lk10_0 (x y z : V) : (flds x y z 10).lookup ("promise" : Str) = some x := by
  show List.lookup ("promise" : Str) [(("witness" : Str), y), (("promise" : Str), x)] = some x
  rw [lookup_put, if_neg (by decide +kernel), lookup_put, if_pos rfl]
theorem lk10_1 (x y z : V) : (flds x y z 10).lookup ("witness" : Str) = some y := by
  show List.lookup ("witness" : Str) [(("witness" : Str), y), (("promise" : Str), x)] = some y
  rw [lookup_put, if_pos rfl]
/-- how many fields the i-th error has -/
def cnt : Nat → Nat
  | 0 => 1 | 1 => 2 | 2 => 2 | 3 => 1 | 4 => 1 | 5 => 1 | 6 => 2 | 7 => 3 | 8 => 1 | 9 => 1 | 10 => 2 | _ => 0
def FldA (H : Hp) (x y z : V) (q : Addr) (ls : List Addr) : Prop := ls.length = 13 ∧ H q = some (.lst (ls.map V.ref)) ∧ ∀ i l, ls[i]? = some l → H l = some (.lst ([x, y, z].take (cnt i)))
def spFields (c : Nat → Addr) : Sp := fun vs H Q _ => ∃ x y z p es, vs = [.ref p] ∧ RowA H c x y z p es ∧ ∀ (H' : Hp) (q : Addr) (ls : List Addr), Same H H' → FldA H' x y z q ls → Q (.ref q) H'
abbrev sFields : Stmt := top 22
section
variable {P : Program} {w : World} {K : PySem.W.Frag} {mg : Str → Option Value} {base : Heap} {c : Nat → Addr} {ce : Addr}
theorem scFields : FnScope ["_law_row", "_law_first"] ["_law_row"] (defScope sFields) := ⟨rfl, rfl, rfl, by decide +kernel, rfl, by decide +kernel, by decide +kernel⟩
theorem ok_fields {f : Addr} {fd : FuncData} (F : Fun K "_law_fields" "_law_fields" sFields f fd) (T : Txt K mg c ce) : FnOk P w K mg base CX0 1 f fd ["_law_row"] (spFields c) := by
  refine F.ok scFields (fun vs H Q E h => ?_) (fun cdv A outer s H vs Q E hr h => ?_)
  · obtain ⟨x, y, z, p, es, rfl, _⟩ := h
    rfl
  · obtain ⟨x, y, z, p, es, rfl, R, k⟩ := h
    obtain ⟨len, R2, R3⟩ := R
    match es, len, R2, R3 with
    | [a0, a1, a2, a3, a4, a5, a6, a7, a8, a9, a10, a11, a12], _, R2, R3 =>
    have S : Same H H := Same.refl H
    refine ⟨_, pss_cons (ps_set (i := 1) scFields.nd rfl (Or.inl rfl) (pe_lst (pa_cons (pe_lst (pa_cons (pe_erF (pe_ix ix_list (pv 0) pe_int (fun _ _ => rfl))) pa_nil)) (pa_cons (pe_lst (pa_cons (pe_erF (pe_ix ix_list (pv 0) pe_int (fun _ _ => rfl))) (pa_cons (pe_erF (pe_ix ix_list (pv 0) pe_int (fun _ _ => rfl))) pa_nil))) (pa_cons (pe_lst (pa_cons (pe_erF (pe_ix ix_list (pv 0) pe_int (fun _ _ => rfl))) (pa_cons (pe_erF (pe_ix ix_list (pv 0) pe_int (fun _ _ => rfl))) pa_nil))) (pa_cons (pe_lst (pa_cons (pe_erF (pe_ix ix_list (pv 0) pe_int (fun _ _ => rfl))) pa_nil)) pa_nil)))))) (pss_cons (ps_set (i := 1) scFields.nd rfl (Or.inl rfl) (pe_op op_cat (pv 1) (pe_lst (pa_cons (pe_lst (pa_cons (pe_erF (pe_ix ix_list (pv 0) pe_int (fun _ _ => rfl))) pa_nil)) (pa_cons (pe_lst (pa_cons (pe_erF (pe_ix ix_list (pv 0) pe_int (fun _ _ => rfl))) pa_nil)) (pa_cons (pe_lst (pa_cons (pe_erF (pe_ix ix_list (pv 0) pe_int (fun _ _ => rfl))) (pa_cons (pe_erF (pe_ix ix_list (pv 0) pe_int (fun _ _ => rfl))) pa_nil))) pa_nil)))))) (pss_cons (ps_set (i := 1) scFields.nd rfl (Or.inl rfl) (pe_op op_cat (pv 1) (pe_lst (pa_cons (pe_lst (pa_cons (pe_erF (pe_ix ix_list (pv 0) pe_int (fun _ _ => rfl))) (pa_cons (pe_erF (pe_ix ix_list (pv 0) pe_int (fun _ _ => rfl))) (pa_cons (pe_erF (pe_ix ix_list (pv 0) pe_int (fun _ _ => rfl))) pa_nil)))) (pa_cons (pe_lst (pa_cons (pe_erF (pe_ix ix_list (pv 0) pe_int (fun _ _ => rfl))) pa_nil)) (pa_cons (pe_lst (pa_cons (pe_erF (pe_ix ix_list (pv 0) pe_int (fun _ _ => rfl))) pa_nil)) pa_nil)))))) (pss_one (ps_ret (pe_op op_cat (pv 1) (pe_lst (pa_cons (pe_lst (pa_cons (pe_erF (pe_ix ix_list (pv 0) pe_int (fun _ _ => rfl))) (pa_cons (pe_erF (pe_ix ix_list (pv 0) pe_int (fun _ _ => rfl))) pa_nil))) (pa_cons (pe_lst pa_nil) (pa_cons (pe_lst pa_nil) pa_nil))))))))), ?_⟩
    refine ⟨_, rfl, p, _, _, .ref a0, rfl, rfl, SqL.of (S _ _ R2), at_of (j := 0) rfl rfl, a0, c 0, _, _, rfl, ErA.mono S (R3 0 a0 rfl), T.er 0 (by decide), T.e0.no _ (.head _), lk0_0 x y z, ?_⟩
    refine ⟨(by show 1 ≤ sizeLine; decide), fun l0 nl0 => ?_⟩
    have sN := same_upd (o := .lst [x]) nl0
    have atl0 : (upd H l0 (.lst [x])) l0 = some (.lst [x]) := upd_same
    have S := S.trans sN
    generalize upd H l0 (.lst [x]) = H1 at *
    clear sN
    refine ⟨_, rfl, p, _, _, .ref a1, rfl, rfl, SqL.of (S _ _ R2), at_of (j := 1) rfl rfl, a1, c 1, _, _, rfl, ErA.mono S (R3 1 a1 rfl), T.er 1 (by decide), T.e1.no _ (.head _), lk1_0 x y z, ?_⟩
    refine ⟨_, rfl, p, _, _, .ref a1, rfl, rfl, SqL.of (S _ _ R2), at_of (j := 1) rfl rfl, a1, c 1, _, _, rfl, ErA.mono S (R3 1 a1 rfl), T.er 1 (by decide), T.e1.no _ (.tail _ (.head _)), lk1_1 x y z, ?_⟩
    refine ⟨(by show 2 ≤ sizeLine; decide), fun l1 nl1 => ?_⟩
    have sN := same_upd (o := .lst [x, y]) nl1
    have atl1 : (upd H1 l1 (.lst [x, y])) l1 = some (.lst [x, y]) := upd_same
    have S := S.trans sN
    have atl0 := sN _ _ atl0
    generalize upd H1 l1 (.lst [x, y]) = H2 at *
    clear sN
    refine ⟨_, rfl, p, _, _, .ref a2, rfl, rfl, SqL.of (S _ _ R2), at_of (j := 2) rfl rfl, a2, c 2, _, _, rfl, ErA.mono S (R3 2 a2 rfl), T.er 2 (by decide), T.e2.no _ (.head _), lk2_0 x y z, ?_⟩
    refine ⟨_, rfl, p, _, _, .ref a2, rfl, rfl, SqL.of (S _ _ R2), at_of (j := 2) rfl rfl, a2, c 2, _, _, rfl, ErA.mono S (R3 2 a2 rfl), T.er 2 (by decide), T.e2.no _ (.tail _ (.head _)), lk2_1 x y z, ?_⟩
    refine ⟨(by show 2 ≤ sizeLine; decide), fun l2 nl2 => ?_⟩
    have sN := same_upd (o := .lst [x, y]) nl2
    have atl2 : (upd H2 l2 (.lst [x, y])) l2 = some (.lst [x, y]) := upd_same
    have S := S.trans sN
    have atl0 := sN _ _ atl0
    have atl1 := sN _ _ atl1
    generalize upd H2 l2 (.lst [x, y]) = H3 at *
    clear sN
    refine ⟨_, rfl, p, _, _, .ref a3, rfl, rfl, SqL.of (S _ _ R2), at_of (j := 3) rfl rfl, a3, c 3, _, _, rfl, ErA.mono S (R3 3 a3 rfl), T.er 3 (by decide), T.e3.no _ (.head _), lk3_0 x y z, ?_⟩
    refine ⟨(by show 1 ≤ sizeLine; decide), fun l3 nl3 => ?_⟩
    have sN := same_upd (o := .lst [x]) nl3
    have atl3 : (upd H3 l3 (.lst [x])) l3 = some (.lst [x]) := upd_same
    have S := S.trans sN
    have atl0 := sN _ _ atl0
    have atl1 := sN _ _ atl1
    have atl2 := sN _ _ atl2
    generalize upd H3 l3 (.lst [x]) = H4 at *
    clear sN
    refine ⟨(by show 4 ≤ sizeLine; decide), fun q0 nq0 => ?_⟩
    have sN := same_upd (o := .lst [.ref l0, .ref l1, .ref l2, .ref l3]) nq0
    have atq0 : (upd H4 q0 (.lst [.ref l0, .ref l1, .ref l2, .ref l3])) q0 = some (.lst [.ref l0, .ref l1, .ref l2, .ref l3]) := upd_same
    have S := S.trans sN
    have atl0 := sN _ _ atl0
    have atl1 := sN _ _ atl1
    have atl2 := sN _ _ atl2
    have atl3 := sN _ _ atl3
    generalize upd H4 q0 (.lst [.ref l0, .ref l1, .ref l2, .ref l3]) = H5 at *
    clear sN
    refine ⟨_, rfl, ?_⟩
    refine ⟨_, rfl, p, _, _, .ref a4, rfl, rfl, SqL.of (S _ _ R2), at_of (j := 4) rfl rfl, a4, c 4, _, _, rfl, ErA.mono S (R3 4 a4 rfl), T.er 4 (by decide), T.e4.no _ (.head _), lk4_0 x y z, ?_⟩
    refine ⟨(by show 1 ≤ sizeLine; decide), fun l4 nl4 => ?_⟩
    have sN := same_upd (o := .lst [x]) nl4
    have atl4 : (upd H5 l4 (.lst [x])) l4 = some (.lst [x]) := upd_same
    have S := S.trans sN
    have atl0 := sN _ _ atl0
    have atl1 := sN _ _ atl1
    have atl2 := sN _ _ atl2
    have atl3 := sN _ _ atl3
    have atq0 := sN _ _ atq0
    generalize upd H5 l4 (.lst [x]) = H6 at *
    clear sN
    refine ⟨_, rfl, p, _, _, .ref a5, rfl, rfl, SqL.of (S _ _ R2), at_of (j := 5) rfl rfl, a5, c 5, _, _, rfl, ErA.mono S (R3 5 a5 rfl), T.er 5 (by decide), T.e5.no _ (.head _), lk5_0 x y z, ?_⟩
    refine ⟨(by show 1 ≤ sizeLine; decide), fun l5 nl5 => ?_⟩
    have sN := same_upd (o := .lst [x]) nl5
    have atl5 : (upd H6 l5 (.lst [x])) l5 = some (.lst [x]) := upd_same
    have S := S.trans sN
    have atl0 := sN _ _ atl0
    have atl1 := sN _ _ atl1
    have atl2 := sN _ _ atl2
    have atl3 := sN _ _ atl3
    have atq0 := sN _ _ atq0
    have atl4 := sN _ _ atl4
    generalize upd H6 l5 (.lst [x]) = H7 at *
    clear sN
    refine ⟨_, rfl, p, _, _, .ref a6, rfl, rfl, SqL.of (S _ _ R2), at_of (j := 6) rfl rfl, a6, c 6, _, _, rfl, ErA.mono S (R3 6 a6 rfl), T.er 6 (by decide), T.e6.no _ (.head _), lk6_0 x y z, ?_⟩
    refine ⟨_, rfl, p, _, _, .ref a6, rfl, rfl, SqL.of (S _ _ R2), at_of (j := 6) rfl rfl, a6, c 6, _, _, rfl, ErA.mono S (R3 6 a6 rfl), T.er 6 (by decide), T.e6.no _ (.tail _ (.head _)), lk6_1 x y z, ?_⟩
    refine ⟨(by show 2 ≤ sizeLine; decide), fun l6 nl6 => ?_⟩
    have sN := same_upd (o := .lst [x, y]) nl6
    have atl6 : (upd H7 l6 (.lst [x, y])) l6 = some (.lst [x, y]) := upd_same
    have S := S.trans sN
    have atl0 := sN _ _ atl0
    have atl1 := sN _ _ atl1
    have atl2 := sN _ _ atl2
    have atl3 := sN _ _ atl3
    have atq0 := sN _ _ atq0
    have atl4 := sN _ _ atl4
    have atl5 := sN _ _ atl5
    generalize upd H7 l6 (.lst [x, y]) = H8 at *
    clear sN
    refine ⟨(by show 3 ≤ sizeLine; decide), fun q1 nq1 => ?_⟩
    have sN := same_upd (o := .lst [.ref l4, .ref l5, .ref l6]) nq1
    have atq1 : (upd H8 q1 (.lst [.ref l4, .ref l5, .ref l6])) q1 = some (.lst [.ref l4, .ref l5, .ref l6]) := upd_same
    have S := S.trans sN
    have atl0 := sN _ _ atl0
    have atl1 := sN _ _ atl1
    have atl2 := sN _ _ atl2
    have atl3 := sN _ _ atl3
    have atq0 := sN _ _ atq0
    have atl4 := sN _ _ atl4
    have atl5 := sN _ _ atl5
    have atl6 := sN _ _ atl6
    generalize upd H8 q1 (.lst [.ref l4, .ref l5, .ref l6]) = H9 at *
    clear sN
    refine ⟨q0, q1, _, _, rfl, rfl, atq0, atq1, (by show 4 + 3 ≤ sizeLine; decide), fun r1 nr1 => ?_⟩
    show _
    have sN := same_upd (o := .lst ([.ref l0, .ref l1, .ref l2, .ref l3] ++ [.ref l4, .ref l5, .ref l6])) nr1
    have atr1 : (upd H9 r1 (.lst ([.ref l0, .ref l1, .ref l2, .ref l3] ++ [.ref l4, .ref l5, .ref l6]))) r1 = some (.lst ([.ref l0, .ref l1, .ref l2, .ref l3] ++ [.ref l4, .ref l5, .ref l6])) := upd_same
    have S := S.trans sN
    have atl0 := sN _ _ atl0
    have atl1 := sN _ _ atl1
    have atl2 := sN _ _ atl2
    have atl3 := sN _ _ atl3
    have atq0 := sN _ _ atq0
    have atl4 := sN _ _ atl4
    have atl5 := sN _ _ atl5
    have atl6 := sN _ _ atl6
    have atq1 := sN _ _ atq1
    generalize upd H9 r1 (.lst ([.ref l0, .ref l1, .ref l2, .ref l3] ++ [.ref l4, .ref l5, .ref l6])) = H10 at *
    clear sN
    refine ⟨_, rfl, ?_⟩
    refine ⟨_, rfl, p, _, _, .ref a7, rfl, rfl, SqL.of (S _ _ R2), at_of (j := 7) rfl rfl, a7, c 7, _, _, rfl, ErA.mono S (R3 7 a7 rfl), T.er 7 (by decide), T.e7.no _ (.head _), lk7_0 x y z, ?_⟩
    refine ⟨_, rfl, p, _, _, .ref a7, rfl, rfl, SqL.of (S _ _ R2), at_of (j := 7) rfl rfl, a7, c 7, _, _, rfl, ErA.mono S (R3 7 a7 rfl), T.er 7 (by decide), T.e7.no _ (.tail _ (.head _)), lk7_1 x y z, ?_⟩
    refine ⟨_, rfl, p, _, _, .ref a7, rfl, rfl, SqL.of (S _ _ R2), at_of (j := 7) rfl rfl, a7, c 7, _, _, rfl, ErA.mono S (R3 7 a7 rfl), T.er 7 (by decide), T.e7.no _ (.tail _ (.tail _ (.head _))), lk7_2 x y z, ?_⟩
    refine ⟨(by show 3 ≤ sizeLine; decide), fun l7 nl7 => ?_⟩
    have sN := same_upd (o := .lst [x, y, z]) nl7
    have atl7 : (upd H10 l7 (.lst [x, y, z])) l7 = some (.lst [x, y, z]) := upd_same
    have S := S.trans sN
    have atl0 := sN _ _ atl0
    have atl1 := sN _ _ atl1
    have atl2 := sN _ _ atl2
    have atl3 := sN _ _ atl3
    have atq0 := sN _ _ atq0
    have atl4 := sN _ _ atl4
    have atl5 := sN _ _ atl5
    have atl6 := sN _ _ atl6
    have atq1 := sN _ _ atq1
    have atr1 := sN _ _ atr1
    generalize upd H10 l7 (.lst [x, y, z]) = H11 at *
    clear sN
    refine ⟨_, rfl, p, _, _, .ref a8, rfl, rfl, SqL.of (S _ _ R2), at_of (j := 8) rfl rfl, a8, c 8, _, _, rfl, ErA.mono S (R3 8 a8 rfl), T.er 8 (by decide), T.e8.no _ (.head _), lk8_0 x y z, ?_⟩
    refine ⟨(by show 1 ≤ sizeLine; decide), fun l8 nl8 => ?_⟩
    have sN := same_upd (o := .lst [x]) nl8
    have atl8 : (upd H11 l8 (.lst [x])) l8 = some (.lst [x]) := upd_same
    have S := S.trans sN
    have atl0 := sN _ _ atl0
    have atl1 := sN _ _ atl1
    have atl2 := sN _ _ atl2
    have atl3 := sN _ _ atl3
    have atq0 := sN _ _ atq0
    have atl4 := sN _ _ atl4
    have atl5 := sN _ _ atl5
    have atl6 := sN _ _ atl6
    have atq1 := sN _ _ atq1
    have atr1 := sN _ _ atr1
    have atl7 := sN _ _ atl7
    generalize upd H11 l8 (.lst [x]) = H12 at *
    clear sN
    refine ⟨_, rfl, p, _, _, .ref a9, rfl, rfl, SqL.of (S _ _ R2), at_of (j := 9) rfl rfl, a9, c 9, _, _, rfl, ErA.mono S (R3 9 a9 rfl), T.er 9 (by decide), T.e9.no _ (.head _), lk9_0 x y z, ?_⟩
    refine ⟨(by show 1 ≤ sizeLine; decide), fun l9 nl9 => ?_⟩
    have sN := same_upd (o := .lst [x]) nl9
    have atl9 : (upd H12 l9 (.lst [x])) l9 = some (.lst [x]) := upd_same
    have S := S.trans sN
    have atl0 := sN _ _ atl0
    have atl1 := sN _ _ atl1
    have atl2 := sN _ _ atl2
    have atl3 := sN _ _ atl3
    have atq0 := sN _ _ atq0
    have atl4 := sN _ _ atl4
    have atl5 := sN _ _ atl5
    have atl6 := sN _ _ atl6
    have atq1 := sN _ _ atq1
    have atr1 := sN _ _ atr1
    have atl7 := sN _ _ atl7
    have atl8 := sN _ _ atl8
    generalize upd H12 l9 (.lst [x]) = H13 at *
    clear sN
    refine ⟨(by show 3 ≤ sizeLine; decide), fun q2 nq2 => ?_⟩
    have sN := same_upd (o := .lst [.ref l7, .ref l8, .ref l9]) nq2
    have atq2 : (upd H13 q2 (.lst [.ref l7, .ref l8, .ref l9])) q2 = some (.lst [.ref l7, .ref l8, .ref l9]) := upd_same
    have S := S.trans sN
    have atl0 := sN _ _ atl0
    have atl1 := sN _ _ atl1
    have atl2 := sN _ _ atl2
    have atl3 := sN _ _ atl3
    have atq0 := sN _ _ atq0
    have atl4 := sN _ _ atl4
    have atl5 := sN _ _ atl5
    have atl6 := sN _ _ atl6
    have atq1 := sN _ _ atq1
    have atr1 := sN _ _ atr1
    have atl7 := sN _ _ atl7
    have atl8 := sN _ _ atl8
    have atl9 := sN _ _ atl9
    generalize upd H13 q2 (.lst [.ref l7, .ref l8, .ref l9]) = H14 at *
    clear sN
    refine ⟨r1, q2, _, _, rfl, rfl, atr1, atq2, (by show 7 + 3 ≤ sizeLine; decide), fun r2 nr2 => ?_⟩
    show _
    have sN := same_upd (o := .lst (([.ref l0, .ref l1, .ref l2, .ref l3] ++ [.ref l4, .ref l5, .ref l6]) ++ [.ref l7, .ref l8, .ref l9])) nr2
    have atr2 : (upd H14 r2 (.lst (([.ref l0, .ref l1, .ref l2, .ref l3] ++ [.ref l4, .ref l5, .ref l6]) ++ [.ref l7, .ref l8, .ref l9]))) r2 = some (.lst (([.ref l0, .ref l1, .ref l2, .ref l3] ++ [.ref l4, .ref l5, .ref l6]) ++ [.ref l7, .ref l8, .ref l9])) := upd_same
    have S := S.trans sN
    have atl0 := sN _ _ atl0
    have atl1 := sN _ _ atl1
    have atl2 := sN _ _ atl2
    have atl3 := sN _ _ atl3
    have atq0 := sN _ _ atq0
    have atl4 := sN _ _ atl4
    have atl5 := sN _ _ atl5
    have atl6 := sN _ _ atl6
    have atq1 := sN _ _ atq1
    have atr1 := sN _ _ atr1
    have atl7 := sN _ _ atl7
    have atl8 := sN _ _ atl8
    have atl9 := sN _ _ atl9
    have atq2 := sN _ _ atq2
    generalize upd H14 r2 (.lst (([.ref l0, .ref l1, .ref l2, .ref l3] ++ [.ref l4, .ref l5, .ref l6]) ++ [.ref l7, .ref l8, .ref l9])) = H15 at *
    clear sN
    refine ⟨_, rfl, ?_⟩
    refine ⟨_, rfl, p, _, _, .ref a10, rfl, rfl, SqL.of (S _ _ R2), at_of (j := 10) rfl rfl, a10, c 10, _, _, rfl, ErA.mono S (R3 10 a10 rfl), T.er 10 (by decide), T.e10.no _ (.head _), lk10_0 x y z, ?_⟩
    refine ⟨_, rfl, p, _, _, .ref a10, rfl, rfl, SqL.of (S _ _ R2), at_of (j := 10) rfl rfl, a10, c 10, _, _, rfl, ErA.mono S (R3 10 a10 rfl), T.er 10 (by decide), T.e10.no _ (.tail _ (.head _)), lk10_1 x y z, ?_⟩
    refine ⟨(by show 2 ≤ sizeLine; decide), fun l10 nl10 => ?_⟩
    have sN := same_upd (o := .lst [x, y]) nl10
    have atl10 : (upd H15 l10 (.lst [x, y])) l10 = some (.lst [x, y]) := upd_same
    have S := S.trans sN
    have atl0 := sN _ _ atl0
    have atl1 := sN _ _ atl1
    have atl2 := sN _ _ atl2
    have atl3 := sN _ _ atl3
    have atq0 := sN _ _ atq0
    have atl4 := sN _ _ atl4
    have atl5 := sN _ _ atl5
    have atl6 := sN _ _ atl6
    have atq1 := sN _ _ atq1
    have atr1 := sN _ _ atr1
    have atl7 := sN _ _ atl7
    have atl8 := sN _ _ atl8
    have atl9 := sN _ _ atl9
    have atq2 := sN _ _ atq2
    have atr2 := sN _ _ atr2
    generalize upd H15 l10 (.lst [x, y]) = H16 at *
    clear sN
    refine ⟨(by show 0 ≤ sizeLine; decide), fun l11 nl11 => ?_⟩
    have sN := same_upd (o := .lst []) nl11
    have atl11 : (upd H16 l11 (.lst [])) l11 = some (.lst []) := upd_same
    have S := S.trans sN
    have atl0 := sN _ _ atl0
    have atl1 := sN _ _ atl1
    have atl2 := sN _ _ atl2
    have atl3 := sN _ _ atl3
    have atq0 := sN _ _ atq0
    have atl4 := sN _ _ atl4
    have atl5 := sN _ _ atl5
    have atl6 := sN _ _ atl6
    have atq1 := sN _ _ atq1
    have atr1 := sN _ _ atr1
    have atl7 := sN _ _ atl7
    have atl8 := sN _ _ atl8
    have atl9 := sN _ _ atl9
    have atq2 := sN _ _ atq2
    have atr2 := sN _ _ atr2
    have atl10 := sN _ _ atl10
    generalize upd H16 l11 (.lst []) = H17 at *
    clear sN
    refine ⟨(by show 0 ≤ sizeLine; decide), fun l12 nl12 => ?_⟩
    have sN := same_upd (o := .lst []) nl12
    have atl12 : (upd H17 l12 (.lst [])) l12 = some (.lst []) := upd_same
    have S := S.trans sN
    have atl0 := sN _ _ atl0
    have atl1 := sN _ _ atl1
    have atl2 := sN _ _ atl2
    have atl3 := sN _ _ atl3
    have atq0 := sN _ _ atq0
    have atl4 := sN _ _ atl4
    have atl5 := sN _ _ atl5
    have atl6 := sN _ _ atl6
    have atq1 := sN _ _ atq1
    have atr1 := sN _ _ atr1
    have atl7 := sN _ _ atl7
    have atl8 := sN _ _ atl8
    have atl9 := sN _ _ atl9
    have atq2 := sN _ _ atq2
    have atr2 := sN _ _ atr2
    have atl10 := sN _ _ atl10
    have atl11 := sN _ _ atl11
    generalize upd H17 l12 (.lst []) = H18 at *
    clear sN
    refine ⟨(by show 3 ≤ sizeLine; decide), fun q3 nq3 => ?_⟩
    have sN := same_upd (o := .lst [.ref l10, .ref l11, .ref l12]) nq3
    have atq3 : (upd H18 q3 (.lst [.ref l10, .ref l11, .ref l12])) q3 = some (.lst [.ref l10, .ref l11, .ref l12]) := upd_same
    have S := S.trans sN
    have atl0 := sN _ _ atl0
    have atl1 := sN _ _ atl1
    have atl2 := sN _ _ atl2
    have atl3 := sN _ _ atl3
    have atq0 := sN _ _ atq0
    have atl4 := sN _ _ atl4
    have atl5 := sN _ _ atl5
    have atl6 := sN _ _ atl6
    have atq1 := sN _ _ atq1
    have atr1 := sN _ _ atr1
    have atl7 := sN _ _ atl7
    have atl8 := sN _ _ atl8
    have atl9 := sN _ _ atl9
    have atq2 := sN _ _ atq2
    have atr2 := sN _ _ atr2
    have atl10 := sN _ _ atl10
    have atl11 := sN _ _ atl11
    have atl12 := sN _ _ atl12
    generalize upd H18 q3 (.lst [.ref l10, .ref l11, .ref l12]) = H19 at *
    clear sN
    refine ⟨r2, q3, _, _, rfl, rfl, atr2, atq3, (by show 10 + 3 ≤ sizeLine; decide), fun r3 nr3 => ?_⟩
    show _
    have sN := same_upd (o := .lst ((([.ref l0, .ref l1, .ref l2, .ref l3] ++ [.ref l4, .ref l5, .ref l6]) ++ [.ref l7, .ref l8, .ref l9]) ++ [.ref l10, .ref l11, .ref l12])) nr3
    have atr3 : (upd H19 r3 (.lst ((([.ref l0, .ref l1, .ref l2, .ref l3] ++ [.ref l4, .ref l5, .ref l6]) ++ [.ref l7, .ref l8, .ref l9]) ++ [.ref l10, .ref l11, .ref l12]))) r3 = some (.lst ((([.ref l0, .ref l1, .ref l2, .ref l3] ++ [.ref l4, .ref l5, .ref l6]) ++ [.ref l7, .ref l8, .ref l9]) ++ [.ref l10, .ref l11, .ref l12])) := upd_same
    have S := S.trans sN
    have atl0 := sN _ _ atl0
    have atl1 := sN _ _ atl1
    have atl2 := sN _ _ atl2
    have atl3 := sN _ _ atl3
    have atq0 := sN _ _ atq0
    have atl4 := sN _ _ atl4
    have atl5 := sN _ _ atl5
    have atl6 := sN _ _ atl6
    have atq1 := sN _ _ atq1
    have atr1 := sN _ _ atr1
    have atl7 := sN _ _ atl7
    have atl8 := sN _ _ atl8
    have atl9 := sN _ _ atl9
    have atq2 := sN _ _ atq2
    have atr2 := sN _ _ atr2
    have atl10 := sN _ _ atl10
    have atl11 := sN _ _ atl11
    have atl12 := sN _ _ atl12
    have atq3 := sN _ _ atq3
    generalize upd H19 r3 (.lst ((([.ref l0, .ref l1, .ref l2, .ref l3] ++ [.ref l4, .ref l5, .ref l6]) ++ [.ref l7, .ref l8, .ref l9]) ++ [.ref l10, .ref l11, .ref l12])) = H20 at *
    clear sN
    refine k _ r3 [l0, l1, l2, l3, l4, l5, l6, l7, l8, l9, l10, l11, l12] S ⟨rfl, atr3, fun i l e => ?_⟩
    match i, e with
    | 0, e => cases e; exact atl0
    | 1, e => cases e; exact atl1
    | 2, e => cases e; exact atl2
    | 3, e => cases e; exact atl3
    | 4, e => cases e; exact atl4
    | 5, e => cases e; exact atl5
    | 6, e => cases e; exact atl6
    | 7, e => cases e; exact atl7
    | 8, e => cases e; exact atl8
    | 9, e => cases e; exact atl9
    | 10, e => cases e; exact atl10
    | 11, e => cases e; exact atl11
    | 12, e => cases e; exact atl12
    | n + 13, e => cases e
end
/-! ### the values that the law draws -/
/-- the heap without d -/
def wo (H : Hp) (d : Addr) : Hp := fun b => if b = d then none else H b
theorem wo_ne {H : Hp} {d b : Addr} (h : b ≠ d) : wo H d b = H b := if_neg h
theorem wo_le {H : Hp} {d : Addr} : Same (wo H d) H := fun b o e => by
  by_cases h : b = d
  · unfold wo at e
    rw [if_pos h] at e
    cases e
  · rw [wo_ne h] at e
    exact e
theorem wo_mono {H H' : Hp} {d : Addr} (h : ∀ b o, H b = some o → b ≠ d → H' b = some o) : Same (wo H d) (wo H' d) := fun b o e => by
  by_cases z : b = d
  · unfold wo at e
    rw [if_pos z] at e
    cases e
  · rw [wo_ne z] at e ⊢
    exact h b o e z
/-- what is new in H' -/
def wn (H H' : Hp) : Hp := fun b => match H b with
  | none => H' b
  | some _ => none
theorem wn_at {H H' : Hp} {b : Addr} (h : H b = none) : wn H H' b = H' b := by
  unfold wn
  rw [h]
theorem wn_of {H H' : Hp} {b : Addr} {o : HO} (h : wn H H' b = some o) : H b = none ∧ H' b = some o := by
  unfold wn at h
  split at h
  · rename_i e
    exact ⟨e, h⟩
  · cases h
theorem same_seqT {K : PySem.W.Frag} {H H' : Hp} {a : Addr} {xs : List V} (e : Same H H') (h : SqT K H a xs) : SqT K H' a xs := by
  rcases h with (h | ⟨o, h⟩) | h
  · exact .inl (.inl (e _ _ h))
  · exact .inl (.inr ⟨o, e _ _ h⟩)
  · exact .inr h
mutual
theorem Dq.mono {K : PySem.W.Frag} {H H' : Hp} (s : Same H H') : ∀ (d : PyData) (v : V), Dq K H v d → Dq K H' v d
  | .none, _, h => by cases h; exact .non
  | .bool _, _, h => by cases h; exact .bl _
  | .int _, _, h => by cases h; exact .int _
  | .str _, _, h => by cases h; exact .str _
  | .list ds, _, h => by
    cases h with
    | lst a b => exact .lst (s.seq a) (DqAll.mono s ds _ b)
  | .tuple ds, _, h => by
    cases h with
    | tup a b => exact .tup (same_seqT s a) (DqAll.mono s ds _ b)
  | .dict ds, _, h => by
    cases h with
    | dct a b =>
      refine .dct ?_ (DqKv.mono s ds _ b)
      rcases a with a | ⟨o, a⟩
      · exact .inl (s _ _ a)
      · exact .inr ⟨o, s _ _ a⟩
theorem DqAll.mono {K : PySem.W.Frag} {H H' : Hp} (s : Same H H') : ∀ (ds : List PyData) (vs : List V), DqAll K H vs ds → DqAll K H' vs ds
  | [], _, h => by cases h; exact .nil
  | d :: ds, _, h => by
    cases h with
    | cons a b => exact .cons (Dq.mono s d _ a) (DqAll.mono s ds _ b)
theorem DqKv.mono {K : PySem.W.Frag} {H H' : Hp} (s : Same H H') : ∀ (ds : List (PyData × PyData)) (vs : List (Key × V)), DqKv K H vs ds → DqKv K H' vs ds
  | [], _, h => by cases h; exact .nil
  | (_, d) :: ds, _, h => by
    cases h with
    | cons a b => exact .cons (Dq.mono s d _ a) (DqKv.mono s ds _ b)
end
/-- data that a repr shows in a short text -/
structure Sz (d : PyData) : Prop where
  show_ : d.showable = true
  deep : d.depth ≤ 3
  leaves : d.leavesShort 2000 = true
  bulk : d.bulk ≤ 100
theorem big_log {i : Int} (h : i.natAbs < 10 ^ 57) : i.natAbs.log2 < 1920 := by
  by_cases z : i.natAbs = 0
  · rw [z]; decide
  · have : i.natAbs < 2 ^ 1920 := Nat.lt_trans h (by decide +kernel)
    exact (Nat.log2_lt z).mpr this
theorem int_short {i : Int} (h : i.natAbs < 10 ^ 57) : (PyData.shown (.int i)).length ≤ 2000 := by
  have := PyProof.Rows.int_text_len_1921 (big_log h)
  simp only [PyData.shown]
  exact Nat.le_trans this (by decide)
theorem Sz.int {i : Int} (h : i.natAbs < 10 ^ 57) : Sz (.int i) where
  show_ := by simp only [PyData.showable]; exact decide_eq_true (big_log h)
  deep := by simp only [PyData.depth]; omega
  leaves := by simp only [PyData.leavesShort]; exact decide_eq_true (int_short h)
  bulk := by simp only [PyData.bulk]; omega
/-- the texts that the law draws: x and up to three figures -/
theorem digit_text : ∀ i : Fin 1000, (("x" : Str) ++ Str.ofString (toString ((i.val : Nat) : Int))).cps.toList.all (fun c => decide (c < 16 ^ 8)) = true ∧ (("x" : Str) ++ Str.ofString (toString ((i.val : Nat) : Int))).cps.size ≤ 4 ∧ (Str.ofString (toString ((i.val : Nat) : Int))).length ≤ 3 := by
  decide +kernel
def spValue (K : PySem.W.Frag) : Sp := fun vs H Q _ => ∃ (d c : Addr) (n : Int), vs = [.ref d] ∧ Pen H d c n ∧ 0 ≤ n ∧ n < 800000000 ∧
  ∀ (x : V) (dt : PyData) (n' : Int) (H' : Hp), n ≤ n' → n' ≤ n + 40 → Pen H' d c n' → (∀ b o, H b = some o → b ≠ d → H' b = some o) → Dq K (wn H H') x dt → Sz dt → Q x H'
abbrev sValue : Stmt := top 23
section
variable {P : Program} {w : World} {K : PySem.W.Frag} {mg : Str → Option Value} {base : Heap}
theorem scValue : FnScope ["_law_pen_here", "_law_far"] ["_law_pen_here"] (defScope sValue) := ⟨rfl, rfl, rfl, by decide +kernel, rfl, by decide +kernel, by decide +kernel⟩
theorem ok_value {f fL fP : Addr} {fd fdL fdP : FuncData} (F : Fun K "_law_value" "_law_value" sValue f fd) (GL : FnOk P w K mg base CX0 3 fL fdL ["_law_pen_here"] spLarge) (GP : FnOk P w K mg base CX0 2 fP fdP ["_law_pen_here", "_law_some"] (spPick K))
    (kL : PySem.W.keepIn K (.ref fL) = true) (kP : PySem.W.keepIn K (.ref fP) = true) (bL : Binds K fdL ["_law_pen_here"] []) (bP : Binds K fdP ["_law_pen_here", "_law_some"] [])
    (mL : mg "_law_large" = some (.ref fL)) (mP : mg "_law_pick" = some (.ref fP)) (mInt : mg "int" = none) (mStr : mg "str" = none) : FnOk P w K mg base CX0 4 f fd ["_law_pen_here"] (spValue K) := by
  refine F.ok scValue (fun vs H Q E h => ?_) (fun cdv A outer s H vs Q E hr h => ?_)
  · obtain ⟨d, c, n, rfl, _⟩ := h
    rfl
  · obtain ⟨d, c, n, rfl, pen, n0, n1, k⟩ := h
    have hr2 : Room 2 _ := hr.mono (by decide)
    refine ⟨_, pss_cons (ps_set (i := 1) scValue.nd rfl (Or.inl rfl) (pe_call GL hr rfl mL kL bL .nil pass0 (pa_cons (pv 0) pa_nil)))
      (pss_one (ps_ret (pe_call GP hr2 rfl mP kP bP .nil pass0 (pa_cons (pv 0) (pa_cons (pe_lst
        (pa_cons (pv 1) (pa_cons (pe_un un_neg (pv 1)) (pa_cons (pe_op op_add_str pe_str (pe_callTy call_str_int (by rfl) mStr (by decide +kernel) (pa_cons (pe_op op_mod (pe_callTy call_int1 (by rfl) mInt (by decide +kernel) (pa_cons (pv 1) pa_nil)) pe_int) pa_nil)))
        (pa_cons pe_non (pa_cons (pe_tup (pa_cons (pv 1) (pa_cons pe_str pa_nil))) (pa_cons (pe_lst (pa_cons (pv 1) (pa_cons pe_non pa_nil))) (pa_cons pe_bl (pa_cons pe_str
        (pa_cons (pe_disp (pps_cons pe_str (pv 1) pps_nil) rfl rfl (by simp) (by decide)) pa_nil)))))))))) pa_nil))))), ?_⟩
    refine ⟨_, rfl, d, c, n, rfl, pen, n0, by omega, fun r n' H1 r0 r1 a1 a2 pen1 fr1 => ?_⟩
    have rn : r.natAbs < 10 ^ 57 := by omega
    have rl := big_log rn
    obtain ⟨j, hj⟩ : ∃ j : Fin 1000, r % 1000 = ((j.val : Nat) : Int) := ⟨⟨(r % 1000).toNat, by omega⟩, by show r % 1000 = (((r % 1000).toNat : Nat) : Int); omega⟩
    obtain ⟨t1, t2, t3⟩ := digit_text j
    refine ⟨_, rfl, _, rfl, _, rfl, r, rfl, _, rfl, .inl ⟨r, rfl, _, _, rfl, rfl, (by show (0 : Int) < 1000; decide), _, rfl, ?_, ?_⟩⟩
    · rw [hj]
      exact big_log (by have := j.isLt; omega)
    rw [hj]
    refine ⟨_, _, rfl, rfl, ?_, ?_⟩
    · show 1 + _ ≤ sizeLine
      rw [sizeLine_eq]
      omega
    refine ⟨_, rfl, (by show 2 ≤ sizeLine; decide), fun t nt => ?_⟩
    have nd : ∀ {b : Addr}, H1 b = none → b ≠ d := fun {b} n z => by
      obtain ⟨o, e⟩ := pen1.at
      rw [z, e] at n
      cases n
    have s1 := same_upd (o := .tup [.int r, .str "a"]) nt
    have at_t : (upd H1 t (.tup [.int r, .str "a"])) t = some (.tup [.int r, .str "a"]) := upd_same
    have pen2 := pen1.upd (o := .tup [.int r, .str "a"]) nt
    have ntd := nd nt
    generalize upd H1 t (.tup [.int r, .str "a"]) = H2 at *
    refine ⟨_, rfl, (by show 2 ≤ sizeLine; decide), fun l nl => ?_⟩
    have nld : l ≠ d := fun z => by
      obtain ⟨o, e⟩ := pen2.at
      rw [z, e] at nl
      cases nl
    have s2 := same_upd (o := .lst [.int r, .non]) nl
    have at_l : (upd H2 l (.lst [.int r, .non])) l = some (.lst [.int r, .non]) := upd_same
    have pen3 := pen2.upd (o := .lst [.int r, .non]) nl
    have at_t := s2 _ _ at_t
    have s2 := s1.trans s2
    generalize upd H2 l (.lst [.int r, .non]) = H3 at *
    intro dd ndd
    refine ⟨_, rfl, upd_same, [(Sum.inr "a", .int r)], rfl, (by show 1 ≤ 15; decide), ?_⟩
    rw [upd_upd]
    have nddd : dd ≠ d := fun z => by
      obtain ⟨o, e⟩ := pen3.at
      rw [z, e] at ndd
      cases ndd
    have at_d : (upd H3 dd (.dK (mergeK [] [(Sum.inr "a", .int r)]))) dd = some (.dK [(Sum.inr "a", .int r)]) := upd_same
    have s3 := same_upd (o := .dK (mergeK [] [(Sum.inr "a", V.int r)])) ndd
    have pen4 := pen3.upd (o := .dK (mergeK [] [(Sum.inr "a", V.int r)])) ndd
    have at_t := s3 _ _ at_t
    have at_l := s3 _ _ at_l
    have s3 := s2.trans s3
    generalize upd H3 dd (.dK (mergeK [] [(Sum.inr "a", V.int r)])) = H4 at *
    refine ⟨(by show 9 ≤ sizeLine; decide), fun p np => ?_⟩
    have pen5 := pen4.upd (o := .lst [.int r, .int (-r), .str ("x" ++ Str.ofString (toString ((j.val : Nat) : Int))), .non, .ref t, .ref l, .bl true, .str "", .ref dd]) np
    refine ⟨d, c, p, n', _, rfl, pen5, upd_same, by simp, by simp, by omega, by omega, fun x H6 hx dr => ?_⟩
    have keep : ∀ b o, H4 b = some o → b ≠ d → H6 b = some o := fun b o e hb => by
      rw [dr.off b hb, upd_ne (ne_of_none e np)]
      exact e
    have fr : ∀ b o, H b = some o → b ≠ d → H6 b = some o := fun b o e hb => keep b o (s3 _ _ (fr1 b o e hb)) hb
    have old : ∀ {b : Addr} {H' : Hp}, (∀ c o, H c = some o → c ≠ d → H' c = some o) → H' b = none → b ≠ d → H b = none := fun {b H'} s n ne => by
      cases e : H b with
      | none => rfl
      | some o =>
        rw [s b o e ne] at n
        cases n
    have wt : wn H H6 t = some (.tup [.int r, .str "a"]) := by rw [wn_at (old fr1 nt ntd)]; exact keep _ _ at_t ntd
    have wl : wn H H6 l = some (.lst [.int r, .non]) := by rw [wn_at (old (fun b o e ne => s1 _ _ (fr1 b o e ne)) nl nld)]; exact keep _ _ at_l nld
    have wd : wn H H6 dd = some (.dK [(Sum.inr "a", .int r)]) := by rw [wn_at (old (fun b o e ne => s2 _ _ (fr1 b o e ne)) ndd nddd)]; exact keep _ _ at_d nddd
    have fin : ∀ dt, Dq K (wn H H6) x dt → Sz dt → Q x H6 := fun dt a b => k x dt (n' + 1) H6 (by omega) (by omega) dr.pen fr a b
    have sr := Sz.int rn
    rcases List.mem_cons.mp hx with rfl | hx
    · exact fin _ (.int _) sr
    rcases List.mem_cons.mp hx with rfl | hx
    · exact fin _ (.int _) (Sz.int (by omega))
    rcases List.mem_cons.mp hx with rfl | hx
    · exact fin _ (.str _) ⟨by simp only [PyData.showable], by simp only [PyData.depth]; omega, by simp only [PyData.leavesShort]; exact t1, by simp only [PyData.bulk]; omega⟩
    rcases List.mem_cons.mp hx with rfl | hx
    · exact fin _ .non ⟨by simp only [PyData.showable], by simp only [PyData.depth]; omega, by simp only [PyData.leavesShort], by simp only [PyData.bulk]; omega⟩
    rcases List.mem_cons.mp hx with rfl | hx
    · refine fin _ (.tup (.inl (.inl wt)) (.cons (.int _) (.cons (.str _) .nil))) ⟨?_, ?_, ?_, ?_⟩
      · have := sr.show_
        simp only [PyData.showable, PyData.showableAll, Bool.and_true] at this ⊢
        exact this
      · simp only [PyData.depth, PyData.depthAll]; omega
      · have := sr.leaves
        simp only [PyData.leavesShort, PyData.leavesShortAll, Bool.and_true] at this ⊢
        rw [this]
        decide +kernel
      · simp only [PyData.bulk, PyData.bulkAll]; decide +kernel
    rcases List.mem_cons.mp hx with rfl | hx
    · refine fin _ (.lst (.inl (.inl wl)) (.cons (.int _) (.cons .non .nil))) ⟨?_, ?_, ?_, ?_⟩
      · have := sr.show_
        simp only [PyData.showable, PyData.showableAll, Bool.and_true] at this ⊢
        exact this
      · simp only [PyData.depth, PyData.depthAll]; omega
      · have := sr.leaves
        simp only [PyData.leavesShort, PyData.leavesShortAll, Bool.and_true] at this ⊢
        exact this
      · simp only [PyData.bulk, PyData.bulkAll]; omega
    rcases List.mem_cons.mp hx with rfl | hx
    · exact fin _ (.bl _) ⟨by simp only [PyData.showable], by simp only [PyData.depth]; omega, by simp only [PyData.leavesShort], by simp only [PyData.bulk]; omega⟩
    rcases List.mem_cons.mp hx with rfl | hx
    · exact fin _ (.str _) ⟨by simp only [PyData.showable], by simp only [PyData.depth]; omega, by simp only [PyData.leavesShort]; decide +kernel, by simp only [PyData.bulk]; decide +kernel⟩
    rcases List.mem_cons.mp hx with rfl | hx
    · refine fin _ (.dct (.inl wd) (.cons (.int _) .nil)) ⟨?_, ?_, ?_, ?_⟩
      · have := sr.show_
        simp only [kD, PyData.showable, PyData.showableKv, Bool.and_true, Bool.true_and] at this ⊢
        exact this
      · simp only [kD, PyData.depth, PyData.depthKv]; omega
      · have := sr.leaves
        simp only [kD, PyData.leavesShort, PyData.leavesShortKv, Bool.and_true] at this ⊢
        rw [this]
        decide +kernel
      · simp only [kD, PyData.bulk, PyData.bulkKv]; decide +kernel
    · exact (List.not_mem_nil hx).elim
end
end K00

namespace K00
open PySem L2 Gd
/-! ### the law -/
theorem dpBls {K : PySem.W.Frag} {H : Hp} {f : Nat → Bool} : ∀ l : List Nat, DpAll K H (l.map fun j => V.bl (f j)) (l.map fun j => PyData.bool (f j))
  | [] => .nil
  | _ :: l => .cons (.bl _) (dpBls l)
def bls (i : Nat) : PyData := .list ((List.range 13).map fun j => PyData.bool (decide (j = i)))
theorem bls_ok : ∀ i < 13, PyData.eqv (bls i) (bls i) = true ∧ SeqAt.shaped (bls i) = true := by decide +kernel
theorem cut_take {x y z : V} {n : Nat} : cutV [x, y, z] none (some (n : Int)) = [x, y, z].take n := by
  unfold cutV
  rw [HT.sIx_none, HT.sIx_nat]
  show (List.drop 0 [x, y, z]).take (min n 3 - 0) = _
  rw [List.drop_zero, Nat.sub_zero, List.take_eq_take_iff]
  show min (min n 3) 3 = min n 3
  omega
theorem dq_take {K : PySem.W.Frag} {H : Hp} : ∀ {xs : List V} {ds : List PyData} (n : Nat), DqAll K H xs ds → DqAll K H (xs.take n) (ds.take n)
  | _, _, 0, _ => .nil
  | _, _, _ + 1, .nil => .nil
  | _, _, n + 1, .cons a b => .cons a (dq_take n b)
theorem sz_list {ds : List PyData} (h : ∀ d ∈ ds, Sz d) (hl : ds.length ≤ 3) : (PyData.list ds).showable = true ∧ (PyData.list ds).depth ≤ 60 ∧ (PyData.list ds).shown.length ≤ sizeLine := by
  have all : ∀ l : List PyData, (∀ d ∈ l, Sz d) → PyData.showableAll l = true ∧ PyData.depthAll l ≤ 3 ∧ PyData.leavesShortAll 2000 l = true ∧ PyData.bulkAll l ≤ 101 * l.length := by
    intro l
    induction l with
    | nil => intro _; simp [PyData.showableAll, PyData.depthAll, PyData.leavesShortAll, PyData.bulkAll]
    | cons d l ih =>
      intro hh
      have s := hh d (.head _)
      obtain ⟨a1, a2, a3, a4⟩ := ih fun e he => hh e (.tail _ he)
      have := s.deep
      have := s.bulk
      refine ⟨by simp only [PyData.showableAll, s.show_, a1, Bool.and_self], by simp only [PyData.depthAll]; omega, by simp only [PyData.leavesShortAll, s.leaves, a3, Bool.and_self], ?_⟩
      simp only [PyData.bulkAll, List.length_cons]
      omega
  obtain ⟨a1, a2, a3, a4⟩ := all ds h
  refine ⟨by simp only [PyData.showable]; exact a1, by simp only [PyData.depth]; omega, ?_⟩
  have := PyData.shown_le_bulk 2000 (by decide) (.list ds) (by simp only [PyData.leavesShort]; exact a3)
  simp only [PyData.bulk] at this
  rw [sizeLine_eq]
  have : (2000 + 2) * PyData.bulkAll ds ≤ (2000 + 2) * 303 := Nat.mul_le_mul_left _ (by omega)
  omega
def spLaw (K : PySem.W.Frag) : Sp := fun vs H Q _ => ∃ (a : Addr) (ns : List Int), vs = [.ref a] ∧ SqL K H a (ns.map V.int) ∧ ∀ H', Q (.bl true) H'
abbrev sLaw : Stmt := top 24
section
variable {P : Program} {w : World} {K : PySem.W.Frag} {mg : Str → Option Value} {base : Heap} {c : Nat → Addr} {ce : Addr}
theorem scLaw : FnScope ["_law_script", "_law_pen_here", "_law_k", "_law_given", "_law_row", "_law_e", "_law_j", "_law_fields_here", "_law_many"] ["_law_script"] (defScope sLaw) := ⟨rfl, rfl, rfl, by decide +kernel, rfl, by decide +kernel, by decide +kernel⟩
/-- a def as the law calls it -/
structure Cl (K : PySem.W.Frag) (mg : Str → Option Value) (x : Str) (st : Stmt) (ps : List Str) (f : Addr) (fd : FuncData) : Prop where
  fn : Fun K x x st f fd
  b : Binds K fd ps []
  g : mg x = some (.ref f)
theorem Cl.k {x : Str} {st : Stmt} {ps : List Str} {f : Addr} {fd : FuncData} (h : Cl K mg x st ps f fd) : PySem.W.keepIn K (.ref f) = true := h.fn.kp
structure Blt (mg : Str → Option Value) : Prop where
  int_ : mg "int" = none
  len_ : mg "len" = none
  list_ : mg "list" = none
  range_ : mg "range" = none
  str_ : mg "str" = none
  isi_ : mg "isinstance" = none
  repr_ : mg "repr" = none
  enum_ : mg "enumerate" = none
  zip_ : mg "zip" = none
  ve_ : mg "ValueError" = none
theorem ok_law {f f1 f2 f3 f4 f5 f6 f7 f8 : Addr} {fd fd1 fd2 fd3 fd4 fd5 fd6 fd7 fd8 : FuncData} (F : Fun K "law" "law" sLaw f fd) (T : Txt K mg c ce) (B : Blt mg)
    (C1 : Cl K mg "_law_pen" sPen ["_law_script"] f1 fd1) (C2 : Cl K mg "_law_draw" sDraw ["_law_pen_here", "_law_many"] f2 fd2) (C3 : Cl K mg "_law_pick" sPick ["_law_pen_here", "_law_some"] f3 fd3) (C4 : Cl K mg "_law_large" sLarge ["_law_pen_here"] f4 fd4)
    (C5 : Cl K mg "_law_kinds" sKinds ["_law_e"] f5 fd5) (C6 : Cl K mg "_law_made" sMade ["_law_a", "_law_b", "_law_c"] f6 fd6) (C7 : Cl K mg "_law_fields" sFields ["_law_row"] f7 fd7) (C8 : Cl K mg "_law_value" sValue ["_law_pen_here"] f8 fd8) :
    FnG P w K mg base CX0 5 f fd ["_law_script"] (spLaw K) := by
  have G1 : FnOk P w K mg base CX0 1 f1 fd1 ["_law_script"] (spPen K) := ok_pen C1.fn B.int_ B.list_
  have G3 : FnOk P w K mg base CX0 2 f3 fd3 ["_law_pen_here", "_law_some"] (spPick K) := ok_pick C3.fn C2.fn C2.b C2.g B.int_ B.len_
  have G4 : FnOk P w K mg base CX0 3 f4 fd4 ["_law_pen_here"] spLarge := ok_large C4.fn C2.fn C2.b C2.g C3.fn C3.b C3.g B.int_ B.len_ B.range_
  have G5 : FnOk P w K mg base CX0 1 f5 fd5 ["_law_e"] (spKinds c) := ok_kinds C5.fn T B.isi_
  have G6 : FnOk P w K mg base CX0 3 f6 fd6 ["_law_a", "_law_b", "_law_c"] (spMade c) := ok_made C6.fn T
  have G7 : FnOk P w K mg base CX0 1 f7 fd7 ["_law_row"] (spFields c) := ok_fields C7.fn T
  have G8 : FnOk P w K mg base CX0 4 f8 fd8 ["_law_pen_here"] (spValue K) := ok_value C8.fn G4 G3 C4.k C3.k C4.b C3.b C4.g C3.g B.int_ B.str_
  refine okG F scLaw (fun vs H Q E h => ?_) (fun cdv A outer s H vs Q E hgd hr h => ?_)
  · obtain ⟨a, ns, rfl, _⟩ := h
    rfl
  · obtain ⟨a, ns, rfl, hS, k⟩ := h
    have hr1 : Room 1 _ := hr.mono (by decide)
    have hr3 : Room 3 _ := hr.mono (by decide)
    have hu64 := hr.units
    refine ⟨_, pss_cons (ps_set (i := 1) scLaw.nd rfl (Or.inr rfl) (pe_call G1 hr1 rfl C1.g C1.k C1.b .nil pass0 (pa_cons (pv 0) pa_nil)))
      (pss_cons (ps_setLc (i := 3) (own := [("_law_k", 2)]) (g := gName 2) (tt := tYes) rfl scLaw.nd rfl rfl (sw_true rfl rfl rfl (by decide +kernel)) (pi_range1 rfl B.range_ (pa_cons pe_int pa_nil))
          (blkOk_by (N := ["_law_script", "_law_pen_here", "_law_k", "_law_given", "_law_row", "_law_e", "_law_j", "_law_fields_here", "_law_many"]) (sc := defScope sLaw) (by decide +kernel))
          (fun _ _ _ _ _ => pg_name (i := 2) scLaw.nd rfl (Or.inl rfl)) (fun _ _ _ _ _ => pts_nil)
          (fun _ _ _ _ _ => pe_call G8 hr rfl C8.g C8.k C8.b .nil pass0 (pa_cons (pv 1) pa_nil)))
      (pss_cons (ps_set (i := 4) scLaw.nd rfl (Or.inl rfl) (pe_call G6 hr3 rfl C6.g C6.k C6.b .nil pass0 (pa_cons (pe_ix ix_list (pv 3) pe_int (fun _ _ => rfl)) (pa_cons (pe_ix ix_list (pv 3) pe_int (fun _ _ => rfl)) (pa_cons (pe_ix ix_list (pv 3) pe_int (fun _ _ => rfl)) pa_nil)))))
      (pss_cons (ps_for PassesOwn.never rfl (pi_enum rfl B.enum_ (pa_cons (pv 4) pa_nil)) (pg_tup rfl (pgs_cons (pg_name (i := 2) scLaw.nd rfl (Or.inr rfl)) (pgs_cons (pg_name (i := 5) scLaw.nd rfl (Or.inl rfl)) pgs_nil)))
          (pss_cons (ps_if (PW.pt (pw_or (pt_not (pt_val (pe_callB call_isEr (by rfl) B.isi_ (by decide +kernel) (pa_cons (pv 5) (pa_cons (pe_glob (v := .ref ce) rfl T.gce rfl) pa_nil)))))
              (pw_or1 (pt_not (pt_val (pe_callB call_isEr (by rfl) B.isi_ (by decide +kernel) (pa_cons (pv 5) (pa_cons (pe_bltn (v := .ty "ValueError") rfl B.ve_ PyProof.Rows.Boot.«ValueError» rfl) pa_nil)))))))) (pss_one (ps_ret pe_bl)) pss_nil)
          (pss_one (ps_if (pt_cmpR (op_neD hu64) (pe_call G5 hr1 rfl C5.g C5.k C5.b .nil pass0 (pa_cons (pv 5) pa_nil))
              (pe_lc (own := [("_law_j", 6)]) (g := gName 6) (tt := tYes) rfl scLaw.nd (pi_range1 rfl B.range_ (pa_cons (pe_callB call_len_seq (by rfl) B.len_ PySem.boot_len (pa_cons (pv 4) pa_nil)) pa_nil))
                (blkOk_by (N := ["_law_script", "_law_pen_here", "_law_k", "_law_given", "_law_row", "_law_e", "_law_j", "_law_fields_here", "_law_many"]) (sc := defScope sLaw) (by decide +kernel))
                (fun _ _ _ _ _ => pg_name (i := 6) scLaw.nd rfl (Or.inl rfl)) (fun _ _ _ _ _ => pts_nil) (fun _ _ _ _ _ => pe_cmpR op_eq (pv 6) (pv 2) (nomark _))) (nomark _))
              (pss_one (ps_ret pe_bl)) pss_nil))))
      (pss_cons (ps_for PassesOwn.never rfl (pi_zip rfl B.zip_ (pa_cons (pe_call G7 hr1 rfl C7.g C7.k C7.b .nil pass0 (pa_cons (pv 4) pa_nil)) (pa_cons (pe_lst (pa_cons pe_int (pa_cons pe_int (pa_cons pe_int (pa_cons pe_int (pa_cons pe_int (pa_cons pe_int (pa_cons pe_int (pa_cons pe_int (pa_cons pe_int (pa_cons pe_int (pa_cons pe_int (pa_cons pe_int (pa_cons pe_int pa_nil)))))))))))))) pa_nil)))
          (pg_tup rfl (pgs_cons (pg_name (i := 7) scLaw.nd rfl (Or.inl rfl)) (pgs_cons (pg_name (i := 8) scLaw.nd rfl (Or.inl rfl)) pgs_nil)))
          (pss_one (ps_if (pt_cmpR op_ne (pe_callB (call_reprQ hgd hu64) (by rfl) B.repr_ (by decide +kernel) (pa_cons (pv 7) pa_nil)) (pe_callB (call_reprQ hgd hu64) (by rfl) B.repr_ (by decide +kernel) (pa_cons (pe_slice sl_list (pv 3) po_none (po_some (pv 8))) pa_nil)) (nomark _))
            (pss_one (ps_ret pe_bl)) pss_nil)))
      (pss_one (ps_ret pe_bl)))))), ?_⟩
    -- the pen
    refine ⟨_, rfl, a, ns, rfl, hS, fun H0 d cc pen0 fr0 nd0 => ?_⟩
    -- three values
    obtain ⟨oc, hoc⟩ := pen0.atc
    refine ⟨3, rfl, by decide, by decide, fun D hD => lc_range (lo := 0) (n := 3) (fun i H => ∃ (n' : Int) (xs : List V) (ds : List PyData), H D = some (.lst xs) ∧ xs.length = i ∧ 0 ≤ n' ∧ n' ≤ 40 * (i : Int) ∧ Pen H d cc n' ∧ D ≠ d ∧ cc ≠ D ∧
      DqAll K (wo (wo H d) D) xs ds ∧ ds.length = i ∧ ∀ dt ∈ ds, Sz dt) ?_ ?_ ?_⟩
    · have nDd : D ≠ d := fun z => by
        obtain ⟨o, e⟩ := pen0.at
        rw [z, e] at hD
        cases hD
      exact ⟨0, [], [], upd_same, rfl, by decide, by decide, pen0.upd hD, nDd, ne_of_none hoc hD, .nil, rfl, fun _ h => (List.not_mem_nil h).elim⟩
    · rintro i H hi ⟨n', xs, ds, hD, lx, a0, a1, pen, nDd, nDc, dq, ld, sz⟩
      refine ⟨rfl, ?_⟩
      refine ⟨_, rfl, d, cc, n', rfl, pen, a0, by omega, fun x dt n2 H2 b0 b1 pen2 fr2 dx sx => ?_⟩
      have hD2 := fr2 D _ hD nDd
      refine ⟨xs, hD2, by rw [lx, sizeLine_eq]; omega, ?_⟩
      have s1 : Same (wo (wo H d) D) (wo (wo (upd H2 D (.lst (xs ++ [x]))) d) D) := fun b o e => by
        by_cases bD : b = D
        · unfold wo at e
          rw [if_pos bD] at e
          cases e
        · rw [wo_ne bD] at e ⊢
          by_cases bd : b = d
          · unfold wo at e
            rw [if_pos bd] at e
            cases e
          · rw [wo_ne bd] at e ⊢
            rw [upd_ne bD]
            exact fr2 b o e bd
      have s2 : Same (wn H H2) (wo (wo (upd H2 D (.lst (xs ++ [x]))) d) D) := fun b o e => by
        obtain ⟨e1, e2⟩ := wn_of e
        have bD : b ≠ D := fun z => by
          rw [z, hD] at e1
          cases e1
        have bd : b ≠ d := fun z => by
          obtain ⟨o', h'⟩ := pen.at
          rw [z, h'] at e1
          cases e1
        rw [wo_ne bD, wo_ne bd, upd_ne bD]
        exact e2
      refine ⟨n2, xs ++ [x], ds ++ [dt], upd_same, by rw [List.length_append, lx]; rfl, by omega, by omega, pen2.keep (upd_ne nDd.symm) (upd_ne nDc), nDd, nDc, ?_, by rw [List.length_append, ld]; rfl, fun e he => ?_⟩
      · have app : ∀ {K : PySem.W.Frag} {H : Hp} {xs ys : List V} {ds es : List PyData}, DqAll K H xs ds → DqAll K H ys es → DqAll K H (xs ++ ys) (ds ++ es) := by
          intro K H xs ys ds es a b
          induction ds generalizing xs with
          | nil => cases a; exact b
          | cons d ds ih =>
            cases a with
            | cons a1 a2 => exact .cons a1 (ih a2)
        exact app (DqAll.mono s1 ds _ dq) (.cons (Dq.mono s2 dt _ dx) .nil)
      · rcases List.mem_append.mp he with he | he
        · exact sz e he
        · rw [List.mem_singleton.mp he]
          exact sx
    · rintro H ⟨n', xs, ds, hD, lx, a0, a1, pen, nDd, nDc, dq, ld, sz⟩
      match xs, ds, lx, ld, hD, dq, sz with
      | [x, y, z], [dx, dy, dz], _, _, hD, dq, sz =>
      have dq := DqAll.mono (wo_le.trans wo_le) _ _ dq
      clear pen a0 a1 pen0 hoc
      -- the row of errors
      refine ⟨_, rfl, D, _, _, x, rfl, rfl, SqL.of hD, at_of (j := 0) rfl rfl, ?_⟩
      refine ⟨_, rfl, D, _, _, y, rfl, rfl, SqL.of hD, at_of (j := 1) rfl rfl, ?_⟩
      refine ⟨_, rfl, D, _, _, z, rfl, rfl, SqL.of hD, at_of (j := 2) rfl rfl, ?_⟩
      refine ⟨x, y, z, rfl, fun H1 p es s1 R1 => ?_⟩
      have hD1 := s1 _ _ hD
      have dq1 := DqAll.mono s1 _ _ dq
      clear dq hD s1
      have len := R1.1
      have lenV : (es.map V.ref).length = 13 := by rw [List.length_map, len]
      -- each is an error of its own class alone
      refine ⟨_, rfl, p, _, rfl, SqL.of R1.2.1, for_it (n := 13) (G := fun H => SqL K H p (es.map V.ref)) (lenV ▸ walk_enum (xs := es.map V.ref))
        (fun _ σ H => ∃ v2 v5 : Option V, σ = [some (.ref a), some (.ref d), v2, some (.ref D), some (.ref p), v5, none, none, none] ∧ Same H1 H) ⟨none, none, rfl, Same.refl _⟩
        (fun i σ H _ ⟨_, _, _, s⟩ => SqL.of (s _ _ R1.2.1)) ?_ ?_⟩
      · rintro i v σ H H' hi ⟨v2, v5, rfl, sH⟩ ⟨Tp, u, e, rfl, nT, rfl, eu, ee⟩
        cases eu
        have ee : (es.map V.ref)[i]? = some e := ee
        obtain ⟨ei, hei, rfl⟩ : ∃ ei, es[i]? = some ei ∧ e = .ref ei := by
          rw [List.getElem?_map] at ee
          cases q : es[i]? with
          | none => rw [q] at ee; cases ee
          | some w => rw [q] at ee; exact ⟨w, rfl, (Option.some.inj ee).symm⟩
        have ea := R1.2.2 i ei hei
        have sT := sH.trans (same_upd (o := .tup [.int (i : Nat), .ref ei]) nT)
        refine ⟨Tp, _, rfl, SqT.of upd_same, rfl, _, _, rfl, _, _, rfl, rfl, ?_⟩
        generalize upd H Tp (.tup [.int (i : Nat), .ref ei]) = H2 at *
        refine ⟨_, rfl, ei, c i, _, .ref ce, .ref ce, true, rfl, ErA.mono sT ea, T.er i hi, ClsV.own _, T.kce i hi, true, rfl, ?_⟩
        refine iteF ?_
        refine ⟨_, rfl, ei, c i, _, .ty "ValueError", .type "ValueError", true, rfl, ErA.mono sT ea, T.er i hi, ClsV.ty _, T.kve i hi, true, rfl, ?_⟩
        refine iteF ?_
        refine ⟨_, rfl, ei, i, _, rfl, hi, ErA.mono sT ea, fun H3 q s3 hq => ?_⟩
        refine ⟨_, rfl, p, _, rfl, .inl (SqL.of ((sT.trans s3) _ _ R1.2.1)), 13, by rw [lenV]; rfl, by decide, by decide, fun D2 hD2 => lc_range (lo := 0) (n := 13)
          (fun j H => H D2 = some (.lst ((List.range j).map fun m => V.bl (decide (m = i)))) ∧ ∀ b o, H3 b = some o → H b = some o) ⟨upd_same, same_upd hD2⟩ ?_ ?_⟩
        · rintro j H4 hj ⟨hd, s4⟩
          refine ⟨rfl, ?_⟩
          refine ⟨_, rfl, _, rfl, rfl, _, hd, by rw [List.length_map, List.length_range, sizeLine_eq]; omega, ?_⟩
          refine ⟨?_, fun b o e => ?_⟩
          · rw [upd_same, List.range_succ, List.map_append]
            have eq : decide (V.int (0 + (j : Nat)) = V.int (i : Nat)) = decide (j = i) := by
              by_cases z : j = i
              · rw [z, Int.zero_add]; simp
              · rw [decide_eq_false z]
                refine decide_eq_false fun q => z ?_
                have q2 := V.int.inj q
                omega
            rw [eq]
            rfl
          · rw [upd_ne (fun z => by rw [z, hD2] at e; cases e)]
            exact s4 b o e
        · rintro H4 ⟨hd, s4⟩
          obtain ⟨b1, b2⟩ := bls_ok i hi
          refine ⟨bls i, bls i, .lst (SqL.of (s4 _ _ hq)) (dpBls _), .lst (SqL.of hd) (dpBls _), b2, b2, _, rfl, ?_⟩
          rw [b1]
          refine iteF ?_
          exact ⟨_, _, rfl, sT.trans (s3.trans s4)⟩
      · rintro σ H2 ⟨v2, v5, rfl, s2⟩
        have R2 := R1.mono s2
        -- the fields
        refine ⟨_, rfl, x, y, z, p, es, rfl, R2, fun H3 q ls s3 F3 => ?_⟩
        refine ⟨(by show 13 ≤ sizeLine; decide), fun m nm => ?_⟩
        have s4 := same_upd (o := .lst [.int 1, .int 2, .int 2, .int 1, .int 1, .int 1, .int 2, .int 3, .int 1, .int 1, .int 2, .int 0, .int 0]) nm
        have hm : (upd H3 m (.lst [.int 1, .int 2, .int 2, .int 1, .int 1, .int 1, .int 2, .int 3, .int 1, .int 1, .int 2, .int 0, .int 0])) m = some (.lst [.int 1, .int 2, .int 2, .int 1, .int 1, .int 1, .int 2, .int 3, .int 1, .int 1, .int 2, .int 0, .int 0]) := upd_same
        generalize upd H3 m (.lst [.int 1, .int 2, .int 2, .int 1, .int 1, .int 1, .int 2, .int 3, .int 1, .int 1, .int 2, .int 0, .int 0]) = H4 at *
        have hq := s4 _ _ F3.2.1
        have hl : ∀ i l, ls[i]? = some l → H4 l = some (.lst ([x, y, z].take (cnt i))) := fun i l e => s4 _ _ (F3.2.2 i l e)
        have lq : (ls.map V.ref).length = 13 := by rw [List.length_map, F3.1]
        have hD4 := s4 _ _ (s3 _ _ (s2 _ _ hD1))
        have dq4 := DqAll.mono (s2.trans (s3.trans s4)) _ _ dq1
        have cnts : ∀ i < 13, ([.int 1, .int 2, .int 2, .int 1, .int 1, .int 1, .int 2, .int 3, .int 1, .int 1, .int 2, .int 0, .int 0] : List V)[i]? = some (.int (cnt i : Nat)) ∧ cnt i ≤ 3 := by decide
        refine ⟨q, m, _, _, rfl, SqL.of hq, SqL.of hm, for_it (n := 13) (G := fun H => SqL K H q (ls.map V.ref) ∧ SqL K H m [.int 1, .int 2, .int 2, .int 1, .int 1, .int 1, .int 2, .int 3, .int 1, .int 1, .int 2, .int 0, .int 0]) (walk_zip (by rw [lq]; rfl))
          (fun _ σ H => ∃ v7 v8 : Option V, σ = [some (.ref a), some (.ref d), v2, some (.ref D), some (.ref p), v5, none, v7, v8] ∧ Same H4 H) ⟨none, none, rfl, Same.refl _⟩
          (fun i σ H _ ⟨_, _, _, s⟩ => ⟨SqL.of (s _ _ hq), SqL.of (s _ _ hm)⟩) ?_ ?_⟩
        · rintro i v σ H H' hi ⟨v7, v8, rfl, sH⟩ ⟨Tp, l0, n0, rfl, nT, rfl, el, en⟩
          obtain ⟨c1, c2⟩ := cnts i hi
          have en : some (V.int (cnt i : Nat)) = some n0 := c1.symm.trans en
          cases en
          have el : (ls.map V.ref)[i]? = some l0 := el
          obtain ⟨l, hli, rfl⟩ : ∃ l, ls[i]? = some l ∧ l0 = .ref l := by
            rw [List.getElem?_map] at el
            cases q : ls[i]? with
            | none => rw [q] at el; cases el
            | some w => rw [q] at el; exact ⟨w, rfl, (Option.some.inj el).symm⟩
          have sT := sH.trans (same_upd (o := .tup [.ref l, .int (cnt i : Nat)]) nT)
          refine ⟨Tp, _, rfl, SqT.of upd_same, rfl, _, _, rfl, _, _, rfl, rfl, ?_⟩
          generalize upd H Tp (.tup [.ref l, .int (cnt i : Nat)]) = H5 at *
          have dqT := dq_take (cnt i) (DqAll.mono sT _ _ dq4)
          have szT : ∀ e ∈ [dx, dy, dz].take (cnt i), Sz e := fun e he => sz e (List.mem_of_mem_take he)
          obtain ⟨z1, z2, z3⟩ := sz_list szT (by rw [List.length_take]; exact Nat.le_trans (Nat.min_le_left _ _) c2)
          refine ⟨_, rfl, _, .list ([dx, dy, dz].take (cnt i)), rfl, .lst (SqL.of (sT _ _ (hl i l hli))) dqT, z1, z2, z3, ?_⟩
          refine ⟨_, rfl, _, rfl, _, rfl, D, _, rfl, SqL.of (sT _ _ hD4), fun r nr => ?_⟩
          rw [cut_take]
          have s5 := same_upd (o := .lst ([x, y, z].take (cnt i))) nr
          refine ⟨_, .list ([dx, dy, dz].take (cnt i)), rfl, .lst (SqL.of upd_same) (DqAll.mono s5 _ _ dqT), z1, z2, z3, ?_⟩
          refine ⟨rfl, _, rfl, iteNS rfl ?_⟩
          exact ⟨_, _, rfl, sT.trans s5⟩
        · rintro σ H5 ⟨v7, v8, rfl, s5⟩
          exact k H5
end
end K00

namespace K00
open PySem L2 Gd
/-! ### what the top has written -/
structure ErIn (K : PySem.W.Frag) (x : Str) (C : Addr) : Prop where
  aC : PySem.W.nsIn K mainGlobals x = some (some (.ref C))
  kC : PySem.W.keepIn K (.ref C) = true
  ga : PySem.W.findIn K (.ref C) "__getattribute__" = some (some (.builtin "BaseException.__getattribute__"))
  gg : PySem.W.findIn K (.ref C) "__getattr__" = some none
  be : PySem.W.subIn K (.ref C) (.type "BaseException") = some true
  hd : PySem.W.hasDictIn K C = true
  ci : PySem.W.isClsIn K C = true
  cc : PySem.W.findIn K (.ref C) "__class__" = some (some (.builtin "object.__class__"))
  om : PySem.W.mroIn K C (.type "object") = some true
structure IniIn (K : PySem.W.Frag) (q : Str) (st : Stmt) (C fI : Addr) (oc kV dc pm cd ct : Value) (od an : Option Addr) (sl : Array (Option Value)) (nm q' : Str) (N : Addr) (bs : List Value) (ce : Addr) (sn : List Str) (sub : List Value) (ab : Bool) (col : Option Bool) (dd : Option Addr) (m0 m1 m2 m3 m5 : Option Value) : Prop where
  xL : K.lookup C = some (excClassObj nm q' C N bs [.ref ce, .type "ValueError", .type "Exception", .type "BaseException", .type "object"] true sn sub ab col dd m0 m1 m2 m3 m5 "ValueError.__new__")
  sa : PySem.W.findIn K (.ref C) "__setattr__" = some (some (.builtin "object.__setattr__"))
  tC : PySem.W.typeIn K (.ref C) = some (.type "type")
  iC : PySem.W.findIn K (.ref C) "__init__" = some (some (.ref fI))
  tI : PySem.W.typeIn K (.ref fI) = some (.type "function")
  lI : K.lookup fI = some ⟨oc, od, .func (PySem.W.fnOf "__init__" q (defArgs st) (defBody st) (defScope st) .none kV dc pm an cd ct), sl⟩
  cI : PySem.W.codeIn K cd q = true
  kI : PySem.W.keepIn K (.ref fI) = true
theorem erc_of {K : PySem.W.Frag} {x : Str} {C : Addr} (h : ErIn K x C) (cg : PySem.W.specialIn K (.builtin "object.__class__") "__get__" = some (some (.builtin "getset_descriptor.__get__"))) (ct : PySem.W.takesIn K (.builtin "object.__class__") = some true) : ErC K C :=
  ⟨h.ga, h.gg, h.be, h.hd, h.ci, h.cc, cg, ct, h.om⟩
theorem er1_of {K : PySem.W.Frag} {h : Heap} {mg : Str → Option Value} (X : K.In h) (G : h.Ns mainGlobals mg) {x q : Str} {st : Stmt} {ps fs : List Str} {C fI : Addr} {oc kV dc pm cd ct : Value} {od an : Option Addr} {sl : Array (Option Value)} {nm q' : Str} {N : Addr} {bs : List Value} {ce : Addr} {sn : List Str} {sub : List Value} {ab : Bool} {col : Option Bool} {dd : Option Addr} {m0 m1 m2 m3 m5 : Option Value}
    (E : ErIn K x C) (I : IniIn K q st C fI oc kV dc pm cd ct od an sl nm q' N bs ce sn sub ab col dd m0 m1 m2 m3 m5) (no : ∀ g ∈ fs, PySem.W.findIn K (.ref C) g = some none)
    (b : ∀ (kV doc pm : Value) (an : Option Addr) (cdv ct : Value) (us : List Value), us.length = ps.length → bindArgs (PySem.W.fnOf "__init__" q (defArgs st) (defBody st) (defScope st) .none kV doc pm an cdv ct) ⟨us, []⟩ = pure (ps.zip us)) : Er1 K mg x q st ps fs C := by
  have F := fun_mk (st := st) I.lI I.cI I.kI
  exact ⟨PySem.W.mg_of X G E.aC, ⟨⟨nm, q', N, bs, _, sn, sub, ab, col, dd, m0, m1, m2, m3, m5, I.xL, by show PySem.HandSPX.refsVE [.type "ValueError", .type "Exception", .type "BaseException", .type "object"] = true; decide +kernel⟩, I.sa, E.be, I.tC, E.kC⟩, no, fI, _, I.iC, I.tI, F, F.binds b⟩

theorem all_mk {l : PySem.W.OpenLaw} {w : World} {K : PySem.W.Frag} {h : Heap} {mg : Str → Option Value} {fa ce C0 C1 C2 C3 C4 C5 C6 C7 C8 C9 C10 C11 C12 : Addr} (X : K.In h) (G : h.Ns mainGlobals mg) (hfa : mg "law" = some (.ref fa))
    {i0 : Addr} {oc0 kV0 dc0 pm0 cd0 ct0 : Value} {od0 an0 : Option Addr} {sl0 : Array (Option Value)} {nm0 q0 : Str} {N0 : Addr} {bs0 : List Value} {sn0 : List Str} {sub0 : List Value} {ab0 : Bool} {col0 : Option Bool} {dd0 : Option Addr} {m00 m10 m20 m30 m50 : Option Value}
    {i1 : Addr} {oc1 kV1 dc1 pm1 cd1 ct1 : Value} {od1 an1 : Option Addr} {sl1 : Array (Option Value)} {nm1 q1 : Str} {N1 : Addr} {bs1 : List Value} {sn1 : List Str} {sub1 : List Value} {ab1 : Bool} {col1 : Option Bool} {dd1 : Option Addr} {m01 m11 m21 m31 m51 : Option Value}
    {i2 : Addr} {oc2 kV2 dc2 pm2 cd2 ct2 : Value} {od2 an2 : Option Addr} {sl2 : Array (Option Value)} {nm2 q2 : Str} {N2 : Addr} {bs2 : List Value} {sn2 : List Str} {sub2 : List Value} {ab2 : Bool} {col2 : Option Bool} {dd2 : Option Addr} {m02 m12 m22 m32 m52 : Option Value}
    {i3 : Addr} {oc3 kV3 dc3 pm3 cd3 ct3 : Value} {od3 an3 : Option Addr} {sl3 : Array (Option Value)} {nm3 q3 : Str} {N3 : Addr} {bs3 : List Value} {sn3 : List Str} {sub3 : List Value} {ab3 : Bool} {col3 : Option Bool} {dd3 : Option Addr} {m03 m13 m23 m33 m53 : Option Value}
    {i4 : Addr} {oc4 kV4 dc4 pm4 cd4 ct4 : Value} {od4 an4 : Option Addr} {sl4 : Array (Option Value)} {nm4 q4 : Str} {N4 : Addr} {bs4 : List Value} {sn4 : List Str} {sub4 : List Value} {ab4 : Bool} {col4 : Option Bool} {dd4 : Option Addr} {m04 m14 m24 m34 m54 : Option Value}
    {i5 : Addr} {oc5 kV5 dc5 pm5 cd5 ct5 : Value} {od5 an5 : Option Addr} {sl5 : Array (Option Value)} {nm5 q5 : Str} {N5 : Addr} {bs5 : List Value} {sn5 : List Str} {sub5 : List Value} {ab5 : Bool} {col5 : Option Bool} {dd5 : Option Addr} {m05 m15 m25 m35 m55 : Option Value}
    {i6 : Addr} {oc6 kV6 dc6 pm6 cd6 ct6 : Value} {od6 an6 : Option Addr} {sl6 : Array (Option Value)} {nm6 q6 : Str} {N6 : Addr} {bs6 : List Value} {sn6 : List Str} {sub6 : List Value} {ab6 : Bool} {col6 : Option Bool} {dd6 : Option Addr} {m06 m16 m26 m36 m56 : Option Value}
    {i7 : Addr} {oc7 kV7 dc7 pm7 cd7 ct7 : Value} {od7 an7 : Option Addr} {sl7 : Array (Option Value)} {nm7 q7 : Str} {N7 : Addr} {bs7 : List Value} {sn7 : List Str} {sub7 : List Value} {ab7 : Bool} {col7 : Option Bool} {dd7 : Option Addr} {m07 m17 m27 m37 m57 : Option Value}
    {i8 : Addr} {oc8 kV8 dc8 pm8 cd8 ct8 : Value} {od8 an8 : Option Addr} {sl8 : Array (Option Value)} {nm8 q8 : Str} {N8 : Addr} {bs8 : List Value} {sn8 : List Str} {sub8 : List Value} {ab8 : Bool} {col8 : Option Bool} {dd8 : Option Addr} {m08 m18 m28 m38 m58 : Option Value}
    {i9 : Addr} {oc9 kV9 dc9 pm9 cd9 ct9 : Value} {od9 an9 : Option Addr} {sl9 : Array (Option Value)} {nm9 q9 : Str} {N9 : Addr} {bs9 : List Value} {sn9 : List Str} {sub9 : List Value} {ab9 : Bool} {col9 : Option Bool} {dd9 : Option Addr} {m09 m19 m29 m39 m59 : Option Value}
    {i10 : Addr} {oc10 kV10 dc10 pm10 cd10 ct10 : Value} {od10 an10 : Option Addr} {sl10 : Array (Option Value)} {nm10 q10 : Str} {N10 : Addr} {bs10 : List Value} {sn10 : List Str} {sub10 : List Value} {ab10 : Bool} {col10 : Option Bool} {dd10 : Option Addr} {m010 m110 m210 m310 m510 : Option Value}
    {g0 : Addr} {ood0 oan0 : Option Addr} {osl0 : Array (Option Value)} {ooc0 okV0 odc0 opm0 ocd0 oct0 : Value}
    {g1 : Addr} {ood1 oan1 : Option Addr} {osl1 : Array (Option Value)} {ooc1 okV1 odc1 opm1 ocd1 oct1 : Value}
    {g2 : Addr} {ood2 oan2 : Option Addr} {osl2 : Array (Option Value)} {ooc2 okV2 odc2 opm2 ocd2 oct2 : Value}
    {g3 : Addr} {ood3 oan3 : Option Addr} {osl3 : Array (Option Value)} {ooc3 okV3 odc3 opm3 ocd3 oct3 : Value}
    {g4 : Addr} {ood4 oan4 : Option Addr} {osl4 : Array (Option Value)} {ooc4 okV4 odc4 opm4 ocd4 oct4 : Value}
    {g5 : Addr} {ood5 oan5 : Option Addr} {osl5 : Array (Option Value)} {ooc5 okV5 odc5 opm5 ocd5 oct5 : Value}
    {g6 : Addr} {ood6 oan6 : Option Addr} {osl6 : Array (Option Value)} {ooc6 okV6 odc6 opm6 ocd6 oct6 : Value}
    {g7 : Addr} {ood7 oan7 : Option Addr} {osl7 : Array (Option Value)} {ooc7 okV7 odc7 opm7 ocd7 oct7 : Value}
    {g8 : Addr} {ood8 oan8 : Option Addr} {osl8 : Array (Option Value)} {ooc8 okV8 odc8 opm8 ocd8 oct8 : Value}
    (e0 : ErIn K "BadText" C0)
    (e1 : ErIn K "BadLine" C1)
    (e2 : ErIn K "BadNumber" C2)
    (e3 : ErIn K "BadRow" C3)
    (e4 : ErIn K "BadName" C4)
    (e5 : ErIn K "Unlike" C5)
    (e6 : ErIn K "TooMany" C6)
    (e7 : ErIn K "TooLarge" C7)
    (e8 : ErIn K "NoName" C8)
    (e9 : ErIn K "TakenName" C9)
    (e10 : ErIn K "NotKept" C10)
    (e11 : ErIn K "NothingToUndo" C11)
    (e12 : ErIn K "NothingToRedo" C12)
    (j0 : IniIn K "BadText.__init__" sBadText C0 i0 oc0 kV0 dc0 pm0 cd0 ct0 od0 an0 sl0 nm0 q0 N0 bs0 ce sn0 sub0 ab0 col0 dd0 m00 m10 m20 m30 m50)
    (n0 : PySem.W.findIn K (.ref C0) "column" = some none)
    (j1 : IniIn K "BadLine.__init__" sBadLine C1 i1 oc1 kV1 dc1 pm1 cd1 ct1 od1 an1 sl1 nm1 q1 N1 bs1 ce sn1 sub1 ab1 col1 dd1 m01 m11 m21 m31 m51)
    (n1 : PySem.W.findIn K (.ref C1) "line" = some none ∧ PySem.W.findIn K (.ref C1) "column" = some none)
    (j2 : IniIn K "BadNumber.__init__" sBadNumber C2 i2 oc2 kV2 dc2 pm2 cd2 ct2 od2 an2 sl2 nm2 q2 N2 bs2 ce sn2 sub2 ab2 col2 dd2 m02 m12 m22 m32 m52)
    (n2 : PySem.W.findIn K (.ref C2) "what" = some none ∧ PySem.W.findIn K (.ref C2) "number" = some none)
    (j3 : IniIn K "BadRow.__init__" sBadRow C3 i3 oc3 kV3 dc3 pm3 cd3 ct3 od3 an3 sl3 nm3 q3 N3 bs3 ce sn3 sub3 ab3 col3 dd3 m03 m13 m23 m33 m53)
    (n3 : PySem.W.findIn K (.ref C3) "row" = some none)
    (j4 : IniIn K "BadName.__init__" sBadName C4 i4 oc4 kV4 dc4 pm4 cd4 ct4 od4 an4 sl4 nm4 q4 N4 bs4 ce sn4 sub4 ab4 col4 dd4 m04 m14 m24 m34 m54)
    (n4 : PySem.W.findIn K (.ref C4) "name" = some none)
    (j5 : IniIn K "Unlike.__init__" sUnlike C5 i5 oc5 kV5 dc5 pm5 cd5 ct5 od5 an5 sl5 nm5 q5 N5 bs5 ce sn5 sub5 ab5 col5 dd5 m05 m15 m25 m35 m55)
    (n5 : PySem.W.findIn K (.ref C5) "what" = some none)
    (j6 : IniIn K "TooMany.__init__" sTooMany C6 i6 oc6 kV6 dc6 pm6 cd6 ct6 od6 an6 sl6 nm6 q6 N6 bs6 ce sn6 sub6 ab6 col6 dd6 m06 m16 m26 m36 m56)
    (n6 : PySem.W.findIn K (.ref C6) "what" = some none ∧ PySem.W.findIn K (.ref C6) "limit" = some none)
    (j7 : IniIn K "TooLarge.__init__" sTooLarge C7 i7 oc7 kV7 dc7 pm7 cd7 ct7 od7 an7 sl7 nm7 q7 N7 bs7 ce sn7 sub7 ab7 col7 dd7 m07 m17 m27 m37 m57)
    (n7 : PySem.W.findIn K (.ref C7) "what" = some none ∧ PySem.W.findIn K (.ref C7) "number" = some none ∧ PySem.W.findIn K (.ref C7) "limit" = some none)
    (j8 : IniIn K "NoName.__init__" sNoName C8 i8 oc8 kV8 dc8 pm8 cd8 ct8 od8 an8 sl8 nm8 q8 N8 bs8 ce sn8 sub8 ab8 col8 dd8 m08 m18 m28 m38 m58)
    (n8 : PySem.W.findIn K (.ref C8) "name" = some none)
    (j9 : IniIn K "TakenName.__init__" sTakenName C9 i9 oc9 kV9 dc9 pm9 cd9 ct9 od9 an9 sl9 nm9 q9 N9 bs9 ce sn9 sub9 ab9 col9 dd9 m09 m19 m29 m39 m59)
    (n9 : PySem.W.findIn K (.ref C9) "name" = some none)
    (j10 : IniIn K "NotKept.__init__" sNotKept C10 i10 oc10 kV10 dc10 pm10 cd10 ct10 od10 an10 sl10 nm10 q10 N10 bs10 ce sn10 sub10 ab10 col10 dd10 m010 m110 m210 m310 m510)
    (n10 : PySem.W.findIn K (.ref C10) "promise" = some none ∧ PySem.W.findIn K (.ref C10) "witness" = some none)
    (x11 : PySem.W.excIn K C11 [.type "ValueError", .type "Exception", .type "BaseException", .type "object"] "ValueError.__new__" = true)
    (x12 : PySem.W.excIn K C12 [.type "ValueError", .type "Exception", .type "BaseException", .type "object"] "ValueError.__new__" = true)
    (ace : PySem.W.nsIn K mainGlobals "CountError" = some (some (.ref ce)))
    (cg : PySem.W.specialIn K (.builtin "object.__class__") "__get__" = some (some (.builtin "getset_descriptor.__get__"))) (ct : PySem.W.takesIn K (.builtin "object.__class__") = some true)
    (r0 : PySem.W.kitOne K (.ref C0) (.ref C0) = some true ∧ PySem.W.kitOne K (.ref C0) (.ref C1) = some false ∧ PySem.W.kitOne K (.ref C0) (.ref C2) = some false ∧ PySem.W.kitOne K (.ref C0) (.ref C3) = some false ∧ PySem.W.kitOne K (.ref C0) (.ref C4) = some false ∧ PySem.W.kitOne K (.ref C0) (.ref C5) = some false ∧ PySem.W.kitOne K (.ref C0) (.ref C6) = some false ∧ PySem.W.kitOne K (.ref C0) (.ref C7) = some false ∧ PySem.W.kitOne K (.ref C0) (.ref C8) = some false ∧ PySem.W.kitOne K (.ref C0) (.ref C9) = some false ∧ PySem.W.kitOne K (.ref C0) (.ref C10) = some false ∧ PySem.W.kitOne K (.ref C0) (.ref C11) = some false ∧ PySem.W.kitOne K (.ref C0) (.ref C12) = some false ∧ PySem.W.kitOne K (.ref C0) (.ref ce) = some true ∧ PySem.W.kitOne K (.ref C0) (.type "ValueError") = some true)
    (r1 : PySem.W.kitOne K (.ref C1) (.ref C0) = some false ∧ PySem.W.kitOne K (.ref C1) (.ref C1) = some true ∧ PySem.W.kitOne K (.ref C1) (.ref C2) = some false ∧ PySem.W.kitOne K (.ref C1) (.ref C3) = some false ∧ PySem.W.kitOne K (.ref C1) (.ref C4) = some false ∧ PySem.W.kitOne K (.ref C1) (.ref C5) = some false ∧ PySem.W.kitOne K (.ref C1) (.ref C6) = some false ∧ PySem.W.kitOne K (.ref C1) (.ref C7) = some false ∧ PySem.W.kitOne K (.ref C1) (.ref C8) = some false ∧ PySem.W.kitOne K (.ref C1) (.ref C9) = some false ∧ PySem.W.kitOne K (.ref C1) (.ref C10) = some false ∧ PySem.W.kitOne K (.ref C1) (.ref C11) = some false ∧ PySem.W.kitOne K (.ref C1) (.ref C12) = some false ∧ PySem.W.kitOne K (.ref C1) (.ref ce) = some true ∧ PySem.W.kitOne K (.ref C1) (.type "ValueError") = some true)
    (r2 : PySem.W.kitOne K (.ref C2) (.ref C0) = some false ∧ PySem.W.kitOne K (.ref C2) (.ref C1) = some false ∧ PySem.W.kitOne K (.ref C2) (.ref C2) = some true ∧ PySem.W.kitOne K (.ref C2) (.ref C3) = some false ∧ PySem.W.kitOne K (.ref C2) (.ref C4) = some false ∧ PySem.W.kitOne K (.ref C2) (.ref C5) = some false ∧ PySem.W.kitOne K (.ref C2) (.ref C6) = some false ∧ PySem.W.kitOne K (.ref C2) (.ref C7) = some false ∧ PySem.W.kitOne K (.ref C2) (.ref C8) = some false ∧ PySem.W.kitOne K (.ref C2) (.ref C9) = some false ∧ PySem.W.kitOne K (.ref C2) (.ref C10) = some false ∧ PySem.W.kitOne K (.ref C2) (.ref C11) = some false ∧ PySem.W.kitOne K (.ref C2) (.ref C12) = some false ∧ PySem.W.kitOne K (.ref C2) (.ref ce) = some true ∧ PySem.W.kitOne K (.ref C2) (.type "ValueError") = some true)
    (r3 : PySem.W.kitOne K (.ref C3) (.ref C0) = some false ∧ PySem.W.kitOne K (.ref C3) (.ref C1) = some false ∧ PySem.W.kitOne K (.ref C3) (.ref C2) = some false ∧ PySem.W.kitOne K (.ref C3) (.ref C3) = some true ∧ PySem.W.kitOne K (.ref C3) (.ref C4) = some false ∧ PySem.W.kitOne K (.ref C3) (.ref C5) = some false ∧ PySem.W.kitOne K (.ref C3) (.ref C6) = some false ∧ PySem.W.kitOne K (.ref C3) (.ref C7) = some false ∧ PySem.W.kitOne K (.ref C3) (.ref C8) = some false ∧ PySem.W.kitOne K (.ref C3) (.ref C9) = some false ∧ PySem.W.kitOne K (.ref C3) (.ref C10) = some false ∧ PySem.W.kitOne K (.ref C3) (.ref C11) = some false ∧ PySem.W.kitOne K (.ref C3) (.ref C12) = some false ∧ PySem.W.kitOne K (.ref C3) (.ref ce) = some true ∧ PySem.W.kitOne K (.ref C3) (.type "ValueError") = some true)
    (r4 : PySem.W.kitOne K (.ref C4) (.ref C0) = some false ∧ PySem.W.kitOne K (.ref C4) (.ref C1) = some false ∧ PySem.W.kitOne K (.ref C4) (.ref C2) = some false ∧ PySem.W.kitOne K (.ref C4) (.ref C3) = some false ∧ PySem.W.kitOne K (.ref C4) (.ref C4) = some true ∧ PySem.W.kitOne K (.ref C4) (.ref C5) = some false ∧ PySem.W.kitOne K (.ref C4) (.ref C6) = some false ∧ PySem.W.kitOne K (.ref C4) (.ref C7) = some false ∧ PySem.W.kitOne K (.ref C4) (.ref C8) = some false ∧ PySem.W.kitOne K (.ref C4) (.ref C9) = some false ∧ PySem.W.kitOne K (.ref C4) (.ref C10) = some false ∧ PySem.W.kitOne K (.ref C4) (.ref C11) = some false ∧ PySem.W.kitOne K (.ref C4) (.ref C12) = some false ∧ PySem.W.kitOne K (.ref C4) (.ref ce) = some true ∧ PySem.W.kitOne K (.ref C4) (.type "ValueError") = some true)
    (r5 : PySem.W.kitOne K (.ref C5) (.ref C0) = some false ∧ PySem.W.kitOne K (.ref C5) (.ref C1) = some false ∧ PySem.W.kitOne K (.ref C5) (.ref C2) = some false ∧ PySem.W.kitOne K (.ref C5) (.ref C3) = some false ∧ PySem.W.kitOne K (.ref C5) (.ref C4) = some false ∧ PySem.W.kitOne K (.ref C5) (.ref C5) = some true ∧ PySem.W.kitOne K (.ref C5) (.ref C6) = some false ∧ PySem.W.kitOne K (.ref C5) (.ref C7) = some false ∧ PySem.W.kitOne K (.ref C5) (.ref C8) = some false ∧ PySem.W.kitOne K (.ref C5) (.ref C9) = some false ∧ PySem.W.kitOne K (.ref C5) (.ref C10) = some false ∧ PySem.W.kitOne K (.ref C5) (.ref C11) = some false ∧ PySem.W.kitOne K (.ref C5) (.ref C12) = some false ∧ PySem.W.kitOne K (.ref C5) (.ref ce) = some true ∧ PySem.W.kitOne K (.ref C5) (.type "ValueError") = some true)
    (r6 : PySem.W.kitOne K (.ref C6) (.ref C0) = some false ∧ PySem.W.kitOne K (.ref C6) (.ref C1) = some false ∧ PySem.W.kitOne K (.ref C6) (.ref C2) = some false ∧ PySem.W.kitOne K (.ref C6) (.ref C3) = some false ∧ PySem.W.kitOne K (.ref C6) (.ref C4) = some false ∧ PySem.W.kitOne K (.ref C6) (.ref C5) = some false ∧ PySem.W.kitOne K (.ref C6) (.ref C6) = some true ∧ PySem.W.kitOne K (.ref C6) (.ref C7) = some false ∧ PySem.W.kitOne K (.ref C6) (.ref C8) = some false ∧ PySem.W.kitOne K (.ref C6) (.ref C9) = some false ∧ PySem.W.kitOne K (.ref C6) (.ref C10) = some false ∧ PySem.W.kitOne K (.ref C6) (.ref C11) = some false ∧ PySem.W.kitOne K (.ref C6) (.ref C12) = some false ∧ PySem.W.kitOne K (.ref C6) (.ref ce) = some true ∧ PySem.W.kitOne K (.ref C6) (.type "ValueError") = some true)
    (r7 : PySem.W.kitOne K (.ref C7) (.ref C0) = some false ∧ PySem.W.kitOne K (.ref C7) (.ref C1) = some false ∧ PySem.W.kitOne K (.ref C7) (.ref C2) = some false ∧ PySem.W.kitOne K (.ref C7) (.ref C3) = some false ∧ PySem.W.kitOne K (.ref C7) (.ref C4) = some false ∧ PySem.W.kitOne K (.ref C7) (.ref C5) = some false ∧ PySem.W.kitOne K (.ref C7) (.ref C6) = some false ∧ PySem.W.kitOne K (.ref C7) (.ref C7) = some true ∧ PySem.W.kitOne K (.ref C7) (.ref C8) = some false ∧ PySem.W.kitOne K (.ref C7) (.ref C9) = some false ∧ PySem.W.kitOne K (.ref C7) (.ref C10) = some false ∧ PySem.W.kitOne K (.ref C7) (.ref C11) = some false ∧ PySem.W.kitOne K (.ref C7) (.ref C12) = some false ∧ PySem.W.kitOne K (.ref C7) (.ref ce) = some true ∧ PySem.W.kitOne K (.ref C7) (.type "ValueError") = some true)
    (r8 : PySem.W.kitOne K (.ref C8) (.ref C0) = some false ∧ PySem.W.kitOne K (.ref C8) (.ref C1) = some false ∧ PySem.W.kitOne K (.ref C8) (.ref C2) = some false ∧ PySem.W.kitOne K (.ref C8) (.ref C3) = some false ∧ PySem.W.kitOne K (.ref C8) (.ref C4) = some false ∧ PySem.W.kitOne K (.ref C8) (.ref C5) = some false ∧ PySem.W.kitOne K (.ref C8) (.ref C6) = some false ∧ PySem.W.kitOne K (.ref C8) (.ref C7) = some false ∧ PySem.W.kitOne K (.ref C8) (.ref C8) = some true ∧ PySem.W.kitOne K (.ref C8) (.ref C9) = some false ∧ PySem.W.kitOne K (.ref C8) (.ref C10) = some false ∧ PySem.W.kitOne K (.ref C8) (.ref C11) = some false ∧ PySem.W.kitOne K (.ref C8) (.ref C12) = some false ∧ PySem.W.kitOne K (.ref C8) (.ref ce) = some true ∧ PySem.W.kitOne K (.ref C8) (.type "ValueError") = some true)
    (r9 : PySem.W.kitOne K (.ref C9) (.ref C0) = some false ∧ PySem.W.kitOne K (.ref C9) (.ref C1) = some false ∧ PySem.W.kitOne K (.ref C9) (.ref C2) = some false ∧ PySem.W.kitOne K (.ref C9) (.ref C3) = some false ∧ PySem.W.kitOne K (.ref C9) (.ref C4) = some false ∧ PySem.W.kitOne K (.ref C9) (.ref C5) = some false ∧ PySem.W.kitOne K (.ref C9) (.ref C6) = some false ∧ PySem.W.kitOne K (.ref C9) (.ref C7) = some false ∧ PySem.W.kitOne K (.ref C9) (.ref C8) = some false ∧ PySem.W.kitOne K (.ref C9) (.ref C9) = some true ∧ PySem.W.kitOne K (.ref C9) (.ref C10) = some false ∧ PySem.W.kitOne K (.ref C9) (.ref C11) = some false ∧ PySem.W.kitOne K (.ref C9) (.ref C12) = some false ∧ PySem.W.kitOne K (.ref C9) (.ref ce) = some true ∧ PySem.W.kitOne K (.ref C9) (.type "ValueError") = some true)
    (r10 : PySem.W.kitOne K (.ref C10) (.ref C0) = some false ∧ PySem.W.kitOne K (.ref C10) (.ref C1) = some false ∧ PySem.W.kitOne K (.ref C10) (.ref C2) = some false ∧ PySem.W.kitOne K (.ref C10) (.ref C3) = some false ∧ PySem.W.kitOne K (.ref C10) (.ref C4) = some false ∧ PySem.W.kitOne K (.ref C10) (.ref C5) = some false ∧ PySem.W.kitOne K (.ref C10) (.ref C6) = some false ∧ PySem.W.kitOne K (.ref C10) (.ref C7) = some false ∧ PySem.W.kitOne K (.ref C10) (.ref C8) = some false ∧ PySem.W.kitOne K (.ref C10) (.ref C9) = some false ∧ PySem.W.kitOne K (.ref C10) (.ref C10) = some true ∧ PySem.W.kitOne K (.ref C10) (.ref C11) = some false ∧ PySem.W.kitOne K (.ref C10) (.ref C12) = some false ∧ PySem.W.kitOne K (.ref C10) (.ref ce) = some true ∧ PySem.W.kitOne K (.ref C10) (.type "ValueError") = some true)
    (r11 : PySem.W.kitOne K (.ref C11) (.ref C0) = some false ∧ PySem.W.kitOne K (.ref C11) (.ref C1) = some false ∧ PySem.W.kitOne K (.ref C11) (.ref C2) = some false ∧ PySem.W.kitOne K (.ref C11) (.ref C3) = some false ∧ PySem.W.kitOne K (.ref C11) (.ref C4) = some false ∧ PySem.W.kitOne K (.ref C11) (.ref C5) = some false ∧ PySem.W.kitOne K (.ref C11) (.ref C6) = some false ∧ PySem.W.kitOne K (.ref C11) (.ref C7) = some false ∧ PySem.W.kitOne K (.ref C11) (.ref C8) = some false ∧ PySem.W.kitOne K (.ref C11) (.ref C9) = some false ∧ PySem.W.kitOne K (.ref C11) (.ref C10) = some false ∧ PySem.W.kitOne K (.ref C11) (.ref C11) = some true ∧ PySem.W.kitOne K (.ref C11) (.ref C12) = some false ∧ PySem.W.kitOne K (.ref C11) (.ref ce) = some true ∧ PySem.W.kitOne K (.ref C11) (.type "ValueError") = some true)
    (r12 : PySem.W.kitOne K (.ref C12) (.ref C0) = some false ∧ PySem.W.kitOne K (.ref C12) (.ref C1) = some false ∧ PySem.W.kitOne K (.ref C12) (.ref C2) = some false ∧ PySem.W.kitOne K (.ref C12) (.ref C3) = some false ∧ PySem.W.kitOne K (.ref C12) (.ref C4) = some false ∧ PySem.W.kitOne K (.ref C12) (.ref C5) = some false ∧ PySem.W.kitOne K (.ref C12) (.ref C6) = some false ∧ PySem.W.kitOne K (.ref C12) (.ref C7) = some false ∧ PySem.W.kitOne K (.ref C12) (.ref C8) = some false ∧ PySem.W.kitOne K (.ref C12) (.ref C9) = some false ∧ PySem.W.kitOne K (.ref C12) (.ref C10) = some false ∧ PySem.W.kitOne K (.ref C12) (.ref C11) = some false ∧ PySem.W.kitOne K (.ref C12) (.ref C12) = some true ∧ PySem.W.kitOne K (.ref C12) (.ref ce) = some true ∧ PySem.W.kitOne K (.ref C12) (.type "ValueError") = some true)
    (a0 : PySem.W.nsIn K mainGlobals "_law_pen" = some (some (.ref g0))) (l0 : K.lookup g0 = some ⟨ooc0, ood0, .func (PySem.W.fnOf "_law_pen" "_law_pen" (defArgs sPen) (defBody sPen) (defScope sPen) .none okV0 odc0 opm0 oan0 ocd0 oct0), osl0⟩) (c0 : PySem.W.codeIn K ocd0 "_law_pen" = true) (k0 : PySem.W.keepIn K (.ref g0) = true)
    (a1 : PySem.W.nsIn K mainGlobals "_law_draw" = some (some (.ref g1))) (l1 : K.lookup g1 = some ⟨ooc1, ood1, .func (PySem.W.fnOf "_law_draw" "_law_draw" (defArgs sDraw) (defBody sDraw) (defScope sDraw) .none okV1 odc1 opm1 oan1 ocd1 oct1), osl1⟩) (c1 : PySem.W.codeIn K ocd1 "_law_draw" = true) (k1 : PySem.W.keepIn K (.ref g1) = true)
    (a2 : PySem.W.nsIn K mainGlobals "_law_pick" = some (some (.ref g2))) (l2 : K.lookup g2 = some ⟨ooc2, ood2, .func (PySem.W.fnOf "_law_pick" "_law_pick" (defArgs sPick) (defBody sPick) (defScope sPick) .none okV2 odc2 opm2 oan2 ocd2 oct2), osl2⟩) (c2 : PySem.W.codeIn K ocd2 "_law_pick" = true) (k2 : PySem.W.keepIn K (.ref g2) = true)
    (a3 : PySem.W.nsIn K mainGlobals "_law_large" = some (some (.ref g3))) (l3 : K.lookup g3 = some ⟨ooc3, ood3, .func (PySem.W.fnOf "_law_large" "_law_large" (defArgs sLarge) (defBody sLarge) (defScope sLarge) .none okV3 odc3 opm3 oan3 ocd3 oct3), osl3⟩) (c3 : PySem.W.codeIn K ocd3 "_law_large" = true) (k3 : PySem.W.keepIn K (.ref g3) = true)
    (a4 : PySem.W.nsIn K mainGlobals "_law_kinds" = some (some (.ref g4))) (l4 : K.lookup g4 = some ⟨ooc4, ood4, .func (PySem.W.fnOf "_law_kinds" "_law_kinds" (defArgs sKinds) (defBody sKinds) (defScope sKinds) .none okV4 odc4 opm4 oan4 ocd4 oct4), osl4⟩) (c4 : PySem.W.codeIn K ocd4 "_law_kinds" = true) (k4 : PySem.W.keepIn K (.ref g4) = true)
    (a5 : PySem.W.nsIn K mainGlobals "_law_made" = some (some (.ref g5))) (l5 : K.lookup g5 = some ⟨ooc5, ood5, .func (PySem.W.fnOf "_law_made" "_law_made" (defArgs sMade) (defBody sMade) (defScope sMade) .none okV5 odc5 opm5 oan5 ocd5 oct5), osl5⟩) (c5 : PySem.W.codeIn K ocd5 "_law_made" = true) (k5 : PySem.W.keepIn K (.ref g5) = true)
    (a6 : PySem.W.nsIn K mainGlobals "_law_fields" = some (some (.ref g6))) (l6 : K.lookup g6 = some ⟨ooc6, ood6, .func (PySem.W.fnOf "_law_fields" "_law_fields" (defArgs sFields) (defBody sFields) (defScope sFields) .none okV6 odc6 opm6 oan6 ocd6 oct6), osl6⟩) (c6 : PySem.W.codeIn K ocd6 "_law_fields" = true) (k6 : PySem.W.keepIn K (.ref g6) = true)
    (a7 : PySem.W.nsIn K mainGlobals "_law_value" = some (some (.ref g7))) (l7 : K.lookup g7 = some ⟨ooc7, ood7, .func (PySem.W.fnOf "_law_value" "_law_value" (defArgs sValue) (defBody sValue) (defScope sValue) .none okV7 odc7 opm7 oan7 ocd7 oct7), osl7⟩) (c7 : PySem.W.codeIn K ocd7 "_law_value" = true) (k7 : PySem.W.keepIn K (.ref g7) = true)
    (a8 : PySem.W.nsIn K mainGlobals "law" = some (some (.ref g8))) (l8 : K.lookup g8 = some ⟨ooc8, ood8, .func (PySem.W.fnOf "law" "law" (defArgs sLaw) (defBody sLaw) (defScope sLaw) .none okV8 odc8 opm8 oan8 ocd8 oct8), osl8⟩) (c8 : PySem.W.codeIn K ocd8 "law" = true) (k8 : PySem.W.keepIn K (.ref g8) = true)
    (z_int : PySem.W.nsIn K mainGlobals "int" = some none)
    (z_len : PySem.W.nsIn K mainGlobals "len" = some none)
    (z_list : PySem.W.nsIn K mainGlobals "list" = some none)
    (z_range : PySem.W.nsIn K mainGlobals "range" = some none)
    (z_str : PySem.W.nsIn K mainGlobals "str" = some none)
    (z_isinstance : PySem.W.nsIn K mainGlobals "isinstance" = some none)
    (z_repr : PySem.W.nsIn K mainGlobals "repr" = some none)
    (z_enumerate : PySem.W.nsIn K mainGlobals "enumerate" = some none)
    (z_zip : PySem.W.nsIn K mainGlobals "zip" = some none)
    (z_ValueError : PySem.W.nsIn K mainGlobals "ValueError" = some none) :
    ∃ fd : FuncData, (∀ (s : Shared) (v : Value), BindsTo s fd ⟨[v], []⟩ [("_law_script", v)]) ∧ ∀ base : Heap, K.In base → base.Ns mainGlobals mg → FnG l.prog w K mg base CX0 5 fa fd ["_law_script"] (spLaw K) := by
  have e := hfa.symm.trans (PySem.W.mg_of X G a8)
  cases e
  have T0 : Er1 K mg "BadText" "BadText.__init__" sBadText ["self", "column"] ["column"] C0 := er1_of X G e0 j0 (by
    intro g hg
    rcases List.mem_cons.mp hg with rfl | hg
    · exact n0
    · exact (List.not_mem_nil hg).elim) fun _ _ _ _ _ _ us hl => match us, hl with | [_, _], _ => rfl
  have T1 : Er1 K mg "BadLine" "BadLine.__init__" sBadLine ["self", "line", "column"] ["line", "column"] C1 := er1_of X G e1 j1 (by
    intro g hg
    rcases List.mem_cons.mp hg with rfl | hg
    · exact n1.1
    rcases List.mem_cons.mp hg with rfl | hg
    · exact n1.2
    · exact (List.not_mem_nil hg).elim) fun _ _ _ _ _ _ us hl => match us, hl with | [_, _, _], _ => rfl
  have T2 : Er1 K mg "BadNumber" "BadNumber.__init__" sBadNumber ["self", "what", "number"] ["what", "number"] C2 := er1_of X G e2 j2 (by
    intro g hg
    rcases List.mem_cons.mp hg with rfl | hg
    · exact n2.1
    rcases List.mem_cons.mp hg with rfl | hg
    · exact n2.2
    · exact (List.not_mem_nil hg).elim) fun _ _ _ _ _ _ us hl => match us, hl with | [_, _, _], _ => rfl
  have T3 : Er1 K mg "BadRow" "BadRow.__init__" sBadRow ["self", "row"] ["row"] C3 := er1_of X G e3 j3 (by
    intro g hg
    rcases List.mem_cons.mp hg with rfl | hg
    · exact n3
    · exact (List.not_mem_nil hg).elim) fun _ _ _ _ _ _ us hl => match us, hl with | [_, _], _ => rfl
  have T4 : Er1 K mg "BadName" "BadName.__init__" sBadName ["self", "name"] ["name"] C4 := er1_of X G e4 j4 (by
    intro g hg
    rcases List.mem_cons.mp hg with rfl | hg
    · exact n4
    · exact (List.not_mem_nil hg).elim) fun _ _ _ _ _ _ us hl => match us, hl with | [_, _], _ => rfl
  have T5 : Er1 K mg "Unlike" "Unlike.__init__" sUnlike ["self", "what"] ["what"] C5 := er1_of X G e5 j5 (by
    intro g hg
    rcases List.mem_cons.mp hg with rfl | hg
    · exact n5
    · exact (List.not_mem_nil hg).elim) fun _ _ _ _ _ _ us hl => match us, hl with | [_, _], _ => rfl
  have T6 : Er1 K mg "TooMany" "TooMany.__init__" sTooMany ["self", "what", "limit"] ["what", "limit"] C6 := er1_of X G e6 j6 (by
    intro g hg
    rcases List.mem_cons.mp hg with rfl | hg
    · exact n6.1
    rcases List.mem_cons.mp hg with rfl | hg
    · exact n6.2
    · exact (List.not_mem_nil hg).elim) fun _ _ _ _ _ _ us hl => match us, hl with | [_, _, _], _ => rfl
  have T7 : Er1 K mg "TooLarge" "TooLarge.__init__" sTooLarge ["self", "what", "number", "limit"] ["what", "number", "limit"] C7 := er1_of X G e7 j7 (by
    intro g hg
    rcases List.mem_cons.mp hg with rfl | hg
    · exact n7.1
    rcases List.mem_cons.mp hg with rfl | hg
    · exact n7.2.1
    rcases List.mem_cons.mp hg with rfl | hg
    · exact n7.2.2
    · exact (List.not_mem_nil hg).elim) fun _ _ _ _ _ _ us hl => match us, hl with | [_, _, _, _], _ => rfl
  have T8 : Er1 K mg "NoName" "NoName.__init__" sNoName ["self", "name"] ["name"] C8 := er1_of X G e8 j8 (by
    intro g hg
    rcases List.mem_cons.mp hg with rfl | hg
    · exact n8
    · exact (List.not_mem_nil hg).elim) fun _ _ _ _ _ _ us hl => match us, hl with | [_, _], _ => rfl
  have T9 : Er1 K mg "TakenName" "TakenName.__init__" sTakenName ["self", "name"] ["name"] C9 := er1_of X G e9 j9 (by
    intro g hg
    rcases List.mem_cons.mp hg with rfl | hg
    · exact n9
    · exact (List.not_mem_nil hg).elim) fun _ _ _ _ _ _ us hl => match us, hl with | [_, _], _ => rfl
  have T10 : Er1 K mg "NotKept" "NotKept.__init__" sNotKept ["self", "promise", "witness"] ["promise", "witness"] C10 := er1_of X G e10 j10 (by
    intro g hg
    rcases List.mem_cons.mp hg with rfl | hg
    · exact n10.1
    rcases List.mem_cons.mp hg with rfl | hg
    · exact n10.2
    · exact (List.not_mem_nil hg).elim) fun _ _ _ _ _ _ us hl => match us, hl with | [_, _, _], _ => rfl
  have TT : Txt K mg (fun i => match i with | 0 => C0 | 1 => C1 | 2 => C2 | 3 => C3 | 4 => C4 | 5 => C5 | 6 => C6 | 7 => C7 | 8 => C8 | 9 => C9 | 10 => C10 | 11 => C11 | _ => C12) ce := {
    e0 := T0
    e1 := T1
    e2 := T2
    e3 := T3
    e4 := T4
    e5 := T5
    e6 := T6
    e7 := T7
    e8 := T8
    e9 := T9
    e10 := T10
    e11 := ⟨PySem.W.mg_of X G e11.aC, x11, e11.kC⟩
    e12 := ⟨PySem.W.mg_of X G e12.aC, x12, e12.kC⟩
    gce := PySem.W.mg_of X G ace
    er := fun i hi => match i, hi with | 0, _ => erc_of e0 cg ct | 1, _ => erc_of e1 cg ct | 2, _ => erc_of e2 cg ct | 3, _ => erc_of e3 cg ct | 4, _ => erc_of e4 cg ct | 5, _ => erc_of e5 cg ct | 6, _ => erc_of e6 cg ct | 7, _ => erc_of e7 cg ct | 8, _ => erc_of e8 cg ct | 9, _ => erc_of e9 cg ct | 10, _ => erc_of e10 cg ct | 11, _ => erc_of e11 cg ct | 12, _ => erc_of e12 cg ct
    kit := fun i hi j hj => match i, hi with
      | 0, _ => (match j, hj with | 0, _ => r0.1 | 1, _ => r0.2.1 | 2, _ => r0.2.2.1 | 3, _ => r0.2.2.2.1 | 4, _ => r0.2.2.2.2.1 | 5, _ => r0.2.2.2.2.2.1 | 6, _ => r0.2.2.2.2.2.2.1 | 7, _ => r0.2.2.2.2.2.2.2.1 | 8, _ => r0.2.2.2.2.2.2.2.2.1 | 9, _ => r0.2.2.2.2.2.2.2.2.2.1 | 10, _ => r0.2.2.2.2.2.2.2.2.2.2.1 | 11, _ => r0.2.2.2.2.2.2.2.2.2.2.2.1 | 12, _ => r0.2.2.2.2.2.2.2.2.2.2.2.2.1)
      | 1, _ => (match j, hj with | 0, _ => r1.1 | 1, _ => r1.2.1 | 2, _ => r1.2.2.1 | 3, _ => r1.2.2.2.1 | 4, _ => r1.2.2.2.2.1 | 5, _ => r1.2.2.2.2.2.1 | 6, _ => r1.2.2.2.2.2.2.1 | 7, _ => r1.2.2.2.2.2.2.2.1 | 8, _ => r1.2.2.2.2.2.2.2.2.1 | 9, _ => r1.2.2.2.2.2.2.2.2.2.1 | 10, _ => r1.2.2.2.2.2.2.2.2.2.2.1 | 11, _ => r1.2.2.2.2.2.2.2.2.2.2.2.1 | 12, _ => r1.2.2.2.2.2.2.2.2.2.2.2.2.1)
      | 2, _ => (match j, hj with | 0, _ => r2.1 | 1, _ => r2.2.1 | 2, _ => r2.2.2.1 | 3, _ => r2.2.2.2.1 | 4, _ => r2.2.2.2.2.1 | 5, _ => r2.2.2.2.2.2.1 | 6, _ => r2.2.2.2.2.2.2.1 | 7, _ => r2.2.2.2.2.2.2.2.1 | 8, _ => r2.2.2.2.2.2.2.2.2.1 | 9, _ => r2.2.2.2.2.2.2.2.2.2.1 | 10, _ => r2.2.2.2.2.2.2.2.2.2.2.1 | 11, _ => r2.2.2.2.2.2.2.2.2.2.2.2.1 | 12, _ => r2.2.2.2.2.2.2.2.2.2.2.2.2.1)
      | 3, _ => (match j, hj with | 0, _ => r3.1 | 1, _ => r3.2.1 | 2, _ => r3.2.2.1 | 3, _ => r3.2.2.2.1 | 4, _ => r3.2.2.2.2.1 | 5, _ => r3.2.2.2.2.2.1 | 6, _ => r3.2.2.2.2.2.2.1 | 7, _ => r3.2.2.2.2.2.2.2.1 | 8, _ => r3.2.2.2.2.2.2.2.2.1 | 9, _ => r3.2.2.2.2.2.2.2.2.2.1 | 10, _ => r3.2.2.2.2.2.2.2.2.2.2.1 | 11, _ => r3.2.2.2.2.2.2.2.2.2.2.2.1 | 12, _ => r3.2.2.2.2.2.2.2.2.2.2.2.2.1)
      | 4, _ => (match j, hj with | 0, _ => r4.1 | 1, _ => r4.2.1 | 2, _ => r4.2.2.1 | 3, _ => r4.2.2.2.1 | 4, _ => r4.2.2.2.2.1 | 5, _ => r4.2.2.2.2.2.1 | 6, _ => r4.2.2.2.2.2.2.1 | 7, _ => r4.2.2.2.2.2.2.2.1 | 8, _ => r4.2.2.2.2.2.2.2.2.1 | 9, _ => r4.2.2.2.2.2.2.2.2.2.1 | 10, _ => r4.2.2.2.2.2.2.2.2.2.2.1 | 11, _ => r4.2.2.2.2.2.2.2.2.2.2.2.1 | 12, _ => r4.2.2.2.2.2.2.2.2.2.2.2.2.1)
      | 5, _ => (match j, hj with | 0, _ => r5.1 | 1, _ => r5.2.1 | 2, _ => r5.2.2.1 | 3, _ => r5.2.2.2.1 | 4, _ => r5.2.2.2.2.1 | 5, _ => r5.2.2.2.2.2.1 | 6, _ => r5.2.2.2.2.2.2.1 | 7, _ => r5.2.2.2.2.2.2.2.1 | 8, _ => r5.2.2.2.2.2.2.2.2.1 | 9, _ => r5.2.2.2.2.2.2.2.2.2.1 | 10, _ => r5.2.2.2.2.2.2.2.2.2.2.1 | 11, _ => r5.2.2.2.2.2.2.2.2.2.2.2.1 | 12, _ => r5.2.2.2.2.2.2.2.2.2.2.2.2.1)
      | 6, _ => (match j, hj with | 0, _ => r6.1 | 1, _ => r6.2.1 | 2, _ => r6.2.2.1 | 3, _ => r6.2.2.2.1 | 4, _ => r6.2.2.2.2.1 | 5, _ => r6.2.2.2.2.2.1 | 6, _ => r6.2.2.2.2.2.2.1 | 7, _ => r6.2.2.2.2.2.2.2.1 | 8, _ => r6.2.2.2.2.2.2.2.2.1 | 9, _ => r6.2.2.2.2.2.2.2.2.2.1 | 10, _ => r6.2.2.2.2.2.2.2.2.2.2.1 | 11, _ => r6.2.2.2.2.2.2.2.2.2.2.2.1 | 12, _ => r6.2.2.2.2.2.2.2.2.2.2.2.2.1)
      | 7, _ => (match j, hj with | 0, _ => r7.1 | 1, _ => r7.2.1 | 2, _ => r7.2.2.1 | 3, _ => r7.2.2.2.1 | 4, _ => r7.2.2.2.2.1 | 5, _ => r7.2.2.2.2.2.1 | 6, _ => r7.2.2.2.2.2.2.1 | 7, _ => r7.2.2.2.2.2.2.2.1 | 8, _ => r7.2.2.2.2.2.2.2.2.1 | 9, _ => r7.2.2.2.2.2.2.2.2.2.1 | 10, _ => r7.2.2.2.2.2.2.2.2.2.2.1 | 11, _ => r7.2.2.2.2.2.2.2.2.2.2.2.1 | 12, _ => r7.2.2.2.2.2.2.2.2.2.2.2.2.1)
      | 8, _ => (match j, hj with | 0, _ => r8.1 | 1, _ => r8.2.1 | 2, _ => r8.2.2.1 | 3, _ => r8.2.2.2.1 | 4, _ => r8.2.2.2.2.1 | 5, _ => r8.2.2.2.2.2.1 | 6, _ => r8.2.2.2.2.2.2.1 | 7, _ => r8.2.2.2.2.2.2.2.1 | 8, _ => r8.2.2.2.2.2.2.2.2.1 | 9, _ => r8.2.2.2.2.2.2.2.2.2.1 | 10, _ => r8.2.2.2.2.2.2.2.2.2.2.1 | 11, _ => r8.2.2.2.2.2.2.2.2.2.2.2.1 | 12, _ => r8.2.2.2.2.2.2.2.2.2.2.2.2.1)
      | 9, _ => (match j, hj with | 0, _ => r9.1 | 1, _ => r9.2.1 | 2, _ => r9.2.2.1 | 3, _ => r9.2.2.2.1 | 4, _ => r9.2.2.2.2.1 | 5, _ => r9.2.2.2.2.2.1 | 6, _ => r9.2.2.2.2.2.2.1 | 7, _ => r9.2.2.2.2.2.2.2.1 | 8, _ => r9.2.2.2.2.2.2.2.2.1 | 9, _ => r9.2.2.2.2.2.2.2.2.2.1 | 10, _ => r9.2.2.2.2.2.2.2.2.2.2.1 | 11, _ => r9.2.2.2.2.2.2.2.2.2.2.2.1 | 12, _ => r9.2.2.2.2.2.2.2.2.2.2.2.2.1)
      | 10, _ => (match j, hj with | 0, _ => r10.1 | 1, _ => r10.2.1 | 2, _ => r10.2.2.1 | 3, _ => r10.2.2.2.1 | 4, _ => r10.2.2.2.2.1 | 5, _ => r10.2.2.2.2.2.1 | 6, _ => r10.2.2.2.2.2.2.1 | 7, _ => r10.2.2.2.2.2.2.2.1 | 8, _ => r10.2.2.2.2.2.2.2.2.1 | 9, _ => r10.2.2.2.2.2.2.2.2.2.1 | 10, _ => r10.2.2.2.2.2.2.2.2.2.2.1 | 11, _ => r10.2.2.2.2.2.2.2.2.2.2.2.1 | 12, _ => r10.2.2.2.2.2.2.2.2.2.2.2.2.1)
      | 11, _ => (match j, hj with | 0, _ => r11.1 | 1, _ => r11.2.1 | 2, _ => r11.2.2.1 | 3, _ => r11.2.2.2.1 | 4, _ => r11.2.2.2.2.1 | 5, _ => r11.2.2.2.2.2.1 | 6, _ => r11.2.2.2.2.2.2.1 | 7, _ => r11.2.2.2.2.2.2.2.1 | 8, _ => r11.2.2.2.2.2.2.2.2.1 | 9, _ => r11.2.2.2.2.2.2.2.2.2.1 | 10, _ => r11.2.2.2.2.2.2.2.2.2.2.1 | 11, _ => r11.2.2.2.2.2.2.2.2.2.2.2.1 | 12, _ => r11.2.2.2.2.2.2.2.2.2.2.2.2.1)
      | 12, _ => (match j, hj with | 0, _ => r12.1 | 1, _ => r12.2.1 | 2, _ => r12.2.2.1 | 3, _ => r12.2.2.2.1 | 4, _ => r12.2.2.2.2.1 | 5, _ => r12.2.2.2.2.2.1 | 6, _ => r12.2.2.2.2.2.2.1 | 7, _ => r12.2.2.2.2.2.2.2.1 | 8, _ => r12.2.2.2.2.2.2.2.2.1 | 9, _ => r12.2.2.2.2.2.2.2.2.2.1 | 10, _ => r12.2.2.2.2.2.2.2.2.2.2.1 | 11, _ => r12.2.2.2.2.2.2.2.2.2.2.2.1 | 12, _ => r12.2.2.2.2.2.2.2.2.2.2.2.2.1)
    kce := fun i hi => match i, hi with | 0, _ => r0.2.2.2.2.2.2.2.2.2.2.2.2.2.1 | 1, _ => r1.2.2.2.2.2.2.2.2.2.2.2.2.2.1 | 2, _ => r2.2.2.2.2.2.2.2.2.2.2.2.2.2.1 | 3, _ => r3.2.2.2.2.2.2.2.2.2.2.2.2.2.1 | 4, _ => r4.2.2.2.2.2.2.2.2.2.2.2.2.2.1 | 5, _ => r5.2.2.2.2.2.2.2.2.2.2.2.2.2.1 | 6, _ => r6.2.2.2.2.2.2.2.2.2.2.2.2.2.1 | 7, _ => r7.2.2.2.2.2.2.2.2.2.2.2.2.2.1 | 8, _ => r8.2.2.2.2.2.2.2.2.2.2.2.2.2.1 | 9, _ => r9.2.2.2.2.2.2.2.2.2.2.2.2.2.1 | 10, _ => r10.2.2.2.2.2.2.2.2.2.2.2.2.2.1 | 11, _ => r11.2.2.2.2.2.2.2.2.2.2.2.2.2.1 | 12, _ => r12.2.2.2.2.2.2.2.2.2.2.2.2.2.1
    kve := fun i hi => match i, hi with | 0, _ => r0.2.2.2.2.2.2.2.2.2.2.2.2.2.2 | 1, _ => r1.2.2.2.2.2.2.2.2.2.2.2.2.2.2 | 2, _ => r2.2.2.2.2.2.2.2.2.2.2.2.2.2.2 | 3, _ => r3.2.2.2.2.2.2.2.2.2.2.2.2.2.2 | 4, _ => r4.2.2.2.2.2.2.2.2.2.2.2.2.2.2 | 5, _ => r5.2.2.2.2.2.2.2.2.2.2.2.2.2.2 | 6, _ => r6.2.2.2.2.2.2.2.2.2.2.2.2.2.2 | 7, _ => r7.2.2.2.2.2.2.2.2.2.2.2.2.2.2 | 8, _ => r8.2.2.2.2.2.2.2.2.2.2.2.2.2.2 | 9, _ => r9.2.2.2.2.2.2.2.2.2.2.2.2.2.2 | 10, _ => r10.2.2.2.2.2.2.2.2.2.2.2.2.2.2 | 11, _ => r11.2.2.2.2.2.2.2.2.2.2.2.2.2.2 | 12, _ => r12.2.2.2.2.2.2.2.2.2.2.2.2.2.2 }
  have BB : Blt mg := ⟨PySem.W.mg_none_of X G z_int, PySem.W.mg_none_of X G z_len, PySem.W.mg_none_of X G z_list, PySem.W.mg_none_of X G z_range, PySem.W.mg_none_of X G z_str, PySem.W.mg_none_of X G z_isinstance, PySem.W.mg_none_of X G z_repr, PySem.W.mg_none_of X G z_enumerate, PySem.W.mg_none_of X G z_zip, PySem.W.mg_none_of X G z_ValueError⟩
  have F0 := fun_mk (st := sPen) l0 c0 k0
  have D0 : Cl K mg "_law_pen" sPen ["_law_script"] g0 _ := ⟨F0, F0.binds (ps := ["_law_script"]) (fun _ _ _ _ _ _ us hl => match us, hl with | [_], _ => rfl), PySem.W.mg_of X G a0⟩
  have F1 := fun_mk (st := sDraw) l1 c1 k1
  have D1 : Cl K mg "_law_draw" sDraw ["_law_pen_here", "_law_many"] g1 _ := ⟨F1, F1.binds (ps := ["_law_pen_here", "_law_many"]) (fun _ _ _ _ _ _ us hl => match us, hl with | [_, _], _ => rfl), PySem.W.mg_of X G a1⟩
  have F2 := fun_mk (st := sPick) l2 c2 k2
  have D2 : Cl K mg "_law_pick" sPick ["_law_pen_here", "_law_some"] g2 _ := ⟨F2, F2.binds (ps := ["_law_pen_here", "_law_some"]) (fun _ _ _ _ _ _ us hl => match us, hl with | [_, _], _ => rfl), PySem.W.mg_of X G a2⟩
  have F3 := fun_mk (st := sLarge) l3 c3 k3
  have D3 : Cl K mg "_law_large" sLarge ["_law_pen_here"] g3 _ := ⟨F3, F3.binds (ps := ["_law_pen_here"]) (fun _ _ _ _ _ _ us hl => match us, hl with | [_], _ => rfl), PySem.W.mg_of X G a3⟩
  have F4 := fun_mk (st := sKinds) l4 c4 k4
  have D4 : Cl K mg "_law_kinds" sKinds ["_law_e"] g4 _ := ⟨F4, F4.binds (ps := ["_law_e"]) (fun _ _ _ _ _ _ us hl => match us, hl with | [_], _ => rfl), PySem.W.mg_of X G a4⟩
  have F5 := fun_mk (st := sMade) l5 c5 k5
  have D5 : Cl K mg "_law_made" sMade ["_law_a", "_law_b", "_law_c"] g5 _ := ⟨F5, F5.binds (ps := ["_law_a", "_law_b", "_law_c"]) (fun _ _ _ _ _ _ us hl => match us, hl with | [_, _, _], _ => rfl), PySem.W.mg_of X G a5⟩
  have F6 := fun_mk (st := sFields) l6 c6 k6
  have D6 : Cl K mg "_law_fields" sFields ["_law_row"] g6 _ := ⟨F6, F6.binds (ps := ["_law_row"]) (fun _ _ _ _ _ _ us hl => match us, hl with | [_], _ => rfl), PySem.W.mg_of X G a6⟩
  have F7 := fun_mk (st := sValue) l7 c7 k7
  have D7 : Cl K mg "_law_value" sValue ["_law_pen_here"] g7 _ := ⟨F7, F7.binds (ps := ["_law_pen_here"]) (fun _ _ _ _ _ _ us hl => match us, hl with | [_], _ => rfl), PySem.W.mg_of X G a7⟩
  have F8 := fun_mk (st := sLaw) l8 c8 k8
  exact ⟨PySem.W.fnOf "law" "law" (defArgs sLaw) (defBody sLaw) (defScope sLaw) .none okV8 odc8 opm8 oan8 ocd8 oct8, fun s v => .of_eq rfl, fun base _ _ => ok_law F8 TT BB D0 D1 D2 D3 D4 D5 D6 D7⟩
theorem walk {l : PySem.W.OpenLaw} {q : Program} {loose : List Str} {XP : (Str → Option Value) → Heap → Prop} {YP : World → Heap → Prop} {d : DefRec} {K : Params → PySem.W.Frag} (hn : l.most = some 63) (hdf : d.params.defaults = [])
    (hY : ∀ (w : World) (h : Heap), YP w h → (K w.params).In h)
    (F : ∀ (w : World) (mg : Str → Option Value) (fa : Addr) (h : Heap), (K w.params).In h → h.Ns mainGlobals mg → mg d.name = some (.ref fa) →
      ∃ fd : FuncData, (∀ (s : Shared) (u : Value), BindsTo s fd ⟨[u], []⟩ [("_law_script", u)]) ∧ ∀ base : Heap, (K w.params).In base → base.Ns mainGlobals mg → FnG l.prog w (K w.params) mg base CX0 5 fa fd ["_law_script"] (spLaw (K w.params))) :
    PySem.W.WalkO q loose XP YP l.row.toRowW d [] (fun f vs => PySem.call f vs) :=
  walkG (n := 63) (k := 5) (x := "_law_script") (sp := fun w => spLaw (K w.params)) hn (by decide) hdf ⟨rfl, by decide, by decide⟩ hY F (fun _ _ a ns _ _ hS => ⟨a, ns, rfl, hS, fun _ => rfl⟩)
end K00

open PySem PySem.W PyProof.Rows
set_option maxRecDepth 100000 in
set_option maxHeartbeats 0 in
theorem PySem.Challenge.cw_restcounts_k00_errors_holds : PySem.Challenge.rw_restcounts_k00_errors.Holds := by
  w_on; o_law; k_head; (case hw => w_witness2)
  k_fill
  refine K00.walk (l := PySem.Challenge.rw_restcounts_k00_errors) rfl rfl (fun w h Y => PySem.W.kIn_of Y) ?F
  case F =>
    intro w mg fa h KX G hmg
    refine' K00.all_mk KX G hmg ?e0 ?e1 ?e2 ?e3 ?e4 ?e5 ?e6 ?e7 ?e8 ?e9 ?e10 ?e11 ?e12 ?j0 ?n0 ?j1 ?n1 ?j2 ?n2 ?j3 ?n3 ?j4 ?n4 ?j5 ?n5 ?j6 ?n6 ?j7 ?n7 ?j8 ?n8 ?j9 ?n9 ?j10 ?n10 ?x11 ?x12 ?ace ?cg ?ct ?r0 ?r1 ?r2 ?r3 ?r4 ?r5 ?r6 ?r7 ?r8 ?r9 ?r10 ?r11 ?r12 ?a0 ?l0 ?c0 ?k0 ?a1 ?l1 ?c1 ?k1 ?a2 ?l2 ?c2 ?k2 ?a3 ?l3 ?c3 ?k3 ?a4 ?l4 ?c4 ?k4 ?a5 ?l5 ?c5 ?k5 ?a6 ?l6 ?c6 ?k6 ?a7 ?l7 ?c7 ?k7 ?a8 ?l8 ?c8 ?k8 ?z_int ?z_len ?z_list ?z_range ?z_str ?z_isinstance ?z_repr ?z_enumerate ?z_zip ?z_ValueError
    (case e0 => (refine' K00.ErIn.mk ?_ ?_ ?_ ?_ ?_ ?_ ?_ ?_ ?_ <;> try k_is))
    (case e1 => (refine' K00.ErIn.mk ?_ ?_ ?_ ?_ ?_ ?_ ?_ ?_ ?_ <;> try k_is))
    (case e2 => (refine' K00.ErIn.mk ?_ ?_ ?_ ?_ ?_ ?_ ?_ ?_ ?_ <;> try k_is))
    (case e3 => (refine' K00.ErIn.mk ?_ ?_ ?_ ?_ ?_ ?_ ?_ ?_ ?_ <;> try k_is))
    (case e4 => (refine' K00.ErIn.mk ?_ ?_ ?_ ?_ ?_ ?_ ?_ ?_ ?_ <;> try k_is))
    (case e5 => (refine' K00.ErIn.mk ?_ ?_ ?_ ?_ ?_ ?_ ?_ ?_ ?_ <;> try k_is))
    (case e6 => (refine' K00.ErIn.mk ?_ ?_ ?_ ?_ ?_ ?_ ?_ ?_ ?_ <;> try k_is))
    (case e7 => (refine' K00.ErIn.mk ?_ ?_ ?_ ?_ ?_ ?_ ?_ ?_ ?_ <;> try k_is))
    (case e8 => (refine' K00.ErIn.mk ?_ ?_ ?_ ?_ ?_ ?_ ?_ ?_ ?_ <;> try k_is))
    (case e9 => (refine' K00.ErIn.mk ?_ ?_ ?_ ?_ ?_ ?_ ?_ ?_ ?_ <;> try k_is))
    (case e10 => (refine' K00.ErIn.mk ?_ ?_ ?_ ?_ ?_ ?_ ?_ ?_ ?_ <;> try k_is))
    (case e11 => (refine' K00.ErIn.mk ?_ ?_ ?_ ?_ ?_ ?_ ?_ ?_ ?_ <;> try k_is))
    (case e12 => (refine' K00.ErIn.mk ?_ ?_ ?_ ?_ ?_ ?_ ?_ ?_ ?_ <;> try k_is))
    (case j0 => (refine' K00.IniIn.mk ?_ ?_ ?_ ?_ ?_ ?_ ?_ ?_ <;> try k_is))
    (case n0 => k_is)
    (case j1 => (refine' K00.IniIn.mk ?_ ?_ ?_ ?_ ?_ ?_ ?_ ?_ <;> try k_is))
    (case n1 => (refine ⟨?_, ?_⟩ <;> try k_is))
    (case j2 => (refine' K00.IniIn.mk ?_ ?_ ?_ ?_ ?_ ?_ ?_ ?_ <;> try k_is))
    (case n2 => (refine ⟨?_, ?_⟩ <;> try k_is))
    (case j3 => (refine' K00.IniIn.mk ?_ ?_ ?_ ?_ ?_ ?_ ?_ ?_ <;> try k_is))
    (case n3 => k_is)
    (case j4 => (refine' K00.IniIn.mk ?_ ?_ ?_ ?_ ?_ ?_ ?_ ?_ <;> try k_is))
    (case n4 => k_is)
    (case j5 => (refine' K00.IniIn.mk ?_ ?_ ?_ ?_ ?_ ?_ ?_ ?_ <;> try k_is))
    (case n5 => k_is)
    (case j6 => (refine' K00.IniIn.mk ?_ ?_ ?_ ?_ ?_ ?_ ?_ ?_ <;> try k_is))
    (case n6 => (refine ⟨?_, ?_⟩ <;> try k_is))
    (case j7 => (refine' K00.IniIn.mk ?_ ?_ ?_ ?_ ?_ ?_ ?_ ?_ <;> try k_is))
    (case n7 => (refine ⟨?_, ?_, ?_⟩ <;> try k_is))
    (case j8 => (refine' K00.IniIn.mk ?_ ?_ ?_ ?_ ?_ ?_ ?_ ?_ <;> try k_is))
    (case n8 => k_is)
    (case j9 => (refine' K00.IniIn.mk ?_ ?_ ?_ ?_ ?_ ?_ ?_ ?_ <;> try k_is))
    (case n9 => k_is)
    (case j10 => (refine' K00.IniIn.mk ?_ ?_ ?_ ?_ ?_ ?_ ?_ ?_ <;> try k_is))
    (case n10 => (refine ⟨?_, ?_⟩ <;> try k_is))
    (case x11 => k_exc)
    (case x12 => k_exc)
    (case ace => k_is)
    (case cg => k_is)
    (case ct => k_is)
    (case r0 => (refine ⟨?_, ?_, ?_, ?_, ?_, ?_, ?_, ?_, ?_, ?_, ?_, ?_, ?_, ?_, ?_⟩ <;> kit_is))
    (case r1 => (refine ⟨?_, ?_, ?_, ?_, ?_, ?_, ?_, ?_, ?_, ?_, ?_, ?_, ?_, ?_, ?_⟩ <;> kit_is))
    (case r2 => (refine ⟨?_, ?_, ?_, ?_, ?_, ?_, ?_, ?_, ?_, ?_, ?_, ?_, ?_, ?_, ?_⟩ <;> kit_is))
    (case r3 => (refine ⟨?_, ?_, ?_, ?_, ?_, ?_, ?_, ?_, ?_, ?_, ?_, ?_, ?_, ?_, ?_⟩ <;> kit_is))
    (case r4 => (refine ⟨?_, ?_, ?_, ?_, ?_, ?_, ?_, ?_, ?_, ?_, ?_, ?_, ?_, ?_, ?_⟩ <;> kit_is))
    (case r5 => (refine ⟨?_, ?_, ?_, ?_, ?_, ?_, ?_, ?_, ?_, ?_, ?_, ?_, ?_, ?_, ?_⟩ <;> kit_is))
    (case r6 => (refine ⟨?_, ?_, ?_, ?_, ?_, ?_, ?_, ?_, ?_, ?_, ?_, ?_, ?_, ?_, ?_⟩ <;> kit_is))
    (case r7 => (refine ⟨?_, ?_, ?_, ?_, ?_, ?_, ?_, ?_, ?_, ?_, ?_, ?_, ?_, ?_, ?_⟩ <;> kit_is))
    (case r8 => (refine ⟨?_, ?_, ?_, ?_, ?_, ?_, ?_, ?_, ?_, ?_, ?_, ?_, ?_, ?_, ?_⟩ <;> kit_is))
    (case r9 => (refine ⟨?_, ?_, ?_, ?_, ?_, ?_, ?_, ?_, ?_, ?_, ?_, ?_, ?_, ?_, ?_⟩ <;> kit_is))
    (case r10 => (refine ⟨?_, ?_, ?_, ?_, ?_, ?_, ?_, ?_, ?_, ?_, ?_, ?_, ?_, ?_, ?_⟩ <;> kit_is))
    (case r11 => (refine ⟨?_, ?_, ?_, ?_, ?_, ?_, ?_, ?_, ?_, ?_, ?_, ?_, ?_, ?_, ?_⟩ <;> kit_is))
    (case r12 => (refine ⟨?_, ?_, ?_, ?_, ?_, ?_, ?_, ?_, ?_, ?_, ?_, ?_, ?_, ?_, ?_⟩ <;> kit_is))
    (case a0 => k_is)
    (case l0 => k_is)
    (case c0 => k_is)
    (case k0 => k_is)
    (case a1 => k_is)
    (case l1 => k_is)
    (case c1 => k_is)
    (case k1 => k_is)
    (case a2 => k_is)
    (case l2 => k_is)
    (case c2 => k_is)
    (case k2 => k_is)
    (case a3 => k_is)
    (case l3 => k_is)
    (case c3 => k_is)
    (case k3 => k_is)
    (case a4 => k_is)
    (case l4 => k_is)
    (case c4 => k_is)
    (case k4 => k_is)
    (case a5 => k_is)
    (case l5 => k_is)
    (case c5 => k_is)
    (case k5 => k_is)
    (case a6 => k_is)
    (case l6 => k_is)
    (case c6 => k_is)
    (case k6 => k_is)
    (case a7 => k_is)
    (case l7 => k_is)
    (case c7 => k_is)
    (case k7 => k_is)
    (case a8 => k_is)
    (case l8 => k_is)
    (case c8 => k_is)
    (case k8 => k_is)
    (case z_int => k_is)
    (case z_len => k_is)
    (case z_list => k_is)
    (case z_range => k_is)
    (case z_str => k_is)
    (case z_isinstance => k_is)
    (case z_repr => k_is)
    (case z_enumerate => k_is)
    (case z_zip => k_is)
    (case z_ValueError => k_is)

