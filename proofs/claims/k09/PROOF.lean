import PyProof.Rows.All
import Wide.All
import OpenK.AllK
import Wide.FinOn
import HandS.ForMost
import HandS.ExcInit
import HandS.ExcField
import HandS.ExcOwn
import HandS.IsInst
import KE.KExcIs
import HandS.Exc
import HandS.Lambda
import HandS.EndTab
import KE.KNestM
import HandS.Wide
import HandS.Evl
import HandS.Walk
import HandS.WordsExc
import HandS.Rev
import HandS.Dict
import KE.SortData
import HandS.SortKw
import HandS.NoneIn
import HandS.Conv
import KE.KOpsOwn
import HandS.OwnEq
import HandS.SlotsOwn
import HandS.More
import PyProof.P3Eq
import HandS.Codes
import KE.KDictPairs
import KE.KDictDisplayH
import HandS.Style
import HandS.TupLe
import HandS.TupMul
import PyProof.NeKinds
import HandS.TupAny
import PySem.Challenge.RW_restcounts_k09_sums_of_powers_kept
set_option Elab.async false
set_option linter.all false
set_option maxRecDepth 100000
set_option maxHeartbeats 4000000
/-! Gd: defs whose promise leans on there being no repr under way around them; calls of such; a law's end over such. -/
namespace Gd
open PySem PySem.Spec PyProof.Rows L2

/-- a promise kept wherever no guard stands around -/
structure FnG (P : Program) (w : World) (K : PySem.W.Frag) (mg : Str → Option Value) (base : Heap)
    (CX : CXT) (k : Nat) (f : Addr) (fd : FuncData) (ps : List Str) (sp : Sp) : Prop where
  len : ∀ vs H Q E, sp vs H Q E → vs.length = ps.length
  go : ∀ (A : Around) (outer : List Env) (s : Shared) (H : Hp) (args : Args) (us : List Value) (vs : List V) (Q : VK) (E : XK),
    A.guards = some [] → Room k A → Env0 P w K mg base A outer s H →
    BindsTo s fd args (ps.zip us) → Vals vs us → sp vs H Q E →
    codeAny (model P w) A (.call (.ref f) args) (CR CX outer P w H s Q E) s

section
variable {P : Program} {w : World} {K : PySem.W.Frag} {mg : Str → Option Value} {base : Heap} {CX : CXT}

theorem FnG.ofOk {k : Nat} {f : Addr} {fd : FuncData} {ps : List Str} {sp : Sp}
    (F : FnOk P w K mg base CX k f fd ps sp) : FnG P w K mg base CX k f fd ps sp where
  len := F.len
  go := fun A outer s H args us vs Q E _ => F.run A outer s H args us vs Q E

/-- a def by its body, where the guards are none -/
theorem fnG_of {k : Nat} {f : Addr} {name qual : Str} {params : Arguments} {body : List Stmt} {scope : Scope}
    {dV kV doc pm cdv ct oc : Value} {an od : Option Addr} {osl : Array (Option Value)} {N ps : List Str} {sp : Sp}
    (lk : K.lookup f = some ⟨oc, od, .func (PySem.W.fnOf name qual params body scope dV kV doc pm an cdv ct), osl⟩)
    (hcd : PySem.W.codeIn K cdv qual = true) (S : FnScope N ps scope)
    (len : ∀ vs H Q E, sp vs H Q E → vs.length = ps.length)
    (B : ∀ (A : Around) (outer : List Env) (s : Shared) (H : Hp) (vs : List V) (Q : VK) (E : XK),
      A.guards = some [] → Room k (A.deeper (envOfC qual scope s.heap.objs.size f cdv)) → sp vs H Q E →
      ∃ t, PSs (cxOf CX P w K mg base N qual scope f cdv A outer s H E) body t ∧
        t { nx := fun _ H' => Q .non H', rt := Q } (start N vs) H) :
    FnG P w K mg base CX (k + 1) f (PySem.W.fnOf name qual params body scope dV kV doc pm an cdv ct) ps sp where
  len := len
  go := by
    intro A outer s H args us vs Q E hgd room env0 hbind rel hs
    have hlen := len _ _ _ _ hs
    have old : ∀ b o, base.get? b = some o → s.heap.get? b = some o := fun b o h => (env0.bs b o h).1
    have kin := env0.mod.kin.keeps old
    have nolim := env0.mod.nolimit.keeps old
    refine codeAny_call_function room.depth (kin _ _ lk) rfl S.co S.gen rfl
      (PySem.W.codeRec_of kin hcd) (hbind _ _ _ _ ?_)
    refine wpAny_newFunctionEnv_cells S.kind ?kinds fun env he s1 inC => ?_
    case kinds =>
      rintro ⟨n, v⟩ hm
      have hn := S.par n (List.of_mem_zip hm).1
      exact hn.imp (fun q => q) fun q => ⟨q, PySem.W.cellsFrom_some _ _ _ (.inl q)⟩
    subst he
    refine ⟨nolim.keeps inC.toInCall.keep, codeAny_func ?_⟩
    have ⟨t, derived, reading⟩ := B A outer s H vs Q E hgd (room.deeper _) hs
    have inv0 := inv_start (CX := CX) (E := E) S room.hd env0 hlen rel inC
    refine wpAny_mono (derived.run [] s1 (start N vs) H _ inv0 reading) ?_ fun _ _ he => he
    intro fl s' hfl
    match fl, hfl with
    | .ret _, ⟨v, _, H', J, rv, q⟩ => exact ⟨v, H', J.os, J.bare, J.base, J.hok, rv, q⟩
    | .next, ⟨_, H', J, q⟩ => exact ⟨V.non, H', J.os, J.bare, J.base, J.hok, rfl, q⟩
    | .brk, ⟨_, _, _, q⟩ => exact q.elim
    | .cont, ⟨_, _, _, q⟩ => exact q.elim

/-- for a def of the text that no exception leaves -/
theorem okG {x qual : Str} {st : Stmt} {f : Addr} {fd : FuncData} {N ps : List Str} {k : Nat} {sp : Sp}
    (F : Fun K x qual st f fd) (S : FnScope N ps (defScope st)) (len : ∀ vs H Q E, sp vs H Q E → vs.length = ps.length)
    (B : ∀ (cdv : Value) (A : Around) (outer : List Env) (s : Shared) (H : Hp) (vs : List V) (Q : VK) (E : XK),
      A.guards = some [] → Room k (A.deeper (envOfC qual (defScope st) s.heap.objs.size f cdv)) → sp vs H Q E →
      ∃ t, PSs (cxOf CX0 P w K mg base N qual (defScope st) f cdv A outer s H E).nox (defBody st) t ∧
        t { nx := fun _ H' => Q .non H', rt := Q } (start N vs) H) : FnG P w K mg base CX0 (k + 1) f fd ps sp := by
  have ⟨oc, od, kV, doc, pm, an, cdv, ct, osl, e, lk, hcd⟩ := F.ex
  subst e
  refine fnG_of lk hcd S len ?_
  intro A outer s H vs Q E hgd room hs
  have ⟨t, d, q⟩ := B cdv A outer s H vs Q E hgd room hs
  exact ⟨t, d.nox, q⟩
end

section
variable {X : Cx} {CX : CXT} {k : Nat} {f : Addr} {fd : FuncData} {ps : List Str} {sp : Sp} {dvs : List V} {ds : List Value} {E : XK}
/-- the call of such a def -/
theorem run_fnG {pins : List (Addr × Obj)} {σ : L2.St} {H : Hp} {s : Shared} {Q : VK} {us : List Value} {vs : List V}
    (F : FnG X.prog X.w X.K X.mg X.base CX k f fd ps sp) (hgd : X.A.guards = some []) (room : Room k X.A)
    (hb : Binds X.K fd ps ds) (hd : Vals dvs ds) (hx : Passes CX X E) (I : Inv X pins σ H s) (r : Vals vs us)
    (h : sp (vs ++ dvs) H Q E) : wpAny (model X.prog X.w) X.A (call (.ref f) us) (EP X pins σ Q) X.xe s := by
  have rr := r.append hd
  have hlen := F.len _ _ _ _ h
  rw [rr.length] at hlen
  have c := F.go X.A X.stack s H ⟨us, []⟩ (us ++ ds) (vs ++ dvs) Q E hgd room I.env0 (hb s us I.kIn hlen) rr h
  refine wpAny_call (codeAny_mono c ?_)
  intro res s' hres
  match res, hres with
  | .error e, he => exact hx pins σ H s e s' I he
  | .ok (.ret u), he => exact I.after he
  | .ok .next, he => exact he.elim
  | .ok .brk, he => exact he.elim
  | .ok .cont, he => exact he.elim

theorem pe_callG {x : Str} {p pos : Pos} {e : Expr} {es : List Expr} {t : TA}
    (F : FnG X.prog X.w X.K X.mg X.base CX k f fd ps sp) (hgd : X.A.guards = some []) (hr : Room k X.A) (hg : Gl X x)
    (hm : X.mg x = some (.ref f)) (hk : PySem.W.keepIn X.K (.ref f) = true) (hb : Binds X.K fd ps ds) (hd : Vals dvs ds)
    (hx : Passes CX X E) (ha : PA X (e :: es) t) (hdb : (x == ("__debug__" : Str)) = false := by decide)
    (he : starEach (e :: es) X.env = (false, eval e X.env) :: starEach es X.env := by rfl)
    (hpl : (backTo pos (starEach es X.env)).any (·.1) = false := by rfl) :
    PE X (.Call (.Name x p) (e :: es) [] pos) (tCall sp dvs E t) where
  run := by
    intro pins s σ H Q I h
    refine wpAny_Call_Name_kw (ld_glob I hg hm ?_ hdb)
    refine PySem.W.callWith_K (h₀ := X.base) I.ok.mod.kin hk ?_ he hpl
    refine thn (ha.run pos pins s σ H _ I h) ?_
    rintro us s1 ⟨vs, H1, I1, rel, q⟩
    exact ⟨I1.kIn, run_fnG F hgd hr hb hd hx I1 rel q⟩
end

/-! ### repr of data -/
mutual
theorem dp_nodict {K : PySem.W.Frag} {H : Hp} : ∀ (d : PyData) (v : V), Dp K H v d → d.hasDict = false
  | .none, _, _ => by simp only [PyData.hasDict]
  | .bool _, _, _ => by simp only [PyData.hasDict]
  | .int _, _, _ => by simp only [PyData.hasDict]
  | .str _, _, _ => by simp only [PyData.hasDict]
  | .list ds, _, h => by
    cases h with
    | lst _ ha => simp only [PyData.hasDict]; exact dpAll_nodict ds _ ha
  | .tuple ds, _, h => by
    cases h with
    | tup _ ha => simp only [PyData.hasDict]; exact dpAll_nodict ds _ ha
  | .dict _, _, h => by cases h
theorem dpAll_nodict {K : PySem.W.Frag} {H : Hp} : ∀ (ds : List PyData) (vs : List V), DpAll K H vs ds → PyData.hasDictAll ds = false
  | [], _, _ => by simp only [PyData.hasDictAll]
  | d :: ds, _, h => by
    cases h with
    | cons a b => simp only [PyData.hasDictAll, dp_nodict d _ a, dpAll_nodict ds _ b, Bool.or_self]
end

/-- repr(x) of data without dicts -/
def rRepr (K : PySem.W.Frag) : List V → Hp → VK → Prop := fun xs H Q => ∃ x d, xs = [x] ∧ Dp K H x d ∧
  d.showable = true ∧ d.depth ≤ 60 ∧ d.shown.length ≤ sizeLine ∧ Q (.str d.shown) H
theorem call_repr {X : Cx} (hgd : X.A.guards = some []) (hu : X.A.units + 64 < cLine) : CallR X (.builtin "repr") (rRepr X.K) := by
  intro pins s σ H xs us Q I rel h
  obtain ⟨x, d, rfl, dp, sh, hd, hz, q⟩ := h
  cases rel with
  | cons rx rt =>
    cases rt
    rename_i u
    obtain ⟨as, rd⟩ := Dp.reads I d x u dp rx
    have nod := dp_nodict d x dp
    cases dp with
    | non =>
      cases rx
      exact PySem.P.repr_of_none ⟨.str _, H, I.tok _, ⟨_, rfl⟩, q⟩
    | bl b =>
      cases rx
      exact PySem.P.repr_of_bool ⟨.str _, H, I.tok _, ⟨_, rfl⟩, q⟩
    | int i =>
      obtain ⟨t, rfl⟩ := rx
      exact PySem.P.repr_of_int (by simpa [PyData.showable] using sh) ⟨.str _, H, I.tok _, ⟨_, rfl⟩, q⟩
    | str z =>
      obtain ⟨t, rfl⟩ := rx
      exact PySem.P.repr_of_str ⟨.str _, H, I.tok _, ⟨_, rfl⟩, q⟩ (by simpa only [PyData.shown] using hz)
    | lst _ _ =>
      cases rx
      exact repr_of_reads' rd sh (PySem.PyData.noDict_hsm nod) hgd (by omega) (fun _ _ e => e) (fun h' t tk k => ⟨.str _, H, I.kept k, ⟨_, rfl⟩, q⟩) hz
    | tup _ _ =>
      cases rx
      exact repr_of_reads' rd sh (PySem.PyData.noDict_hsm nod) hgd (by omega) (fun _ _ e => e) (fun h' t tk k => ⟨.str _, H, I.kept k, ⟨_, rfl⟩, q⟩) hz
end Gd

/-! Ex: errors of own classes as values: made, their fields read, asked for their class. -/
namespace Gd
open PySem PySem.Spec PyProof.Rows L2

/-- what isinstance and the fields ask of such a class -/
structure ErC (K : PySem.W.Frag) (C : Addr) : Prop where
  ga : PySem.W.findIn K (.ref C) "__getattribute__" = some (some (.builtin "BaseException.__getattribute__"))
  gg : PySem.W.findIn K (.ref C) "__getattr__" = some none
  be : PySem.W.subIn K (.ref C) (.type "BaseException") = some true
  hd : PySem.W.hasDictIn K C = true
  ci : PySem.W.isClsIn K C = true
  cc : PySem.W.findIn K (.ref C) "__class__" = some (some (.builtin "object.__class__"))
  cg : PySem.W.specialIn K (.builtin "object.__class__") "__get__" = some (some (.builtin "getset_descriptor.__get__"))
  ct : PySem.W.takesIn K (.builtin "object.__class__") = some true
  om : PySem.W.mroIn K C (.type "object") = some true

section
variable {X : Cx} {CX : CXT} {pins : List (Addr × Obj)} {σ : L2.St} {H : Hp} {s : Shared}

/-- an error of the class at C stands at a, its fields fs (the last stored first) -/
def ErA (H : Hp) (a C : Addr) (fs : List (Str × V)) : Prop :=
  (H a = some (exo a C none) ∧ fs = []) ∨ ∃ d, H a = some (exo a C (some d)) ∧ H d = some (exd d fs)

/-- such an error, as the library's rules see it -/
theorem inst_of {a C : Addr} {fs : List (Str × V)} (I : Inv X pins σ H s) (e : ErA H a C fs) :
    ∃ ox od, PySem.W.InstAt s.heap a ox C od ∧ ∀ n v, fs.lookup n = some v →
      ∃ u o, od = some o ∧ PySem.W.lookIn n o = some (some u) ∧ RelV v u := by
  obtain ⟨e, rfl⟩ | ⟨d, e, ed⟩ := e
  · obtain ⟨t, ho⟩ := exo_at I.hok e
    exact ⟨_, none, ⟨ho, rfl, rfl, trivial⟩, fun n v z => by cases z⟩
  · obtain ⟨t, ho⟩ := exo_at I.hok e
    obtain ⟨mA, hns, rel⟩ := exd_at I.hok ed
    obtain ⟨od, hod, look⟩ := lookIn_ns hns
    refine ⟨_, some od, ⟨ho, rfl, rfl, hod⟩, fun n v z => ?_⟩
    have rn := rel n
    rw [z] at rn
    cases q : mA n with
    | none => rw [q] at rn; exact rn.elim
    | some u =>
      rw [q] at rn
      exact ⟨u, od, rfl, by rw [look, q], rn⟩

/-- isinstance(e, c) -/
def rIsEr (K : PySem.W.Frag) : List V → Hp → VK → Prop := fun xs H Q => ∃ (a C : Addr) (fs : List (Str × V)) (c : V) (u : Value) (b : Bool),
  xs = [.ref a, c] ∧ ErA H a C fs ∧ ErC K C ∧ ClsV c u ∧ PySem.W.kitOne K (.ref C) u = some b ∧ Q (.bl b) H
theorem call_isEr : CallR X (.builtin "isinstance") (rIsEr X.K) := by
  intro pins s σ H xs us Q I rel h
  obtain ⟨a, C, fs, c, u, b, rfl, ea, T, kc, kit, q⟩ := h
  obtain ⟨u1, u2, rfl, r1, r2⟩ := vals2 rel
  cases (show u1 = Value.ref a from r1)
  have e2 := kc.eq r2
  subst e2
  obtain ⟨ox, od, J, _⟩ := inst_of I ea
  have Z := PySem.W.kitx_exc (x := a) (ox := ox) (od := od) (K := X.K) T.ci T.ga T.gg T.be T.cc T.cg T.ct T.om
  exact PySem.W.kia_one Z I.kIn J kit (fun z => nomatch z) fun tk => ⟨.bl b, H, I.tok tk, rfl, q⟩

/-- e.f -/
def tErF (K : PySem.W.Frag) (f : Str) (te : TE) : TE := fun σ H Q => te σ H fun x H1 => ∃ (a C : Addr) (fs : List (Str × V)) (v : V),
  x = .ref a ∧ ErA H1 a C fs ∧ ErC K C ∧ PySem.W.findIn K (.ref C) f = some none ∧ fs.lookup f = some v ∧ Q v H1
theorem pe_erF {e : Expr} {te : TE} {pos : Pos} {f : Str} (he : PE X e te)
    (hb : attributeBase e f X.env (eval e X.env) = eval e X.env := by rfl) : PE X (.Attribute e f pos) (tErF X.K f te) where
  run := by
    intro pins s σ H Q I h
    refine attr_of hb (thn (he.run pins s σ H _ I h) ?_)
    rintro u s1 ⟨x, H1, I1, rx, a, C, fs, v, ex, ea, T, no, l, q⟩
    subst ex
    cases (show u = Value.ref a from rx)
    obtain ⟨ox, od, J, g⟩ := inst_of I1 ea
    obtain ⟨u, o, rfl, lk, ru⟩ := g f v l
    exact HandSPX.exc_get I1.kIn J T.ga T.gg T.be (PySem.W.findObj_own T.hd no rfl lk) (handed_of ru) ⟨v, H1, I1.tok _, ru, q⟩

/-- C(), an error class without an __init__ of its own -/
def tEr0 (C : Addr) : TE := fun _ H Q => ∀ a, H a = none → Q (.ref a) (upd H a (exo a C none))
theorem pe_er0 {C : Addr} {bmB : List Value} {B newId initId : String} {x : Str} {p pos : Pos} (F : ExcBaseFacts B newId initId bmB)
    (q : PySem.W.excIn X.K C bmB newId = true) (gC : X.mg x = some (.ref C)) (kC : PySem.W.keepIn X.K (.ref C) = true) (hg : Gl X x)
    (hdb : (x == ("__debug__" : Str)) = false := by decide) : PE X (.Call (.Name x p) [] [] pos) (tEr0 C) where
  run := by
    intro pins s σ H Q I h
    refine wpAny_Call_Name_kw (ld_glob I hg gC ?_ hdb)
    refine PySem.W.callWith_K0 I.kIn kC ?_
    obtain ⟨bm, N, nm, qn, bs, hdct, sn, sub, ab, col, dd, k0, k1, k2, k3, k5, mN, hC, hN, hni, T⟩ := exc_obj I.kIn q
    obtain ⟨hp, g, d, t, os⟩ := s
    refine wpAny_call_exc_subT F T hC hN hni ?_ (by show 0 ≤ sizeLine; exact Nat.zero_le _)
    intro h' a hm
    have fresh : H a = none := I.hok.gone hm.new
    obtain ⟨t0, ht, _, _⟩ := hm.there
    have lay : ObjOk X.prog X.w (upd H a (exo a C none)) h' a (exo a C none) := exo_ok ht
    refine ⟨.ref a, _, I.un (t' := t) ?_ ?_, rfl, h a fresh⟩
    · exact {
        keep := fun b u z _ _ _ => hm.keeps b u z
        slot := fun b u z _ _ _ => ⟨u.slots, hm.keeps b u z⟩
        free := fun b u z n _ => by rw [upd_ne (fun e => by rw [e] at z; have := hm.new; rw [this] at z; cases z)]; exact n
        there := fun b u z _ => ⟨u, hm.keeps b u z⟩
        tups := fun b xs z => by rw [upd_ne (ne_of_none z fresh)]; exact z
        frzs := fun b o u z => by rw [upd_ne (ne_of_none z fresh)]; exact z
        tbls := fun b ps z => ⟨#[], by rw [upd_ne (ne_of_none z fresh), z]; simp⟩ }
    · intro b u z
      by_cases e : b = a
      · subst e
        rw [upd_same] at z
        cases z
        exact lay
      · rw [upd_ne e] at z
        exact (I.hok b u z).stay (fun c v _ y => hm.keeps c v y) (fun c y => by rw [upd_ne (ne_of_none y fresh)]; exact y)
          fun c xs y => by rw [upd_ne (ne_of_none y fresh)]; exact y

/-- C(e, ..), C's own __init__ keeping sp -/
def tErI (C : Addr) (sp : Sp) (ta : TA) : TE := fun σ H Q => ta σ H fun vs H1 => vs.length ≤ 1000 ∧ ∀ a, H1 a = none →
  sp (.ref a :: vs) (upd H1 a (exo a C none)) (fun v H2 => v = .non ∧ Q (.ref a) H2) (fun _ _ _ => False)
theorem pe_erI {x : Str} {C fI : Addr} {k : Nat} {fd : FuncData} {ps : List Str} {sp : Sp} {e : Expr} {es : List Expr} {ta : TA} {p pos : Pos}
    (T : OexC X.K C) (iC : PySem.W.findIn X.K (.ref C) "__init__" = some (some (.ref fI))) (tI : PySem.W.typeIn X.K (.ref fI) = some (.type "function"))
    (F1 : FnOk X.prog X.w X.K X.mg X.base CX k fI fd ps sp) (hr : Room (k + 1) X.A) (hb : Binds X.K fd ps [])
    (hx : Passes CX X (fun _ _ _ => False)) (hg : Gl X x) (hm : X.mg x = some (.ref C)) (ha : PA X (e :: es) ta)
    (hdb : (x == ("__debug__" : Str)) = false := by decide)
    (he : starEach (e :: es) X.env = (false, eval e X.env) :: starEach es X.env := by rfl)
    (hpl : (backTo pos (starEach es X.env)).any (·.1) = false := by rfl) :
    PE X (.Call (.Name x p) (e :: es) [] pos) (tErI C sp ta) where
  run := by
    intro pins s σ H Q I h
    obtain ⟨nm, q, N, bs, bm, sn, sub, ab, col, dd, k0, k1, k2, k3, k5, hC, hbm⟩ := T.cls
    refine wpAny_Call_Name_kw (ld_glob I hg hm ?_ hdb)
    refine PySem.W.callWith_K (h₀ := X.base) I.ok.mod.kin T.kC (thn (ha.run pos pins s σ H _ I h) ?_) he hpl
    rintro us s1 ⟨vs, H1, I1, rel, few, next⟩
    refine ⟨I1.kIn, ?_⟩
    show wpAny _ _ (call (.ref C) us) _ _ _
    obtain ⟨hp, g, dr, tk, os⟩ := s1
    have above : hp.objs.size ≤ hp.objs.size + 1 := Nat.le_succ _
    have call := next (hp.objs.size + 1) (I1.hok.fresh above)
    have kept : ∀ b o, hp.get? b = some o → ((hp.push (PySem.W.kdv_tup us)).push (PySem.HandSPX.excO C hp.objs.size)).get? b = some o :=
      fun b o z => Heap.get?_push_of_some _ (Heap.get?_push_of_some _ z)
    have there : ((hp.push (PySem.W.kdv_tup us)).push (PySem.HandSPX.excO C hp.objs.size)).get? (hp.objs.size + 1) = some (PySem.HandSPX.excO C hp.objs.size) := by heap_get
    have I2 := I1.laid (t' := tk) (o := exo (hp.objs.size + 1) C none) kept above (exo_ok there)
    have rel2 : Vals (V.ref (hp.objs.size + 1) :: vs) (Value.ref (hp.objs.size + 1) :: us) := .cons rfl rel
    have len2 : (Value.ref (hp.objs.size + 1) :: us ++ []).length = ps.length := by
      rw [List.append_nil, ← rel2.length]
      exact F1.len _ _ _ _ call
    have usz : us.length ≤ sizeLine := by
      have := Paired.length rel
      rw [sizeLine_eq]
      omega
    have bound := hb _ (Value.ref (hp.objs.size + 1) :: us) I2.kIn len2
    rw [List.append_nil] at bound
    refine wpAny_call (PySem.HandSPX.call_own F.excBase_ValueError (fun Y => PySem.HandSPX.refsVE_contains Y bm hbm) (I1.kIn _ _ hC)
      (PySem.W.looks_findIn I1.kIn iC) (fun self => PySem.W.bind_fn I1.kIn self tI) usz ?_)
    refine codeAny_mono (F1.run _ X.stack _ _ ⟨Value.ref (hp.objs.size + 1) :: us, []⟩ _ _ _ (fun _ _ _ => False) (hr.make C us [])
      (I2.env0.make C us []) bound rel2 call) ?_
    intro r s' hr'
    match r, hr' with
    | .error er, z => exact hx pins σ _ _ er s' I2 z
    | .ok (.ret u), z =>
      obtain ⟨v, H2, I3, rv, ev, q2⟩ := I2.after z
      subst ev
      exact ⟨rv, ⟨V.ref (hp.objs.size + 1), H2, I3, rfl, q2⟩⟩
    | .ok .next, z => exact z.elim
    | .ok .brk, z => exact z.elim
    | .ok .cont, z => exact z.elim
end
end Gd

/-! Ge: the end of a law row over a def of the kind FnG. -/
namespace Gd
open PySem PySem.Spec PyProof.Rows L2

/-- what the law's call finds: an abstract heap that tracks the script at most, a base without it -/
structure Entry (P : Program) (w : World) (K : PySem.W.Frag) (mg : Str → Option Value) (s : Shared) (a : Addr) (ns : List Int)
    (H : Hp) (base : Heap) : Prop where
  only : Only H
  script : SqL K H a (ns.map V.int)
  kin : K.In base
  glob : base.Ns mainGlobals mg
  env : Env0 P w K mg base callerA [] s H
  old : ∀ (H' : Hp) (s' : Shared), Un [] [] H H' s.heap s'.heap → HOk P w H' s'.heap → PySem.OldK s.heap s'.heap

section
variable {P : Program} {w : World} {K : PySem.W.Frag} {mg mb : Str → Option Value} {s : Shared} {a : Addr} {vs : List Value} {ns : List Int}
theorem entry_of {H : Hp} (kin : K.In s.heap) (hns : s.heap.Ns mainGlobals mg) (hb : s.heap.Ns builtinsNs mb)
    (hbb : ∀ x : Str, x ≠ "__name__" → mb x = bootBuiltins x) (hlim : s.heap.NoLimit) (hg : s.gens = #[])
    (ha : s.heap.get? a = some { cls := .type "list", data := .seq vs.toArray })
    (o1 : Only H) (o2 : SqL K H a (ns.map V.int)) (o3 : HOk P w H s.heap) (o4 : ∀ b, H b ≠ none → b = a)
    (o5 : H a ≠ none → K.lookup a = none) : ∃ base, Entry P w K mg s a ns H base := by
  -- whatever isn't the script's own object is in the base
  have stays : ∀ {b : Addr} {o : Obj}, s.heap.get? b = some o → (b = a → H b = none) → (hidT s.heap H).get? b = some o := by
    intro b o e h
    refine hidT_get e ?_
    by_cases z : b = a
    · exact h z
    · exact Classical.byContradiction fun q => z (o4 b q)
  have ns_in : ∀ {b : Addr} {m : Str → Option Value}, s.heap.Ns b m → (hidT s.heap H).Ns b m := by
    rintro b m ⟨o, es, ep, e, d, r⟩
    refine ⟨o, es, ep, stays e fun z => ?_, d, r⟩
    rw [z, ha] at e
    rw [← Option.some.inj e] at d
    cases d
  have kin' : K.In (hidT s.heap H) := by
    intro b o e
    refine stays (kin b o e) fun z => Classical.byContradiction fun q => ?_
    rw [z] at q e
    rw [o5 q] at e
    cases e
  obtain ⟨mc, l1, l2⟩ := hlim
  refine ⟨hidT s.heap H, o1, o2, kin', ns_in hns, ?_, ?_⟩
  · refine ⟨rfl, ⟨kin', ns_in hns, ⟨mb, ns_in hb, hbb⟩, ⟨mc, ns_in l1, l2⟩⟩, fun b o e => of_hidT e, Nat.le_of_eq (hidT_size _ _), trivial, ?_, o3, .of_eq hg⟩
    intro b hm
    exact (List.not_mem_nil hm).elim
  · intro H' s' un ok'
    refine PySem.OldK.of_keep fun b o e => ?_
    cases q : H b with
    | none => exact un.keep b o e q List.not_mem_nil List.not_mem_nil
    | some u =>
      obtain z | ⟨ob, xs, z⟩ := o1 b
      · rw [q] at z
        cases z
      · obtain ⟨was, _⟩ := o3 b _ z
        obtain ⟨still, _⟩ := ok' b _ (un.frzs b ob _ z)
        rw [e] at was
        rw [Option.some.inj was]
        exact still

theorem entry_is (kin : K.In s.heap) (hns : s.heap.Ns mainGlobals mg) (hb : s.heap.Ns builtinsNs mb)
    (hbb : ∀ x : Str, x ≠ "__name__" → mb x = bootBuiltins x) (hlim : s.heap.NoLimit) (hg : s.gens = #[])
    (ha : s.heap.get? a = some { cls := .type "list", data := .seq vs.toArray })
    (hi : IntsAre vs ns) (hl : ns.length ≤ sizeLine) : ∃ H base, Entry P w K mg s a ns H base := by
  have rv := vals_ints hi
  have ln := hi.length
  cases hk : K.lookup a with
  | some o =>
    have e := kin a o hk
    rw [ha] at e
    cases e
    have sq : SqL K (fun _ => none) a (ns.map V.int) :=
      .inr ⟨_, vs.toArray, _, hk, rfl, rfl, rfl, by rw [List.size_toArray, ln]; exact hl, by simpa using rv⟩
    obtain ⟨base, E⟩ := entry_of (P := P) (w := w) kin hns hb hbb hlim hg ha (fun _ => .inl rfl) sq
      (fun b u z => by cases (show (none : Option HO) = some u from z)) (fun b z => absurd rfl z) fun z => absurd rfl z
    exact ⟨_, base, E⟩
  | none =>
    let H : Hp := fun b => if b = a then some (.frz { cls := .type "list", data := .seq vs.toArray } (.lst (ns.map V.int))) else none
    have at_a : H a = some (.frz { cls := .type "list", data := .seq vs.toArray } (.lst (ns.map V.int))) := if_pos rfl
    have off_a : ∀ {b}, b ≠ a → H b = none := fun z => if_neg z
    have ok : HOk P w H s.heap := by
      intro b u z
      by_cases q : b = a
      · subst q
        rw [at_a] at z
        cases z
        exact ⟨ha, by rw [List.length_map]; exact hl, vs, _, rv, ha⟩
      · rw [off_a q] at z
        cases z
    have on : Only H := by
      intro b
      by_cases q : b = a
      · subst q
        exact .inr ⟨_, _, at_a⟩
      · exact .inl (off_a q)
    obtain ⟨base, E⟩ := entry_of (P := P) (w := w) kin hns hb hbb hlim hg ha on (.inl (.inr ⟨_, at_a⟩)) ok
      (fun b z => Classical.byContradiction fun q => z (off_a q)) fun _ => hk
    exact ⟨H, base, E⟩
end

theorem walkG {l : PySem.W.OpenLaw} {n k : Nat} {q : Program} {loose : List Str} {XP : (Str → Option Value) → Heap → Prop}
    {YP : World → Heap → Prop} {d : DefRec} {K : Params → PySem.W.Frag} {sp : World → Sp} {x : Str}
    (hn : l.most = some n) (hn2 : n ≤ sizeLine) (hdf : d.params.defaults = []) (hr : Room k callerA)
    (hY : ∀ (w : World) (h : Heap), YP w h → (K w.params).In h)
    (F : ∀ (w : World) (mg : Str → Option Value) (fa : Addr) (h : Heap), (K w.params).In h → h.Ns mainGlobals mg → mg d.name = some (.ref fa) →
      ∃ fd : FuncData, (∀ (s : Shared) (u : Value), BindsTo s fd ⟨[u], []⟩ [(x, u)]) ∧
        ∀ base : Heap, (K w.params).In base → base.Ns mainGlobals mg → FnG l.prog w (K w.params) mg base CX0 k fa fd [x] (sp w))
    (hsp : ∀ (w : World) (H : Hp) (a : Addr) (ns : List Int), ns.length ≤ n → Only H → SqL (K w.params) H a (ns.map V.int) →
      sp w [.ref a] H (fun v _ => v = .bl true) fun _ _ _ => False) :
    PySem.W.WalkO q loose XP YP l.row.toRowW d [] (fun f vs => PySem.call f vs) := by
  refine Att.attach_call hn hdf ?_
  intro w s₀ s₁ mg mb fa o pm cd doc a vs ns G Y ho hd hcd hmg hobj hints hlen hgens
  have kin := hY w _ Y
  obtain ⟨fd, binds, all⟩ := F w mg fa _ kin G.T.g hmg
  obtain ⟨H, base, E⟩ := entry_is (P := l.prog) (w := w) kin G.T.g G.T.b G.T.builtins G.T.nolimit hgens hobj hints (Nat.le_trans hlen hn2)
  have run := (all base E.kin E.glob).go callerA [] s₁ H ⟨[.ref a], []⟩ [.ref a] [.ref a] _ _ rfl hr E.env (binds s₁ (.ref a)) (.cons rfl .nil)
    (hsp w H a ns hlen E.only E.script)
  refine codeAny_mono run ?_
  intro res s' hres
  match res, hres with
  | .ok (.ret u), ⟨v, H', os, bare, un, ok', rel, e⟩ =>
    subst e
    cases (show u = Value.bool true from rel)
    exact ⟨rfl, E.old H' s' un ok', os, bare⟩
end Gd

/-! Gr: repr of data, lists and tuples and dicts within one another. -/
namespace Gd
open PySem PySem.Spec PyProof.Rows L2
def kD : Key → PyData
  | .inl i => .int i
  | .inr x => .str x
mutual
/-- v is the data d, at the abstract heap -/
inductive Dq (K : PySem.W.Frag) (H : Hp) : V → PyData → Prop
  | non : Dq K H .non .none
  | bl (b : Bool) : Dq K H (.bl b) (.bool b)
  | int (i : Int) : Dq K H (.int i) (.int i)
  | str (x : Str) : Dq K H (.str x) (.str x)
  | lst {a : Addr} {xs : List V} {ds : List PyData} : SqL K H a xs → DqAll K H xs ds → Dq K H (.ref a) (.list ds)
  | tup {a : Addr} {xs : List V} {ds : List PyData} : SqT K H a xs → DqAll K H xs ds → Dq K H (.ref a) (.tuple ds)
  | dct {a : Addr} {kvs : List (Key × V)} {ds : List (PyData × PyData)} : Rd H a (.dK kvs) → DqKv K H kvs ds → Dq K H (.ref a) (.dict ds)
inductive DqAll (K : PySem.W.Frag) (H : Hp) : List V → List PyData → Prop
  | nil : DqAll K H [] []
  | cons {v : V} {vs : List V} {d : PyData} {ds : List PyData} : Dq K H v d → DqAll K H vs ds → DqAll K H (v :: vs) (d :: ds)
inductive DqKv (K : PySem.W.Frag) (H : Hp) : List (Key × V) → List (PyData × PyData) → Prop
  | nil : DqKv K H [] []
  | cons {k : Key} {v : V} {vs : List (Key × V)} {d : PyData} {ds : List (PyData × PyData)} : Dq K H v d → DqKv K H vs ds → DqKv K H ((k, v) :: vs) ((kD k, d) :: ds)
end

theorem ram_nil {h : Heap} {n : Nat} : ReadAtMost h n [] := fun b hb => (List.not_mem_nil hb).elim
/-- a value's own repr, and what it reads -/
structure Rp (prog : Program) (w : World) (h : Heap) (u : Value) (d : PyData) : Prop where
  reads : ∃ as, Reads h u d as
  repr : d.showable = true → d.shown.length ≤ sizeLine → ∃ bs, ReadAtMost h d.depth bs ∧ ReprK prog w bs h d.depth u d.shown
structure RpAll (prog : Program) (w : World) (h : Heap) (us : List Value) (ds : List PyData) : Prop where
  reads : ∃ as, ReadsAll h us ds as
  repr : PyData.showableAll ds = true → (∀ t ∈ PyData.shownAll ds, t.length ≤ sizeLine) →
    ∃ bs, ReadAtMost h (PyData.depthAll ds) bs ∧ ReprAllK prog w bs h (PyData.depthAll ds) us (PyData.shownAll ds)
section
variable {prog : Program} {w : World} {h : Heap}
theorem RpAll.nil : RpAll prog w h [] [] := ⟨⟨_, .nil⟩, fun _ _ => ⟨[], ram_nil, by simp only [PyData.shownAll]; exact .nil⟩⟩
theorem RpAll.cons {u : Value} {d : PyData} {us : List Value} {ds : List PyData} (a : Rp prog w h u d) (b : RpAll prog w h us ds) : RpAll prog w h (u :: us) (d :: ds) where
  reads := by
    obtain ⟨as, r⟩ := a.reads
    obtain ⟨bs, rs⟩ := b.reads
    exact ⟨_, .cons r rs⟩
  repr := by
    intro hs hz
    obtain ⟨s1, s2⟩ : d.showable = true ∧ PyData.showableAll ds = true := by simpa [PyData.showableAll] using hs
    obtain ⟨b1, m1, k1⟩ := a.repr s1 (hz _ (by simp only [PyData.shownAll]; exact List.mem_cons_self ..))
    obtain ⟨b2, m2, k2⟩ := b.repr s2 fun t ht => hz t (by simp only [PyData.shownAll]; exact List.mem_cons_of_mem _ ht)
    refine ⟨b1 ++ b2, ?_, ?_⟩
    · simp only [PyData.depthAll]
      exact (m1.mono (Nat.le_max_left _ _)).append (m2.mono (Nat.le_max_right _ _))
    · simp only [PyData.depthAll, PyData.shownAll]
      have sub1 : ∀ c ∈ b1, c ∈ b1 ++ b2 := fun c hc => List.mem_append_left _ hc
      have sub2 : ∀ c ∈ b2, c ∈ b1 ++ b2 := fun c hc => List.mem_append_right _ hc
      exact .cons ((k1.more sub1).level_le (Nat.le_max_left _ _)) (k2.more_le sub2 (Nat.le_max_right _ _))
theorem Rp.list {a : Addr} {o : Obj} {us : List Value} {n : Nat} {ds : List PyData} (ho : h.get? a = some o) (hc : o.cls = .type "list") (hd : o.data = .seq us.toArray n) (all : RpAll prog w h us ds) : Rp prog w h (.ref a) (.list ds) := by
  obtain ⟨as, rs⟩ := all.reads
  have r : Reads h (.ref a) (.list ds) _ := .list ho hc hd rs
  refine ⟨⟨_, r⟩, fun hs hz => ?_⟩
  have hz' : (listText (PyData.shownAll ds)).length ≤ sizeLine := by simpa only [PyData.shown] using hz
  obtain ⟨bs, m, k⟩ := all.repr (by simpa [PyData.showable] using hs) fun t ht => Nat.le_trans (listText_mem_le ht) hz'
  have deep : PyData.depthAll ds < PyData.depth (.list ds) := by simp only [PyData.depth]; omega
  have off : a ∉ bs := not_mem_of_deeper r deep m
  refine ⟨a :: bs, ReadAtMost.cons r (Nat.le_of_lt deep) m, ?_⟩
  simp only [PyData.depth, PyData.shown]
  cases us with
  | nil =>
    cases rs
    simp only [PyData.shownAll, listText_nil]
    exact ReprK.listEmpty ho hc hd
  | cons u us => exact ReprK.list ho hc hd off (by simpa using k.length_eq) fun i y e => k.item i y (by simpa using e)
theorem Rp.tuple {a : Addr} {o : Obj} {us : List Value} {n : Nat} {ds : List PyData} (ho : h.get? a = some o) (hc : o.cls = .type "tuple") (hd : o.data = .seq us.toArray n) (all : RpAll prog w h us ds) : Rp prog w h (.ref a) (.tuple ds) := by
  obtain ⟨as, rs⟩ := all.reads
  have r : Reads h (.ref a) (.tuple ds) _ := .tuple ho hc hd rs
  refine ⟨⟨_, r⟩, fun hs hz => ?_⟩
  have hz' : (tupleText (PyData.shownAll ds)).length ≤ sizeLine := by simpa only [PyData.shown] using hz
  obtain ⟨bs, m, k⟩ := all.repr (by simpa [PyData.showable] using hs) fun t ht => Nat.le_trans (tupleText_mem_le ht) hz'
  have deep : PyData.depthAll ds < PyData.depth (.tuple ds) := by simp only [PyData.depth]; omega
  refine ⟨a :: bs, ReadAtMost.cons r (Nat.le_of_lt deep) m, ?_⟩
  simp only [PyData.depth, PyData.shown]
  exact ReprK.tuple ho hc hd (not_mem_of_deeper r deep m) k
theorem Rp.dict {a : Addr} {o : Obj} {es : Array DictEntry} {n : Nat} {ds : List (PyData × PyData)} (ho : h.get? a = some o) (hc : o.cls = .type "dict") (hd : o.data = .dict es n) (low : (a == sysModules) = false)
    (ks : RpAll prog w h (es.toList.map (·.key)) (ds.map (·.1))) (vs : RpAll prog w h (es.toList.map (·.val)) (ds.map (·.2))) : Rp prog w h (.ref a) (.dict ds) := by
  obtain ⟨as, r1⟩ := ks.reads
  obtain ⟨bs, r2⟩ := vs.reads
  have r : Reads h (.ref a) (.dict ds) _ := .dict ho hc hd r1 r2
  refine ⟨⟨_, r⟩, fun hs hz => ?_⟩
  have hz' : (dictText (PyData.shownKv ds)).length ≤ sizeLine := by simpa only [PyData.shown] using hz
  obtain ⟨s1, s2⟩ := PyData.showableKv_split ds (by simpa [PyData.showable] using hs)
  obtain ⟨b1, m1, k1⟩ := ks.repr s1 fun t ht => by
    obtain ⟨p, hp, hl⟩ := PyData.shownKv_key_le ds t ht
    exact Nat.le_trans hl (Nat.le_trans (dictText_mem_le hp) hz')
  obtain ⟨b2, m2, k2⟩ := vs.repr s2 fun t ht => by
    obtain ⟨p, hp, hl⟩ := PyData.shownKv_val_le ds t ht
    exact Nat.le_trans hl (Nat.le_trans (dictText_mem_le hp) hz')
  have deep : PyData.depthKv ds < PyData.depth (.dict ds) := by simp only [PyData.depth]; omega
  have m := (m1.mono (PyData.depthAll_keys_le ds)).append (m2.mono (PyData.depthAll_vals_le ds))
  refine ⟨a :: (b1 ++ b2), ReadAtMost.cons r (Nat.le_of_lt deep) m, ?_⟩
  simp only [PyData.depth, PyData.shown, PyData.shownKv_eq]
  have sub1 : ∀ c ∈ b1, c ∈ b1 ++ b2 := fun c hc => List.mem_append_left _ hc
  have sub2 : ∀ c ∈ b2, c ∈ b1 ++ b2 := fun c hc => List.mem_append_right _ hc
  exact ReprK.dict ho hc hd low (not_mem_of_deeper r deep m) (ReprEntriesK.of_two es.toList _ _ (k1.more_le sub1 (PyData.depthAll_keys_le ds)) (k2.more_le sub2 (PyData.depthAll_vals_le ds)))
theorem Rp.int (i : Int) (t : Tok) : Rp prog w h (.int i t) (.int i) :=
  ⟨⟨_, .int i t⟩, fun hs _ => ⟨[], ram_nil, by simp only [PyData.shown]; exact .of_is (ReprIs.int t (by simpa [PyData.showable] using hs)) _ _ _⟩⟩
theorem Rp.str (x : Str) (t : Tok) : Rp prog w h (.str x t) (.str x) :=
  ⟨⟨_, .str x t⟩, fun _ hz => ⟨[], ram_nil, by simp only [PyData.shown]; exact .of_is (ReprIs.str x t (by simpa only [PyData.shown] using hz)) _ _ _⟩⟩
theorem Rp.bool (b : Bool) : Rp prog w h (.bool b) (.bool b) :=
  ⟨⟨_, .bool b⟩, fun _ _ => ⟨[], ram_nil, by simp only [PyData.shown]; exact .of_is (ReprIs.bool b) _ _ _⟩⟩
theorem Rp.none : Rp prog w h .none .none :=
  ⟨⟨_, .none⟩, fun _ _ => ⟨[], ram_nil, by simp only [PyData.shown]; exact .of_is ReprIs.none _ _ _⟩⟩
end
section
variable {X : Cx} {pins : List (Addr × Obj)} {σ : L2.St} {H : Hp} {s : Shared}
theorem key_rp {prog : Program} {w : World} {h : Heap} {k : Key} {u : Value} (e : keyIs k u = true) : Rp prog w h u (kD k) := by
  rcases keyIs_shape e with ⟨i, t, rfl, rfl⟩ | ⟨x, t, rfl, rfl⟩
  · exact Rp.int i t
  · exact Rp.str x t
mutual
theorem Dq.rp (I : Inv X pins σ H s) : ∀ (d : PyData) (v : V) (u : Value), Dq X.K H v d → RelV v u → Rp X.prog X.w s.heap u d
  | .none, _, _, h, r => by cases h; cases r; exact Rp.none
  | .bool b, _, _, h, r => by cases h; cases r; exact Rp.bool b
  | .int i, _, _, h, r => by cases h; obtain ⟨t, rfl⟩ := r; exact Rp.int i t
  | .str x, _, _, h, r => by cases h; obtain ⟨t, rfl⟩ := r; exact Rp.str x t
  | .list ds, _, _, h, r => by
    cases h with
    | lst hs ha =>
      cases r
      obtain ⟨its, rv, ⟨o, n, ho, hc, _, hd⟩, _⟩ := I.list hs
      exact Rp.list ho hc hd (DqAll.rp I ds _ its ha rv)
  | .tuple ds, _, _, h, r => by
    cases h with
    | tup hs ha =>
      cases r
      obtain ⟨its, rv, ⟨o, ho, hc, n, hd⟩, _⟩ := I.tuple hs
      exact Rp.tuple ho hc hd (DqAll.rp I ds _ its ha rv)
  | .dict ds, _, _, h, r => by
    cases h with
    | dct hs ha =>
      cases r
      obtain ⟨_, low, vs, kv, o, es, ep, ho, hx, hd, _, hp, _⟩ := dk_rd I.hok hs
      obtain ⟨k1, k2⟩ := DqKv.rp I ds _ vs es.toList ha kv hp
      exact Rp.dict ho hx.1 hd low k1 k2
theorem DqAll.rp (I : Inv X pins σ H s) : ∀ (ds : List PyData) (vs : List V) (us : List Value), DqAll X.K H vs ds → Vals vs us → RpAll X.prog X.w s.heap us ds
  | [], _, _, h, r => by cases h; cases r; exact RpAll.nil
  | d :: ds, _, _, h, r => by
    cases h with
    | cons h1 h2 =>
      cases r with
      | cons r1 r2 => exact RpAll.cons (Dq.rp I d _ _ h1 r1) (DqAll.rp I ds _ _ h2 r2)
theorem DqKv.rp (I : Inv X pins σ H s) : ∀ (ds : List (PyData × PyData)) (kvs : List (Key × V)) (vs : List (Key × Value)) (es : List DictEntry), DqKv X.K H kvs ds → KV kvs vs → Pairs (mixKind X.prog X.w) es vs →
    RpAll X.prog X.w s.heap (es.map (·.key)) (ds.map (·.1)) ∧ RpAll X.prog X.w s.heap (es.map (·.val)) (ds.map (·.2))
  | [], _, _, _, h, r, p => by cases h; cases r; cases p; exact ⟨RpAll.nil, RpAll.nil⟩
  | (dk, d) :: ds, _, _, _, h, r, p => by
    cases h with
    | cons h1 h2 =>
      cases r with
      | cons r1 r2 =>
        obtain ⟨r0, r1⟩ := r1
        cases p with
        | cons hk hv ht =>
          obtain ⟨a, b⟩ := DqKv.rp I ds _ _ _ h2 r2 ht
          simp only at r0 r1
          subst r0
          exact ⟨RpAll.cons (key_rp hk) a, RpAll.cons (Dq.rp I d _ _ h1 (by rw [← hv] at r1; exact r1)) b⟩
end
end
/-- repr(x) of data -/
def rReprQ (K : PySem.W.Frag) : List V → Hp → VK → Prop := fun xs H Q => ∃ x d, xs = [x] ∧ Dq K H x d ∧
  d.showable = true ∧ d.depth ≤ 60 ∧ d.shown.length ≤ sizeLine ∧ Q (.str d.shown) H
theorem call_reprQ {X : Cx} (hgd : X.A.guards = some []) (hu : X.A.units + 64 < cLine) : CallR X (.builtin "repr") (rReprQ X.K) := by
  intro pins s σ H xs us Q I rel h
  obtain ⟨x, d, rfl, dq, sh, hd, hz, q⟩ := h
  cases rel with
  | cons rx rt =>
    cases rt
    rename_i u
    cases dq with
    | non =>
      cases rx
      exact PySem.P.repr_of_none ⟨.str _, H, I.tok _, ⟨_, rfl⟩, q⟩
    | bl b =>
      cases rx
      exact PySem.P.repr_of_bool ⟨.str _, H, I.tok _, ⟨_, rfl⟩, q⟩
    | int i =>
      obtain ⟨t, rfl⟩ := rx
      exact PySem.P.repr_of_int (by simpa [PyData.showable] using sh) ⟨.str _, H, I.tok _, ⟨_, rfl⟩, q⟩
    | str z =>
      obtain ⟨t, rfl⟩ := rx
      exact PySem.P.repr_of_str ⟨.str _, H, I.tok _, ⟨_, rfl⟩, q⟩ (by simpa only [PyData.shown] using hz)
    | lst hs ha =>
      cases rx
      rename_i a zs ds
      obtain ⟨its, rv, ⟨o, n, ho, hc, _, hdt⟩, _⟩ := I.list hs
      have all := DqAll.rp I ds _ its ha rv
      obtain ⟨as, rs⟩ := all.reads
      have r : Reads s.heap (.ref a) (.list ds) _ := .list ho hc hdt rs
      have hz' : (listText (PyData.shownAll ds)).length ≤ sizeLine := by simpa only [PyData.shown] using hz
      obtain ⟨bs, m, k⟩ := all.repr (by simpa [PyData.showable] using sh) fun t ht => Nat.le_trans (listText_mem_le ht) hz'
      have deep : PyData.depthAll ds < PyData.depth (.list ds) := by simp only [PyData.depth]; omega
      refine call_repr_slot (by omega) ⟨o, ho, hc⟩ F.slot_list_repr.toG ?_
      cases its with
      | nil =>
        cases rs
        refine call_list_repr_empty ⟨o, ho, hc⟩ ho hdt ?_
        exact ⟨_, _, rfl, .str _, H, I.tok _, ⟨_, rfl⟩, by simpa only [PyData.shown, PyData.shownAll, listText_nil] using q⟩
      | cons u0 us0 =>
        refine call_list_reprK ho hc hdt (not_mem_of_deeper r deep m) (by simpa using k.length_eq) (fun i y e => k.item i y (by simpa using e)) hgd (fun b _ => Clear.nil b) (by show X.A.units + 1 + _ < cLine; omega) (fun _ _ e => e) (fun h' t tk kk => ?_) hz'
        exact ⟨_, _, rfl, .str _, H, I.kept kk, ⟨_, rfl⟩, by simpa only [PyData.shown] using q⟩
    | tup hs ha =>
      cases rx
      rename_i a zs ds
      obtain ⟨its, rv, ⟨o, ho, hc, n, hdt⟩, _⟩ := I.tuple hs
      have all := DqAll.rp I ds _ its ha rv
      obtain ⟨as, rs⟩ := all.reads
      have r : Reads s.heap (.ref a) (.tuple ds) _ := .tuple ho hc hdt rs
      have hz' : (tupleText (PyData.shownAll ds)).length ≤ sizeLine := by simpa only [PyData.shown] using hz
      obtain ⟨bs, m, k⟩ := all.repr (by simpa [PyData.showable] using sh) fun t ht => Nat.le_trans (tupleText_mem_le ht) hz'
      have deep : PyData.depthAll ds < PyData.depth (.tuple ds) := by simp only [PyData.depth]; omega
      refine call_repr_slot (by omega) ⟨o, ho, hc⟩ F.slot_tuple_repr ?_
      refine call_tuple_reprK ho hc hdt (not_mem_of_deeper r deep m) k hgd (fun b _ => Clear.nil b) (by show X.A.units + 1 + _ < cLine; omega) (fun _ _ e => e) (fun h' t tk kk => ?_) hz'
      exact ⟨_, _, rfl, .str _, H, I.kept kk, ⟨_, rfl⟩, by simpa only [PyData.shown] using q⟩
    | dct hs ha =>
      cases rx
      rename_i a kvs ds
      obtain ⟨_, low, vs, kv, o, es, ep, ho, hx, hdt, _, hp, _⟩ := dk_rd I.hok hs
      obtain ⟨ks, vals⟩ := DqKv.rp I ds _ vs es.toList ha kv hp
      obtain ⟨as, r1⟩ := ks.reads
      obtain ⟨bs, r2⟩ := vals.reads
      have r : Reads s.heap (.ref a) (.dict ds) _ := .dict ho hx.1 hdt r1 r2
      have hz' : (dictText (PyData.shownKv ds)).length ≤ sizeLine := by simpa only [PyData.shown] using hz
      obtain ⟨s1, s2⟩ := PyData.showableKv_split ds (by simpa [PyData.showable] using sh)
      obtain ⟨b1, m1, k1⟩ := ks.repr s1 fun t ht => by
        obtain ⟨p, hp, hl⟩ := PyData.shownKv_key_le ds t ht
        exact Nat.le_trans hl (Nat.le_trans (dictText_mem_le hp) hz')
      obtain ⟨b2, m2, k2⟩ := vals.repr s2 fun t ht => by
        obtain ⟨p, hp, hl⟩ := PyData.shownKv_val_le ds t ht
        exact Nat.le_trans hl (Nat.le_trans (dictText_mem_le hp) hz')
      have deep : PyData.depthKv ds < PyData.depth (.dict ds) := by simp only [PyData.depth]; omega
      have m := (m1.mono (PyData.depthAll_keys_le ds)).append (m2.mono (PyData.depthAll_vals_le ds))
      have sub1 : ∀ c ∈ b1, c ∈ b1 ++ b2 := fun c hc => List.mem_append_left _ hc
      have sub2 : ∀ c ∈ b2, c ∈ b1 ++ b2 := fun c hc => List.mem_append_right _ hc
      refine call_repr_slot (by omega) ⟨o, ho, hx.1⟩ F.slot_dict_repr ?_
      refine call_dict_reprK ho hx.1 hdt low (not_mem_of_deeper r deep m) (ReprEntriesK.of_two es.toList _ _ (k1.more_le sub1 (PyData.depthAll_keys_le ds)) (k2.more_le sub2 (PyData.depthAll_vals_le ds)))
        hgd (fun b _ => Clear.nil b) (by show X.A.units + 1 + _ < cLine; omega) (fun _ _ e => e) (fun h' t tk kk => ?_) (by rw [← PyData.shownKv_eq]; exact hz')
      exact ⟨_, _, rfl, .str _, H, I.kept kk, ⟨_, rfl⟩, by simpa only [PyData.shown, PyData.shownKv_eq] using q⟩
end Gd

/-! Lw: several clauses `except .. as n`; the end of a law row that makes lambdas, where no guard stands around. -/
namespace Gd
open PySem PySem.Spec PyProof.Rows L2

/-! ### several clauses, each with the name at slot i -/
abbrev Clause := Value × (Addr → Value → Option Addr → TS)
/-- behind the suite the name is gone -/
def offE (i : Nat) (D : Ends) : Ends :=
  { nx := fun σ H => D.nx (σ.set i none) H, rt := D.rt, bk := fun σ H => D.bk (σ.set i none) H, ct := fun σ H => D.ct (σ.set i none) H }
def wAll (K : PySem.W.Frag) (n i : Nat) (W : WX) (D : Ends) : List Clause → WX
  | [] => W
  | (c, ts) :: r => fun cls d σ H => ∃ b, PySem.W.exmOne K cls c = some b ∧
      (b = true → σ.length = n → ∀ a, H a = none → ts a cls d (offE i D) (σ.set i (some (.ref a))) H) ∧ (b = false → wAll K n i W D r cls d σ H)
inductive Clauses (X : Cx) (n : Str) : List ExceptHandler → List Clause → Prop
  | nil : Clauses X n [] []
  | cons {x : Str} {c : Value} {ts : Addr → Value → Option Addr → TS} {st : Stmt} {sts : List Stmt} {p1 p2 : Pos}
      {hds : List ExceptHandler} {l : List Clause} (nm : Names X x c)
      (su : ∀ (a : Addr) (oe : Obj) (cls : Value) (d : Option Addr) (pn : List (Addr × Obj)), Zc cls d oe →
        (∃ vs, oe.data = .fields vs) → PSs (X.suite a ((a, oe) :: pn)) (st :: sts) (ts a cls d))
      (rest : Clauses X n hds l) : Clauses X n (.ExceptHandler (some (.Name x p1)) (some n) (st :: sts) p2 :: hds) ((c, ts) :: l)

section
variable {X : Cx} {n : Str} {i : Nat} {body : List Stmt} {h₀ : ExceptHandler} {hds : List ExceptHandler} {l : List Clause} {pos : Pos} {tb : WX → TS} {W : WX}
theorem ps_tryAll (stk : X.stack = X.env :: X.outer) (frm : X.env.frame = some X.env.locals) (nd : X.N.Nodup) (at_ : X.N[i]? = some n)
    (loc : X.env.kindOf n = some .local) (tk : Takes X W)
    (hb : ∀ (V : WX) (pn : List (Addr × Obj)) (xe : Value → Shared → Prop), Takes (X.tr pn xe) V → PassesOwn (model X.prog X.w) X.A X.env xe →
      PSs (X.tr pn xe) body (tb V)) (hh : Clauses X n (h₀ :: hds) l) :
    PS X (.Try body (h₀ :: hds) [] [] pos) (fun D σ H => tb (wAll X.K X.N.length i W D l) D σ H) where
  run := by
    intro pins s σ H D I h
    have ok := I.ok
    have frames : X.A.frames = some (X.env :: X.outer) := by rw [ok.frames, stk]
    have isLoc : Loc X.env.scope n := .inl loc
    refine wpAny_Try_except (wpAny_mono ((hb (wAll X.K X.N.length i W D l) (X.pn ++ pins)
      (fun e s₁ => wpAny (model X.prog X.w) X.A (noteFrame e X.env)
        (fun _ s₂ => wpAny (model X.prog X.w) X.A (setFlight e none)
          (fun _ s₃ => wpAny (model X.prog X.w) X.A (handleBy e X.env (h₀ :: hds)) (SP X pins D) X.xe s₃) X.xe s₂) X.xe s₁)
      ?caught PassesOwn.looking).run [] s σ H D (I.toTry _) h) ?through fun _ _ z => z)
    case through =>
      intro f s1 q
      match f, q with
      | .next, ⟨σ', H', J, q⟩ => exact wpAny_execs_nil ⟨σ', H', J.ofTry ok, q⟩
      | .brk, ⟨σ', H', J, q⟩ => exact ⟨σ', H', J.ofTry ok, q⟩
      | .cont, ⟨σ', H', J, q⟩ => exact ⟨σ', H', J.ofTry ok, q⟩
      | .ret u, ⟨v, σ', H', J, r, q⟩ => exact ⟨v, σ', H', J.ofTry ok, r, q⟩
    case caught =>
      rintro u s' ⟨a, B, sI, pins', σ', H', cls, d, rfl, J0, nb, up, sky, na, os, ag, w⟩
      have J : Inv X pins σ' H' sI := J0.ofTry ok
      have sk : Sky B (X.env :: X.outer) a (Zc cls d) X.env.locals s'.heap := stk ▸ sky
      show wpAny (model X.prog X.w) X.A (noteFrame (.ref a) X.env) _ _ _
      refine Sky.land Zc.steady frames frm sk ?_
      intro hp fl up2
      have landed : Inv X pins σ' H' { s' with heap := hp } := J.landed nb fl.1 (up.trans up2) os ag
      obtain ⟨ob, vs, atA, zc, dat⟩ := fl.there
      have noFrame : a ∉ frs (X.env :: X.outer) := by
        intro hm
        obtain ⟨_, o', e', no⟩ := fl.2.2.1.mem hm
        rw [atA] at e'
        cases e'
        exact no _ dat
      have neL : a ≠ X.env.locals := fun z => noFrame (List.mem_filterMap.mpr ⟨X.env, List.mem_cons_self, by rw [frm, z]⟩)
      have neF : a ∉ X.fs := by
        intro hm
        obtain ⟨e, he, q⟩ := List.mem_filterMap.mp hm
        exact noFrame (List.mem_filterMap.mpr ⟨e, List.mem_cons_of_mem _ he, q⟩)
      have inSuite := landed.suite atA dat na neL neF
      have go : ∀ {hs : List ExceptHandler} {ls : List Clause}, Clauses X n hs ls → wAll X.K X.N.length i W D ls cls d σ' H' →
          wpAny (model X.prog X.w) X.A (handleBy (.ref a) X.env hs) (SP X pins D) X.xe { s' with heap := hp } := by
        intro hs ls k
        induction k with
        | nil =>
          intro w
          refine wpAny_handleBy_nil ?_
          obtain ⟨_, _, _, oe, vs2, T, oT, ts', he, hz, hd, h1, _⟩ := id fl
          unfold PySem.passOn
          refine wpAny_bind (wpAny_field he hd h1 ?_)
          have ref : ¬ ((Value.ref T == Value.none) = true) := by simp
          rw [if_neg ref]
          have fin : wpAny (model X.prog X.w) X.A (setFlight (.ref a) X.env.frame)
              (fun _ s4 => wpAny (model X.prog X.w) X.A (throw (.ref a) : Sem Flow) (SP X pins D) X.xe s4) X.xe { s' with heap := hp } := by
            rw [frm]
            refine HandSPX.setFlight_upZ fl fun h4 hh4 up4 => wpAny_throw (tk _ _ ?_)
            exact ⟨a, B, sI, pins, σ', H', cls, d, rfl, J, nb, (up.trans up2).trans up4, .inr (.inr (stk ▸ hh4)), na, os, ag, w⟩
          first
            | exact wpAny_bind (wpAny_pure (wpAny_bind fin))
            | exact wpAny_bind fin
        | @cons x c ts st sts p1 p2 hds2 l2 nm su rest ih =>
          rintro ⟨b, hb1, yes, no⟩
          refine wpAny_handleBy_cons (codeAny_handlers_test ?_) (fun q => by cases q)
          have typ : PySem.W.Looks (model X.prog X.w) hp (typeOf (.ref a)) cls :=
            fun A Q E s k q => wpAny_typeOf_ref (k _ _ atA) (by rw [zc.1]; exact q)
          have fits := PySem.W.exm_one (M := model X.prog X.w) (landed.kIn) typ hb1
          have named : ∀ {Q : Value → Shared → Prop} {E : Value → Shared → Prop}, Q c { s' with heap := hp } →
              wpAny (model X.prog X.w) (X.A.mark (some (.ref a))) (eval (.Name x p1) X.env) Q E { s' with heap := hp } := by
            intro Q E q
            obtain ⟨hg, dbg, hm | ⟨hm, hv, hn⟩⟩ := nm
            · exact ld_glob (X := X.suite a ((a, ob) :: (X.pn ++ pins))) inSuite hg hm q dbg
            · exact ld_blt (X := X.suite a ((a, ob) :: (X.pn ++ pins))) inSuite hg hm hv q hn dbg
          refine named (fits.here ?_)
          cases b with
          | false =>
            show wpAny _ X.A (handleBy (.ref a) X.env hds2) _ _ _
            exact ih (no rfl)
          | true =>
            refine codeAny_handlers_suite_as (HandSPX.lands_againZ fl ?_)
            intro h4 fl4 up4
            have land4 : Inv X pins σ' H' { s' with heap := h4 } := J.landed nb fl4.1 ((up.trans up2).trans up4) os ag
            obtain ⟨ob4, vs4, at4, z4, d4⟩ := fl4.there
            have in4 := land4.suite at4 d4 na neL neF
            refine store_ok (X := X.suite a ((a, ob4) :: (X.pn ++ pins))) (v := .ref a) in4 nd at_ isLoc rfl ?_ (.inr loc)
            intro s5 S5
            refine wpAny_mono ((su a ob4 cls d (X.pn ++ pins) z4 ⟨_, d4⟩).run [] s5 _ H' _ S5 (yes rfl J.len a na)) ?_ fun _ _ z => z.elim
            intro f s6 q
            have over : ∀ {σ6 : L2.St} {H6 : Hp} {Q : Shared → Prop}, Inv (X.suite a ((a, ob4) :: (X.pn ++ pins))) [] σ6 H6 s6 →
                (∀ s7, Inv X pins (σ6.set i none) H6 s7 → Q s7) →
                wpAny (model X.prog X.w) X.A (do bindName X.env n .none; unbindBehindTheSuite X.env n p2) (fun _ s7 => Q s7) X.xe s6 :=
              fun S q => gone_ok (S.unsuite ok) nd at_ loc q
            match f, q with
            | .next, ⟨σ6, H6, S6, q6⟩ => exact over S6 fun s7 J7 => ⟨_, _, J7, q6⟩
            | .brk, ⟨σ6, H6, S6, q6⟩ => exact over S6 fun s7 J7 => ⟨_, _, J7, q6⟩
            | .cont, ⟨σ6, H6, S6, q6⟩ => exact over S6 fun s7 J7 => ⟨_, _, J7, q6⟩
            | .ret u, ⟨v6, σ6, H6, S6, r6, q6⟩ => exact over S6 fun s7 J7 => ⟨_, _, _, J7, r6, q6⟩
      exact go hh w
end

/-! ### the law's end, the tables of its makers' code objects tracked -/
open LamX in
/-- what the law's call finds -/
structure EntryT (P : Program) (w : World) (K : PySem.W.Frag) (mg : Str → Option Value) (s : Shared) (a : Addr) (ns : List Int)
    (cs : List (Addr × Addr)) (H : Hp) (base : Heap) : Prop where
  tabs : ∀ p ∈ cs, H p.2 = some (.tbl #[])
  script : SqL K H a (ns.map V.int)
  kin : K.In base
  glob : base.Ns mainGlobals mg
  env : Env0 P w K mg base callerA [] s H
  bs : ∀ p ∈ cs, TabB base mg p.1 p.2
  old : ∀ (H' : Hp) (s' : Shared), Un [] [] H H' s.heap s'.heap → HOk P w H' s'.heap → PySem.OldK s.heap s'.heap

section
variable {P : Program} {w : World} {K : PySem.W.Frag} {mg mb : Str → Option Value} {s : Shared} {a : Addr} {vs : List Value} {ns : List Int} {cs : List (Addr × Addr)}
open LamX in
theorem entryT_of {H : Hp} (kin : K.In s.heap) (hns : s.heap.Ns mainGlobals mg) (hb : s.heap.Ns builtinsNs mb)
    (hbb : ∀ x : Str, x ≠ "__name__" → mb x = bootBuiltins x) (hlim : s.heap.NoLimit) (hg : s.gens = #[])
    (bmain : ∃ (bm : Addr) (ob : Obj), mg "__builtins__" = some (.ref bm) ∧ bm ≠ builtinsNs ∧ s.heap.get? bm = some ob ∧
      ob.cls = .type "module" ∧ ob.dict = some builtinsNs ∧ ob.data = .plain)
    (tabs : ∀ p ∈ cs, s.heap.get? p.2 = some { cls := .none, data := .fields #[] }) (noK : ∀ p ∈ cs, K.lookup p.2 = none)
    (heads : ∀ p ∈ cs, PySem.W.CodeHd s.heap p.1 p.2)
    (ha : s.heap.get? a = some { cls := .type "list", data := .seq vs.toArray })
    (o0 : ∀ p ∈ cs, H p.2 = some (.tbl #[])) (o1 : ∀ b, H b = none ∨ (∃ p ∈ cs, p.2 = b) ∨ ∃ o xs, H b = some (.frz o (.lst xs)))
    (o2 : SqL K H a (ns.map V.int)) (o3 : HOk P w H s.heap) (o4 : ∀ b, H b ≠ none → b = a ∨ ∃ p ∈ cs, p.2 = b)
    (o5 : H a ≠ none → K.lookup a = none) : ∃ base, EntryT P w K mg s a ns cs H base := by
  -- an object that is neither a sequence nor an empty record is in the base
  have stays : ∀ {b : Addr} {o : Obj}, s.heap.get? b = some o → (b = a → H b = none) → o.data ≠ .fields #[] → (hidT s.heap H).get? b = some o := by
    intro b o e h no
    refine hidT_get e (Classical.byContradiction fun q => ?_)
    obtain z | ⟨p, hp, z⟩ := o4 b q
    · exact q (h z)
    · have t := tabs p hp
      rw [z, e] at t
      rw [Option.some.inj t] at no
      exact no rfl
  have other : ∀ {b : Addr} {o : Obj}, s.heap.get? b = some o → (∀ xs n, o.data ≠ .seq xs n) → o.data ≠ .fields #[] → (hidT s.heap H).get? b = some o := by
    intro b o e nos nof
    refine stays e (fun z => ?_) nof
    rw [z, ha] at e
    rw [← Option.some.inj e] at nos
    exact (nos _ _ rfl).elim
  have ns_in : ∀ {b : Addr} {m : Str → Option Value}, s.heap.Ns b m → (hidT s.heap H).Ns b m := by
    rintro b m ⟨o, es, ep, e, d, r⟩
    refine ⟨o, es, ep, other e (fun xs n z => ?_) (fun z => ?_), d, r⟩
    · rw [d] at z
      cases z
    · rw [d] at z
      cases z
  have kin' : K.In (hidT s.heap H) := by
    intro b o e
    refine hidT_get (kin b o e) (Classical.byContradiction fun q => ?_)
    obtain z | ⟨p, hp, z⟩ := o4 b q
    · rw [z] at q e
      rw [o5 q] at e
      cases e
    · rw [← z, noK p hp] at e
      cases e
  have noPlain : ∀ {o : Obj}, o.data = .plain → (∀ xs n, o.data ≠ .seq xs n) ∧ o.data ≠ .fields #[] := by
    intro o d
    rw [d]
    refine ⟨fun xs n z => ?_, fun z => ?_⟩ <;> cases z
  obtain ⟨mc, l1, l2⟩ := hlim
  refine ⟨hidT s.heap H, o0, o2, kin', ns_in hns, ?_, ?_, ?_⟩
  · refine ⟨rfl, ⟨kin', ns_in hns, ⟨mb, ns_in hb, hbb⟩, ⟨mc, ns_in l1, l2⟩⟩, fun b o e => of_hidT e, Nat.le_of_eq (hidT_size _ _), trivial, ?_, o3, .of_eq hg⟩
    intro b hm
    exact (List.not_mem_nil hm).elim
  · intro p hp
    refine ⟨?_, ?_, ?_⟩
    · obtain ⟨o, us, file, tf, flags, tg, inF, text, tt, e1, r1, r2, r3, rest⟩ := heads p hp
      refine ⟨o, us, file, tf, flags, tg, inF, text, tt, other e1 (fun xs n z => ?_) (fun z => ?_), r1, r2, r3, rest⟩
      · rw [r2] at z
        cases z
      · rw [r2] at z
        cases z
        simp at r3
    · obtain ⟨bm, ob, b1, b2, b3, b4, b5, b6⟩ := bmain
      refine ⟨bm, ob, b1, b2, fun z => ?_, fun z => ?_, other b3 (noPlain b6).1 (noPlain b6).2, b4, b5, b6⟩
      · obtain ⟨o, es, ep, e, d, _⟩ := hns
        rw [z, e] at b3
        rw [← Option.some.inj b3, d] at b6
        cases b6
      · rw [z, tabs p hp] at b3
        rw [← Option.some.inj b3] at b6
        cases b6
    · intro z
      obtain ⟨o, es, ep, e, d, _⟩ := hns
      rw [z, tabs p hp] at e
      rw [← Option.some.inj e] at d
      cases d
  · intro H' s' un ok'
    have grown : ∀ p ∈ cs, ∃ more : Array Value, s'.heap.get? p.2 = some { cls := .none, data := .fields more } := by
      intro p hp
      obtain ⟨more, z⟩ := un.tbls p.2 #[] (o0 p hp)
      exact ⟨_, ok' p.2 _ z⟩
    have key : ∀ b o, (∀ p ∈ cs, p.2 ≠ b) → s.heap.get? b = some o → s'.heap.get? b = some o := by
      intro b o nb e
      cases q : H b with
      | none => exact un.keep b o e q List.not_mem_nil List.not_mem_nil
      | some u =>
        obtain z | ⟨p, hp, z⟩ | ⟨ob, xs, z⟩ := o1 b
        · rw [q] at z
          cases z
        · exact (nb p hp z).elim
        · obtain ⟨was, _⟩ := o3 b _ z
          obtain ⟨still, _⟩ := ok' b _ (un.frzs b ob _ z)
          rw [e] at was
          rw [Option.some.inj was]
          exact still
    refine ⟨fun b o e => ?_, fun b o e => ?_⟩
    · by_cases hb' : ∃ p ∈ cs, p.2 = b
      · obtain ⟨p, hp, rfl⟩ := hb'
        obtain ⟨more, hm⟩ := grown p hp
        have t := tabs p hp
        rw [e] at t
        rw [Option.some.inj t]
        exact .inr (.inl ⟨((heads p hp).tab (tabs p hp)).isCodeTable, rfl, #[], more, rfl, by rw [Array.empty_append]; exact hm⟩)
      · exact .inl (key b o (fun p hp z => hb' ⟨p, hp, z⟩) e)
    · by_cases hb' : ∃ p ∈ cs, p.2 = b
      · obtain ⟨p, hp, rfl⟩ := hb'
        obtain ⟨more, hm⟩ := grown p hp
        exact ⟨_, hm⟩
      · exact ⟨o, key b o (fun p hp z => hb' ⟨p, hp, z⟩) e⟩

open LamX in
theorem entryT_is (kin : K.In s.heap) (hns : s.heap.Ns mainGlobals mg) (hb : s.heap.Ns builtinsNs mb)
    (hbb : ∀ x : Str, x ≠ "__name__" → mb x = bootBuiltins x) (hlim : s.heap.NoLimit) (hg : s.gens = #[])
    (bmain : ∃ (bm : Addr) (ob : Obj), mg "__builtins__" = some (.ref bm) ∧ bm ≠ builtinsNs ∧ s.heap.get? bm = some ob ∧
      ob.cls = .type "module" ∧ ob.dict = some builtinsNs ∧ ob.data = .plain)
    (tabs : ∀ p ∈ cs, s.heap.get? p.2 = some { cls := .none, data := .fields #[] }) (noK : ∀ p ∈ cs, K.lookup p.2 = none)
    (heads : ∀ p ∈ cs, PySem.W.CodeHd s.heap p.1 p.2)
    (ha : s.heap.get? a = some { cls := .type "list", data := .seq vs.toArray })
    (hi : IntsAre vs ns) (hl : ns.length ≤ sizeLine) : ∃ H base, EntryT P w K mg s a ns cs H base := by
  have rv := vals_ints hi
  have ln := hi.length
  have noT : ¬ ∃ p ∈ cs, p.2 = a := by
    rintro ⟨p, hp, z⟩
    have t := tabs p hp
    rw [z, ha] at t
    have d := congrArg Obj.data (Option.some.inj t)
    cases d
  let T : Hp := fun b => if ∃ p ∈ cs, p.2 = b then some (.tbl #[]) else none
  have T_in : ∀ {b}, (∃ p ∈ cs, p.2 = b) → T b = some (.tbl #[]) := fun z => if_pos z
  have T_off : ∀ {b}, (¬ ∃ p ∈ cs, p.2 = b) → T b = none := fun z => if_neg z
  have okT : ∀ (H : Hp) b u, T b = some u → ObjOk P w H s.heap b u := by
    intro H b u z
    by_cases q : ∃ p ∈ cs, p.2 = b
    · rw [T_in q] at z
      cases z
      obtain ⟨p, hp, rfl⟩ := q
      exact tabs p hp
    · rw [T_off q] at z
      cases z
  cases hk : K.lookup a with
  | some o =>
    have e := kin a o hk
    rw [ha] at e
    cases e
    have sq : SqL K T a (ns.map V.int) :=
      .inr ⟨_, vs.toArray, _, hk, rfl, rfl, rfl, by rw [List.size_toArray, ln]; exact hl, by simpa using rv⟩
    obtain ⟨base, E⟩ := entryT_of (P := P) (w := w) (H := T) kin hns hb hbb hlim hg bmain tabs noK heads ha (fun p hp => T_in ⟨p, hp, rfl⟩)
      (fun b => by
        by_cases q : ∃ p ∈ cs, p.2 = b
        · exact .inr (.inl q)
        · exact .inl (T_off q)) sq (fun b u z => okT T b u z)
      (fun b z => by
        by_cases q : ∃ p ∈ cs, p.2 = b
        · exact .inr q
        · exact (z (T_off q)).elim) fun z => (z (T_off noT)).elim
    exact ⟨_, base, E⟩
  | none =>
    let H : Hp := fun b => if b = a then some (.frz { cls := .type "list", data := .seq vs.toArray } (.lst (ns.map V.int))) else T b
    have at_a : H a = some (.frz { cls := .type "list", data := .seq vs.toArray } (.lst (ns.map V.int))) := if_pos rfl
    have off_a : ∀ {b}, b ≠ a → H b = T b := fun z => if_neg z
    have H_in : ∀ p ∈ cs, H p.2 = some (.tbl #[]) := by
      intro p hp
      rw [off_a fun z => noT ⟨p, hp, z⟩]
      exact T_in ⟨p, hp, rfl⟩
    have ok : HOk P w H s.heap := by
      intro b u z
      by_cases q : b = a
      · subst q
        rw [at_a] at z
        cases z
        exact ⟨ha, by rw [List.length_map]; exact hl, vs, _, rv, ha⟩
      · rw [off_a q] at z
        exact okT H b u z
    obtain ⟨base, E⟩ := entryT_of (P := P) (w := w) (H := H) kin hns hb hbb hlim hg bmain tabs noK heads ha H_in
      (fun b => by
        by_cases q : b = a
        · subst q
          exact .inr (.inr ⟨_, _, at_a⟩)
        · by_cases r : ∃ p ∈ cs, p.2 = b
          · exact .inr (.inl r)
          · exact .inl ((off_a q).trans (T_off r))) (.inl (.inr ⟨_, at_a⟩)) ok
      (fun b z => by
        by_cases q : b = a
        · exact .inl q
        · rw [off_a q] at z
          by_cases r : ∃ p ∈ cs, p.2 = b
          · exact .inr r
          · exact (z (T_off r)).elim) fun _ => hk
    exact ⟨H, base, E⟩
end

open LamX in
theorem walkT {l : PySem.W.OpenLaw} {n k : Nat} {q : Program} {loose : List Str} {XP : (Str → Option Value) → Heap → Prop}
    {YP : World → Heap → Prop} {d : DefRec} {K : Params → PySem.W.Frag} {cs : List (Addr × Addr)} {sp : World → Sp} {x : Str}
    (hn : l.most = some n) (hn2 : n ≤ sizeLine) (hdf : d.params.defaults = []) (hr : Room k callerA)
    (hY : ∀ (w : World) (h : Heap), YP w h → (K w.params).In h)
    (hT : ∀ (w : World) (h : Heap), YP w h → ∀ p ∈ cs, h.get? p.2 = some { cls := .none, data := .fields #[] })
    (F : ∀ (w : World) (mg : Str → Option Value) (fa : Addr) (h : Heap), (K w.params).In h → h.Ns mainGlobals mg → mg d.name = some (.ref fa) →
      (∀ p ∈ cs, (K w.params).lookup p.2 = none ∧ PySem.W.codeHdIn (K w.params) p.1 p.2 = true) ∧
      ∃ fd : FuncData, (∀ (s : Shared) (u : Value), BindsTo s fd ⟨[u], []⟩ [(x, u)]) ∧
        ∀ base : Heap, (K w.params).In base → base.Ns mainGlobals mg → (∀ p ∈ cs, TabB base mg p.1 p.2) →
          FnG l.prog w (K w.params) mg base CX0 k fa fd [x] (sp w))
    (hsp : ∀ (w : World) (H : Hp) (a : Addr) (ns : List Int), ns.length ≤ n → (∀ p ∈ cs, H p.2 = some (.tbl #[])) → SqL (K w.params) H a (ns.map V.int) →
      sp w [.ref a] H (fun v _ => v = .bl true) fun _ _ _ => False) :
    PySem.W.WalkO q loose XP YP l.row.toRowW d [] (fun f vs => PySem.call f vs) := by
  refine Att.attach_call hn hdf ?_
  intro w s₀ s₁ mg mb fa o pm cd doc a vs ns G Y ho hd hcd hmg hobj hints hlen hgens
  have kin := hY w _ Y
  obtain ⟨heads, fd, binds, all⟩ := F w mg fa _ kin G.T.g hmg
  obtain ⟨H, base, E⟩ := entryT_is (P := l.prog) (w := w) kin G.T.g G.T.b G.T.builtins G.T.nolimit hgens G.T.bmain (hT w _ Y)
    (fun p hp => (heads p hp).1) (fun p hp => PySem.W.codeHd_of_K kin (heads p hp).2) hobj hints (Nat.le_trans hlen hn2)
  have run := (all base E.kin E.glob E.bs).go callerA [] s₁ H ⟨[.ref a], []⟩ [.ref a] [.ref a] _ _ rfl hr E.env (binds s₁ (.ref a)) (.cons rfl .nil)
    (hsp w H a ns hlen E.tabs E.script)
  refine codeAny_mono run ?_
  intro res s' hres
  match res, hres with
  | .ok (.ret u), ⟨v, H', os, bare, un, ok', rel, e⟩ =>
    subst e
    cases (show u = Value.bool true from rel)
    exact ⟨rfl, E.old H' s' un ok', os, bare⟩

/-! ### a lambda's body: what a callee raises leaves it -/
open LamX in
theorem takesLam {X : Cx} {A : Around} {outer : List Env} {s : Shared} {H : Hp} {E : XK} {scope : Scope} {f c : Addr} :
    Passes (L2.CX X.prog X.w) (lamCx X A outer s H E scope f c) E :=
  passes_call (takes_of (X := lamCx X A outer s H E scope f c) (E := E) rfl rfl rfl rfl) fun _ _ _ _ h => h

/-! ### a written dict of ints: each value a tuple of ints -/
def keyI : Value → Option Int
  | .int i _ => some i
  | _ => none
def allI : List Value → Option (List Int)
  | [] => some []
  | v :: r => match keyI v, allI r with
    | some i, some is => some (i :: is)
    | _, _ => none
/-- the ints of the tuple of the written part at a -/
def tupI (K : PySem.W.Frag) : Value → Option (List Int)
  | .ref a => match K.lookup a with
    | some ⟨.type "tuple", none, .seq us _, _⟩ => allI us.toList
    | _ => none
  | _ => none
def rowsI (K : PySem.W.Frag) : List DictEntry → Option (List (Int × List Int))
  | [] => some []
  | e :: r => match keyI e.key, tupI K e.val, rowsI K r with
    | some i, some t, some l => if e.hash = hashInt i then some ((i, t) :: l) else none
    | _, _, _ => none
def dictI (K : PySem.W.Frag) (d : Addr) : Option (List (Int × List Int)) :=
  match K.lookup d with
  | some ⟨.type "dict", none, .dict es _, sl⟩ => if sl.isEmpty && !(d == sysModules) then rowsI K es.toList else none
  | _ => none

theorem keyI_some {v : Value} {i : Int} (h : keyI v = some i) : ∃ t, v = .int i t := by
  cases v <;> simp_all [keyI]
theorem allI_some : ∀ {us : List Value} {is : List Int}, allI us = some is → Vals (is.map V.int) us := by
  intro us
  induction us with
  | nil =>
    intro is h
    cases h
    exact .nil
  | cons v r ih =>
    intro is h
    unfold allI at h
    split at h
    · rename_i i l e1 e2
      cases h
      obtain ⟨t, rfl⟩ := keyI_some e1
      exact .cons ⟨t, rfl⟩ (ih e2)
    · cases h

theorem tupI_some {K : PySem.W.Frag} {v : Value} {is : List Int} (h : tupI K v = some is) :
    ∃ a us n sl, v = .ref a ∧ K.lookup a = some ⟨.type "tuple", none, .seq us n, sl⟩ ∧ Vals (is.map V.int) us.toList := by
  unfold tupI at h
  split at h
  · rename_i a
    split at h
    · rename_i us n sl e
      exact ⟨a, us, n, sl, rfl, e, allI_some h⟩
    · cases h
  · cases h

theorem rowsI_all {K : PySem.W.Frag} : ∀ {es : List DictEntry} {rows : List (Int × List Int)}, rowsI K es = some rows →
    (∀ e ∈ es, ∃ k t, e.key = .int k t ∧ e.hash = hashInt k) ∧
    (∀ k, rows.lookup k = none → (es.find? fun e => Value.isInt k e.key) = none) ∧
    ∀ k is, rows.lookup k = some is → ∃ e, (es.find? fun e => Value.isInt k e.key) = some e ∧ tupI K e.val = some is := by
  intro es
  induction es with
  | nil =>
    intro rows h
    cases h
    exact ⟨fun e he => (List.not_mem_nil he).elim, fun _ _ => rfl, fun k is z => by cases z⟩
  | cons e r ih =>
    intro rows h
    unfold rowsI at h
    split at h
    · rename_i i t l e1 e2 e3
      split at h
      · rename_i hh
        cases h
        obtain ⟨tk, ek⟩ := keyI_some e1
        obtain ⟨h1, h2, h3⟩ := ih e3
        have test : ∀ k, Value.isInt k e.key = decide (i = k) := by
          intro k
          rw [ek]
          show (i == k) = decide (i = k)
          by_cases q : i = k
          · subst q
            rw [beq_self_eq_true, decide_eq_true rfl]
          · rw [beq_eq_false_iff_ne.mpr q, decide_eq_false q]
        refine ⟨fun x hx => ?_, fun k z => ?_, fun k is z => ?_⟩
        · obtain rfl | hx := List.mem_cons.mp hx
          · exact ⟨i, tk, ek, hh⟩
          · exact h1 x hx
        · rw [List.lookup_cons] at z
          rw [List.find?_cons, test]
          by_cases q : k = i
          · subst q
            rw [beq_self_eq_true] at z
            cases z
          · rw [show (k == i) = false from beq_eq_false_iff_ne.mpr q] at z
            rw [show decide (i = k) = false from decide_eq_false fun y => q y.symm]
            exact h2 k z
        · rw [List.lookup_cons] at z
          rw [List.find?_cons, test]
          by_cases q : k = i
          · subst q
            rw [beq_self_eq_true] at z
            cases z
            rw [show decide (k = k) = true from decide_eq_true rfl]
            exact ⟨e, rfl, e2⟩
          · rw [show (k == i) = false from beq_eq_false_iff_ne.mpr q] at z
            rw [show decide (i = k) = false from decide_eq_false fun y => q y.symm]
            exact h3 k is z
      · cases h
    · cases h

/-- what such a dict tells, as the library's dict rules want it -/
theorem dictI_map {K : PySem.W.Frag} {prog : Program} {w : World} {h : Heap} {d : Addr} {rows : List (Int × List Int)} (kin : K.In h)
    (e : dictI K d = some rows) : (d == sysModules) = false ∧ ∃ f : Int → Option Value, h.MapOf (PySem.intKind prog w) d f ∧
      (∀ k, rows.lookup k = none → f k = none) ∧ ∀ k is, rows.lookup k = some is → ∃ v, f k = some v ∧ tupI K v = some is := by
  unfold dictI at e
  split at e
  · rename_i es n sl hl
    split at e
    · rename_i hc
      rw [Bool.and_eq_true] at hc
      obtain ⟨c1, c2⟩ := hc
      obtain ⟨h1, h2, h3⟩ := rowsI_all e
      have c1 : sl = #[] := Array.isEmpty_iff.mp c1
      subst c1
      have same : ∀ k, findBy Value.isInt es k = ((es.toList.find? fun e => Value.isInt k e.key).map (·.val)) := by
        intro k
        obtain ⟨l⟩ := es
        unfold findBy
        rw [List.find?_toArray]
      refine ⟨by simpa using c2, fun k => findBy Value.isInt es k, ⟨_, es, n, kin _ _ hl, ⟨rfl, rfl, rfl⟩, rfl, fun x hx => ?_, fun k => rfl⟩, fun k z => ?_, fun k is z => ?_⟩
      · obtain ⟨k, t, ek, eh⟩ := h1 x (Array.mem_toList_iff.mpr hx)
        exact ⟨k, by rw [ek]; simp [PySem.intKind, Value.isInt], eh⟩
      · show findBy Value.isInt es k = none
        rw [same, h2 k z]
        rfl
      · obtain ⟨x, e1, e2⟩ := h3 k is z
        exact ⟨x.val, by show findBy Value.isInt es k = _; rw [same, e1]; rfl, e2⟩
    · cases e
  · cases e

section
variable {X : Cx}
/-- k not in d, of such a dict -/
def rNotInI (K : PySem.W.Frag) : R2 := fun x y H Q => ∃ (k : Int) (d : Addr) (rows : List (Int × List Int)),
  x = .int k ∧ y = .ref d ∧ dictI K d = some rows ∧ Q (.bl (!(rows.lookup k).isSome)) H
theorem op_notInI : OpR X (compareOp .NotIn) (rNotInI X.K) := by
  intro pins s σ H x y v u Q I rx ry h
  obtain ⟨k, d, rows, rfl, rfl, e, q⟩ := h
  obtain ⟨t, rfl⟩ := rx
  cases (show u = Value.ref d from ry)
  obtain ⟨low, f, hm, f1, f2⟩ := dictI_map (prog := X.prog) (w := X.w) I.kIn e
  refine wpAny_notIn_of (intKind_is X.prog X.w k t) low hm ?_
  have fe : (f k).isSome = (rows.lookup k).isSome := by
    cases z : rows.lookup k with
    | none =>
      rw [f1 k z]
      rfl
    | some is =>
      obtain ⟨v, e1, _⟩ := f2 k is z
      rw [e1]
      rfl
  rw [fe]
  exact ⟨.bl _, H, I.tok _, rfl, q⟩
/-- d[k]: the tuple that stands there -/
def rIxI (K : PySem.W.Frag) : R2 := fun x y H Q => ∃ (k : Int) (d : Addr) (rows : List (Int × List Int)) (is : List Int),
  x = .ref d ∧ y = .int k ∧ dictI K d = some rows ∧ rows.lookup k = some is ∧ is.length ≤ 1000 ∧ ∀ a, SqT K H a (is.map V.int) → Q (.ref a) H
theorem ix_int : IxR X (rIxI X.K) := by
  intro value slice pins s σ H x y v u Q I rx ry h hs
  obtain ⟨k, d, rows, is, rfl, rfl, e, l, few, q⟩ := h
  cases (show v = Value.ref d from rx)
  obtain ⟨t, rfl⟩ := ry
  obtain ⟨low, f, hm, f1, f2⟩ := dictI_map (prog := X.prog) (w := X.w) I.kIn e
  obtain ⟨v, e1, e2⟩ := f2 k is l
  obtain ⟨a, us, n, sl, rfl, ha, rv⟩ := tupI_some e2
  have size : us.size ≤ sizeLine := by
    have z := Paired.length rv
    rw [List.length_map] at z
    have z2 : us.toList.length = us.size := Array.length_toList
    rw [sizeLine_eq]
    omega
  refine tail_any hm.typeIs slot_dict_getitem.lookup (wpAny_getItem_of (intKind_is X.prog X.w k t) hm e1 ⟨.ref a, H, I.tok _, rfl, q a ?_⟩) hs
  exact .inr ⟨_, us, n, ha, rfl, rfl, size, rv⟩
end
end Gd

namespace K09
open PySem L2 Gd
def top (i : Nat) : Stmt := PySem.Challenge.pw_restcounts_k09_sums_of_powers_kept.main.body.getD i (.Pass ⟨0, 0, 0, 0⟩)
abbrev sPen : Stmt := top 30
abbrev sDraw : Stmt := top 31
abbrev sPick : Stmt := top 32
/-! ### the law's pen: where drawn numbers come from -/
abbrev kC : Key := Sum.inr "cells"
abbrev kA : Key := Sum.inr "at"
abbrev kG : Key := Sum.inr "digits"
abbrev kN : Key := Sum.inr "count"
abbrev kF : Key := Sum.inr "fold"
theorem kne : (kA = kC) = False ∧ (kG = kC) = False ∧ (kN = kC) = False ∧ (kF = kC) = False ∧ (kC = kA) = False ∧ (kG = kA) = False ∧ (kN = kA) = False ∧ (kF = kA) = False ∧
    (kC = kG) = False ∧ (kA = kG) = False ∧ (kN = kG) = False ∧ (kF = kG) = False ∧ (kC = kN) = False ∧ (kA = kN) = False ∧ (kG = kN) = False ∧ (kF = kN) = False ∧
    (kC = kF) = False ∧ (kA = kF) = False ∧ (kG = kF) = False ∧ (kN = kF) = False := by
  refine ⟨?_, ?_, ?_, ?_, ?_, ?_, ?_, ?_, ?_, ?_, ?_, ?_, ?_, ?_, ?_, ?_, ?_, ?_, ?_, ?_⟩ <;> exact eq_false (by decide +kernel)
theorem putK_same {kvs : List (Key × V)} {k : Key} {v x : V} (h : valV kvs k = some x) : (putK kvs k v).length = kvs.length := by
  have e := valV_any k kvs
  rw [h, Option.isSome_some] at e
  unfold putK
  rw [if_pos e, List.length_map]
theorem dg {H : Hp} {a : Addr} {kvs : List (Key × V)} (k : Key) {v : V} (hd : H a = some (.dK kvs)) (h : valV kvs k = some v) : DGet H a (kV k) (some v) := h ▸ DGet.k hd
theorem five {n : Nat} (h : n ≤ 5) : n < sizeLine := small1000 (by omega)
theorem put_in {kvs : List (Key × V)} (k j : Key) (v : V) {x : V} (h : valV kvs j = some x) (ne : (j = k) = False) : valV (putK kvs k v) j = some x := by
  rw [valV_put, if_neg (by rw [ne]; exact id)]
  exact h
theorem put_at {kvs : List (Key × V)} (k : Key) (v : V) : valV (putK kvs k v) k = some v := by
  rw [valV_put, if_pos rfl]
/-- the pen at d, its cells at c; n draws were made -/
def Pen (H : Hp) (d c : Addr) (n : Int) : Prop := ∃ (kvs : List (Key × V)) (cs : List Int) (p g f : Int), H d = some (.dK kvs) ∧ H c = some (.lst (cs.map V.int)) ∧
  kvs.length ≤ 5 ∧ valV kvs kC = some (.ref c) ∧ valV kvs kA = some (.int p) ∧ valV kvs kG = some (.int g) ∧ valV kvs kN = some (.int n) ∧ valV kvs kF = some (.int f) ∧
  (0 ≤ p ∧ 0 ≤ g) ∧ (0 ≤ f ∧ f < 2147483648)
theorem Pen.ne {H : Hp} {d c : Addr} {n : Int} (h : Pen H d c n) : c ≠ d := by
  obtain ⟨kvs, cs, p, g, f, h1, h2, _⟩ := h
  exact ne_of h2 h1 (by intro z; cases z)
theorem Pen.keep {H H' : Hp} {d c : Addr} {n : Int} (h : Pen H d c n) (e1 : H' d = H d) (e2 : H' c = H c) : Pen H' d c n := by
  obtain ⟨kvs, cs, p, g, f, h1, h2, r⟩ := h
  exact ⟨kvs, cs, p, g, f, e1.trans h1, e2.trans h2, r⟩
theorem Pen.at {H : Hp} {d c : Addr} {n : Int} (h : Pen H d c n) : ∃ o, H d = some o := let ⟨_, _, _, _, _, h1, _⟩ := h; ⟨_, h1⟩
theorem Pen.atc {H : Hp} {d c : Addr} {n : Int} (h : Pen H d c n) : ∃ o, H c = some o := let ⟨_, _, _, _, _, _, h2, _⟩ := h; ⟨_, h2⟩
/-- new objects do not touch the pen -/
theorem Pen.upd {H : Hp} {d c p : Addr} {n : Int} {o : HO} (h : Pen H d c n) (hp : H p = none) : Pen (upd H p o) d c n := by
  obtain ⟨o1, h1⟩ := h.at
  obtain ⟨o2, h2⟩ := h.atc
  exact h.keep (upd_ne (ne_of_none h1 hp)) (upd_ne (ne_of_none h2 hp))
/-- what a draw leaves -/
structure Drawn (H H' : Hp) (d c : Addr) (n : Int) : Prop where
  pen : Pen H' d c n
  off : ∀ b, b ≠ d → H' b = H b
theorem Drawn.trans {H H1 H2 : Hp} {d c : Addr} {n m : Int} (a : Drawn H H1 d c n) (b : Drawn H1 H2 d c m) : Drawn H H2 d c m := ⟨b.pen, fun x hx => (b.off x hx).trans (a.off x hx)⟩
/-- one step: a number of the pen is put anew -/
theorem pen_put {H : Hp} {d c : Addr} {kvs : List (Key × V)} {k : Key} {v x : V} (hd : H d = some (.dK kvs)) (l : kvs.length ≤ 5) (h : valV kvs k = some x) :
    (upd H d (.dK (putK kvs k v))) d = some (.dK (putK kvs k v)) ∧ (putK kvs k v).length ≤ 5 := ⟨upd_same, by rw [putK_same h]; exact l⟩

def spDraw : Sp := fun vs H Q _ => ∃ (d c : Addr) (n m : Int), vs = [.ref d, .int m] ∧ Pen H d c n ∧ 0 < m ∧ m ≤ 1000000000 ∧ 0 ≤ n ∧ n < 1000000000 ∧
  ∀ (r : Int) (H' : Hp), 0 ≤ r → r < m → Drawn H H' d c (n + 1) → Q (.int r) H'
def spPen (K : PySem.W.Frag) : Sp := fun vs H Q _ => ∃ (a : Addr) (ns : List Int), vs = [.ref a] ∧ SqL K H a (ns.map V.int) ∧
  ∀ (H' : Hp) (d c : Addr), Pen H' d c 0 → (∀ b o, H b = some o → H' b = some o) → H d = none → Q (.ref d) H'
def spPick (K : PySem.W.Frag) : Sp := fun vs H Q _ => ∃ (d c a : Addr) (n : Int) (xs : List V), vs = [.ref d, .ref a] ∧ Pen H d c n ∧ H a = some (.lst xs) ∧ 0 < xs.length ∧ xs.length ≤ 1000 ∧ 0 ≤ n ∧ n < 1000000000 ∧
  ∀ (x : V) (H' : Hp), x ∈ xs → Drawn H H' d c (n + 1) → Q x H'
section
variable {P : Program} {w : World} {K : PySem.W.Frag} {mg : Str → Option Value} {base : Heap}
theorem scDraw : FnScope ["_law_pen_here", "_law_many", "_law_cell", "_law_digit", "_law_mixed"] ["_law_pen_here", "_law_many"] (defScope sDraw) := ⟨rfl, rfl, rfl, by decide +kernel, rfl, by decide +kernel, by decide +kernel⟩
theorem ok_draw {f : Addr} {fd : FuncData} (F : Fun K "_law_draw" "_law_draw" sDraw f fd) (mInt : mg "int" = none) (mLen : mg "len" = none) : FnOk P w K mg base CX0 1 f fd ["_law_pen_here", "_law_many"] spDraw := by
  refine F.ok scDraw (fun vs H Q E h => ?_) (fun cdv A outer s H vs Q E hr h => ?_)
  · obtain ⟨d, c, n, m, rfl, _⟩ := h
    rfl
  · obtain ⟨d, c, n, m, rfl, pen, m0, m1, n0, n1, k⟩ := h
    have hu := hu_of hr
    have ne := pen.ne
    obtain ⟨kvs, cs, p, g, f, hd, hc, hl, vC, vA, vG, vN, vF, ⟨p0, g0⟩, f0, f1⟩ := pen
    refine ⟨_, pss_cons (ps_dput hu (pv 0) pe_str (pe_op op_add (pe_dget hu (pv 0) pe_str (fun _ _ => rfl)) pe_int) rfl)
      (Evl.pss_cut (ps_if (PW.pt (pw_and (pt_cmpR op_eq (pe_dget hu (pv 0) pe_str (fun _ _ => rfl)) pe_int (nomark _))
            (pw_and1 (pt_cmpR op_lt (pe_dget hu (pv 0) pe_str (fun _ _ => rfl)) (pe_callB call_len_seq (by rfl) mLen PySem.boot_len (pa_cons (pe_dget hu (pv 0) pe_str (fun _ _ => rfl)) pa_nil)) (nomark _)))))
          (pss_cons (ps_set (i := 2) scDraw.nd rfl (Or.inl rfl) (pe_ix ix_list (pe_dget hu (pv 0) pe_str (fun _ _ => rfl)) (pe_dget hu (pv 0) pe_str (fun _ _ => rfl)) (fun _ _ => rfl)))
          (pss_cons (ps_dput hu (pv 0) pe_str (pe_op op_add (pe_dget hu (pv 0) pe_str (fun _ _ => rfl)) pe_int) rfl)
          (pss_one (ps_if (pt_cmpR op_ge (pv 2) (pe_op op_pow pe_int pe_int) (nomark _))
            (pss_one (ps_dput hu (pv 0) pe_str (pe_op op_sub (pv 2) (pe_op op_pow pe_int pe_int)) rfl))
            (pss_one (ps_dput hu (pv 0) pe_str (pe_op op_mod (pe_callTy call_int1 (by rfl) mInt (by decide +kernel) (pa_cons (pe_op op_add (pe_op op_mul (pe_dget hu (pv 0) pe_str (fun _ _ => rfl)) pe_int) (pv 2)) pa_nil)) pe_int) rfl))))))
          pss_nil)
      (pss_cons (ps_if (pt_cmpR op_gt (pe_dget hu (pv 0) pe_str (fun _ _ => rfl)) pe_int (nomark _))
          (pss_cons (ps_set (i := 3) scDraw.nd rfl (Or.inl rfl) (pe_op op_mod (pe_callTy call_int1 (by rfl) mInt (by decide +kernel) (pa_cons (pe_dget hu (pv 0) pe_str (fun _ _ => rfl)) pa_nil)) (pv 1)))
          (pss_cons (ps_dput hu (pv 0) pe_str (pe_op op_fdiv (pe_dget hu (pv 0) pe_str (fun _ _ => rfl)) (pv 1)) rfl)
          (pss_one (ps_ret (pv 3)))))
          pss_nil)
      (pss_cons (ps_set (i := 4) scDraw.nd rfl (Or.inl rfl) (pe_op op_add (pe_op op_add (pe_dget hu (pv 0) pe_str (fun _ _ => rfl)) (pe_op op_mul (pe_dget hu (pv 0) pe_str (fun _ _ => rfl)) pe_int)) pe_int))
      (pss_one (ps_ret (pe_op op_mod (pe_op op_fdiv (pe_callTy call_int1 (by rfl) mInt (by decide +kernel) (pa_cons (pe_op op_mod (pe_op op_pow (pv 4) pe_int) pe_int) pa_nil)) pe_int) (pv 1))))))), ?_⟩
    -- pen['count'] = pen['count'] + 1
    obtain ⟨ac, gc, nc, fc, ca, ga, na, fa, cg, ag, ng, fg, cn, an, gn, fn, cf, af, gf, nf⟩ := kne
    have l1 : (putK kvs kN (V.int (n + 1))).length ≤ 5 := by rw [putK_same vN]; exact hl
    have vC1 := put_in kN kC (V.int (n + 1)) vC cn
    have vA1 := put_in kN kA (V.int (n + 1)) vA an
    have vG1 := put_in kN kG (V.int (n + 1)) vG gn
    have vF1 := put_in kN kF (V.int (n + 1)) vF fn
    have vN1 : valV (putK kvs kN (V.int (n + 1))) kN = some (V.int (n + 1)) := put_at kN _
    refine ⟨_, rfl, d, _, rfl, dg kN hd vN, _, _, rfl, rfl, _, rfl, d, _, rfl, DPut.k (k := kN) hd (five hl), ?_⟩
    have hc1 : ∀ o, (L2.upd H d o) c = some (.lst (cs.map V.int)) := fun o => by rw [upd_ne ne]; exact hc
    generalize putK kvs kN (V.int (n + 1)) = kvs1 at *
    clear vC vA vG vN vF
    -- behind the if: a heap that differs at the pen alone
    refine ⟨fun σ' H' => ∃ (kvs : List (Key × V)) (p g f : Int) (z : Option V), σ' = [some (.ref d), some (.int m), z, none, none] ∧ H' d = some (.dK kvs) ∧ (∀ b, b ≠ d → H' b = H b) ∧
      kvs.length ≤ 5 ∧ valV kvs kC = some (.ref c) ∧ valV kvs kA = some (.int p) ∧ valV kvs kG = some (.int g) ∧ valV kvs kN = some (.int (n + 1)) ∧ valV kvs kF = some (.int f) ∧
      (0 ≤ p ∧ 0 ≤ g) ∧ (0 ≤ f ∧ f < 2147483648), ?_, ?_⟩
    · have mid : ∀ (z : Option V) (kvs2 : List (Key × V)) (H2 : Hp) (p g f : Int), H2 d = some (.dK kvs2) → (∀ b, b ≠ d → H2 b = H b) → kvs2.length ≤ 5 → valV kvs2 kC = some (.ref c) → valV kvs2 kA = some (.int p) →
          valV kvs2 kG = some (.int g) → valV kvs2 kN = some (.int (n + 1)) → valV kvs2 kF = some (.int f) → (0 ≤ p ∧ 0 ≤ g) → (0 ≤ f ∧ f < 2147483648) →
          ∃ (kvs : List (Key × V)) (p g f : Int) (z' : Option V), [some (V.ref d), some (V.int m), z, none, none] = [some (V.ref d), some (V.int m), z', none, none] ∧ H2 d = some (.dK kvs) ∧ (∀ b, b ≠ d → H2 b = H b) ∧
            kvs.length ≤ 5 ∧ valV kvs kC = some (.ref c) ∧ valV kvs kA = some (.int p) ∧ valV kvs kG = some (.int g) ∧ valV kvs kN = some (.int (n + 1)) ∧ valV kvs kF = some (.int f) ∧ (0 ≤ p ∧ 0 ≤ g) ∧ (0 ≤ f ∧ f < 2147483648) :=
        fun z kvs2 H2 p g f a1 a2 a3 a4 a5 a6 a7 a8 a9 a10 => ⟨kvs2, p, g, f, z, rfl, a1, a2, a3, a4, a5, a6, a7, a8, a9, a10⟩
      have off : ∀ o b, b ≠ d → (L2.upd H d o) b = H b := fun o b hb => upd_ne hb
      refine ⟨_, rfl, d, _, rfl, dg kG upd_same vG1, rfl, _, rfl, ite2 (fun _ => ?_) (fun _ => ?_)⟩
      · refine ⟨_, rfl, d, _, rfl, dg kA upd_same vA1, _, rfl, d, _, rfl, dg kC upd_same vC1, c, _, rfl, .inl (SqL.of (hc1 _)), _, _, rfl, rfl, _, rfl, ite2 (fun hlt => ?_) (fun _ => ?_)⟩
        · have hlt := of_decide_eq_true hlt
          rw [List.length_map] at hlt
          have hp : p.toNat < cs.length := by omega
          have hat : (cs.map V.int)[p.toNat]? = some (V.int cs[p.toNat]) := by rw [List.getElem?_map, List.getElem?_eq_getElem hp]; rfl
          refine ⟨_, rfl, d, _, rfl, dg kC upd_same vC1, _, rfl, d, _, rfl, dg kA upd_same vA1, c, _, _, _, rfl, rfl, SqL.of (hc1 _), at_of (by omega) hat, ?_⟩
          generalize cs[p.toNat] = x
          -- pen['at'] = pen['at'] + 1
          have l2 : (putK kvs1 kA (V.int (p + 1))).length ≤ 5 := by rw [putK_same vA1]; exact l1
          have vC2 := put_in kA kC (V.int (p + 1)) vC1 ca
          have vG2 := put_in kA kG (V.int (p + 1)) vG1 ga
          have vF2 := put_in kA kF (V.int (p + 1)) vF1 fa
          have vN2 := put_in kA kN (V.int (p + 1)) vN1 na
          have vA2 : valV (putK kvs1 kA (V.int (p + 1))) kA = some (V.int (p + 1)) := put_at kA _
          refine ⟨_, rfl, d, _, rfl, dg kA upd_same vA1, _, _, rfl, rfl, _, rfl, d, _, rfl, DPut.k (k := kA) upd_same (five l1), ?_⟩
          rw [upd_upd]
          generalize putK kvs1 kA (V.int (p + 1)) = kvs2 at *
          refine ⟨_, rfl, _, _, rfl, rfl, ⟨by decide, by decide, by decide⟩, _, _, rfl, rfl, _, rfl, ite2 (fun hge => ?_) (fun _ => ?_)⟩
          · have hge := of_decide_eq_true hge
            refine ⟨_, rfl, _, _, rfl, rfl, ⟨by decide, by decide, by decide⟩, _, _, rfl, rfl, _, rfl, d, _, rfl, DPut.k (k := kG) upd_same (five l2), ?_⟩
            rw [upd_upd]
            have e10 : (10 : Int) ^ (18 : Int).toNat = 1000000000000000000 := by decide
            exact mid _ _ _ (p + 1) _ f upd_same (off _) (by rw [putK_same vG2]; exact l2) (put_in kG kC _ vC2 cg) (put_in kG kA _ vA2 ag) (put_at kG _) (put_in kG kN _ vN2 ng) (put_in kG kF _ vF2 fg) ⟨by omega, by omega⟩ ⟨f0, f1⟩
          · refine ⟨_, rfl, d, _, rfl, dg kF upd_same vF2, _, _, rfl, rfl, .inl ⟨by omega, by omega⟩, _, rfl, _, _, rfl, rfl, .inl ⟨_, rfl, _, _, rfl, rfl, (by show (0 : Int) < 2147483587; decide), _, rfl, d, _, rfl, DPut.k (k := kF) upd_same (five l2), ?_⟩⟩
            rw [upd_upd]
            exact mid _ _ _ (p + 1) g _ upd_same (off _) (by rw [putK_same vF2]; exact l2) (put_in kF kC _ vC2 cf) (put_in kF kA _ vA2 af) (put_in kF kG _ vG2 gf) (put_in kF kN _ vN2 nf) (put_at kF _) ⟨by omega, by omega⟩ ⟨by omega, by omega⟩
        · exact mid _ _ _ p g f upd_same (off _) l1 vC1 vA1 vG1 vN1 vF1 ⟨p0, g0⟩ ⟨f0, f1⟩
      · refine iteF ?_
        exact mid _ _ _ p g f upd_same (off _) l1 vC1 vA1 vG1 vN1 vF1 ⟨p0, g0⟩ ⟨f0, f1⟩
    · clear vC1 vA1 vG1 vF1 vN1 l1 hc1 p0 g0 f0 f1 hl hd
      rintro σ' H2 ⟨kvs2, p2, g2, f2, z, rfl, hd2, off, l2, vC2, vA2, vG2, vN2, vF2, ⟨p0, g0⟩, f0, f1⟩
      have hc2 : H2 c = some (.lst (cs.map V.int)) := (off c ne).trans hc
      have m30 : m < 1073741824 := by omega
      refine ⟨_, rfl, d, _, rfl, dg kG hd2 vG2, _, _, rfl, rfl, _, rfl, ite2 (fun hgt => ?_) (fun _ => ?_)⟩
      · refine ⟨_, rfl, d, _, rfl, dg kG hd2 vG2, .inl ⟨_, rfl, _, rfl, _, _, rfl, rfl, m0, ?_⟩⟩
        refine ⟨_, rfl, d, _, rfl, dg kG hd2 vG2, _, rfl, _, _, rfl, rfl, ⟨m0, m30⟩, _, rfl, d, _, rfl, DPut.k (k := kG) hd2 (five l2), _, rfl, ?_⟩
        have q0 : 0 ≤ g2 / m := Int.ediv_nonneg g0 (by omega)
        refine k _ _ (Int.emod_nonneg _ (by omega)) (Int.emod_lt_of_pos _ m0) ⟨⟨_, cs, p2, g2 / m, f2, upd_same, by rw [upd_ne ne]; exact hc2, by rw [putK_same vG2]; exact l2, put_in kG kC _ vC2 cg, put_in kG kA _ vA2 ag, put_at kG _, put_in kG kN _ vN2 ng, put_in kG kF _ vF2 fg, ⟨p0, q0⟩, f0, f1⟩, fun b hb => by rw [upd_ne hb]; exact off b hb⟩
      · refine ⟨_, rfl, d, _, rfl, dg kF hd2 vF2, _, rfl, d, _, rfl, dg kN hd2 vN2, _, _, rfl, rfl, .inr ⟨by decide, by decide⟩, _, _, rfl, rfl, _, _, rfl, rfl, ?_⟩
        refine ⟨_, rfl, _, _, rfl, rfl, ⟨by decide, by decide, by omega⟩, _, _, rfl, rfl, (by show (0 : Int) < 2305843009213693951; decide), .inl ⟨_, rfl, _, _, rfl, rfl, ⟨by decide, by decide⟩, _, rfl, _, _, rfl, rfl, m0, ?_⟩⟩
        exact k _ _ (Int.emod_nonneg _ (by omega)) (Int.emod_lt_of_pos _ m0) ⟨⟨kvs2, cs, p2, g2, f2, hd2, hc2, l2, vC2, vA2, vG2, vN2, vF2, ⟨p0, g0⟩, f0, f1⟩, off⟩

theorem scPen : FnScope ["_law_script", "_law_fold", "_law_cell"] ["_law_script"] (defScope sPen) := ⟨rfl, rfl, rfl, by decide +kernel, rfl, by decide +kernel, by decide +kernel⟩
theorem ok_pen {f : Addr} {fd : FuncData} (F : Fun K "_law_pen" "_law_pen" sPen f fd) (mInt : mg "int" = none) (mLst : mg "list" = none) : FnOk P w K mg base CX0 1 f fd ["_law_script"] (spPen K) := by
  refine F.ok scPen (fun vs H Q E h => ?_) (fun cdv A outer s H vs Q E hr h => ?_)
  · obtain ⟨a, ns, rfl, _⟩ := h
    rfl
  · obtain ⟨a, ns, rfl, hS, k⟩ := h
    refine ⟨_, pss_cons (ps_set (i := 1) scPen.nd rfl (Or.inl rfl) pe_int)
      (pss_cons (ps_for PassesOwn.never rfl (pi_list (pv 0)) (pg_name (i := 2) scPen.nd rfl (Or.inl rfl))
        (pss_one (ps_set (i := 1) scPen.nd rfl (Or.inl rfl) (pe_op op_mod (pe_callTy call_int1 (by rfl) mInt (by decide +kernel) (pa_cons (pe_op op_add (pe_op op_mul (pv 1) pe_int) (pv 2)) pa_nil)) pe_int))))
      (pss_one (ps_ret (pe_disp (pps_cons pe_str (pe_callTy call_list_of (by rfl) mLst (by decide +kernel) (pa_cons (pv 0) pa_nil))
        (pps_cons pe_str pe_int (pps_cons pe_str pe_int (pps_cons pe_str pe_int (pps_cons pe_str (pv 1) pps_nil))))) rfl rfl (by simp) (by decide))))), ?_⟩
    refine ⟨_, rfl, a, rfl, ⟨_, hS⟩, for_list (K := K) (a := a) (xs := ns.map V.int) (fun _ σ H2 => ∃ (f : Int) (v : Option V), σ = [some (.ref a), some (.int f), v] ∧ H2 = H ∧ 0 ≤ f ∧ f < 1000000007)
      ⟨0, none, rfl, rfl, by decide, by decide⟩ (fun i σ H2 _ ⟨_, _, _, e, _⟩ => e ▸ hS) ?_ ?_⟩
    · rintro i y σ H2 hi ⟨f, v, rfl, rfl, f0, f1⟩
      obtain ⟨z, rfl⟩ : ∃ z, y = V.int z := by
        rw [List.getElem?_map] at hi
        cases e : ns[i]? with
        | none => rw [e] at hi; cases hi
        | some z => rw [e] at hi; exact ⟨z, (Option.some.inj hi).symm⟩
      refine ⟨_, rfl, _, _, rfl, rfl, .inl ⟨by omega, by omega⟩, _, rfl, _, _, rfl, rfl, .inl ⟨_, rfl, _, _, rfl, rfl, (by show (0 : Int) < 1000000007; decide), ?_⟩⟩
      exact ⟨_, _, rfl, rfl, Int.emod_nonneg _ (by decide), Int.emod_lt_of_pos _ (by decide)⟩
    · rintro σ H2 ⟨f, v, rfl, rfl, f0, f1⟩
      intro d hd
      have hS1 : SqL K (L2.upd H2 d (.dK [])) a (ns.map V.int) := Same.seq (fun b o e => by rw [upd_ne (ne_of_none e hd)]; exact e) hS
      refine ⟨_, rfl, a, _, rfl, .inl hS1, fun c hc => ?_⟩
      have ncd : c ≠ d := fun e => by
        rw [e, upd_same] at hc
        cases hc
      have hc0 : H2 c = none := by rw [upd_ne ncd] at hc; exact hc
      refine ⟨_, rfl, by rw [upd_ne ncd.symm, upd_same], [(kC, .ref c), (kA, .int 0), (kG, .int 0), (kN, .int 0), (kF, .int f)], rfl, (by show 5 ≤ 15; decide), ?_⟩
      have lm := length_mergeK [(kC, V.ref c), (kA, .int 0), (kG, .int 0), (kN, .int 0), (kF, .int f)] []
      obtain ⟨ac, gc, nc, fc, ca, ga, na, fa, cg, ag, ng, fg, cn, an, gn, fn, cf, af, gf, nf⟩ := kne
      have em : mergeK [] [(kC, V.ref c), (kA, .int 0), (kG, .int 0), (kN, .int 0), (kF, .int f)] = putK (putK (putK (putK (putK [] kC (.ref c)) kA (.int 0)) kG (.int 0)) kN (.int 0)) kF (.int f) := rfl
      have v1 : valV (mergeK [] [(kC, V.ref c), (kA, .int 0), (kG, .int 0), (kN, .int 0), (kF, .int f)]) kC = some (.ref c) := by
        rw [em]; exact put_in _ _ _ (put_in _ _ _ (put_in _ _ _ (put_in _ _ _ (put_at _ _) ca) cg) cn) cf
      have v2 : valV (mergeK [] [(kC, V.ref c), (kA, .int 0), (kG, .int 0), (kN, .int 0), (kF, .int f)]) kA = some (.int 0) := by
        rw [em]; exact put_in _ _ _ (put_in _ _ _ (put_in _ _ _ (put_at _ _) ag) an) af
      have v3 : valV (mergeK [] [(kC, V.ref c), (kA, .int 0), (kG, .int 0), (kN, .int 0), (kF, .int f)]) kG = some (.int 0) := by
        rw [em]; exact put_in _ _ _ (put_in _ _ _ (put_at _ _) gn) gf
      have v4 : valV (mergeK [] [(kC, V.ref c), (kA, .int 0), (kG, .int 0), (kN, .int 0), (kF, .int f)]) kN = some (.int 0) := by
        rw [em]; exact put_in _ _ _ (put_at _ _) nf
      have v5 : valV (mergeK [] [(kC, V.ref c), (kA, .int 0), (kG, .int 0), (kN, .int 0), (kF, .int f)]) kF = some (.int f) := by
        rw [em]; exact put_at _ _
      have l5 : (mergeK [] [(kC, V.ref c), (kA, .int 0), (kG, .int 0), (kN, .int 0), (kF, .int f)]).length ≤ 5 := lm
      refine k _ d c ⟨_, ns, 0, 0, f, upd_same, by rw [upd_ne ncd, upd_same], l5, v1, v2, v3, v4, v5, by decide, f0, by omega⟩ (fun b o e => ?_) hd
      rw [upd_ne (ne_of_none e hd), upd_ne (ne_of_none e hc0), upd_ne (ne_of_none e hd)]
      exact e
theorem scPick : FnScope ["_law_pen_here", "_law_some"] ["_law_pen_here", "_law_some"] (defScope sPick) := ⟨rfl, rfl, rfl, by decide +kernel, rfl, by decide +kernel, by decide +kernel⟩
theorem ok_pick {f fD : Addr} {fd fdD : FuncData} (F : Fun K "_law_pick" "_law_pick" sPick f fd) (FD : Fun K "_law_draw" "_law_draw" sDraw fD fdD) (bD : Binds K fdD ["_law_pen_here", "_law_many"] []) (mD : mg "_law_draw" = some (.ref fD))
    (mInt : mg "int" = none) (mLen : mg "len" = none) : FnOk P w K mg base CX0 2 f fd ["_law_pen_here", "_law_some"] (spPick K) := by
  have GD : FnOk P w K mg base CX0 1 fD fdD ["_law_pen_here", "_law_many"] spDraw := ok_draw FD mInt mLen
  refine F.ok scPick (fun vs H Q E h => ?_) (fun cdv A outer s H vs Q E hr h => ?_)
  · obtain ⟨d, c, a, n, xs, rfl, _⟩ := h
    rfl
  · obtain ⟨d, c, a, n, xs, rfl, pen, ha, x0, x1, n0, n1, k⟩ := h
    refine ⟨_, pss_one (ps_ret (pe_ix ix_list (pv 1) (pe_call GD hr rfl mD FD.kp bD .nil pass0 (pa_cons (pv 0) (pa_cons (pe_callB call_len_seq (by rfl) mLen PySem.boot_len (pa_cons (pv 1) pa_nil)) pa_nil))) (fun _ _ => rfl))), ?_⟩
    refine ⟨_, rfl, _, rfl, _, rfl, a, _, rfl, .inl (SqL.of ha), d, c, n, _, rfl, pen, by omega, by omega, n0, n1, fun r H' r0 r1 dr => ?_⟩
    have nda : a ≠ d := fun e => by
      obtain ⟨kvs, cs, p, g, f, h1, _⟩ := pen
      rw [e, h1] at ha
      cases ha
    have hr : r.toNat < xs.length := by omega
    refine ⟨a, _, _, _, rfl, rfl, SqL.of ((dr.off a nda).trans ha), at_of (j := r.toNat) (by omega) (List.getElem?_eq_getElem hr), ?_⟩
    exact k _ _ (List.getElem_mem hr) dr
end
/-! ### the errors -/
/-- what an __init__ that keeps its arguments as fields does -/
def spIni (C : Addr) (fs : List Str) : Sp := fun vs H Q _ => ∃ (a : Addr) (ys : List V), vs = .ref a :: ys ∧ ys.length = fs.length ∧ H a = some (exo a C none) ∧
  ∀ (H' : Hp) (dx : Addr), H dx = none → dx ≠ a → (∀ b, b ≠ a → b ≠ dx → H' b = H b) → H' a = some (exo a C (some dx)) → H' dx = some (exd dx (fs.zip ys).reverse) → Q .non H'
section
variable {P : Program} {w : World} {K : PySem.W.Frag} {mg : Str → Option Value} {base : Heap}
abbrev sBadRow : Stmt := inClass (top 6) 0
theorem scBadRow : FnScope ["self", "row"] ["self", "row"] (defScope sBadRow) := ⟨rfl, rfl, rfl, by decide +kernel, rfl, by decide +kernel, by decide +kernel⟩
theorem okBadRow {f C : Addr} {fd : FuncData} (F : Fun K "__init__" "BadRow.__init__" sBadRow f fd) (T : OexC K C) (no : ∀ g ∈ (["row"] : List Str), PySem.W.findIn K (.ref C) g = some none) : FnOk P w K mg base CX0 1 f fd ["self", "row"] (spIni C ["row"]) := by
  refine F.ok scBadRow (fun vs H Q E h => ?_) (fun cdv A outer s H vs Q E hr h => ?_)
  · obtain ⟨a, ys, rfl, hl, _⟩ := h
    show ys.length + 1 = _
    rw [hl]
    rfl
  · obtain ⟨a, ys, rfl, hl, ha, k⟩ := h
    match ys, hl with
    | [y0], _ =>
    refine ⟨_, pss_one (ps_ost (pv 0) (pv 1)), ?_⟩
    refine ⟨_, rfl, _, rfl, a, C, rfl, T, no _ (.head _), .inl ⟨ha, fun dx hdx ne => ?_⟩⟩
    refine k _ dx hdx ne (fun b hb hd => ?_) ?_ ?_
    · rw [upd_ne hb, upd_ne hd]
    · exact upd_same
    · rw [upd_ne ne, upd_same]; rfl
end
end K09

namespace K09
open PySem L2 Gd
/-! ### kinds of values -/
def offInt : List String := ["bool", "NoneType", "str", "list", "tuple", "dict"]
theorem off_int : ∀ n ∈ offInt, kitB n "int" = some (decide (n = "bool")) ∧ kitB n "bool" = some (decide (n = "bool")) := by decide +kernel
theorem on_int : kitB "int" "int" = some true ∧ kitB "int" "bool" = some false := by decide +kernel
/-- no int at all, or a bool -/
def NoInt (K : PySem.W.Frag) (H : Hp) (x : V) : Prop := ∃ n, n ∈ offInt ∧ TyX K H x (.type n)
theorem tyMore {K : PySem.W.Frag} {H H' : Hp} {x : V} {n : String} (e : ∀ b o, H b = some o → H' b = some o) (t : TyX K H x (.type n)) : TyX K H' x (.type n) := by
  cases t with
  | base t =>
    refine .base ?_
    cases t with
    | non => exact .non
    | bl b => exact .bl b
    | int i => exact .int i
    | str z => exact .str z
    | flt z => exact .flt z
    | lst h => exact .lst (e _ _ h)
    | frz h => exact .frz (e _ _ h)
    | tup h => exact .tup (e _ _ h)
    | dK h => exact .dK (e _ _ h)
    | dT h => exact .dT (e _ _ h)
  | byt b => exact .byt b
  | set h => exact .set (e _ _ h)
  | kList h c => exact .kList h c
  | kTuple h c => exact .kTuple h c
  | kDict h c => exact .kDict h c
  | fTuple h => exact .fTuple (e _ _ h)
  | fDict h => exact .fDict (e _ _ h)
theorem NoInt.more {K : PySem.W.Frag} {H H' : Hp} {x : V} (e : ∀ b o, H b = some o → H' b = some o) (h : NoInt K H x) : NoInt K H' x :=
  let ⟨n, m, t⟩ := h; ⟨n, m, tyMore e t⟩
def spIsI (K : PySem.W.Frag) : Sp := fun vs H Q _ => ∃ x, vs = [x] ∧ ((∃ i, x = .int i ∧ Q (.bl true) H) ∨ (NoInt K H x ∧ Q (.bl false) H) ∨ ∃ t, TyX K H x t ∧ PySem.W.kitOne K t (.type "int") = some false ∧ Q (.bl false) H)
section
variable {P : Program} {w : World} {K : PySem.W.Frag} {mg : Str → Option Value} {base : Heap}
abbrev sIsI : Stmt := top 8
theorem scIsI : FnScope ["value"] ["value"] (defScope sIsI) := ⟨rfl, rfl, rfl, by decide +kernel, rfl, by decide +kernel, by decide +kernel⟩
theorem ok_isI {f : Addr} {fd : FuncData} (F : Fun K "is_integer" "is_integer" sIsI f fd) (mIsi : mg "isinstance" = none) (mInt : mg "int" = none) (mBool : mg "bool" = none) : FnOk P w K mg base CX0 1 f fd ["value"] (spIsI K) := by
  refine F.ok scIsI (fun vs H Q E h => ?_) (fun cdv A outer s H vs Q E hr h => ?_)
  · obtain ⟨x, rfl, _⟩ := h
    rfl
  · obtain ⟨x, rfl, h⟩ := h
    refine ⟨_, pss_one (ps_ret (pe_and (pe_callB call_isi (by rfl) mIsi (by decide +kernel) (pa_cons (pv 0) (pa_cons (pe_bltn (v := .ty "int") rfl mInt (by decide +kernel) rfl) pa_nil)))
      (pe_one (pe_not (pe_callB call_isi (by rfl) mIsi (by decide +kernel) (pa_cons (pv 0) (pa_cons (pe_bltn (v := .ty "bool") rfl mBool (by decide +kernel) rfl) pa_nil))))))), ?_⟩
    obtain ⟨i, rfl, q⟩ | ⟨⟨n, hn, t⟩, q⟩ | ⟨t, ty, kt, q⟩ := h
    · refine ⟨_, rfl, _, _, _, _, _, rfl, .ty "int", .base (.int i), kit_ty on_int.1, _, rfl, iteT ?_⟩
      exact ⟨_, rfl, _, _, _, _, _, rfl, .ty "bool", .base (.int i), kit_ty on_int.2, _, rfl, q⟩
    · obtain ⟨k1, k2⟩ := off_int n hn
      refine ⟨_, rfl, _, _, _, _, _, rfl, .ty "int", t, kit_ty k1, _, rfl, ite2 (fun z => ?_) (fun z => q)⟩
      refine ⟨_, rfl, _, _, _, _, _, rfl, .ty "bool", t, kit_ty k2, _, rfl, ?_⟩
      rw [z]
      exact q
    · exact ⟨_, rfl, _, _, _, _, _, rfl, .ty "int", ty, kt, _, rfl, iteF q⟩
end
theorem pi_or {X : Cx} {tg it : Expr} {u v : TI} (a : PI X tg it u) (b : PI X tg it v) : PI X tg it (fun σ H R => u σ H R ∨ v σ H R) where
  run := by
    rintro pins s σ H R I (h | h)
    · exact a.run pins s σ H R I h
    · exact b.run pins s σ H R I h
theorem sqT_more {K : PySem.W.Frag} {H H' : Hp} {a : Addr} {xs : List V} (e : ∀ b o, H b = some o → H' b = some o) : SqT K H a xs → SqT K H' a xs
  | .inl (.inl h) => .inl (.inl (e _ _ h))
  | .inl (.inr ⟨o, h⟩) => .inl (.inr ⟨o, e _ _ h⟩)
  | .inr h => .inr h
/-- a list or a tuple of xs -/
def Sq (K : PySem.W.Frag) (H : Hp) (a : Addr) (xs : List V) : Prop := SqL K H a xs ∨ SqT K H a xs
theorem Sq.more {K : PySem.W.Frag} {H H' : Hp} {a : Addr} {xs : List V} (e : ∀ b o, H b = some o → H' b = some o) : Sq K H a xs → Sq K H' a xs
  | .inl h => .inl (Same.seq e h)
  | .inr h => .inr (sqT_more e h)
/-! ### errors of the program -/
structure Er (K : PySem.W.Frag) (mg : Str → Option Value) (x q : Str) (C fI : Addr) (fs : List Str) (st : Stmt) (fd : FuncData) : Prop where
  T : OexC K C
  iC : PySem.W.findIn K (.ref C) "__init__" = some (some (.ref fI))
  tI : PySem.W.typeIn K (.ref fI) = some (.type "function")
  fn : Fun K "__init__" q st fI fd
  b : Binds K fd ("self" :: fs) []
  no : ∀ g ∈ fs, PySem.W.findIn K (.ref C) g = some none
  g : mg x = some (.ref C)
theorem mk_ini {C : Addr} {fs : List Str} {vs : List V} {H1 : Hp} {Q : XK} (hl : vs.length = fs.length) (h9 : vs.length ≤ 900)
    (h : ∀ d, H1 d = none → Q (.ref C) (some d) (upd H1 d (.xd (fs.zip vs).reverse))) : vs.length ≤ 1000 ∧ ∀ a, H1 a = none →
      spIni C fs (.ref a :: (vs ++ [])) (upd H1 a (exo a C none)) (fun v H2 => v = .non ∧ ∃ (d : Addr) (fs' : List (Str × V)), H2 a = some (exo a C (some d)) ∧
        H2 d = some (exd d fs') ∧ H1 d = none ∧ Q (.ref C) (some d) (upd (del H2 a) d (.xd fs'))) (fun _ _ _ => False) := by
  refine ⟨by omega, fun a ha => ⟨a, vs, by rw [List.append_nil], hl, upd_same, fun H' dx hdx ne off e1 e2 => ⟨rfl, dx, _, e1, e2, ?_, ?_⟩⟩⟩
  · rw [upd_ne ne] at hdx
    exact hdx
  · rw [upd_ne ne] at hdx
    have same : upd (del H' a) dx (.xd (fs.zip vs).reverse) = upd H1 dx (.xd (fs.zip vs).reverse) := by
      funext b
      by_cases q : b = dx
      · subst q
        rw [upd_same, upd_same]
      · rw [upd_ne q, upd_ne q]
        by_cases z : b = a
        · subst z
          rw [del_same, ha]
        · rw [del_ne z, off b z q, upd_ne z]
    rw [same]
    exact h dx hdx
def RRow (CR : Addr) (x : V) (H : Hp) (E : XK) : Prop := ∀ d, H d = none → E (.ref CR) (some d) (upd H d (.xd [("row", x)]))
section
variable {P : Program} {w : World} {K : PySem.W.Frag} {mg : Str → Option Value} {base : Heap}
/-- a def of the text -/
structure Cl (K : PySem.W.Frag) (mg : Str → Option Value) (x : Str) (st : Stmt) (ps : List Str) (f : Addr) (fd : FuncData) : Prop where
  fn : Fun K x x st f fd
  b : Binds K fd ps []
  g : mg x = some (.ref f)
theorem Cl.k {x : Str} {st : Stmt} {ps : List Str} {f : Addr} {fd : FuncData} (h : Cl K mg x st ps f fd) : PySem.W.keepIn K (.ref f) = true := h.fn.kp
structure Blt (mg : Str → Option Value) : Prop where
  int_ : mg "int" = none
  bool_ : mg "bool" = none
  tup_ : mg "tuple" = none
  len_ : mg "len" = none
  list_ : mg "list" = none
  range_ : mg "range" = none
  isi_ : mg "isinstance" = none
  repr_ : mg "repr" = none
  all_ : mg "all" = none
  divmod_ : mg "divmod" = none
  rev_ : mg "reversed" = none
end
abbrev More (H H' : Hp) : Prop := ∀ b o, H b = some o → H' b = some o
theorem More.new {H H' : Hp} {p : Addr} {o : HO} (m : More H H') (hp : H' p = none) : More H (upd H' p o) := fun b u e => by
  rw [upd_ne (ne_of_none (m b u e) hp)]
  exact m b u e
theorem More.at {H H' : Hp} {p : Addr} {o : HO} (m : More H H') (hp : H p = none) : More H (upd H' p o) := fun b u e => by
  rw [upd_ne (ne_of_none e hp)]
  exact m b u e
theorem More.off {H H' : Hp} {p : Addr} (m : More H H') (hp : H' p = none) : H p = none := by
  cases e : H p with
  | none => rfl
  | some o =>
    rw [m p o e] at hp
    cases hp
/-! ### sequences of integers -/
def isI : V → Bool
  | .int _ => true
  | _ => false
theorem noInt_isI {K : PySem.W.Frag} {H : Hp} {y : V} (h : NoInt K H y) : isI y = false := by
  obtain ⟨n, hn, t⟩ := h
  cases y with
  | int i =>
    cases t with
    | base t =>
      cases t
      exact absurd hn (by decide)
  | _ => rfl
theorem tyL {K : PySem.W.Frag} {H : Hp} {a : Addr} {xs : List V} : SqL K H a xs → TyX K H (.ref a) (.type "list")
  | .inl (.inl h) => .base (.lst h)
  | .inl (.inr ⟨o, h⟩) => .base (.frz h)
  | .inr ⟨o, its, n, h, c, _⟩ => .kList h c
theorem tyT {K : PySem.W.Frag} {H : Hp} {a : Addr} {xs : List V} : SqT K H a xs → TyX K H (.ref a) (.type "tuple")
  | .inl (.inl h) => .base (.tup h)
  | .inl (.inr ⟨o, h⟩) => .fTuple h
  | .inr ⟨o, its, n, h, c, _⟩ => .kTuple h c
def noSeq : List String := ["int", "bool", "NoneType", "str", "dict"]
theorem seq_no : ∀ n ∈ noSeq, kitB n "tuple" = some false ∧ kitB n "list" = some false := by decide +kernel
theorem seq_yes : kitB "tuple" "tuple" = some true ∧ kitB "list" "tuple" = some false ∧ kitB "list" "list" = some true := by decide +kernel
def spIsIs (K : PySem.W.Frag) : Sp := fun vs H Q _ => ∃ x, vs = [x] ∧
  ((∃ n, n ∈ noSeq ∧ TyX K H x (.type n) ∧ ∀ H', More H H' → Q (.bl false) H') ∨
    ∃ a xs, x = .ref a ∧ Sq K H a xs ∧ xs.length ≤ 1000 ∧ (∀ y ∈ xs, (∃ i, y = .int i) ∨ NoInt K H y) ∧ ∀ H', More H H' → Q (.bl (xs.all isI)) H')
theorem take_snoc {α : Type} {l : List α} {i : Nat} {x : α} (h : l[i]? = some x) : l.take (i + 1) = l.take i ++ [x] := by
  rw [List.take_succ, h]
  rfl
section
variable {P : Program} {w : World} {K : PySem.W.Frag} {mg : Str → Option Value} {base : Heap}
variable {fI f : Addr} {fdI fd : FuncData}
abbrev sIsIs : Stmt := top 9
theorem scIsIs : FnScope ["value", "item"] ["value"] (defScope sIsIs) := ⟨rfl, rfl, rfl, by decide +kernel, rfl, by decide +kernel, by decide +kernel⟩
theorem ok_isIs (F : Fun K "is_integers" "is_integers" sIsIs f fd) (B : Blt mg) (I : Cl K mg "is_integer" sIsI ["value"] fI fdI) :
    FnOk P w K mg base CX0 2 f fd ["value"] (spIsIs K) := by
  have GI : FnOk P w K mg base CX0 1 fI fdI ["value"] (spIsI K) := ok_isI I.fn B.isi_ B.int_ B.bool_
  refine F.ok scIsIs (fun vs H Q E h => ?_) (fun cdv A outer s H vs Q E hr h => ?_)
  · obtain ⟨x, rfl, _⟩ := h
    rfl
  · obtain ⟨x, rfl, h⟩ := h
    refine ⟨_, pss_one (ps_ret (pe_and (pe_callB call_isiT (by rfl) B.isi_ (by decide +kernel) (pa_cons (pv 0) (pa_cons (pe_tup (pa_cons (pe_bltn (v := .ty "tuple") rfl B.tup_ (by decide +kernel) rfl)
        (pa_cons (pe_bltn (v := .ty "list") rfl B.list_ (by decide +kernel) rfl) pa_nil))) pa_nil)))
      (pe_one (pe_callB (cr_all rfl) (by rfl) B.all_ (by decide +kernel) (pa_cons (pe_lc (own := [("item", 1)]) (g := gName 1) (tt := tYes) rfl scIsIs.nd (pi_or (pi_list (pv 0)) (pi_tup (pv 0)))
        (blkOk_by (N := ["value", "item"]) (sc := defScope sIsIs) (by decide +kernel))
        (fun _ _ _ _ _ => pg_name (i := 1) scIsIs.nd rfl (Or.inl rfl)) (fun _ _ _ _ _ => pts_nil)
        (fun _ _ _ _ _ => pe_call GI hr rfl I.g I.k I.b .nil pass0 (pa_cons (pv 1) pa_nil))) pa_nil))))), ?_⟩
    refine ⟨_, rfl, (by show 2 ≤ sizeLine; decide), fun t ht => ?_⟩
    have m1 : More H (upd H t (.tup [.ty "tuple", .ty "list"])) := More.new (fun _ _ e => e) ht
    obtain ⟨n, hn, ty, q⟩ | ⟨a, xs, rfl, sq, few, all, q⟩ := h
    · obtain ⟨k1, k2⟩ := seq_no n hn
      refine ⟨_, t, _, _, _, false, rfl, upd_same, .cons (.ty "tuple") (.cons (.ty "list") .nil), tyMore m1 ty, kitAny_cons (kit_ty k1) (fun _ => kitAny_cons (kit_ty k2) (fun _ => kitAny_nil) (fun z => nomatch z)) (fun z => nomatch z), _, rfl, iteF ?_⟩
      exact q _ m1
    · have yes : ∃ n, TyX K H (.ref a) (.type n) ∧ PySem.W.kitAny K (.type n) [.type "tuple", .type "list"] = some true := by
        obtain h | h := sq
        · exact ⟨_, tyL h, kitAny_cons (kit_ty seq_yes.2.1) (fun _ => kitAny_cons (kit_ty seq_yes.2.2) (fun z => nomatch z) (fun _ => rfl)) (fun z => nomatch z)⟩
        · exact ⟨_, tyT h, kitAny_cons (kit_ty seq_yes.1) (fun z => nomatch z) (fun _ => rfl)⟩
      obtain ⟨n, ty, ka⟩ := yes
      refine ⟨_, t, _, _, _, true, rfl, upd_same, .cons (.ty "tuple") (.cons (.ty "list") .nil), tyMore m1 ty, ka, _, rfl, iteT ?_⟩
      have sq1 := Sq.more m1 sq
      generalize upd H t (.tup [.ty "tuple", .ty "list"]) = H1 at m1 sq1 ⊢
      have body : ∀ (J : It) (G : Hp → Prop), Walk J xs.length G (YAt xs) → (∀ H', More H1 H' → G H') → ∀ L, H1 L = none → _ :=
        fun J G wk hG L hL => lc_it (w := wk) (vs := [1]) (g := gName 1) (tt := tYes) (σ := [some (.ref a), none]) (D := L) (H1 := H1)
          (te := tCall (spIsI K) [] (fun _ _ _ => False) (tCons (tVar 1) tNil))
          (Qd := fun H' => ∃ (b : Addr) (bs : List Bool), [V.ref L] = [V.ref b] ∧ SqL K H' b (bs.map V.bl) ∧ Q (.bl (bs.all id)) H')
          (fun i H' => H' L = some (.lst ((xs.take i).map fun y => V.bl (isI y))) ∧ More H1 H') ⟨upd_same, More.new (fun _ _ e => e) hL⟩ (fun i H' _ h => hG H' h.2)
          (fun i y H2 H3 hi ⟨e1, m2⟩ ⟨eH, hy⟩ => by
            subst eH
            have la : ((xs.take i).map fun y => V.bl (isI y)).length < sizeLine := by
              rw [List.length_map, List.length_take]
              exact small1000 (by omega)
            have fin : ∀ b, isI y = b → ∃ acc, H3 L = some (.lst acc) ∧ acc.length < sizeLine ∧ (upd H3 L (.lst (acc ++ [V.bl b]))) L = some (.lst ((xs.take (i + 1)).map fun y => V.bl (isI y))) ∧ More H1 (upd H3 L (.lst (acc ++ [V.bl b]))) := by
              intro b hb
              refine ⟨_, e1, la, ?_, m2.at hL⟩
              rw [upd_same, take_snoc hy, List.map_append, List.map_cons, List.map_nil, hb]
            refine ⟨rfl, _, rfl, y, rfl, ?_⟩
            obtain ⟨z, rfl⟩ | no := all y (List.mem_of_getElem? hy)
            · exact .inl ⟨z, rfl, fin _ rfl⟩
            · exact .inr (.inl ⟨no.more fun b o e => m2 b o (m1 b o e), fin _ (noInt_isI no)⟩))
          (fun H' ⟨e1, m2⟩ => by
            rw [List.take_length] at e1
            refine ⟨L, xs.map isI, rfl, SqL.of (by rw [List.map_map]; exact e1), ?_⟩
            have : ((xs.map isI).all id) = xs.all isI := by rw [List.all_map]; rfl
            rw [this]
            exact q _ fun b o e => m2 b o (m1 b o e))
      obtain h | h := sq1
      · exact .inl ⟨_, rfl, a, rfl, ⟨xs, h⟩, body _ _ walk_list fun H' m => Same.seq m h⟩
      · exact .inr ⟨_, rfl, a, rfl, ⟨xs, h⟩, body _ _ walk_tup fun H' m => sqT_more m h⟩
end
end K09

namespace K09
open PySem L2 Gd
/-! ### terms of a sum -/
def NoSq (K : PySem.W.Frag) (H : Hp) (x : V) : Prop := ∃ n, n ∈ noSeq ∧ TyX K H x (.type n)
theorem NoSq.more {K : PySem.W.Frag} {H H' : Hp} {x : V} (e : ∀ b o, H b = some o → H' b = some o) (h : NoSq K H x) : NoSq K H' x := let ⟨n, m, t⟩ := h; ⟨n, m, tyMore e t⟩
def Its (K : PySem.W.Frag) (H : Hp) (ys : List V) : Prop := ys.length ≤ 1000 ∧ ∀ y ∈ ys, (∃ i, y = .int i) ∨ NoInt K H y
theorem Its.more {K : PySem.W.Frag} {H H' : Hp} {ys : List V} (e : ∀ b o, H b = some o → H' b = some o) (h : Its K H ys) : Its K H' ys := ⟨h.1, fun y hy => (h.2 y hy).imp id fun z => z.more e⟩
theorem Its.ints {K : PySem.W.Frag} {H : Hp} {ds : List Int} (h : ds.length ≤ 1000) : Its K H (ds.map V.int) := ⟨by rw [List.length_map]; exact h, fun y hy => by
  obtain ⟨d, _, rfl⟩ := List.mem_map.mp hy
  exact .inl ⟨d, rfl⟩⟩
def spRow (K : PySem.W.Frag) : Sp := fun vs H Q _ => ∃ (x : V) (n : Int), vs = [x, .int n] ∧
  ((NoSq K H x ∧ ∀ H', More H H' → Q (.bl false) H') ∨ ∃ a xs, x = .ref a ∧ Sq K H a xs ∧ Its K H xs ∧ ∀ H', More H H' → Q (.bl (xs.all isI && decide (((xs.length : Nat) : Int) = n))) H')
/-- a list, or a tuple that is tracked itself -/
def Sk (K : PySem.W.Frag) (H : Hp) (b : Addr) (xs : List V) : Prop := SqL K H b xs ∨ H b = some (.tup xs)
theorem Sk.sq {K : PySem.W.Frag} {H : Hp} {b : Addr} {xs : List V} : Sk K H b xs → Sq K H b xs
  | .inl h => .inl h
  | .inr h => .inr (SqT.of h)
theorem Sk.more {K : PySem.W.Frag} {H H' : Hp} {b : Addr} {xs : List V} (e : ∀ b o, H b = some o → H' b = some o) : Sk K H b xs → Sk K H' b xs
  | .inl h => .inl (Same.seq e h)
  | .inr h => .inr (e _ _ h)
def Trm (K : PySem.W.Frag) (H : Hp) (x : V) (ds : List Int) (n : Int) : Prop := ∃ a b, x = .ref a ∧ Sq K H a [.ref b, .int n] ∧ Sk K H b (ds.map V.int) ∧ ds.length = 3
def NoTrm (K : PySem.W.Frag) (H : Hp) (x : V) : Prop := NoSq K H x ∨ (∃ a xs, x = .ref a ∧ Sq K H a xs ∧ xs.length ≠ 2 ∧ xs.length ≤ 1000) ∨
  ∃ a u v, x = .ref a ∧ Sq K H a [u, v] ∧ (NoSq K H u ∨ ∃ b ys, u = .ref b ∧ Sq K H b ys ∧ Its K H ys ∧ ((ys.all isI && decide (((ys.length : Nat) : Int) = 3)) = false ∨ NoInt K H v))
theorem Trm.more {K : PySem.W.Frag} {H H' : Hp} {x : V} {ds : List Int} {n : Int} (e : ∀ b o, H b = some o → H' b = some o) (h : Trm K H x ds n) : Trm K H' x ds n :=
  let ⟨a, b, r, s1, s2, l⟩ := h; ⟨a, b, r, s1.more e, s2.more e, l⟩
theorem NoTrm.more {K : PySem.W.Frag} {H H' : Hp} {x : V} (e : ∀ b o, H b = some o → H' b = some o) (h : NoTrm K H x) : NoTrm K H' x := by
  obtain h | ⟨a, xs, r, s, l⟩ | ⟨a, u, v, r, s, h⟩ := h
  · exact .inl (h.more e)
  · exact .inr (.inl ⟨a, xs, r, s.more e, l⟩)
  · refine .inr (.inr ⟨a, u, v, r, s.more e, ?_⟩)
    obtain h | ⟨b, ys, r, s, i, h⟩ := h
    · exact .inl (h.more e)
    · exact .inr ⟨b, ys, r, s.more e, i.more e, h.imp id fun z => z.more e⟩
def spTerm (K : PySem.W.Frag) : Sp := fun vs H Q _ => ∃ x : V, vs = [x] ∧
  ((∃ ds n, Trm K H x ds n ∧ ∀ H', More H H' → Q (.bl true) H') ∨ (NoTrm K H x ∧ ∀ H', More H H' → Q (.bl false) H'))
theorem deI {i j : Int} : decide (V.int i = V.int j) = decide (i = j) := by simp only [V.int.injEq]
theorem ix_any {K : PySem.W.Frag} {H : Hp} {a : Addr} {xs : List V} {j : Nat} {i : Int} {v : V} {Q : VK} (s : Sq K H a xs) (e : i = (j : Int)) (h : xs[j]? = some v) (q : Q v H) : rIx K (.ref a) (.int i) H Q := by
  obtain s | s := s
  · exact .inl ⟨a, xs, i, v, rfl, rfl, s, at_of e h, q⟩
  · exact .inr (.inl ⟨a, xs, i, v, rfl, rfl, s, at_of e h, q⟩)
theorem isI_all (ds : List Int) : (ds.map V.int).all isI = true := by
  rw [List.all_map, List.all_eq_true]
  intro d _
  rfl
theorem sq_len {K : PySem.W.Frag} {H : Hp} {a : Addr} {xs : List V} (s : Sq K H a xs) : SqL K H a xs ∨ SqT K H a xs := s
section
variable {P : Program} {w : World} {K : PySem.W.Frag} {mg : Str → Option Value} {base : Heap}
variable {fI fS fR f : Addr} {fdI fdS fdR fd : FuncData}
abbrev sRow : Stmt := top 10
abbrev sTerm : Stmt := top 25
theorem scRow : FnScope ["value", "width"] ["value", "width"] (defScope sRow) := ⟨rfl, rfl, rfl, by decide +kernel, rfl, by decide +kernel, by decide +kernel⟩
theorem scTerm : FnScope ["item"] ["item"] (defScope sTerm) := ⟨rfl, rfl, rfl, by decide +kernel, rfl, by decide +kernel, by decide +kernel⟩
theorem ok_row (F : Fun K "is_row" "is_row" sRow f fd) (B : Blt mg) (I : Cl K mg "is_integer" sIsI ["value"] fI fdI) (S : Cl K mg "is_integers" sIsIs ["value"] fS fdS) :
    FnOk P w K mg base CX0 3 f fd ["value", "width"] (spRow K) := by
  have GS : FnOk P w K mg base CX0 2 fS fdS ["value"] (spIsIs K) := ok_isIs S.fn B I
  refine F.ok scRow (fun vs H Q E h => ?_) (fun cdv A outer s H vs Q E hr h => ?_)
  · obtain ⟨x, n, rfl, _⟩ := h
    rfl
  · obtain ⟨x, n, rfl, h⟩ := h
    refine ⟨_, pss_one (ps_ret (pe_and (pe_call GS hr rfl S.g S.k S.b .nil pass0 (pa_cons (pv 0) pa_nil))
      (pe_one (pe_cmpR op_eq (pe_callB call_len_seq (by rfl) B.len_ PySem.boot_len (pa_cons (pv 0) pa_nil)) (pv 1) (nomark _))))), ?_⟩
    obtain ⟨⟨m, hm, t⟩, q⟩ | ⟨a, xs, rfl, s, i, q⟩ := h
    · exact ⟨_, rfl, x, rfl, .inl ⟨m, hm, t, fun H' mo => ⟨_, rfl, iteF (q H' mo)⟩⟩⟩
    · refine ⟨_, rfl, _, rfl, .inr ⟨a, xs, rfl, s, i.1, i.2, fun H' mo => ⟨_, rfl, ?_⟩⟩⟩
      have q := q H' mo
      cases e : xs.all isI with
      | false =>
        rw [e] at q
        exact iteF q
      | true =>
        rw [e] at q
        exact iteT ⟨_, rfl, a, _, rfl, s.more mo, _, rfl, rfl, by rw [deI]; exact q⟩
theorem ok_term (F : Fun K "is_term" "is_term" sTerm f fd) (B : Blt mg) (I : Cl K mg "is_integer" sIsI ["value"] fI fdI) (S : Cl K mg "is_integers" sIsIs ["value"] fS fdS) (R : Cl K mg "is_row" sRow ["value", "width"] fR fdR) :
    FnOk P w K mg base CX0 4 f fd ["item"] (spTerm K) := by
  have GI : FnOk P w K mg base CX0 1 fI fdI ["value"] (spIsI K) := ok_isI I.fn B.isi_ B.int_ B.bool_
  have GR : FnOk P w K mg base CX0 3 fR fdR ["value", "width"] (spRow K) := ok_row R.fn B I S
  refine F.ok scTerm (fun vs H Q E h => ?_) (fun cdv A outer s H vs Q E hr h => ?_)
  · obtain ⟨x, rfl, _⟩ := h
    rfl
  · obtain ⟨x, rfl, h⟩ := h
    refine ⟨_, pss_one (ps_ret (pe_and (pe_callB call_isiT (by rfl) B.isi_ (by decide +kernel) (pa_cons (pv 0) (pa_cons (pe_tup (pa_cons (pe_bltn (v := .ty "tuple") rfl B.tup_ (by decide +kernel) rfl)
        (pa_cons (pe_bltn (v := .ty "list") rfl B.list_ (by decide +kernel) rfl) pa_nil))) pa_nil)))
      (pe_and (pe_cmpR op_eq (pe_callB call_len_seq (by rfl) B.len_ PySem.boot_len (pa_cons (pv 0) pa_nil)) pe_int (nomark _))
      (pe_and (pe_call GR hr rfl R.g R.k R.b .nil pass0 (pa_cons (pe_ix ix_seq (pv 0) pe_int (fun _ _ => rfl)) (pa_cons pe_int pa_nil)))
      (pe_one (pe_call GI (hr.mono (by decide)) rfl I.g I.k I.b .nil pass0 (pa_cons (pe_ix ix_seq (pv 0) pe_int (fun _ _ => rfl)) pa_nil))))))), ?_⟩
    refine ⟨_, rfl, (by show 2 ≤ sizeLine; decide), fun t ht => ?_⟩
    have m1 : More H (upd H t (.tup [.ty "tuple", .ty "list"])) := More.new (fun _ _ e => e) ht
    have yes : ∀ (a : Addr) (xs : List V), Sq K H a xs → ∃ n, TyX K H (.ref a) (.type n) ∧ PySem.W.kitAny K (.type n) [.type "tuple", .type "list"] = some true := by
      rintro a xs (h | h)
      · exact ⟨_, tyL h, kitAny_cons (kit_ty seq_yes.2.1) (fun _ => kitAny_cons (kit_ty seq_yes.2.2) (fun z => nomatch z) (fun _ => rfl)) (fun z => nomatch z)⟩
      · exact ⟨_, tyT h, kitAny_cons (kit_ty seq_yes.1) (fun z => nomatch z) (fun _ => rfl)⟩
    obtain ⟨ds, n, ⟨a, b, rfl, s1, s2, l3⟩, q⟩ | ⟨h, q⟩ := h
    · obtain ⟨n', ty, ka⟩ := yes a _ s1
      refine ⟨_, t, _, _, _, true, rfl, upd_same, .cons (.ty "tuple") (.cons (.ty "list") .nil), tyMore m1 ty, ka, _, rfl, iteT ?_⟩
      refine ⟨_, rfl, a, _, rfl, s1.more m1, rfl, _, rfl, iteT ?_⟩
      refine ⟨_, rfl, ix_any (s1.more m1) rfl (j := 0) rfl ⟨.ref b, 3, rfl, .inr ⟨b, _, rfl, s2.sq.more m1, Its.ints (by omega), fun H' mo => ⟨_, rfl, ?_⟩⟩⟩⟩
      have mo' : More H H' := fun c o e => mo c o (m1 c o e)
      rw [isI_all, List.length_map, l3]
      exact iteT ⟨_, rfl, ix_any (s1.more mo') rfl (j := 1) rfl ⟨.int n, rfl, .inl ⟨n, rfl, q _ mo'⟩⟩⟩
    · have two : ∀ (a : Addr) (xs : List V), x = .ref a → Sq K H a xs → xs.length = 2 → ∃ u v, xs = [u, v] := by
        intro a xs _ _ l
        match xs, l with
        | [u, v], _ => exact ⟨u, v, rfl⟩
      obtain ⟨n, hn, ty⟩ | ⟨a, xs, rfl, s1, l2, _⟩ | ⟨a, u, v, rfl, s1, h⟩ := h
      · obtain ⟨k1, k2⟩ := seq_no n hn
        exact ⟨_, t, _, _, _, false, rfl, upd_same, .cons (.ty "tuple") (.cons (.ty "list") .nil), tyMore m1 ty, kitAny_cons (kit_ty k1) (fun _ => kitAny_cons (kit_ty k2) (fun _ => kitAny_nil) (fun z => nomatch z)) (fun z => nomatch z), _, rfl, iteF (q _ m1)⟩
      · obtain ⟨n', ty, ka⟩ := yes a _ s1
        refine ⟨_, t, _, _, _, true, rfl, upd_same, .cons (.ty "tuple") (.cons (.ty "list") .nil), tyMore m1 ty, ka, _, rfl, iteT ?_⟩
        refine ⟨_, rfl, a, _, rfl, s1.more m1, rfl, _, rfl, ?_⟩
        rw [deI, decide_eq_false (by omega)]
        exact iteF (q _ m1)
      · obtain ⟨n', ty, ka⟩ := yes a _ s1
        refine ⟨_, t, _, _, _, true, rfl, upd_same, .cons (.ty "tuple") (.cons (.ty "list") .nil), tyMore m1 ty, ka, _, rfl, iteT ?_⟩
        refine ⟨_, rfl, a, _, rfl, s1.more m1, rfl, _, rfl, iteT ?_⟩
        obtain nu | ⟨b, ys, rfl, s2, it, h⟩ := h
        · refine ⟨_, rfl, ix_any (s1.more m1) rfl (j := 0) rfl ⟨u, 3, rfl, .inl ⟨nu.more m1, fun H' mo => ⟨_, rfl, iteF (q _ fun c o e => mo c o (m1 c o e))⟩⟩⟩⟩
        · refine ⟨_, rfl, ix_any (s1.more m1) rfl (j := 0) rfl ⟨.ref b, 3, rfl, .inr ⟨b, ys, rfl, s2.more m1, it.more m1, fun H' mo => ⟨_, rfl, ?_⟩⟩⟩⟩
          have mo' : More H H' := fun c o e => mo c o (m1 c o e)
          cases e : (ys.all isI && decide (((ys.length : Nat) : Int) = 3)) with
          | false => exact iteF (q _ mo')
          | true =>
            rw [e] at h
            obtain z | nv := h
            · cases z
            · exact iteT ⟨_, rfl, ix_any (s1.more mo') rfl (j := 1) rfl ⟨v, rfl, .inr (.inl ⟨nv.more mo', q _ mo'⟩)⟩⟩
end
end K09

namespace Ply
open PySem L2
abbrev Po := List (List Int × Int)
def kI (l : List Int) : List Key := l.map Sum.inl
theorem kI_V (l : List Int) : (kI l).map kV = l.map V.int := by
  unfold kI
  rw [List.map_map]
  rfl
theorem kI_inj {a b : List Int} (h : kI a = kI b) : a = b := by
  have z : ∀ a b : List Int, a.map (Sum.inl : Int → Key) = b.map Sum.inl → a = b := by
    intro a
    induction a with
    | nil =>
      intro b h
      cases b with
      | nil => rfl
      | cons y b => cases h
    | cons x a ih =>
      intro b h
      cases b with
      | nil => cases h
      | cons y b =>
        rw [List.map_cons, List.map_cons] at h
        obtain ⟨h1, h2⟩ := List.cons.inj h
        rw [Sum.inl.inj h1, ih b h2]
  exact z a b h
def dk (p : Po) : List (List Key × V) := p.map fun e => (kI e.1, V.int e.2)
def look (p : Po) (k : List Int) : Option Int := (p.find? fun e => decide (e.1 = k)).map (·.2)
def val (p : Po) (k : List Int) : Int := (look p k).getD 0
def put (p : Po) (k : List Int) (n : Int) : Po := if (p.any fun e => decide (e.1 = k)) = true then p.map (fun e => if e.1 = k then (e.1, n) else e) else p ++ [(k, n)]
def ks (p : Po) : List (List Int) := p.map (·.1)
theorem dec_kI (a b : List Int) : decide (kI a = kI b) = decide (a = b) := by
  by_cases h : a = b
  · rw [h, decide_eq_true rfl, decide_eq_true rfl]
  · rw [decide_eq_false h, decide_eq_false fun z => h (kI_inj z)]
theorem look_cons (e : List Int × Int) (p : Po) (k : List Int) : look (e :: p) k = if e.1 = k then some e.2 else look p k := by
  unfold look
  by_cases h : e.1 = k
  · rw [List.find?_cons_of_pos (by simpa using h), if_pos h]
    rfl
  · rw [List.find?_cons_of_neg (by simpa using h), if_neg h]
theorem valV_dk (p : Po) (k : List Int) : valV (dk p) (kI k) = (look p k).map V.int := by
  induction p with
  | nil => rfl
  | cons e p ih =>
    rw [look_cons]
    unfold dk valV at *
    rw [List.map_cons]
    by_cases h : e.1 = k
    · rw [List.find?_cons_of_pos (by rw [dec_kI]; simpa using h), if_pos h]
      rfl
    · rw [List.find?_cons_of_neg (by rw [dec_kI]; simpa using h), if_neg h]
      exact ih
theorem putK_dk (p : Po) (k : List Int) (n : Int) : putK (dk p) (kI k) (.int n) = dk (put p k n) := by
  have ha : ((dk p).any fun kv => decide (kv.1 = kI k)) = p.any fun e => decide (e.1 = k) := by
    unfold dk
    rw [List.any_map]
    congr 1
    funext e
    exact dec_kI e.1 k
  unfold putK put
  rw [ha]
  by_cases h : (p.any fun e => decide (e.1 = k)) = true
  · rw [if_pos h, if_pos h]
    unfold dk
    rw [List.map_map, List.map_map]
    congr 1
    funext e
    by_cases g : e.1 = k
    · show (if kI e.1 = kI k then _ else _) = (kI (if e.1 = k then (e.1, n) else e).1, V.int (if e.1 = k then (e.1, n) else e).2)
      rw [if_pos (by rw [g]), if_pos g]
    · show (if kI e.1 = kI k then _ else _) = (kI (if e.1 = k then (e.1, n) else e).1, V.int (if e.1 = k then (e.1, n) else e).2)
      rw [if_neg (fun z => g (kI_inj z)), if_neg g]
  · rw [if_neg h, if_neg h]
    unfold dk
    rw [List.map_append]
    rfl
theorem any_look (p : Po) (k : List Int) : (p.any fun e => decide (e.1 = k)) = (look p k).isSome := by
  induction p with
  | nil => rfl
  | cons e p ih =>
    rw [look_cons, List.any_cons, ih]
    by_cases h : e.1 = k
    · rw [if_pos h, decide_eq_true h]; rfl
    · rw [if_neg h, decide_eq_false h]; rfl
theorem look_put (p : Po) (k j : List Int) (n : Int) : look (put p k n) j = if j = k then some n else look p j := by
  unfold put
  by_cases h : (p.any fun e => decide (e.1 = k)) = true
  · rw [if_pos h]
    rw [any_look] at h
    have z : ∀ p : Po, look (p.map fun e => if e.1 = k then (e.1, n) else e) j = if j = k then (look p k).map (fun _ => n) else look p j := by
      intro p
      induction p with
      | nil => by_cases e : j = k <;> simp [e, look]
      | cons e p ih =>
        rw [List.map_cons, look_cons, ih, look_cons, look_cons]
        by_cases g : e.1 = k
        · rw [if_pos g]
          by_cases q : j = k
          · subst q
            rw [if_pos rfl]
            simp [g]
          · rw [if_neg q]
            have : ¬ e.1 = j := fun z => q (z.symm.trans g)
            rw [if_neg this]
            simp [q]
            intro z
            exact absurd z this
        · rw [if_neg g]
          by_cases q : j = k
          · subst q
            rw [if_pos rfl, if_neg g]
            simp [g]
          · rw [if_neg q, if_neg q]
    rw [z]
    by_cases q : j = k
    · rw [if_pos q, if_pos q]
      obtain ⟨v, hv⟩ := Option.isSome_iff_exists.mp h
      rw [hv]
      rfl
    · rw [if_neg q, if_neg q]
  · rw [if_neg h]
    rw [any_look, Bool.not_eq_true] at h
    have z : ∀ p : Po, look p k = none → look (p ++ [(k, n)]) j = if j = k then some n else look p j := by
      intro p
      induction p with
      | nil =>
        intro _
        rw [List.nil_append, look_cons]
        by_cases q : j = k
        · rw [if_pos q, if_pos q.symm]
        · rw [if_neg q, if_neg fun z => q z.symm]
      | cons e p ih =>
        intro hn
        rw [look_cons] at hn
        have g : ¬ e.1 = k := fun z => by rw [if_pos z] at hn; cases hn
        rw [if_neg g] at hn
        rw [List.cons_append, look_cons, look_cons, ih hn]
        by_cases q : j = k
        · rw [if_pos q, if_pos q, if_neg (by rw [q]; exact g)]
        · rw [if_neg q, if_neg q]
    exact z p (by cases e : look p k with | none => rfl | some v => rw [e] at h; cases h)
theorem val_put (p : Po) (k j : List Int) (n : Int) : val (put p k n) j = if j = k then n else val p j := by
  unfold val
  rw [look_put]
  by_cases q : j = k
  · rw [if_pos q, if_pos q]; rfl
  · rw [if_neg q, if_neg q]
theorem mem_ks (p : Po) (k : List Int) : k ∈ ks p ↔ (look p k).isSome = true := by
  rw [← any_look, List.any_eq_true]
  unfold ks
  rw [List.mem_map]
  constructor
  · rintro ⟨e, h, rfl⟩
    exact ⟨e, h, decide_eq_true rfl⟩
  · rintro ⟨e, h, g⟩
    exact ⟨e, h, of_decide_eq_true g⟩
theorem ks_put (p : Po) (k : List Int) (n : Int) : ks (put p k n) = if k ∈ ks p then ks p else ks p ++ [k] := by
  have h : (k ∈ ks p) ↔ (p.any fun e => decide (e.1 = k)) = true := by rw [mem_ks, any_look]
  unfold put
  by_cases g : (p.any fun e => decide (e.1 = k)) = true
  · rw [if_pos g, if_pos (h.mpr g)]
    unfold ks
    rw [List.map_map]
    congr 1
    funext e
    show (if e.1 = k then (e.1, n) else e).1 = e.1
    by_cases q : e.1 = k
    · rw [if_pos q]
    · rw [if_neg q]
  · rw [if_neg g, if_neg fun z => g (h.mp z)]
    unfold ks
    rw [List.map_append]
    rfl
theorem nodup_put {p : Po} (h : (ks p).Nodup) (k : List Int) (n : Int) : (ks (put p k n)).Nodup := by
  rw [ks_put]
  by_cases g : k ∈ ks p
  · rw [if_pos g]; exact h
  · rw [if_neg g, List.nodup_append]
    exact ⟨h, by simp, fun a ha b hb e => by
      rw [List.mem_singleton] at hb
      exact g (hb ▸ e ▸ ha)⟩
theorem len_put (p : Po) (k : List Int) (n : Int) : (put p k n).length ≤ p.length + 1 := by
  unfold put
  by_cases g : (p.any fun e => decide (e.1 = k)) = true
  · rw [if_pos g, List.length_map]; omega
  · rw [if_neg g, List.length_append]; exact Nat.le_refl _
theorem mem_put {p : Po} {k : List Int} {n : Int} {e : List Int × Int} (h : e ∈ put p k n) : e = (k, n) ∨ e ∈ p := by
  unfold put at h
  by_cases g : (p.any fun e => decide (e.1 = k)) = true
  · rw [if_pos g] at h
    obtain ⟨x, hx, rfl⟩ := List.mem_map.mp h
    by_cases q : x.1 = k
    · rw [if_pos q, q]; exact .inl rfl
    · rw [if_neg q]; exact .inr hx
  · rw [if_neg g, List.mem_append, List.mem_singleton] at h
    exact h.symm
theorem look_mem {p : Po} {k : List Int} {n : Int} (h : look p k = some n) : (k, n) ∈ p := by
  unfold look at h
  cases e : (p.find? fun e => decide (e.1 = k)) with
  | none => rw [e] at h; cases h
  | some x =>
    rw [e] at h
    cases h
    have := List.find?_some e
    have m := List.mem_of_find?_eq_some e
    rw [of_decide_eq_true this |>.symm]
    exact m
theorem look_at {p : Po} (h : (ks p).Nodup) {e : List Int × Int} (he : e ∈ p) : look p e.1 = some e.2 := by
  induction p with
  | nil => cases he
  | cons x p ih =>
    rw [look_cons]
    unfold ks at h
    rw [List.map_cons, List.nodup_cons] at h
    rcases List.mem_cons.mp he with rfl | he
    · rw [if_pos rfl]
    · rw [if_neg fun z => h.1 (List.mem_map.mpr ⟨e, he, z.symm⟩)]
      exact ih h.2 he
theorem val_at {p : Po} (h : (ks p).Nodup) {e : List Int × Int} (he : e ∈ p) : val p e.1 = e.2 := by
  unfold val
  rw [look_at h he]
  rfl
theorem val_off {p : Po} {k : List Int} (h : val p k ≠ 0) : k ∈ ks p := by
  rw [mem_ks]
  unfold val at h
  cases e : look p k with
  | none => rw [e] at h; exact absurd rfl h
  | some v => rfl
/-! ### sums of terms -/
def tot : Po → List Int → Int
  | [], _ => 0
  | e :: r, k => (if e.1 = k then e.2 else 0) + tot r k
def accum (p : Po) : Po → Po
  | [] => p
  | e :: r => accum (put p e.1 (val p e.1 + e.2)) r
theorem accum_snoc (p l : Po) (e : List Int × Int) : accum p (l ++ [e]) = put (accum p l) e.1 (val (accum p l) e.1 + e.2) := by
  induction l generalizing p with
  | nil => rfl
  | cons x l ih => exact ih _
theorem val_accum (p l : Po) (k : List Int) : val (accum p l) k = val p k + tot l k := by
  induction l generalizing p with
  | nil => show val p k = val p k + 0; omega
  | cons e l ih =>
    show val (accum (put p e.1 (val p e.1 + e.2)) l) k = val p k + ((if e.1 = k then e.2 else 0) + tot l k)
    rw [ih, val_put]
    by_cases q : e.1 = k
    · rw [if_pos q.symm, if_pos q, q]; omega
    · rw [if_neg fun z => q z.symm, if_neg q]; omega
theorem nodup_accum {p : Po} (h : (ks p).Nodup) (l : Po) : (ks (accum p l)).Nodup := by
  induction l generalizing p with
  | nil => exact h
  | cons e l ih => exact ih (nodup_put h _ _)
theorem len_accum (p l : Po) : (accum p l).length ≤ p.length + l.length := by
  induction l generalizing p with
  | nil => exact Nat.le_refl _
  | cons e l ih =>
    have h1 := ih (p := put p e.1 (val p e.1 + e.2))
    have h2 := len_put p e.1 (val p e.1 + e.2)
    show (accum (put p e.1 (val p e.1 + e.2)) l).length ≤ _
    rw [List.length_cons]
    omega
theorem tot_append (a b : Po) (k : List Int) : tot (a ++ b) k = tot a k + tot b k := by
  induction a with
  | nil => show tot b k = 0 + tot b k; omega
  | cons e a ih =>
    show (if e.1 = k then e.2 else 0) + tot (a ++ b) k = _ + tot a k + tot b k
    rw [ih]; omega
theorem tot_perm {a b : Po} (h : a.Perm b) (k : List Int) : tot a k = tot b k := by
  induction h with
  | nil => rfl
  | cons e _ ih => show _ + _ = _ + _; rw [ih]
  | swap x y l => show _ + (_ + _) = _ + (_ + _); omega
  | trans _ _ h1 h2 => exact h1.trans h2
theorem tot_val {p : Po} (h : (ks p).Nodup) (k : List Int) : tot p k = val p k := by
  induction p with
  | nil => rfl
  | cons e p ih =>
    unfold ks at h
    rw [List.map_cons, List.nodup_cons] at h
    show (if e.1 = k then e.2 else 0) + tot p k = val (e :: p) k
    rw [ih h.2]
    unfold val
    rw [look_cons]
    by_cases q : e.1 = k
    · rw [if_pos q, if_pos q]
      have : look p k = none := by
        cases z : look p k with
        | none => rfl
        | some v => exact absurd (List.mem_map.mpr ⟨_, look_mem z, q.symm⟩) h.1
      rw [this]
      show e.2 + 0 = e.2
      omega
    · rw [if_neg q, if_neg q]; omega
/-! ### the one form -/
structure Form (f : List Int → Int) (l : List (List Int)) : Prop where
  up : l.Pairwise (· ≤ ·)
  nd : l.Nodup
  all : ∀ k, k ∈ l ↔ f k ≠ 0
theorem same_of : ∀ (a b : List (List Int)), a.Pairwise (· ≤ ·) → b.Pairwise (· ≤ ·) → a.Nodup → b.Nodup → (∀ k, k ∈ a ↔ k ∈ b) → a = b
  | [], [], _, _, _, _, _ => rfl
  | [], y :: b, _, _, _, _, h => nomatch (h y).mpr (.head _)
  | x :: a, [], _, _, _, _, h => nomatch (h x).mp (.head _)
  | x :: a, y :: b, ha, hb, na, nb, h => by
    rw [List.pairwise_cons] at ha hb
    rw [List.nodup_cons] at na nb
    have xy : x = y := by
      rcases List.mem_cons.mp ((h x).mp (.head _)) with e | hx
      · exact e
      · rcases List.mem_cons.mp ((h y).mpr (.head _)) with e | hy
        · exact e.symm
        · exact List.le_antisymm (ha.1 y hy) (hb.1 x hx)
    subst xy
    rw [same_of a b ha.2 hb.2 na.2 nb.2 fun k => ?_]
    constructor
    · intro hk
      rcases List.mem_cons.mp ((h k).mp (.tail _ hk)) with e | g
      · rw [e] at hk; exact absurd hk na.1
      · exact g
    · intro hk
      rcases List.mem_cons.mp ((h k).mpr (.tail _ hk)) with e | g
      · rw [e] at hk; exact absurd hk nb.1
      · exact g
theorem Form.one {f : List Int → Int} {a b : List (List Int)} (ha : Form f a) (hb : Form f b) : a = b :=
  same_of a b ha.up hb.up ha.nd hb.nd fun k => (ha.all k).trans (hb.all k).symm
end Ply

/-! Dor: a reading put in the place of another; d[k] if k in d else 0. -/
namespace Gd
open PySem L2
theorem pe_imp {X : Cx} {e : Expr} {t u : TE} (h : PE X e t) (i : ∀ σ H Q, u σ H Q → t σ H Q) : PE X e u :=
  ⟨fun pins s σ H Q I q => h.run pins s σ H Q I (i σ H Q q)⟩
theorem pe_dor {X : Cx} {o o' k k' z : Expr} {i j : Nat} {n : Int} {p1 p2 p3 : Pos} (hu : X.A.units + 1 < cLine) (ho : PE X o (tVar i)) (hk : PE X k (tVar j)) (ho' : PE X o' (tVar i)) (hk' : PE X k' (tVar j)) (hs : NoSl k')
    (hz : PE X z (tC (.int n))) (h1 : behindInMarks .In o = false) :
    PE X (.IfExp (.Compare k [.In] [o] p1) (.Subscript o' k' p2) z p3) (tDGet2 (tVar i) (tVar j) (tC (.int n))) := by
  refine pe_imp (pe_ifExp (pt_cmp (pc_din hu hk ho) h1) (pe_dget hu ho' hk' hs) hz) ?_
  rintro σ H Q ⟨x, h1, a, rfl, _, y, h2, o, g, q⟩
  refine ⟨y, h2, _, h1, a, o, rfl, g, _, rfl, ?_⟩
  cases o with
  | none => exact iteF q
  | some v => exact iteT ⟨_, h1, y, h2, a, v, rfl, g, q⟩
end Gd

namespace L2
open PySem PySem.Spec PyProof.Rows PySem.W
/-! ### sorted of a list of tuples of ints, any length -/
def leI (p q : Addr × List Int) : Bool := decide (p.2 ≤ q.2)
theorem dataLe_tups {β : Type} (x : β → List Int) : dataLe false (fun b => .tuple ((x b).map .int)) = fun p q => decide (x p ≤ x q) := by
  have := dataLe_rows x
  exact this
theorem ints_read {h : Heap} : ∀ {us : List Value} {ns : List Int}, IntsAre us ns → ReadsAll h us (ns.map PyData.int) []
  | _, _, .nil => .nil
  | _, _, .cons n t r => .cons (.int n t) (ints_read r)
def rSortTI (K : PySem.W.Frag) : List V → Hp → VK → Prop := fun vs H Q => ∃ (a : Addr) (bs : List (Addr × List Int)), vs = [V.ref a] ∧ SqL K H a (bs.map fun b => V.ref b.1) ∧ (∀ b ∈ bs, SqT K H b.1 (b.2.map V.int) ∧ b.2 ≠ []) ∧
  ∀ p, H p = none → Q (.ref p) (upd H p (.lst ((bs.mergeSort leI).map fun b => V.ref b.1)))
theorem each_refs : ∀ {bs : List (Addr × List Int)} {us : List Value}, Vals (bs.map fun b => V.ref b.1) us → EachIs (fun v (b : Addr × List Int) => v = Value.ref b.1) us bs
  | [], _, r => by
    rw [List.map_nil] at r
    cases r
    exact .nil
  | b :: bs, _, r => by
    rw [List.map_cons] at r
    cases r with
    | cons h t => exact .cons h (each_refs t)
theorem refs_each : ∀ {bs : List (Addr × List Int)} {us : List Value}, EachIs (fun v (b : Addr × List Int) => v = Value.ref b.1) us bs → Vals (bs.map fun b => V.ref b.1) us
  | _, _, .nil => .nil
  | _, _, .cons h t => by
    rw [List.map_cons]
    exact .cons h (refs_each t)
theorem each_mem {α β : Type} {R S : α → β → Prop} : ∀ {as : List α} {bs : List β}, EachIs R as bs → (∀ a, ∀ b ∈ bs, R a b → S a b) → EachIs S as bs
  | _, _, .nil, _ => .nil
  | _, _, .cons h t, k => .cons (k _ _ (.head _) h) (each_mem t fun a b hb => k a b (.tail _ hb))
theorem cr_sortTI {X : Cx} (hu : X.A.units + 64 < cLine) : CallR X (.builtin "sorted") (rSortTI X.K) := by
  intro pins s σ H vs us Q I r h
  obtain ⟨a, bs, rfl, hs, hb, q⟩ := h
  rw [Vals.ref1 r]
  obtain ⟨its, rv, hl, hz⟩ := I.list hs
  rw [List.length_map] at hz
  have er := each_refs rv
  refine sorted_data (β := Addr × List Int) (bs := bs) (enc := fun b => .tuple (b.2.map .int)) hl.isList er (each_mem er fun v b hb1 e => ?_) (AllAlike.of fun b b' => ?_) (.inl fun d hd => ?_) hz (fun b _ => ?_) fun out lo eo => ?_
  · subst e
    obtain ⟨its2, rv2, ⟨o, ho, hc, n, hd⟩, _⟩ := I.tuple (hb b hb1).1
    exact ⟨_, .tuple ho hc hd (by simpa using ints_read rv2.ints)⟩
  · show alike (.tuple _) (.tuple _) = true
    unfold alike
    exact alike_ints _ _
  · obtain ⟨b, hb1, rfl⟩ := List.mem_map.mp hd
    have := (hb b hb1).2
    cases e : b.2 with
    | nil => exact absurd e this
    | cons x r => exact ⟨_, _, rfl⟩
  · show X.A.units + 2 + PyData.depth (.tuple _) < cLine
    rw [PyData.depth, depth_ints]
    omega
  · obtain ⟨ep, he'⟩ := PyProof.Rows.sortedAll_at s.heap its out.toArray
    rw [dataLe_tups] at eo
    have hlen : (((bs.mergeSort leI)).map fun b => V.ref b.1).length ≤ sizeLine := by rw [List.length_map, List.length_mergeSort]; exact hz
    exact ⟨.ref _, upd H (s.heap.objs.size + 1) (.lst ((bs.mergeSort leI).map fun b => V.ref b.1)), I.laid (t' := s.toks) (fun _ _ => PyProof.Rows.sortedAll_old) (Nat.le_succ _) ⟨hlen, out, ep, refs_each eo, he'⟩, rfl, q _ (I.hok.fresh (Nat.le_succ _))⟩
end L2

namespace MxD
open PySem PySem.Spec
/-! ### max(xs, default=d) -/
theorem okArgs (a d : Value) : argsOk "max" ⟨[a], [(Str.ofString "default", d)]⟩ := by unfold argsOk; kernel_rfl
section
variable {prog : Program} {w : World} {A : Around} {R : Result → Shared → Prop} {I : Addr} {fp wr : List Addr} {n : Nat} {P : Nat → Value → Prop} {St : Nat → Heap → Prop}
abbrev Kw (dv : Value) : List (Str × Value) := [(Str.ofString "default", dv)]
theorem lname : (toString "max" ++ toString ".loop" : String) = "max.loop" := by decide
abbrev hd (S I : Addr) (dv : Value) : Code := .builtin "max.loop" ⟨[.ref I, .none, .ref S], Kw dv⟩
/-- from a best item on -/
theorem more (W : Walks prog w A.in1 I fp wr n P St) (bt : Nat → Nat → Bool) (cmp : CmpOf prog w A.in1 .Gt P bt) (S : Addr) (off : S ∉ fp) (dv : Value) : ∀ (left j : Nat) (t : Shared) (best : Value) (c : Nat),
    j + 1 + left = n → St (j + 1) t.heap → P (argBest bt j) best → t.heap.get? S = some { cls := .type "list", data := .seq #[best, best] c } →
    (∀ v h' tk, P (argBest bt (n - 1)) v → (∀ b o, b ∉ wr → b ≠ S → t.heap.get? b = some o → h'.get? b = some o) → R (.ok (.ret v)) { t with heap := h', toks := tk }) → codeAny (model prog w) A (hd S I dv) R t
  | 0, j, t, best, c, hj, st, pb, at_, fin => by
    have offw : S ∉ wr := fun z => off (W.sub _ z)
    refine codeAny_builtin F.entry_max_loop (by
      rw [Around.under_plainId F.plain_max_loop _]
      show wpAny _ A.in1 (seqItems? (.ref S) >>= _) _ _ t
      refine wpAny_bind (wpAny_seqItems at_ rfl (?_ : wpAny _ A.in1 (tryCatch (pyNext (.ref I)) _ >>= _) _ _ t))
      refine wpAny_bind (wpAny_tryCatch (W.done t _ _ (by rw [show n = j + 1 by omega]; exact st) fun h1 tk same => ?_))
      refine (?_ : wpAny _ A.in1 (updateSeq S (fun _ => #[]) >>= _) _ _ _)
      refine wpAny_bind (wpAny_updateSeq (same S _ offw at_) rfl (wpAny_bind (wpAny_letGo (wpAny_pure ?_))))
      exact fin best _ tk (by rw [show n - 1 = j by omega]; exact pb) fun b o z1 z2 e => (Heap.get?_update_other _ _ (Ne.symm z2)).trans (same b o z1 e))
  | left + 1, j, t, best, c, hj, st, pb, at_, fin => by
    have offw : S ∉ wr := fun z => off (W.sub _ z)
    refine codeAny_builtin F.entry_max_loop (by
      rw [Around.under_plainId F.plain_max_loop _]
      show wpAny _ A.in1 (seqItems? (.ref S) >>= _) _ _ t
      refine wpAny_bind (wpAny_seqItems at_ rfl (?_ : wpAny _ A.in1 (tryCatch (pyNext (.ref I)) _ >>= _) _ _ t))
      refine wpAny_bind (wpAny_tryCatch (W.item (j + 1) t _ _ (by omega) st fun v h1 tk pv st1 same => ?_))
      have at1 := same S _ offw at_
      refine (?_ : wpAny _ A.in1 (tryCatch (holding [v, v] (richCompare .Gt v best >>= _)) _ >>= _) _ _ _)
      refine wpAny_bind (wpAny_tryCatch (wpAny_holding (wpAny_bind (cmp (j + 1) (argBest bt j) v best _ _ _ pv pb (wpAny_bind (wpAny_holding (wpAny_truthy_bool (wpAny_bind (wpAny_letGo (wpAny_pure ?_))))))))))
      cases hb : bt (j + 1) (argBest bt j) with
      | true =>
        simp only [if_true]
        refine wpAny_bind (wpAny_updateSeq at1 rfl (wpAny_bind (wpAny_letGo ?_)))
        rw [lname]
        refine wpAny_pure ⟨plainId_quiet F.plain_max_loop _, more W bt cmp S off dv left (j + 1) _ v _ (by omega) (W.frame _ _ _ st1 fun b z o e => ?_) (by simp only [argBest, hb, if_true]; exact pv) (Heap.get?_update_self _ at1 rfl) fun v2 h2 tk2 p2 same2 => ?_⟩
        · exact (Heap.get?_update_other _ _ (fun q : S = b => off (by rw [q]; exact z))).trans e
        · exact fin v2 h2 tk2 p2 fun b o z1 z2 e => same2 b o z1 z2 ((Heap.get?_update_other _ _ (Ne.symm z2)).trans (same b o z1 e))
      | false =>
        simp only [Bool.false_eq_true, if_false]
        refine wpAny_bind (wpAny_letGo (by
          rw [lname]
          refine wpAny_pure ⟨plainId_quiet F.plain_max_loop _, more W bt cmp S off dv left (j + 1) _ best c (by omega) st1 (by simp only [argBest, hb, Bool.false_eq_true, if_false]; exact pb) at1 fun v2 h2 tk2 p2 same2 => ?_⟩
          exact fin v2 h2 tk2 p2 fun b o z1 z2 e => same2 b o z1 z2 (same b o z1 e))))
theorem start (W : Walks prog w A.in1 I fp wr n P St) (bt : Nat → Nat → Bool) (cmp : CmpOf prog w A.in1 .Gt P bt) (S : Addr) (off : S ∉ fp) (dv : Value) {t : Shared} {c : Nat} (st : St 0 t.heap)
    (at_ : t.heap.get? S = some { cls := .type "list", data := .seq #[] c })
    (fin : ∀ v h' tk, ((n = 0 ∧ v = dv) ∨ (0 < n ∧ P (argBest bt (n - 1)) v)) → (∀ b o, b ∉ wr → b ≠ S → t.heap.get? b = some o → h'.get? b = some o) → R (.ok (.ret v)) { t with heap := h', toks := tk }) : codeAny (model prog w) A (hd S I dv) R t := by
  have offw : S ∉ wr := fun z => off (W.sub _ z)
  refine codeAny_builtin F.entry_max_loop (by
    rw [Around.under_plainId F.plain_max_loop _]
    show wpAny _ A.in1 (seqItems? (.ref S) >>= _) _ _ t
    refine wpAny_bind (wpAny_seqItems at_ rfl (?_ : wpAny _ A.in1 (tryCatch (pyNext (.ref I)) _ >>= _) _ _ t))
    by_cases n0 : n = 0
    · refine wpAny_bind (wpAny_tryCatch (W.done t _ _ (by rw [n0]; exact st) fun h1 tk same => ?_))
      refine wpAny_bind (wpAny_rule (wpAny_pure ?_))
      exact fin dv h1 tk (.inl ⟨n0, rfl⟩) fun b o z1 _ e => same b o z1 e
    · refine wpAny_bind (wpAny_tryCatch (W.item 0 t _ _ (by omega) st fun v h1 tk pv st1 same => ?_))
      have at1 := same S _ offw at_
      refine (?_ : wpAny _ A.in1 (updateSeq S (fun _ => #[v, v]) >>= _) _ _ _)
      refine wpAny_bind (wpAny_updateSeq at1 rfl (by
        rw [lname]
        refine wpAny_pure ⟨plainId_quiet F.plain_max_loop _, more W bt cmp S off dv (n - 1) 0 _ v _ (by omega) (W.frame _ _ _ st1 fun b z o e => ?_) pv (Heap.get?_update_self _ at1 rfl) fun v2 h2 tk2 p2 same2 => ?_⟩
        · exact (Heap.get?_update_other _ _ (fun q : S = b => off (by rw [q]; exact z))).trans e
        · exact fin v2 h2 tk2 (.inr ⟨by omega, p2⟩) fun b o z1 z2 e => same2 b o z1 z2 ((Heap.get?_update_other _ _ (Ne.symm z2)).trans (same b o z1 e)))))
theorem params (d : Value) : Builtin.Builtins.bindParams "max" ["key", "default"] 0 ⟨[], Kw d⟩ = pure [none, some d] := rfl
end
section
variable {prog : Program} {w : World} {A : Around} {E : Value → Shared → Prop} {s : Shared}
theorem callD {l : Addr} {its : Array Value} {bt : Nat → Nat → Bool} {d : Value} {Q : Value → Shared → Prop} (hh : A.handled = none) (hl : s.heap.IsList l its)
    (cmp : CmpOf prog w A.in1 .Gt (fun i v => its[i]? = some v) bt)
    (h : ∀ v h' tk, ((its.size = 0 ∧ v = d) ∨ (0 < its.size ∧ its[argBest bt (its.size - 1)]? = some v)) → (∀ b o, s.heap.get? b = some o → h'.get? b = some o) → Q v { s with heap := h', toks := tk }) :
    wpAny (model prog w) A (call (.builtin "max") [.ref l] (Kw d)) Q E s := by
  refine wpAny_call (codeAny_call_builtin F.plain_max F.entry_max ?_)
  have go : wpAny (model prog w) A.in1 (Builtin.«max» ⟨[.ref l], Kw d⟩) (fun fin s' => match fin with
      | .done f => (match (Except.ok f : Result) with | .ok (.ret v) => Q v s' | .ok _ => False | .error e => E e s')
      | .again c' => c'.quiet = true ∧ codeAny (model prog w) A c' (fun r s' => match r with | .ok (.ret v) => Q v s' | .ok _ => False | .error e => E e s') s') E s := by
    show wpAny _ A.in1 (Builtin.Builtins.bindParams "max" ["key", "default"] 0 ⟨[], Kw d⟩ >>= _) _ _ s
    rw [params d]
    refine wpAny_bind (wpAny_pure (wpAny_bind (wpAny_pure (wpAny_bind (wpAny_pyIter_list hl (wpAny_bind (wpAny_newObj_type ?_)))))))
    rw [lname]
    have lt : l < s.heap.objs.size := let ⟨o, ho, _⟩ := hl; Heap.lt_size ho
    generalize hI : s.heap.objs.size = I at *
    have nlI : l ≠ I := Nat.ne_of_lt lt
    have st0 : (s.heap.push { cls := .type "list_iterator", data := .fields #[.ref l, .int 0 0] }).IsListIter I l 0 ∧ (s.heap.push { cls := .type "list_iterator", data := .fields #[.ref l, .int 0 0] }).IsList l its :=
      ⟨⟨_, by rw [← hI]; exact Heap.get?_push_size _ rfl, rfl, rfl⟩, hl.push _⟩
    have sz : (s.heap.push { cls := .type "list_iterator", data := .fields #[.ref l, .int 0 0] }).objs.size = I + 1 := by rw [Heap.size_push, hI]
    have k1 : ∀ b o, s.heap.get? b = some o → (s.heap.push { cls := .type "list_iterator", data := .fields #[.ref l, .int 0 0] }).get? b = some o := fun b o e => Heap.get?_push_of_some _ e
    have W := Walks.list (prog := prog) (w := w) (A := A.in1) hh I l nlI its
    generalize hg1 : s.heap.push { cls := .type "list_iterator", data := .fields #[.ref l, .int 0 0] } = g1 at *
    have W' := Walks.list (prog := prog) (w := w) (A := A.in1) hh I l nlI its
    have ne1 : g1.objs.size ≠ I := by rw [sz]; exact Nat.succ_ne_self I
    have ne2 : g1.objs.size ≠ l := by rw [sz]; exact Nat.ne_of_gt (Nat.lt_succ_of_lt lt)
    have k2 : ∀ b o, g1.get? b = some o → (g1.push { cls := .type "list", data := .seq #[] 0 }).get? b = some o := fun b o e => Heap.get?_push_of_some _ e
    refine wpAny_pure ⟨plainId_quiet F.plain_max_loop _, start W' bt cmp g1.objs.size (by simp only [List.mem_cons, List.not_mem_nil, or_false]; exact fun z => z.elim ne1 ne2) d (W'.frame _ _ _ st0 fun b _ o e => k2 b o e) (Heap.get?_push_size _ rfl) fun v h' tk p same => ?_⟩
    refine h v h' tk p fun b o e => ?_
    have lb : b < I := by rw [← hI]; exact Heap.lt_size e
    exact same b o (by simp only [List.mem_cons, List.not_mem_nil, or_false]; exact Nat.ne_of_lt lb) (by rw [sz]; exact Nat.ne_of_lt (Nat.lt_succ_of_lt lb)) (k2 b o (k1 b o e))
  simp only [checkBuiltinCall, F.kind_max]
  cases hsig : Manifest.signature? "max" with
  | none => exact wpAny_pure go
  | some sig =>
    have ha := okArgs (.ref l) d
    simp only [argsOk, hsig] at ha
    have h2 : Bind.checkArgs "max" sig ⟨[.ref l], Kw d⟩ = pure () := ha
    show wpAny _ A.in1 (Bind.checkArgs "max" sig ⟨[.ref l], Kw d⟩) _ _ s
    rw [h2]
    exact wpAny_pure go
end
end MxD
namespace L2
open PySem PySem.Spec PyProof.Rows
def rMaxDf (K : PySem.W.Frag) : List V → List V → Hp → VK → Prop := fun vs zs H Q => ∃ (a : Addr) (ns : List Int) (d : Int), vs = [V.ref a] ∧ zs = [V.int d] ∧ SqL K H a (ns.map V.int) ∧
  (ns = [] → Q (.int d) H) ∧ ∀ m, m ∈ ns → (∀ y ∈ ns, y ≤ m) → Q (.int m) H
theorem cr_maxDf {X : Cx} (hc : X.calm = true) : CallRK X (.builtin "max") [Str.ofString "default"] (rMaxDf X.K) := by
  intro pins s σ H vs zs us ws Q I r rz h
  obtain ⟨a, ns, d, rfl, rfl, hs, q0, q1⟩ := h
  rw [Vals.ref1 r]
  obtain ⟨u, rfl, t, rfl⟩ := vals1 rz
  obtain ⟨its, rv, hl, _⟩ := I.list hs
  have hi := rv.ints
  obtain ⟨xs, e⟩ := hi.allInts.items
  have hn : numsOf (intItems xs).toList = ns := by rw [← e]; exact hi.numsOf
  rw [nums_intItems] at hn
  have hl1 := hl.isList
  rw [e] at hl1
  refine MxD.callD (I.ok.hd hc) hl1 (CmpOf.ints_gt (numAt xs) (fun _ _ => intItems_at)) fun v h' tk p k => ?_
  have sz : (intItems xs).size = xs.size := by simp [intItems]
  have ln : ns.length = xs.size := by rw [← hn]; simp
  rw [sz] at p
  obtain ⟨z, rfl⟩ | ⟨z, hv⟩ := p
  · have : ns = [] := List.eq_nil_of_length_eq_zero (by omega)
    exact ⟨.int d, H, I.kept k, ⟨_, rfl⟩, q0 this⟩
  · obtain ⟨t2, rfl⟩ := intItems_at hv
    obtain ⟨h1, h2⟩ := argBest_gt (numAt xs) (xs.size - 1)
    refine ⟨.int _, H, I.kept k, ⟨_, rfl⟩, q1 _ ?_ fun y hy => ?_⟩
    · rw [← hn, numAt_eq]
      exact PySem.getD_mem (by rw [List.length_map, Array.length_toList]; omega)
    · rw [← hn] at hy
      obtain ⟨j, hj⟩ := List.getElem?_of_mem hy
      have lj : j < xs.size := by
        have := (List.getElem?_eq_some_iff.mp hj).1
        rw [List.length_map, Array.length_toList] at this
        exact this
      have := h2 j (by omega)
      have ej : numAt xs j = y := by
        rw [numAt_eq, List.getD_eq_getElem?_getD, hj]
        rfl
      rw [ej] at this
      exact this
end L2

namespace K09
open PySem L2 Gd Ply
def gOr (u v : TG) : TG := fun x σ H R => u x σ H R ∨ v x σ H R
theorem pg_or {X : Cx} {tg : Expr} {u v : TG} (a : PG X tg u) (b : PG X tg v) : PG X tg (gOr u v) where
  run := by
    rintro pins s σ H x y R I r (h | h)
    · exact a.run pins s σ H x y R I r h
    · exact b.run pins s σ H x y R I r h
theorem pi_listK {X : Cx} {K : PySem.W.Frag} (hK : X.K = K) {tg e : Expr} {te : TE} (h : PE X e te) : PI X tg e (iList K te) := hK ▸ pi_list h
theorem cr_maxDfK {X : Cx} {K : PySem.W.Frag} (hK : X.K = K) (hc : X.calm = true) : CallRK X (.builtin "max") [Str.ofString "default"] (rMaxDf K) := hK ▸ cr_maxDf hc
/-! ### what a sum of powers is -/
structure It3 where
  p : Addr
  b : Addr
  k : List Int
  n : Int
/-- at t stands the tuple of the terms l -/
def TAt (H : Hp) (t : Addr) (l : Po) : Prop := ∃ L : List It3, H t = some (.tup (L.map fun e => V.ref e.p)) ∧ (∀ e ∈ L, H e.p = some (.tup [.ref e.b, .int e.n]) ∧ H e.b = some (.tup (e.k.map V.int))) ∧ (L.map fun e => (e.k, e.n)) = l
theorem TAt.more {H H' : Hp} {t : Addr} {l : Po} (e : ∀ b o, H b = some o → H' b = some o) (h : TAt H t l) : TAt H' t l :=
  let ⟨L, a, b, c⟩ := h; ⟨L, e _ _ a, fun x hx => ⟨e _ _ (b x hx).1, e _ _ (b x hx).2⟩, c⟩
def Canon (f : List Int → Int) (l : Po) : Prop := ∃ q, Form f q ∧ l = q.map fun k => (k, f k)
theorem Canon.one {f : List Int → Int} {a b : Po} (ha : Canon f a) (hb : Canon f b) : a = b := by
  obtain ⟨q, h1, rfl⟩ := ha
  obtain ⟨q2, h2, rfl⟩ := hb
  rw [h1.one h2]
/-- the greatest size at one place -/
structure Gr (q : List (List Int)) (i : Nat) (m : Int) : Prop where
  on : m = 0 ∨ ∃ k ∈ q, m = (k.getD i 0).natAbs
  low : 0 ≤ m
  up : ∀ k ∈ q, ((k.getD i 0).natAbs : Int) ≤ m
theorem Gr.one {q : List (List Int)} {i : Nat} {m n : Int} (a : Gr q i m) (b : Gr q i n) : m = n := by
  have h : ∀ m n, Gr q i m → Gr q i n → m ≤ n := by
    intro m n a b
    obtain rfl | ⟨k, hk, rfl⟩ := a.on
    · exact b.low
    · exact b.up k hk
  exact Int.le_antisymm (h _ _ a b) (h _ _ b a)
/-- the new object at a, with its three fields, is the sum f -/
structure Pob (H : Hp) (C a : Addr) (f : List Int → Int) : Prop where
  ex : ∃ (dx t r d : Addr) (fs : List (Str × V)) (l p : Po) (m0 m1 m2 : Int), H a = some (.ins C dx fs) ∧ fs.lookup ("terms" : Str) = some (V.ref t) ∧ fs.lookup ("reach" : Str) = some (V.ref r) ∧ fs.lookup ("_numbers" : Str) = some (V.ref d) ∧
    TAt H t l ∧ Canon f l ∧ H r = some (.tup [.int m0, .int m1, .int m2]) ∧ (Gr (ks l) 0 m0 ∧ Gr (ks l) 1 m1 ∧ Gr (ks l) 2 m2) ∧ H d = some (.dT (dk p)) ∧ (ks p).Nodup ∧ (∀ k, val p k = f k) ∧ p.length ≤ 300 ∧ ∀ e ∈ p, e.1.length = 3
theorem Pob.more {H H' : Hp} {C a : Addr} {f : List Int → Int} (e : ∀ b o, H b = some o → H' b = some o) (h : Pob H C a f) : Pob H' C a f :=
  let ⟨dx, t, r, d, fs, l, p, m0, m1, m2, h1, h2, h3, h4, h5, h6, h7, h8, h9, h10⟩ := h.ex
  ⟨dx, t, r, d, fs, l, p, m0, m1, m2, e _ _ h1, h2, h3, h4, h5.more e, h6, e _ _ h7, h8, e _ _ h9, h10⟩
theorem paired_at {α β : Type} {R : α → β → Prop} : ∀ {xs : List α} {l : List β}, Paired R xs l → ∀ {i : Nat} {y : α}, xs[i]? = some y → ∃ e, l[i]? = some e ∧ R y e
  | _, _, .nil, i, y, h => by rw [List.getElem?_nil] at h; cases h
  | _, _, .cons h t, 0, y, e => by cases e; exact ⟨_, rfl, h⟩
  | _, _, .cons h t, i + 1, y, e => by
    rw [List.getElem?_cons_succ] at e
    obtain ⟨z, h1, h2⟩ := paired_at t e
    exact ⟨z, by rw [List.getElem?_cons_succ]; exact h1, h2⟩
theorem valD (p : Po) (k : List Int) : (valV (dk p) (kI k)).getD (.int 0) = .int (val p k) := by
  rw [valV_dk]
  unfold val
  cases look p k <;> rfl
theorem valS {p : Po} {k : List Int} (h : k ∈ ks p) : valV (dk p) (kI k) = some (.int (val p k)) := by
  rw [valV_dk]
  rw [mem_ks] at h
  unfold val
  cases e : look p k with
  | none => rw [e] at h; cases h
  | some v => rfl
theorem dk_len (p : Po) : (dk p).length = p.length := by unfold dk; rw [List.length_map]
theorem sort_form {f : List Int → Int} {bs : List (Addr × List Int)} (nd : (bs.map (·.2)).Nodup) (all : ∀ k, k ∈ bs.map (·.2) ↔ f k ≠ 0) : Form f ((bs.mergeSort leI).map (·.2)) where
  up := by
    rw [List.pairwise_map]
    have h := List.pairwise_mergeSort (le := leI) (fun a b c h1 h2 => by
      unfold leI at *
      rw [decide_eq_true_eq] at *
      exact List.le_trans h1 h2) (fun a b => by
      unfold leI
      rcases List.le_total a.2 b.2 with h | h
      · rw [decide_eq_true h]; rfl
      · rw [decide_eq_true h, Bool.or_true]) bs
    exact h.imp fun h => of_decide_eq_true h
  nd := (((List.mergeSort_perm bs leI).map (·.2)).nodup_iff).mpr nd
  all := fun k => (((List.mergeSort_perm bs leI).map (·.2)).mem_iff).trans (all k)
theorem accum_all {P : List Int → Prop} : ∀ (l p : Po), (∀ e ∈ p, P e.1) → (∀ e ∈ l, P e.1) → ∀ e ∈ accum p l, P e.1
  | [], p, h, _ => h
  | x :: l, p, h, hl => accum_all l (put p x.1 (val p x.1 + x.2)) (fun e he => by
      rcases mem_put he with rfl | he
      · exact hl x (.head _)
      · exact h e he) fun e he => hl e (.tail _ he)
theorem paired_back {α β : Type} {R : α → β → Prop} : ∀ {xs : List α} {l : List β}, Paired R xs l → ∀ e ∈ l, ∃ y, R y e
  | _, _, .nil, e, h => nomatch h
  | _, _, .cons h t, e, he => by
    rcases List.mem_cons.mp he with rfl | he
    · exact ⟨_, h⟩
    · exact paired_back t e he
def spInit (K : PySem.W.Frag) (C CR : Addr) : Sp := fun vs H Q E => ∃ (a t dx : Addr) (xs : List V), vs = [.ref a, .ref t] ∧ H a = some (.ins C dx []) ∧ Sq K H t xs ∧ xs.length ≤ 300 ∧
  ((∃ l : Po, Paired (fun x e => Trm K H x e.1 e.2) xs l ∧ ∀ H', (∀ b o, H b = some o → b ≠ a → H' b = some o) → Pob H' C a (tot l) → Q .non H') ∨
    ∃ (i : Nat) (x : V), xs[i]? = some x ∧ NoTrm K H x ∧ (∀ j y, j < i → xs[j]? = some y → ∃ ds n, Trm K H y ds n) ∧ ∀ H', More H H' → RRow CR x H' E)
section
variable {P : Program} {w : World} {K : PySem.W.Frag} {mg : Str → Option Value} {base : Heap}
variable {fI fS fR fT fB f CR C : Addr} {fdI fdS fdR fdT fdB fd : FuncData}
structure Blt2 (mg : Str → Option Value) : Prop where
  sorted_ : mg "sorted" = none
  max_ : mg "max" = none
  abs_ : mg "abs" = none
  dict_ : mg "dict" = none
abbrev sPw : Stmt := inClass (top 24) 0
abbrev NPw : List Str := ["self", "terms", "item", "numbers", "exponents", "number", "power", "kept", "at", "told"]
def compOf (s : Stmt) : Scope := match s with
  | .Assign _ (.Call _ [.ListComp _ _ sc _] _ _) _ => sc
  | _ => { kind := .function, names := [], isGenerator := false, isCoroutine := false }
theorem scPw : FnScope NPw ["self", "terms"] (defScope sPw) := ⟨rfl, rfl, rfl, by decide +kernel, rfl, by decide +kernel, by decide +kernel⟩
theorem ok_init (F : Fun K "__init__" "Powers.__init__" sPw f fd) (B : Blt mg) (B2 : Blt2 mg) (cl : Cls K C) (n1 : NoAttr K C "terms") (n2 : NoAttr K C "reach") (n3 : NoAttr K C "_numbers")
    (I : Cl K mg "is_integer" sIsI ["value"] fI fdI) (S : Cl K mg "is_integers" sIsIs ["value"] fS fdS) (R : Cl K mg "is_row" sRow ["value", "width"] fR fdR) (T : Cl K mg "is_term" sTerm ["item"] fT fdT)
    (Br : Er K mg "BadRow" "BadRow.__init__" CR fB ["row"] sBadRow fdB) : FnOk P w K mg base (L2.CX P w) 6 f fd ["self", "terms"] (spInit K C CR) := by
  have GT : FnOk P w K mg base CX0 4 fT fdT ["item"] (spTerm K) := ok_term T.fn B I S R
  have GB : FnOk P w K mg base CX0 1 fB fdB ["self", "row"] (spIni CR ["row"]) := okBadRow Br.fn Br.T Br.no
  refine F.okX scPw (fun vs H Q E h => ?_) (fun cdv A outer s H vs Q E hr h => ?_)
  · obtain ⟨a, t, dx, xs, rfl, _⟩ := h
    rfl
  · obtain ⟨a, t, dx, xs, rfl, ha, sq, few, h⟩ := h
    have hu := hu_of hr
    have hu64 := hr.units
    refine ⟨_, Evl.pss_cut (ps_for (passes_of rfl) rfl (pi_or (pi_list (pv 1)) (pi_tup (pv 1))) (pg_name (i := 2) scPw.nd rfl (Or.inl rfl))
        (pss_one (ps_if (pt_not (pt_val (pe_call GT (hr.mono (by decide)) rfl T.g T.k T.b .nil pass0 (pa_cons (pv 2) pa_nil))))
          (pss_one (ps_raise rfl (takes_of rfl rfl rfl rfl) (pmk_oex Br.T Br.iC Br.tI GB (hr.mono (by decide)) Br.b .nil pass0 rfl Br.g (pa_cons (pv 2) pa_nil)))) pss_nil)))
      (pss_cons (ps_set (i := 3) scPw.nd rfl (Or.inr rfl) pe_dnewT)
      (Evl.pss_cut (ps_for (passes_of rfl) rfl (pi_or (pi_list (pv 1)) (pi_tup (pv 1))) (pg_or (pg_tup (by rfl) (pgs_cons (pg_name (i := 4) scPw.nd rfl (Or.inl rfl)) (pgs_cons (pg_name (i := 5) scPw.nd rfl (Or.inl rfl)) pgs_nil)))
            (pg_unl (by rfl) (pgs_cons (pg_name (i := 4) scPw.nd rfl (Or.inl rfl)) (pgs_cons (pg_name (i := 5) scPw.nd rfl (Or.inl rfl)) pgs_nil))))
        (pss_cons (ps_set (i := 6) scPw.nd rfl (Or.inl rfl) (pe_callTy call_tuple_of (by rfl) B.tup_ (by decide +kernel) (pa_cons (pv 4) pa_nil)))
        (pss_one (ps_dput hu (pv 3) (pv 6) (pe_op op_add (pe_dor hu (pv 3) (pv 6) (pv 3) (pv 6) (fun _ _ => rfl) pe_int (by rfl)) (pv 5)) rfl))))
      (pss_cons (ps_set (i := 7) scPw.nd rfl (Or.inr rfl) (pe_callB (cr_sortTI hu64) (by rfl) B2.sorted_ (by decide +kernel) (pa_cons (pe_lock (pe_lc (own := [("power", 6)]) (g := gName 6) rfl scPw.nd (pi_keys (pv 3))
          (blkOk_by (N := NPw) (sc := defScope sPw) (by decide +kernel)) (fun _ _ _ _ _ => pg_name (i := 6) scPw.nd rfl (Or.inl rfl))
          (fun _ _ _ _ _ => pts_one (pt_cmpR op_ne (pe_dget hu (pv 3) (pv 6) (fun _ _ => rfl)) pe_int (nomark _))) (fun _ _ _ _ _ => pv 6))) pa_nil)))
      (pss_cons (ps_fld (pv 0) (pe_callTy call_tuple_of (by rfl) B.tup_ (by decide +kernel) (pa_cons (pe_lc (own := [("power", 6)]) (g := gName 6) (tt := tYes) rfl scPw.nd (pi_list (pv 7))
          (blkOk_by (N := NPw) (sc := defScope sPw) (by decide +kernel)) (fun _ _ _ _ _ => pg_name (i := 6) scPw.nd rfl (Or.inl rfl)) (fun _ _ _ _ _ => pts_nil)
          (fun _ _ _ _ _ => pe_tup (pa_cons (pv 6) (pa_cons (pe_dget hu (pv 3) (pv 6) (fun _ _ => rfl)) pa_nil)))) pa_nil)) rfl)
      (pss_cons (ps_fld (pv 0) (pe_callTy call_tuple_of (by rfl) B.tup_ (by decide +kernel) (pa_cons (pe_lc (own := [("at", 8)]) (g := gName 8) (tt := tYes) rfl scPw.nd (pi_range1 rfl B.range_ (pa_cons pe_int pa_nil))
          (blkOk_by (N := NPw) (sc := defScope sPw) (by decide +kernel)) (fun _ _ _ _ _ => pg_name (i := 8) scPw.nd rfl (Or.inr rfl)) (fun _ _ _ _ _ => pts_nil)
          (fun _ _ _ _ _ => pe_callBK (id := "max") (r := rMaxDf K) (cr_maxDfK rfl rfl) (by rfl) B2.max_ (by decide +kernel) (pa_cons (by exact (pe_lc (own := [("told", 9)]) (g := gName 9) (tt := tYes) rfl scPw.nd (pi_listK (K := K) rfl (pv 7))
            (blkOk_by (N := NPw) (sc := relabel (compOf ((defBody sPw).getD 5 (.Pass ⟨0, 0, 0, 0⟩))) (PyProof.Rows.envOfC "Powers.__init__" (defScope sPw) 0 0 .none)) (by decide +kernel)) (fun _ _ _ _ _ => pg_name (i := 9) scPw.nd rfl (Or.inl rfl)) (fun _ _ _ _ _ => pts_nil)
            (fun _ _ _ _ _ => pe_callB call_abs (by rfl) B2.abs_ (by decide +kernel) (pa_cons (pe_ix (r := rIxT K) ix_tup (pv 9) (pv 8) (fun _ _ => rfl)) pa_nil)))) pa_nil) (pk_cons pe_int pk_nil))) pa_nil)) rfl)
      (pss_one (ps_fld (pv 0) (pv 3) rfl))))))), ?_⟩
    obtain ⟨l, hl, q⟩ | ⟨i0, x0, hx0, no, before, q⟩ := h
    · refine ⟨fun σ' H' => ∃ z, σ' = [some (.ref a), some (.ref t), z, none, none, none, none, none, none, none] ∧ More H H', ?_, ?_⟩
      · have P1 : Nat → L2.St → Hp → Prop := fun i σ' H' => ∃ z, σ' = [some (.ref a), some (.ref t), z, none, none, none, none, none, none, none] ∧ More H H'
        rcases sq with s | s
        · refine .inl ⟨_, rfl, t, rfl, ⟨xs, s⟩, for_it walk_list (fun i σ' H' => ∃ z, σ' = [some (.ref a), some (.ref t), z, none, none, none, none, none, none, none] ∧ More H H') ⟨_, rfl, fun _ _ e => e⟩ (fun i σ' H' _ ⟨_, _, m⟩ => Same.seq m s) ?_ (fun _ _ h => h)⟩
          rintro i y σ2 H2 H3 hi ⟨z, rfl, m2⟩ ⟨rfl, hy⟩
          obtain ⟨e, _, tr⟩ := paired_at hl hy
          exact ⟨_, rfl, y, rfl, .inl ⟨e.1, e.2, tr.more m2, fun H' mo => ⟨_, rfl, iteF ⟨_, rfl, fun b o q => mo b o (m2 b o q)⟩⟩⟩⟩
        · refine .inr ⟨_, rfl, t, rfl, ⟨xs, s⟩, for_it walk_tup (fun i σ' H' => ∃ z, σ' = [some (.ref a), some (.ref t), z, none, none, none, none, none, none, none] ∧ More H H') ⟨_, rfl, fun _ _ e => e⟩ (fun i σ' H' _ ⟨_, _, m⟩ => sqT_more m s) ?_ (fun _ _ h => h)⟩
          rintro i y σ2 H2 H3 hi ⟨z, rfl, m2⟩ ⟨rfl, hy⟩
          obtain ⟨e, _, tr⟩ := paired_at hl hy
          exact ⟨_, rfl, y, rfl, .inl ⟨e.1, e.2, tr.more m2, fun H' mo => ⟨_, rfl, iteF ⟨_, rfl, fun b o q => mo b o (m2 b o q)⟩⟩⟩⟩
      · rintro σ1 H1 ⟨z, rfl, m1⟩
        intro d hd
        have hd0 : H d = none := More.off m1 hd
        have nad : a ≠ d := ne_of_none ha hd0
        have dl : xs.length = l.length := Paired.length hl
        have turn : ∀ (i : Nat) (y : V) (H2 : Hp), xs[i]? = some y → H2 d = some (.dT (dk (accum [] (l.take i)))) → More H H2 → ∃ e, l[i]? = some e ∧ ∃ a' b, y = .ref a' ∧ Sq K H2 a' [.ref b, .int e.2] ∧ Sk K H2 b (e.1.map V.int) ∧ e.1.length = 3 ∧
            accum [] (l.take (i + 1)) = put (accum [] (l.take i)) e.1 (val (accum [] (l.take i)) e.1 + e.2) ∧ (dk (accum [] (l.take i))).length < sizeLine := by
          intro i y H2 hy h2 m2
          obtain ⟨e, he, tr⟩ := paired_at hl hy
          obtain ⟨a', b, r1, r2, r3, r4⟩ := tr.more m2
          refine ⟨e, he, a', b, r1, r2, r3, r4, ?_, ?_⟩
          · rw [take_snoc he, accum_snoc]
          · rw [dk_len]
            have := len_accum [] (l.take i)
            rw [List.length_take, List.length_nil] at this
            exact small1000 (by omega)
        refine ⟨fun σ' H' => ∃ z4 z5 z6, σ' = [some (.ref a), some (.ref t), z, some (.ref d), z4, z5, z6, none, none, none] ∧ H' d = some (.dT (dk (accum [] l))) ∧ More H H', ?_, ?_⟩
        · have fin : ∀ (i : Nat) (H2 : Hp) (e : List Int × Int) (b : Addr), H2 d = some (.dT (dk (accum [] (l.take i)))) → More H H2 → H2 b = some (.tup (e.1.map V.int)) → (dk (accum [] (l.take i))).length < sizeLine →
              accum [] (l.take (i + 1)) = put (accum [] (l.take i)) e.1 (val (accum [] (l.take i)) e.1 + e.2) →
              DGet H2 d (.ref b) (valV (dk (accum [] (l.take i))) (kI e.1)) ∧ DPut H2 d (.ref b) (.int (val (accum [] (l.take i)) e.1 + e.2)) (upd H2 d (.dT (dk (accum [] (l.take (i + 1)))))) ∧ More H (upd H2 d (.dT (dk (accum [] (l.take (i + 1)))))) := by
            intro i H2 e b h2 m2 hb len ea
            have hb' : H2 b = some (.tup ((kI e.1).map kV)) := by rw [kI_V]; exact hb
            refine ⟨DGet.t h2 hb', ?_, m2.at hd0⟩
            rw [ea, ← putK_dk]
            exact DPut.t h2 hb' len
          rcases sq with s0 | s0
          · refine .inl ⟨_, rfl, t, rfl, ⟨xs, Same.seq (m1.at hd0) s0⟩, for_it (walk_list (xs := xs)) (fun i σ' H' => ∃ z4 z5 z6, σ' = [some (.ref a), some (.ref t), z, some (.ref d), z4, z5, z6, none, none, none] ∧ H' d = some (.dT (dk (accum [] (l.take i)))) ∧ More H H')
              ⟨none, none, none, rfl, (by exact upd_same), (by exact m1.at hd0)⟩ (fun i σ' H' _ ⟨_, _, _, _, _, m⟩ => Same.seq m s0) ?_ (fun σ' H' h => ?_)⟩
            · rintro i y σ2 H2 H3 hi ⟨z4, z5, z6, rfl, h2, m2⟩ ⟨rfl, hy⟩
              obtain ⟨e, he, a', b, rfl, s1, s2, l3, ea, len⟩ := turn i y H3 hy h2 m2
              have go : ∀ (b' : Addr) (H4 : Hp), H4 d = some (.dT (dk (accum [] (l.take i)))) → More H H4 → H4 b' = some (.tup (e.1.map V.int)) →
                  ∃ o, DGet H4 d (.ref b') o ∧ o.getD (.int 0) = .int (val (accum [] (l.take i)) e.1) ∧ DPut H4 d (.ref b') (.int (val (accum [] (l.take i)) e.1 + e.2)) (upd H4 d (.dT (dk (accum [] (l.take (i + 1)))))) ∧ More H (upd H4 d (.dT (dk (accum [] (l.take (i + 1)))))) := by
                intro b' H4 g1 g2 g3
                obtain ⟨f1, f2, f3⟩ := fin i H4 e b' g1 g2 g3 len ea
                exact ⟨_, f1, valD _ _, f2, f3⟩
              rcases s1 with s1 | s1
              · refine .inr ⟨a', _, rfl, s1, rfl, _, _, rfl, _, _, rfl, rfl, ?_⟩
                rcases s2 with s2 | s2
                · refine ⟨_, rfl, b, _, rfl, .inl ⟨s2, fun p np => ?_⟩⟩
                  have npd : p ≠ d := fun z => by rw [z, h2] at np; cases np
                  obtain ⟨o, g1, g2, g3, g4⟩ := go p (upd H3 p (.tup (e.1.map V.int))) (by rw [upd_ne npd.symm]; exact h2) (m2.new np) upd_same
                  exact ⟨_, rfl, d, rfl, .inr ⟨_, .inl (by rw [upd_ne npd.symm]; exact h2)⟩, _, rfl, o, g1, _, rfl, _, _, g2, rfl, _, rfl, _, rfl, d, _, rfl, g3, _, _, _, rfl, upd_same, g4⟩
                · refine ⟨_, rfl, b, _, rfl, .inr ⟨SqT.of s2, ?_⟩⟩
                  obtain ⟨o, g1, g2, g3, g4⟩ := go b H3 h2 m2 s2
                  exact ⟨_, rfl, d, rfl, .inr ⟨_, .inl h2⟩, _, rfl, o, g1, _, rfl, _, _, g2, rfl, _, rfl, _, rfl, d, _, rfl, g3, _, _, _, rfl, upd_same, g4⟩
              · refine .inl ⟨a', _, rfl, s1, rfl, _, _, rfl, _, _, rfl, rfl, ?_⟩
                rcases s2 with s2 | s2
                · refine ⟨_, rfl, b, _, rfl, .inl ⟨s2, fun p np => ?_⟩⟩
                  have npd : p ≠ d := fun z => by rw [z, h2] at np; cases np
                  obtain ⟨o, g1, g2, g3, g4⟩ := go p (upd H3 p (.tup (e.1.map V.int))) (by rw [upd_ne npd.symm]; exact h2) (m2.new np) upd_same
                  exact ⟨_, rfl, d, rfl, .inr ⟨_, .inl (by rw [upd_ne npd.symm]; exact h2)⟩, _, rfl, o, g1, _, rfl, _, _, g2, rfl, _, rfl, _, rfl, d, _, rfl, g3, _, _, _, rfl, upd_same, g4⟩
                · refine ⟨_, rfl, b, _, rfl, .inr ⟨SqT.of s2, ?_⟩⟩
                  obtain ⟨o, g1, g2, g3, g4⟩ := go b H3 h2 m2 s2
                  exact ⟨_, rfl, d, rfl, .inr ⟨_, .inl h2⟩, _, rfl, o, g1, _, rfl, _, _, g2, rfl, _, rfl, _, rfl, d, _, rfl, g3, _, _, _, rfl, upd_same, g4⟩
            · obtain ⟨z4, z5, z6, rfl, h2, m2⟩ := h
              rw [dl, List.take_length] at h2
              exact ⟨z4, z5, z6, rfl, h2, m2⟩
          · refine .inr ⟨_, rfl, t, rfl, ⟨xs, sqT_more (m1.at hd0) s0⟩, for_it (walk_tup (xs := xs)) (fun i σ' H' => ∃ z4 z5 z6, σ' = [some (.ref a), some (.ref t), z, some (.ref d), z4, z5, z6, none, none, none] ∧ H' d = some (.dT (dk (accum [] (l.take i)))) ∧ More H H')
              ⟨none, none, none, rfl, (by exact upd_same), (by exact m1.at hd0)⟩ (fun i σ' H' _ ⟨_, _, _, _, _, m⟩ => sqT_more m s0) ?_ (fun σ' H' h => ?_)⟩
            · rintro i y σ2 H2 H3 hi ⟨z4, z5, z6, rfl, h2, m2⟩ ⟨rfl, hy⟩
              obtain ⟨e, he, a', b, rfl, s1, s2, l3, ea, len⟩ := turn i y H3 hy h2 m2
              have go : ∀ (b' : Addr) (H4 : Hp), H4 d = some (.dT (dk (accum [] (l.take i)))) → More H H4 → H4 b' = some (.tup (e.1.map V.int)) →
                  ∃ o, DGet H4 d (.ref b') o ∧ o.getD (.int 0) = .int (val (accum [] (l.take i)) e.1) ∧ DPut H4 d (.ref b') (.int (val (accum [] (l.take i)) e.1 + e.2)) (upd H4 d (.dT (dk (accum [] (l.take (i + 1)))))) ∧ More H (upd H4 d (.dT (dk (accum [] (l.take (i + 1)))))) := by
                intro b' H4 g1 g2 g3
                obtain ⟨f1, f2, f3⟩ := fin i H4 e b' g1 g2 g3 len ea
                exact ⟨_, f1, valD _ _, f2, f3⟩
              rcases s1 with s1 | s1
              · refine .inr ⟨a', _, rfl, s1, rfl, _, _, rfl, _, _, rfl, rfl, ?_⟩
                rcases s2 with s2 | s2
                · refine ⟨_, rfl, b, _, rfl, .inl ⟨s2, fun p np => ?_⟩⟩
                  have npd : p ≠ d := fun z => by rw [z, h2] at np; cases np
                  obtain ⟨o, g1, g2, g3, g4⟩ := go p (upd H3 p (.tup (e.1.map V.int))) (by rw [upd_ne npd.symm]; exact h2) (m2.new np) upd_same
                  exact ⟨_, rfl, d, rfl, .inr ⟨_, .inl (by rw [upd_ne npd.symm]; exact h2)⟩, _, rfl, o, g1, _, rfl, _, _, g2, rfl, _, rfl, _, rfl, d, _, rfl, g3, _, _, _, rfl, upd_same, g4⟩
                · refine ⟨_, rfl, b, _, rfl, .inr ⟨SqT.of s2, ?_⟩⟩
                  obtain ⟨o, g1, g2, g3, g4⟩ := go b H3 h2 m2 s2
                  exact ⟨_, rfl, d, rfl, .inr ⟨_, .inl h2⟩, _, rfl, o, g1, _, rfl, _, _, g2, rfl, _, rfl, _, rfl, d, _, rfl, g3, _, _, _, rfl, upd_same, g4⟩
              · refine .inl ⟨a', _, rfl, s1, rfl, _, _, rfl, _, _, rfl, rfl, ?_⟩
                rcases s2 with s2 | s2
                · refine ⟨_, rfl, b, _, rfl, .inl ⟨s2, fun p np => ?_⟩⟩
                  have npd : p ≠ d := fun z => by rw [z, h2] at np; cases np
                  obtain ⟨o, g1, g2, g3, g4⟩ := go p (upd H3 p (.tup (e.1.map V.int))) (by rw [upd_ne npd.symm]; exact h2) (m2.new np) upd_same
                  exact ⟨_, rfl, d, rfl, .inr ⟨_, .inl (by rw [upd_ne npd.symm]; exact h2)⟩, _, rfl, o, g1, _, rfl, _, _, g2, rfl, _, rfl, _, rfl, d, _, rfl, g3, _, _, _, rfl, upd_same, g4⟩
                · refine ⟨_, rfl, b, _, rfl, .inr ⟨SqT.of s2, ?_⟩⟩
                  obtain ⟨o, g1, g2, g3, g4⟩ := go b H3 h2 m2 s2
                  exact ⟨_, rfl, d, rfl, .inr ⟨_, .inl h2⟩, _, rfl, o, g1, _, rfl, _, _, g2, rfl, _, rfl, _, rfl, d, _, rfl, g3, _, _, _, rfl, upd_same, g4⟩
            · obtain ⟨z4, z5, z6, rfl, h2, m2⟩ := h
              rw [dl, List.take_length] at h2
              exact ⟨z4, z5, z6, rfl, h2, m2⟩
        · rintro σ2 H2 ⟨z4, z5, z6, rfl, h2, m2⟩
          have nd : (ks (accum [] l)).Nodup := nodup_accum (by exact List.nodup_nil) l
          have va : ∀ k, val (accum [] l) k = tot l k := fun k => by
            rw [val_accum]
            show (0 : Int) + _ = _
            omega
          have lA : (accum [] l).length ≤ 300 := by
            have := len_accum [] l
            rw [List.length_nil] at this
            omega
          have l3 : ∀ e ∈ accum [] l, e.1.length = 3 := accum_all (P := fun k => k.length = 3) l [] (fun _ h => nomatch h) fun e he => by
            obtain ⟨y, _, _, _, _, _, z⟩ := paired_back hl e he
            exact z
          have tv : ∀ k, tot l k = val (accum [] l) k := fun k => (va k).symm
          generalize hA : accum [] l = A at *
          refine ⟨d, .dT (dk A), h2, trivial, fun od => ?_⟩
          have ndA : A.length < sizeLine := small1000 (by omega)
          refine ⟨_, rfl, d, od, rfl, .inr ⟨_, upd_same, fun D hD => lc_it (walk_keysT (kvs := dk A)) (fun i H' => ∃ bs : List (Addr × List Int), H' D = some (.lst (bs.map fun b => V.ref b.1)) ∧ (∀ b ∈ bs, H' b.1 = some (.tup (b.2.map V.int))) ∧
              bs.map (·.2) = (ks (A.take i)).filter (fun k => decide (val A k ≠ 0)) ∧ H' d = some (.frz od (.dT (dk A))) ∧ (∀ b o, b ≠ d → H2 b = some o → H' b = some o)) ⟨[], upd_same, fun _ h => (List.not_mem_nil h).elim, rfl, ?_, ?_⟩ ?_ ?_ ?_⟩⟩
          · have : D ≠ d := fun z => by rw [z, upd_same] at hD; cases hD
            rw [upd_ne this.symm]
            exact upd_same
          · intro b o nb e
            have e' : (upd H2 d (.frz od (.dT (dk A)))) b = some o := by rw [upd_ne nb]; exact e
            rw [upd_ne (ne_of_none e' hD)]
            exact e'
          · exact fun i H' _ ⟨_, _, _, _, h, _⟩ => h
          · rintro i x H3 H4 hi ⟨bs, e1, e2, e3, e4, e5⟩ ⟨rfl, k, v, b, hk, rfl, hb⟩
            obtain ⟨e, he, rfl, rfl⟩ : ∃ e, A[i]? = some e ∧ k = kI e.1 ∧ v = .int e.2 := by
              unfold dk at hk
              rw [List.getElem?_map] at hk
              cases z : A[i]? with
              | none => rw [z] at hk; cases hk
              | some e =>
                rw [z] at hk
                cases hk
                exact ⟨e, rfl, rfl, rfl⟩
            rw [kI_V] at hb
            have mem : e ∈ A := List.mem_of_getElem? he
            have ve : val A e.1 = e.2 := val_at nd mem
            have dg : DGet H4 d (.ref b) (some (.int e.2)) := .inr ⟨dk A, kI e.1, b, .inr ⟨od, e4⟩, rfl, by rw [kI_V]; exact hb, by rw [valS (List.mem_map.mpr ⟨e, mem, rfl⟩), ve]⟩
            have tk : ks (A.take (i + 1)) = ks (A.take i) ++ [e.1] := by
              rw [take_snoc he]
              unfold ks
              rw [List.map_append]
              rfl
            refine ⟨rfl, _, rfl, _, rfl, d, _, rfl, dg, rfl, _, rfl, ?_⟩
            rw [show (!decide (V.int e.2 = V.int 0)) = decide (e.2 ≠ 0) by rw [deI]; by_cases z : e.2 = 0 <;> simp [z]]
            refine ite2 (fun z => ?_) (fun z => ?_)
            · have z := of_decide_eq_true z
              refine ⟨_, rfl, _, e1, ?_, bs ++ [(b, e.1)], ?_, ?_, ?_, ?_, ?_⟩
              · have l1 : (bs.map (·.2)).length ≤ (ks (A.take i)).length := by rw [e3]; exact List.length_filter_le _ _
                unfold ks at l1
                rw [List.length_map, List.length_map, List.length_take] at l1
                rw [List.length_map]
                exact small1000 (by omega)
              · rw [upd_same, List.map_append]; rfl
              · intro c hc
                rcases List.mem_append.mp hc with hc | hc
                · rw [upd_ne (ne_of (e2 c hc) e1 (by intro z; cases z))]
                  exact e2 c hc
                · rw [List.mem_singleton] at hc
                  subst hc
                  rw [upd_ne (ne_of hb e1 (by intro z; cases z))]
                  exact hb
              · rw [List.map_append, e3, tk, List.filter_append, List.filter_cons_of_pos (by rw [ve]; exact decide_eq_true z)]
                rfl
              · rw [upd_ne (ne_of e4 e1 (by intro z; cases z))]
                exact e4
              · intro c o nc ec
                have e' : (upd H2 d (.frz od (.dT (dk A)))) c = some o := by rw [upd_ne nc]; exact ec
                rw [upd_ne (ne_of_none e' hD)]
                exact e5 c o nc ec
            · refine ⟨bs, e1, e2, ?_, e4, e5⟩
              rw [e3, tk, List.filter_append, List.filter_cons_of_neg (by rw [ve]; exact fun q => z q)]
              exact (List.append_nil _).symm
          · rintro H3 ⟨bs, e1, e2, e3, e4, e5⟩
            rw [show (dk A).length = A.length from dk_len A, List.take_length] at e3
            have nDd : D ≠ d := ne_of e1 e4 (by intro z; cases z)
            have off : ∀ b o, b ≠ d → H3 b = some o → (upd H3 d (.dT (dk A))) b = some o := fun b o nb e => by rw [upd_ne nb]; exact e
            have l0 : ∀ b ∈ bs, b.2.length = 3 := fun b hb => by
              have : b.2 ∈ (ks A).filter (fun k => decide (val A k ≠ 0)) := by rw [← e3]; exact List.mem_map.mpr ⟨b, hb, rfl⟩
              obtain ⟨e, he, q⟩ := List.mem_map.mp (List.mem_filter.mp this).1
              rw [← q]
              exact l3 e he
            refine ⟨e4, D, bs, rfl, SqL.of (off _ _ nDd e1), fun b hb => ⟨SqT.of (off _ _ (ne_of (e2 b hb) e4 (by intro z; cases z)) (e2 b hb)), fun z => by have := l0 b hb; rw [z] at this; cases this⟩, fun p np => ?_⟩
            have fm : Form (tot l) ((bs.mergeSort leI).map (·.2)) := sort_form (by rw [e3]; exact List.Pairwise.filter _ nd) fun k => by
              rw [e3, List.mem_filter, decide_eq_true_eq, va]
              exact ⟨fun z => z.2, fun z => ⟨val_off (by rw [va]; exact z), z⟩⟩
            have perm := List.mergeSort_perm bs leI
            have sl : ∀ b ∈ bs.mergeSort leI, (upd (upd H3 d (.dT (dk A))) p (.lst ((bs.mergeSort leI).map fun b => V.ref b.1))) b.1 = some (.tup (b.2.map V.int)) ∧ b.2.length = 3 ∧ b.2 ∈ ks A := fun b hb => by
              have hb := perm.mem_iff.mp hb
              have h1 := off _ _ (ne_of (e2 b hb) e4 (by intro z; cases z)) (e2 b hb)
              refine ⟨by rw [upd_ne (ne_of_none h1 np)]; exact h1, l0 b hb, ?_⟩
              have : b.2 ∈ (ks A).filter (fun k => decide (val A k ≠ 0)) := by rw [← e3]; exact List.mem_map.mpr ⟨b, hb, rfl⟩
              exact (List.mem_filter.mp this).1
            have slen : (bs.mergeSort leI).length ≤ 300 := by
              rw [List.length_mergeSort]
              have l1 : (bs.map (·.2)).length ≤ (ks A).length := by rw [e3]; exact List.length_filter_le _ _
              unfold ks at l1
              rw [List.length_map, List.length_map] at l1
              omega
            have d5 : (upd (upd H3 d (.dT (dk A))) p (.lst ((bs.mergeSort leI).map fun b => V.ref b.1))) d = some (.dT (dk A)) := by
              have h1 : (upd H3 d (.dT (dk A))) d = some (.dT (dk A)) := upd_same
              rw [upd_ne (ne_of_none h1 np)]
              exact h1
            have m5 : ∀ b o, b ≠ d → H2 b = some o → (upd (upd H3 d (.dT (dk A))) p (.lst ((bs.mergeSort leI).map fun b => V.ref b.1))) b = some o := fun b o nb e => by
              have h1 := off b o nb (e5 b o nb e)
              rw [upd_ne (ne_of_none h1 np)]
              exact h1
            have p5 : (upd (upd H3 d (.dT (dk A))) p (.lst ((bs.mergeSort leI).map fun b => V.ref b.1))) p = some (.lst ((bs.mergeSort leI).map fun b => V.ref b.1)) := upd_same
            generalize upd (upd H3 d (.dT (dk A))) p (.lst ((bs.mergeSort leI).map fun b => V.ref b.1)) = H5 at sl d5 m5 p5 ⊢
            generalize bs.mergeSort leI = sb at *
            clear e1 e2 e3 perm
            have ha5 : H5 a = some (.ins C dx []) := m5 a _ nad (m2 a _ ha)
            have mH5 : ∀ b o, H b = some o → H5 b = some o := fun b o e => m5 b o (ne_of_none e hd0) (m2 b o e)
            -- self.terms
            refine ⟨_, rfl, p, rfl, ⟨_, SqL.of p5⟩, fun D1 hD1 => lc_it (walk_list (xs := sb.map fun b => V.ref b.1)) (fun i H' => ∃ L : List It3, H' D1 = some (.lst (L.map fun e => V.ref e.p)) ∧
                (∀ e ∈ L, H' e.p = some (.tup [.ref e.b, .int e.n]) ∧ H' e.b = some (.tup (e.k.map V.int))) ∧ (L.map fun e => (e.k, e.n)) = (sb.take i).map (fun b => (b.2, tot l b.2)) ∧ More H5 H')
              ⟨[], upd_same, fun _ h => (List.not_mem_nil h).elim, rfl, More.new (fun _ _ e => e) hD1⟩ (fun i H' _ ⟨_, _, _, _, m⟩ => SqL.of (m _ _ p5)) ?_ ?_⟩
            · rintro i x H6 H7 hi ⟨L, g1, g2, g3, g4⟩ ⟨rfl, hx⟩
              obtain ⟨b0, hb0, rfl⟩ : ∃ b0, sb[i]? = some b0 ∧ x = .ref b0.1 := by
                rw [List.getElem?_map] at hx
                cases z : sb[i]? with
                | none => rw [z] at hx; cases hx
                | some b0 => rw [z] at hx; exact ⟨b0, rfl, (Option.some.inj hx).symm⟩
              obtain ⟨q1, q2, q3⟩ := sl b0 (List.mem_of_getElem? hb0)
              have dg : DGet H7 d (.ref b0.1) (some (.int (tot l b0.2))) := by
                have z := DGet.t (k := kI b0.2) (g4 _ _ d5) (by rw [kI_V]; exact g4 _ _ q1)
                rw [valS q3, va] at z
                exact z
              refine ⟨rfl, _, rfl, _, rfl, _, rfl, d, _, rfl, dg, (by show 2 ≤ sizeLine; decide), fun q nq => ?_⟩
              have nqD : D1 ≠ q := ne_of_none g1 nq
              have ll : L.length ≤ 300 := by
                have := congrArg List.length g3
                rw [List.length_map, List.length_map, List.length_take] at this
                omega
              refine ⟨_, by rw [upd_ne nqD]; exact g1, by rw [List.length_map]; exact small1000 (by omega), L ++ [⟨q, b0.1, b0.2, tot l b0.2⟩], ?_, ?_, ?_, ?_⟩
              · rw [upd_same, List.map_append]; rfl
              · intro e he
                have off : ∀ c o, c ≠ D1 → H7 c = some o → (upd (upd H7 q (.tup [.ref b0.1, .int (tot l b0.2)])) D1 (.lst ((L.map fun e => V.ref e.p) ++ [.ref q]))) c = some o := fun c o nc e => by
                  rw [upd_ne nc, upd_ne (ne_of_none e nq)]; exact e
                rcases List.mem_append.mp he with he | he
                · obtain ⟨k1, k2⟩ := g2 e he
                  exact ⟨off _ _ (ne_of k1 g1 (by intro z; cases z)) k1, off _ _ (ne_of k2 g1 (by intro z; cases z)) k2⟩
                · rw [List.mem_singleton] at he
                  subst he
                  refine ⟨?_, off _ _ (ne_of (g4 _ _ q1) g1 (by intro z; cases z)) (g4 _ _ q1)⟩
                  show (upd (upd H7 q (.tup [.ref b0.1, .int (tot l b0.2)])) D1 _) q = _
                  rw [upd_ne nqD.symm, upd_same]
              · rw [List.map_append, g3, take_snoc hb0, List.map_append]; rfl
              · intro c o e
                have e' := g4 c o e
                rw [upd_ne (ne_of_none e hD1), upd_ne (ne_of_none e' nq)]
                exact e'
            · rintro H6 ⟨L, g1, g2, g3, g4⟩
              rw [List.length_map, List.take_length] at g3
              refine ⟨D1, _, rfl, .inl ⟨SqL.of g1, fun t1 nt1 => ?_⟩⟩
              have nat1 : a ≠ t1 := ne_of_none (g4 _ _ ha5) nt1
              refine ⟨_, rfl, a, C, dx, [], rfl, by rw [upd_ne nat1]; exact g4 _ _ ha5, cl, n1, by show 0 < 1000; decide, ?_⟩
              have off : ∀ c o, c ≠ a → H6 c = some o → (upd (upd H6 t1 (.tup (L.map fun e => V.ref e.p))) a (.ins C dx (putF "terms" (.ref t1) []))) c = some o := fun c o nc e => by
                rw [upd_ne nc, upd_ne (ne_of_none e nt1)]; exact e
              have T7 : TAt (upd (upd H6 t1 (.tup (L.map fun e => V.ref e.p))) a (.ins C dx (putF "terms" (.ref t1) []))) t1 ((sb.map (·.2)).map fun k => (k, tot l k)) := by
                refine ⟨L, by rw [upd_ne nat1.symm, upd_same], fun e he => ?_, by rw [g3, List.map_map]; rfl⟩
                obtain ⟨k1, k2⟩ := g2 e he
                exact ⟨off _ _ (ne_of k1 (g4 _ _ ha5) (by intro z; cases z)) k1, off _ _ (ne_of k2 (g4 _ _ ha5) (by intro z; cases z)) k2⟩
              have ha7 : (upd (upd H6 t1 (.tup (L.map fun e => V.ref e.p))) a (.ins C dx (putF "terms" (.ref t1) []))) a = some (.ins C dx [("terms", .ref t1)]) := upd_same
              have m7 : ∀ c o, c ≠ a → H5 c = some o → (upd (upd H6 t1 (.tup (L.map fun e => V.ref e.p))) a (.ins C dx (putF "terms" (.ref t1) []))) c = some o := fun c o nc e => off c o nc (g4 c o e)
              generalize upd (upd H6 t1 (.tup (L.map fun e => V.ref e.p))) a (.ins C dx (putF "terms" (.ref t1) [])) = H7 at T7 ha7 m7 ⊢
              clear g1 g2 g3 g4
              have p7 := m7 p _ (ne_of p5 ha5 (by intro z; cases z)) p5
              have sl7 : ∀ b ∈ sb, H7 b.1 = some (.tup (b.2.map V.int)) ∧ b.2.length = 3 := fun b hb => ⟨m7 _ _ (ne_of (sl b hb).1 ha5 (by intro z; cases z)) (sl b hb).1, (sl b hb).2.1⟩
              -- self.reach
              refine ⟨3, rfl, by decide, by decide, fun D2 hD2 => lc_range (lo := 0) (n := 3) (fun i H' => ∃ ms : List Int, H' D2 = some (.lst (ms.map V.int)) ∧ ms.length = i ∧ (∀ j m, ms[j]? = some m → Gr (sb.map (·.2)) j m) ∧ More H7 H')
                ⟨[], upd_same, rfl, fun j m h => (by rw [List.getElem?_nil] at h; cases h), More.new (fun _ _ e => e) hD2⟩ ?_ ?_⟩
              · rintro i H8 hi ⟨ms, g1, g2, g3, g4⟩
                have fin : ∀ (H9 : Hp) (m : Int), More H8 H9 → Gr (sb.map (·.2)) i m → ∃ acc, H9 D2 = some (.lst acc) ∧ acc.length < sizeLine ∧ ∃ ms : List Int, (upd H9 D2 (.lst (acc ++ [V.int m]))) D2 = some (.lst (ms.map V.int)) ∧ ms.length = i + 1 ∧
                    (∀ j m, ms[j]? = some m → Gr (sb.map (·.2)) j m) ∧ More H7 (upd H9 D2 (.lst (acc ++ [V.int m]))) := by
                  intro H9 m m9 gr
                  refine ⟨_, m9 _ _ g1, by rw [List.length_map]; exact small1000 (by omega), ms ++ [m], by rw [upd_same, List.map_append]; rfl, by rw [List.length_append, g2]; rfl, fun j m' hj => ?_, fun c o e => ?_⟩
                  · by_cases lt : j < ms.length
                    · rw [List.getElem?_append_left lt] at hj
                      exact g3 j m' hj
                    · have := (List.getElem?_eq_some_iff.mp hj).1
                      rw [List.length_append] at this
                      have this : j < ms.length + 1 := this
                      have ej : j = ms.length := by omega
                      subst ej
                      rw [List.getElem?_append_right (Nat.le_refl _), Nat.sub_self] at hj
                      cases hj
                      rw [g2]
                      exact gr
                  · rw [upd_ne (ne_of_none e hD2)]
                    exact m9 c o (g4 c o e)
                refine ⟨rfl, _, rfl, p, rfl, ⟨_, SqL.of (g4 _ _ p7)⟩, fun D3 hD3 => lc_it (walk_list (xs := sb.map fun b => V.ref b.1)) (fun j H' => H' D3 = some (.lst (((sb.take j).map fun b => ((b.2.getD i 0).natAbs : Int)).map V.int)) ∧ More H8 H')
                  ⟨upd_same, More.new (fun _ _ e => e) hD3⟩ (fun i H' _ h => SqL.of (h.2 _ _ (g4 _ _ p7))) ?_ ?_⟩
                · rintro j x H9 H10 hj ⟨k1, k2⟩ ⟨rfl, hx⟩
                  obtain ⟨b0, hb0, rfl⟩ : ∃ b0, sb[j]? = some b0 ∧ x = .ref b0.1 := by
                    rw [List.getElem?_map] at hx
                    cases z : sb[j]? with
                    | none => rw [z] at hx; cases hx
                    | some b0 => rw [z] at hx; exact ⟨b0, rfl, (Option.some.inj hx).symm⟩
                  obtain ⟨q1, q2⟩ := sl7 b0 (List.mem_of_getElem? hb0)
                  have li : i < b0.2.length := by rw [q2]; exact hi
                  have at_ : (b0.2.map V.int)[i]? = some (V.int (b0.2.getD i 0)) := by
                    rw [List.getElem?_map, List.getD_eq_getElem?_getD, List.getElem?_eq_getElem li]
                    rfl
                  refine ⟨rfl, _, rfl, _, rfl, b0.1, _, _, _, rfl, rfl, SqT.of (k2 _ _ (g4 _ _ q1)), at_of (Int.zero_add _) at_, _, rfl, _, k1, ?_, ?_, ?_⟩
                  · rw [List.length_map, List.length_map, List.length_take]
                    exact small1000 (by omega)
                  · rw [upd_same, take_snoc hb0, List.map_append, List.map_append]
                    have : (if b0.2.getD i 0 < 0 then -b0.2.getD i 0 else b0.2.getD i 0) = ((b0.2.getD i 0).natAbs : Int) := by
                      generalize b0.2.getD i 0 = y
                      by_cases z : y < 0
                      · rw [if_pos z]; omega
                      · rw [if_neg z]; omega
                    rw [this]
                    rfl
                  · intro c o e
                    rw [upd_ne (ne_of_none e hD3)]
                    exact k2 c o e
                · rintro H9 ⟨k1, k2⟩
                  rw [List.length_map, List.take_length] at k1
                  refine ⟨D3, _, 0, rfl, rfl, SqL.of k1, fun z => ?_, fun m hm up => ?_⟩
                  · have z : sb = [] := List.map_eq_nil_iff.mp z
                    refine fin H9 0 k2 ⟨.inl rfl, by decide, fun k hk => ?_⟩
                    rw [z] at hk
                    cases hk
                  · obtain ⟨b0, hb0, rfl⟩ := List.mem_map.mp hm
                    refine fin H9 _ k2 ⟨.inr ⟨b0.2, List.mem_map.mpr ⟨b0, hb0, rfl⟩, rfl⟩, by omega, fun k hk => ?_⟩
                    obtain ⟨b1, hb1, rfl⟩ := List.mem_map.mp hk
                    exact up _ (List.mem_map.mpr ⟨b1, hb1, rfl⟩)
              · rintro H8 ⟨ms, g1, g2, g3, g4⟩
                match ms, g2 with
                | [r0, r1, r2], _ =>
                refine ⟨D2, _, rfl, .inl ⟨SqL.of g1, fun t2 nt2 => ?_⟩⟩
                have ha8 := g4 _ _ ha7
                have nat2 : a ≠ t2 := ne_of_none ha8 nt2
                refine ⟨_, rfl, a, C, dx, _, rfl, by rw [upd_ne nat2]; exact ha8, cl, n2, by show 1 < 1000; decide, ?_⟩
                refine ⟨_, rfl, _, rfl, a, C, dx, _, rfl, upd_same, cl, n3, by show 2 < 1000; decide, ?_⟩
                rw [upd_upd]
                have off : ∀ (o' : HO) c o, c ≠ a → H7 c = some o → (upd (upd H8 t2 (.tup ([r0, r1, r2].map V.int))) a o') c = some o := fun o' c o nc e => by
                  have e' := g4 c o e
                  rw [upd_ne nc, upd_ne (ne_of_none e' nt2)]
                  exact e'
                obtain ⟨L, u1, u2, u3⟩ := T7
                have ek : ks ((sb.map (·.2)).map fun k => (k, tot l k)) = sb.map (·.2) := by
                  unfold ks
                  rw [List.map_map]
                  exact List.map_id _
                refine q _ (fun b o e nb => ?_) ⟨dx, t1, t2, d, _, _, A, r0, r1, r2, upd_same, rfl, rfl, rfl, ⟨L, off _ _ _ (ne_of u1 ha7 (by intro z; cases z)) u1, fun e he => ?_, u3⟩, ⟨_, fm, rfl⟩, ?_, ?_, ?_, nd, va, lA, l3⟩
                · exact off _ _ _ nb (m7 _ _ nb (mH5 b o e))
                · obtain ⟨k1, k2⟩ := u2 e he
                  exact ⟨off _ _ _ (ne_of k1 ha7 (by intro z; cases z)) k1, off _ _ _ (ne_of k2 ha7 (by intro z; cases z)) k2⟩
                · rw [upd_ne nat2.symm, upd_same]
                  rfl
                · rw [ek]
                  exact ⟨g3 0 r0 rfl, g3 1 r1 rfl, g3 2 r2 rfl⟩
                · exact off _ _ _ nad.symm (m7 _ _ nad.symm d5)
    · refine ⟨fun _ _ => False, ?_, fun _ _ h => h.elim⟩
      have li : i0 < xs.length := (List.getElem?_eq_some_iff.mp hx0).1
      rcases sq with s | s
      · refine .inl ⟨_, rfl, t, rfl, ⟨xs, s⟩, for_it walk_list (fun i σ' H' => i ≤ i0 ∧ ∃ z, σ' = [some (.ref a), some (.ref t), z, none, none, none, none, none, none, none] ∧ More H H') ⟨Nat.zero_le _, _, rfl, fun _ _ e => e⟩ (fun i σ' H' _ ⟨_, _, _, m⟩ => Same.seq m s) ?_ (fun _ _ h => by have := h.1; omega)⟩
        rintro i y σ2 H2 H3 hi ⟨le, z, rfl, m2⟩ ⟨rfl, hy⟩
        by_cases e : i = i0
        · subst e
          rw [hx0] at hy
          cases hy
          exact ⟨_, rfl, x0, rfl, .inr ⟨no.more m2, fun H' mo => ⟨_, rfl, iteT ⟨_, rfl, mk_ini rfl (by show 1 ≤ 900; decide) (q H' fun b o q => mo b o (m2 b o q))⟩⟩⟩⟩
        · obtain ⟨ds, n, tr⟩ := before i y (by omega) hy
          exact ⟨_, rfl, y, rfl, .inl ⟨ds, n, tr.more m2, fun H' mo => ⟨_, rfl, iteF ⟨by omega, _, rfl, fun b o q => mo b o (m2 b o q)⟩⟩⟩⟩
      · refine .inr ⟨_, rfl, t, rfl, ⟨xs, s⟩, for_it walk_tup (fun i σ' H' => i ≤ i0 ∧ ∃ z, σ' = [some (.ref a), some (.ref t), z, none, none, none, none, none, none, none] ∧ More H H') ⟨Nat.zero_le _, _, rfl, fun _ _ e => e⟩ (fun i σ' H' _ ⟨_, _, _, m⟩ => sqT_more m s) ?_ (fun _ _ h => by have := h.1; omega)⟩
        rintro i y σ2 H2 H3 hi ⟨le, z, rfl, m2⟩ ⟨rfl, hy⟩
        by_cases e : i = i0
        · subst e
          rw [hx0] at hy
          cases hy
          exact ⟨_, rfl, x0, rfl, .inr ⟨no.more m2, fun H' mo => ⟨_, rfl, iteT ⟨_, rfl, mk_ini rfl (by show 1 ≤ 900; decide) (q H' fun b o q => mo b o (m2 b o q))⟩⟩⟩⟩
        · obtain ⟨ds, n, tr⟩ := before i y (by omega) hy
          exact ⟨_, rfl, y, rfl, .inl ⟨ds, n, tr.more m2, fun H' mo => ⟨_, rfl, iteF ⟨by omega, _, rfl, fun b o q => mo b o (m2 b o q)⟩⟩⟩⟩
end
end K09

namespace L2
open PySem PySem.Spec PyProof.Rows
/-! ### x == y, x != y by an own __eq__ of the class of x -/
section
variable {X : Cx} {CX : CXT} {C f : Addr} {fd : FuncData} {ps : List Str} {sp : Sp} {n : Nat} {E : XK}
def OthT (K : PySem.W.Frag) (H : Hp) (C : Addr) (y : V) (t : Value) : Prop := TyX K H y t ∨ ∃ b dy gs, y = .ref b ∧ H b = some (.ins C dy gs) ∧ t = .ref C
def rOwnE (K : PySem.W.Frag) (C : Addr) (sp : Sp) (E : XK) : R2 := fun x y H Q => ∃ a dx fs t, x = .ref a ∧ H a = some (.ins C dx fs) ∧ OthT K H C y t ∧ PySem.W.notFirst K C t = true ∧ sp [x, y] H Q E
theorem oth_looks {pins : List (Addr × Obj)} {σ : L2.St} {H : Hp} {s : Shared} {y : V} {u t : Value} (I : Inv X pins σ H s) (ry : RelV y u) (o : OthT X.K H C y t) : PySem.W.Looks (model X.prog X.w) s.heap (typeOf u) t := by
  obtain ty | ⟨b, dy, gs, rfl, hb, rfl⟩ := o
  · obtain ⟨P, k, p, _⟩ := kit_of I ry ty
    exact k.ty _ _ I.kIn p
  · cases ry
    obtain ⟨mB, J, _⟩ := ins_get I.hok hb
    obtain ⟨od, J, _⟩ := J.look
    exact J.type
theorem rc_own {op : CmpOp} (hs : PySem.W.findIn X.K (.ref C) (cmpInfo op).2.1 = some (some (.ref f))) (hf : PySem.W.isFn X.K (.ref f) = true) (F : FnR X.prog X.w X.K X.mg X.base CX n f sp)
    (hr : Room n X.A) (hx : Passes CX X E) : OpR X (fun a b => richCompare op a b) (rOwnE X.K C sp E) := by
  intro pins s σ H x y v u Q I rx ry h
  obtain ⟨a, dx, fs, t, rfl, ha, o, hn, q⟩ := h
  cases (show v = Value.ref a from rx)
  obtain ⟨mA, J, _⟩ := ins_get I.hok ha
  obtain ⟨od, J, _⟩ := J.look
  obtain ⟨m, hF⟩ := I.fr
  refine PySem.W.cmp_K (op := op) (tb := t) hr.units0 hF I.ok.mod.kin J (oth_looks I ry o) hn hs hf ?_
  refine wpAny_mono (wpAny_call (run_fnR (us := [.ref a, u]) (vs := [.ref a, y]) F hr hx I (.cons rfl (.cons ry .nil)) q)) (fun w s' z => ?_) fun _ _ x => x
  obtain ⟨z', H', I', rz, qz⟩ := z
  exact SlX.cmpback rz ⟨z', H', I', rz, qz⟩
theorem op_eqOwn (hs : PySem.W.findIn X.K (.ref C) "__eq__" = some (some (.ref f))) (hf : PySem.W.isFn X.K (.ref f) = true) (F : FnOk X.prog X.w X.K X.mg X.base CX n f fd ps sp) (hb : Binds X.K fd ps [])
    (hr : Room n X.A) (hx : Passes CX X E) : OpR X (compareOp .Eq) (rOwnE X.K C sp E) := by
  intro pins s σ H x y v u Q I rx ry h
  have F2 := F.raw (sp := sp) hb .nil
  obtain ⟨a, dx, fs, t, e1, ha, o, hn, q⟩ := h
  exact rc_own (op := .Eq) hs hf F2 hr hx pins s σ H x y v u Q I rx ry ⟨a, dx, fs, t, e1, ha, o, hn, by show sp ([x, y] ++ []) H Q E; rw [List.append_nil]; exact q⟩
end
end L2

namespace K09
open PySem L2 Gd Ply
/-! ### terms as data -/
def dI (k : List Int) : PyData := .tuple (k.map .int)
def dE (e : List Int × Int) : PyData := .tuple [dI e.1, .int e.2]
def dT (l : Po) : PyData := .tuple (l.map dE)
theorem lay_ints : ∀ k : List Int, PyData.canLayAll0 (k.map .int) = true
  | [] => by simp [PyData.canLayAll0]
  | x :: k => by
    rw [List.map_cons]
    simp only [PyData.canLayAll0, PyData.canLay0, lay_ints k, Bool.and_self]
theorem lay_es : ∀ l : Po, PyData.canLayAll0 (l.map dE) = true
  | [] => by simp [PyData.canLayAll0]
  | e :: l => by
    rw [List.map_cons]
    simp only [PyData.canLayAll0, dE, dI, PyData.canLay0, lay_ints, lay_es l, Bool.and_self]
theorem dep_ints : ∀ k : List Int, PyData.depthAll (k.map .int) = 0
  | [] => by simp [PyData.depthAll]
  | x :: k => by
    rw [List.map_cons]
    simp [PyData.depthAll, PyData.depth, dep_ints k]
theorem dep_es : ∀ l : Po, PyData.depthAll (l.map dE) ≤ 2
  | [] => by simp [PyData.depthAll]
  | e :: l => by
    have := dep_es l
    rw [List.map_cons]
    simp only [PyData.depthAll, dE, dI, PyData.depth, dep_ints]
    omega
theorem lay_T (l : Po) : (dT l).canLay0 = true := by
  unfold dT
  simp only [PyData.canLay0, lay_es]
theorem shaped_T (l : Po) : SeqAt.shaped (dT l) = true := by
  unfold SeqAt.shaped
  rw [lay_T, Bool.true_and, decide_eq_true_eq]
  have := dep_es l
  unfold dT
  simp only [PyData.depth]
  omega
/-- the two have the same terms -/
def same (l m : Po) : Bool := PyData.eqv (dT l) (dT m)
theorem same_refl (l : Po) : same l l = true := SeqAt.eqv_refl _ (lay_T l)
theorem dp_ints {K : PySem.W.Frag} {H : Hp} : ∀ k : List Int, DpAll K H (k.map V.int) (k.map .int)
  | [] => .nil
  | x :: k => .cons (.int x) (dp_ints k)
theorem dp_T {K : PySem.W.Frag} {H : Hp} {t : Addr} {l : Po} (h : TAt H t l) : Dp K H (.ref t) (dT l) := by
  obtain ⟨L, h1, h2, rfl⟩ := h
  have all : ∀ L : List It3, (∀ e ∈ L, H e.p = some (.tup [.ref e.b, .int e.n]) ∧ H e.b = some (.tup (e.k.map V.int))) → DpAll K H (L.map fun e => V.ref e.p) ((L.map fun e => (e.k, e.n)).map dE) := by
    intro L
    induction L with
    | nil => intro _; exact .nil
    | cons e L ih =>
      intro h
      obtain ⟨h3, h4⟩ := h e (.head _)
      exact .cons (.tup (SqT.of h3) (.cons (.tup (SqT.of h4) (dp_ints _)) (.cons (.int _) .nil))) (ih fun x hx => h x (.tail _ hx))
  exact .tup (SqT.of h1) (all L h2)
def cst (n : Int) : Po := if n = 0 then [] else [([0, 0, 0], n)]
def spCt (K : PySem.W.Frag) : Sp := fun vs H Q _ => ∃ n : Int, vs = [.int n] ∧ ∀ H' r, More H H' → Dp K H' (.ref r) (dT (cst n)) → Q (.ref r) H'
def spEq (K : PySem.W.Frag) (C : Addr) : Sp := fun vs H Q _ => ∃ (a : Addr) (y : V) (f : List Int → Int), vs = [.ref a, y] ∧ Pob H C a f ∧
  ((∃ n, y = .int n ∧ ∀ l H', Canon f l → More H H' → Q (.bl (same l (cst n))) H') ∨ (NoInt K H y ∧ ∀ H', More H H' → Q (.bl false) H') ∨
    ∃ b g, y = .ref b ∧ Pob H C b g ∧ ∀ l m H', Canon f l → Canon g m → More H H' → Q (.bl (same l m)) H')
section
variable {P : Program} {w : World} {K : PySem.W.Frag} {mg : Str → Option Value} {base : Heap}
variable {fI fT f C N0 : Addr} {fdI fdT fd : FuncData}
abbrev sCt : Stmt := top 27
abbrev sEq : Stmt := inClass (top 24) 8
theorem scCt : FnScope ["number"] ["number"] (defScope sCt) := ⟨rfl, rfl, rfl, by decide +kernel, rfl, by decide +kernel, by decide +kernel⟩
theorem scEq : FnScope ["self", "other"] ["self", "other"] (defScope sEq) := ⟨rfl, rfl, rfl, by decide +kernel, rfl, by decide +kernel, by decide +kernel⟩
/-- what is asked of the class -/
structure PwC (K : PySem.W.Frag) (mg : Str → Option Value) (C : Addr) : Prop where
  ic : C8.InsC K C
  n1 : NoAttr K C "terms"
  n2 : NoAttr K C "reach"
  n3 : NoAttr K C "_numbers"
  g : mg "Powers" = some (.ref C)
  ni : PySem.W.kitOne K (.ref C) (.type "int") = some false
  no : ∀ n ∈ offInt, PySem.W.kitOne K (.type n) (.ref C) = some false
theorem Pob.ty (W : PwC K mg C) {H : Hp} {a : Addr} {g : List Int → Int} (h : Pob H C a g) : TyX K H (.ref a) (.ref C) := by
  obtain ⟨dx, t, r, d, fs, l, p, m0, m1, m2, h1, _⟩ := h.ex
  exact .base (.ins h1 W.ic.cl W.ic.ha W.ic.hn W.ic.htk W.ic.hm)
theorem ok_ct (F : Fun K "constant_terms" "constant_terms" sCt f fd) (gN : mg "NO_LETTER" = some (.ref N0)) (tN : tupI K (.ref N0) = some [0, 0, 0]) : FnOk P w K mg base CX0 1 f fd ["number"] (spCt K) := by
  refine F.ok scCt (fun vs H Q E h => ?_) (fun cdv A outer s H vs Q E hr h => ?_)
  · obtain ⟨n, rfl, _⟩ := h
    rfl
  · obtain ⟨n, rfl, q⟩ := h
    have hT : ∀ H, SqT K H N0 ([0, 0, 0].map V.int) := by
      intro H
      obtain ⟨a, us, n, sl, ea, hk, rv⟩ := tupI_some tN
      cases ea
      refine .inr ⟨_, us, n, hk, rfl, rfl, ?_, rv⟩
      have z := Paired.length rv
      have z2 : us.toList.length = us.size := Array.length_toList
      rw [← z2, ← z, sizeLine_eq]
      show 3 ≤ 16777216
      decide
    refine ⟨_, pss_one (ps_ret (pe_ifExp (pt_cmpR op_ne (pv 0) pe_int (nomark _)) (pe_tup (pa_cons (pe_tup (pa_cons (pe_glob (v := .ref N0) rfl gN rfl) (pa_cons (pv 0) pa_nil))) pa_nil)) (pe_tup pa_nil))), ?_⟩
    refine ⟨_, rfl, rfl, _, rfl, ?_⟩
    rw [show (!decide (V.int n = V.int 0)) = decide (n ≠ 0) by rw [deI]; by_cases z : n = 0 <;> simp [z]]
    refine ite2 (fun z => ?_) (fun z => ?_)
    · have z := of_decide_eq_true z
      refine ⟨_, rfl, by show 2 ≤ sizeLine; decide, fun p np => ⟨by show 1 ≤ sizeLine; decide, fun r nr => q _ _ ((More.new (fun _ _ e => e) np).new nr) ?_⟩⟩
      unfold cst
      rw [if_neg z]
      exact .tup (SqT.of upd_same) (.cons (.tup (SqT.of (by rw [upd_ne (ne_of_none upd_same nr)]; exact upd_same)) (.cons (.tup (hT _) (dp_ints _)) (.cons (.int _) .nil))) .nil)
    · have z : n = 0 := by
        by_cases e : n = 0
        · exact e
        · exact absurd (decide_eq_true e) z
      refine ⟨by show 0 ≤ sizeLine; decide, fun r nr => q _ _ (More.new (fun _ _ e => e) nr) ?_⟩
      unfold cst
      rw [if_pos z]
      exact .tup (SqT.of upd_same) .nil
theorem ok_eq (F : Fun K "__eq__" "Powers.__eq__" sEq f fd) (B : Blt mg) (W : PwC K mg C) (I : Cl K mg "is_integer" sIsI ["value"] fI fdI) (T : Cl K mg "constant_terms" sCt ["number"] fT fdT)
    (gN : mg "NO_LETTER" = some (.ref N0)) (tN : tupI K (.ref N0) = some [0, 0, 0]) : FnOk P w K mg base CX0 2 f fd ["self", "other"] (spEq K C) := by
  have GI : FnOk P w K mg base CX0 1 fI fdI ["value"] (spIsI K) := ok_isI I.fn B.isi_ B.int_ B.bool_
  have GT : FnOk P w K mg base CX0 1 fT fdT ["number"] (spCt K) := ok_ct T.fn gN tN
  refine F.ok scEq (fun vs H Q E h => ?_) (fun cdv A outer s H vs Q E hr h => ?_)
  · obtain ⟨a, y, f, rfl, _⟩ := h
    rfl
  · obtain ⟨a, y, g, rfl, pa, h⟩ := h
    have hu64 := hr.units
    refine ⟨_, pss_cons (ps_if (pt_val (pe_call GI hr rfl I.g I.k I.b .nil pass0 (pa_cons (pv 1) pa_nil)))
        (pss_one (ps_ret (pe_cmpR (op_eqD hu64) (pe_fld (pv 0) rfl) (pe_call GT hr rfl T.g T.k T.b .nil pass0 (pa_cons (pv 1) pa_nil)) (nomark _)))) pss_nil)
      (pss_one (ps_ret (pe_and (pe_callB call_isi (by rfl) B.isi_ (by decide +kernel) (pa_cons (pv 1) (pa_cons (pe_glob (v := .ref C) rfl W.g rfl) pa_nil)))
        (pe_one (pe_cmpR (op_eqD hu64) (pe_fld (pv 0) rfl) (pe_fld (pv 1) rfl) (nomark _)))))), ?_⟩
    obtain ⟨dx, t, r, d, fs, l, p, m0, m1, m2, h1, h2, h3, h4, h5, h6, _⟩ := pa.ex
    obtain ⟨n, rfl, q⟩ | ⟨no, q⟩ | ⟨b, g2, rfl, pb, q⟩ := h
    · refine ⟨_, rfl, _, rfl, .inl ⟨n, rfl, _, rfl, iteT ?_⟩⟩
      refine ⟨_, rfl, a, C, dx, fs, _, rfl, h1, W.ic.cl, W.n1, h2, _, rfl, n, rfl, fun H' x mo dp => ?_⟩
      exact ⟨_, _, dp_T (h5.more mo), dp, shaped_T _, shaped_T _, q l H' h6 mo⟩
    · refine ⟨_, rfl, y, rfl, .inr (.inl ⟨no, _, rfl, iteF ?_⟩)⟩
      obtain ⟨n, hn, ty⟩ := no
      exact ⟨_, rfl, y, .ref C, _, _, _, rfl, .own C, ty, W.no n hn, _, rfl, iteF (q H fun _ _ e => e)⟩
    · obtain ⟨dx2, t2, r2, d2, fs2, l2, p2, _, _, _, k1, k2, k3, k4, k5, k6, _⟩ := pb.ex
      refine ⟨_, rfl, _, rfl, .inr (.inr ⟨_, pb.ty W, W.ni, _, rfl, iteF ?_⟩)⟩
      refine ⟨_, rfl, _, .ref C, _, _, _, rfl, .own C, pb.ty W, W.ic.me, _, rfl, iteT ?_⟩
      exact ⟨_, rfl, a, C, dx, fs, _, rfl, h1, W.ic.cl, W.n1, h2, _, rfl, b, C, dx2, fs2, _, rfl, k1, W.ic.cl, W.n1, k2, _, _, dp_T h5, dp_T k5, shaped_T _, shaped_T _, q l l2 H h6 k6 fun _ _ e => e⟩
end
end K09

namespace Td
open PySem L2 PySem.Spec PyProof.Rows
/-! ### dict(list of pairs) whose keys are tuples -/
section
variable {κ : Type} [DecidableEq κ]
theorem atKey_off {xs : List (κ × Addr × Value)} {k : κ} (h : k ∉ xs.map (·.1)) : atKey xs k = none := by
  unfold atKey
  have : (xs.find? fun x => decide (x.1 = k)) = none := by
    rw [List.find?_eq_none]
    intro x hx e
    exact h (List.mem_map.mpr ⟨x, hx, of_decide_eq_true e⟩)
  rw [this]
  rfl
theorem storedAll_nodup : ∀ (ps acc : List (κ × Addr × Value)), ((acc ++ ps).map (·.1)).Nodup → storedAllH acc ps = acc ++ ps
  | [], acc, _ => by rw [List.append_nil]; rfl
  | p :: ps, acc, h => by
    have h1 : p.1 ∉ acc.map (·.1) := by
      rw [List.map_append, List.map_cons, List.nodup_append] at h
      intro z
      exact h.2.2 _ z _ (.head _) rfl
    show storedAllH (storedH acc p.1 p.2.1 p.2.2) ps = _
    rw [storedH_new (atKey_off h1)]
    have e : acc ++ p :: ps = (acc ++ [p]) ++ ps := by rw [List.append_assoc]; rfl
    rw [e] at h ⊢
    exact storedAll_nodup ps _ h
end
/-- one pair of the list: the tuple, its key, where the key stands, the value -/
structure It2 where
  p : Addr
  k : List Key
  b : Addr
  v : V
def rDictPT (K : PySem.W.Frag) : List V → Hp → VK → Prop := fun xs H Q => ∃ (a : Addr) (L : List It2), xs = [.ref a] ∧ SqL K H a (L.map fun e => V.ref e.p) ∧
  (∀ e ∈ L, SqT K H e.p [.ref e.b, e.v] ∧ H e.b = some (.tup (e.k.map kV))) ∧ (L.map (·.k)).Nodup ∧ ∀ d, H d = none → Q (.ref d) (upd H d (.dT (L.map fun e => (e.k, e.v))))
section
variable {X : Cx} {pins : List (Addr × Obj)} {σ : L2.St} {H : Hp} {s : Shared}
theorem pairs_at (I : Inv X pins σ H s) : ∀ (L : List It2), (∀ e ∈ L, SqT X.K H e.p [.ref e.b, e.v] ∧ H e.b = some (.tup (e.k.map kV))) →
    ∃ us : List Value, us.length = L.length ∧ KT H (L.map fun e => (e.k, e.v)) ((L.zip us).map fun z => (z.1.k, z.1.b, z.2)) ∧
      ∀ (j : Nat) (e : It2) (u : Value), L[j]? = some e → us[j]? = some u → IsTup s.heap e.p #[.ref e.b, u]
  | [], _ => ⟨[], rfl, .nil, fun j e u h => nomatch h⟩
  | e :: L, h => by
    obtain ⟨us, hl, kt, at_⟩ := pairs_at I L fun x hx => h x (.tail _ hx)
    obtain ⟨h1, h2⟩ := h e (.head _)
    obtain ⟨its, rv, ht, _⟩ := I.tuple h1
    obtain ⟨u, y, rfl, ru, ry⟩ := vals2 rv
    cases ru
    refine ⟨y :: us, by rw [List.length_cons, List.length_cons, hl], .cons ⟨rfl, h2, ry⟩ kt, fun j e' u' h3 h4 => ?_⟩
    cases j with
    | zero =>
      cases h3
      cases h4
      exact ht
    | succ j => exact at_ j e' u' h3 h4
theorem isTup_pair {h : Heap} {t : Addr} {k v : Value} (x : IsTup h t #[k, v]) : PairAt h t k v := .inl x
theorem call_dictPT (hc : X.calm = true) (hu : X.A.units + 8 < cLine) : CallR X (.type "dict") (rDictPT X.K) := by
  intro pins s σ H xs us Q I r h
  obtain ⟨a, L, rfl, hS, hL, nd, q⟩ := h
  rw [Vals.ref1 r]
  obtain ⟨its, rv, ⟨o, n, ho, hcl, hd, hdat⟩, hz⟩ := I.list hS
  have ei : its = L.map fun e => Value.ref e.p := by
    have : L.map (fun e => V.ref e.p) = (L.map (·.p)).map V.ref := by rw [List.map_map]; rfl
    rw [this] at rv
    rw [refs_at rv, List.map_map]
    rfl
  subst ei
  rw [List.length_map] at hz
  obtain ⟨ws, hl, kt, at_⟩ := pairs_at I L hL
  have lz : (L.zip ws).length = L.length := by rw [List.length_zip, hl, Nat.min_self]
  have zat : ∀ (j : Nat) (e : It2) (u : Value), (L.zip ws)[j]? = some (e, u) → L[j]? = some e ∧ ws[j]? = some u := by
    intro j e u z
    rw [List.getElem?_zip_eq_some] at z
    exact z
  refine call_dict_pairsH (knd := tupleKind (mixKind X.prog X.w)) (ps := (L.zip ws).map fun z => (z.1.k, z.1.b, z.2))
    (PairArg.list a (L.map fun e => Value.ref e.p).toArray (fun j => (L[j]?.map (·.p)).getD 0) ((L.zip ws).map fun z => (Value.ref z.1.b, z.2)))
    (I.ok.hd hc) (by show X.A.units + 1 + 1 < cLine; omega) ⟨⟨o, n, ho, hcl, hd, hdat⟩, ?_, ?_⟩ ⟨by rw [List.length_map, List.length_map], ?_⟩ ?_ (by rw [List.length_map, lz]; exact hz) ?_
  · rw [List.size_toArray, List.length_map, List.length_map, lz]
  · intro j k v hj
    rw [List.getElem?_map] at hj
    cases e : (L.zip ws)[j]? with
    | none => rw [e] at hj; cases hj
    | some z =>
      rw [e] at hj
      cases hj
      obtain ⟨h1, h2⟩ := zat j z.1 z.2 e
      refine ⟨?_, ?_⟩
      · rw [List.getElem?_toArray, List.getElem?_map, h1]
        show _ = some (Value.ref ((L[j]?.map (·.p)).getD 0))
        rw [h1]
        rfl
      · show PairAt s.heap ((L[j]?.map (·.p)).getD 0) _ _
        rw [h1]
        exact isTup_pair (at_ j _ _ h1 h2)
  · intro i key v hi
    have hi : ((L.zip ws).map fun z => (Value.ref z.1.b, z.2))[i]? = some (key, v) := hi
    rw [List.getElem?_map] at hi
    cases e : (L.zip ws)[i]? with
    | none => rw [e] at hi; cases hi
    | some z =>
      rw [e] at hi
      cases hi
      exact ⟨z.1.k, z.1.b, by rw [List.getElem?_map, e]; rfl, rfl⟩
  · intro h' hk x hx
    obtain ⟨z, hz1, rfl⟩ := List.mem_map.mp hx
    obtain ⟨j, hj⟩ := List.getElem?_of_mem hz1
    obtain ⟨h1, _⟩ := zat j z.1 z.2 hj
    have h2 := (hL z.1 (List.mem_of_getElem? h1)).2
    obtain ⟨o', its', n', h3, h4, h5, h6⟩ := key_of I.hok h2
    exact ⟨o', its', n', hk _ _ (Nat.ne_of_lt (Heap.lt_size h3)) (by simp) h3, h4, h5, h6⟩
  · intro h' tk hd' hk
    have ek : ((L.zip ws).map fun z => (z.1.k, z.1.b, z.2)).map (·.1) = L.map (·.k) := by
      rw [List.map_map]
      show (L.zip ws).map (fun z => z.1.k) = _
      rw [show (fun z : It2 × Value => z.1.k) = (fun e : It2 => e.k) ∘ Prod.fst from rfl, ← List.map_map, List.map_fst_zip (by omega)]
    rw [storedAll_nodup _ _ (by rw [List.nil_append, ek]; exact nd), List.nil_append] at hd'
    obtain ⟨o2, es, ep, g1, g2, g3, g4, g5, g6⟩ := hd'
    have hb : H s.heap.objs.size = none := I.hok.fresh (Nat.le_refl _)
    have hm : (s.heap.objs.size == sysModules) = false := beq_eq_false_iff_ne.mpr (Nat.ne_of_gt I.big)
    refine ⟨.ref s.heap.objs.size, upd H s.heap.objs.size (.dT (L.map fun e => (e.k, e.v))), I.laid (t' := tk) (fun b o e => hk b o (by simp) e) (Nat.le_refl _) ⟨by rw [List.length_map]; exact hz, hm, _, ?_, o2, es, ep, g1, g2, g3, g4, g6⟩, rfl, q _ hb⟩
    have keep : ∀ {l : List (List Key × V)} {m : List (List Key × Addr × Value)}, KT H l m → Paired (fun (p : List Key × V) (q : List Key × Addr × Value) => p.1 = q.1 ∧ (upd H s.heap.objs.size (.dT (L.map fun e => (e.k, e.v)))) q.2.1 = some (.tup (p.1.map kV)) ∧ RelV p.2 q.2.2) l m := by
      intro l m q
      induction q with
      | nil => exact .nil
      | cons hq t ih => exact .cons ⟨hq.1, by rw [upd_ne (ne_of_none hq.2.1 hb)]; exact hq.2.1, hq.2.2⟩ ih
    exact keep kt
end
end Td

namespace Td
open PySem L2 PySem.Spec PyProof.Rows
/-! ### {(..): v, ..}: a display whose keys are tuples -/
structure It1 where
  k : List Key
  b : Addr
  v : V
def tDispT (trs : List (TE × TE)) : TE := fun σ H Q => ∀ p, H p = none → tPairs trs σ (upd H p (.dT [])) fun ps H2 => H2 p = some (.dT []) ∧ ∃ L : List It1, ps = L.map (fun e => (V.ref e.b, e.v)) ∧ L.length ≤ 15 ∧
  (∀ e ∈ L, H2 e.b = some (.tup (e.k.map kV))) ∧ (L.map (·.k)).Nodup ∧ Q (.ref p) (upd H2 p (.dT (L.map fun e => (e.k, e.v))))
theorem carriesT {P : Program} {w : World} {H : Hp} {h : Heap} (ok : HOk P w H h) : ∀ {L : List It1} {ws : List (Value × Value)}, (∀ e ∈ L, H e.b = some (.tup (e.k.map kV))) → VV (L.map fun e => (V.ref e.b, e.v)) ws →
    ∃ ps : List (List Key × Addr × Value), CarriesH (tupleKind (mixKind P w)) h ws ps ∧ ps.map (·.1) = L.map (·.k) ∧
      Paired (fun (p : List Key × V) (q : List Key × Addr × Value) => p.1 = q.1 ∧ H q.2.1 = some (.tup (p.1.map kV)) ∧ RelV p.2 q.2.2) (L.map fun e => (e.k, e.v)) ps
  | [], _, _, r => by rw [List.map_nil] at r; cases r; exact ⟨[], trivial, rfl, .nil⟩
  | e :: L, _, hk, r => by
    rw [List.map_cons] at r
    cases r with
    | @cons a b as bs h1 t =>
      obtain ⟨ps, c, m, q⟩ := carriesT ok (fun x hx => hk x (.tail _ hx)) t
      obtain ⟨b1, b2⟩ := b
      obtain ⟨g1, g2⟩ := h1
      exact ⟨(e.k, e.b, b2) :: ps, ⟨g1, rfl, key_of ok (hk e (.head _)), c⟩, by rw [List.map_cons, List.map_cons, m], .cons ⟨rfl, hk e (.head _), g2⟩ q⟩
theorem pe_dispT {X : Cx} {pos : Pos} {keys : List (Option Expr)} {values : List Expr} {trs : List (TE × TE)} (hu : X.A.units + 8 < cLine) (h : PPs X pos keys values trs) (hall : keys.all (·.isSome) = true) (hl : keys.length = values.length) (h0 : keys ≠ [])
    (h15 : keys.length ≤ 15) : PE X (.Dict keys values pos) (tDispT trs) := by
  refine ⟨fun pins s σ H Q I q => ?_⟩
  have hn := I.hok.fresh (Nat.le_refl s.heap.objs.size)
  have I1 := I.laid (a := s.heap.objs.size) (o := .dT []) (h' := s.heap.push { cls := .type "dict", data := .dict #[] }) (t' := s.toks) (fun _ _ q => Heap.get?_push_of_some _ q) (Nat.le_refl _) (dt_empty s.heap I.big)
  have hz := pairTrees_length keys values X.env pos hall hl
  rw [arm_eval_Dict, zip_pairTrees keys values X.env pos hall hl, dictDisplay_pairs (pairTrees keys values X.env pos) (fun e => by rw [e] at hz; exact h0 (List.length_eq_zero_iff.mp hz.symm)) (by omega)]
  refine wpAny_bind (wpAny_standAt (wpAny_bind (wpAny_subDictH (knd := tupleKind (mixKind X.prog X.w)) (by show X.A.units < cLine; omega) (by omega) (thn (h.run pins _ σ _ _ I1 (q _ hn)) fun ws s2 ⟨ps, H2, I2, rel, e, L, ep, few, hk, nd, q2⟩ => ?_))))
  subst ep
  obtain ⟨rs, c, m, rk⟩ := carriesT (w := X.w) I2.hok hk rel
  obtain ⟨z, hd, xs0, kt0, dd⟩ := dt_of I2.hok e
  cases kt0
  refine ⟨rs, c, dd, fun h' tk dd' hs => wpAny_pure ⟨.ref s.heap.objs.size, _, ?_, rfl, q2⟩⟩
  rw [storedAll_nodup _ _ (by rw [List.nil_append, m]; exact nd), List.nil_append] at dd'
  obtain ⟨o2, es, ep, g1, g2, g3, g4, g5, g6⟩ := dd'
  refine d_write I2 (by rw [e]; exact True.intro) hs ⟨o2, g1⟩ ⟨by rw [List.length_map, sizeLine_eq]; omega, hd, rs, ?_, o2, es, ep, g1, g2, g3, g4, g6⟩
  have keep : ∀ {l : List (List Key × V)} {m : List (List Key × Addr × Value)}, Paired (fun (p : List Key × V) (q : List Key × Addr × Value) => p.1 = q.1 ∧ H2 q.2.1 = some (.tup (p.1.map kV)) ∧ RelV p.2 q.2.2) l m →
      Paired (fun (p : List Key × V) (q : List Key × Addr × Value) => p.1 = q.1 ∧ (upd H2 s.heap.objs.size (.dT (L.map fun e => (e.k, e.v)))) q.2.1 = some (.tup (p.1.map kV)) ∧ RelV p.2 q.2.2) l m := by
    intro l m q
    induction q with
    | nil => exact .nil
    | cons hq t ih => exact .cons ⟨hq.1, by rw [upd_ne (ne_of hq.2.1 e (by intro z; cases z))]; exact hq.2.1, hq.2.2⟩ ih
  exact keep rk
end Td

namespace K09
open PySem L2 Gd Ply
abbrev Off (d : Addr) (H H' : Hp) : Prop := ∀ b o, H b = some o → b ≠ d → H' b = some o
theorem Off.trans {d : Addr} {H H1 H2 : Hp} (a : Off d H H1) (b : Off d H1 H2) : Off d H H2 := fun x o e n => b x o (a x o e n) n
theorem Off.of {d : Addr} {H H' : Hp} (m : More H H') : Off d H H' := fun b o e _ => m b o e
theorem Off.dr {d c : Addr} {n : Int} {H H' : Hp} (h : Drawn H H' d c n) : Off d H H' := fun b o e nb => (h.off b nb).trans e
theorem new_more {H : Hp} {p : Addr} {o : HO} (hp : H p = none) : More H (upd H p o) := More.new (fun _ _ e => e) hp
theorem nodup_kI : ∀ {l : List (List Int)}, l.Nodup → (l.map kI).Nodup
  | [], _ => List.nodup_nil
  | k :: l, h => by
    rw [List.nodup_cons] at h
    rw [List.map_cons, List.nodup_cons]
    refine ⟨fun z => ?_, nodup_kI h.2⟩
    obtain ⟨k', hk, e⟩ := List.mem_map.mp z
    rw [kI_inj e] at hk
    exact h.1 hk
theorem nodup_sub {p q : Po} (h : (ks p).Nodup) (s : q.Sublist p) : (ks q).Nodup := List.Nodup.sublist (s.map _) h
/-- at D stands the law's own sum p -/
structure PD (H : Hp) (D : Addr) (p : Po) (B C : Nat) : Prop where
  at_ : H D = some (.dT (dk p))
  nd : (ks p).Nodup
  few : p.length ≤ 5
  three : ∀ e ∈ p, e.1.length = 3
  exp : ∀ e ∈ p, ∀ i ∈ e.1, i.natAbs ≤ B
  num : ∀ e ∈ p, e.2.natAbs ≤ C
def spPoly : Sp := fun vs H Q _ => ∃ (d c : Addr) (n l r m : Int), vs = [.ref d, .int l, .int r, .int m] ∧ Pen H d c n ∧ 0 ≤ n ∧ n < 800000000 ∧ 1 ≤ r ∧ r ≤ 9 ∧ 1 ≤ m ∧ m ≤ 5 ∧
  ∀ (D : Addr) (p : Po) (n' : Int) (H' : Hp), n ≤ n' → n' ≤ n + 100 → Pen H' d c n' → Off d H H' → H D = none → PD H' D p 9 100 → Q (.ref D) H'
section
variable {P : Program} {w : World} {K : PySem.W.Frag} {mg : Str → Option Value} {base : Heap}
variable {g1 g2 f : Addr} {d1 d2 fd : FuncData}
abbrev sPoly : Stmt := top 33
abbrev NPo : List Str := ["_law_pen_here", "_law_letters", "_law_reach", "_law_many", "_law_found", "_law_k", "_law_place", "_law_number", "_law_at"]
theorem scPoly : FnScope NPo ["_law_pen_here", "_law_letters", "_law_reach", "_law_many"] (defScope sPoly) := ⟨rfl, rfl, rfl, by decide +kernel, rfl, by decide +kernel, by decide +kernel⟩
theorem ok_poly (F : Fun K "_law_poly" "_law_poly" sPoly f fd) (B : Blt mg) (B2 : Blt2 mg) (Dr : Cl K mg "_law_draw" sDraw ["_law_pen_here", "_law_many"] g1 d1) (Pi : Cl K mg "_law_pick" sPick ["_law_pen_here", "_law_some"] g2 d2) :
    FnOk P w K mg base CX0 3 f fd ["_law_pen_here", "_law_letters", "_law_reach", "_law_many"] spPoly := by
  have G1 : FnOk P w K mg base CX0 1 g1 d1 ["_law_pen_here", "_law_many"] spDraw := ok_draw Dr.fn B.int_ B.len_
  have G2 : FnOk P w K mg base CX0 2 g2 d2 ["_law_pen_here", "_law_some"] (spPick K) := ok_pick Pi.fn Dr.fn Dr.b Dr.g B.int_ B.len_
  refine F.ok scPoly (fun vs H Q E h => ?_) (fun cdv A outer s H vs Q E hr h => ?_)
  · obtain ⟨d, c, n, l, r, m, rfl, _⟩ := h
    rfl
  · obtain ⟨d, c, n, l, r, m, rfl, pen, n0, n1, r1, r9, m1, m5, q⟩ := h
    have hu := hu_of hr
    have hu64 := hr.units
    have hu8 := Nat.lt_of_le_of_lt (Nat.add_le_add_left (show 8 ≤ 64 by decide) _) hu64
    have hr1 : Room 1 _ := hr.mono (by decide)
    refine ⟨_, pss_cons (ps_set (i := 4) scPoly.nd rfl (Or.inr rfl) pe_dnewT)
      (Evl.pss_cut (ps_for PassesOwn.never rfl (pi_range1 rfl B.range_ (pa_cons (pe_op op_add pe_int (pe_call G1 hr1 rfl Dr.g Dr.k Dr.b .nil pass0 (pa_cons (pv 0) (pa_cons (pv 3) pa_nil)))) pa_nil)) (pg_name (i := 5) scPoly.nd rfl (Or.inl rfl))
        (pss_cons (ps_setLc (i := 6) (own := [("_law_at", 8)]) (g := gName 8) (tt := tYes) rfl scPoly.nd rfl rfl (sw_true rfl rfl rfl (by decide +kernel)) (pi_range1 rfl B.range_ (pa_cons pe_int pa_nil))
            (blkOk_by (N := NPo) (sc := defScope sPoly) (by decide +kernel)) (fun _ _ _ _ _ => pg_name (i := 8) scPoly.nd rfl (Or.inl rfl)) (fun _ _ _ _ _ => pts_nil)
            (fun _ _ _ _ _ => pe_ifExp (pt_cmpR op_lt (pv 8) (pv 1) (nomark _)) (pe_op op_sub (pe_call G1 hr1 rfl Dr.g Dr.k Dr.b .nil pass0 (pa_cons (pv 0) (pa_cons (pe_op op_add (pe_op op_mul pe_int (pv 2)) pe_int) pa_nil))) (pv 2)) pe_int))
        (pss_cons (ps_set (i := 7) scPoly.nd rfl (Or.inl rfl) (pe_call G2 (hr.mono (by decide)) rfl Pi.g Pi.k Pi.b .nil pass0 (pa_cons (pv 0) (pa_cons (pe_lst (pa_cons pe_int (pa_cons pe_int (pa_cons pe_int (pa_cons (pe_un un_neg pe_int) (pa_cons pe_int (pa_cons pe_int
            (pa_cons (pe_op op_sub (pe_call G1 hr1 rfl Dr.g Dr.k Dr.b .nil pass0 (pa_cons (pv 0) (pa_cons pe_int pa_nil))) pe_int) pa_nil)))))))) pa_nil))))
        (pss_cons (ps_set (i := 6) scPoly.nd rfl (Or.inl rfl) (pe_tup (pa_cons (pe_ix ix_list (pv 6) pe_int (fun _ _ => rfl)) (pa_cons (pe_ix ix_list (pv 6) pe_int (fun _ _ => rfl)) (pa_cons (pe_ix ix_list (pv 6) pe_int (fun _ _ => rfl)) pa_nil)))))
        (pss_one (ps_dput hu (pv 4) (pv 6) (pe_op op_add (pe_dget2 hu (pv 4) (pv 6) pe_int ⟨rfl, rfl, rfl, rfl⟩) (pv 7)) rfl))))))
      (pss_one (ps_ret (pe_callTy (Td.call_dictPT rfl hu8) (by rfl) B2.dict_ (by decide +kernel) (pa_cons (pe_lock (pe_lc (own := [("_law_place", 6)]) (g := gName 6) rfl scPoly.nd (pi_keys (pv 4))
          (blkOk_by (N := NPo) (sc := defScope sPoly) (by decide +kernel)) (fun _ _ _ _ _ => pg_name (i := 6) scPoly.nd rfl (Or.inl rfl))
          (fun _ _ _ _ _ => pts_one (pt_cmpR op_ne (pe_dget hu (pv 4) (pv 6) (fun _ _ => rfl)) pe_int (nomark _)))
          (fun _ _ _ _ _ => pe_tup (pa_cons (pv 6) (pa_cons (pe_dget hu (pv 4) (pv 6) (fun _ _ => rfl)) pa_nil))))) pa_nil))))), ?_⟩
    intro F0 hF
    have nFd : F0 ≠ d := fun z => by
      obtain ⟨o, ho⟩ := pen.at
      rw [z, ho] at hF
      cases hF
    have pen0 := pen.upd (o := .dT []) hF
    -- the loop's own state
    refine ⟨fun σ' H' => ∃ z5 z6 z7 n' p, σ' = [some (.ref d), some (.int l), some (.int r), some (.int m), some (.ref F0), z5, z6, z7, none] ∧ H' F0 = some (.dT (dk p)) ∧ (ks p).Nodup ∧ p.length ≤ 5 ∧ (∀ e ∈ p, e.1.length = 3) ∧ (∀ e ∈ p, ∀ i ∈ e.1, i.natAbs ≤ 9) ∧
        (∀ e ∈ p, e.2.natAbs ≤ 100) ∧ Pen H' d c n' ∧ n ≤ n' ∧ n' ≤ n + 60 ∧ Off d H H', ?_, ?_⟩
    · refine ⟨_, rfl, _, rfl, d, c, n, m, rfl, pen0, by omega, by omega, n0, by omega, fun k H1 k0 k1 dr => ?_⟩
      refine ⟨1, k, rfl, rfl, _, rfl, by omega, by omega, for_range (lo := 0) (n := (1 + k).toNat) (fun i σ' H' => ∃ z5 z6 z7 n' p, σ' = [some (.ref d), some (.int l), some (.int r), some (.int m), some (.ref F0), z5, z6, z7, none] ∧ H' F0 = some (.dT (dk p)) ∧ (ks p).Nodup ∧ p.length ≤ i ∧ (∀ e ∈ p, e.1.length = 3) ∧ (∀ e ∈ p, ∀ i ∈ e.1, i.natAbs ≤ 9) ∧
        (∀ e ∈ p, e.2.natAbs ≤ 20 * i) ∧ Pen H' d c n' ∧ n ≤ n' ∧ n' ≤ n + 1 + 5 * (i : Int) ∧ Off d H H') ⟨none, none, none, n + 1, [], rfl, ?_, List.nodup_nil, Nat.le_refl _, (fun _ h => nomatch h), (fun _ h => nomatch h), (fun _ h => nomatch h), dr.pen, by omega, by omega, ?_⟩ ?_ ?_⟩
      · exact (dr.off F0 nFd).trans upd_same
      · exact Off.trans (Off.of (new_more hF)) (Off.dr dr)
      · rintro i σ2 H2 hi ⟨z5, z6, z7, n2, p, rfl, e1, e2, e3, e4, e5, e6, pn, b1, b2, of⟩
        have hi5 : i ≤ 4 := by omega
        refine ⟨3, rfl, by decide, by decide, fun D hD => lc_range (lo := 0) (n := 3) (fun j H' => ∃ (xs : List Int) (n3 : Int), H' D = some (.lst (xs.map V.int)) ∧ xs.length = j ∧ (∀ x ∈ xs, x.natAbs ≤ 9) ∧ Pen H' d c n3 ∧ n2 ≤ n3 ∧ n3 ≤ n2 + (j : Int) ∧ Off d H2 H')
          ⟨[], n2, upd_same, rfl, (fun _ h => nomatch h), pn.upd hD, by omega, by omega, Off.of (new_more hD)⟩ ?_ ?_⟩
        · rintro j H3 hj ⟨xs, n3, f1, f2, f3, f4, f5, f6, f7⟩
          have fin : ∀ (x : Int) (H4 : Hp) (n4 : Int), x.natAbs ≤ 9 → Pen H4 d c n4 → n3 ≤ n4 → n4 ≤ n3 + 1 → Off d H3 H4 → ∃ acc, H4 D = some (.lst acc) ∧ acc.length < sizeLine ∧ ∃ (xs : List Int) (n3 : Int),
              (upd H4 D (.lst (acc ++ [V.int x]))) D = some (.lst (xs.map V.int)) ∧ xs.length = j + 1 ∧ (∀ x ∈ xs, x.natAbs ≤ 9) ∧ Pen (upd H4 D (.lst (acc ++ [V.int x]))) d c n3 ∧ n2 ≤ n3 ∧ n3 ≤ n2 + ((j + 1 : Nat) : Int) ∧ Off d H2 (upd H4 D (.lst (acc ++ [V.int x]))) := by
            intro x H4 n4 hx p4 c1 c2 o4
            have nDd : D ≠ d := fun z => by
              obtain ⟨o, ho⟩ := pn.at
              rw [z, ho] at hD
              cases hD
            have nDc : c ≠ D := fun z => by
              obtain ⟨o, ho⟩ := pn.atc
              rw [← z, ho] at hD
              cases hD
            have f1' := o4 _ _ f1 nDd
            refine ⟨_, f1', by rw [List.length_map]; exact small1000 (by omega), xs ++ [x], n4, by rw [upd_same, List.map_append]; rfl, by rw [List.length_append, f2]; rfl, fun y hy => ?_, p4.keep (upd_ne nDd.symm) (upd_ne nDc), by omega, by omega, fun b o e nb => ?_⟩
            · rcases List.mem_append.mp hy with hy | hy
              · exact f3 y hy
              · rw [List.mem_singleton] at hy
                subst hy
                exact hx
            · rw [upd_ne (ne_of_none e hD)]
              exact o4 _ _ (f7 _ _ e nb) nb
          refine ⟨rfl, _, rfl, _, rfl, _, _, rfl, rfl, _, rfl, ite2 (fun _ => ?_) (fun _ => ?_)⟩
          · refine ⟨_, rfl, _, rfl, _, _, rfl, rfl, .inl ⟨by decide, by decide⟩, _, _, rfl, rfl, d, c, n3, 2 * r + 1, rfl, f4, by omega, by omega, by omega, by omega, fun x H4 x0 x1 dr4 => ?_⟩
            refine ⟨_, rfl, _, _, rfl, rfl, fin _ H4 (n3 + 1) (by omega) dr4.pen (by omega) (by omega) (Off.dr dr4)⟩
          · exact fin 0 H3 n3 (by decide) f4 (by omega) (by omega) fun _ _ e _ => e
        · rintro H3 ⟨xs, n3, f1, f2, f3, f4, f5, f6, f7⟩
          match xs, f2 with
          | [x0, x1, x2], _ =>
          have o3 := of.trans f7
          refine ⟨_, rfl, 1, rfl, _, rfl, d, c, n3, 41, rfl, f4, by decide, by decide, by omega, by omega, fun y H4 y0 y1 dr4 => ?_⟩
          refine ⟨y, 20, rfl, rfl, by show 7 ≤ sizeLine; decide, fun u nu => ?_⟩
          have p4 := dr4.pen.upd (o := .lst [.int 1, .int 1, .int 1, .int (-1), .int 2, .int 3, .int (y - 20)]) nu
          refine ⟨d, c, u, n3 + 1, _, rfl, p4, upd_same, by show 0 < 7; decide, by show 7 ≤ 1000; decide, by omega, by omega, fun v H5 hv dr5 => ?_⟩
          obtain ⟨w0, rfl, hw⟩ : ∃ w0 : Int, v = .int w0 ∧ w0.natAbs ≤ 20 := by
            rcases List.mem_cons.mp hv with rfl | hv
            · exact ⟨_, rfl, by decide⟩
            rcases List.mem_cons.mp hv with rfl | hv
            · exact ⟨_, rfl, by decide⟩
            rcases List.mem_cons.mp hv with rfl | hv
            · exact ⟨_, rfl, by decide⟩
            rcases List.mem_cons.mp hv with rfl | hv
            · exact ⟨_, rfl, by decide⟩
            rcases List.mem_cons.mp hv with rfl | hv
            · exact ⟨_, rfl, by decide⟩
            rcases List.mem_cons.mp hv with rfl | hv
            · exact ⟨_, rfl, by decide⟩
            rw [List.mem_singleton] at hv
            exact ⟨_, hv, by omega⟩
          have nDd : D ≠ d := fun z => by
            obtain ⟨o, ho⟩ := pn.at
            rw [z, ho] at hD
            cases hD
          have offs : Off d H3 H5 := Off.trans (Off.dr dr4) (Off.trans (Off.of (new_more nu)) (Off.dr dr5))
          have D5 := offs _ _ f1 nDd
          have F5 := offs _ _ (f7 _ _ e1 nFd) nFd
          have sq := SqL.of (K := K) D5
          refine ⟨_, rfl, D, _, 0, _, rfl, rfl, sq, at_of (j := 0) rfl rfl, _, rfl, D, _, 1, _, rfl, rfl, sq, at_of (j := 1) rfl rfl, _, rfl, D, _, 2, _, rfl, rfl, sq, at_of (j := 2) rfl rfl, by show 3 ≤ sizeLine; decide, fun t nt => ?_⟩
          have nFt : F0 ≠ t := ne_of_none F5 nt
          have F6 : (upd H5 t (.tup [.int x0, .int x1, .int x2])) F0 = some (.dT (dk p)) := by rw [upd_ne nFt]; exact F5
          have key : (upd H5 t (.tup [.int x0, .int x1, .int x2])) t = some (.tup ((kI [x0, x1, x2]).map kV)) := upd_same
          refine ⟨_, rfl, F0, rfl, .inr ⟨_, .inl F6⟩, _, rfl, _, DGet.t F6 key, _, rfl, _, _, valD _ _, rfl, _, rfl, _, rfl, F0, _, rfl, DPut.t F6 key (by rw [dk_len]; exact small1000 (by omega)), ?_⟩
          rw [putK_dk]
          have bd : ∀ e ∈ put p [x0, x1, x2] (val p [x0, x1, x2] + w0), e = ([x0, x1, x2], val p [x0, x1, x2] + w0) ∨ e ∈ p := fun e he => mem_put he
          have vb : (val p [x0, x1, x2]).natAbs ≤ 20 * i := by
            unfold val
            cases z : look p [x0, x1, x2] with
            | none => exact Nat.zero_le _
            | some v => exact e6 _ (look_mem z)
          have pen6 : Pen (upd (upd H5 t (.tup [.int x0, .int x1, .int x2])) F0 (.dT (dk (put p [x0, x1, x2] (val p [x0, x1, x2] + w0))))) d c (n3 + 1 + 1) := by
            refine (dr5.pen.upd nt).keep (upd_ne nFd.symm) (upd_ne fun z => ?_)
            obtain ⟨o, ho⟩ := pen.atc
            rw [z, hF] at ho
            cases ho
          refine ⟨_, _, _, n3 + 1 + 1, _, rfl, upd_same, nodup_put e2 _ _, Nat.le_trans (len_put _ _ _) (by omega), fun e he => ?_, fun e he => ?_, fun e he => ?_, pen6, by omega, by omega, fun b o e nb => ?_⟩
          · rcases bd e he with rfl | he
            · rfl
            · exact e4 e he
          · rcases bd e he with rfl | he
            · exact f3
            · exact e5 e he
          · rcases bd e he with rfl | he
            · show (val p [x0, x1, x2] + w0).natAbs ≤ _
              omega
            · have := e6 e he
              omega
          · have e' := offs _ _ (o3 _ _ e nb) nb
            rw [upd_ne (ne_of_none e hF), upd_ne (ne_of_none e' nt)]
            exact e'
      · rintro σ2 H2 ⟨z5, z6, z7, n2, p, rfl, e1, e2, e3, e4, e5, e6, pn, b1, b2, of⟩
        exact ⟨z5, z6, z7, n2, p, rfl, e1, e2, by omega, e4, e5, fun e he => by have := e6 e he; omega, pn, b1, by omega, of⟩
    · rintro σ2 H2 ⟨z5, z6, z7, n2, p, rfl, e1, e2, e3, e4, e5, e6, pn, b1, b2, of⟩
      refine ⟨F0, .dT (dk p), e1, trivial, fun od => ?_⟩
      refine ⟨_, rfl, F0, od, rfl, .inr ⟨_, upd_same, fun D hD => lc_it (walk_keysT (kvs := dk p)) (fun i H' => ∃ L : List Td.It2, H' D = some (.lst (L.map fun e => V.ref e.p)) ∧ (∀ e ∈ L, H' e.p = some (.tup [.ref e.b, e.v]) ∧ H' e.b = some (.tup (e.k.map kV))) ∧
          (L.map fun e => (e.k, e.v)) = dk ((p.take i).filter fun e => decide (e.2 ≠ 0)) ∧ H' F0 = some (.frz od (.dT (dk p))) ∧ (∀ b o, b ≠ F0 → H2 b = some o → H' b = some o)) ⟨[], upd_same, (fun _ h => nomatch h), rfl, ?_, ?_⟩ ?_ ?_ ?_⟩⟩
      · have : D ≠ F0 := fun z => by rw [z, upd_same] at hD; cases hD
        rw [upd_ne this.symm]
        exact upd_same
      · intro b o nb e
        have e' : (upd H2 F0 (.frz od (.dT (dk p)))) b = some o := by rw [upd_ne nb]; exact e
        rw [upd_ne (ne_of_none e' hD)]
        exact e'
      · exact fun i H' _ ⟨_, _, _, _, h, _⟩ => h
      · rintro i x H3 H4 hi ⟨L, f1, f2, f3, f4, f5⟩ ⟨rfl, k, v, b, hk, rfl, hb⟩
        obtain ⟨e, he, rfl, rfl⟩ : ∃ e, p[i]? = some e ∧ k = kI e.1 ∧ v = .int e.2 := by
          unfold dk at hk
          rw [List.getElem?_map] at hk
          cases z : p[i]? with
          | none => rw [z] at hk; cases hk
          | some e =>
            rw [z] at hk
            cases hk
            exact ⟨e, rfl, rfl, rfl⟩
        have mem : e ∈ p := List.mem_of_getElem? he
        have dg : DGet H4 F0 (.ref b) (some (.int e.2)) := .inr ⟨dk p, kI e.1, b, .inr ⟨od, f4⟩, rfl, hb, by rw [valS (List.mem_map.mpr ⟨e, mem, rfl⟩), val_at e2 mem]⟩
        refine ⟨rfl, _, rfl, _, rfl, F0, _, rfl, dg, rfl, _, rfl, ?_⟩
        rw [show (!decide (V.int e.2 = V.int 0)) = decide (e.2 ≠ 0) by rw [deI]; by_cases z : e.2 = 0 <;> simp [z]]
        refine ite2 (fun z => ?_) (fun z => ?_)
        · refine ⟨_, rfl, _, rfl, _, rfl, F0, _, rfl, dg, by show 2 ≤ sizeLine; decide, fun q nq => ?_⟩
          have nDq : D ≠ q := ne_of_none f1 nq
          have ll : L.length ≤ 5 := by
            have := congrArg List.length f3
            rw [List.length_map, dk_len] at this
            have := List.length_filter_le (fun e : List Int × Int => decide (e.2 ≠ 0)) (p.take i)
            rw [List.length_take] at this
            omega
          have off : ∀ (o' : HO) c o, c ≠ D → H4 c = some o → (upd (upd H4 q (.tup [.ref b, .int e.2])) D o') c = some o := fun o' c o nc ec => by
            rw [upd_ne nc, upd_ne (ne_of_none ec nq)]
            exact ec
          refine ⟨_, by rw [upd_ne nDq]; exact f1, by rw [List.length_map]; exact small1000 (by omega), L ++ [⟨q, kI e.1, b, .int e.2⟩], by rw [upd_same, List.map_append]; rfl, fun y hy => ?_, ?_, off _ _ _ (ne_of f4 f1 (by intro z; cases z)) f4, fun c o nc ec => ?_⟩
          · rcases List.mem_append.mp hy with hy | hy
            · obtain ⟨k1, k2⟩ := f2 y hy
              exact ⟨off _ _ _ (ne_of k1 f1 (by intro z; cases z)) k1, off _ _ _ (ne_of k2 f1 (by intro z; cases z)) k2⟩
            · rw [List.mem_singleton] at hy
              subst hy
              refine ⟨?_, off _ _ _ (ne_of hb f1 (by intro z; cases z)) hb⟩
              show (upd (upd H4 q (.tup [.ref b, .int e.2])) D _) q = _
              rw [upd_ne nDq.symm, upd_same]
          · rw [List.map_append, f3, take_snoc he, List.filter_append, List.filter_cons_of_pos (p := fun e : List Int × Int => decide (e.2 ≠ 0)) z]
            unfold dk
            rw [List.map_append]
            rfl
          · have e' : (upd H2 F0 (.frz od (.dT (dk p)))) c = some o := by rw [upd_ne nc]; exact ec
            exact off _ _ _ (ne_of_none e' hD) (f5 c o nc ec)
        · refine ⟨L, f1, f2, ?_, f4, f5⟩
          rw [f3, take_snoc he, List.filter_append, List.filter_cons_of_neg (p := fun e : List Int × Int => decide (e.2 ≠ 0)) z]
          exact congrArg dk (List.append_nil _).symm
      · rintro H3 ⟨L, f1, f2, f3, f4, f5⟩
        rw [show (dk p).length = p.length from dk_len p, List.take_length] at f3
        have nDF : D ≠ F0 := ne_of f1 f4 (by intro z; cases z)
        have off : ∀ b o, b ≠ F0 → H3 b = some o → (upd H3 F0 (.dT (dk p))) b = some o := fun b o nb e => by rw [upd_ne nb]; exact e
        have sub : (p.filter fun e => decide (e.2 ≠ 0)).Sublist p := List.filter_sublist
        refine ⟨f4, D, L, rfl, SqL.of (off _ _ nDF f1), fun e he => ?_, ?_, fun R hR => ?_⟩
        · obtain ⟨k1, k2⟩ := f2 e he
          exact ⟨SqT.of (off _ _ (ne_of k1 f4 (by intro z; cases z)) k1), off _ _ (ne_of k2 f4 (by intro z; cases z)) k2⟩
        · have ek : L.map (·.k) = (ks (p.filter fun e => decide (e.2 ≠ 0))).map kI := by
            have := congrArg (List.map Prod.fst) f3
            unfold dk at this
            rw [List.map_map, List.map_map] at this
            unfold ks
            rw [List.map_map]
            exact this
          rw [ek]
          exact nodup_kI (nodup_sub e2 sub)
        · rw [f3]
          have gone : ∀ b o, H b = some o → b ≠ d → (upd (upd H3 F0 (.dT (dk p))) R (.dT (dk (p.filter fun e => decide (e.2 ≠ 0))))) b = some o := fun b o e nb => by
            have z := off _ _ (ne_of_none e hF) (f5 b o (ne_of_none e hF) (of b o e nb))
            rw [upd_ne (ne_of_none z hR)]
            exact z
          have dd : (upd H3 F0 (.dT (dk p))) d = H2 d ∧ (upd H3 F0 (.dT (dk p))) c = H2 c := by
            obtain ⟨o, ho⟩ := pn.at
            obtain ⟨o2, ho2⟩ := pn.atc
            have ncF : c ≠ F0 := fun z => by
              obtain ⟨o, ho⟩ := pen.atc
              rw [z, hF] at ho
              cases ho
            exact ⟨(off _ _ nFd.symm (f5 _ _ nFd.symm ho)).trans ho.symm, (off _ _ ncF (f5 _ _ ncF ho2)).trans ho2.symm⟩
          have hRH : H R = none := by
            cases z : H R with
            | none => rfl
            | some o =>
              by_cases e : R = d
              · subst e
                obtain ⟨o, ho⟩ := pn.at
                rw [dd.1, ho] at hR
                cases hR
              · have z2 := off _ _ (ne_of_none z hF) (f5 R o (ne_of_none z hF) (of R o z e))
                rw [z2] at hR
                cases hR
          refine q R _ n2 _ b1 (by omega) ((pn.keep dd.1 dd.2).upd hR) gone hRH ⟨upd_same, nodup_sub e2 sub, ?_, fun e he => e4 e (sub.subset he), fun e he => e5 e (sub.subset he), fun e he => e6 e (sub.subset he)⟩
          have := sub.length_le
          omega
end
end K09

namespace K09
open PySem L2 Gd Ply
/-- a dict of the law: its sum p -/
structure PX (H : Hp) (D : Addr) (p : Po) : Prop where
  at_ : H D = some (.dT (dk p))
  nd : (ks p).Nodup
  few : p.length ≤ 300
  three : ∀ e ∈ p, e.1.length = 3
theorem PD.px {H : Hp} {D : Addr} {p : Po} {B C : Nat} (h : PD H D p B C) : PX H D p := ⟨h.at_, h.nd, by have := h.few; omega, h.three⟩
theorem PX.more {H H' : Hp} {D : Addr} {p : Po} (m : More H H') (h : PX H D p) : PX H' D p := ⟨m _ _ h.at_, h.nd, h.few, h.three⟩
def spTerms : Sp := fun vs H Q _ => ∃ (D : Addr) (p : Po), vs = [.ref D] ∧ PX H D p ∧ ∀ t l H', Canon (val p) l → TAt H' t l → More H H' → Q (.ref t) H'
def spIsSum (C : Addr) : Sp := fun vs H Q _ => ∃ (a D : Addr) (p : Po) (f : List Int → Int), vs = [.ref a, .ref D] ∧ PX H D p ∧ Pob H C a f ∧ (∀ k, f k = val p k) ∧ ∀ H', More H H' → Q (.bl true) H'
theorem keys_of : ∀ {p : Po} {H : Hp} {bs : List Addr}, IsKeys H (dk p) bs → ∃ bz : List (Addr × List Int), bz.map (·.1) = bs ∧ bz.map (·.2) = ks p ∧ ∀ b ∈ bz, H b.1 = some (.tup (b.2.map V.int))
  | [], _, _, h => by
    cases h
    exact ⟨[], rfl, rfl, fun _ h => nomatch h⟩
  | e :: p, H, _, h => by
    have h : Paired (fun (p : List Key × V) b => H b = some (.tup (p.1.map kV))) ((kI e.1, V.int e.2) :: dk p) _ := h
    cases h with
    | @cons _ b _ bs h1 t =>
      obtain ⟨bz, a1, a2, a3⟩ := keys_of t
      refine ⟨(b, e.1) :: bz, by rw [List.map_cons, a1], by rw [List.map_cons, a2]; rfl, fun x hx => ?_⟩
      rcases List.mem_cons.mp hx with rfl | hx
      · rw [kI_V] at h1
        exact h1
      · exact a3 x hx
section
variable {P : Program} {w : World} {K : PySem.W.Frag} {mg : Str → Option Value} {base : Heap}
variable {gT f C : Addr} {dT' fd : FuncData}
abbrev sTerms : Stmt := top 34
abbrev sIsSum : Stmt := top 37
theorem scTerms : FnScope ["_law_poly_here", "_law_place"] ["_law_poly_here"] (defScope sTerms) := ⟨rfl, rfl, rfl, by decide +kernel, rfl, by decide +kernel, by decide +kernel⟩
theorem scIsSum : FnScope ["_law_told", "_law_poly_here"] ["_law_told", "_law_poly_here"] (defScope sIsSum) := ⟨rfl, rfl, rfl, by decide +kernel, rfl, by decide +kernel, by decide +kernel⟩
theorem ok_terms (F : Fun K "_law_terms" "_law_terms" sTerms f fd) (B : Blt mg) (B2 : Blt2 mg) : FnOk P w K mg base CX0 1 f fd ["_law_poly_here"] spTerms := by
  refine F.ok scTerms (fun vs H Q E h => ?_) (fun cdv A outer s H vs Q E hr h => ?_)
  · obtain ⟨D, p, rfl, _⟩ := h
    rfl
  · obtain ⟨D, p, rfl, px, q⟩ := h
    have hu := hu_of hr
    have hu64 := hr.units
    refine ⟨_, pss_one (ps_ret (pe_callTy call_tuple_of (by rfl) B.tup_ (by decide +kernel) (pa_cons (pe_lc (own := [("_law_place", 1)]) (g := gName 1) rfl scTerms.nd
        (pi_list (pe_callB (cr_sortTI hu64) (by rfl) B2.sorted_ (by decide +kernel) (pa_cons (pe_callTy (call_list_dT rfl) (by rfl) B.list_ (by decide +kernel) (pa_cons (pv 0) pa_nil)) pa_nil)))
        (blkOk_by (N := ["_law_poly_here", "_law_place"]) (sc := defScope sTerms) (by decide +kernel)) (fun _ _ _ _ _ => pg_name (i := 1) scTerms.nd rfl (Or.inl rfl))
        (fun _ _ _ _ _ => pts_one (pt_cmpR op_ne (pe_dget hu (pv 0) (pv 1) (fun _ _ => rfl)) pe_int (nomark _)))
        (fun _ _ _ _ _ => pe_tup (pa_cons (pv 1) (pa_cons (pe_dget hu (pv 0) (pv 1) (fun _ _ => rfl)) pa_nil)))) pa_nil))), ?_⟩
    obtain ⟨hD, nd, few, three⟩ := px
    refine ⟨_, rfl, D, _, rfl, .inl hD, fun L0 bs nL ik => ?_⟩
    obtain ⟨bz, b1, b2, b3⟩ := keys_of ik
    have er : bs.map V.ref = bz.map fun b => V.ref b.1 := by rw [← b1, List.map_map]; rfl
    have z3 : ∀ b ∈ bz, b.2.length = 3 ∧ b.2 ∈ ks p := fun b hb => by
      have m : b.2 ∈ ks p := by rw [← b2]; exact List.mem_map.mpr ⟨b, hb, rfl⟩
      obtain ⟨e, he, z⟩ := List.mem_map.mp m
      exact ⟨by rw [← z]; exact three e he, m⟩
    rw [er]
    refine ⟨L0, bz, rfl, SqL.of upd_same, fun b hb => ⟨SqT.of (by rw [upd_ne (ne_of_none (b3 b hb) nL)]; exact b3 b hb), fun z => by have := (z3 b hb).1; rw [z] at this; cases this⟩, fun L1 nL1 => ?_⟩
    have m1 : More H (upd (upd H L0 (.lst (bz.map fun b => V.ref b.1))) L1 (.lst ((bz.mergeSort leI).map fun b => V.ref b.1))) := (new_more nL).new nL1
    have e1 : (upd (upd H L0 (.lst (bz.map fun b => V.ref b.1))) L1 (.lst ((bz.mergeSort leI).map fun b => V.ref b.1))) L1 = some (.lst ((bz.mergeSort leI).map fun b => V.ref b.1)) := upd_same
    generalize upd (upd H L0 (.lst (bz.map fun b => V.ref b.1))) L1 (.lst ((bz.mergeSort leI).map fun b => V.ref b.1)) = H1 at m1 e1 ⊢
    have perm := List.mergeSort_perm bz leI
    have up : ((bz.mergeSort leI).map (·.2)).Pairwise (· ≤ ·) ∧ ((bz.mergeSort leI).map (·.2)).Nodup ∧ ∀ k, k ∈ (bz.mergeSort leI).map (·.2) ↔ k ∈ ks p := by
      have f := sort_form (f := fun k => if k ∈ ks p then 1 else 0) (bs := bz) (by rw [b2]; exact nd) (fun k => by rw [b2]; by_cases z : k ∈ ks p <;> simp [z])
      exact ⟨f.up, f.nd, fun k => (f.all k).trans (by by_cases z : k ∈ ks p <;> simp [z])⟩
    have sl : ∀ b ∈ bz.mergeSort leI, H1 b.1 = some (.tup (b.2.map V.int)) ∧ b.2 ∈ ks p := fun b hb => ⟨m1 _ _ (b3 b (perm.mem_iff.mp hb)), (z3 b (perm.mem_iff.mp hb)).2⟩
    have slen : (bz.mergeSort leI).length ≤ 300 := by
      rw [List.length_mergeSort]
      have := congrArg List.length b2
      unfold ks at this
      rw [List.length_map, List.length_map] at this
      omega
    generalize bz.mergeSort leI = sb at *
    refine ⟨L1, rfl, ⟨_, SqL.of e1⟩, fun D1 hD1 => lc_it (walk_list (xs := sb.map fun b => V.ref b.1)) (fun i H' => ∃ L : List It3, H' D1 = some (.lst (L.map fun e => V.ref e.p)) ∧
        (∀ e ∈ L, H' e.p = some (.tup [.ref e.b, .int e.n]) ∧ H' e.b = some (.tup (e.k.map V.int))) ∧ (L.map fun e => (e.k, e.n)) = (((sb.take i).map (·.2)).filter fun k => decide (val p k ≠ 0)).map (fun k => (k, val p k)) ∧ More H1 H')
      ⟨[], upd_same, (fun _ h => nomatch h), rfl, More.new (fun _ _ e => e) hD1⟩ (fun i H' _ ⟨_, _, _, _, m⟩ => SqL.of (m _ _ e1)) ?_ ?_⟩
    · rintro i x H6 H7 hi ⟨L, g1, g2, g3, g4⟩ ⟨rfl, hx⟩
      obtain ⟨b0, hb0, rfl⟩ : ∃ b0, sb[i]? = some b0 ∧ x = .ref b0.1 := by
        rw [List.getElem?_map] at hx
        cases z : sb[i]? with
        | none => rw [z] at hx; cases hx
        | some b0 => rw [z] at hx; exact ⟨b0, rfl, (Option.some.inj hx).symm⟩
      obtain ⟨q1, q3⟩ := sl b0 (List.mem_of_getElem? hb0)
      have dg : DGet H7 D (.ref b0.1) (some (.int (val p b0.2))) := by
        have z := DGet.t (k := kI b0.2) (g4 _ _ (m1 _ _ hD)) (by rw [kI_V]; exact g4 _ _ q1)
        rw [valS q3] at z
        exact z
      have tk : ((sb.take (i + 1)).map (·.2)) = (sb.take i).map (·.2) ++ [b0.2] := by rw [take_snoc hb0, List.map_append]; rfl
      refine ⟨rfl, _, rfl, _, rfl, D, _, rfl, dg, rfl, _, rfl, ?_⟩
      rw [show (!decide (V.int (val p b0.2) = V.int 0)) = decide (val p b0.2 ≠ 0) by rw [deI]; by_cases z : val p b0.2 = 0 <;> simp [z]]
      refine ite2 (fun z => ?_) (fun z => ?_)
      · refine ⟨_, rfl, _, rfl, _, rfl, D, _, rfl, dg, by show 2 ≤ sizeLine; decide, fun q nq => ?_⟩
        have nqD : D1 ≠ q := ne_of_none g1 nq
        have ll : L.length ≤ 300 := by
          have := congrArg List.length g3
          rw [List.length_map, List.length_map] at this
          have h2 := List.length_filter_le (fun k => decide (val p k ≠ 0)) ((sb.take i).map (·.2))
          rw [List.length_map, List.length_take] at h2
          omega
        refine ⟨_, by rw [upd_ne nqD]; exact g1, by rw [List.length_map]; exact small1000 (by omega), L ++ [⟨q, b0.1, b0.2, val p b0.2⟩], ?_, ?_, ?_, ?_⟩
        · rw [upd_same, List.map_append]; rfl
        · intro e he
          have off : ∀ c o, c ≠ D1 → H7 c = some o → (upd (upd H7 q (.tup [.ref b0.1, .int (val p b0.2)])) D1 (.lst ((L.map fun e => V.ref e.p) ++ [.ref q]))) c = some o := fun c o nc e => by
            rw [upd_ne nc, upd_ne (ne_of_none e nq)]; exact e
          rcases List.mem_append.mp he with he | he
          · obtain ⟨k1, k2⟩ := g2 e he
            exact ⟨off _ _ (ne_of k1 g1 (by intro z; cases z)) k1, off _ _ (ne_of k2 g1 (by intro z; cases z)) k2⟩
          · rw [List.mem_singleton] at he
            subst he
            refine ⟨?_, off _ _ (ne_of (g4 _ _ q1) g1 (by intro z; cases z)) (g4 _ _ q1)⟩
            show (upd (upd H7 q (.tup [.ref b0.1, .int (val p b0.2)])) D1 _) q = _
            rw [upd_ne nqD.symm, upd_same]
        · rw [List.map_append, g3, tk, List.filter_append, List.filter_cons_of_pos (p := fun k => decide (val p k ≠ 0)) z, List.map_append]; rfl
        · intro c o e
          have e' := g4 c o e
          rw [upd_ne (ne_of_none e hD1), upd_ne (ne_of_none e' nq)]
          exact e'
      · refine ⟨L, g1, g2, ?_, g4⟩
        rw [g3, tk, List.filter_append, List.filter_cons_of_neg (p := fun k => decide (val p k ≠ 0)) z, List.filter_nil, List.append_nil]
    · rintro H6 ⟨L, g1, g2, g3, g4⟩
      rw [List.length_map, List.take_length] at g3
      refine ⟨D1, _, rfl, .inl ⟨SqL.of g1, fun t1 nt1 => ?_⟩⟩
      refine q t1 _ _ ⟨_, ⟨List.Pairwise.filter _ up.1, List.Pairwise.filter _ up.2.1, fun k => ?_⟩, rfl⟩ ⟨L, upd_same, fun e he => ?_, g3⟩ fun b o e => ?_
      · rw [List.mem_filter, decide_eq_true_eq, up.2.2]
        exact ⟨fun z => z.2, fun z => ⟨val_off z, z⟩⟩
      · obtain ⟨k1, k2⟩ := g2 e he
        exact ⟨by rw [upd_ne (ne_of_none k1 nt1)]; exact k1, by rw [upd_ne (ne_of_none k2 nt1)]; exact k2⟩
      · have e' := g4 _ _ (m1 _ _ e)
        rw [upd_ne (ne_of_none e' nt1)]
        exact e'
theorem ok_issum (F : Fun K "_law_is_sum" "_law_is_sum" sIsSum f fd) (B : Blt mg) (B2 : Blt2 mg) (W : PwC K mg C) (T : Cl K mg "_law_terms" sTerms ["_law_poly_here"] gT dT') : FnOk P w K mg base CX0 2 f fd ["_law_told", "_law_poly_here"] (spIsSum C) := by
  have GT : FnOk P w K mg base CX0 1 gT dT' ["_law_poly_here"] spTerms := ok_terms T.fn B B2
  refine F.ok scIsSum (fun vs H Q E h => ?_) (fun cdv A outer s H vs Q E hr h => ?_)
  · obtain ⟨a, D, p, f, rfl, _⟩ := h
    rfl
  · obtain ⟨a, D, p, f, rfl, px, pa, ef, q⟩ := h
    have hu64 := hr.units
    refine ⟨_, pss_one (ps_ret (pe_and (pe_callB call_isi (by rfl) B.isi_ (by decide +kernel) (pa_cons (pv 0) (pa_cons (pe_glob (v := .ref C) rfl W.g rfl) pa_nil)))
        (pe_one (pe_cmpR (op_eqD hu64) (pe_fld (pv 0) rfl) (pe_call GT hr rfl T.g T.k T.b .nil pass0 (pa_cons (pv 1) pa_nil)) (nomark _))))), ?_⟩
    obtain ⟨dx, t, r, d, fs, l, _, m0, m1, m2, h1, h2, h3, h4, h5, h6, _⟩ := pa.ex
    refine ⟨_, rfl, _, .ref C, _, _, _, rfl, .own C, pa.ty W, W.ic.me, _, rfl, iteT ?_⟩
    refine ⟨_, rfl, a, C, dx, fs, _, rfl, h1, W.ic.cl, W.n1, h2, _, rfl, D, p, rfl, px, fun t2 l2 H' c2 a2 mo => ?_⟩
    have el : l = l2 := by
      have : (fun k => f k) = val p := funext ef
      rw [show f = val p from this] at h6
      exact h6.one c2
    subst el
    have q := q H' mo
    rw [← same_refl l] at q
    exact ⟨_, _, dp_T (h5.more mo), dp_T a2, shaped_T _, shaped_T _, q⟩
end
end K09

namespace K09
open PySem L2 Gd Ply
theorem paired_perm {α β : Type} {R : α → β → Prop} {xs ys : List α} (h : ys.Perm xs) : ∀ {l : List β}, Paired R xs l → ∃ m : List β, m.Perm l ∧ Paired R ys m := by
  induction h with
  | nil =>
    intro l p
    cases p
    exact ⟨[], .refl _, .nil⟩
  | cons x _ ih =>
    intro l p
    cases p with
    | cons h t =>
      obtain ⟨m, a, b⟩ := ih t
      exact ⟨_ :: m, a.cons _, .cons h b⟩
  | swap x y l0 =>
    intro l p
    cases p with
    | cons h t =>
      cases t with
      | cons h2 t2 => exact ⟨_ :: _ :: _, .swap _ _ _, .cons h2 (.cons h t2)⟩
  | trans _ _ ih1 ih2 =>
    intro l p
    obtain ⟨m, a, b⟩ := ih2 p
    obtain ⟨m2, a2, b2⟩ := ih1 b
    exact ⟨m2, a2.trans a, b2⟩
theorem perm_erase {α : Type} : ∀ {l : List α} {k : Nat} {x : α}, l[k]? = some x → (x :: l.eraseIdx k).Perm l
  | [], k, x, h => by rw [List.getElem?_nil] at h; cases h
  | y :: l, 0, x, h => by cases h; exact .refl _
  | y :: l, k + 1, x, h => by
    rw [List.getElem?_cons_succ] at h
    rw [List.eraseIdx_cons_succ]
    exact (List.Perm.swap _ _ _).trans ((perm_erase h).cons y)
def spShuf (K : PySem.W.Frag) : Sp := fun vs H Q _ => ∃ (d c a : Addr) (n : Int) (xs : List V), vs = [.ref d, .ref a] ∧ Pen H d c n ∧ H a = some (.lst xs) ∧ xs.length ≤ 20 ∧ 0 ≤ n ∧ n < 900000000 ∧
  ∀ (o : Addr) (ys : List V) (n' : Int) (H' : Hp), ys.Perm xs → H' o = some (.lst ys) → n ≤ n' → n' ≤ n + 20 → Pen H' d c n' → Off d H H' → Q (.ref o) H'
section
variable {P : Program} {w : World} {K : PySem.W.Frag} {mg : Str → Option Value} {base : Heap}
variable {g1 f : Addr} {d1 fd : FuncData}
abbrev sShuf : Stmt := top 36
abbrev NSh : List Str := ["_law_pen_here", "_law_some", "_law_left", "_law_out", "_law_k"]
theorem scShuf : FnScope NSh ["_law_pen_here", "_law_some"] (defScope sShuf) := ⟨rfl, rfl, rfl, by decide +kernel, rfl, by decide +kernel, by decide +kernel⟩
theorem ok_shuf (F : Fun K "_law_shuffled" "_law_shuffled" sShuf f fd) (B : Blt mg) (Dr : Cl K mg "_law_draw" sDraw ["_law_pen_here", "_law_many"] g1 d1) :
    FnOk P w K mg base CX0 2 f fd ["_law_pen_here", "_law_some"] (spShuf K) := by
  have G1 : FnOk P w K mg base CX0 1 g1 d1 ["_law_pen_here", "_law_many"] spDraw := ok_draw Dr.fn B.int_ B.len_
  refine F.ok scShuf (fun vs H Q E h => ?_) (fun cdv A outer s H vs Q E hr h => ?_)
  · obtain ⟨d, c, a, n, xs, rfl, _⟩ := h
    rfl
  · obtain ⟨d, c, a, n, xs, rfl, pen, ha, few, n0, n1, q⟩ := h
    refine ⟨_, pss_cons (ps_par (i := 2) (j := 3) rfl scShuf.nd rfl rfl (by decide) rfl rfl (pa_cons (pe_callTy call_list_of (by rfl) B.list_ (by decide +kernel) (pa_cons (pv 1) pa_nil)) (pa_cons (pe_lst pa_nil) pa_nil)) (by rfl))
      (pss_cons (ps_for PassesOwn.never rfl (pi_range1 rfl B.range_ (pa_cons (pe_callB call_len_seq (by rfl) B.len_ PySem.boot_len (pa_cons (pv 1) pa_nil)) pa_nil)) (pg_name (i := 4) scShuf.nd rfl (Or.inl rfl))
        (pss_one (ps_expr (pe_bm PySem.F.plainAttrs_list PySem.F.slot_list_append PySem.F.type_list_append mt_append (pv 3)
          (pa_cons (pe_bm PySem.F.plainAttrs_list PySem.F.slot_list_pop PySem.F.type_list_pop mt_popAt (pv 2) (pa_cons (pe_call G1 hr rfl Dr.g Dr.k Dr.b .nil pass0 (pa_cons (pv 0) (pa_cons (pe_callB call_len_seq (by rfl) B.len_ PySem.boot_len (pa_cons (pv 2) pa_nil)) pa_nil))) pa_nil)) pa_nil)))))
      (pss_one (ps_ret (pv 3)))), ?_⟩
    refine ⟨_, rfl, a, _, rfl, .inl (SqL.of ha), fun l nl => ⟨by show 0 ≤ sizeLine; decide, fun o no => ?_⟩⟩
    have nlo : l ≠ o := fun z => by rw [z, upd_same] at no; cases no
    have ho : H o = none := More.off (new_more nl) no
    have ha2 : (upd (upd H l (.lst xs)) o (.lst [])) a = some (.lst xs) := by rw [upd_ne (ne_of_none ha ho), upd_ne (ne_of_none ha nl)]; exact ha
    refine ⟨_, _, rfl, ?_⟩
    refine ⟨_, rfl, a, _, rfl, .inl (SqL.of ha2), (xs.length : Int), rfl, by omega, by omega, for_range (lo := 0) (n := ((xs.length : Nat) : Int).toNat) (fun i σ' H' => ∃ z ls os n', σ' = [some (.ref d), some (.ref a), some (.ref l), some (.ref o), z] ∧ H' l = some (.lst ls) ∧ H' o = some (.lst os) ∧ (os ++ ls).Perm xs ∧ os.length = i ∧
        Pen H' d c n' ∧ n ≤ n' ∧ n' ≤ n + (i : Int) ∧ Off d H H') ⟨none, xs, [], n, rfl, by rw [upd_ne nlo, upd_same], upd_same, .refl _, rfl, (pen.upd nl).upd no, by omega, by omega, Off.of ((new_more nl).new no)⟩ ?_ ?_⟩
    · rintro i σ2 H2 hi ⟨z, ls, os, n2, rfl, e1, e2, e3, e4, pn, b1, b2, of⟩
      have hi : i < xs.length := hi
      have ll : os.length + ls.length = xs.length := by rw [← List.length_append]; exact e3.length_eq
      have nld : l ≠ d := fun z => by
        obtain ⟨kvs, cs, p, g, f, h1, _⟩ := pn
        rw [← z, e1] at h1
        cases h1
      have nod : o ≠ d := fun z => by
        obtain ⟨kvs, cs, p, g, f, h1, _⟩ := pn
        rw [← z, e2] at h1
        cases h1
      refine ⟨_, rfl, .inl ⟨rfl, _, SqL.of e2⟩, _, rfl, .inl ⟨rfl, _, SqL.of e1⟩, _, rfl, _, rfl, l, _, rfl, .inl (SqL.of e1), d, c, n2, (ls.length : Int), rfl, pn, by omega, by omega, by omega, by omega, fun r H3 r0 r1 dr => ?_⟩
      have hk : r.toNat < ls.length := by omega
      have l3 := (dr.off l nld).trans e1
      have o3 := (dr.off o nod).trans e2
      have hx : ls[r.toNat]? = some ls[r.toNat] := List.getElem?_eq_getElem hk
      refine ⟨l, ls, r, r.toNat, _, rfl, rfl, l3, by omega, by omega, ?_, hx, ?_⟩
      · have hr0 : ¬ r < 0 := Int.not_lt.mpr r0
        have hr1 : r < (ls.length : Int) := r1
        simp [seqIndex?, hr0, r0, hr1]
      · have o4 : (upd H3 l (.lst (ls.eraseIdx r.toNat))) o = some (.lst os) := by rw [upd_ne nlo.symm]; exact o3
        refine ⟨o, os, _, rfl, rfl, o4, small1000 (by omega), ?_⟩
        have ncl : c ≠ l := fun z => by
          obtain ⟨o, ho⟩ := pen.atc
          rw [z, nl] at ho
          cases ho
        have nco : c ≠ o := fun z => by
          obtain ⟨oo, hoo⟩ := pen.atc
          rw [z, ho] at hoo
          cases hoo
        refine ⟨_, ls.eraseIdx r.toNat, os ++ [ls[r.toNat]], n2 + 1, rfl, by rw [upd_ne nlo, upd_same], upd_same, ?_, by rw [List.length_append, e4]; rfl, ?_, by omega, by omega, fun b o' e nb => ?_⟩
        · rw [List.append_assoc]
          exact ((perm_erase hx).append_left os).trans e3
        · exact (dr.pen.keep (H' := upd H3 l (.lst (ls.eraseIdx r.toNat))) (upd_ne nld.symm) (upd_ne ncl)).keep (upd_ne nod.symm) (upd_ne nco)
        · rw [upd_ne (ne_of_none e ho), upd_ne (ne_of_none e nl)]
          exact (dr.off b nb).trans (of b o' e nb)
    · rintro σ2 H2 ⟨z, ls, os, n2, rfl, e1, e2, e3, e4, pn, b1, b2, of⟩
      have e4 : os.length = xs.length := e4
      have ll : os.length + ls.length = xs.length := by rw [← List.length_append]; exact e3.length_eq
      have : ls = [] := List.eq_nil_of_length_eq_zero (by omega)
      subst this
      rw [List.append_nil] at e3
      exact ⟨_, rfl, q o os n2 H2 e3 e2 b1 (by omega) pn of⟩
end
end K09

namespace K09
open PySem L2 Gd Ply
def spMade (C : Addr) : Sp := fun vs H Q _ => ∃ (d c D : Addr) (n : Int) (p : Po), vs = [.ref d, .ref D] ∧ Pen H d c n ∧ PX H D p ∧ p.length ≤ 10 ∧ 0 ≤ n ∧ n < 800000000 ∧
  ∀ (a : Addr) (f : List Int → Int) (n' : Int) (H' : Hp), Pob H' C a f → (∀ k, f k = val p k) → n ≤ n' → n' ≤ n + 100 → Pen H' d c n' → Off d H H' → Q (.ref a) H'
theorem take_sum {p : Po} {i : Nat} {e : List Int × Int} (h : p[i]? = some e) (k : List Int) : tot (p.take (i + 1)) k = tot (p.take i) k + (if e.1 = k then e.2 else 0) := by
  rw [take_snoc h, tot_append]
  show _ + ((if e.1 = k then e.2 else 0) + 0) = _
  omega
theorem paired_snoc {α β : Type} {R : α → β → Prop} {x : α} {y : β} (h : R x y) : ∀ {xs : List α} {l : List β}, Paired R xs l → Paired R (xs ++ [x]) (l ++ [y])
  | _, _, .nil => .cons h .nil
  | _, _, .cons h1 t => .cons h1 (paired_snoc h t)
theorem paired_imp {α β : Type} {R S : α → β → Prop} (h : ∀ x y, R x y → S x y) : ∀ {xs : List α} {l : List β}, Paired R xs l → Paired S xs l
  | _, _, .nil => .nil
  | _, _, .cons h1 t => .cons (h _ _ h1) (paired_imp h t)
section
variable {P : Program} {w : World} {K : PySem.W.Frag} {mg : Str → Option Value} {base : Heap}
variable {g1 g2 gS gI gi gs gr gt gb f C CR : Addr} {d1 d2 dS dI' di ds dr' dt db fd : FuncData}
abbrev sMade : Stmt := top 35
abbrev NMa : List Str := ["_law_pen_here", "_law_poly_here", "_law_rows", "_law_place", "_law_part", "_law_number", "_law_row"]
theorem scMade : FnScope NMa ["_law_pen_here", "_law_poly_here"] (defScope sMade) := ⟨rfl, rfl, rfl, by decide +kernel, rfl, by decide +kernel, by decide +kernel⟩
theorem ok_made (F : Fun K "_law_made" "_law_made" sMade f fd) (B : Blt mg) (B2 : Blt2 mg) (W : PwC K mg C) (M : Mk K C gI) (FI : Fun K "__init__" "Powers.__init__" sPw gI dI') (bI : Binds K dI' ["self", "terms"] [])
    (Dr : Cl K mg "_law_draw" sDraw ["_law_pen_here", "_law_many"] g1 d1) (Pi : Cl K mg "_law_pick" sPick ["_law_pen_here", "_law_some"] g2 d2) (Sh : Cl K mg "_law_shuffled" sShuf ["_law_pen_here", "_law_some"] gS dS)
    (I : Cl K mg "is_integer" sIsI ["value"] gi di) (S : Cl K mg "is_integers" sIsIs ["value"] gs ds) (R : Cl K mg "is_row" sRow ["value", "width"] gr dr') (T : Cl K mg "is_term" sTerm ["item"] gt dt)
    (Br : Er K mg "BadRow" "BadRow.__init__" CR gb ["row"] sBadRow db) :
    FnOk P w K mg base CX0 8 f fd ["_law_pen_here", "_law_poly_here"] (spMade C) := by
  have G1 : FnOk P w K mg base CX0 1 g1 d1 ["_law_pen_here", "_law_many"] spDraw := ok_draw Dr.fn B.int_ B.len_
  have G2 : FnOk P w K mg base CX0 2 g2 d2 ["_law_pen_here", "_law_some"] (spPick K) := ok_pick Pi.fn Dr.fn Dr.b Dr.g B.int_ B.len_
  have GS : FnOk P w K mg base CX0 2 gS dS ["_law_pen_here", "_law_some"] (spShuf K) := ok_shuf Sh.fn B Dr
  have GI : FnOk P w K mg base (L2.CX P w) 6 gI dI' ["self", "terms"] (spInit K C CR) := ok_init FI B B2 W.ic.cl W.n1 W.n2 W.n3 I S R T Br
  refine F.ok scMade (fun vs H Q E h => ?_) (fun cdv A outer s H vs Q E hr h => ?_)
  · obtain ⟨d, c, D, n, p, rfl, _⟩ := h
    rfl
  · obtain ⟨d, c, D, n, p, rfl, pen, px, few, n0, n1, q⟩ := h
    have hu := hu_of hr
    have hr1 : Room 1 _ := hr.mono (by decide)
    have hr2 : Room 2 _ := hr.mono (by decide)
    refine ⟨_, pss_cons (ps_set (i := 2) scMade.nd rfl (Or.inl rfl) (pe_lst pa_nil))
      (Evl.pss_cut (ps_lock (ps_for PassesOwn.never rfl (pi_keys (pv 1)) (pg_name (i := 3) scMade.nd rfl (Or.inl rfl))
        (pss_cons (ps_set (i := 4) scMade.nd rfl (Or.inl rfl) (pe_op op_sub (pe_call G1 hr1 rfl Dr.g Dr.k Dr.b .nil pass0 (pa_cons (pv 0) (pa_cons pe_int pa_nil))) pe_int))
        (pss_one (ps_for PassesOwn.never rfl (pi_list (pe_lst (pa_cons (pv 4) (pa_cons (pe_op op_sub (pe_dget hu (pv 1) (pv 3) (fun _ _ => rfl)) (pv 4)) pa_nil)))) (pg_name (i := 5) scMade.nd rfl (Or.inl rfl))
          (pss_cons (ps_set (i := 6) scMade.nd rfl (Or.inl rfl) (pe_call G2 hr2 rfl Pi.g Pi.k Pi.b .nil pass0 (pa_cons (pv 0) (pa_cons (pe_lst (pa_cons (pv 3) (pa_cons (pe_callTy call_list_of (by rfl) B.list_ (by decide +kernel) (pa_cons (pv 3) pa_nil)) pa_nil))) pa_nil))))
          (pss_one (ps_expr (pe_bm PySem.F.plainAttrs_list PySem.F.slot_list_append PySem.F.type_list_append mt_append (pv 2)
            (pa_cons (pe_call G2 hr2 rfl Pi.g Pi.k Pi.b .nil pass0 (pa_cons (pv 0) (pa_cons (pe_lst (pa_cons (pe_tup (pa_cons (pv 6) (pa_cons (pv 5) pa_nil))) (pa_cons (pe_lst (pa_cons (pv 6) (pa_cons (pv 5) pa_nil))) pa_nil))) pa_nil))) pa_nil))))))))))
      (pss_one (ps_ret (pe_make M GI hr rfl W.g bI .nil (passes_call LamX.takes0 (fun _ _ _ _ h => h)) (pa_cons (pe_call G2 hr2 rfl Pi.g Pi.k Pi.b .nil pass0 (pa_cons (pv 0) (pa_cons (pe_lst
        (pa_cons (pe_call GS hr2 rfl Sh.g Sh.k Sh.b .nil pass0 (pa_cons (pv 0) (pa_cons (pv 2) pa_nil))) (pa_cons (pe_callTy call_tuple_of (by rfl) B.tup_ (by decide +kernel) (pa_cons (pe_revL (pv 2)) pa_nil)) pa_nil))) pa_nil))) pa_nil))))), ?_⟩
    refine ⟨by show 0 ≤ sizeLine; decide, fun Ro nR => ?_⟩
    obtain ⟨hD, nd, _, three⟩ := px
    obtain ⟨od0, hd0⟩ := pen.at
    obtain ⟨oc0, hc0⟩ := pen.atc
    have nRd : Ro ≠ d := fun z => by rw [z, hd0] at nR; cases nR
    have nRc : Ro ≠ c := fun z => by rw [z, hc0] at nR; cases nR
    have nRD : Ro ≠ D := fun z => by rw [z, hD] at nR; cases nR
    have ndD : d ≠ D := by
      obtain ⟨kvs, cs, _, _, _, h1, _⟩ := pen
      exact ne_of h1 hD (by intro z; cases z)
    have ncD : c ≠ D := by
      obtain ⟨kvs, cs, _, _, _, _, h1, _⟩ := pen
      exact ne_of h1 hD (by intro z; cases z)
    refine ⟨fun σ' H' => ∃ z3 z4 z5 z6 n' xs l G, σ' = [some (.ref d), some (.ref D), some (.ref Ro), z3, z4, z5, z6] ∧ H' Ro = some (.lst xs) ∧ Paired (fun x e => Trm K G x e.1 e.2) xs l ∧ (∀ k, tot l k = tot p k) ∧ l.length = 2 * p.length ∧ More G H' ∧ G d = none ∧
        Pen H' d c n' ∧ n ≤ n' ∧ n' ≤ n + 5 * (p.length : Int) ∧ Off d H H', ?_, ?_⟩
    · refine ⟨D, .dT (dk p), by rw [upd_ne nRD.symm]; exact hD, trivial, fun od => ⟨_, rfl, D, od, rfl, .inr ⟨_, upd_same, for_it (walk_keysT (kvs := dk p)) (fun i σ' H' => ∃ z3 z4 z5 z6 n' xs l G, σ' = [some (.ref d), some (.ref D), some (.ref Ro), z3, z4, z5, z6] ∧ H' Ro = some (.lst xs) ∧
          Paired (fun x e => Trm K G x e.1 e.2) xs l ∧ (∀ k, tot l k = tot (p.take i) k) ∧ l.length = 2 * i ∧ More G H' ∧ (G d = none ∧ G Ro = none ∧ G D = none) ∧ H' D = some (.frz od (.dT (dk p))) ∧ Pen H' d c n' ∧ n ≤ n' ∧ n' ≤ n + 5 * (i : Int) ∧
          (∀ b o, H b = some o → b ≠ d → b ≠ D → H' b = some o)) ⟨none, none, none, none, n, [], [], fun _ => none, rfl, by rw [upd_ne nRD, upd_same], .nil, fun _ => rfl, rfl, (fun _ _ h => nomatch h), ⟨rfl, rfl, rfl⟩, upd_same, ?_, by omega, by omega, ?_⟩ ?_ ?_ ?_⟩⟩⟩
      · exact (pen.upd nR).keep (upd_ne ndD) (upd_ne ncD)
      · intro b o e nb nD
        rw [upd_ne nD, upd_ne (ne_of_none e nR)]
        exact e
      · exact fun i σ' H' _ ⟨_, _, _, _, _, _, _, _, _, _, _, _, _, _, _, h, _⟩ => h
      · rintro i x σ2 H3 H4 hi ⟨z3, z4, z5, z6, n2, xs, l, G, rfl, e1, e2, e3, e4, e5, ⟨u1, u2, u3⟩, e6, pn, b1, b2, of⟩ ⟨rfl, k, v, b, hk, rfl, hb⟩
        obtain ⟨e, he, rfl, rfl⟩ : ∃ e, p[i]? = some e ∧ k = kI e.1 ∧ v = .int e.2 := by
          unfold dk at hk
          rw [List.getElem?_map] at hk
          cases z : p[i]? with
          | none => rw [z] at hk; cases hk
          | some e =>
            rw [z] at hk
            cases hk
            exact ⟨e, rfl, rfl, rfl⟩
        have hi : i < p.length := (List.getElem?_eq_some_iff.mp he).1
        have mem : e ∈ p := List.mem_of_getElem? he
        have l3 := three e mem
        rw [kI_V] at hb
        have dg : ∀ H5, H5 D = some (.frz od (.dT (dk p))) → H5 b = some (.tup (e.1.map V.int)) → DGet H5 D (.ref b) (some (.int e.2)) := fun H5 h1 h2 =>
          .inr ⟨dk p, kI e.1, b, .inr ⟨od, h1⟩, rfl, by rw [kI_V]; exact h2, by rw [valS (List.mem_map.mpr ⟨e, mem, rfl⟩), val_at nd mem]⟩
        have nbd : b ≠ d := fun z => by
          obtain ⟨kvs, cs, _, _, _, h1, _⟩ := pn
          rw [← z, hb] at h1
          cases h1
        have nbR : b ≠ Ro := ne_of hb e1 (by intro z; cases z)
        have nbD : b ≠ D := ne_of hb e6 (by intro z; cases z)
        refine ⟨_, rfl, d, c, n2, 9, rfl, pn, by decide, by decide, by omega, by omega, fun y H5 y0 y1 dr => ⟨y, 4, rfl, rfl, ?_⟩⟩
        have D5 := (dr.off D ndD.symm).trans e6
        have b5 := (dr.off b nbd).trans hb
        have R5 := (dr.off Ro nRd).trans e1
        have G5 : More G H5 := fun c o h => by
          have nc : c ≠ d := fun z => by rw [z, u1] at h; cases h
          exact (dr.off c nc).trans (e5 c o h)
        refine ⟨_, rfl, _, rfl, _, rfl, D, _, rfl, dg H5 D5 b5, _, rfl, _, _, rfl, rfl, by show 2 ≤ sizeLine; decide, fun N2 nN => ?_⟩
        have nND : N2 ≠ D := fun z => by rw [z, D5] at nN; cases nN
        have nNd : N2 ≠ d := fun z => by
          obtain ⟨o, ho⟩ := dr.pen.at
          rw [z, ho] at nN
          cases nN
        have nNR : N2 ≠ Ro := fun z => by rw [z, R5] at nN; cases nN
        have nNb : N2 ≠ b := fun z => by rw [z, b5] at nN; cases nN
        refine ⟨N2, rfl, ⟨_, SqL.of upd_same⟩, for_it (walk_list (xs := [V.int (y - 4), V.int (e.2 - (y - 4))])) (fun j σ' H' => ∃ z5 z6 n' xs l G, σ' = [some (.ref d), some (.ref D), some (.ref Ro), some (.ref b), some (.int (y - 4)), z5, z6] ∧ H' Ro = some (.lst xs) ∧
            Paired (fun x e => Trm K G x e.1 e.2) xs l ∧ (∀ k, tot l k = tot (p.take i) k + (if e.1 = k then ([y - 4, e.2 - (y - 4)].take j).sum else 0)) ∧ l.length = 2 * i + j ∧ More G H' ∧ (G d = none ∧ G Ro = none ∧ G D = none) ∧ G b = some (.tup (e.1.map V.int)) ∧
            G N2 = some (.lst [.int (y - 4), .int (e.2 - (y - 4))]) ∧ H' D = some (.frz od (.dT (dk p))) ∧ Pen H' d c n' ∧ n ≤ n' ∧ n' ≤ n + 5 * (i : Int) + 1 + 2 * (j : Int) ∧ (∀ b o, H b = some o → b ≠ d → b ≠ D → H' b = some o))
          ⟨z5, z6, n2 + 1, xs, l, upd (upd G b (.tup (e.1.map V.int))) N2 (.lst [.int (y - 4), .int (e.2 - (y - 4))]), rfl, by rw [upd_ne nNR.symm]; exact R5, ?_, ?_, by omega, ?_, ?_, by rw [upd_ne nNb.symm, upd_same], upd_same, by rw [upd_ne nND.symm]; exact D5, dr.pen.upd nN, by omega, by omega, ?_⟩ ?_ ?_ ?_⟩
        · have gb : ∀ o, G b = some o → o = .tup (e.1.map V.int) := fun o h => by
            have z := G5 b o h
            rw [b5] at z
            exact (Option.some.inj z).symm
          refine paired_imp (fun x e' h => Trm.more (fun c o h => ?_) h) e2
          have nc : c ≠ N2 := fun z => by
            have z2 := G5 c o h
            rw [z, nN] at z2
            cases z2
          rw [upd_ne nc]
          by_cases z : c = b
          · subst z
            rw [upd_same, gb o h]
          · rw [upd_ne z]
            exact h
        · intro k
          rw [e3 k]
          show _ = _ + (if e.1 = k then (0 : Int) else 0)
          by_cases z : e.1 = k
          · rw [if_pos z]; omega
          · rw [if_neg z]; omega
        · intro c o h
          by_cases z : c = N2
          · subst z
            rw [upd_same] at h ⊢
            exact h
          · rw [upd_ne z] at h ⊢
            by_cases z2 : c = b
            · subst z2
              rw [upd_same] at h
              rw [← h]
              exact b5
            · rw [upd_ne z2] at h
              exact G5 c o h
        · refine ⟨?_, ?_, ?_⟩
          · rw [upd_ne nNd.symm, upd_ne nbd.symm]; exact u1
          · rw [upd_ne nNR.symm, upd_ne nbR.symm]; exact u2
          · rw [upd_ne nND.symm, upd_ne nbD.symm]; exact u3
        · intro b' o eb nb nD
          have z := (dr.off b' nb).trans (of b' o eb nb nD)
          rw [upd_ne (ne_of_none z nN)]
          exact z
        · exact fun j σ' H' _ ⟨_, _, _, _, _, _, _, _, _, _, _, m, _, _, g, _⟩ => SqL.of (m _ _ g)
        · rintro j x σ3 H6 H7 hj ⟨z5, z6, n3, xs, l, G, rfl, f1, f2, f3, f4, f5, ⟨v1, v2, v3⟩, fb, fN, f6, pn3, c1, c2, of3⟩ ⟨rfl, hx⟩
          have hj : j < 2 := hj
          obtain ⟨w0, rfl, hw⟩ : ∃ w0 : Int, x = .int w0 ∧ ([y - 4, e.2 - (y - 4)].take (j + 1)).sum = ([y - 4, e.2 - (y - 4)].take j).sum + w0 := by
            match j, hj with
            | 0, _ => cases hx; exact ⟨_, rfl, by simp⟩
            | 1, _ => cases hx; exact ⟨_, rfl, by simp⟩
          have b7 := f5 _ _ fb
          refine ⟨_, rfl, _, rfl, _, rfl, b, _, rfl, .inr (SqT.of b7), fun k1 nk1 => ⟨by show 2 ≤ sizeLine; decide, fun k2 nk2 => ?_⟩⟩
          refine ⟨d, c, k2, n3, [.ref b, .ref k1], rfl, (pn3.upd nk1).upd nk2, upd_same, by show 0 < 2; decide, by show 2 ≤ 1000; decide, by omega, by omega, fun r H8 hr8 dr8 => ?_⟩
          have nk1' : H7 k2 = none := More.off (new_more nk1) nk2
          have nk12 : k1 ≠ k2 := fun z => by rw [z, upd_same] at nk2; cases nk2
          have off8 : ∀ c o, c ≠ d → H7 c = some o → H8 c = some o := fun c o nc h => by
            rw [dr8.off c nc, upd_ne (ne_of_none h nk1'), upd_ne (ne_of_none h nk1)]
            exact h
          have nGd : ∀ c o, G c = some o → c ≠ d := fun c o h z => by rw [z, v1] at h; cases h
          have k1d : k1 ≠ d := fun z => by
            obtain ⟨o, ho⟩ := pn3.at
            rw [z, ho] at nk1
            cases nk1
          have hk1 : H8 k1 = some (.lst (e.1.map V.int)) := by rw [dr8.off k1 k1d, upd_ne nk12, upd_same]
          obtain ⟨rr, rfl, sk⟩ : ∃ rr, r = .ref rr ∧ Sk K H8 rr (e.1.map V.int) := by
            rcases List.mem_cons.mp hr8 with z | z
            · exact ⟨b, z, .inr (off8 _ _ nbd b7)⟩
            · rw [List.mem_singleton] at z
              exact ⟨k1, z, .inl (SqL.of hk1)⟩
          refine ⟨_, rfl, .inl ⟨rfl, _, SqL.of (off8 _ _ nRd f1)⟩, _, rfl, _, rfl, _, rfl, by show 2 ≤ sizeLine; decide, fun q1 nq1 => ⟨_, rfl, _, rfl, by show 2 ≤ sizeLine; decide, fun q2 nq2 => ⟨by show 2 ≤ sizeLine; decide, fun q3 nq3 => ?_⟩⟩⟩
          refine ⟨d, c, q3, n3 + 1, [.ref q1, .ref q2], rfl, ((dr8.pen.upd nq1).upd nq2).upd nq3, upd_same, by show 0 < 2; decide, by show 2 ≤ 1000; decide, by omega, by omega, fun it H9 hit dr9 => ?_⟩
          have nq2' : H8 q2 = none := More.off (new_more nq1) nq2
          have nq3a : (upd H8 q1 (.tup [.ref rr, .int w0])) q3 = none := More.off (new_more nq2) nq3
          have nq3' : H8 q3 = none := More.off (new_more nq1) nq3a
          have q12 : q1 ≠ q2 := fun z => by rw [z, upd_same] at nq2; cases nq2
          have q13 : q1 ≠ q3 := fun z => by rw [z, upd_same] at nq3a; cases nq3a
          have q23 : q2 ≠ q3 := fun z => by rw [z, upd_same] at nq3; cases nq3
          have hd8 : ∃ o, H8 d = some o := dr8.pen.at
          have q1d : q1 ≠ d := fun z => by obtain ⟨o, ho⟩ := hd8; rw [z, ho] at nq1; cases nq1
          have q2d : q2 ≠ d := fun z => by obtain ⟨o, ho⟩ := hd8; rw [z, ho] at nq2'; cases nq2'
          have off9 : ∀ c o, c ≠ d → H8 c = some o → H9 c = some o := fun c o nc h => by
            rw [dr9.off c nc, upd_ne (ne_of_none h nq3'), upd_ne (ne_of_none h nq2'), upd_ne (ne_of_none h nq1)]
            exact h
          have hq1 : H9 q1 = some (.tup [.ref rr, .int w0]) := by rw [dr9.off q1 q1d, upd_ne q13, upd_ne q12, upd_same]
          have hq2 : H9 q2 = some (.lst [.ref rr, .int w0]) := by rw [dr9.off q2 q2d, upd_ne q23, upd_same]
          have R8 := off8 _ _ nRd f1
          have R9 := off9 _ _ nRd R8
          have k9 := off9 _ _ k1d hk1
          have q1R : q1 ≠ Ro := fun z => by rw [z, R8] at nq1; cases nq1
          have q2R : q2 ≠ Ro := fun z => by rw [z, R8] at nq2'; cases nq2'
          have k1R : k1 ≠ Ro := fun z => by rw [z, f1] at nk1; cases nk1
          have D8 := off8 _ _ ndD.symm f6
          have D9 := off9 _ _ ndD.symm D8
          have q1D : q1 ≠ D := fun z => by rw [z, D8] at nq1; cases nq1
          have q2D : q2 ≠ D := fun z => by rw [z, D8] at nq2'; cases nq2'
          have k1D : k1 ≠ D := fun z => by rw [z, f6] at nk1; cases nk1
          have GH8 : ∀ c o, G c = some o → H8 c = some o := fun c o h => off8 _ _ (nGd c o h) (f5 c o h)
          have GH9 : ∀ c o, G c = some o → H9 c = some o := fun c o h => off9 _ _ (nGd c o h) (GH8 c o h)
          -- the items' own heap
          have mG : More G (upd (upd (upd G k1 (.lst (e.1.map V.int))) q1 (.tup [.ref rr, .int w0])) q2 (.lst [.ref rr, .int w0])) := fun c o h => by
            have z1 : c ≠ k1 := ne_of_none (f5 c o h) nk1
            have z2 : c ≠ q1 := ne_of_none (GH8 c o h) nq1
            have z3 : c ≠ q2 := ne_of_none (GH8 c o h) nq2'
            rw [upd_ne z3, upd_ne z2, upd_ne z1]
            exact h
          have mH : ∀ o', More (upd (upd (upd G k1 (.lst (e.1.map V.int))) q1 (.tup [.ref rr, .int w0])) q2 (.lst [.ref rr, .int w0])) (upd H9 Ro o') := fun o' c o h => by
            have nc : c ≠ Ro := fun z => by
              subst z
              rw [upd_ne q2R.symm, upd_ne q1R.symm, upd_ne k1R.symm, v2] at h
              cases h
            rw [upd_ne nc]
            by_cases z3 : c = q2
            · subst z3
              rw [upd_same] at h
              rw [← h]
              exact hq2
            · rw [upd_ne z3] at h
              by_cases z2 : c = q1
              · subst z2
                rw [upd_same] at h
                rw [← h]
                exact hq1
              · rw [upd_ne z2] at h
                by_cases z1 : c = k1
                · subst z1
                  rw [upd_same] at h
                  rw [← h]
                  exact k9
                · rw [upd_ne z1] at h
                  exact GH9 c o h
          have k1q1 : k1 ≠ q1 := ne_of_none hk1 nq1
          have k1q2 : k1 ≠ q2 := ne_of_none hk1 nq2'
          have skG : Sk K (upd (upd (upd G k1 (.lst (e.1.map V.int))) q1 (.tup [.ref rr, .int w0])) q2 (.lst [.ref rr, .int w0])) rr (e.1.map V.int) := by
            rcases List.mem_cons.mp hr8 with z | z
            · cases z
              exact .inr (mG _ _ fb)
            · rw [List.mem_singleton] at z
              cases z
              exact .inl (SqL.of (by rw [upd_ne k1q2, upd_ne k1q1, upd_same]))
          have trm : Trm K (upd (upd (upd G k1 (.lst (e.1.map V.int))) q1 (.tup [.ref rr, .int w0])) q2 (.lst [.ref rr, .int w0])) it e.1 w0 := by
            rcases List.mem_cons.mp hit with z | z
            · exact ⟨q1, rr, z, .inr (SqT.of (by rw [upd_ne q12, upd_same])), skG, l3⟩
            · rw [List.mem_singleton] at z
              exact ⟨q2, rr, z, .inl (SqL.of upd_same), skG, l3⟩
          have xl : xs.length = l.length := Paired.length f2
          refine ⟨Ro, xs, it, rfl, rfl, R9, small1000 (by omega), _, _, n3 + 1 + 1, xs ++ [it], l ++ [(e.1, w0)], _, rfl, upd_same, paired_snoc (R := fun x e => Trm K _ x e.1 e.2) (y := (e.1, w0)) trm (paired_imp (fun _ _ h => Trm.more mG h) f2), ?_, by rw [List.length_append, f4]; rfl, mH _, ⟨?_, ?_, ?_⟩, mG _ _ fb, mG _ _ fN, by rw [upd_ne nRD.symm]; exact D9,
            dr9.pen.keep (upd_ne nRd.symm) (upd_ne nRc.symm), by omega, by omega, ?_⟩
          · intro k
            rw [tot_append, f3 k, hw]
            show _ + ((if e.1 = k then w0 else 0) + 0) = _
            by_cases z : e.1 = k
            · rw [if_pos z, if_pos z, if_pos z]; omega
            · rw [if_neg z, if_neg z, if_neg z]; omega
          · rw [upd_ne q2d.symm, upd_ne q1d.symm, upd_ne k1d.symm]; exact v1
          · rw [upd_ne q2R.symm, upd_ne q1R.symm, upd_ne k1R.symm]; exact v2
          · rw [upd_ne q2D.symm, upd_ne q1D.symm, upd_ne k1D.symm]; exact v3
          · intro b' o eb nb nD
            rw [upd_ne (ne_of_none eb nR)]
            exact off9 _ _ nb (off8 _ _ nb (of3 b' o eb nb nD))
        · rintro σ3 H6 ⟨z5, z6, n3, xs, l, G, rfl, f1, f2, f3, f4, f5, f7, fb, fN, f6, pn3, c1, c2, of3⟩
          refine ⟨_, _, _, _, n3, xs, l, G, rfl, f1, f2, fun k => ?_, by show l.length = _; rw [f4]; show 2 * i + 2 = _; omega, f5, f7, f6, pn3, c1, ?_, of3⟩
          · rw [f3 k, take_sum he]
            by_cases z : e.1 = k
            · rw [if_pos z, if_pos z]
              show _ + (y - 4 + (e.2 - (y - 4) + 0)) = _
              omega
            · rw [if_neg z, if_neg z]
          · have c2 : n3 ≤ n + 5 * (i : Int) + 1 + 2 * ((2 : Nat) : Int) := c2
            omega
      · rintro σ2 H3 ⟨z3, z4, z5, z6, n2, xs, l, G, rfl, e1, e2, e3, e4, e5, ⟨u1, u2, u3⟩, e6, pn, b1, b2, of⟩
        rw [dk_len] at e3 e4 b2
        refine ⟨e6, z3, z4, z5, z6, n2, xs, l, G, rfl, by rw [upd_ne nRD]; exact e1, e2, fun k => by rw [e3 k, List.take_length], e4, fun c o h => ?_, u1, pn.keep (upd_ne ndD) (upd_ne ncD), b1, b2, fun b o h nb => ?_⟩
        · have nc : c ≠ D := fun z => by rw [z, u3] at h; cases h
          rw [upd_ne nc]
          exact e5 c o h
        · by_cases z : b = D
          · subst z
            rw [upd_same, ← hD]
            exact h
          · rw [upd_ne z]
            exact of b o h nb z
    · rintro σ2 H2 ⟨z3, z4, z5, z6, n2, xs, l, G, rfl, e1, e2, e3, e4, e5, u1, pn, b1, b2, of⟩
      have xl : xs.length = l.length := Paired.length e2
      have Gd : ∀ c o, G c = some o → c ≠ d := fun c o h z => by rw [z, u1] at h; cases h
      refine ⟨_, rfl, _, rfl, _, rfl, d, c, Ro, n2, xs, rfl, pn, e1, by omega, by omega, by omega, fun o ys n3 H3 perm ho c1 c2 pn3 of3 => ?_⟩
      have R3 := of3 _ _ e1 nRd
      refine ⟨_, rfl, Ro, xs, rfl, SqL.of R3, fun r nr => ⟨r, _, rfl, .inl ⟨SqL.of upd_same, fun t nt => ⟨by show 2 ≤ sizeLine; decide, fun u nu => ?_⟩⟩⟩⟩
      have nt3 : H3 t = none := More.off (new_more nr) nt
      have nu4 : (upd H3 r (.lst xs.reverse)) u = none := More.off (new_more nt) nu
      have nu3 : H3 u = none := More.off (new_more nr) nu4
      have td : t ≠ d := fun z => by obtain ⟨o, ho⟩ := pn3.at; rw [z, ho] at nt3; cases nt3
      have od' : o ≠ d := fun z => by
        obtain ⟨kvs, cs, _, _, _, h1, _⟩ := pn3
        rw [← z, ho] at h1
        cases h1
      have tu : t ≠ u := fun z => by rw [z, upd_same] at nu; cases nu
      refine ⟨d, c, u, n3, [.ref o, .ref t], rfl, ((pn3.upd nr).upd nt).upd nu, upd_same, by show 0 < 2; decide, by show 2 ≤ 1000; decide, by omega, by omega, fun x H4 hx dr => ?_⟩
      intro a dx na ndx nad
      have off4 : ∀ b o, b ≠ d → H3 b = some o → H4 b = some o := fun b o nb h => by
        rw [dr.off b nb, upd_ne (ne_of_none h nu3), upd_ne (ne_of_none h nt3), upd_ne (ne_of_none h nr)]
        exact h
      have t4 : H4 t = some (.tup xs.reverse) := by rw [dr.off t td, upd_ne tu, upd_same]
      have o4 := off4 _ _ od' ho
      have m5 : More H4 (upd (upd H4 dx (.own a)) a (.ins C dx [])) := fun b o h => by
        rw [upd_ne (ne_of_none h na), upd_ne (ne_of_none h ndx)]
        exact h
      have GH : More G (upd (upd H4 dx (.own a)) a (.ins C dx [])) := fun c o h => m5 _ _ (off4 _ _ (Gd c o h) (of3 c o (e5 c o h) (Gd c o h)))
      have pen5 : Pen (upd (upd H4 dx (.own a)) a (.ins C dx [])) d c (n3 + 1) := (dr.pen.upd ndx).upd (by rw [upd_ne nad.symm]; exact na)
      have go : ∀ (tt : Addr) (zs : List V) (m : Po), x = .ref tt → Sq K (upd (upd H4 dx (.own a)) a (.ins C dx [])) tt zs → zs.length = xs.length → m.Perm l → Paired (fun x e => Trm K G x e.1 e.2) zs m →
          spInit K C CR (.ref a :: ([x] ++ [])) (upd (upd H4 dx (.own a)) a (.ins C dx [])) (fun v H2 => v = .non ∧ Q (.ref a) H2) (fun _ _ _ => False) := by
        intro tt zs m ex sq zl pm pr
        subst ex
        refine ⟨a, tt, dx, zs, rfl, upd_same, sq, by omega, .inl ⟨m, paired_imp (fun _ _ h => Trm.more GH h) pr, fun H' off pob => ⟨rfl, ?_⟩⟩⟩
        have and' : d ≠ a := fun z => by obtain ⟨o, ho⟩ := dr.pen.at; rw [z, na] at ho; cases ho
        have anc' : c ≠ a := fun z => by obtain ⟨o, ho⟩ := dr.pen.atc; rw [z, na] at ho; cases ho
        obtain ⟨o1, h1⟩ := pen5.at
        obtain ⟨o2, h2⟩ := pen5.atc
        refine q a _ (n3 + 1) H' pob (fun k => by rw [tot_perm pm k, e3 k, tot_val nd k]) (by omega) (by omega) (pen5.keep ((off _ _ h1 and').trans h1.symm) ((off _ _ h2 anc').trans h2.symm)) fun b o h nb => ?_
        have h4 := off4 _ _ nb (of3 b o (of b o h nb) nb)
        exact off _ _ (m5 _ _ h4) (ne_of_none h4 na)
      rcases List.mem_cons.mp hx with rfl | hx
      · obtain ⟨m, pm, pr⟩ := paired_perm perm e2
        exact go o ys m rfl (.inl (SqL.of (m5 _ _ o4))) perm.length_eq pm pr
      · rw [List.mem_singleton] at hx
        obtain ⟨m, pm, pr⟩ := paired_perm (List.reverse_perm xs) e2
        exact go t xs.reverse m hx (.inr (SqT.of (m5 _ _ t4))) (List.length_reverse) pm pr
end
end K09

namespace K09
open PySem L2 Gd Ply
abbrev big20 : Nat := 1000000000000000000000
def spSome : Sp := fun vs H Q _ => ∃ (d c : Addr) (n : Int), vs = [.ref d] ∧ Pen H d c n ∧ 0 ≤ n ∧ n < 700000000 ∧
  ∀ (D : Addr) (p : Po) (n' : Int) (H' : Hp), n ≤ n' → n' ≤ n + 300 → Pen H' d c n' → Off d H H' → PD H' D p big20 big20 → Q (.ref D) H'
/-- a display of one entry was made -/
theorem disp_one {H : Hp} {p t : Addr} {i j h v : Int} (np : H p = none) (nt : (upd H p (HO.dT [])) t = none) (hi : i.natAbs ≤ 10) (hj : j.natAbs ≤ 10) (hh : h.natAbs ≤ 10) (hv : v.natAbs ≤ 10) :
    (upd (upd H p (.dT [])) t (.tup [.int i, .int j, .int h])) p = some (HO.dT []) ∧ (∀ e ∈ [(⟨kI [i, j, h], t, .int v⟩ : Td.It1)], (upd (upd H p (HO.dT [])) t (.tup [.int i, .int j, .int h])) e.b = some (HO.tup (e.k.map kV))) ∧
      More H (upd (upd (upd H p (.dT [])) t (.tup [.int i, .int j, .int h])) p (.dT ([(⟨kI [i, j, h], t, .int v⟩ : Td.It1)].map fun e => (e.k, e.v)))) ∧
      PD (upd (upd (upd H p (.dT [])) t (.tup [.int i, .int j, .int h])) p (.dT ([(⟨kI [i, j, h], t, .int v⟩ : Td.It1)].map fun e => (e.k, e.v)))) p [([i, j, h], v)] 10 10 := by
  have npt : p ≠ t := fun z => by rw [z, upd_same] at nt; cases nt
  refine ⟨by rw [upd_ne npt, upd_same], fun e he => ?_, fun b o h => ?_, ⟨upd_same, by simp [ks], by show 1 ≤ 5; decide, fun e he => ?_, fun e he x hx => ?_, fun e he => ?_⟩⟩
  · rw [List.mem_singleton] at he
    subst he
    exact upd_same
  · have z := new_more (o := .dT []) np b o h
    rw [upd_ne (ne_of_none h np), upd_ne (ne_of_none z nt)]
    exact z
  · rw [List.mem_singleton] at he
    subst he
    rfl
  · rw [List.mem_singleton] at he
    subst he
    simp only [List.mem_cons, List.not_mem_nil, or_false] at hx
    obtain rfl | rfl | rfl := hx <;> assumption
  · rw [List.mem_singleton] at he
    subst he
    exact hv
theorem PD.more {H H' : Hp} {D : Addr} {p : Po} {B C B' C' : Nat} (m : H' D = H D) (hB : B ≤ B') (hC : C ≤ C') (h : PD H D p B C) : PD H' D p B' C' :=
  ⟨m.trans h.at_, h.nd, h.few, h.three, fun e he i hi => Nat.le_trans (h.exp e he i hi) hB, fun e he => Nat.le_trans (h.num e he) hC⟩
section
variable {P : Program} {w : World} {K : PySem.W.Frag} {mg : Str → Option Value} {base : Heap}
variable {g1 g2 g3 f : Addr} {d1 d2 d3 fd : FuncData}
abbrev sSome : Stmt := top 38
abbrev NSo : List Str := ["_law_pen_here", "_law_way", "_law_poly_here", "_law_big", "_law_found", "_law_place", "_law_row"]
theorem scSome : FnScope NSo ["_law_pen_here"] (defScope sSome) := ⟨rfl, rfl, rfl, by decide +kernel, rfl, by decide +kernel, by decide +kernel⟩
theorem ok_some (F : Fun K "_law_some_poly" "_law_some_poly" sSome f fd) (B : Blt mg) (B2 : Blt2 mg) (Dr : Cl K mg "_law_draw" sDraw ["_law_pen_here", "_law_many"] g1 d1) (Pi : Cl K mg "_law_pick" sPick ["_law_pen_here", "_law_some"] g2 d2)
    (Po' : Cl K mg "_law_poly" sPoly ["_law_pen_here", "_law_letters", "_law_reach", "_law_many"] g3 d3) : FnOk P w K mg base CX0 4 f fd ["_law_pen_here"] spSome := by
  have G1 : FnOk P w K mg base CX0 1 g1 d1 ["_law_pen_here", "_law_many"] spDraw := ok_draw Dr.fn B.int_ B.len_
  have G2 : FnOk P w K mg base CX0 2 g2 d2 ["_law_pen_here", "_law_some"] (spPick K) := ok_pick Pi.fn Dr.fn Dr.b Dr.g B.int_ B.len_
  have G3 : FnOk P w K mg base CX0 3 g3 d3 ["_law_pen_here", "_law_letters", "_law_reach", "_law_many"] spPoly := ok_poly Po'.fn B B2 Dr Pi
  refine F.ok scSome (fun vs H Q E h => ?_) (fun cdv A outer s H vs Q E hr h => ?_)
  · obtain ⟨d, c, n, rfl, _⟩ := h
    rfl
  · obtain ⟨d, c, n, rfl, pen, n0, n1, q⟩ := h
    have hu := hu_of hr
    have hu64 := hr.units
    have hu8 := Nat.lt_of_le_of_lt (Nat.add_le_add_left (show 8 ≤ 64 by decide) _) hu64
    have hr1 : Room 1 _ := hr.mono (by decide)
    have hr2 : Room 2 _ := hr.mono (by decide)
    refine ⟨_, pss_cons (ps_set (i := 1) scSome.nd rfl (Or.inl rfl) (pe_call G1 hr1 rfl Dr.g Dr.k Dr.b .nil pass0 (pa_cons (pv 0) (pa_cons pe_int pa_nil))))
      (pss_cons (ps_if (pt_cmpR op_eq (pv 1) pe_int (nomark _)) (pss_one (ps_ret (pe_call G2 hr2 rfl Pi.g Pi.k Pi.b .nil pass0 (pa_cons (pv 0) (pa_cons (pe_lst (pa_cons pe_dnewT
          (pa_cons (Td.pe_dispT hu8 (pps_cons (pe_tup (pa_cons pe_int (pa_cons pe_int (pa_cons pe_int pa_nil)))) pe_int pps_nil) rfl rfl (by simp) (by decide))
          (pa_cons (Td.pe_dispT hu8 (pps_cons (pe_tup (pa_cons pe_int (pa_cons pe_int (pa_cons pe_int pa_nil)))) (pe_un un_neg pe_int) pps_nil) rfl rfl (by simp) (by decide))
          (pa_cons (Td.pe_dispT hu8 (pps_cons (pe_tup (pa_cons (pe_un un_neg pe_int) (pa_cons pe_int (pa_cons pe_int pa_nil)))) pe_int pps_nil) rfl rfl (by simp) (by decide)) pa_nil))))) pa_nil))))) pss_nil)
      (pss_cons (ps_set (i := 2) scSome.nd rfl (Or.inl rfl) (pe_call G3 hr rfl Po'.g Po'.k Po'.b .nil pass0 (pa_cons (pv 0) (pa_cons (pe_op op_add pe_int (pe_call G1 hr1 rfl Dr.g Dr.k Dr.b .nil pass0 (pa_cons (pv 0) (pa_cons pe_int pa_nil))))
          (pa_cons (pe_call G2 hr2 rfl Pi.g Pi.k Pi.b .nil pass0 (pa_cons (pv 0) (pa_cons (pe_lst (pa_cons pe_int (pa_cons pe_int (pa_cons pe_int (pa_cons pe_int pa_nil))))) pa_nil))) (pa_cons pe_int pa_nil))))))
      (pss_cons (ps_if (pt_cmpR op_gt (pv 1) pe_int (nomark _)) (pss_one (ps_ret (pv 2))) pss_nil)
      (pss_cons (ps_set (i := 3) scSome.nd rfl (Or.inl rfl) (pe_op op_add (pe_op op_pow pe_int pe_int) (pe_call G1 hr1 rfl Dr.g Dr.k Dr.b .nil pass0 (pa_cons (pv 0) (pa_cons (pe_op op_pow pe_int pe_int) pa_nil)))))
      (pss_cons (ps_set (i := 4) scSome.nd rfl (Or.inl rfl) pe_dnewT)
      (Evl.pss_cut (ps_lock (ps_for PassesOwn.never rfl (pi_keys (pv 2)) (pg_name (i := 5) scSome.nd rfl (Or.inl rfl))
        (pss_cons (ps_set (i := 6) scSome.nd rfl (Or.inl rfl) (pe_tup (pa_cons (pe_ix ix_tup (pv 5) pe_int (fun _ _ => rfl)) (pa_cons (pe_op op_mul (pe_ix ix_tup (pv 5) pe_int (fun _ _ => rfl))
            (pe_call G2 hr2 rfl Pi.g Pi.k Pi.b .nil pass0 (pa_cons (pv 0) (pa_cons (pe_lst (pa_cons pe_int (pa_cons pe_int (pa_cons (pv 3) pa_nil)))) pa_nil)))) (pa_cons (pe_ix ix_tup (pv 5) pe_int (fun _ _ => rfl)) pa_nil)))))
        (pss_one (ps_dput hu (pv 4) (pv 6) (pe_op op_mul (pe_dget hu (pv 2) (pv 5) (fun _ _ => rfl)) (pe_call G2 hr2 rfl Pi.g Pi.k Pi.b .nil pass0 (pa_cons (pv 0) (pa_cons (pe_lst (pa_cons pe_int (pa_cons (pv 3) pa_nil))) pa_nil)))) rfl)))))
      (pss_one (ps_ret (pv 4))))))))), ?_⟩
    refine ⟨_, rfl, d, c, n, 6, rfl, pen, by decide, by decide, n0, by omega, fun way H1 w0 w1 dr1 => ?_⟩
    refine ⟨_, rfl, rfl, _, rfl, ite2 (fun _ => ?_) (fun _ => ?_)⟩
    · refine ⟨_, rfl, fun p0 np0 => ?_⟩
      have b0 : PD (upd H1 p0 (.dT [])) p0 [] 10 10 := ⟨upd_same, List.nodup_nil, Nat.zero_le _, (fun _ h => nomatch h), (fun _ h => nomatch h), (fun _ h => nomatch h)⟩
      have m0 : More H1 (upd H1 p0 (.dT [])) := new_more np0
      generalize upd H1 p0 (HO.dT []) = J0 at b0 m0 ⊢
      refine fun p1 np1 => ⟨by show 3 ≤ sizeLine; decide, fun t1 nt1 => ?_⟩
      obtain ⟨x1, y1, m1, b1⟩ := disp_one (i := 0) (j := 0) (h := 0) (v := 1) np1 nt1 (by decide) (by decide) (by decide) (by decide)
      refine ⟨x1, [⟨kI [0, 0, 0], t1, .int 1⟩], rfl, by show 1 ≤ 15; decide, y1, by simp, ?_⟩
      generalize upd (upd (upd J0 p1 (.dT [])) t1 (.tup [.int 0, .int 0, .int 0])) p1 (.dT ([(⟨kI [0, 0, 0], t1, .int 1⟩ : Td.It1)].map fun e => (e.k, e.v))) = J1 at b1 m1 ⊢
      refine fun p2 np2 => ⟨by show 3 ≤ sizeLine; decide, fun t2 nt2 => ?_⟩
      obtain ⟨x2, y2, m2, b2⟩ := disp_one (i := 0) (j := 0) (h := 0) (v := -7) np2 nt2 (by decide) (by decide) (by decide) (by decide)
      refine ⟨7, rfl, x2, [⟨kI [0, 0, 0], t2, .int (-7)⟩], rfl, by show 1 ≤ 15; decide, y2, by simp, ?_⟩
      generalize upd (upd (upd J1 p2 (.dT [])) t2 (.tup [.int 0, .int 0, .int 0])) p2 (.dT ([(⟨kI [0, 0, 0], t2, .int (-7)⟩ : Td.It1)].map fun e => (e.k, e.v))) = J2 at b2 m2 ⊢
      refine fun p3 np3 => ⟨1, rfl, by show 3 ≤ sizeLine; decide, fun t3 nt3 => ?_⟩
      obtain ⟨x3, y3, m3, b3⟩ := disp_one (i := -1) (j := 0) (h := 2) (v := 1) np3 nt3 (by decide) (by decide) (by decide) (by decide)
      refine ⟨x3, [⟨kI [-1, 0, 2], t3, .int 1⟩], rfl, by show 1 ≤ 15; decide, y3, by simp, ?_⟩
      generalize upd (upd (upd J2 p3 (.dT [])) t3 (.tup [.int (-1), .int 0, .int 2])) p3 (.dT ([(⟨kI [-1, 0, 2], t3, .int 1⟩ : Td.It1)].map fun e => (e.k, e.v))) = J3 at b3 m3 ⊢
      refine ⟨by show 4 ≤ sizeLine; decide, fun u nu => ?_⟩
      have mA : More H1 J3 := fun b o e => m3 b o (m2 b o (m1 b o (m0 b o e)))
      have penA : Pen J3 d c (n + 1) := by
        obtain ⟨o1, h1⟩ := dr1.pen.at
        obtain ⟨o2, h2⟩ := dr1.pen.atc
        exact dr1.pen.keep ((mA _ _ h1).trans h1.symm) ((mA _ _ h2).trans h2.symm)
      refine ⟨d, c, u, n + 1, [.ref p0, .ref p1, .ref p2, .ref p3], rfl, penA.upd nu, upd_same, by show 0 < 4; decide, by show 4 ≤ 1000; decide, by omega, by omega, fun x H5 hx dr => ?_⟩
      have fin : ∀ (D : Addr) (p : Po), PD J3 D p 10 10 → x = .ref D → Q x H5 := by
        intro D p pd ex
        subst ex
        have nDd : D ≠ d := fun z => by
          obtain ⟨kvs, cs, _, _, _, h1, _⟩ := penA
          have := pd.at_
          rw [z, h1] at this
          cases this
        refine q D p (n + 1 + 1) H5 (by omega) (by omega) dr.pen (fun b o e nb => ?_) (pd.more (by rw [dr.off D nDd, upd_ne (ne_of_none pd.at_ nu)]) (by decide) (by decide))
        have z := mA _ _ ((dr1.off b nb).trans e)
        rw [dr.off b nb, upd_ne (ne_of_none z nu)]
        exact z
      have up1 : ∀ {D p}, PD J0 D p 10 10 → PD J1 D p 10 10 := fun h => h.more ((m1 _ _ h.at_).trans h.at_.symm) (Nat.le_refl _) (Nat.le_refl _)
      have up2 : ∀ {D p}, PD J1 D p 10 10 → PD J2 D p 10 10 := fun h => h.more ((m2 _ _ h.at_).trans h.at_.symm) (Nat.le_refl _) (Nat.le_refl _)
      have up3 : ∀ {D p}, PD J2 D p 10 10 → PD J3 D p 10 10 := fun h => h.more ((m3 _ _ h.at_).trans h.at_.symm) (Nat.le_refl _) (Nat.le_refl _)
      rcases List.mem_cons.mp hx with z | hx
      · exact fin p0 _ (up3 (up2 (up1 b0))) z
      rcases List.mem_cons.mp hx with z | hx
      · exact fin p1 _ (up3 (up2 b1)) z
      rcases List.mem_cons.mp hx with z | hx
      · exact fin p2 _ (up3 b2) z
      rw [List.mem_singleton] at hx
      exact fin p3 _ b3 hx
    · refine ⟨_, rfl, _, rfl, d, c, n + 1, 3, rfl, dr1.pen, by decide, by decide, by omega, by omega, fun l0 H2 l0' l1' dr2 => ⟨1, l0, rfl, rfl, ?_⟩⟩
      refine ⟨_, rfl, by show 4 ≤ sizeLine; decide, fun u nu => ?_⟩
      refine ⟨d, c, u, n + 1 + 1, [.int 1, .int 2, .int 4, .int 9], rfl, dr2.pen.upd nu, upd_same, by show 0 < 4; decide, by show 4 ≤ 1000; decide, by omega, by omega, fun x H3 hx dr3 => ?_⟩
      obtain ⟨r, rfl, r1, r9⟩ : ∃ r : Int, x = .int r ∧ 1 ≤ r ∧ r ≤ 9 := by
        rcases List.mem_cons.mp hx with rfl | hx
        · exact ⟨_, rfl, by decide, by decide⟩
        rcases List.mem_cons.mp hx with rfl | hx
        · exact ⟨_, rfl, by decide, by decide⟩
        rcases List.mem_cons.mp hx with rfl | hx
        · exact ⟨_, rfl, by decide, by decide⟩
        rw [List.mem_singleton] at hx
        exact ⟨_, hx, by decide, by decide⟩
      refine ⟨d, c, n + 1 + 1 + 1, 1 + l0, r, 5, rfl, dr3.pen, by omega, by omega, r1, r9, by decide, by decide, fun D p n2 H4 c1 c2 pn of4 hD0 pd => ?_⟩
      have of : Off d H H4 := (Off.dr dr1).trans ((Off.dr dr2).trans ((Off.of (new_more nu)).trans ((Off.dr dr3).trans of4)))
      refine ⟨_, rfl, _, _, rfl, rfl, _, rfl, ite2 (fun _ => ⟨_, rfl, q D p n2 H4 (by omega) (by omega) pn of (pd.more rfl (by decide) (by decide))⟩) (fun _ => ?_)⟩
      refine ⟨10, 18, rfl, rfl, ⟨by decide, by decide, by decide⟩, _, rfl, 10, 9, rfl, rfl, ⟨by decide, by decide, by decide⟩, d, c, n2, _, rfl, pn, by decide, by decide, by omega, by omega, fun y H5 y0 y1 dr5 => ?_⟩
      refine ⟨_, y, rfl, rfl, ?_⟩
      have hB : ((10 : Int) ^ (18 : Int).toNat + y).natAbs ≤ 2000000000000000000 := by
        have e1 : (10 : Int) ^ (18 : Int).toNat = 1000000000000000000 := by decide
        have e2 : (10 : Int) ^ (9 : Int).toNat = 1000000000 := by decide
        rw [e2] at y1
        rw [e1]
        omega
      obtain ⟨Bg, eB⟩ : ∃ Bg : Int, Bg = (10 : Int) ^ (18 : Int).toNat + y := ⟨_, rfl⟩
      rw [← eB] at hB
      intro F0 hF
      have ndD : d ≠ D := by
        obtain ⟨kvs, cs, _, _, _, h1, _⟩ := pn
        exact ne_of h1 pd.at_ (by intro z; cases z)
      have ncD : c ≠ D := by
        obtain ⟨kvs, cs, _, _, _, _, h1, _⟩ := pn
        exact ne_of h1 pd.at_ (by intro z; cases z)
      have D5 : H5 D = some (.dT (dk p)) := (dr5.off D ndD.symm).trans pd.at_
      have nFD : F0 ≠ D := fun z => by rw [z, D5] at hF; cases hF
      have nFd : F0 ≠ d := fun z => by obtain ⟨o, ho⟩ := dr5.pen.at; rw [z, ho] at hF; cases hF
      have nFc : F0 ≠ c := fun z => by obtain ⟨o, ho⟩ := dr5.pen.atc; rw [z, ho] at hF; cases hF
      refine ⟨fun σ' H' => ∃ z5 z6 p2 n', σ' = [some (.ref d), some (.int way), some (.ref D), some (.int Bg), some (.ref F0), z5, z6] ∧ PD H' F0 p2 big20 big20 ∧ Pen H' d c n' ∧ n2 ≤ n' ∧ n' ≤ n2 + 1 + 10 ∧ Off d H4 H', ?_, ?_⟩
      · refine ⟨D, .dT (dk p), by rw [upd_ne nFD.symm]; exact D5, trivial, fun od => ⟨_, rfl, D, od, rfl, .inr ⟨_, upd_same, for_it (walk_keysT (kvs := dk p)) (fun i σ' H' => ∃ z5 z6 p2 n', σ' = [some (.ref d), some (.int way), some (.ref D), some (.int Bg), some (.ref F0), z5, z6] ∧
            H' F0 = some (.dT (dk p2)) ∧ (ks p2).Nodup ∧ p2.length ≤ i ∧ (∀ e ∈ p2, e.1.length = 3) ∧ (∀ e ∈ p2, ∀ i ∈ e.1, i.natAbs ≤ big20) ∧ (∀ e ∈ p2, e.2.natAbs ≤ big20) ∧ H' D = some (.frz od (.dT (dk p))) ∧ Pen H' d c n' ∧ n2 ≤ n' ∧ n' ≤ n2 + 1 + 2 * (i : Int) ∧
            (∀ b o, H4 b = some o → b ≠ d → b ≠ D → H' b = some o)) ⟨none, none, [], n2 + 1, (by rw [eB]; rfl), by rw [upd_ne nFD, upd_same]; rfl, List.nodup_nil, Nat.le_refl _, (fun _ h => nomatch h), (fun _ h => nomatch h), (fun _ h => nomatch h), upd_same, (dr5.pen.upd hF).keep (upd_ne ndD) (upd_ne ncD), by omega, by omega, ?_⟩ ?_ ?_ ?_⟩⟩⟩
        · intro b o e nb nD
          have z := (dr5.off b nb).trans e
          rw [upd_ne nD, upd_ne (ne_of_none z hF)]
          exact z
        · exact fun i σ' H' _ ⟨_, _, _, _, _, _, _, _, _, _, _, h, _⟩ => h
        · rintro i x σ2 J3 J4 hi ⟨z5, z6, p2, n3, rfl, e1, e2, e3, e4, e5, e6, e7, pn3, b1, b2, of3⟩ ⟨rfl, k, v, b, hk, rfl, hb⟩
          obtain ⟨e, he, rfl, rfl⟩ : ∃ e, p[i]? = some e ∧ k = kI e.1 ∧ v = .int e.2 := by
            unfold dk at hk
            rw [List.getElem?_map] at hk
            cases z : p[i]? with
            | none => rw [z] at hk; cases hk
            | some e =>
              rw [z] at hk
              cases hk
              exact ⟨e, rfl, rfl, rfl⟩
          have hi : i < p.length := (List.getElem?_eq_some_iff.mp he).1
          have fewp := pd.few
          have mem : e ∈ p := List.mem_of_getElem? he
          have l3 := pd.three e mem
          have ex := pd.exp e mem
          have nm := pd.num e mem
          have vat := val_at pd.nd mem
          have kin : e.1 ∈ ks p := List.mem_map.mpr ⟨e, mem, rfl⟩
          obtain ⟨k3, v3⟩ := e
          match k3, l3 with
          | [x0, x1, x2], _ =>
          rw [kI_V] at hb
          have hb : J4 b = some (.tup [.int x0, .int x1, .int x2]) := hb
          have dg : ∀ J5, J5 D = some (.frz od (.dT (dk p))) → J5 b = some (.tup [.int x0, .int x1, .int x2]) → DGet J5 D (.ref b) (some (.int v3)) := fun J5 h1 h2 =>
            .inr ⟨dk p, kI [x0, x1, x2], b, .inr ⟨od, h1⟩, rfl, h2, by rw [valS kin, vat]⟩
          have hx1 : x1.natAbs ≤ 9 := ex x1 (by simp)
          have hx0 : x0.natAbs ≤ 9 := ex x0 (by simp)
          have hx2 : x2.natAbs ≤ 9 := ex x2 (by simp)
          have nm : v3.natAbs ≤ 100 := nm
          have nbd : b ≠ d := fun z => by
            obtain ⟨kvs, cs, _, _, _, h1, _⟩ := pn3
            rw [← z, hb] at h1
            cases h1
          refine ⟨_, rfl, b, _, 0, _, rfl, rfl, SqT.of hb, at_of (j := 0) rfl rfl, _, rfl, b, _, 1, _, rfl, rfl, SqT.of hb, at_of (j := 1) rfl rfl, _, rfl, _, rfl, by show 3 ≤ sizeLine; decide, fun u1 nu1 => ?_⟩
          refine ⟨d, c, u1, n3, [.int 1, .int 1, .int Bg], rfl, pn3.upd nu1, upd_same, by show 0 < 3; decide, by show 3 ≤ 1000; decide, by omega, by omega, fun y J5 hy dr6 => ?_⟩
          obtain ⟨g, rfl, hg⟩ : ∃ g : Int, y = .int g ∧ g.natAbs ≤ 2000000000000000000 := by
            rcases List.mem_cons.mp hy with rfl | hy
            · exact ⟨_, rfl, by decide⟩
            rcases List.mem_cons.mp hy with rfl | hy
            · exact ⟨_, rfl, by decide⟩
            rw [List.mem_singleton] at hy
            exact ⟨_, hy, hB⟩
          have off5 : ∀ c o, c ≠ d → J4 c = some o → J5 c = some o := fun c o nc h => by
            rw [dr6.off c nc, upd_ne (ne_of_none h nu1)]
            exact h
          have b5 := off5 _ _ nbd hb
          refine ⟨_, _, rfl, rfl, .inl ⟨by omega, by omega⟩, _, rfl, b, _, 2, _, rfl, rfl, SqT.of b5, at_of (j := 2) rfl rfl, by show 3 ≤ sizeLine; decide, fun t nt => ?_⟩
          have t5 : (upd J5 t (.tup [.int x0, .int (x1 * g), .int x2])) t = some (.tup [.int x0, .int (x1 * g), .int x2]) := upd_same
          have off6 : ∀ c o, c ≠ d → J4 c = some o → (upd J5 t (.tup [.int x0, .int (x1 * g), .int x2])) c = some o := fun c o nc h => by
            have z := off5 c o nc h
            rw [upd_ne (ne_of_none z nt)]
            exact z
          have pen6 := dr6.pen.upd (o := .tup [.int x0, .int (x1 * g), .int x2]) nt
          generalize upd J5 t (HO.tup [.int x0, .int (x1 * g), .int x2]) = J6 at t5 off6 pen6 ⊢
          refine ⟨_, rfl, _, rfl, D, _, rfl, dg J6 (off6 _ _ ndD.symm e7) (off6 _ _ nbd hb), _, rfl, _, rfl, by show 2 ≤ sizeLine; decide, fun u2 nu2 => ?_⟩
          refine ⟨d, c, u2, n3 + 1, [.int 1, .int Bg], rfl, pen6.upd nu2, upd_same, by show 0 < 2; decide, by show 2 ≤ 1000; decide, by omega, by omega, fun y J7 hy dr7 => ?_⟩
          obtain ⟨g2, rfl, hg2⟩ : ∃ g : Int, y = .int g ∧ g.natAbs ≤ 2000000000000000000 := by
            rcases List.mem_cons.mp hy with rfl | hy
            · exact ⟨_, rfl, by decide⟩
            rw [List.mem_singleton] at hy
            exact ⟨_, hy, hB⟩
          have off7 : ∀ c o, c ≠ d → J6 c = some o → J7 c = some o := fun c o nc h => by
            rw [dr7.off c nc, upd_ne (ne_of_none h nu2)]
            exact h
          have td : t ≠ d := fun z => by
            obtain ⟨kvs, cs, _, _, _, h1, _⟩ := pen6
            rw [← z, t5] at h1
            cases h1
          have F7 := off7 _ _ nFd (off6 _ _ nFd e1)
          have key : J7 t = some (.tup ((kI [x0, x1 * g, x2]).map kV)) := off7 _ _ td t5
          refine ⟨_, _, rfl, rfl, .inl ⟨by omega, by omega⟩, _, rfl, _, rfl, F0, _, rfl, DPut.t F7 key (by rw [dk_len]; exact small1000 (by omega)), ?_⟩
          rw [putK_dk]
          have mg : (x1 * g).natAbs ≤ big20 := by
            rw [Int.natAbs_mul]
            exact Nat.le_trans (Nat.mul_le_mul hx1 hg) (by decide)
          have mg2 : (v3 * g2).natAbs ≤ big20 := by
            rw [Int.natAbs_mul]
            exact Nat.le_trans (Nat.mul_le_mul nm hg2) (by decide)
          refine ⟨_, _, _, n3 + 1 + 1, rfl, upd_same, nodup_put e2 _ _, Nat.le_trans (len_put _ _ _) (by omega), fun e' he' => ?_, fun e' he' => ?_, fun e' he' => ?_, by rw [upd_ne nFD.symm]; exact off7 _ _ ndD.symm (off6 _ _ ndD.symm e7), dr7.pen.keep (upd_ne nFd.symm) (upd_ne nFc.symm), by omega, by omega, fun b' o eb nb nD => ?_⟩
          · rcases mem_put he' with rfl | he'
            · rfl
            · exact e4 e' he'
          · rcases mem_put he' with rfl | he'
            · intro i hi
              have hi : i ∈ [x0, x1 * g, x2] := hi
              simp only [List.mem_cons, List.not_mem_nil, or_false] at hi
              obtain rfl | rfl | rfl := hi
              · exact Nat.le_trans hx0 (by decide)
              · exact mg
              · exact Nat.le_trans hx2 (by decide)
            · exact e5 e' he'
          · rcases mem_put he' with rfl | he'
            · exact mg2
            · exact e6 e' he'
          · have z := (dr5.off b' nb).trans eb
            rw [upd_ne (ne_of_none z hF)]
            exact off7 _ _ nb (off6 _ _ nb (of3 b' o eb nb nD))
        · rintro σ2 J3 ⟨z5, z6, p2, n3, rfl, e1, e2, e3, e4, e5, e6, e7, pn3, b1, b2, of3⟩
          rw [dk_len] at e3 b2
          have fewp := pd.few
          refine ⟨e7, z5, z6, p2, n3, rfl, ⟨by rw [upd_ne nFD]; exact e1, e2, by omega, e4, e5, e6⟩, pn3.keep (upd_ne ndD) (upd_ne ncD), b1, by omega, fun b o h nb => ?_⟩
          by_cases z : b = D
          · subst z
            rw [upd_same, ← pd.at_]
            exact h
          · rw [upd_ne z]
            exact of3 b o h nb z
      · rintro σ2 J3 ⟨z5, z6, p2, n3, rfl, pd2, pn3, b1, b2, of3⟩
        exact ⟨_, rfl, q F0 p2 n3 J3 (by omega) (by omega) pn3 (of.trans of3) pd2⟩
end
end K09

namespace K09
open PySem L2 Gd Ply
/-! ### one and the same object -/
def DId : Eqv := fun x y _ => ∃ a, x = .ref a ∧ y = .ref a
theorem mon_id : Mon DId := fun _ _ _ _ _ d => d
theorem eqG_id {X : Cx} : EqG X 0 DId := by
  intro A pins s σ H x y u v sb I rx ry d
  obtain ⟨a, rfl, rfl⟩ := d
  cases rx
  cases ry
  unfold eqBool
  refine wpAny_holding ?_
  rw [if_pos (by simp)]
  refine wpAny_bind (wpAny_rule (wpAny_pure ?_))
  exact ⟨rfl, H, I, Ext.rfl'⟩
/-! ### what is refused -/
def ERef (CR : Addr) (Q : VK) : XK := fun cls d H => cls = .ref CR ∧ ∃ (dd : Addr) (x : V), d = some dd ∧ H dd = some (.xd [("row", x)]) ∧ ∀ l, H l = none → Q (.ref l) (upd H l (.lst [x]))
def TRef (CR : Addr) : (XK → Hp → VK → Prop) → Hp → VK → Prop := fun tl H Q => tl (ERef CR Q) H fun _ H' => ([] : List V).length ≤ sizeLine ∧ ∀ l, H' l = none → Q (.ref l) (upd H' l (.lst []))
abbrev sRef : Stmt := top 39
theorem scRef : FnScope ["_law_call", "e"] ["_law_call"] (defScope sRef) := ⟨rfl, rfl, rfl, by decide +kernel, rfl, by decide +kernel, by decide +kernel⟩
open LamX in
theorem ref_gives {X : Cx} {k : Nat} {g : Addr} {cdg : Value} {q : Str} {CR : Addr} (hr : Room (k + 2) X.A) (rr : PySem.W.exmOne X.K (.ref CR) (.ref CR) = some true) (xr : XfC X.K CR)
    (gR : X.mg "BadRow" = some (.ref CR)) (nR : PySem.W.findIn X.K (.ref CR) "row" = some none) :
    GivesTo X ["_law_call", "e"] "_law_refused" (defScope sRef) g cdg (defBody sRef) "_law_call" q (TRef CR) := by
  intro f c' s H Q tl act hc h
  refine ⟨_, pss_cons (ps_tryAll (X := (cxOf C8.CX0 X.prog X.w X.K X.mg X.base ["_law_call", "e"] "_law_refused" (defScope sRef) g cdg X.A X.stack s H C8.E0).nox) (n := "e") (i := 1)
      (tb := fun W D σ H => ∃ Ech : XK, (∀ cls d σ' H', Ech cls d H' → W cls d σ' H') ∧ σ[0]? = some (some (.ref f)) ∧ H c' = some (CodeO c' q) ∧ tl Ech H (fun _ H' => D.nx σ H'))
      rfl rfl scRef.nd rfl rfl LamX.takes0 (fun W pn xe tk _ => ?_)
      (.cons (c := .ref CR) ⟨rfl, by decide, .inl gR⟩ (fun a oe cls d pn hz hf => pss_one (ps_ret (pe_lst (pa_cons (pe_xf xr nR hz hf (pv 1)) pa_nil)))) .nil))
    (pss_one (ps_ret (pe_lst pa_nil))), ?_⟩
  · refine ⟨fun pins s' σ H' D I h' => ?_⟩
    obtain ⟨Ech, hW, h1, h2, h3⟩ := h'
    exact (pss_one (ps_expr (act W pn xe Ech _ _ tk hW))).run pins s' σ H' D I ⟨h1, h2, h3⟩
  · refine ⟨ERef CR Q, fun cls d σ' H' e => ?_, rfl, hc, ?_⟩
    · obtain ⟨rfl, dd, x, rfl, hd, q1⟩ := e
      refine ⟨true, rr, fun _ hl a na => ?_, fun z => nomatch z⟩
      have at1 : (σ'.set 1 (some (V.ref a)))[1]? = some (some (V.ref a)) := List.getElem?_set_self (by rw [hl]; show 1 < 2; decide)
      exact ⟨_, at1, rfl, rfl, dd, _, _, rfl, hd, rfl, by show 1 ≤ sizeLine; decide, fun t ht => q1 t ht⟩
    · exact h
/-! ### equal to the right ones alone -/
theorem tot_canon {f : List Int → Int} {l : Po} (h : Canon f l) (k : List Int) : tot l k = f k := by
  obtain ⟨q, fm, rfl⟩ := h
  have nd : (ks (q.map fun k => (k, f k))).Nodup := by
    unfold ks
    rw [List.map_map]
    show (q.map fun k => k).Nodup
    rw [List.map_id']
    exact fm.nd
  rw [tot_val nd]
  unfold val
  by_cases z : k ∈ q
  · have := look_at nd (e := (k, f k)) (List.mem_map.mpr ⟨k, z, rfl⟩)
    rw [this]
    rfl
  · have zz : f k = 0 := by
      by_cases e : f k = 0
      · exact e
      · exact absurd ((fm.all k).mpr e) z
    rw [zz]
    cases e : look (q.map fun k => (k, f k)) k with
    | none => rfl
    | some v =>
      have := look_mem e
      obtain ⟨k', hk, e'⟩ := List.mem_map.mp this
      cases e'
      exact absurd hk z
theorem canon_three {p l : Po} (h : Canon (val p) l) (t : ∀ e ∈ p, e.1.length = 3) : ∀ e ∈ l, e.1.length = 3 := by
  obtain ⟨q, fm, rfl⟩ := h
  intro e he
  obtain ⟨k, hk, rfl⟩ := List.mem_map.mp he
  have := val_off ((fm.all k).mp hk)
  obtain ⟨e, he, z⟩ := List.mem_map.mp this
  rw [← z]
  exact t e he
theorem nodup_len {α : Type} [DecidableEq α] : ∀ (a b : List α), a.Nodup → (∀ x ∈ a, x ∈ b) → a.length ≤ b.length
  | [], b, _, _ => Nat.zero_le _
  | x :: a, b, nd, h => by
    rw [List.nodup_cons] at nd
    have hx := h x (.head _)
    have := nodup_len a (b.erase x) nd.2 fun y hy => (List.mem_erase_of_ne (fun e => by rw [e] at hy; exact nd.1 hy)).mpr (h y (.tail _ hy))
    rw [List.length_erase_of_mem hx] at this
    have pos : 0 < b.length := List.length_pos_of_mem hx
    rw [List.length_cons]
    omega
theorem canon_few {p l : Po} (h : Canon (val p) l) (nd : (ks p).Nodup) : l.length ≤ p.length := by
  obtain ⟨q, fm, rfl⟩ := h
  rw [List.length_map]
  have := nodup_len q (ks p) fm.nd fun k hk => val_off ((fm.all k).mp hk)
  unfold ks at this
  rw [List.length_map] at this
  exact this
/-- the items of a tuple of terms are right terms -/
theorem terms_ok {K : PySem.W.Frag} {H : Hp} {L : List It3} (h : ∀ e ∈ L, H e.p = some (.tup [.ref e.b, .int e.n]) ∧ H e.b = some (.tup (e.k.map V.int))) (t : ∀ e ∈ L, e.k.length = 3) :
    Paired (fun x (e : List Int × Int) => Trm K H x e.1 e.2) (L.map fun e => V.ref e.p) (L.map fun e => (e.k, e.n)) := by
  induction L with
  | nil => exact .nil
  | cons e L ih =>
    obtain ⟨h1, h2⟩ := h e (.head _)
    exact .cons ⟨e.p, e.b, rfl, .inr (SqT.of h1), .inr h2, t e (.head _)⟩ (ih (fun x hx => h x (.tail _ hx)) fun x hx => t x (.tail _ hx))
def spRight (C : Addr) : Sp := fun vs H Q _ => ∃ (d c a D : Addr) (n : Int) (p : Po) (f : List Int → Int), vs = [.ref d, .ref a, .ref D] ∧ Pen H d c n ∧ 0 ≤ n ∧ n < 600000000 ∧ PX H D p ∧ Pob H C a f ∧ (∀ k, f k = val p k) ∧
  ∀ (n' : Int) (H' : Hp), n ≤ n' → n' ≤ n + 400 → Pen H' d c n' → Off d H H' → Q (.bl true) H'
end K09

namespace K09
open PySem L2 Gd Ply
theorem Off.at {d : Addr} {H H' : Hp} (of : Off d H H') (hd : ∃ kvs, H d = some (.dK kvs)) {b : Addr} {o : HO} (h : H b = some o) (nk : ∀ kvs, o ≠ .dK kvs) : H' b = some o :=
  of b o h fun z => by
    obtain ⟨kvs, hk⟩ := hd
    rw [z, hk] at h
    exact nk kvs (Option.some.inj h).symm
theorem Pen.dk {H : Hp} {d c : Addr} {n : Int} (h : Pen H d c n) : ∃ kvs, H d = some (.dK kvs) := let ⟨kvs, _, _, _, _, h1, _⟩ := h; ⟨kvs, h1⟩
theorem TAt.off {d : Addr} {H H' : Hp} (of : Off d H H') (hd : ∃ kvs, H d = some (.dK kvs)) {t : Addr} {l : Po} (h : TAt H t l) : TAt H' t l :=
  let ⟨L, a, b, c⟩ := h
  ⟨L, of.at hd a (fun _ z => nomatch z), fun e he => ⟨of.at hd (b e he).1 (fun _ z => nomatch z), of.at hd (b e he).2 (fun _ z => nomatch z)⟩, c⟩
theorem Pob.off {d : Addr} {H H' : Hp} (of : Off d H H') (hd : ∃ kvs, H d = some (.dK kvs)) {C a : Addr} {f : List Int → Int} (h : Pob H C a f) : Pob H' C a f :=
  let ⟨dx, t, r, d, fs, l, p, m0, m1, m2, h1, h2, h3, h4, h5, h6, h7, h8, h9, h10⟩ := h.ex
  ⟨dx, t, r, d, fs, l, p, m0, m1, m2, of.at hd h1 (fun _ z => nomatch z), h2, h3, h4, h5.off of hd, h6, of.at hd h7 (fun _ z => nomatch z), h8, of.at hd h9 (fun _ z => nomatch z), h10⟩
theorem PX.off {d : Addr} {H H' : Hp} (of : Off d H H') (hd : ∃ kvs, H d = some (.dK kvs)) {D : Addr} {p : Po} (h : PX H D p) : PX H' D p :=
  ⟨of.at hd h.at_ (fun _ z => nomatch z), h.nd, h.few, h.three⟩
theorem sb_ok (b : Bool) : (PyData.bool b).showable = true ∧ (PyData.bool b).depth ≤ 60 ∧ (PyData.bool b).shown.length ≤ sizeLine := by
  cases b <;> exact ⟨by decide +kernel, by decide +kernel, by decide +kernel⟩
theorem Pob.ins {H : Hp} {C a : Addr} {f : List Int → Int} (h : Pob H C a f) : ∃ dx fs, H a = some (.ins C dx fs) := let ⟨dx, _, _, _, fs, _, _, _, _, _, h1, _⟩ := h.ex; ⟨dx, fs, h1⟩
/-- what == asks of the class -/
structure PwE (K : PySem.W.Frag) (C fE : Addr) : Prop where
  eq : PySem.W.findIn K (.ref C) "__eq__" = some (some (.ref fE))
  fn : PySem.W.isFn K (.ref fE) = true
  nf : ∀ n ∈ (["int", "NoneType", "tuple", "str", "list", "bool"] : List String), PySem.W.notFirst K C (.type n) = true
theorem PwE.own {K : PySem.W.Frag} {C fE : Addr} : PySem.W.notFirst K C (.ref C) = true := by simp [PySem.W.notFirst]
section
variable {P : Program} {w : World} {K : PySem.W.Frag} {mg : Str → Option Value} {base : Heap}
variable {g2 g1 g3 g4 gT gI gi gs gr gt gb gE gC f C CR N0 : Addr} {d2 d1 d3 d4 dT' dI' di ds dr' dt db dE' dC fd : FuncData}
abbrev sRight : Stmt := top 40
abbrev NRi : List Str := ["_law_pen_here", "_law_told", "_law_poly_here", "_law_terms_here", "_law_number", "_law_due", "_law_other", "_law_value"]
theorem scRight : FnScope NRi ["_law_pen_here", "_law_told", "_law_poly_here"] (defScope sRight) := ⟨rfl, rfl, rfl, by decide +kernel, rfl, by decide +kernel, by decide +kernel⟩
theorem ok_right (F : Fun K "_law_equals_right" "_law_equals_right" sRight f fd) (B : Blt mg) (B2 : Blt2 mg) (W : PwC K mg C) (We : PwE K C gE) (M : Mk K C gI) (FI : Fun K "__init__" "Powers.__init__" sPw gI dI') (bI : Binds K dI' ["self", "terms"] [])
    (FE : Fun K "__eq__" "Powers.__eq__" sEq gE dE') (bE : Binds K dE' ["self", "other"] []) (Ct : Cl K mg "constant_terms" sCt ["number"] gC dC) (gN : mg "NO_LETTER" = some (.ref N0)) (tN : tupI K (.ref N0) = some [0, 0, 0])
    (Dr : Cl K mg "_law_draw" sDraw ["_law_pen_here", "_law_many"] g1 d1) (Pi : Cl K mg "_law_pick" sPick ["_law_pen_here", "_law_some"] g2 d2) (Po' : Cl K mg "_law_poly" sPoly ["_law_pen_here", "_law_letters", "_law_reach", "_law_many"] g3 d3)
    (So : Cl K mg "_law_some_poly" sSome ["_law_pen_here"] g4 d4) (Te : Cl K mg "_law_terms" sTerms ["_law_poly_here"] gT dT')
    (I : Cl K mg "is_integer" sIsI ["value"] gi di) (S : Cl K mg "is_integers" sIsIs ["value"] gs ds) (R : Cl K mg "is_row" sRow ["value", "width"] gr dr') (T : Cl K mg "is_term" sTerm ["item"] gt dt)
    (Br : Er K mg "BadRow" "BadRow.__init__" CR gb ["row"] sBadRow db) :
    FnG P w K mg base CX0 8 f fd ["_law_pen_here", "_law_told", "_law_poly_here"] (spRight C) := by
  have G2 : FnOk P w K mg base CX0 2 g2 d2 ["_law_pen_here", "_law_some"] (spPick K) := ok_pick Pi.fn Dr.fn Dr.b Dr.g B.int_ B.len_
  have G4 : FnOk P w K mg base CX0 4 g4 d4 ["_law_pen_here"] spSome := ok_some So.fn B B2 Dr Pi Po'
  have GT : FnOk P w K mg base CX0 1 gT dT' ["_law_poly_here"] spTerms := ok_terms Te.fn B B2
  have GI : FnOk P w K mg base (L2.CX P w) 6 gI dI' ["self", "terms"] (spInit K C CR) := ok_init FI B B2 W.ic.cl W.n1 W.n2 W.n3 I S R T Br
  have GE : FnOk P w K mg base CX0 2 gE dE' ["self", "other"] (spEq K C) := ok_eq FE B W I Ct gN tN
  refine okG F scRight (fun vs H Q E h => ?_) (fun cdv A outer s H vs Q E hgd hr h => ?_)
  · obtain ⟨d, c, a, D, n, p, f, rfl, _⟩ := h
    rfl
  · obtain ⟨d, c, a, D, n, p, f, rfl, pen, n0, n1, px, pa, ef, q⟩ := h
    have hu := hu_of hr
    have hu64 := hr.units
    have hr1 : Room 1 _ := hr.mono (by decide)
    have hr2 : Room 2 _ := hr.mono (by decide)
    have hr4 : Room 4 _ := hr.mono (by decide)
    refine ⟨_, pss_cons (ps_set (i := 3) scRight.nd rfl (Or.inl rfl) (pe_call GT hr1 rfl Te.g Te.k Te.b .nil pass0 (pa_cons (pv 2) pa_nil)))
      (pss_cons (ps_set (i := 4) scRight.nd rfl (Or.inl rfl) (pe_call G2 hr2 rfl Pi.g Pi.k Pi.b .nil pass0 (pa_cons (pv 0) (pa_cons (pe_lst (pa_cons pe_int (pa_cons pe_int (pa_cons (pe_un un_neg pe_int)
          (pa_cons (pe_dget2 hu (pv 2) (pe_tup (pa_cons pe_int (pa_cons pe_int (pa_cons pe_int pa_nil)))) pe_int ⟨rfl, rfl, rfl, rfl⟩) pa_nil))))) pa_nil))))
      (Evl.pss_cut (ps_set (i := 5) scRight.nd rfl (Or.inl rfl) (pe_cmpR (op_eqD hu64) (pv 3) (pe_ifExp (pt_cmpR op_ne (pv 4) pe_int (nomark _))
          (pe_tup (pa_cons (pe_tup (pa_cons (pe_tup (pa_cons pe_int (pa_cons pe_int (pa_cons pe_int pa_nil)))) (pa_cons (pv 4) pa_nil))) pa_nil)) (pe_tup pa_nil)) (nomark _)))
      (pss_cons (ps_set (i := 6) scRight.nd rfl (Or.inl rfl) (pe_call G4 hr4 rfl So.g So.k So.b .nil pass0 (pa_cons (pv 0) pa_nil)))
      (Evl.pss_cut (ps_if (PW.pt (pw_or (pt_cmpR op_ne (pe_callB (call_reprQ hgd hu64) (by rfl) B.repr_ (by decide +kernel) (pa_cons (pe_cmpR (op_eqOwn We.eq We.fn GE bE hr2 pass0) (pv 1) (pv 4) (nomark _)) pa_nil))
            (pe_callB (call_reprQ hgd hu64) (by rfl) B.repr_ (by decide +kernel) (pa_cons (pv 5) pa_nil)) (nomark _))
          (pw_or1 (pt_cmpR op_notBl (pe_cmpR (op_eqOwn We.eq We.fn GE bE hr2 pass0) (pv 1) (pe_make M GI hr rfl W.g bI .nil (passes_call LamX.takes0 (fun _ _ _ _ h => h)) (pa_cons (pe_callTy call_list_of (by rfl) B.list_ (by decide +kernel) (pa_cons (pv 3) pa_nil)) pa_nil)) (nomark _)) pe_bl (nomark _)))))
        (pss_one (ps_ret pe_bl)) pss_nil)
      (Evl.pss_cut (ps_if (pt_cmpR op_ne (pe_callB (call_reprQ hgd hu64) (by rfl) B.repr_ (by decide +kernel) (pa_cons (pe_cmpR (op_eqOwn We.eq We.fn GE bE hr2 pass0) (pv 1)
            (pe_make M GI hr rfl W.g bI .nil (passes_call LamX.takes0 (fun _ _ _ _ h => h)) (pa_cons (pe_callTy call_list_of (by rfl) B.list_ (by decide +kernel) (pa_cons (pe_call GT hr1 rfl Te.g Te.k Te.b .nil pass0 (pa_cons (pv 6) pa_nil)) pa_nil)) pa_nil)) (nomark _)) pa_nil))
            (pe_callB (call_reprQ hgd hu64) (by rfl) B.repr_ (by decide +kernel) (pa_cons (pe_cmpR (op_eqD hu64) (pv 3) (pe_call GT hr1 rfl Te.g Te.k Te.b .nil pass0 (pa_cons (pv 6) pa_nil)) (nomark _)) pa_nil)) (nomark _))
        (pss_one (ps_ret pe_bl)) pss_nil)
      (pss_one (ps_ret (pe_cmpR (op_eqD hu64) (pe_lc (own := [("_law_value", 7)]) (g := gName 7) (tt := tYes) rfl scRight.nd (pi_list (pe_lst (pa_cons pe_non (pa_cons (pv 3) (pa_cons pe_str (pa_cons (pe_lst (pa_cons pe_int pa_nil)) (pa_cons pe_bl (pa_cons pe_bl pa_nil))))))))
          (blkOk_by (N := NRi) (sc := defScope sRight) (by decide +kernel)) (fun _ _ _ _ _ => pg_name (i := 7) scRight.nd rfl (Or.inl rfl)) (fun _ _ _ _ _ => pts_nil)
          (fun _ _ _ _ _ => pe_cmpR (r := rOwnE K C (spEq K C) E0) (op_eqOwn We.eq We.fn GE bE hr2 pass0) (pv 1) (pv 7) (nomark _)))
        (pe_op op_rep (pe_lst (pa_cons pe_bl pa_nil)) pe_int) (nomark _))))))))), ?_⟩
    have ef' : f = val p := funext ef
    subst ef'
    refine ⟨_, rfl, D, p, rfl, px, fun t1 l1 H1 c1 a1 m1 => ?_⟩
    have pen1 : Pen H1 d c n := by
      obtain ⟨o1, g1⟩ := pen.at
      obtain ⟨o2, g2⟩ := pen.atc
      exact pen.keep ((m1 _ _ g1).trans g1.symm) ((m1 _ _ g2).trans g2.symm)
    have D1 := m1 _ _ px.at_
    refine ⟨_, rfl, 7, rfl, _, rfl, D, rfl, .inr ⟨_, .inl D1⟩, by show 3 ≤ sizeLine; decide, fun kt nkt => ?_⟩
    refine ⟨_, DGet.t (k := kI [0, 0, 0]) (by rw [upd_ne (ne_of_none D1 nkt)]; exact D1) upd_same, by show 4 ≤ sizeLine; decide, fun u nu => ?_⟩
    refine ⟨d, c, u, n, _, rfl, (pen1.upd nkt).upd nu, upd_same, by show 0 < 4; decide, by show 4 ≤ 1000; decide, n0, by omega, fun x H2 hx dr => ?_⟩
    obtain ⟨num, rfl⟩ : ∃ num : Int, x = .int num := by
      rw [valD] at hx
      rcases List.mem_cons.mp hx with rfl | hx
      · exact ⟨_, rfl⟩
      rcases List.mem_cons.mp hx with rfl | hx
      · exact ⟨_, rfl⟩
      rcases List.mem_cons.mp hx with rfl | hx
      · exact ⟨_, rfl⟩
      rw [List.mem_singleton] at hx
      exact ⟨_, hx⟩
    have of2 : Off d H H2 := (Off.of m1).trans ((Off.of ((new_more nkt).new nu)).trans (Off.dr dr))
    have a2 : TAt H2 t1 l1 := (a1.more ((new_more nkt).new nu)).off (Off.dr dr) (((pen1.upd nkt).upd nu).dk)
    -- the due answer
    refine ⟨fun σ' H' => σ' = [some (.ref d), some (.ref a), some (.ref D), some (.ref t1), some (.int num), some (.bl (same l1 (cst num))), none, none] ∧ TAt H' t1 l1 ∧ Pen H' d c (n + 1) ∧ Off d H H', ?_, ?_⟩
    · refine ⟨_, rfl, _, rfl, rfl, _, rfl, ?_⟩
      rw [show (!decide (V.int num = V.int 0)) = decide (num ≠ 0) by rw [deI]; by_cases z : num = 0 <;> simp [z]]
      refine ite2 (fun z => ?_) (fun z => ?_)
      · have z := of_decide_eq_true z
        refine ⟨by show 3 ≤ sizeLine; decide, fun k1 nk1 => ⟨_, rfl, by show 2 ≤ sizeLine; decide, fun k2 nk2 => ⟨by show 1 ≤ sizeLine; decide, fun k3 nk3 => ?_⟩⟩⟩
        have mo : More H2 (upd (upd (upd H2 k1 (.tup [.int 0, .int 0, .int 0])) k2 (.tup [.ref k1, .int num])) k3 (.tup [.ref k2])) := ((new_more nk1).new nk2).new nk3
        refine ⟨dT l1, dT (cst num), dp_T (a2.more mo), ?_, shaped_T _, shaped_T _, rfl, a2.more mo, ((dr.pen.upd nk1).upd nk2).upd nk3, of2.trans (Off.of mo)⟩
        unfold cst
        rw [if_neg z]
        have e2 : (upd (upd H2 k1 (.tup [.int 0, .int 0, .int 0])) k2 (.tup [.ref k1, .int num])) k1 = some (.tup [.int 0, .int 0, .int 0]) := by rw [upd_ne (ne_of_none upd_same nk2)]; exact upd_same
        exact .tup (SqT.of upd_same) (.cons (.tup (SqT.of (by rw [upd_ne (ne_of_none upd_same nk3)]; exact upd_same)) (.cons (.tup (SqT.of (by rw [upd_ne (ne_of_none e2 nk3)]; exact e2)) (dp_ints [0, 0, 0])) (.cons (.int _) .nil))) .nil)
      · have z : num = 0 := by
          by_cases e : num = 0
          · exact e
          · exact absurd (decide_eq_true e) z
        refine ⟨by show 0 ≤ sizeLine; decide, fun k3 nk3 => ?_⟩
        refine ⟨dT l1, dT (cst num), dp_T (a2.more (new_more nk3)), ?_, shaped_T _, shaped_T _, rfl, a2.more (new_more nk3), dr.pen.upd nk3, of2.trans (Off.of (new_more nk3))⟩
        unfold cst
        rw [if_pos z]
        exact .tup (SqT.of upd_same) .nil
    · rintro σ3 H3 ⟨rfl, a3, pen3, of3⟩
      refine ⟨_, rfl, d, c, n + 1, rfl, pen3, by omega, by omega, fun Do po n4 H4 b1 b2 pen4 of4' pdo => ?_⟩
      have a4 := a3.off of4' pen3.dk
      have of4 := of3.trans of4'
      have pa4 := pa.off of4 pen.dk
      have px4 := px.off of4 pen.dk
      have pxo := pdo.px
      obtain ⟨dx4, fs4, ha4⟩ := pa4.ins
      refine ⟨fun σ' H' => σ' = [some (.ref d), some (.ref a), some (.ref D), some (.ref t1), some (.int num), some (.bl (same l1 (cst num))), some (.ref Do), none] ∧ More H4 H', ?_, ?_⟩
      · refine ⟨_, rfl, _, rfl, a, dx4, fs4, .type "int", rfl, ha4, .inl (.base (.int num)), We.nf _ (by decide), a, .int num, val p, rfl, pa4, .inl ⟨num, rfl, fun l H5 cl m5 => ?_⟩⟩
        have el : l = l1 := cl.one c1
        subst el
        refine ⟨_, _, rfl, .bl _, (sb_ok _).1, (sb_ok _).2.1, (sb_ok _).2.2, _, rfl, _, _, rfl, .bl _, (sb_ok _).1, (sb_ok _).2.1, (sb_ok _).2.2, rfl, _, rfl, ?_⟩
        rw [decide_eq_true rfl]
        refine iteF ?_
        obtain ⟨L, g1, g2, g3⟩ := a4.more m5
        have lk : ∀ e ∈ L, e.k.length = 3 := fun e he => canon_three c1 px.three (e.k, e.n) (by rw [← g3]; exact List.mem_map.mpr ⟨e, he, rfl⟩)
        have few : L.length ≤ 300 := by
          have h1 := congrArg List.length g3
          rw [List.length_map] at h1
          have h2 := canon_few c1 px.nd
          have := px.few
          omega
        refine ⟨_, rfl, _, rfl, t1, _, rfl, .inr (SqT.of g1), fun Lr nLr => ?_⟩
        intro x dx nx ndx nne
        have mH : More H5 (upd (upd (upd H5 Lr (.lst (L.map fun e => V.ref e.p))) dx (.own x)) x (.ins C dx [])) := fun b o h => by
          have h1 := new_more (o := .lst (L.map fun e => V.ref e.p)) nLr b o h
          rw [upd_ne (ne_of_none h1 nx), upd_ne (ne_of_none h1 ndx)]
          exact h1
        have eLr : (upd (upd (upd H5 Lr (.lst (L.map fun e => V.ref e.p))) dx (.own x)) x (.ins C dx [])) Lr = some (.lst (L.map fun e => V.ref e.p)) := by
          rw [upd_ne (ne_of_none upd_same nx), upd_ne (ne_of_none upd_same ndx)]
          exact upd_same
        refine ⟨x, Lr, dx, _, rfl, upd_same, .inl (SqL.of eLr), by rw [List.length_map]; exact few, .inl ⟨_, terms_ok (fun e he => ⟨mH _ _ (g2 e he).1, mH _ _ (g2 e he).2⟩) lk, fun H7 off7 pob => ⟨rfl, ?_⟩⟩⟩
        have m7 : More H4 H7 := fun b o h => by
          have h1 := m5 b o h
          exact off7 _ _ (mH _ _ h1) (ne_of_none (new_more (o := .lst (L.map fun e => V.ref e.p)) nLr b o h1) nx)
        obtain ⟨dx7, fs7, hx7⟩ := pob.ins
        refine ⟨a, dx4, fs4, .ref C, rfl, m7 _ _ ha4, .inr ⟨x, dx7, fs7, rfl, hx7, rfl⟩, PwE.own (fE := 0), a, .ref x, val p, rfl, pa4.more m7, .inr (.inr ⟨x, _, rfl, pob, fun l' m' H8 cl' cm' m8 => ?_⟩)⟩
        rw [g3] at cm'
        have e1 : l' = m' := cl'.one (by
          have : (fun k => tot l k) = val p := funext fun k => tot_canon c1 k
          rw [show tot l = val p from this] at cm'
          exact cm')
        subst e1
        rw [same_refl]
        refine ⟨true, true, rfl, rfl, _, rfl, iteF ⟨rfl, fun b o h => m8 b o (m7 b o h)⟩⟩
      · rintro σ5 H5 ⟨rfl, m5⟩
        refine ⟨fun σ' H' => σ' = [some (.ref d), some (.ref a), some (.ref D), some (.ref t1), some (.int num), some (.bl (same l1 (cst num))), some (.ref Do), none] ∧ More H4 H', ?_, ?_⟩
        · refine ⟨_, rfl, _, rfl, Do, po, rfl, pxo.more m5, fun t2 l2 H6 c2 a2' m6 => ?_⟩
          obtain ⟨L, g1, g2, g3⟩ := a2'
          have lk : ∀ e ∈ L, e.k.length = 3 := fun e he => canon_three c2 pxo.three (e.k, e.n) (by rw [← g3]; exact List.mem_map.mpr ⟨e, he, rfl⟩)
          have few : L.length ≤ 300 := by
            have h1 := congrArg List.length g3
            rw [List.length_map] at h1
            have h2 := canon_few c2 pxo.nd
            have := pxo.few
            omega
          refine ⟨t2, _, rfl, .inr (SqT.of g1), fun Lr nLr => ?_⟩
          intro x dx nx ndx nne
          have mH : More H6 (upd (upd (upd H6 Lr (.lst (L.map fun e => V.ref e.p))) dx (.own x)) x (.ins C dx [])) := fun b o h => by
            have h1 := new_more (o := .lst (L.map fun e => V.ref e.p)) nLr b o h
            rw [upd_ne (ne_of_none h1 nx), upd_ne (ne_of_none h1 ndx)]
            exact h1
          have eLr : (upd (upd (upd H6 Lr (.lst (L.map fun e => V.ref e.p))) dx (.own x)) x (.ins C dx [])) Lr = some (.lst (L.map fun e => V.ref e.p)) := by
            rw [upd_ne (ne_of_none upd_same nx), upd_ne (ne_of_none upd_same ndx)]
            exact upd_same
          refine ⟨x, Lr, dx, _, rfl, upd_same, .inl (SqL.of eLr), by rw [List.length_map]; exact few, .inl ⟨_, terms_ok (fun e he => ⟨mH _ _ (g2 e he).1, mH _ _ (g2 e he).2⟩) lk, fun H7 off7 pob => ⟨rfl, ?_⟩⟩⟩
          have m7 : More H4 H7 := fun b o h => by
            have h1 := m6 _ _ (m5 b o h)
            exact off7 _ _ (mH _ _ h1) (ne_of_none (new_more (o := .lst (L.map fun e => V.ref e.p)) nLr b o h1) nx)
          obtain ⟨dx7, fs7, hx7⟩ := pob.ins
          refine ⟨a, dx4, fs4, .ref C, rfl, m7 _ _ ha4, .inr ⟨x, dx7, fs7, rfl, hx7, rfl⟩, PwE.own (fE := 0), a, .ref x, val p, rfl, pa4.more m7, .inr (.inr ⟨x, _, rfl, pob, fun l' m' H8 cl' cm' m8 => ?_⟩)⟩
          rw [g3] at cm'
          have e1 : l' = l1 := cl'.one c1
          have e2 : m' = l2 := by
            rw [show tot l2 = val po from funext fun k => tot_canon c2 k] at cm'
            exact cm'.one c2
          subst e1
          subst e2
          have m48 : More H4 H8 := fun b o h => m8 b o (m7 b o h)
          refine ⟨_, _, rfl, .bl _, (sb_ok _).1, (sb_ok _).2.1, (sb_ok _).2.2, _, rfl, _, rfl, Do, po, rfl, pxo.more m48, fun t3 l3 H9 c3 a3' m9 => ?_⟩
          have e3 : l3 = m' := c3.one c2
          subst e3
          refine ⟨_, _, dp_T ((a4.more m48).more m9), dp_T a3', shaped_T _, shaped_T _, _, _, rfl, .bl _, (sb_ok _).1, (sb_ok _).2.1, (sb_ok _).2.2, rfl, _, rfl, ?_⟩
          rw [show PyData.eqv (dT l') (dT l3) = same l' l3 from rfl, decide_eq_true rfl]
          exact iteF ⟨rfl, fun b o h => m9 b o (m48 b o h)⟩
        · rintro σ6 H6 ⟨rfl, m6⟩
          refine ⟨_, rfl, by show 1 ≤ sizeLine; decide, fun w1 nw1 => ⟨by show 6 ≤ sizeLine; decide, fun w2 nw2 => ?_⟩⟩
          have hw1 : (upd (upd H6 w1 (.lst [.int 1])) w2 (.lst [.non, .ref t1, .str "x", .ref w1, .bl true, .bl false])) w1 = some (.lst [.int 1]) := by rw [upd_ne (ne_of_none upd_same nw2)]; exact upd_same
          have hw2 : (upd (upd H6 w1 (.lst [.int 1])) w2 (.lst [.non, .ref t1, .str "x", .ref w1, .bl true, .bl false])) w2 = some (.lst [.non, .ref t1, .str "x", .ref w1, .bl true, .bl false]) := upd_same
          have m8 : More H4 (upd (upd H6 w1 (.lst [.int 1])) w2 (.lst [.non, .ref t1, .str "x", .ref w1, .bl true, .bl false])) := fun b o h => ((new_more nw1).new nw2) b o (m6 b o h)
          refine ⟨w2, rfl, ⟨_, SqL.of hw2⟩, fun D9 nD9 => ?_⟩
          generalize upd (upd H6 w1 (HO.lst [.int 1])) w2 (.lst [.non, .ref t1, .str "x", .ref w1, .bl true, .bl false]) = H8 at hw1 hw2 m8 nD9 ⊢
          obtain ⟨Lt, gt1, _⟩ := a4
          refine lc_it (walk_list (xs := [.non, .ref t1, .str "x", .ref w1, .bl true, .bl false])) (fun i H' => H' D9 = some (.lst (List.replicate i (V.bl false))) ∧ More H8 H') ⟨upd_same, new_more nD9⟩ (fun i H' _ h => SqL.of (h.2 _ _ hw2)) ?_ ?_
          · rintro i y H9 H10 hi ⟨e, m⟩ ⟨rfl, hy⟩
            obtain ⟨nm, h1, h2, ty⟩ : ∃ nm, nm ∈ offInt ∧ nm ∈ (["int", "NoneType", "tuple", "str", "list", "bool"] : List String) ∧ TyX K H10 y (.type nm) := by
              have hm := List.mem_of_getElem? hy
              rcases List.mem_cons.mp hm with rfl | hm
              · exact ⟨"NoneType", by decide, by decide, .base .non⟩
              rcases List.mem_cons.mp hm with rfl | hm
              · exact ⟨"tuple", by decide, by decide, .base (.tup (m _ _ (m8 _ _ gt1)))⟩
              rcases List.mem_cons.mp hm with rfl | hm
              · exact ⟨"str", by decide, by decide, .base (.str _)⟩
              rcases List.mem_cons.mp hm with rfl | hm
              · exact ⟨"list", by decide, by decide, .base (.lst (m _ _ hw1))⟩
              rcases List.mem_cons.mp hm with rfl | hm
              · exact ⟨"bool", by decide, by decide, .base (.bl _)⟩
              rw [List.mem_singleton] at hm
              subst hm
              exact ⟨"bool", by decide, by decide, .base (.bl _)⟩
            refine ⟨rfl, _, rfl, _, rfl, a, dx4, fs4, .type nm, rfl, m _ _ (m8 _ _ ha4), .inl ty, We.nf nm h2, a, y, val p, rfl, (pa4.more m8).more m, .inr (.inl ⟨⟨nm, h1, ty⟩, fun H11 m11 => ?_⟩)⟩
            have hi : i < 6 := hi
            refine ⟨_, m11 _ _ e, by rw [List.length_replicate]; exact small1000 (by omega), ?_, fun b o h => ?_⟩
            · rw [upd_same, ← List.replicate_succ']
            · rw [upd_ne (ne_of_none h nD9)]
              exact m11 _ _ (m _ _ h)
          · rintro H9 ⟨e, m⟩
            refine ⟨by show 1 ≤ sizeLine; decide, fun w3 nw3 => ⟨w3, 6, _, rfl, rfl, upd_same, by decide, by decide, by show 6 ≤ sizeLine; decide, fun w4 nw4 => ?_⟩⟩
            have mo : More H9 (upd (upd H9 w3 (.lst [.bl false])) w4 (.lst [.bl false, .bl false, .bl false, .bl false, .bl false, .bl false])) := (new_more nw3).new nw4
            have six : DpAll K (upd (upd H9 w3 (.lst [.bl false])) w4 (.lst [.bl false, .bl false, .bl false, .bl false, .bl false, .bl false])) [.bl false, .bl false, .bl false, .bl false, .bl false, .bl false] [.bool false, .bool false, .bool false, .bool false, .bool false, .bool false] :=
              .cons (.bl _) (.cons (.bl _) (.cons (.bl _) (.cons (.bl _) (.cons (.bl _) (.cons (.bl _) .nil)))))
            refine ⟨.list [.bool false, .bool false, .bool false, .bool false, .bool false, .bool false], .list [.bool false, .bool false, .bool false, .bool false, .bool false, .bool false], .lst (SqL.of (mo _ _ e)) six, .lst (SqL.of upd_same) six, by decide +kernel, by decide +kernel, ?_⟩
            rw [show PyData.eqv (.list [.bool false, .bool false, .bool false, .bool false, .bool false, .bool false]) (.list [.bool false, .bool false, .bool false, .bool false, .bool false, .bool false]) = true by decide +kernel]
            have mAll : More H4 (upd (upd H9 w3 (.lst [.bl false])) w4 (.lst [.bl false, .bl false, .bl false, .bl false, .bl false, .bl false])) := fun b o h => mo _ _ (m _ _ (m8 _ _ h))
            refine q n4 _ (by omega) (by omega) ?_ (of4.trans (Off.of mAll))
            obtain ⟨o1, g1⟩ := pen4.at
            obtain ⟨o2, g2⟩ := pen4.atc
            exact pen4.keep ((mAll _ _ g1).trans g1.symm) ((mAll _ _ g2).trans g2.symm)
end
end K09

/-! Rp: a tuple times 0 or 1. -/
namespace Gd
open PySem PySem.Spec PyProof.Rows L2
theorem mul_one (l : Addr) (items : Array Value) (n : Nat) (dd : Option Addr) (sl : Array (Option Value)) (u : Tok) :
    Meets (Builtin.«tuple.__mul__» ⟨[.ref l, .int 1 u], []⟩)
      (fun _ R s => s.heap.get? l = some { cls := .type "tuple", dict := dd, data := .seq items n, slots := sl } ∧ R (.ok (.ret (Value.ref l))) s) :=
  .of_wp fun prog w A R s h => by
    obtain ⟨hp, g, d, tk, os⟩ := s
    obtain ⟨hl, h⟩ := h
    have f1 := AutoSeq1.idx_int
    wp_walk using wpAny_loadPart' hl
    repeat (first
      | (refine wpAny_ite_false (by decide) ?_; wp_walk using wpAny_loadPart' hl)
      | (refine wpAny_ite_true (by simp) ?_; wp_walk using wpAny_loadPart' hl))
    exact ⟨_, rfl, h⟩
theorem mul_zero (l : Addr) (items : Array Value) (n : Nat) (dd : Option Addr) (sl : Array (Option Value)) (u : Tok) (ne : items.isEmpty = false) :
    Meets (Builtin.«tuple.__mul__» ⟨[.ref l, .int 0 u], []⟩)
      (fun _ R s => s.heap.get? l = some { cls := .type "tuple", dict := dd, data := .seq items n, slots := sl } ∧
        R (.ok (.ret (Value.ref s.heap.objs.size))) { s with heap := s.heap.push { cls := Value.type "tuple", data := Data.seq #[] }, toks := s.toks }) :=
  .of_wp fun prog w A R s h => by
    obtain ⟨hp, g, d, tk, os⟩ := s
    obtain ⟨hl, h⟩ := h
    have f1 := AutoSeq1.idx_int
    wp_walk using wpAny_loadPart' hl
    repeat (first
      | (refine wpAny_ite_false (by simp [ne]) ?_; wp_walk using wpAny_loadPart' hl)
      | (refine wpAny_ite_true (by simp [ne]) ?_; wp_walk using wpAny_loadPart' hl))
    exact ⟨_, rfl, h⟩

/-- a tuple times a small number -/
def rRepN (K : PySem.W.Frag) : R2 := fun x y H Q => rRepT K x y H Q ∨ ∃ (l : Addr) (k : Int) (xs : List V), x = .ref l ∧ y = .int k ∧ SqT K H l xs ∧ xs ≠ [] ∧
  ((k = 1 ∧ Q (.ref l) H) ∨ (k = 0 ∧ ∀ p, H p = none → Q (.ref p) (upd H p (.tup []))))
theorem op_repN {X : Cx} : OpR X (binaryOp .Mult) (rRepN X.K) := by
  intro pins s σ H x y v u Q I rx ry h
  obtain h | ⟨l, k, xs, rfl, rfl, hT, hne, h⟩ := h
  · exact op_repT pins s σ H x y v u Q I rx ry h
  cases rx
  obtain ⟨t, rfl⟩ := ry
  obtain ⟨its, r, ⟨⟨cls, dd, data, sl⟩, ho, hc, n, hd⟩, hs⟩ := I.tuple hT
  simp only at hc hd
  subst hc hd
  have hn : its.toArray.isEmpty = false := by
    cases its with
    | cons a b => rfl
    | nil =>
      have e := r.length
      exact (hne (List.eq_nil_of_length_eq_zero e)).elim
  have is : s.TypeIs (.ref l) "tuple" := ⟨_, ho, rfl⟩
  obtain ⟨rfl, q⟩ | ⟨rfl, q⟩ := h
  · refine wpAny_binaryOp_repeat_ref (T := "tuple") (U := "int") (by decide) is (fun s' => typeIs_int s' 1 t) noFill_tuple_mul F.fills_int_mul F.slot_int_rmul repeat_tuple F.slot_int_index.lookup
      (call_meets F.slot_int_rmul (typeIs_int s 1 t) F.entry_int_rmul (F.args_int_rmul_2 _ _) (int_rmul_tuple 1 t l its.toArray n dd sl)
        ⟨ho, rfl, is, call_meets F.slot_tuple_mul is F.entry_tuple_mul (F.args_tuple_mul_2 _ _) (mul_one l its.toArray n dd sl t) ⟨ho, ?_⟩⟩)
    exact ⟨.ref l, H, I, rfl, q⟩
  · refine wpAny_binaryOp_repeat_ref (T := "tuple") (U := "int") (by decide) is (fun s' => typeIs_int s' 0 t) noFill_tuple_mul F.fills_int_mul F.slot_int_rmul repeat_tuple F.slot_int_index.lookup
      (call_meets F.slot_int_rmul (typeIs_int s 0 t) F.entry_int_rmul (F.args_int_rmul_2 _ _) (int_rmul_tuple 0 t l its.toArray n dd sl)
        ⟨ho, rfl, is, call_meets F.slot_tuple_mul is F.entry_tuple_mul (F.args_tuple_mul_2 _ _) (mul_zero l its.toArray n dd sl t hn) ⟨ho, ?_⟩⟩)
    refine ⟨.ref s.heap.objs.size, _, I.laid (t' := s.toks) (o := .tup []) (fun b ob q => Heap.get?_push_of_some _ q) (Nat.le_refl _) ?_, rfl, q _ (I.hok.fresh (Nat.le_refl _))⟩
    exact ⟨Nat.zero_le _, _, .nil, IsTup.new _ _⟩

/-- two tuples of the same flat values -/
theorem items_same {A : Around} {s : Shared} : ∀ {xs : List V} {us ws : List Value}, xs.all flatB = true → Vals xs us → Vals xs ws →
    ∀ j (h1 : j < us.length) (h2 : j < ws.length), SeqAt.EqAt A s us[j] ws[j] true
  | _, _, _, _, .nil, .nil, j, h1, _ => absurd h1 (Nat.not_lt_zero j)
  | _, _, _, f, .cons a as, .cons b bs, j, h1, h2 => by
    rw [List.all_cons, Bool.and_eq_true] at f
    cases j with
    | zero => exact eqAt_same a b f.1
    | succ j => exact items_same f.2 as bs j (Nat.lt_of_succ_lt_succ h1) (Nat.lt_of_succ_lt_succ h2)
def rTS (K : PySem.W.Frag) (r : Bool) : R2 := fun x y H Q => ∃ (a b : Addr) (xs : List V), x = .ref a ∧ y = .ref b ∧ SqT K H a xs ∧ SqT K H b xs ∧
  xs.all flatB = true ∧ Q (.bl r) H
section
variable {X : Cx}
theorem all_true {m n : Nat} (h : m = n) : ((List.range (min m n)).all (fun _ => true) && m == n) = true := by
  subst h
  rw [beq_self_eq_true, Bool.and_true]
  exact List.all_eq_true.mpr fun _ _ => rfl
theorem op_eqTS (hu : X.A.units < cLine) : OpR X (compareOp .Eq) (rTS X.K true) := by
  intro pins s σ H x y v u Q I rx ry h
  obtain ⟨a, b, xs, rfl, rfl, ha, hb, f, q⟩ := h
  cases (show v = Value.ref a from rx)
  cases (show u = Value.ref b from ry)
  obtain ⟨us, r1, p1, _⟩ := I.tuple ha
  obtain ⟨ws, r2, p2, _⟩ := I.tuple hb
  have same : us.toArray.size = ws.toArray.size := by
    rw [List.size_toArray, List.size_toArray, ← r1.length, ← r2.length]
  have all := SeqAt.RcAt.tuples (A := X.A) (s := s) (e := fun _ => true) p1 p2 hu fun j h1 h2 => by
    have k := items_same (A := X.A.in1) (s := s) f r1 r2 j (by simpa using h1) (by simpa using h2)
    simpa using k
  refine all X.prog X.w _ _ ?_
  rw [all_true same]
  exact ⟨.bl true, H, I, rfl, q⟩
theorem op_neTS (hu : X.A.units < cLine) : OpR X (compareOp .NotEq) (rTS X.K false) := by
  intro pins s σ H x y v u Q I rx ry h
  obtain ⟨a, b, xs, rfl, rfl, ha, hb, f, q⟩ := h
  cases (show v = Value.ref a from rx)
  cases (show u = Value.ref b from ry)
  obtain ⟨us, r1, p1, _⟩ := I.tuple ha
  obtain ⟨ws, r2, p2, _⟩ := I.tuple hb
  have same : us.toArray.size = ws.toArray.size := by
    rw [List.size_toArray, List.size_toArray, ← r1.length, ← r2.length]
  have all := SeqAt.RcNeAt.tuples (A := X.A) (s := s) (e := fun _ => true) p1 p2 hu fun j h1 h2 => by
    have k := items_same (A := X.A.in1) (s := s) f r1 r2 j (by simpa using h1) (by simpa using h2)
    simpa using k
  refine all X.prog X.w _ _ ?_
  rw [all_true same]
  exact ⟨.bl false, H, I, rfl, q⟩
end
end Gd

namespace K09
open PySem L2 Gd Ply
abbrev sLaw : Stmt := top 41
abbrev NLa : List Str := ["_law_script", "_law_pen_here", "_law_poly_here", "_law_told", "_law_reach", "_law_rows", "_law_kept", "_law_row", "_law_bad", "_law_at", "_law_items", "_law_odd", "_law_k", "_law_place", "_law_number"]
def spLaw (K : PySem.W.Frag) (Pt : Addr) : Sp := fun vs H Q _ => ∃ (a : Addr) (ns : List Int), vs = [.ref a] ∧ SqL K H a (ns.map V.int) ∧ H Pt = some (.tbl #[]) ∧ ∀ H', Q (.bl true) H'
theorem scLaw : FnScope NLa ["_law_script"] (defScope sLaw) := ⟨rfl, rfl, rfl, by decide +kernel, rfl, by decide +kernel, by decide +kernel⟩
def lamQ : Str := (PyProof.Rows.envOfC "law" (defScope sLaw) 0 0 .none).qual ++ "<lambda>"
theorem cr_maxK {X : Cx} {K : PySem.W.Frag} (hK : X.K = K) (hc : X.calm = true) : CallR X (.builtin "max") (rMax K) := hK ▸ cr_max hc
def rLof (K : PySem.W.Frag) : List V → Hp → VK → Prop := fun xs H Q => ∃ p ys, xs = [.ref p] ∧ (SqL K H p ys ∨ SqT K H p ys) ∧ ∀ l, H l = none → Q (.ref l) (upd H l (.lst ys))
theorem call_lof {X : Cx} {K : PySem.W.Frag} (hK : X.K = K) : CallR X (.type "list") (rLof K) := by
  subst hK
  exact call_list_of
theorem pi_tupK {X : Cx} {K : PySem.W.Frag} (hK : X.K = K) {tg e : Expr} {te : TE} (h : PE X e te) : PI X tg e (iTup K te) := hK ▸ pi_tup h
theorem pg_tupK {X : Cx} {K : PySem.W.Frag} (hK : X.K = K) {es : List Expr} {k : Nat} {t : TGs} {n : Nat} {pos : Pos} (hc : X.calm = true) (h : PGs X es t) (hn : (assignEach es X.env).length = n) (hst : (assignEach es X.env).findIdx? (·.1) = none) :
    PG X (.Tuple es k pos) (gTup K n t) := hK ▸ pg_tup hc h hn hst
/-- what stays through the law -/
structure LS (C Pt d c D a : Addr) (p : Po) (N : Int) (H : Hp) : Prop where
  pen : ∃ n, Pen H d c n ∧ 0 ≤ n ∧ n ≤ N
  px : PX H D p
  pob : Pob H C a (val p)
  pt : H Pt = some (.tbl #[])
theorem LS.off {C Pt d c D a : Addr} {p : Po} {N M : Int} {H H' : Hp} (s : LS C Pt d c D a p N H) (of : Off d H H') (pen : ∃ n, Pen H' d c n ∧ 0 ≤ n ∧ n ≤ M) : LS C Pt d c D a p M H' := by
  obtain ⟨n, pn, _⟩ := s.pen
  exact ⟨pen, s.px.off of pn.dk, s.pob.off of pn.dk, of.at pn.dk s.pt (fun _ z => nomatch z)⟩
theorem LS.more {C Pt d c D a : Addr} {p : Po} {N : Int} {H H' : Hp} (s : LS C Pt d c D a p N H) (m : More H H') : LS C Pt d c D a p N H' := by
  obtain ⟨n, pn, h0, h1⟩ := s.pen
  obtain ⟨o1, g1⟩ := pn.at
  obtain ⟨o2, g2⟩ := pn.atc
  exact s.off (Off.of m) ⟨n, pn.keep ((m _ _ g1).trans g1.symm) ((m _ _ g2).trans g2.symm), h0, h1⟩
/-- nothing but the pen and lists has changed -/
abbrev Ofl (d : Addr) (H H' : Hp) : Prop := ∀ b o, H b = some o → b ≠ d → (∀ xs, o ≠ .lst xs) → H' b = some o
theorem Pob.ofl {d : Addr} {H H' : Hp} (of : Ofl d H H') (hd : ∃ kvs, H d = some (.dK kvs)) {C a : Addr} {f : List Int → Int} (h : Pob H C a f) : Pob H' C a f := by
  have at_ : ∀ {b o}, H b = some o → (∀ kvs, o ≠ .dK kvs) → (∀ xs, o ≠ .lst xs) → H' b = some o := fun {b o} h nk nl => of b o h (fun z => by
    obtain ⟨kvs, hk⟩ := hd
    rw [z, hk] at h
    exact nk kvs (Option.some.inj h).symm) nl
  obtain ⟨dx, t, r, dd, fs, l, p, m0, m1, m2, h1, h2, h3, h4, ⟨L, u1, u2, u3⟩, h6, h7, h8, h9, h10⟩ := h.ex
  exact ⟨dx, t, r, dd, fs, l, p, m0, m1, m2, at_ h1 (fun _ z => nomatch z) (fun _ z => nomatch z), h2, h3, h4, ⟨L, at_ u1 (fun _ z => nomatch z) (fun _ z => nomatch z), fun e he => ⟨at_ (u2 e he).1 (fun _ z => nomatch z) (fun _ z => nomatch z), at_ (u2 e he).2 (fun _ z => nomatch z) (fun _ z => nomatch z)⟩, u3⟩,
    h6, at_ h7 (fun _ z => nomatch z) (fun _ z => nomatch z), h8, at_ h9 (fun _ z => nomatch z) (fun _ z => nomatch z), h10⟩
/-- the rows that were made behind H7 -/
structure Rows (H7 H : Hp) (p : Po) (Rw : Addr) (L : List It3) : Prop where
  m : More H7 H
  n : H7 Rw = none
  at_ : H Rw = some (.lst (L.map fun e => V.ref e.p))
  it : ∀ e ∈ L, H e.p = some (.lst [.ref e.b, .int e.n]) ∧ H e.b = some (.lst (e.k.map V.int)) ∧ H7 e.b = none
  cl : Canon (val p) (L.map fun e => (e.k, e.n))
  few : L.length ≤ 300
  three : ∀ e ∈ L, e.k.length = 3
/-- the same rows, while their exponents grow -/
structure RowsM (H7 H : Hp) (Rw : Addr) (L : List It3) (i : Nat) : Prop where
  m : More H7 H
  at_ : H Rw = some (.lst (L.map fun e => V.ref e.p))
  it : ∀ e ∈ L, H e.p = some (.lst [.ref e.b, .int e.n]) ∧ H7 e.b = none ∧ ∃ ns : List Int, H e.b = some (.lst (ns.map V.int)) ∧ ns ≠ [] ∧ ns.length ≤ 3 + i
theorem Rows.keep {H7 H H' : Hp} {p : Po} {Rw : Addr} {L : List It3} (m : More H H') (r : Rows H7 H p Rw L) : Rows H7 H' p Rw L :=
  ⟨fun b o h => m _ _ (r.m _ _ h), r.n, m _ _ r.at_, fun e he => ⟨m _ _ (r.it e he).1, m _ _ (r.it e he).2.1, (r.it e he).2.2⟩, r.cl, r.few, r.three⟩
theorem RowsM.step {H7 H : Hp} {Rw : Addr} {L : List It3} {i : Nat} (r : RowsM H7 H Rw L i) {e : It3} (he : e ∈ L) {ns : List Int} (h : H e.b = some (.lst (ns.map V.int))) (ne : ns ≠ []) (len : ns.length ≤ 3 + i) :
    RowsM H7 (upd H e.b (.lst ((ns ++ [7]).map V.int))) Rw L (i + 1) := by
  have off : ∀ {b : Addr} {q : Addr} {xs : List V}, H b = some (.lst (.ref q :: xs)) → b ≠ e.b := fun {b q xs} hb z => by
    rw [z, h] at hb
    match ns, ne with
    | n :: ns, _ => cases hb
  refine ⟨fun b o hb => ?_, ?_, fun x hx => ⟨?_, (r.it x hx).2.1, ?_⟩⟩
  · rw [upd_ne (fun z => by
      rw [z, (r.it e he).2.1] at hb
      cases hb)]
    exact r.m _ _ hb
  · have h1 := r.at_
    rw [upd_ne ?_]
    · exact h1
    · match L, he with
      | x :: L, _ => exact off h1
  · rw [upd_ne (off (r.it x hx).1)]
    exact (r.it x hx).1
  · by_cases z : x.b = e.b
    · rw [z, upd_same]
      exact ⟨ns ++ [7], rfl, by simp, by rw [List.length_append]; show ns.length + 1 ≤ _; omega⟩
    · rw [upd_ne z]
      obtain ⟨ms, h1, h2, h3⟩ := (r.it x hx).2.2
      exact ⟨ms, h1, h2, by omega⟩
/-- a value that is itself again: flat and equal, or one object -/
def Self (x : V) : Prop := (flatV x = true ∧ eqV x x = true) ∨ ∃ a, x = .ref a
def Odds (K : PySem.W.Frag) (H : Hp) (xs : List V) : Prop := ∀ x ∈ xs, NoTrm K H x ∧ Self x
theorem Odds.more {K : PySem.W.Frag} {H H' : Hp} {xs : List V} (m : More H H') (h : Odds K H xs) : Odds K H' xs := fun x hx => ⟨(h x hx).1.more m, (h x hx).2⟩
theorem Odds.put {K : PySem.W.Frag} {H H' : Hp} {xs : List V} {y : V} (m : More H H') (h : Odds K H xs) (n : NoTrm K H' y) (s : Self y) : Odds K H' (y :: xs) := fun x hx => by
  rcases List.mem_cons.mp hx with rfl | hx
  · exact ⟨n, s⟩
  · exact h.more m x hx
theorem two {H : Hp} {q1 q2 : Addr} {o1 o2 : HO} (n1 : H q1 = none) (n2 : (upd H q1 o1) q2 = none) : More H (upd (upd H q1 o1) q2 o2) ∧ (upd (upd H q1 o1) q2 o2) q1 = some o1 ∧ (upd (upd H q1 o1) q2 o2) q2 = some o2 :=
  ⟨(new_more n1).new n2, by rw [upd_ne (ne_of_none upd_same n2)]; exact upd_same, upd_same⟩
/-- an item with a wrong row of exponents, or a wrong number -/
theorem noTrm_row {K : PySem.W.Frag} {H : Hp} {q u : Addr} {v : V} {ys : List V} (s : Sq K H q [.ref u, v]) (t : H u = some (.tup ys)) (l : ys.length ≤ 1000) (i : ∀ y ∈ ys, (∃ i, y = .int i) ∨ y = .non ∨ ∃ b, y = .bl b)
    (no : (ys.all isI && decide (((ys.length : Nat) : Int) = 3)) = false ∨ NoInt K H v) : NoTrm K H (.ref q) :=
  .inr (.inr ⟨q, _, v, rfl, s, .inr ⟨u, ys, rfl, .inr (SqT.of t), ⟨l, fun y hy => (i y hy).imp id fun h => by
    obtain rfl | ⟨b, rfl⟩ := h
    · exact ⟨"NoneType", by decide, .base .non⟩
    · exact ⟨"bool", by decide, .base (.bl _)⟩⟩, no⟩⟩)
/-- tables grow, dicts of words change, all else stays -/
def Kp (H H' : Hp) : Prop := ∀ b o, H b = some o → (∀ ps, o ≠ .tbl ps) → ((∃ kvs, o = .dK kvs) ∧ ∃ kvs, H' b = some (.dK kvs)) ∨ H' b = some o
theorem Kp.at {H H' : Hp} (m : Kp H H') {b : Addr} {o : HO} (h : H b = some o) (nt : ∀ ps, o ≠ .tbl ps) (nk : ∀ kvs, o ≠ .dK kvs) : H' b = some o := by
  rcases m b o h nt with ⟨⟨kvs, z⟩, _⟩ | z
  · exact absurd z (nk kvs)
  · exact z
theorem Kp.dK {H H' : Hp} (m : Kp H H') {b : Addr} {kvs : List (Key × V)} (h : H b = some (.dK kvs)) : ∃ kvs, H' b = some (.dK kvs) := by
  rcases m b _ h (fun _ z => nomatch z) with ⟨_, z⟩ | z
  · exact z
  · exact ⟨_, z⟩
theorem Kp.of {H H' : Hp} (m : More H H') : Kp H H' := fun b o h _ => .inr (m b o h)
theorem Kp.ext {H H' : Hp} (m : LamX.ExtN H H') : Kp H H' := fun b o h nt => .inr (m b o h nt)
theorem Kp.off {d : Addr} {H H' : Hp} (of : Off d H H') (hd : ∃ kvs, H d = some (.dK kvs)) (hd' : ∃ kvs, H' d = some (.dK kvs)) : Kp H H' := fun b o h _ => by
  by_cases z : b = d
  · subst z
    obtain ⟨kvs, e⟩ := hd
    rw [e] at h
    exact .inl ⟨⟨_, (Option.some.inj h).symm⟩, hd'⟩
  · exact .inr (of b o h z)
theorem tyKp {K : PySem.W.Frag} {H H' : Hp} {x : V} {n : String} (e : Kp H H') (t : TyX K H x (.type n)) : TyX K H' x (.type n) := by
  cases t with
  | base t =>
    refine .base ?_
    cases t with
    | non => exact .non
    | bl b => exact .bl b
    | int i => exact .int i
    | str z => exact .str z
    | flt z => exact .flt z
    | lst h => exact .lst (e.at h (fun _ z => nomatch z) fun _ z => nomatch z)
    | frz h => exact .frz (e.at h (fun _ z => nomatch z) fun _ z => nomatch z)
    | tup h => exact .tup (e.at h (fun _ z => nomatch z) fun _ z => nomatch z)
    | dK h => obtain ⟨_, z⟩ := e.dK h; exact .dK z
    | dT h => exact .dT (e.at h (fun _ z => nomatch z) fun _ z => nomatch z)
  | byt b => exact .byt b
  | set h => exact .set (e.at h (fun _ z => nomatch z) fun _ z => nomatch z)
  | kList h c => exact .kList h c
  | kTuple h c => exact .kTuple h c
  | kDict h c => exact .kDict h c
  | fTuple h => exact .fTuple (e.at h (fun _ z => nomatch z) fun _ z => nomatch z)
  | fDict h => exact .fDict (e.at h (fun _ z => nomatch z) fun _ z => nomatch z)
theorem sqKp {K : PySem.W.Frag} {H H' : Hp} {a : Addr} {xs : List V} (e : Kp H H') : Sq K H a xs → Sq K H' a xs
  | .inl (.inl (.inl h)) => .inl (.inl (.inl (e.at h (fun _ z => nomatch z) fun _ z => nomatch z)))
  | .inl (.inl (.inr ⟨o, h⟩)) => .inl (.inl (.inr ⟨o, e.at h (fun _ z => nomatch z) fun _ z => nomatch z⟩))
  | .inl (.inr h) => .inl (.inr h)
  | .inr (.inl (.inl h)) => .inr (.inl (.inl (e.at h (fun _ z => nomatch z) fun _ z => nomatch z)))
  | .inr (.inl (.inr ⟨o, h⟩)) => .inr (.inl (.inr ⟨o, e.at h (fun _ z => nomatch z) fun _ z => nomatch z⟩))
  | .inr (.inr h) => .inr (.inr h)
theorem NoTrm.kp {K : PySem.W.Frag} {H H' : Hp} {x : V} (e : Kp H H') (h : NoTrm K H x) : NoTrm K H' x := by
  have nosq : ∀ {x}, NoSq K H x → NoSq K H' x := fun ⟨n, m, t⟩ => ⟨n, m, tyKp e t⟩
  have noint : ∀ {x}, NoInt K H x → NoInt K H' x := fun ⟨n, m, t⟩ => ⟨n, m, tyKp e t⟩
  obtain h | ⟨a, xs, r, s, l⟩ | ⟨a, u, v, r, s, h⟩ := h
  · exact .inl (nosq h)
  · exact .inr (.inl ⟨a, xs, r, sqKp e s, l⟩)
  · refine .inr (.inr ⟨a, u, v, r, sqKp e s, ?_⟩)
    obtain h | ⟨b, ys, r, s, i, h⟩ := h
    · exact .inl (nosq h)
    · exact .inr ⟨b, ys, r, sqKp e s, ⟨i.1, fun y hy => (i.2 y hy).imp id noint⟩, h.imp id noint⟩
def lcSc : Expr → Scope
  | .ListComp _ _ sc _ => sc
  | _ => { kind := .function, names := [], isGenerator := false, isCoroutine := false }
def asgV : Stmt → Expr
  | .Assign _ v _ => v
  | s => .Constant .none 0 ⟨0, 0, 0, 0⟩
section
variable {P : Program} {w : World} {K : PySem.W.Frag} {mg : Str → Option Value} {base : Heap}
theorem ok_law {f c Pt : Addr} {kV doc pm ct oc : Value} {an od : Option Addr} {osl : Array (Option Value)}
    {g0 g1 g2 g3 g4 gT gS gM gU gE gC gI gi gs gr gt gb gW gQ C CR N0 : Addr} {d0 d1 d2 d3 d4 dT' dS dM dU dE' dC dI' di ds dr' dt db dW dQ : FuncData}
    (lk : K.lookup f = some ⟨oc, od, .func (PySem.W.fnOf "law" "law" (defArgs sLaw) (defBody sLaw) (defScope sLaw) .none kV doc pm an (.ref c) ct), osl⟩)
    (hcd : PySem.W.codeIn K (.ref c) "law" = true) (TB : LamX.TabB base mg c Pt) (B : Blt mg) (B2 : Blt2 mg) (W : PwC K mg C) (We : PwE K C gE) (M : Mk K C gI) (FI : Fun K "__init__" "Powers.__init__" sPw gI dI') (bI : Binds K dI' ["self", "terms"] [])
    (FE : Fun K "__eq__" "Powers.__eq__" sEq gE dE') (bE : Binds K dE' ["self", "other"] []) (Ct : Cl K mg "constant_terms" sCt ["number"] gC dC) (gN : mg "NO_LETTER" = some (.ref N0)) (tN : tupI K (.ref N0) = some [0, 0, 0])
    (Pe : Cl K mg "_law_pen" sPen ["_law_script"] g0 d0) (Dr : Cl K mg "_law_draw" sDraw ["_law_pen_here", "_law_many"] g1 d1) (Pi : Cl K mg "_law_pick" sPick ["_law_pen_here", "_law_some"] g2 d2)
    (Po' : Cl K mg "_law_poly" sPoly ["_law_pen_here", "_law_letters", "_law_reach", "_law_many"] g3 d3)
    (So : Cl K mg "_law_some_poly" sSome ["_law_pen_here"] g4 d4) (Te : Cl K mg "_law_terms" sTerms ["_law_poly_here"] gT dT') (Sh : Cl K mg "_law_shuffled" sShuf ["_law_pen_here", "_law_some"] gS dS)
    (Ma : Cl K mg "_law_made" sMade ["_law_pen_here", "_law_poly_here"] gM dM) (Is : Cl K mg "_law_is_sum" sIsSum ["_law_told", "_law_poly_here"] gU dU) (Ri : Cl K mg "_law_equals_right" sRight ["_law_pen_here", "_law_told", "_law_poly_here"] gQ dQ)
    (Rf : Cl K mg "_law_refused" sRef ["_law_call"] gW dW)
    (I : Cl K mg "is_integer" sIsI ["value"] gi di) (S : Cl K mg "is_integers" sIsIs ["value"] gs ds) (R : Cl K mg "is_row" sRow ["value", "width"] gr dr') (T : Cl K mg "is_term" sTerm ["item"] gt dt)
    (Br : Er K mg "BadRow" "BadRow.__init__" CR gb ["row"] sBadRow db) (rr : PySem.W.exmOne K (.ref CR) (.ref CR) = some true) (xr : XfC K CR) :
    FnG P w K mg base CX0 10 f (PySem.W.fnOf "law" "law" (defArgs sLaw) (defBody sLaw) (defScope sLaw) .none kV doc pm an (.ref c) ct) ["_law_script"] (spLaw K Pt) := by
  have G0 : FnOk P w K mg base CX0 1 g0 d0 ["_law_script"] (spPen K) := ok_pen Pe.fn B.int_ B.list_
  have G1 : FnOk P w K mg base CX0 1 g1 d1 ["_law_pen_here", "_law_many"] spDraw := ok_draw Dr.fn B.int_ B.len_
  have G2 : FnOk P w K mg base CX0 2 g2 d2 ["_law_pen_here", "_law_some"] (spPick K) := ok_pick Pi.fn Dr.fn Dr.b Dr.g B.int_ B.len_
  have G4 : FnOk P w K mg base CX0 4 g4 d4 ["_law_pen_here"] spSome := ok_some So.fn B B2 Dr Pi Po'
  have GT : FnOk P w K mg base CX0 1 gT dT' ["_law_poly_here"] spTerms := ok_terms Te.fn B B2
  have GI : FnOk P w K mg base (L2.CX P w) 6 gI dI' ["self", "terms"] (spInit K C CR) := ok_init FI B B2 W.ic.cl W.n1 W.n2 W.n3 I S R T Br
  have GM : FnOk P w K mg base CX0 8 gM dM ["_law_pen_here", "_law_poly_here"] (spMade C) := ok_made Ma.fn B B2 W M FI bI Dr Pi Sh I S R T Br
  have GU : FnOk P w K mg base CX0 2 gU dU ["_law_told", "_law_poly_here"] (spIsSum C) := ok_issum Is.fn B B2 W Te
  have GQ : FnG P w K mg base CX0 8 gQ dQ ["_law_pen_here", "_law_told", "_law_poly_here"] (spRight C) := ok_right Ri.fn B B2 W We M FI bI FE bE Ct gN tN Dr Pi Po' So Te I S R T Br
  refine fnG_of lk hcd scLaw (fun vs H Q E h => ?_) (fun A outer s H vs Q E hgd hr h => ?_)
  · obtain ⟨a, ns, rfl, _⟩ := h
    rfl
  · obtain ⟨a, ns, rfl, hS, hP, fin⟩ := h
    have hr1 : Room 1 _ := hr.mono (by decide)
    have hr2 : Room 2 _ := hr.mono (by decide)
    have hr4 : Room 4 _ := hr.mono (by decide)
    have hr7 : Room 7 _ := hr.mono (by decide)
    have hr8 : Room 8 _ := hr.mono (by decide)
    have hu := hu_of hr
    have hu64 := hr.units
    have hu1 := Nat.lt_of_le_of_lt (Nat.le_add_right _ 64) hu64
    obtain ⟨ocW, odW, kVW, docW, pmW, anW, cdW, ctW, oslW, rfl, lkW, hcdW⟩ := Rf.fn.ex
    have bW := Rf.b
    have lam : ∀ {params : Arguments} {body : Expr} {scope : Scope} {lpos p pos : Pos} {t : XK → TE}, LamX.LamS (defScope sLaw) scope →
        defaultsOf params (cxOf CX0 P w K mg base NLa "law" (defScope sLaw) f (.ref c) A outer s H E).nox.env = ([], []) →
        (∀ (q : Str) (cl : List (Str × Addr)) (pm cv ctv : Value), bindArgs (PySem.W.kla_fn "<lambda>" q params body scope cl pm cv ctv) ⟨[], []⟩ = pure []) →
        (∀ (A' : Around) (outer' : List Env) (s' : Shared) (H' : Hp) (E' : XK) (f' c' : Addr), Room 7 (A'.deeper (LamX.lamEnv (cxOf CX0 P w K mg base NLa "law" (defScope sLaw) f (.ref c) A outer s H E).nox scope s'.heap.objs.size f' c')) →
          PE (LamX.lamCx (cxOf CX0 P w K mg base NLa "law" (defScope sLaw) f (.ref c) A outer s H E).nox A' outer' s' H' E' scope f' c') body (t E')) →
        PE (cxOf CX0 P w K mg base NLa "law" (defScope sLaw) f (.ref c) A outer s H E).nox
          (.Call (.Name "_law_refused" p) [.Lambda params body scope lpos] [] pos) (LamX.tLam [(Pt, lamQ)] (TRef CR) t) := by
      intro params body scope lpos p pos t L hdef hbind hbody
      exact LamX.pe_lamcall (k := 7) (T := [(Pt, lamQ)]) (c := c) (P := Pt) rfl Rf.g Rf.k lkW hcdW bW scRef rfl (.inl rfl)
        (ref_gives (k := 7) hr rr xr Br.g (Br.no _ (.head _))) TB rfl (.head _)
        (fun p hp _ => by
          obtain rfl | hp := List.mem_cons.mp hp
          · rfl
          · exact (List.not_mem_nil hp).elim) hr L hdef hbind hbody
    suffices hh : ∃ t, PSs (cxOf CX0 P w K mg base NLa "law" (defScope sLaw) f (.ref c) A outer s H E).nox (defBody sLaw) t ∧ t { nx := fun _ H' => Q .non H', rt := Q } (L2.start NLa [.ref a]) H by
      obtain ⟨t, d, q⟩ := hh
      exact ⟨t, d.nox, q⟩
    refine ⟨_, pss_cons (ps_set (i := 1) scLaw.nd rfl (Or.inl rfl) (pe_call G0 hr1 rfl Pe.g Pe.k Pe.b .nil pass0 (pa_cons (pv 0) pa_nil)))
      (pss_cons (ps_set (i := 2) scLaw.nd rfl (Or.inr rfl) (pe_call G4 hr4 rfl So.g So.k So.b .nil pass0 (pa_cons (pv 1) pa_nil)))
      (Evl.pss_cut (ps_set (i := 3) scLaw.nd rfl (Or.inl rfl) (pe_call GM hr8 rfl Ma.g Ma.k Ma.b .nil pass0 (pa_cons (pv 1) (pa_cons (pv 2) pa_nil))))
      (Evl.pss_cut (ps_setLc (i := 4) (own := [("_law_k", 12)]) (g := gName 12) (tt := tYes) rfl scLaw.nd rfl rfl (sw_true rfl rfl rfl (by decide +kernel)) (pi_range1 rfl B.range_ (pa_cons pe_int pa_nil))
          (blkOk_by (N := NLa) (sc := defScope sLaw) (by decide +kernel)) (fun _ _ _ _ _ => pg_name (i := 12) scLaw.nd rfl (Or.inr rfl)) (fun _ _ _ _ _ => pts_nil)
          (fun _ _ _ _ _ => pe_callB (r := rMax K) (cr_maxK rfl rfl) (by rfl) B2.max_ (by decide +kernel) (pa_cons (pe_op op_cat (pe_lst (pa_cons pe_int pa_nil))
            (by exact (pe_lc (own := [("_law_place", 13), ("_law_number", 14)]) (g := gTup K 2 (gCons (gName 13) (gCons (gName 14) gNil))) (tt := tYes) rfl scLaw.nd (pi_tupK (K := K) rfl (pe_call GT hr1 rfl Te.g Te.k Te.b .nil pass0 (pa_cons (pv 2) pa_nil)))
              (blkOk_by (N := NLa) (sc := relabel (lcSc (asgV ((defBody sLaw).getD 3 (.Pass ⟨0, 0, 0, 0⟩)))) (PyProof.Rows.envOfC "law" (defScope sLaw) 0 0 .none)) (by decide +kernel))
              (fun _ _ _ _ _ => pg_tupK rfl rfl (pgs_cons (pg_name (i := 13) scLaw.nd rfl (Or.inl rfl)) (pgs_cons (pg_name (i := 14) scLaw.nd rfl (Or.inl rfl)) pgs_nil)) rfl rfl) (fun _ _ _ _ _ => pts_nil)
              (fun _ _ _ _ _ => pe_callB call_abs (by rfl) B2.abs_ (by decide +kernel) (pa_cons (pe_ix (r := rIxT K) ix_tup (pv 13) (pv 12) (fun _ _ => rfl)) pa_nil))))) pa_nil)))
      (Evl.pss_cut (ps_if (PW.pt (pw_or (pt_not (pt_val (pe_call GU hr2 rfl Is.g Is.k Is.b .nil pass0 (pa_cons (pv 3) (pa_cons (pv 2) pa_nil)))))
          (pw_or1 (pt_cmpR (op_neTS hu1) (pe_fld (pv 3) rfl) (pe_callTy call_tuple_of (by rfl) B.tup_ (by decide +kernel) (pa_cons (pv 4) pa_nil)) (nomark _))))) (pss_one (ps_ret pe_bl)) pss_nil)
      (Evl.pss_cut (ps_if (pt_cmpR (op_neD hu64) (pe_lc (own := [("_law_place", 13), ("_law_number", 14)]) (g := gTup K 2 (gCons (gName 13) (gCons (gName 14) gNil))) rfl scLaw.nd (pi_tup (pe_fld (pv 3) rfl))
            (blkOk_by (N := NLa) (sc := defScope sLaw) (by decide +kernel)) (fun _ _ _ _ _ => pg_tupK rfl rfl (pgs_cons (pg_name (i := 13) scLaw.nd rfl (Or.inl rfl)) (pgs_cons (pg_name (i := 14) scLaw.nd rfl (Or.inl rfl)) pgs_nil)) rfl rfl)
            (fun _ _ _ _ _ => pts_one (pt_not (pt_val (pe_callB (r := rIsi K) call_isi (by rfl) B.isi_ (by decide +kernel) (pa_cons (pv 13) (pa_cons (pe_bltn (v := .ty "tuple") rfl B.tup_ (by decide +kernel) rfl) pa_nil))))))
            (fun _ _ _ _ _ => pe_int)) (pe_lst pa_nil) (nomark _)) (pss_one (ps_ret pe_bl)) pss_nil)
      (Evl.pss_cut (ps_if (pt_not (pt_val (pe_callG GQ hgd hr8 rfl Ri.g Ri.k Ri.b .nil pass0 (pa_cons (pv 1) (pa_cons (pv 3) (pa_cons (pv 2) pa_nil)))))) (pss_one (ps_ret pe_bl)) pss_nil)
      (Evl.pss_cut (ps_setLc (i := 5) (own := [("_law_place", 13), ("_law_number", 14)]) (g := gTup K 2 (gCons (gName 13) (gCons (gName 14) gNil))) (tt := tYes) rfl scLaw.nd rfl rfl (sw_true rfl rfl rfl (by decide +kernel)) (pi_tup (pe_call GT hr1 rfl Te.g Te.k Te.b .nil pass0 (pa_cons (pv 2) pa_nil)))
          (blkOk_by (N := NLa) (sc := defScope sLaw) (by decide +kernel)) (fun _ _ _ _ _ => pg_tupK rfl rfl (pgs_cons (pg_name (i := 13) scLaw.nd rfl (Or.inl rfl)) (pgs_cons (pg_name (i := 14) scLaw.nd rfl (Or.inl rfl)) pgs_nil)) rfl rfl) (fun _ _ _ _ _ => pts_nil)
          (fun _ _ _ _ _ => pe_lst (pa_cons (pe_callTy (T := "list") (r := rLof K) (call_lof rfl) (by rfl) B.list_ (by decide +kernel) (pa_cons (pv 13) pa_nil)) (pa_cons (pv 14) pa_nil))))
      (Evl.pss_cut (ps_set (i := 6) scLaw.nd rfl (Or.inl rfl) (pe_make M GI hr7 rfl W.g bI .nil (passes_call LamX.takes0 (fun _ _ _ _ h => h)) (pa_cons (pv 5) pa_nil)))
      (Evl.pss_cut (ps_for PassesOwn.never rfl (pi_list (pv 5)) (pg_name (i := 7) scLaw.nd rfl (Or.inl rfl))
        (pss_one (ps_expr (pe_bm PySem.F.plainAttrs_list PySem.F.slot_list_append PySem.F.type_list_append mt_append (pe_ix ix_list (pv 7) pe_int (fun _ _ => rfl)) (pa_cons pe_int pa_nil)))))
      (pss_cons (ps_expr (pe_bm PySem.F.plainAttrs_list PySem.F.slot_list_append PySem.F.type_list_append mt_append (pv 5) (pa_cons (pe_lst (pa_cons (pe_lst (pa_cons pe_int (pa_cons pe_int (pa_cons pe_int pa_nil)))) (pa_cons pe_int pa_nil))) pa_nil)))
      (Evl.pss_cut (ps_if (pt_not (pt_val (pe_call GU hr2 rfl Is.g Is.k Is.b .nil pass0 (pa_cons (pv 6) (pa_cons (pv 2) pa_nil))))) (pss_one (ps_ret pe_bl)) pss_nil)
      (pss_cons (ps_set (i := 8) scLaw.nd rfl (Or.inl rfl) (pe_lst (pa_cons pe_non (pa_cons pe_int (pa_cons (pe_tup pa_nil) (pa_cons (pe_tup (pa_cons (pe_tup (pa_cons pe_int (pa_cons pe_int (pa_cons pe_int pa_nil)))) pa_nil))
          (pa_cons (pe_tup (pa_cons (pe_tup (pa_cons pe_int (pa_cons pe_int pa_nil))) (pa_cons pe_int pa_nil))) (pa_cons (pe_tup (pa_cons (pe_tup (pa_cons pe_int (pa_cons pe_int (pa_cons pe_int pa_nil)))) (pa_cons pe_bl pa_nil)))
          (pa_cons (pe_tup (pa_cons (pe_tup (pa_cons pe_int (pa_cons pe_non (pa_cons pe_int pa_nil)))) (pa_cons pe_int pa_nil))) (pa_cons (pe_tup (pa_cons (pe_tup (pa_cons pe_int (pa_cons pe_int (pa_cons pe_int pa_nil)))) (pa_cons pe_str pa_nil))) pa_nil))))))))))
      (Evl.pss_cut (ps_set (i := 11) scLaw.nd rfl (Or.inr rfl) (pe_call G2 hr2 rfl Pi.g Pi.k Pi.b .nil pass0 (pa_cons (pv 1) (pa_cons (pe_op op_cat (pv 8) (pe_lst
          (pa_cons (pe_lst (pa_cons (pe_tup (pa_cons pe_int (pa_cons pe_int (pa_cons pe_bl pa_nil)))) (pa_cons pe_int pa_nil))) (pa_cons (pe_tup (pa_cons (pe_tup (pa_cons pe_int (pa_cons pe_int (pa_cons pe_int pa_nil)))) (pa_cons pe_int (pa_cons pe_int pa_nil))))
          (pa_cons (pe_tup (pa_cons (pe_tup (pa_cons pe_int (pa_cons pe_int (pa_cons pe_int (pa_cons pe_int pa_nil))))) (pa_cons pe_int pa_nil))) (pa_cons pe_str (pa_cons (pe_lst (pa_cons pe_int (pa_cons pe_int pa_nil))) (pa_cons pe_dnewK pa_nil)))))))) pa_nil))))
      (pss_cons (ps_set (i := 10) scLaw.nd rfl (Or.inr rfl) (pe_op op_cat (pe_callTy call_list_of (by rfl) B.list_ (by decide +kernel) (pa_cons (pe_call GT hr1 rfl Te.g Te.k Te.b .nil pass0 (pa_cons (pv 2) pa_nil)) pa_nil))
          (pe_lst (pa_cons (pe_tup (pa_cons (pe_tup (pa_cons pe_int (pa_cons pe_int (pa_cons pe_int pa_nil)))) (pa_cons pe_int pa_nil))) pa_nil))))
      (pss_cons (ps_set (i := 9) scLaw.nd rfl (Or.inr rfl) (pe_call G1 hr1 rfl Dr.g Dr.k Dr.b .nil pass0 (pa_cons (pv 1) (pa_cons (pe_op op_add (pe_callB call_len_seq (by rfl) B.len_ PySem.boot_len (pa_cons (pv 10) pa_nil)) pe_int) pa_nil))))
      (pss_one (ps_ret (pe_cmpR (op_eqG (D := DList fun x y H => DFlat x y H ∨ DId x y H) (rcG_list (n := 0) (Mon.or mon_flat mon_id) (EqG.or eqG_flat eqG_id)) hr1)
          (lam (LamX.lamS_by (by decide +kernel)) rfl (fun _ _ _ _ _ => rfl) (fun A' outer' s' H' E' f' c' hr' => pe_make M GI hr' rfl W.g bI .nil takesLam (pa_cons (pe_op op_cat (pe_op op_cat (pe_op op_cat (pe_slice (r := rSlL K) sl_list (pv 10) po_none (po_some (pv 9))) (pe_lst (pa_cons (pv 11) pa_nil)))
            (pe_slice (r := rSlL K) sl_list (pv 10) (po_some (pv 9)) po_none)) (pe_lst (pa_cons pe_non pa_nil))) pa_nil)))
          (pe_lst (pa_cons (pv 11) pa_nil)) (nomark _))))))))))))))))))), ?_⟩
    refine ⟨_, rfl, a, ns, rfl, hS, fun H0 d cc pen0 fr0 nd0 => ?_⟩
    have hP0 := fr0 _ _ hP
    refine ⟨_, rfl, d, cc, 0, rfl, pen0, by decide, by decide, fun D p n1 H1 b1 c1 pen1 of1 pd => ?_⟩
    have five := pd.few
    refine ⟨fun σ' H' => ∃ ao, σ' = [some (.ref a), some (.ref d), some (.ref D), some (.ref ao), none, none, none, none, none, none, none, none, none, none, none] ∧ LS C Pt d cc D ao p 500 H', ?_, ?_⟩
    · refine ⟨_, rfl, _, rfl, d, cc, D, n1, p, rfl, pen1, pd.px, by omega, b1, by omega, fun ao f' n2 H2 pob ef b2 c2 pen2 of2 => ?_⟩
      have ef' : f' = val p := funext ef
      subst ef'
      exact ⟨ao, rfl, ⟨n2, pen2, by omega, by omega⟩, pd.px.off of2 pen1.dk, pob, of2.at pen1.dk (of1.at pen0.dk hP0 (fun _ z => nomatch z)) (fun _ z => nomatch z)⟩
    clear of1 pd pen1 c1 b1 hP0 pen0 fr0 nd0 hP hS
    rintro σ3 H3 ⟨ao, rfl, s3⟩
    refine ⟨fun σ' H' => ∃ Rr l r0 r1 r2, σ' = [some (.ref a), some (.ref d), some (.ref D), some (.ref ao), some (.ref Rr), none, none, none, none, none, none, none, none, none, none] ∧ LS C Pt d cc D ao p 500 H' ∧ Canon (val p) l ∧ H' Rr = some (.lst [.int r0, .int r1, .int r2]) ∧
      Gr (ks l) 0 r0 ∧ Gr (ks l) 1 r1 ∧ Gr (ks l) 2 r2, ?_, ?_⟩
    · obtain ⟨l0, cl0⟩ : ∃ l0, Canon (val p) l0 := by
        obtain ⟨_, _, _, _, _, l, _, _, _, _, _, _, _, _, _, h6, _⟩ := s3.pob.ex
        exact ⟨l, h6⟩
      have three0 : ∀ e ∈ l0, e.1.length = 3 := canon_three cl0 s3.px.three
      refine ⟨3, rfl, by decide, by decide, fun D2 hD2 => lc_range (lo := 0) (n := 3) (fun i H' => ∃ ms : List Int, H' D2 = some (.lst (ms.map V.int)) ∧ ms.length = i ∧ (∀ j m, ms[j]? = some m → Gr (ks l0) j m) ∧ More H3 H')
        ⟨[], upd_same, rfl, fun j m h => (by rw [List.getElem?_nil] at h; cases h), new_more hD2⟩ ?_ ?_⟩
      · rintro i H4 hi ⟨ms, e1, e2, e3, m4⟩
        refine ⟨rfl, by show 1 ≤ sizeLine; decide, fun w1 nw1 => ?_⟩
        have m5 : More H4 (upd H4 w1 (.lst [.int 0])) := new_more nw1
        have hw1 : (upd H4 w1 (.lst [.int 0])) w1 = some (.lst [.int 0]) := upd_same
        generalize upd H4 w1 (HO.lst [.int 0]) = H5 at m5 hw1 ⊢
        refine ⟨_, rfl, D, p, rfl, s3.px.more fun b o h => m5 _ _ (m4 _ _ h), fun t l H6 cl tat m6 => ?_⟩
        have el : l = l0 := cl.one cl0
        subst el
        obtain ⟨L, u1, u2, u3⟩ := tat
        have three : ∀ e ∈ L, e.k.length = 3 := fun e he => three0 (e.k, e.n) (by rw [← u3]; exact List.mem_map.mpr ⟨e, he, rfl⟩)
        have fewL : L.length ≤ 300 := by
          have h1 := congrArg List.length u3
          rw [List.length_map] at h1
          have h2 := canon_few cl s3.px.nd
          omega
        refine ⟨t, rfl, ⟨_, SqT.of u1⟩, fun D3 hD3 => lc_it (walk_tup (xs := L.map fun e => V.ref e.p)) (fun j H' => H' D3 = some (.lst (((L.take j).map fun e => ((e.k.getD i 0).natAbs : Int)).map V.int)) ∧ More H6 H')
          ⟨upd_same, new_more hD3⟩ (fun i H' _ h => SqT.of (h.2 _ _ u1)) ?_ ?_⟩
        · rintro j x H7 H8 hj ⟨k1, k2⟩ ⟨rfl, hx⟩
          obtain ⟨e, he, rfl⟩ : ∃ e, L[j]? = some e ∧ x = .ref e.p := by
            rw [List.getElem?_map] at hx
            cases z : L[j]? with
            | none => rw [z] at hx; cases hx
            | some e => rw [z] at hx; exact ⟨e, rfl, (Option.some.inj hx).symm⟩
          have mem := List.mem_of_getElem? he
          obtain ⟨v1, v2⟩ := u2 e mem
          have li : i < e.k.length := by rw [three e mem]; exact hi
          have at_ : (e.k.map V.int)[i]? = some (V.int (e.k.getD i 0)) := by
            rw [List.getElem?_map, List.getD_eq_getElem?_getD, List.getElem?_eq_getElem li]
            rfl
          have lj : j < L.length := (List.getElem?_eq_some_iff.mp he).1
          refine ⟨e.p, _, rfl, SqT.of (k2 _ _ v1), rfl, _, _, rfl, _, _, rfl, rfl, rfl, _, rfl, _, rfl, e.b, _, _, _, rfl, rfl, SqT.of (k2 _ _ v2), at_of (Int.zero_add _) at_, _, rfl, _, k1, ?_, ?_, ?_⟩
          · rw [List.length_map, List.length_map, List.length_take]
            exact small1000 (by omega)
          · rw [upd_same, take_snoc he, List.map_append, List.map_append]
            have : (if e.k.getD i 0 < 0 then -e.k.getD i 0 else e.k.getD i 0) = ((e.k.getD i 0).natAbs : Int) := by
              generalize e.k.getD i 0 = y
              by_cases z : y < 0
              · rw [if_pos z]; omega
              · rw [if_neg z]; omega
            rw [this]
            rfl
          · intro b o h
            rw [upd_ne (ne_of_none h hD3)]
            exact k2 b o h
        · rintro H7 ⟨k1, k2⟩
          rw [List.length_map, List.take_length] at k1
          refine ⟨w1, D3, _, _, rfl, rfl, k2 _ _ (m6 _ _ hw1), k1, ?_, fun q nq => ?_⟩
          · rw [List.length_map, List.length_map, sizeLine_eq]
            show 1 + L.length ≤ _
            omega
          refine ⟨q, 0 :: (L.map fun e => ((e.k.getD i 0).natAbs : Int)), rfl, SqL.of upd_same, by show 0 < _ + 1; omega, fun m hm up => ?_⟩
          have mA : More H3 (upd H7 q (.lst ([V.int 0] ++ (L.map fun e => ((e.k.getD i 0).natAbs : Int)).map V.int))) := fun b o h => new_more nq _ _ (k2 _ _ (m6 _ _ (m5 _ _ (m4 _ _ h))))
          have eD2 : (upd H7 q (.lst ([V.int 0] ++ (L.map fun e => ((e.k.getD i 0).natAbs : Int)).map V.int))) D2 = some (.lst (ms.map V.int)) := new_more nq _ _ (k2 _ _ (m6 _ _ (m5 _ _ e1)))
          have ekl : ks l = L.map (·.k) := by
            rw [← u3]
            unfold ks
            rw [List.map_map]
            rfl
          have gr : Gr (ks l) i m := by
            refine ⟨?_, up 0 (.head _), fun k hk => ?_⟩
            · rcases List.mem_cons.mp hm with z | hm
              · exact .inl z
              · obtain ⟨e, he, z⟩ := List.mem_map.mp hm
                exact .inr ⟨e.k, by rw [ekl]; exact List.mem_map.mpr ⟨e, he, rfl⟩, z.symm⟩
            · rw [ekl] at hk
              obtain ⟨e, he, rfl⟩ := List.mem_map.mp hk
              exact up _ (.tail _ (List.mem_map.mpr ⟨e, he, rfl⟩))
          refine ⟨_, eD2, by rw [List.length_map]; exact small1000 (by omega), ms ++ [m], by rw [upd_same, List.map_append]; rfl, by rw [List.length_append, e2]; rfl, fun j m' hj => ?_, fun b o h => ?_⟩
          · by_cases lt : j < ms.length
            · rw [List.getElem?_append_left lt] at hj
              exact e3 j m' hj
            · have := (List.getElem?_eq_some_iff.mp hj).1
              rw [List.length_append] at this
              have this : j < ms.length + 1 := this
              have ej : j = ms.length := by omega
              subst ej
              rw [List.getElem?_append_right (Nat.le_refl _), Nat.sub_self] at hj
              cases hj
              rw [e2]
              exact gr
          · rw [upd_ne (ne_of_none h hD2)]
            exact mA b o h
      · rintro H4 ⟨ms, e1, e2, e3, m4⟩
        match ms, e2 with
        | [r0, r1, r2], _ => exact ⟨D2, l0, r0, r1, r2, rfl, s3.more m4, cl0, e1, e3 0 r0 rfl, e3 1 r1 rfl, e3 2 r2 rfl⟩
    rintro σ4 H4 ⟨Rr, l, r0, r1, r2, rfl, s4, cl, hR, k0, k1, k2⟩
    refine ⟨fun σ' H' => σ' = [some (.ref a), some (.ref d), some (.ref D), some (.ref ao), some (.ref Rr), none, none, none, none, none, none, none, none, none, none] ∧ LS C Pt d cc D ao p 500 H', ?_, ?_⟩
    · obtain ⟨dx, t, r, dd, fs, l', pp, m0, m1, m2, h1, h2, h3, h4, h5, h6, h7, ⟨h8a, h8b, h8c⟩, h9⟩ := s4.pob.ex
      have el : l' = l := h6.one cl
      subst el
      cases h8a.one k0
      cases h8b.one k1
      cases h8c.one k2
      refine ⟨_, rfl, _, rfl, ao, D, p, val p, rfl, s4.px, s4.pob, fun _ => rfl, fun H5 m5 => ⟨_, rfl, iteF ?_⟩⟩
      have s5 := s4.more m5
      refine ⟨_, rfl, ao, C, dx, fs, _, rfl, m5 _ _ h1, W.ic.cl, W.n2, h3, _, rfl, Rr, _, rfl, .inl ⟨SqL.of (m5 _ _ hR), fun l1 nl => ?_⟩⟩
      exact ⟨_, _, _, rfl, rfl, SqT.of (new_more nl _ _ (m5 _ _ h7)), SqT.of upd_same, rfl, _, rfl, iteF ⟨rfl, s5.more (new_more nl)⟩⟩
    clear cl hR k0 k1 k2 s4
    rintro σ5 H5 ⟨rfl, s5⟩
    refine ⟨fun σ' H' => ∃ z13 z14, σ' = [some (.ref a), some (.ref d), some (.ref D), some (.ref ao), some (.ref Rr), none, none, none, none, none, none, none, none, z13, z14] ∧ LS C Pt d cc D ao p 500 H', ?_, ?_⟩
    · obtain ⟨dx, t, r, dd, fs, l, pp, m0, m1, m2, h1, h2, h3, h4, ⟨L, u1, u2, u3⟩, h6, h7⟩ := s5.pob.ex
      refine ⟨_, rfl, ao, C, dx, fs, _, rfl, h1, W.ic.cl, W.n1, h2, t, rfl, ⟨_, SqT.of u1⟩, fun D3 hD3 => lc_it (walk_tup (xs := L.map fun e => V.ref e.p)) (fun j H' => H' D3 = some (.lst []) ∧ More H5 H')
        ⟨upd_same, new_more hD3⟩ (fun i H' _ h => SqT.of (h.2 _ _ u1)) ?_ ?_⟩
      · rintro j x H6 H7 hj ⟨k1, k2⟩ ⟨rfl, hx⟩
        obtain ⟨e, he, rfl⟩ : ∃ e, L[j]? = some e ∧ x = .ref e.p := by
          rw [List.getElem?_map] at hx
          cases z : L[j]? with
          | none => rw [z] at hx; cases hx
          | some e => rw [z] at hx; exact ⟨e, rfl, (Option.some.inj hx).symm⟩
        have mem := List.mem_of_getElem? he
        obtain ⟨v1, v2⟩ := u2 e mem
        refine ⟨e.p, _, rfl, SqT.of (k2 _ _ v1), rfl, _, _, rfl, _, _, rfl, rfl, ?_⟩
        exact ⟨rfl, _, rfl, .ref e.b, .ty "tuple", _, _, true, rfl, .ty "tuple", .base (.tup (k2 _ _ v2)), kit_ty seq_yes.1, _, rfl, iteF ⟨k1, k2⟩⟩
      · rintro H6 ⟨k1, k2⟩
        exact ⟨by show 0 ≤ sizeLine; decide, fun q nq => ⟨.list [], .list [], .lst (SqL.of (new_more nq _ _ k1)) .nil, .lst (SqL.of upd_same) .nil, by decide +kernel, by decide +kernel, _, rfl, iteF ⟨_, _, rfl, s5.more fun b o h => new_more nq _ _ (k2 b o h)⟩⟩⟩
    clear s5
    rintro σ6 H6 ⟨z13, z14, rfl, s6⟩
    refine ⟨fun σ' H' => ∃ z13 z14, σ' = [some (.ref a), some (.ref d), some (.ref D), some (.ref ao), some (.ref Rr), none, none, none, none, none, none, none, none, z13, z14] ∧ LS C Pt d cc D ao p 1000 H', ?_, ?_⟩
    · obtain ⟨n, pn, n0, n1⟩ := s6.pen
      refine ⟨_, rfl, _, rfl, _, rfl, d, cc, ao, D, n, p, val p, rfl, pn, n0, by omega, s6.px, s6.pob, fun _ => rfl, fun n2 H7 b1 b2 pen2 of2 => ?_⟩
      exact ⟨_, rfl, iteF ⟨_, _, rfl, s6.off of2 ⟨n2, pen2, by omega, by omega⟩⟩⟩
    clear s6
    rintro σ7 H7 ⟨z13, z14, rfl, s7⟩
    refine ⟨fun σ' H' => ∃ Rw L, σ' = [some (.ref a), some (.ref d), some (.ref D), some (.ref ao), some (.ref Rr), some (.ref Rw), none, none, none, none, none, none, none, z13, z14] ∧ Rows H7 H' p Rw L, ?_, ?_⟩
    · refine ⟨_, rfl, D, p, rfl, s7.px, fun t l H8 cl tat m8 => ?_⟩
      obtain ⟨L0, u1, u2, u3⟩ := tat
      have three : ∀ e ∈ L0, e.k.length = 3 := fun e he => canon_three cl s7.px.three (e.k, e.n) (by rw [← u3]; exact List.mem_map.mpr ⟨e, he, rfl⟩)
      have fewL : L0.length ≤ 300 := by
        have h1 := congrArg List.length u3
        rw [List.length_map] at h1
        have h2 := canon_few cl s7.px.nd
        have := s7.px.few
        omega
      refine ⟨t, rfl, ⟨_, SqT.of u1⟩, fun Rw hRw => lc_it (walk_tup (xs := L0.map fun e => V.ref e.p)) (fun j H' => ∃ L : List It3, H' Rw = some (.lst (L.map fun e => V.ref e.p)) ∧
          (∀ e ∈ L, H' e.p = some (.lst [.ref e.b, .int e.n]) ∧ H' e.b = some (.lst (e.k.map V.int)) ∧ H7 e.b = none ∧ e.p ≠ Rw ∧ e.b ≠ Rw) ∧ (L.map fun e => (e.k, e.n)) = ((L0.take j).map fun e => (e.k, e.n)) ∧ More H8 H')
        ⟨[], upd_same, (fun _ h => nomatch h), rfl, new_more hRw⟩ (fun i H' _ h => SqT.of (h.choose_spec.2.2.2 _ _ u1)) ?_ ?_⟩
      · rintro j x H9 H10 hj ⟨L, g1, g2, g3, g4⟩ ⟨rfl, hx⟩
        obtain ⟨e, he, rfl⟩ : ∃ e, L0[j]? = some e ∧ x = .ref e.p := by
          rw [List.getElem?_map] at hx
          cases z : L0[j]? with
          | none => rw [z] at hx; cases hx
          | some e => rw [z] at hx; exact ⟨e, rfl, (Option.some.inj hx).symm⟩
        have mem := List.mem_of_getElem? he
        obtain ⟨v1, v2⟩ := u2 e mem
        have lj : L.length ≤ 300 := by
          have h1 := congrArg List.length g3
          rw [List.length_map, List.length_map, List.length_take] at h1
          omega
        refine ⟨e.p, _, rfl, SqT.of (g4 _ _ v1), rfl, _, _, rfl, _, _, rfl, rfl, rfl, _, rfl, e.b, _, rfl, .inr (SqT.of (g4 _ _ v2)), fun q1 nq1 => ⟨_, rfl, by show 2 ≤ sizeLine; decide, fun q2 nq2 => ?_⟩⟩
        have mo : More H10 (upd (upd H10 q1 (.lst (e.k.map V.int))) q2 (.lst [.ref q1, .int e.n])) := (new_more nq1).new nq2
        have e1 : (upd (upd H10 q1 (.lst (e.k.map V.int))) q2 (.lst [.ref q1, .int e.n])) q1 = some (.lst (e.k.map V.int)) := by rw [upd_ne (ne_of_none upd_same nq2)]; exact upd_same
        have e2 : (upd (upd H10 q1 (.lst (e.k.map V.int))) q2 (.lst [.ref q1, .int e.n])) q2 = some (.lst [.ref q1, .int e.n]) := upd_same
        have f1 : H7 q1 = none := More.off m8 (More.off g4 nq1)
        have n1 : q1 ≠ Rw := fun z => by rw [z, g1] at nq1; cases nq1
        have n2 : q2 ≠ Rw := fun z => by
          have := new_more (o := .lst (e.k.map V.int)) nq1 _ _ g1
          rw [← z, nq2] at this
          cases this
        generalize upd (upd H10 q1 (HO.lst (e.k.map V.int))) q2 (.lst [.ref q1, .int e.n]) = H11 at mo e1 e2 ⊢
        refine ⟨_, mo _ _ g1, by rw [List.length_map]; exact small1000 (by omega), L ++ [⟨q2, q1, e.k, e.n⟩], by rw [upd_same, List.map_append]; rfl, fun x hx => ?_, by rw [List.map_append, g3, take_snoc he, List.map_append]; rfl, fun b o h => ?_⟩
        · rcases List.mem_append.mp hx with hx | hx
          · obtain ⟨w1, w2, w3, y1, y2⟩ := g2 x hx
            exact ⟨by rw [upd_ne y1]; exact mo _ _ w1, by rw [upd_ne y2]; exact mo _ _ w2, w3, y1, y2⟩
          · rw [List.mem_singleton] at hx
            subst hx
            exact ⟨by rw [upd_ne n2]; exact e2, by rw [upd_ne n1]; exact e1, f1, n2, n1⟩
        · rw [upd_ne (ne_of_none h hRw)]
          exact mo _ _ (g4 _ _ h)
      · rintro H9 ⟨L, g1, g2, g3, g4⟩
        rw [List.length_map, List.take_length, u3] at g3
        refine ⟨Rw, L, rfl, fun b o h => g4 _ _ (m8 _ _ h), More.off m8 hRw, g1, fun e he => ⟨(g2 e he).1, (g2 e he).2.1, (g2 e he).2.2.1⟩, by rw [g3]; exact cl, ?_, fun e he => ?_⟩
        · have h1 := congrArg List.length (g3.trans u3.symm)
          rw [List.length_map, List.length_map] at h1
          omega
        · have : (e.k, e.n) ∈ l := by rw [← g3]; exact List.mem_map.mpr ⟨e, he, rfl⟩
          exact canon_three cl s7.px.three _ this
    rintro σ8 H8 ⟨Rw, L, rfl, r8⟩
    refine ⟨fun σ' H' => ∃ ko, σ' = [some (.ref a), some (.ref d), some (.ref D), some (.ref ao), some (.ref Rr), some (.ref Rw), some (.ref ko), none, none, none, none, none, none, z13, z14] ∧ Rows H7 H' p Rw L ∧ Pob H' C ko (val p), ?_, ?_⟩
    · refine ⟨_, rfl, fun x dx nx ndx nne => ?_⟩
      have mH : More H8 (upd (upd H8 dx (.own x)) x (.ins C dx [])) := fun b o h => by
        rw [upd_ne (ne_of_none h nx), upd_ne (ne_of_none h ndx)]
        exact h
      have r9 := r8.keep mH
      have trm : Paired (fun u (e : List Int × Int) => Trm K (upd (upd H8 dx (.own x)) x (.ins C dx [])) u e.1 e.2) (L.map fun e => V.ref e.p) (L.map fun e => (e.k, e.n)) := by
        have := r9.it
        have t3 := r9.three
        generalize upd (upd H8 dx (HO.own x)) x (HO.ins C dx []) = HH at this ⊢
        clear r9 r8 mH
        induction L with
        | nil => exact .nil
        | cons e L ih =>
          obtain ⟨h1, h2, _⟩ := this e (.head _)
          exact .cons ⟨e.p, e.b, rfl, .inl (SqL.of h1), .inl (SqL.of h2), t3 e (.head _)⟩ (ih (fun x hx => t3 x (.tail _ hx)) fun x hx => this x (.tail _ hx))
      refine ⟨x, Rw, dx, _, rfl, upd_same, .inl (SqL.of r9.at_), by rw [List.length_map]; exact r8.few, .inl ⟨_, trm, fun H9 off9 pob => ⟨rfl, x, rfl, r8.keep (fun b o h => off9 _ _ (mH _ _ h) (ne_of_none h nx)), ?_⟩⟩⟩
      have e : tot (L.map fun e => (e.k, e.n)) = val p := funext fun k => tot_canon r8.cl k
      rw [e] at pob
      exact pob
    rintro σ9 H9 ⟨ko, rfl, r9, pk9⟩
    refine ⟨fun σ' H' => ∃ z7, σ' = [some (.ref a), some (.ref d), some (.ref D), some (.ref ao), some (.ref Rr), some (.ref Rw), some (.ref ko), z7, none, none, none, none, none, z13, z14] ∧ RowsM H7 H' Rw L L.length ∧ Pob H' C ko (val p), ?_, ?_⟩
    · refine ⟨_, rfl, Rw, rfl, ⟨_, SqL.of r9.at_⟩, for_it (walk_list (xs := L.map fun e => V.ref e.p)) (fun i σ' H' => ∃ z7, σ' = [some (.ref a), some (.ref d), some (.ref D), some (.ref ao), some (.ref Rr), some (.ref Rw), some (.ref ko), z7, none, none, none, none, none, z13, z14] ∧ RowsM H7 H' Rw L i ∧ Pob H' C ko (val p))
        ⟨none, rfl, ⟨r9.m, r9.at_, fun e he => ⟨(r9.it e he).1, (r9.it e he).2.2, e.k, (r9.it e he).2.1, fun z => (by have := r9.three e he; rw [z] at this; cases this), by rw [r9.three e he]; exact Nat.le_refl _⟩⟩, pk9⟩ (fun i σ' H' _ ⟨_, _, m, _⟩ => SqL.of m.at_) ?_ ?_⟩
      · rintro i x σ2 H2 H3 hi ⟨z7, rfl, rm, pk⟩ ⟨rfl, hx⟩
        obtain ⟨e, he, rfl⟩ : ∃ e, L[i]? = some e ∧ x = .ref e.p := by
          rw [List.getElem?_map] at hx
          cases z : L[i]? with
          | none => rw [z] at hx; cases hx
          | some e => rw [z] at hx; exact ⟨e, rfl, (Option.some.inj hx).symm⟩
        have mem := List.mem_of_getElem? he
        obtain ⟨v1, v2, ns, v3, v4, v5⟩ := rm.it e mem
        have li : i < L.length := (List.getElem?_eq_some_iff.mp he).1
        have few := r9.few
        refine ⟨_, rfl, e.p, _, _, _, rfl, rfl, SqL.of v1, at_of (j := 0) rfl rfl, .inl ⟨rfl, _, SqL.of v3⟩, e.b, _, _, rfl, rfl, v3, by rw [List.length_map]; exact small1000 (by omega), ?_⟩
        refine ⟨_, rfl, ?_, ?_⟩
        · have := rm.step mem v3 v4 v5
          rw [List.map_append] at this
          exact this
        · refine Pob.ofl (d := d) (fun b o h nd nl => ?_) ?_ pk
          · rw [upd_ne (fun z => by rw [z, v3] at h; exact nl _ (Option.some.inj h).symm)]
            exact h
          · obtain ⟨n, pn, _⟩ := s7.pen
            obtain ⟨kvs, h⟩ := pn.dk
            exact ⟨kvs, rm.m _ _ h⟩
      · rintro σ2 H2 ⟨z7, rfl, rm, pk⟩
        rw [List.length_map] at rm
        exact ⟨z7, rfl, rm, pk⟩
    rintro σ10 H10 ⟨z7, rfl, r10, pk10⟩
    refine ⟨_, rfl, .inl ⟨rfl, _, SqL.of r10.at_⟩, by show 3 ≤ sizeLine; decide, fun q1 nq1 => ⟨by show 2 ≤ sizeLine; decide, fun q2 nq2 => ?_⟩⟩
    have m11 : More H10 (upd (upd H10 q1 (.lst [.int 0, .int 0, .int 0])) q2 (.lst [.ref q1, .int 1])) := (new_more nq1).new nq2
    have few := r9.few
    refine ⟨Rw, _, _, rfl, rfl, m11 _ _ r10.at_, by rw [List.length_map]; exact small1000 (by omega), ?_⟩
    generalize upd (upd H10 q1 (HO.lst [.int 0, .int 0, .int 0])) q2 (HO.lst [.ref q1, .int 1]) = H11 at m11 ⊢
    have R11 := m11 _ _ r10.at_
    have pk11 : Pob (upd H11 Rw (.lst ((L.map fun e => V.ref e.p) ++ [.ref q2]))) C ko (val p) := by
      refine Pob.ofl (d := d) (fun b o h nd nl => ?_) ?_ (pk10.more m11)
      · rw [upd_ne (fun z => by rw [z, R11] at h; exact nl _ (Option.some.inj h).symm)]
        exact h
      · obtain ⟨n, pn, _⟩ := s7.pen
        obtain ⟨kvs, h⟩ := pn.dk
        exact ⟨kvs, m11 _ _ (r10.m _ _ h)⟩
    have s11 : LS C Pt d cc D ao p 1000 (upd H11 Rw (.lst ((L.map fun e => V.ref e.p) ++ [.ref q2]))) := s7.more fun b o h => by
      rw [upd_ne (ne_of_none h r9.n)]
      exact m11 _ _ (r10.m _ _ h)
    generalize upd H11 Rw (HO.lst ((L.map fun e => V.ref e.p) ++ [.ref q2])) = H12 at pk11 s11 ⊢
    refine ⟨fun σ' H' => ∃ z8 z11, σ' = [some (.ref a), some (.ref d), some (.ref D), some (.ref ao), some (.ref Rr), some (.ref Rw), some (.ref ko), z7, z8, none, none, z11, none, z13, z14] ∧ LS C Pt d cc D ao p 1000 H', ?_, ?_⟩
    · exact ⟨_, rfl, _, rfl, ko, D, p, val p, rfl, s11.px, pk11, fun _ => rfl, fun H' m => ⟨_, rfl, iteF ⟨_, _, rfl, s11.more m⟩⟩⟩
    clear s11 pk11 R11 m11 few r10 pk10 r9 pk9 r8 s7
    rintro σ12 H12 ⟨z8, z11, rfl, s12⟩
    refine ⟨by show 0 ≤ sizeLine; decide, fun q0 n0 => ?_⟩
    have m0 : More H12 (upd H12 q0 (.tup [])) := new_more n0
    have x0 : Odds K (upd H12 q0 (.tup [])) [.ref q0, .int 5, .non] := by
      intro x hx
      rcases List.mem_cons.mp hx with rfl | hx
      · exact ⟨.inr (.inl ⟨q0, [], rfl, .inr (SqT.of upd_same), by decide, by decide⟩), .inr ⟨_, rfl⟩⟩
      rcases List.mem_cons.mp hx with rfl | hx
      · exact ⟨.inl ⟨"int", by decide, .base (.int _)⟩, .inl ⟨rfl, by decide⟩⟩
      rw [List.mem_singleton] at hx
      subst hx
      exact ⟨.inl ⟨"NoneType", by decide, .base .non⟩, .inl ⟨rfl, by decide⟩⟩
    generalize upd H12 q0 (HO.tup []) = G0 at m0 x0 ⊢
    have st0 := s12.more m0
    clear s12
    refine ⟨by show 3 ≤ sizeLine; decide, fun q1 n1 => ⟨by show 1 ≤ sizeLine; decide, fun q2 n2 => ?_⟩⟩
    obtain ⟨m, e1, e2⟩ := two (o1 := .tup [.int 0, .int 0, .int 0]) (o2 := .tup [.ref q1]) n1 n2
    have x1 := x0.put m (y := .ref q2) (.inr (.inl ⟨q2, _, rfl, .inr (SqT.of e2), by show 1 ≠ 2; decide, by show 1 ≤ 1000; decide⟩)) (.inr ⟨_, rfl⟩)
    have st1 := st0.more m
    generalize upd (upd G0 q1 (HO.tup [.int 0, .int 0, .int 0])) q2 (HO.tup [.ref q1]) = G1 at x1 st1 ⊢
    clear m e1 e2 n1 n2 x0 st0 n0 m0
    refine ⟨by show 2 ≤ sizeLine; decide, fun q3 n1 => ⟨by show 2 ≤ sizeLine; decide, fun q4 n2 => ?_⟩⟩
    obtain ⟨m, e1, e2⟩ := two (o1 := .tup [.int 0, .int 0]) (o2 := .tup [.ref q3, .int 1]) n1 n2
    have x2 := x1.put m (y := .ref q4) (noTrm_row (.inr (SqT.of e2)) e1 (by decide) (by simp) (.inl (by decide))) (.inr ⟨_, rfl⟩)
    have st2 := st1.more m
    generalize upd (upd G1 q3 (HO.tup [.int 0, .int 0])) q4 (HO.tup [.ref q3, .int 1]) = G2 at x2 st2 ⊢
    clear m e1 e2 n1 n2 x1 st1
    refine ⟨by show 3 ≤ sizeLine; decide, fun q5 n1 => ⟨by show 2 ≤ sizeLine; decide, fun q6 n2 => ?_⟩⟩
    obtain ⟨m, e1, e2⟩ := two (o1 := .tup [.int 0, .int 0, .int 0]) (o2 := .tup [.ref q5, .bl true]) n1 n2
    have x3 := x2.put m (y := .ref q6) (noTrm_row (.inr (SqT.of e2)) e1 (by decide) (by simp) (.inr ⟨"bool", by decide, .base (.bl _)⟩)) (.inr ⟨_, rfl⟩)
    have st3 := st2.more m
    generalize upd (upd G2 q5 (HO.tup [.int 0, .int 0, .int 0])) q6 (HO.tup [.ref q5, .bl true]) = G3 at x3 st3 ⊢
    clear m e1 e2 n1 n2 x2 st2
    refine ⟨by show 3 ≤ sizeLine; decide, fun q7 n1 => ⟨by show 2 ≤ sizeLine; decide, fun q8 n2 => ?_⟩⟩
    obtain ⟨m, e1, e2⟩ := two (o1 := .tup [.int 0, .non, .int 0]) (o2 := .tup [.ref q7, .int 1]) n1 n2
    have x4 := x3.put m (y := .ref q8) (noTrm_row (.inr (SqT.of e2)) e1 (by decide) (by simp) (.inl (by decide))) (.inr ⟨_, rfl⟩)
    have st4 := st3.more m
    generalize upd (upd G3 q7 (HO.tup [.int 0, .non, .int 0])) q8 (HO.tup [.ref q7, .int 1]) = G4 at x4 st4 ⊢
    clear m e1 e2 n1 n2 x3 st3
    refine ⟨by show 3 ≤ sizeLine; decide, fun q9 n1 => ⟨by show 2 ≤ sizeLine; decide, fun q10 n2 => ?_⟩⟩
    obtain ⟨m, e1, e2⟩ := two (o1 := .tup [.int 0, .int 0, .int 0]) (o2 := .tup [.ref q9, .str "1"]) n1 n2
    have x5 := x4.put m (y := .ref q10) (noTrm_row (.inr (SqT.of e2)) e1 (by decide) (by simp) (.inr ⟨"str", by decide, .base (.str _)⟩)) (.inr ⟨_, rfl⟩)
    have st5 := st4.more m
    generalize upd (upd G4 q9 (HO.tup [.int 0, .int 0, .int 0])) q10 (HO.tup [.ref q9, .str "1"]) = G5 at x5 st5 ⊢
    clear m e1 e2 n1 n2 x4 st4
    refine ⟨by show 8 ≤ sizeLine; decide, fun bd nbd => ?_⟩
    have hbd : (upd G5 bd (.lst [.non, .int 5, .ref q0, .ref q2, .ref q4, .ref q6, .ref q8, .ref q10])) bd = some (.lst [.non, .int 5, .ref q0, .ref q2, .ref q4, .ref q6, .ref q8, .ref q10]) := upd_same
    have x6 := x5.more (new_more (o := .lst [.non, .int 5, .ref q0, .ref q2, .ref q4, .ref q6, .ref q8, .ref q10]) nbd)
    have st6 := st5.more (new_more (o := .lst [.non, .int 5, .ref q0, .ref q2, .ref q4, .ref q6, .ref q8, .ref q10]) nbd)
    generalize upd G5 bd (HO.lst [.non, .int 5, .ref q0, .ref q2, .ref q4, .ref q6, .ref q8, .ref q10]) = G6 at hbd x6 st6 ⊢
    clear nbd x5 st5
    refine ⟨fun σ' H' => ∃ odd, σ' = [some (.ref a), some (.ref d), some (.ref D), some (.ref ao), some (.ref Rr), some (.ref Rw), some (.ref ko), z7, some (.ref bd), none, none, some odd, none, z13, z14] ∧ LS C Pt d cc D ao p 1001 H' ∧ NoTrm K H' odd ∧ Self odd, ?_, ?_⟩
    · refine ⟨_, rfl, _, rfl, by show 3 ≤ sizeLine; decide, fun q11 n1 => ⟨by show 2 ≤ sizeLine; decide, fun q12 n2 => ?_⟩⟩
      obtain ⟨m, e1, e2⟩ := two (o1 := .tup [.int 0, .int 0, .bl true]) (o2 := .lst [.ref q11, .int 1]) n1 n2
      have x7 := x6.put m (y := .ref q12) (noTrm_row (.inl (SqL.of e2)) e1 (by decide) (by simp) (.inl (by decide))) (.inr ⟨_, rfl⟩)
      have st7 := st6.more m
      have hb7 := m _ _ hbd
      generalize upd (upd G6 q11 (HO.tup [.int 0, .int 0, .bl true])) q12 (HO.lst [.ref q11, .int 1]) = G7 at x7 st7 hb7 ⊢
      clear m e1 e2 n1 n2 x6 st6 hbd
      refine ⟨by show 3 ≤ sizeLine; decide, fun q13 n1 => ⟨by show 3 ≤ sizeLine; decide, fun q14 n2 => ?_⟩⟩
      obtain ⟨m, e1, e2⟩ := two (o1 := .tup [.int 0, .int 0, .int 0]) (o2 := .tup [.ref q13, .int 1, .int 2]) n1 n2
      have x8 := x7.put m (y := .ref q14) (.inr (.inl ⟨q14, _, rfl, .inr (SqT.of e2), by show 3 ≠ 2; decide, by show 3 ≤ 1000; decide⟩)) (.inr ⟨_, rfl⟩)
      have st8 := st7.more m
      have hb8 := m _ _ hb7
      generalize upd (upd G7 q13 (HO.tup [.int 0, .int 0, .int 0])) q14 (HO.tup [.ref q13, .int 1, .int 2]) = G8 at x8 st8 hb8 ⊢
      clear m e1 e2 n1 n2 x7 st7 hb7
      refine ⟨by show 4 ≤ sizeLine; decide, fun q15 n1 => ⟨by show 2 ≤ sizeLine; decide, fun q16 n2 => ?_⟩⟩
      obtain ⟨m, e1, e2⟩ := two (o1 := .tup [.int 0, .int 0, .int 0, .int 0]) (o2 := .tup [.ref q15, .int 1]) n1 n2
      have x9 := x8.put m (y := .ref q16) (noTrm_row (.inr (SqT.of e2)) e1 (by decide) (by simp) (.inl (by decide))) (.inr ⟨_, rfl⟩)
      have st9 := st8.more m
      have hb9 := m _ _ hb8
      generalize upd (upd G8 q15 (HO.tup [.int 0, .int 0, .int 0, .int 0])) q16 (HO.tup [.ref q15, .int 1]) = G9 at x9 st9 hb9 ⊢
      clear m e1 e2 n1 n2 x8 st8 hb8
      have x10 := x9.put (fun _ _ h => h) (y := .str "ab") (.inl ⟨"str", by decide, .base (.str _)⟩) (.inl ⟨rfl, by decide⟩)
      refine ⟨by show 2 ≤ sizeLine; decide, fun q17 n1 q18 n2 => ?_⟩
      obtain ⟨m, e1, e2⟩ := two (o1 := .lst [.int 5, .int 1]) (o2 := .dK []) n1 n2
      have x11 := (x10.put m (y := .ref q17) (.inr (.inr ⟨q17, _, _, rfl, .inl (SqL.of e1), .inl ⟨"int", by decide, .base (.int _)⟩⟩)) (.inr ⟨_, rfl⟩)).put (fun _ _ h => h) (y := .ref q18) (.inl ⟨"dict", by decide, .base (.dK e2)⟩) (.inr ⟨_, rfl⟩)
      have st11 := st9.more m
      have hb11 := m _ _ hb9
      generalize upd (upd G9 q17 (HO.lst [.int 5, .int 1])) q18 (HO.dK []) = G11 at x11 st11 hb11 ⊢
      clear m e1 e2 n1 n2 x9 x10 st9 hb9
      refine ⟨by show 6 ≤ sizeLine; decide, fun l19 n19 => ⟨bd, l19, _, _, rfl, rfl, new_more n19 _ _ hb11, upd_same, by show 8 + 6 ≤ sizeLine; decide, fun lp nlp => ?_⟩⟩
      have mo := (new_more (o := .lst [.ref q12, .ref q14, .ref q16, .str "ab", .ref q17, .ref q18]) n19).new (o := .lst ([.non, .int 5, .ref q0, .ref q2, .ref q4, .ref q6, .ref q8, .ref q10] ++ [.ref q12, .ref q14, .ref q16, .str "ab", .ref q17, .ref q18])) nlp
      have x12 := x11.more mo
      have st12 := st11.more mo
      obtain ⟨n, pn, n0, n1⟩ := st12.pen
      refine ⟨d, cc, lp, n, _, rfl, pn, upd_same, by show 0 < 14; decide, by show 14 ≤ 1000; decide, n0, by omega, fun x H' hx dr => ?_⟩
      have hk := x12 x (by
        have : x ∈ [V.non, .int 5, .ref q0, .ref q2, .ref q4, .ref q6, .ref q8, .ref q10] ++ [.ref q12, .ref q14, .ref q16, .str "ab", .ref q17, .ref q18] := hx
        simp only [List.mem_append, List.mem_cons, List.not_mem_nil, or_false] at this ⊢
        grind)
      exact ⟨x, rfl, st12.off (Off.dr dr) ⟨n + 1, dr.pen, by omega, by omega⟩, hk.1.kp (Kp.off (Off.dr dr) pn.dk dr.pen.dk), hk.2⟩
    clear x6 st6 hbd
    rintro σ14 H14 ⟨odd, rfl, s14, noOdd, selfOdd⟩
    clear z8 z11 H12
    refine ⟨_, rfl, D, p, rfl, s14.px, fun t l H15 cl tat m15 => ?_⟩
    obtain ⟨L2, u1, u2, u3⟩ := tat
    have three2 : ∀ e ∈ L2, e.k.length = 3 := fun e he => canon_three cl s14.px.three (e.k, e.n) (by rw [← u3]; exact List.mem_map.mpr ⟨e, he, rfl⟩)
    have few2 : L2.length ≤ 5 := by
      have h1 := congrArg List.length u3
      rw [List.length_map] at h1
      have h2 := canon_few cl s14.px.nd
      omega
    refine ⟨t, _, rfl, .inr (SqT.of u1), fun Lr nLr => ⟨by show 3 ≤ sizeLine; decide, fun q1 n1 => ⟨by show 2 ≤ sizeLine; decide, fun q2 n2 => ⟨by show 1 ≤ sizeLine; decide, fun q3 n3 => ?_⟩⟩⟩⟩
    have eLr0 : (upd H15 Lr (.lst (L2.map fun e => V.ref e.p))) Lr = some (.lst (L2.map fun e => V.ref e.p)) := upd_same
    have mLr : More H15 (upd H15 Lr (.lst (L2.map fun e => V.ref e.p))) := new_more nLr
    generalize upd H15 Lr (HO.lst (L2.map fun e => V.ref e.p)) = HB at eLr0 mLr n1 n2 n3 ⊢
    obtain ⟨mq, f1, f2⟩ := two (o1 := .tup [.int 1, .int 1, .int 1]) (o2 := .tup [.ref q1, .int 2]) n1 n2
    generalize upd (upd HB q1 (HO.tup [.int 1, .int 1, .int 1])) q2 (HO.tup [.ref q1, .int 2]) = HC at mq f1 f2 n3 ⊢
    have eLr := new_more (o := .lst [.ref q2]) n3 _ _ (mq _ _ eLr0)
    have mC : More H15 (upd HC q3 (.lst [.ref q2])) := fun b o h => new_more n3 _ _ (mq _ _ (mLr _ _ h))
    have f1' := new_more (o := .lst [.ref q2]) n3 _ _ f1
    have f2' := new_more (o := .lst [.ref q2]) n3 _ _ f2
    refine ⟨Lr, q3, _, _, rfl, rfl, eLr, upd_same, by rw [List.length_map]; exact Nat.le_trans (show L2.length + 1 ≤ 6 by omega) (by decide), fun It nIt => ?_⟩
    have mI : More H15 (upd (upd HC q3 (.lst [.ref q2])) It (.lst ((L2.map fun e => V.ref e.p) ++ [.ref q2]))) := mC.new nIt
    have s16 := s14.more fun b o h => mI _ _ (m15 _ _ h)
    have no16 := noOdd.more fun b o h => mI _ _ (m15 _ _ h)
    obtain ⟨L3, hL3, hIt, it3, three3, few3⟩ : ∃ L3 : List It3, ((L2.map fun e => V.ref e.p) ++ [.ref q2]) = L3.map (fun e => V.ref e.p) ∧ (upd (upd HC q3 (.lst [.ref q2])) It (.lst ((L2.map fun e => V.ref e.p) ++ [.ref q2]))) It = some (.lst (L3.map fun e => V.ref e.p)) ∧
        (∀ e ∈ L3, (upd (upd HC q3 (.lst [.ref q2])) It (.lst ((L2.map fun e => V.ref e.p) ++ [.ref q2]))) e.p = some (.tup [.ref e.b, .int e.n]) ∧ (upd (upd HC q3 (.lst [.ref q2])) It (.lst ((L2.map fun e => V.ref e.p) ++ [.ref q2]))) e.b = some (.tup (e.k.map V.int))) ∧ (∀ e ∈ L3, e.k.length = 3) ∧ L3.length ≤ 6 := by
      refine ⟨L2 ++ [⟨q2, q1, [1, 1, 1], 2⟩], by rw [List.map_append]; rfl, by rw [upd_same, List.map_append]; rfl, fun e he => ?_, fun e he => ?_, by rw [List.length_append]; show L2.length + 1 ≤ 6; omega⟩
      · rcases List.mem_append.mp he with he | he
        · exact ⟨mI _ _ (u2 e he).1, mI _ _ (u2 e he).2⟩
        · rw [List.mem_singleton] at he
          subst he
          exact ⟨new_more nIt _ _ f2', new_more nIt _ _ f1'⟩
      · rcases List.mem_append.mp he with he | he
        · exact three2 e he
        · rw [List.mem_singleton] at he
          subst he
          rfl
    generalize upd (upd HC q3 (HO.lst [.ref q2])) It (HO.lst ((L2.map fun e => V.ref e.p) ++ [.ref q2])) = H16 at hIt it3 s16 no16 ⊢
    clear mI f1' f2' mC eLr hL3 f1 f2 mq eLr0 mLr u1 u2 u3 cl m15 nLr n1 n2 n3 nIt s14 noOdd three2
    obtain ⟨n, pn, n0, n1⟩ := s16.pen
    refine ⟨_, rfl, _, rfl, It, _, rfl, .inl (SqL.of hIt), _, _, rfl, rfl, d, cc, n, _, rfl, pn, by omega, by rw [List.length_map]; omega, n0, by omega, fun r H17 r0 r1 dr => ?_⟩
    have of17 := Off.dr dr
    have kp17 := Kp.off of17 pn.dk dr.pen.dk
    have s17 := s16.off of17 (M := 1002) ⟨n + 1, dr.pen, by omega, by omega⟩
    refine ⟨fun p hp => ?_, fun H18 ext tabs => ?_⟩
    · rw [List.mem_singleton] at hp
      subst hp
      exact LamX.TabS.nil s17.pt
    have kp18 : Kp H16 H18 := fun b o h nt => by
      rcases kp17 b o h nt with ⟨⟨kvs, rfl⟩, kvs', z⟩ | z
      · exact .inl ⟨⟨_, rfl⟩, kvs', ext _ _ z (fun _ z => nomatch z)⟩
      · exact .inr (ext _ _ z nt)
    have hIt18 := kp18.at hIt (fun _ z => nomatch z) (fun _ z => nomatch z)
    have it18 : ∀ e ∈ L3, H18 e.p = some (.tup [.ref e.b, .int e.n]) ∧ H18 e.b = some (.tup (e.k.map V.int)) := fun e he => ⟨kp18.at (it3 e he).1 (fun _ z => nomatch z) (fun _ z => nomatch z), kp18.at (it3 e he).2 (fun _ z => nomatch z) (fun _ z => nomatch z)⟩
    have no18 := no16.kp kp18
    clear kp18 ext tabs kp17 s17 of17 dr hIt it3 no16 s16 pn
    obtain ⟨k, rfl⟩ := Int.eq_ofNat_of_zero_le r0
    have hk : k ≤ L3.length := by
      have : (k : Int) < (((L3.map fun e => V.ref e.p).length : Nat) : Int) + 1 := r1
      rw [List.length_map] at this
      omega
    have cA : cutV (L3.map fun e => V.ref e.p) none (some (k : Int)) = (L3.map fun e => V.ref e.p).take k := by
      unfold cutV
      rw [HT.sIx_none, HT.sIx_nat, List.drop_zero, Nat.sub_zero, List.length_map, Nat.min_eq_left hk]
    have lA : ((L3.map fun e => V.ref e.p).take k).length = k := by
      rw [List.length_take, List.length_map]
      exact Nat.min_eq_left hk
    have lB := cutV_length (L3.map fun e => V.ref e.p) (some (k : Int)) none
    refine ⟨_, rfl, _, rfl, _, rfl, It, _, rfl, SqL.of hIt18, fun p1 np1 => ?_⟩
    rw [cA]
    have g1 : (upd H18 p1 (.lst ((L3.map fun e => V.ref e.p).take k))) p1 = some (.lst ((L3.map fun e => V.ref e.p).take k)) := upd_same
    have m1 : More H18 (upd H18 p1 (.lst ((L3.map fun e => V.ref e.p).take k))) := new_more np1
    generalize upd H18 p1 (HO.lst ((L3.map fun e => V.ref e.p).take k)) = X1 at g1 m1 ⊢
    refine ⟨_, rfl, by show 1 ≤ sizeLine; decide, fun p2 np2 => ⟨p1, p2, _, _, rfl, rfl, new_more np2 _ _ g1, upd_same, by rw [lA]; exact Nat.le_trans (show k + 1 ≤ 7 by omega) (by decide), fun p3 np3 => ?_⟩⟩
    have g3 : (upd (upd X1 p2 (.lst [odd])) p3 (.lst ((L3.map fun e => V.ref e.p).take k ++ [odd]))) p3 = some (.lst ((L3.map fun e => V.ref e.p).take k ++ [odd])) := upd_same
    have m3 : More H18 (upd (upd X1 p2 (.lst [odd])) p3 (.lst ((L3.map fun e => V.ref e.p).take k ++ [odd]))) := fun b o h => new_more np3 _ _ (new_more np2 _ _ (m1 _ _ h))
    generalize upd (upd X1 p2 (HO.lst [odd])) p3 (HO.lst ((L3.map fun e => V.ref e.p).take k ++ [odd])) = X3 at g3 m3 ⊢
    clear g1 m1 np1 np2 np3
    refine ⟨_, rfl, _, rfl, _, rfl, It, _, rfl, SqL.of (m3 _ _ hIt18), fun p4 np4 => ?_⟩
    generalize cutV (L3.map fun e => V.ref e.p) (some (k : Int)) none = Bs at lB ⊢
    rw [List.length_map] at lB
    refine ⟨p3, p4, _, _, rfl, rfl, new_more np4 _ _ g3, upd_same, by rw [List.length_append, lA]; exact Nat.le_trans (show k + 1 + Bs.length ≤ 13 by omega) (by decide), fun p5 np5 => ?_⟩
    have g5 : (upd (upd X3 p4 (.lst Bs)) p5 (.lst (((L3.map fun e => V.ref e.p).take k ++ [odd]) ++ Bs))) p5 = some (.lst (((L3.map fun e => V.ref e.p).take k ++ [odd]) ++ Bs)) := upd_same
    have m5 : More H18 (upd (upd X3 p4 (.lst Bs)) p5 (.lst (((L3.map fun e => V.ref e.p).take k ++ [odd]) ++ Bs))) := fun b o h => new_more np5 _ _ (new_more np4 _ _ (m3 _ _ h))
    generalize upd (upd X3 p4 (HO.lst Bs)) p5 (HO.lst (((L3.map fun e => V.ref e.p).take k ++ [odd]) ++ Bs)) = X5 at g5 m5 ⊢
    clear g3 m3 np4 np5
    refine ⟨by show 1 ≤ sizeLine; decide, fun p6 np6 => ⟨p5, p6, _, _, rfl, rfl, new_more np6 _ _ g5, upd_same, by rw [List.length_append, List.length_append, lA]; exact Nat.le_trans (show k + 1 + Bs.length + 1 ≤ 14 by omega) (by decide), fun p7 np7 => ?_⟩⟩
    have g7 : (upd (upd X5 p6 (.lst [.non])) p7 (.lst ((((L3.map fun e => V.ref e.p).take k ++ [odd]) ++ Bs) ++ [.non]))) p7 = some (.lst ((((L3.map fun e => V.ref e.p).take k ++ [odd]) ++ Bs) ++ [.non])) := upd_same
    have m7 : More H18 (upd (upd X5 p6 (.lst [.non])) p7 (.lst ((((L3.map fun e => V.ref e.p).take k ++ [odd]) ++ Bs) ++ [.non]))) := fun b o h => new_more np7 _ _ (new_more np6 _ _ (m5 _ _ h))
    generalize upd (upd X5 p6 (HO.lst [.non])) p7 (HO.lst ((((L3.map fun e => V.ref e.p).take k ++ [odd]) ++ Bs) ++ [.non])) = X7 at g7 m7 ⊢
    clear g5 m5 np6 np7
    intro x dx nx ndx nne
    have mH : More X7 (upd (upd X7 dx (.own x)) x (.ins C dx [])) := fun b o h => by
      rw [upd_ne (ne_of_none h nx), upd_ne (ne_of_none h ndx)]
      exact h
    have g8 := mH _ _ g7
    have m8 : More H18 (upd (upd X7 dx (.own x)) x (.ins C dx [])) := fun b o h => mH _ _ (m7 _ _ h)
    refine ⟨x, p7, dx, _, rfl, upd_same, .inl (SqL.of g8), by rw [List.length_append, List.length_append, List.length_append, lA]; show k + 1 + Bs.length + 1 ≤ 300; omega, .inr ⟨k, odd, ?_, no18.more m8, fun j y hj hy => ?_, fun H' m => ?_⟩⟩
    · rw [List.append_assoc, List.append_assoc, List.getElem?_append_right (by rw [lA]; exact Nat.le_refl _), lA, Nat.sub_self]
      rfl
    · rw [List.append_assoc, List.append_assoc, List.getElem?_append_left (by rw [lA]; exact hj), List.getElem?_take_of_lt hj, List.getElem?_map] at hy
      cases z : L3[j]? with
      | none => rw [z] at hy; cases hy
      | some e =>
        rw [z] at hy
        cases hy
        have mem := List.mem_of_getElem? z
        obtain ⟨v1, v2⟩ := it18 e mem
        exact ⟨e.k, e.n, e.p, e.b, rfl, .inr (SqT.of (m8 _ _ v1)), .inr (m8 _ _ v2), three3 e mem⟩
    · intro dd ndd
      refine ⟨rfl, dd, odd, rfl, upd_same, fun l1 nl1 => ⟨_, rfl, by show 1 ≤ sizeLine; decide, fun w1 nw1 => ⟨⟨l1, w1, [odd], [odd], rfl, rfl, new_more nw1 _ _ upd_same, upd_same, .cons ?_ .nil⟩, fun H9 _ => fin H9⟩⟩⟩
      rcases selfOdd with ⟨f1, f2⟩ | ⟨q, rfl⟩
      · exact .inl ⟨f1, f1, f2⟩
      · exact .inr ⟨q, rfl, rfl⟩
end
end K09

namespace K09
open PySem L2 Gd Ply
/-! ### what the top has written -/
structure ErIn (K : PySem.W.Frag) (x : Str) (C : Addr) : Prop where
  aC : PySem.W.nsIn K mainGlobals x = some (some (.ref C))
  kC : PySem.W.keepIn K (.ref C) = true
  ga : PySem.W.findIn K (.ref C) "__getattribute__" = some (some (.builtin "BaseException.__getattribute__"))
  gg : PySem.W.findIn K (.ref C) "__getattr__" = some none
  be : PySem.W.subIn K (.ref C) (.type "BaseException") = some true
  hd : PySem.W.hasDictIn K C = true
structure IniIn (K : PySem.W.Frag) (q : Str) (st : Stmt) (C fI : Addr) (oc kV dc pm cd ct : Value) (od an : Option Addr) (sl : Array (Option Value)) (nm q' : Str) (N : Addr) (bs : List Value) (ce : Addr) (sn : List Str) (sub : List Value) (ab : Bool) (col : Option Bool) (dd : Option Addr) (m0 m1 m2 m3 m5 : Option Value) : Prop where
  xL : K.lookup C = some (excClassObj nm q' C N bs [.ref ce, .type "ValueError", .type "Exception", .type "BaseException", .type "object"] true sn sub ab col dd m0 m1 m2 m3 m5 "ValueError.__new__")
  sa : PySem.W.findIn K (.ref C) "__setattr__" = some (some (.builtin "object.__setattr__"))
  tC : PySem.W.typeIn K (.ref C) = some (.type "type")
  iC : PySem.W.findIn K (.ref C) "__init__" = some (some (.ref fI))
  tI : PySem.W.typeIn K (.ref fI) = some (.type "function")
  lI : K.lookup fI = some ⟨oc, od, .func (PySem.W.fnOf "__init__" q (defArgs st) (defBody st) (defScope st) .none kV dc pm an cd ct), sl⟩
  cI : PySem.W.codeIn K cd q = true
  kI : PySem.W.keepIn K (.ref fI) = true
theorem er_of {K : PySem.W.Frag} {h : Heap} {mg : Str → Option Value} (X : K.In h) (G : h.Ns mainGlobals mg) {x q : Str} {st : Stmt} {fs : List Str} {C fI : Addr} {oc kV dc pm cd ct : Value} {od an : Option Addr} {sl : Array (Option Value)} {nm q' : Str} {N : Addr} {bs : List Value} {ce : Addr} {sn : List Str} {sub : List Value} {ab : Bool} {col : Option Bool} {dd : Option Addr} {m0 m1 m2 m3 m5 : Option Value}
    (E : ErIn K x C) (I : IniIn K q st C fI oc kV dc pm cd ct od an sl nm q' N bs ce sn sub ab col dd m0 m1 m2 m3 m5) (no : ∀ g ∈ fs, PySem.W.findIn K (.ref C) g = some none)
    (b : ∀ (kV doc pm : Value) (an : Option Addr) (cdv ct : Value) (us : List Value), us.length = (("self" : Str) :: fs).length → bindArgs (PySem.W.fnOf "__init__" q (defArgs st) (defBody st) (defScope st) .none kV doc pm an cdv ct) ⟨us, []⟩ = pure ((("self" : Str) :: fs).zip us)) :
    Er K mg x q C fI fs st (PySem.W.fnOf "__init__" q (defArgs st) (defBody st) (defScope st) .none kV dc pm an cd ct) := by
  have F := fun_mk (st := st) I.lI I.cI I.kI
  exact ⟨⟨⟨nm, q', N, bs, _, sn, sub, ab, col, dd, m0, m1, m2, m3, m5, I.xL, by show PySem.HandSPX.refsVE [.type "ValueError", .type "Exception", .type "BaseException", .type "object"] = true; decide +kernel⟩, I.sa, E.be, I.tC, E.kC⟩, I.iC, I.tI, F, F.binds b, no, PySem.W.mg_of X G E.aC⟩
theorem all_mk {l : PySem.W.OpenLaw} {w : World} {K : PySem.W.Frag} {h : Heap} {mg : Str → Option Value} {fa ce CR C N0 c Pt gF : Addr} (X : K.In h) (G : h.Ns mainGlobals mg) (hfa : mg "law" = some (.ref fa))
    {i1 : Addr} {oc1 kV1 dc1 pm1 cd1 ct1 : Value} {od1 an1 : Option Addr} {sl1 : Array (Option Value)} {nm1 q1 : Str} {N1 : Addr} {bs1 : List Value} {sn1 : List Str} {sub1 : List Value} {ab1 : Bool} {col1 : Option Bool} {dd1 : Option Addr} {m01 m11 m21 m31 m51 : Option Value}
    {g0 : Addr} {ood0 oan0 : Option Addr} {osl0 : Array (Option Value)} {ooc0 okV0 odc0 opm0 ocd0 oct0 : Value}
    {g1 : Addr} {ood1 oan1 : Option Addr} {osl1 : Array (Option Value)} {ooc1 okV1 odc1 opm1 ocd1 oct1 : Value}
    {g2 : Addr} {ood2 oan2 : Option Addr} {osl2 : Array (Option Value)} {ooc2 okV2 odc2 opm2 ocd2 oct2 : Value}
    {g3 : Addr} {ood3 oan3 : Option Addr} {osl3 : Array (Option Value)} {ooc3 okV3 odc3 opm3 ocd3 oct3 : Value}
    {g4 : Addr} {ood4 oan4 : Option Addr} {osl4 : Array (Option Value)} {ooc4 okV4 odc4 opm4 ocd4 oct4 : Value}
    {g5 : Addr} {ood5 oan5 : Option Addr} {osl5 : Array (Option Value)} {ooc5 okV5 odc5 opm5 ocd5 oct5 : Value}
    {g6 : Addr} {ood6 oan6 : Option Addr} {osl6 : Array (Option Value)} {ooc6 okV6 odc6 opm6 ocd6 oct6 : Value}
    {g7 : Addr} {ood7 oan7 : Option Addr} {osl7 : Array (Option Value)} {ooc7 okV7 odc7 opm7 ocd7 oct7 : Value}
    {g8 : Addr} {ood8 oan8 : Option Addr} {osl8 : Array (Option Value)} {ooc8 okV8 odc8 opm8 ocd8 oct8 : Value}
    {g9 : Addr} {ood9 oan9 : Option Addr} {osl9 : Array (Option Value)} {ooc9 okV9 odc9 opm9 ocd9 oct9 : Value}
    {g10 : Addr} {ood10 oan10 : Option Addr} {osl10 : Array (Option Value)} {ooc10 okV10 odc10 opm10 ocd10 oct10 : Value}
    {g11 : Addr} {ood11 oan11 : Option Addr} {osl11 : Array (Option Value)} {ooc11 okV11 odc11 opm11 ocd11 oct11 : Value}
    {g12 : Addr} {ood12 oan12 : Option Addr} {osl12 : Array (Option Value)} {ooc12 okV12 odc12 opm12 ocd12 oct12 : Value}
    {g13 : Addr} {ood13 oan13 : Option Addr} {osl13 : Array (Option Value)} {ooc13 okV13 odc13 opm13 ocd13 oct13 : Value}
    {g14 : Addr} {ood14 oan14 : Option Addr} {osl14 : Array (Option Value)} {ooc14 okV14 odc14 opm14 ocd14 oct14 : Value}
    {g15 : Addr} {ood15 oan15 : Option Addr} {osl15 : Array (Option Value)} {ooc15 okV15 odc15 opm15 ocd15 oct15 : Value}
    {gI : Addr} {oodI oanI : Option Addr} {oslI : Array (Option Value)} {oocI okVI odcI opmI ocdI octI : Value}
    {gE : Addr} {oodE oanE : Option Addr} {oslE : Array (Option Value)} {oocE okVE odcE opmE ocdE octE : Value}
    {oodF oanF : Option Addr} {oslF : Array (Option Value)} {oocF okVF odcF opmF octF : Value}
    (e1 : ErIn K "BadRow" CR)
    (j1 : IniIn K "BadRow.__init__" sBadRow CR i1 oc1 kV1 dc1 pm1 cd1 ct1 od1 an1 sl1 nm1 q1 N1 bs1 ce sn1 sub1 ab1 col1 dd1 m01 m11 m21 m31 m51)
    (nR : PySem.W.findIn K (.ref CR) "row" = some none)
    (x2 : PySem.W.exmOne K (.ref CR) (.ref CR) = some true)
    (aC : PySem.W.nsIn K mainGlobals "Powers" = some (some (.ref C)))
    (pgC : PySem.W.plainGet K C Str.empty = true)
    (hdC : PySem.W.hasDictIn K C = true)
    (poC : PySem.W.plainOver K C = true)
    (saC : PySem.W.findIn K (.ref C) "__setattr__" = some (some (.builtin "object.__setattr__")))
    (haC : PySem.W.findIn K (.ref C) "__class__" = some (some (.builtin "object.__class__")))
    (hnC : PySem.W.specialIn K (.builtin "object.__class__") "__get__" = some (some (.builtin "getset_descriptor.__get__")))
    (htC : PySem.W.takesIn K (.builtin "object.__class__") = some true)
    (hmC : PySem.W.mroIn K C (.type "object") = some true)
    (meC : PySem.W.kitOne K (.ref C) (.ref C) = some true)
    (n1C : PySem.W.findIn K (.ref C) "terms" = some none)
    (n2C : PySem.W.findIn K (.ref C) "reach" = some none)
    (n3C : PySem.W.findIn K (.ref C) "_numbers" = some none)
    (niC : PySem.W.kitOne K (.ref C) (.type "int") = some false)
    (no_bool : PySem.W.kitOne K (.type "bool") (.ref C) = some false)
    (no_NoneType : PySem.W.kitOne K (.type "NoneType") (.ref C) = some false)
    (no_str : PySem.W.kitOne K (.type "str") (.ref C) = some false)
    (no_list : PySem.W.kitOne K (.type "list") (.ref C) = some false)
    (no_tuple : PySem.W.kitOne K (.type "tuple") (.ref C) = some false)
    (no_dict : PySem.W.kitOne K (.type "dict") (.ref C) = some false)
    (nf_int : PySem.W.notFirst K C (.type "int") = true)
    (nf_NoneType : PySem.W.notFirst K C (.type "NoneType") = true)
    (nf_tuple : PySem.W.notFirst K C (.type "tuple") = true)
    (nf_str : PySem.W.notFirst K C (.type "str") = true)
    (nf_list : PySem.W.notFirst K C (.type "list") = true)
    (nf_bool : PySem.W.notFirst K C (.type "bool") = true)
    (mkC : PySem.W.makesIn K C = true)
    (kpC : PySem.W.keepIn K (.ref C) = true)
    (fCI : PySem.W.findIn K (.ref C) "__init__" = some (some (.ref gI)))
    (fnI : PySem.W.isFn K (.ref gI) = true)
    (lI : K.lookup gI = some ⟨oocI, oodI, .func (PySem.W.fnOf "__init__" "Powers.__init__" (defArgs sPw) (defBody sPw) (defScope sPw) .none okVI odcI opmI oanI ocdI octI), oslI⟩)
    (cI : PySem.W.codeIn K ocdI "Powers.__init__" = true)
    (kI : PySem.W.keepIn K (.ref gI) = true)
    (fCE : PySem.W.findIn K (.ref C) "__eq__" = some (some (.ref gE)))
    (fnE : PySem.W.isFn K (.ref gE) = true)
    (lE : K.lookup gE = some ⟨oocE, oodE, .func (PySem.W.fnOf "__eq__" "Powers.__eq__" (defArgs sEq) (defBody sEq) (defScope sEq) .none okVE odcE opmE oanE ocdE octE), oslE⟩)
    (cE : PySem.W.codeIn K ocdE "Powers.__eq__" = true)
    (kE : PySem.W.keepIn K (.ref gE) = true)
    (aN : PySem.W.nsIn K mainGlobals "NO_LETTER" = some (some (.ref N0)))
    (tN : tupI K (.ref N0) = some [0, 0, 0])
    (a0 : PySem.W.nsIn K mainGlobals "is_integer" = some (some (.ref g0)))
    (l0 : K.lookup g0 = some ⟨ooc0, ood0, .func (PySem.W.fnOf "is_integer" "is_integer" (defArgs sIsI) (defBody sIsI) (defScope sIsI) .none okV0 odc0 opm0 oan0 ocd0 oct0), osl0⟩)
    (c0 : PySem.W.codeIn K ocd0 "is_integer" = true)
    (k0 : PySem.W.keepIn K (.ref g0) = true)
    (a1 : PySem.W.nsIn K mainGlobals "is_integers" = some (some (.ref g1)))
    (l1 : K.lookup g1 = some ⟨ooc1, ood1, .func (PySem.W.fnOf "is_integers" "is_integers" (defArgs sIsIs) (defBody sIsIs) (defScope sIsIs) .none okV1 odc1 opm1 oan1 ocd1 oct1), osl1⟩)
    (c1 : PySem.W.codeIn K ocd1 "is_integers" = true)
    (k1 : PySem.W.keepIn K (.ref g1) = true)
    (a2 : PySem.W.nsIn K mainGlobals "is_row" = some (some (.ref g2)))
    (l2 : K.lookup g2 = some ⟨ooc2, ood2, .func (PySem.W.fnOf "is_row" "is_row" (defArgs sRow) (defBody sRow) (defScope sRow) .none okV2 odc2 opm2 oan2 ocd2 oct2), osl2⟩)
    (c2 : PySem.W.codeIn K ocd2 "is_row" = true)
    (k2 : PySem.W.keepIn K (.ref g2) = true)
    (a3 : PySem.W.nsIn K mainGlobals "is_term" = some (some (.ref g3)))
    (l3 : K.lookup g3 = some ⟨ooc3, ood3, .func (PySem.W.fnOf "is_term" "is_term" (defArgs sTerm) (defBody sTerm) (defScope sTerm) .none okV3 odc3 opm3 oan3 ocd3 oct3), osl3⟩)
    (c3 : PySem.W.codeIn K ocd3 "is_term" = true)
    (k3 : PySem.W.keepIn K (.ref g3) = true)
    (a4 : PySem.W.nsIn K mainGlobals "constant_terms" = some (some (.ref g4)))
    (l4 : K.lookup g4 = some ⟨ooc4, ood4, .func (PySem.W.fnOf "constant_terms" "constant_terms" (defArgs sCt) (defBody sCt) (defScope sCt) .none okV4 odc4 opm4 oan4 ocd4 oct4), osl4⟩)
    (c4 : PySem.W.codeIn K ocd4 "constant_terms" = true)
    (k4 : PySem.W.keepIn K (.ref g4) = true)
    (a5 : PySem.W.nsIn K mainGlobals "_law_pen" = some (some (.ref g5)))
    (l5 : K.lookup g5 = some ⟨ooc5, ood5, .func (PySem.W.fnOf "_law_pen" "_law_pen" (defArgs sPen) (defBody sPen) (defScope sPen) .none okV5 odc5 opm5 oan5 ocd5 oct5), osl5⟩)
    (c5 : PySem.W.codeIn K ocd5 "_law_pen" = true)
    (k5 : PySem.W.keepIn K (.ref g5) = true)
    (a6 : PySem.W.nsIn K mainGlobals "_law_draw" = some (some (.ref g6)))
    (l6 : K.lookup g6 = some ⟨ooc6, ood6, .func (PySem.W.fnOf "_law_draw" "_law_draw" (defArgs sDraw) (defBody sDraw) (defScope sDraw) .none okV6 odc6 opm6 oan6 ocd6 oct6), osl6⟩)
    (c6 : PySem.W.codeIn K ocd6 "_law_draw" = true)
    (k6 : PySem.W.keepIn K (.ref g6) = true)
    (a7 : PySem.W.nsIn K mainGlobals "_law_pick" = some (some (.ref g7)))
    (l7 : K.lookup g7 = some ⟨ooc7, ood7, .func (PySem.W.fnOf "_law_pick" "_law_pick" (defArgs sPick) (defBody sPick) (defScope sPick) .none okV7 odc7 opm7 oan7 ocd7 oct7), osl7⟩)
    (c7 : PySem.W.codeIn K ocd7 "_law_pick" = true)
    (k7 : PySem.W.keepIn K (.ref g7) = true)
    (a8 : PySem.W.nsIn K mainGlobals "_law_poly" = some (some (.ref g8)))
    (l8 : K.lookup g8 = some ⟨ooc8, ood8, .func (PySem.W.fnOf "_law_poly" "_law_poly" (defArgs sPoly) (defBody sPoly) (defScope sPoly) .none okV8 odc8 opm8 oan8 ocd8 oct8), osl8⟩)
    (c8 : PySem.W.codeIn K ocd8 "_law_poly" = true)
    (k8 : PySem.W.keepIn K (.ref g8) = true)
    (a9 : PySem.W.nsIn K mainGlobals "_law_some_poly" = some (some (.ref g9)))
    (l9 : K.lookup g9 = some ⟨ooc9, ood9, .func (PySem.W.fnOf "_law_some_poly" "_law_some_poly" (defArgs sSome) (defBody sSome) (defScope sSome) .none okV9 odc9 opm9 oan9 ocd9 oct9), osl9⟩)
    (c9 : PySem.W.codeIn K ocd9 "_law_some_poly" = true)
    (k9 : PySem.W.keepIn K (.ref g9) = true)
    (a10 : PySem.W.nsIn K mainGlobals "_law_terms" = some (some (.ref g10)))
    (l10 : K.lookup g10 = some ⟨ooc10, ood10, .func (PySem.W.fnOf "_law_terms" "_law_terms" (defArgs sTerms) (defBody sTerms) (defScope sTerms) .none okV10 odc10 opm10 oan10 ocd10 oct10), osl10⟩)
    (c10 : PySem.W.codeIn K ocd10 "_law_terms" = true)
    (k10 : PySem.W.keepIn K (.ref g10) = true)
    (a11 : PySem.W.nsIn K mainGlobals "_law_shuffled" = some (some (.ref g11)))
    (l11 : K.lookup g11 = some ⟨ooc11, ood11, .func (PySem.W.fnOf "_law_shuffled" "_law_shuffled" (defArgs sShuf) (defBody sShuf) (defScope sShuf) .none okV11 odc11 opm11 oan11 ocd11 oct11), osl11⟩)
    (c11 : PySem.W.codeIn K ocd11 "_law_shuffled" = true)
    (k11 : PySem.W.keepIn K (.ref g11) = true)
    (a12 : PySem.W.nsIn K mainGlobals "_law_made" = some (some (.ref g12)))
    (l12 : K.lookup g12 = some ⟨ooc12, ood12, .func (PySem.W.fnOf "_law_made" "_law_made" (defArgs sMade) (defBody sMade) (defScope sMade) .none okV12 odc12 opm12 oan12 ocd12 oct12), osl12⟩)
    (c12 : PySem.W.codeIn K ocd12 "_law_made" = true)
    (k12 : PySem.W.keepIn K (.ref g12) = true)
    (a13 : PySem.W.nsIn K mainGlobals "_law_is_sum" = some (some (.ref g13)))
    (l13 : K.lookup g13 = some ⟨ooc13, ood13, .func (PySem.W.fnOf "_law_is_sum" "_law_is_sum" (defArgs sIsSum) (defBody sIsSum) (defScope sIsSum) .none okV13 odc13 opm13 oan13 ocd13 oct13), osl13⟩)
    (c13 : PySem.W.codeIn K ocd13 "_law_is_sum" = true)
    (k13 : PySem.W.keepIn K (.ref g13) = true)
    (a14 : PySem.W.nsIn K mainGlobals "_law_equals_right" = some (some (.ref g14)))
    (l14 : K.lookup g14 = some ⟨ooc14, ood14, .func (PySem.W.fnOf "_law_equals_right" "_law_equals_right" (defArgs sRight) (defBody sRight) (defScope sRight) .none okV14 odc14 opm14 oan14 ocd14 oct14), osl14⟩)
    (c14 : PySem.W.codeIn K ocd14 "_law_equals_right" = true)
    (k14 : PySem.W.keepIn K (.ref g14) = true)
    (a15 : PySem.W.nsIn K mainGlobals "_law_refused" = some (some (.ref g15)))
    (l15 : K.lookup g15 = some ⟨ooc15, ood15, .func (PySem.W.fnOf "_law_refused" "_law_refused" (defArgs sRef) (defBody sRef) (defScope sRef) .none okV15 odc15 opm15 oan15 ocd15 oct15), osl15⟩)
    (c15 : PySem.W.codeIn K ocd15 "_law_refused" = true)
    (k15 : PySem.W.keepIn K (.ref g15) = true)
    (aF : PySem.W.nsIn K mainGlobals "law" = some (some (.ref gF)))
    (lF : K.lookup gF = some ⟨oocF, oodF, .func (PySem.W.fnOf "law" "law" (defArgs sLaw) (defBody sLaw) (defScope sLaw) .none okVF odcF opmF oanF (.ref c) octF), oslF⟩)
    (cF : PySem.W.codeIn K (.ref c) "law" = true)
    (nP : K.lookup Pt = none)
    (hP : PySem.W.codeHdIn K c Pt = true)
    (z_int : PySem.W.nsIn K mainGlobals "int" = some none)
    (z_bool : PySem.W.nsIn K mainGlobals "bool" = some none)
    (z_tuple : PySem.W.nsIn K mainGlobals "tuple" = some none)
    (z_len : PySem.W.nsIn K mainGlobals "len" = some none)
    (z_list : PySem.W.nsIn K mainGlobals "list" = some none)
    (z_range : PySem.W.nsIn K mainGlobals "range" = some none)
    (z_isinstance : PySem.W.nsIn K mainGlobals "isinstance" = some none)
    (z_repr : PySem.W.nsIn K mainGlobals "repr" = some none)
    (z_all : PySem.W.nsIn K mainGlobals "all" = some none)
    (z_divmod : PySem.W.nsIn K mainGlobals "divmod" = some none)
    (z_reversed : PySem.W.nsIn K mainGlobals "reversed" = some none)
    (z_sorted : PySem.W.nsIn K mainGlobals "sorted" = some none)
    (z_max : PySem.W.nsIn K mainGlobals "max" = some none)
    (z_abs : PySem.W.nsIn K mainGlobals "abs" = some none)
    (z_dict : PySem.W.nsIn K mainGlobals "dict" = some none)
    : (∀ p ∈ [(c, Pt)], K.lookup p.2 = none ∧ PySem.W.codeHdIn K p.1 p.2 = true) ∧ ∃ fd : FuncData, (∀ (s : Shared) (u : Value), BindsTo s fd ⟨[u], []⟩ [("_law_script", u)]) ∧
      ∀ base : Heap, K.In base → base.Ns mainGlobals mg → (∀ p ∈ [(c, Pt)], LamX.TabB base mg p.1 p.2) → FnG l.prog w K mg base CX0 10 fa fd ["_law_script"] (spLaw K Pt) := by
  have e := hfa.symm.trans (PySem.W.mg_of X G aF)
  cases e
  refine ⟨fun p hp => ?_, PySem.W.fnOf "law" "law" (defArgs sLaw) (defBody sLaw) (defScope sLaw) .none okVF odcF opmF oanF (.ref c) octF, fun s v => .of_eq rfl, fun base _ _ TB => ?_⟩
  · obtain rfl | hp := List.mem_cons.mp hp
    · exact ⟨nP, hP⟩
    · exact (List.not_mem_nil hp).elim
  have BB : Blt mg := ⟨PySem.W.mg_none_of X G z_int, PySem.W.mg_none_of X G z_bool, PySem.W.mg_none_of X G z_tuple, PySem.W.mg_none_of X G z_len, PySem.W.mg_none_of X G z_list, PySem.W.mg_none_of X G z_range, PySem.W.mg_none_of X G z_isinstance, PySem.W.mg_none_of X G z_repr, PySem.W.mg_none_of X G z_all, PySem.W.mg_none_of X G z_divmod, PySem.W.mg_none_of X G z_reversed⟩
  have B2 : Blt2 mg := ⟨PySem.W.mg_none_of X G z_sorted, PySem.W.mg_none_of X G z_max, PySem.W.mg_none_of X G z_abs, PySem.W.mg_none_of X G z_dict⟩
  have F0 := fun_mk (st := sIsI) l0 c0 k0
  have E0 : Cl K mg "is_integer" sIsI ["value"] g0 _ := ⟨F0, F0.binds (ps := ["value"]) (fun _ _ _ _ _ _ us hl => match us, hl with | [_], _ => rfl), PySem.W.mg_of X G a0⟩
  have F1 := fun_mk (st := sIsIs) l1 c1 k1
  have E1 : Cl K mg "is_integers" sIsIs ["value"] g1 _ := ⟨F1, F1.binds (ps := ["value"]) (fun _ _ _ _ _ _ us hl => match us, hl with | [_], _ => rfl), PySem.W.mg_of X G a1⟩
  have F2 := fun_mk (st := sRow) l2 c2 k2
  have E2 : Cl K mg "is_row" sRow ["value", "width"] g2 _ := ⟨F2, F2.binds (ps := ["value", "width"]) (fun _ _ _ _ _ _ us hl => match us, hl with | [_, _], _ => rfl), PySem.W.mg_of X G a2⟩
  have F3 := fun_mk (st := sTerm) l3 c3 k3
  have E3 : Cl K mg "is_term" sTerm ["item"] g3 _ := ⟨F3, F3.binds (ps := ["item"]) (fun _ _ _ _ _ _ us hl => match us, hl with | [_], _ => rfl), PySem.W.mg_of X G a3⟩
  have F4 := fun_mk (st := sCt) l4 c4 k4
  have E4 : Cl K mg "constant_terms" sCt ["number"] g4 _ := ⟨F4, F4.binds (ps := ["number"]) (fun _ _ _ _ _ _ us hl => match us, hl with | [_], _ => rfl), PySem.W.mg_of X G a4⟩
  have F5 := fun_mk (st := sPen) l5 c5 k5
  have E5 : Cl K mg "_law_pen" sPen ["_law_script"] g5 _ := ⟨F5, F5.binds (ps := ["_law_script"]) (fun _ _ _ _ _ _ us hl => match us, hl with | [_], _ => rfl), PySem.W.mg_of X G a5⟩
  have F6 := fun_mk (st := sDraw) l6 c6 k6
  have E6 : Cl K mg "_law_draw" sDraw ["_law_pen_here", "_law_many"] g6 _ := ⟨F6, F6.binds (ps := ["_law_pen_here", "_law_many"]) (fun _ _ _ _ _ _ us hl => match us, hl with | [_, _], _ => rfl), PySem.W.mg_of X G a6⟩
  have F7 := fun_mk (st := sPick) l7 c7 k7
  have E7 : Cl K mg "_law_pick" sPick ["_law_pen_here", "_law_some"] g7 _ := ⟨F7, F7.binds (ps := ["_law_pen_here", "_law_some"]) (fun _ _ _ _ _ _ us hl => match us, hl with | [_, _], _ => rfl), PySem.W.mg_of X G a7⟩
  have F8 := fun_mk (st := sPoly) l8 c8 k8
  have E8 : Cl K mg "_law_poly" sPoly ["_law_pen_here", "_law_letters", "_law_reach", "_law_many"] g8 _ := ⟨F8, F8.binds (ps := ["_law_pen_here", "_law_letters", "_law_reach", "_law_many"]) (fun _ _ _ _ _ _ us hl => match us, hl with | [_, _, _, _], _ => rfl), PySem.W.mg_of X G a8⟩
  have F9 := fun_mk (st := sSome) l9 c9 k9
  have E9 : Cl K mg "_law_some_poly" sSome ["_law_pen_here"] g9 _ := ⟨F9, F9.binds (ps := ["_law_pen_here"]) (fun _ _ _ _ _ _ us hl => match us, hl with | [_], _ => rfl), PySem.W.mg_of X G a9⟩
  have F10 := fun_mk (st := sTerms) l10 c10 k10
  have E10 : Cl K mg "_law_terms" sTerms ["_law_poly_here"] g10 _ := ⟨F10, F10.binds (ps := ["_law_poly_here"]) (fun _ _ _ _ _ _ us hl => match us, hl with | [_], _ => rfl), PySem.W.mg_of X G a10⟩
  have F11 := fun_mk (st := sShuf) l11 c11 k11
  have E11 : Cl K mg "_law_shuffled" sShuf ["_law_pen_here", "_law_some"] g11 _ := ⟨F11, F11.binds (ps := ["_law_pen_here", "_law_some"]) (fun _ _ _ _ _ _ us hl => match us, hl with | [_, _], _ => rfl), PySem.W.mg_of X G a11⟩
  have F12 := fun_mk (st := sMade) l12 c12 k12
  have E12 : Cl K mg "_law_made" sMade ["_law_pen_here", "_law_poly_here"] g12 _ := ⟨F12, F12.binds (ps := ["_law_pen_here", "_law_poly_here"]) (fun _ _ _ _ _ _ us hl => match us, hl with | [_, _], _ => rfl), PySem.W.mg_of X G a12⟩
  have F13 := fun_mk (st := sIsSum) l13 c13 k13
  have E13 : Cl K mg "_law_is_sum" sIsSum ["_law_told", "_law_poly_here"] g13 _ := ⟨F13, F13.binds (ps := ["_law_told", "_law_poly_here"]) (fun _ _ _ _ _ _ us hl => match us, hl with | [_, _], _ => rfl), PySem.W.mg_of X G a13⟩
  have F14 := fun_mk (st := sRight) l14 c14 k14
  have E14 : Cl K mg "_law_equals_right" sRight ["_law_pen_here", "_law_told", "_law_poly_here"] g14 _ := ⟨F14, F14.binds (ps := ["_law_pen_here", "_law_told", "_law_poly_here"]) (fun _ _ _ _ _ _ us hl => match us, hl with | [_, _, _], _ => rfl), PySem.W.mg_of X G a14⟩
  have F15 := fun_mk (st := sRef) l15 c15 k15
  have E15 : Cl K mg "_law_refused" sRef ["_law_call"] g15 _ := ⟨F15, F15.binds (ps := ["_law_call"]) (fun _ _ _ _ _ _ us hl => match us, hl with | [_], _ => rfl), PySem.W.mg_of X G a15⟩
  have FI := fun_mk (st := sPw) lI cI kI
  have FE := fun_mk (st := sEq) lE cE kE
  have WW : PwC K mg C := ⟨⟨⟨pgC, hdC, poC, saC⟩, haC, hnC, htC, hmC, meC⟩, n1C, n2C, n3C, PySem.W.mg_of X G aC, niC, fun n hn => by
    unfold offInt at hn
    obtain rfl | hn := List.mem_cons.mp hn
    · exact no_bool
    obtain rfl | hn := List.mem_cons.mp hn
    · exact no_NoneType
    obtain rfl | hn := List.mem_cons.mp hn
    · exact no_str
    obtain rfl | hn := List.mem_cons.mp hn
    · exact no_list
    obtain rfl | hn := List.mem_cons.mp hn
    · exact no_tuple
    obtain rfl | hn := List.mem_cons.mp hn
    · exact no_dict
    exact (List.not_mem_nil hn).elim⟩
  have WE : PwE K C gE := ⟨fCE, fnE, fun n hn => by
    obtain rfl | hn := List.mem_cons.mp hn
    · exact nf_int
    obtain rfl | hn := List.mem_cons.mp hn
    · exact nf_NoneType
    obtain rfl | hn := List.mem_cons.mp hn
    · exact nf_tuple
    obtain rfl | hn := List.mem_cons.mp hn
    · exact nf_str
    obtain rfl | hn := List.mem_cons.mp hn
    · exact nf_list
    obtain rfl | hn := List.mem_cons.mp hn
    · exact nf_bool
    exact (List.not_mem_nil hn).elim⟩
  have MM : Mk K C gI := ⟨mkC, fCI, fnI, kpC⟩
  have RR := er_of (x := "BadRow") (fs := ["row"]) X G e1 j1 (fun g hg => by
    rcases List.mem_cons.mp hg with rfl | hg
    · exact nR
    · exact (List.not_mem_nil hg).elim) (fun _ _ _ _ _ _ us hl => match us, hl with | [_, _], _ => rfl)
  exact ok_law lF cF (TB _ (.head _)) BB B2 WW WE MM FI (FI.binds (ps := ["self", "terms"]) (fun _ _ _ _ _ _ us hl => match us, hl with | [_, _], _ => rfl)) FE (FE.binds (ps := ["self", "other"]) (fun _ _ _ _ _ _ us hl => match us, hl with | [_, _], _ => rfl))
    E4 (PySem.W.mg_of X G aN) tN E5 E6 E7 E8 E9 E10 E11 E12 E13 E14 E15 E0 E1 E2 E3 RR x2 ⟨e1.ga, e1.gg, e1.be, e1.hd⟩
theorem walk {l : PySem.W.OpenLaw} {q : Program} {loose : List Str} {XP : (Str → Option Value) → Heap → Prop} {YP : World → Heap → Prop} {d : DefRec} {K : Params → PySem.W.Frag} {c Pt : Addr} (hn : l.most = some 63) (hdf : d.params.defaults = [])
    (hY : ∀ (w : World) (h : Heap), YP w h → (K w.params).In h) (hT : ∀ (w : World) (h : Heap), YP w h → ∀ p ∈ [(c, Pt)], h.get? p.2 = some { cls := .none, data := .fields #[] })
    (F : ∀ (w : World) (mg : Str → Option Value) (fa : Addr) (h : Heap), (K w.params).In h → h.Ns mainGlobals mg → mg d.name = some (.ref fa) →
      (∀ p ∈ [(c, Pt)], (K w.params).lookup p.2 = none ∧ PySem.W.codeHdIn (K w.params) p.1 p.2 = true) ∧
      ∃ fd : FuncData, (∀ (s : Shared) (u : Value), BindsTo s fd ⟨[u], []⟩ [("_law_script", u)]) ∧ ∀ base : Heap, (K w.params).In base → base.Ns mainGlobals mg → (∀ p ∈ [(c, Pt)], LamX.TabB base mg p.1 p.2) → FnG l.prog w (K w.params) mg base CX0 10 fa fd ["_law_script"] (spLaw (K w.params) Pt)) :
    PySem.W.WalkO q loose XP YP l.row.toRowW d [] (fun f vs => PySem.call f vs) :=
  walkT (n := 63) (k := 10) (x := "_law_script") (cs := [(c, Pt)]) (sp := fun w => spLaw (K w.params) Pt) hn (by decide) hdf ⟨rfl, by decide, by decide⟩ hY hT F (fun _ _ a ns _ hP hS => ⟨a, ns, rfl, hS, hP _ (.head _), fun _ => rfl⟩)
end K09

open PySem PySem.W PyProof.Rows
set_option maxRecDepth 100000 in
set_option maxHeartbeats 0 in
theorem PySem.Challenge.cw_restcounts_k09_sums_of_powers_kept_holds : PySem.Challenge.rw_restcounts_k09_sums_of_powers_kept.Holds := by
  w_on; o_law; k_head; (case hw => w_witness2)
  k_fill
  refine' K09.walk (l := PySem.Challenge.rw_restcounts_k09_sums_of_powers_kept) (c := ?c) (Pt := 427) rfl rfl (fun w h Y => PySem.W.km_in_of Y) (fun w h Y p hp => ?T) ?F
  case F =>
    intro w mg fa h KX G hmg
    refine' K09.all_mk KX G hmg ?e1 ?j1 ?nR ?x2 ?aC ?pgC ?hdC ?poC ?saC ?haC ?hnC ?htC ?hmC ?meC ?n1C ?n2C ?n3C ?niC ?no_bool ?no_NoneType ?no_str ?no_list ?no_tuple ?no_dict ?nf_int ?nf_NoneType ?nf_tuple ?nf_str ?nf_list ?nf_bool ?mkC ?kpC ?fCI ?fnI ?lI ?cI ?kI ?fCE ?fnE ?lE ?cE ?kE ?aN ?tN ?a0 ?l0 ?c0 ?k0 ?a1 ?l1 ?c1 ?k1 ?a2 ?l2 ?c2 ?k2 ?a3 ?l3 ?c3 ?k3 ?a4 ?l4 ?c4 ?k4 ?a5 ?l5 ?c5 ?k5 ?a6 ?l6 ?c6 ?k6 ?a7 ?l7 ?c7 ?k7 ?a8 ?l8 ?c8 ?k8 ?a9 ?l9 ?c9 ?k9 ?a10 ?l10 ?c10 ?k10 ?a11 ?l11 ?c11 ?k11 ?a12 ?l12 ?c12 ?k12 ?a13 ?l13 ?c13 ?k13 ?a14 ?l14 ?c14 ?k14 ?a15 ?l15 ?c15 ?k15 ?aF ?lF ?cF ?nP ?hP ?z_int ?z_bool ?z_tuple ?z_len ?z_list ?z_range ?z_isinstance ?z_repr ?z_all ?z_divmod ?z_reversed ?z_sorted ?z_max ?z_abs ?z_dict
    (case e1 => (refine' K09.ErIn.mk ?_ ?_ ?_ ?_ ?_ ?_ <;> try k_is))
    (case j1 => (refine' K09.IniIn.mk ?_ ?_ ?_ ?_ ?_ ?_ ?_ ?_ <;> try k_is))
    (case nR => k_is)
    (case x2 => (first | kernel_rfl | k_is | kit_is | decide +kernel))
    (case aC => k_is)
    (case pgC => k_is)
    (case hdC => k_is)
    (case poC => k_is)
    (case saC => k_is)
    (case haC => k_is)
    (case hnC => k_is)
    (case htC => k_is)
    (case hmC => k_is)
    (case meC => (first | kernel_rfl | k_is | kit_is | decide +kernel))
    (case n1C => k_is)
    (case n2C => k_is)
    (case n3C => k_is)
    (case niC => (first | kernel_rfl | k_is | kit_is | decide +kernel))
    (case no_bool => (first | kernel_rfl | k_is | kit_is | decide +kernel))
    (case no_NoneType => (first | kernel_rfl | k_is | kit_is | decide +kernel))
    (case no_str => (first | kernel_rfl | k_is | kit_is | decide +kernel))
    (case no_list => (first | kernel_rfl | k_is | kit_is | decide +kernel))
    (case no_tuple => (first | kernel_rfl | k_is | kit_is | decide +kernel))
    (case no_dict => (first | kernel_rfl | k_is | kit_is | decide +kernel))
    (case nf_int => (first | kernel_rfl | k_is | kit_is | decide +kernel))
    (case nf_NoneType => (first | kernel_rfl | k_is | kit_is | decide +kernel))
    (case nf_tuple => (first | kernel_rfl | k_is | kit_is | decide +kernel))
    (case nf_str => (first | kernel_rfl | k_is | kit_is | decide +kernel))
    (case nf_list => (first | kernel_rfl | k_is | kit_is | decide +kernel))
    (case nf_bool => (first | kernel_rfl | k_is | kit_is | decide +kernel))
    (case mkC => k_is)
    (case kpC => k_is)
    (case fCI => k_is)
    (case fnI => k_is)
    (case lI => k_is)
    (case cI => k_is)
    (case kI => k_is)
    (case fCE => k_is)
    (case fnE => k_is)
    (case lE => k_is)
    (case cE => k_is)
    (case kE => k_is)
    (case aN => k_is)
    (case tN => (first | kernel_rfl | k_is | kit_is | decide +kernel))
    (case a0 => k_is)
    (case l0 => k_is)
    (case c0 => k_is)
    (case k0 => k_is)
    (case a1 => k_is)
    (case l1 => k_is)
    (case c1 => k_is)
    (case k1 => k_is)
    (case a2 => k_is)
    (case l2 => k_is)
    (case c2 => k_is)
    (case k2 => k_is)
    (case a3 => k_is)
    (case l3 => k_is)
    (case c3 => k_is)
    (case k3 => k_is)
    (case a4 => k_is)
    (case l4 => k_is)
    (case c4 => k_is)
    (case k4 => k_is)
    (case a5 => k_is)
    (case l5 => k_is)
    (case c5 => k_is)
    (case k5 => k_is)
    (case a6 => k_is)
    (case l6 => k_is)
    (case c6 => k_is)
    (case k6 => k_is)
    (case a7 => k_is)
    (case l7 => k_is)
    (case c7 => k_is)
    (case k7 => k_is)
    (case a8 => k_is)
    (case l8 => k_is)
    (case c8 => k_is)
    (case k8 => k_is)
    (case a9 => k_is)
    (case l9 => k_is)
    (case c9 => k_is)
    (case k9 => k_is)
    (case a10 => k_is)
    (case l10 => k_is)
    (case c10 => k_is)
    (case k10 => k_is)
    (case a11 => k_is)
    (case l11 => k_is)
    (case c11 => k_is)
    (case k11 => k_is)
    (case a12 => k_is)
    (case l12 => k_is)
    (case c12 => k_is)
    (case k12 => k_is)
    (case a13 => k_is)
    (case l13 => k_is)
    (case c13 => k_is)
    (case k13 => k_is)
    (case a14 => k_is)
    (case l14 => k_is)
    (case c14 => k_is)
    (case k14 => k_is)
    (case a15 => k_is)
    (case l15 => k_is)
    (case c15 => k_is)
    (case k15 => k_is)
    (case aF => k_is)
    (case lF => k_is)
    (case cF => k_is)
    (case nP => (first | kernel_rfl | k_is | kit_is | decide +kernel))
    (case hP => (first | kernel_rfl | k_is | kit_is | decide +kernel))
    (case z_int => k_is)
    (case z_bool => k_is)
    (case z_tuple => k_is)
    (case z_len => k_is)
    (case z_list => k_is)
    (case z_range => k_is)
    (case z_isinstance => k_is)
    (case z_repr => k_is)
    (case z_all => k_is)
    (case z_divmod => k_is)
    (case z_reversed => k_is)
    (case z_sorted => k_is)
    (case z_max => k_is)
    (case z_abs => k_is)
    (case z_dict => k_is)
  case T =>
    obtain z | hp := List.mem_cons.mp hp
    · rw [z]
      exact PySem.W.km_tabs_of Y _ (.head _)
    · exact (List.not_mem_nil hp).elim

