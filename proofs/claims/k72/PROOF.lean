import PyProof.Rows.All
import Wide.All
import OpenK.AllK
import Wide.FinOn
import HandS.ForMost
import HandS.ExcInit
import HandS.ExcField
import HandS.ExcOwn
import HandS.IsInst
import KE.KExcIs
import HandS.Exc
import HandS.Lambda
import HandS.EndTab
import KE.KNestM
import HandS.Wide
import HandS.Evl
import HandS.Walk
import HandS.WordsExc
import HandS.Rev
import HandS.Zip
import KE.GoesMore
import KE.GoesZip
import PyProof.P3Eq
import KE.KOpsOwn
import HandS.OwnEq
import HandS.SlotsOwn
import HandS.More
import HandS.Codes
import HandS.NestedK
import HandS.Words
import HandS.DictComp
import HandS.Conv
import HandS.SetFor
import HandS.Strs
import HandS.Style
import HandS.TupMul
import PyProof.NeKinds
import HandS.TupAny
import HandS.Dict
import HandS.Iter
import PyProof.EnumMake
import KE.KDictPairs
import HandS.SortKw
import KE.KDictDisplayH
import HandS.Deep
import PySem.Challenge.RW_restcounts_k72_whole_values_again_and_la
set_option Elab.async false
set_option linter.all false
set_option maxRecDepth 100000
set_option maxHeartbeats 4000000
/-! Gd: defs whose promise leans on there being no repr under way around them; calls of such; a law's end over such. -/
namespace Gd
open PySem PySem.Spec PyProof.Rows L2

/-- a promise kept wherever no guard stands around -/
structure FnG (P : Program) (w : World) (K : PySem.W.Frag) (mg : Str → Option Value) (base : Heap)
    (CX : CXT) (k : Nat) (f : Addr) (fd : FuncData) (ps : List Str) (sp : Sp) : Prop where
  len : ∀ vs H Q E, sp vs H Q E → vs.length = ps.length
  go : ∀ (A : Around) (outer : List Env) (s : Shared) (H : Hp) (args : Args) (us : List Value) (vs : List V) (Q : VK) (E : XK),
    A.guards = some [] → Room k A → Env0 P w K mg base A outer s H →
    BindsTo s fd args (ps.zip us) → Vals vs us → sp vs H Q E →
    codeAny (model P w) A (.call (.ref f) args) (CR CX outer P w H s Q E) s

section
variable {P : Program} {w : World} {K : PySem.W.Frag} {mg : Str → Option Value} {base : Heap} {CX : CXT}

theorem FnG.ofOk {k : Nat} {f : Addr} {fd : FuncData} {ps : List Str} {sp : Sp}
    (F : FnOk P w K mg base CX k f fd ps sp) : FnG P w K mg base CX k f fd ps sp where
  len := F.len
  go := fun A outer s H args us vs Q E _ => F.run A outer s H args us vs Q E

/-- a def by its body, where the guards are none -/
theorem fnG_of {k : Nat} {f : Addr} {name qual : Str} {params : Arguments} {body : List Stmt} {scope : Scope}
    {dV kV doc pm cdv ct oc : Value} {an od : Option Addr} {osl : Array (Option Value)} {N ps : List Str} {sp : Sp}
    (lk : K.lookup f = some ⟨oc, od, .func (PySem.W.fnOf name qual params body scope dV kV doc pm an cdv ct), osl⟩)
    (hcd : PySem.W.codeIn K cdv qual = true) (S : FnScope N ps scope)
    (len : ∀ vs H Q E, sp vs H Q E → vs.length = ps.length)
    (B : ∀ (A : Around) (outer : List Env) (s : Shared) (H : Hp) (vs : List V) (Q : VK) (E : XK),
      A.guards = some [] → Room k (A.deeper (envOfC qual scope s.heap.objs.size f cdv)) → sp vs H Q E →
      ∃ t, PSs (cxOf CX P w K mg base N qual scope f cdv A outer s H E) body t ∧
        t { nx := fun _ H' => Q .non H', rt := Q } (start N vs) H) :
    FnG P w K mg base CX (k + 1) f (PySem.W.fnOf name qual params body scope dV kV doc pm an cdv ct) ps sp where
  len := len
  go := by
    intro A outer s H args us vs Q E hgd room env0 hbind rel hs
    have hlen := len _ _ _ _ hs
    have old : ∀ b o, base.get? b = some o → s.heap.get? b = some o := fun b o h => (env0.bs b o h).1
    have kin := env0.mod.kin.keeps old
    have nolim := env0.mod.nolimit.keeps old
    refine codeAny_call_function room.depth (kin _ _ lk) rfl S.co S.gen rfl
      (PySem.W.codeRec_of kin hcd) (hbind _ _ _ _ ?_)
    refine wpAny_newFunctionEnv_cells S.kind ?kinds fun env he s1 inC => ?_
    case kinds =>
      rintro ⟨n, v⟩ hm
      have hn := S.par n (List.of_mem_zip hm).1
      exact hn.imp (fun q => q) fun q => ⟨q, PySem.W.cellsFrom_some _ _ _ (.inl q)⟩
    subst he
    refine ⟨nolim.keeps inC.toInCall.keep, codeAny_func ?_⟩
    have ⟨t, derived, reading⟩ := B A outer s H vs Q E hgd (room.deeper _) hs
    have inv0 := inv_start (CX := CX) (E := E) S room.hd env0 hlen rel inC
    refine wpAny_mono (derived.run [] s1 (start N vs) H _ inv0 reading) ?_ fun _ _ he => he
    intro fl s' hfl
    match fl, hfl with
    | .ret _, ⟨v, _, H', J, rv, q⟩ => exact ⟨v, H', J.os, J.bare, J.base, J.hok, rv, q⟩
    | .next, ⟨_, H', J, q⟩ => exact ⟨V.non, H', J.os, J.bare, J.base, J.hok, rfl, q⟩
    | .brk, ⟨_, _, _, q⟩ => exact q.elim
    | .cont, ⟨_, _, _, q⟩ => exact q.elim

/-- for a def of the text that no exception leaves -/
theorem okG {x qual : Str} {st : Stmt} {f : Addr} {fd : FuncData} {N ps : List Str} {k : Nat} {sp : Sp}
    (F : Fun K x qual st f fd) (S : FnScope N ps (defScope st)) (len : ∀ vs H Q E, sp vs H Q E → vs.length = ps.length)
    (B : ∀ (cdv : Value) (A : Around) (outer : List Env) (s : Shared) (H : Hp) (vs : List V) (Q : VK) (E : XK),
      A.guards = some [] → Room k (A.deeper (envOfC qual (defScope st) s.heap.objs.size f cdv)) → sp vs H Q E →
      ∃ t, PSs (cxOf CX0 P w K mg base N qual (defScope st) f cdv A outer s H E).nox (defBody st) t ∧
        t { nx := fun _ H' => Q .non H', rt := Q } (start N vs) H) : FnG P w K mg base CX0 (k + 1) f fd ps sp := by
  have ⟨oc, od, kV, doc, pm, an, cdv, ct, osl, e, lk, hcd⟩ := F.ex
  subst e
  refine fnG_of lk hcd S len ?_
  intro A outer s H vs Q E hgd room hs
  have ⟨t, d, q⟩ := B cdv A outer s H vs Q E hgd room hs
  exact ⟨t, d.nox, q⟩
end

section
variable {X : Cx} {CX : CXT} {k : Nat} {f : Addr} {fd : FuncData} {ps : List Str} {sp : Sp} {dvs : List V} {ds : List Value} {E : XK}
/-- the call of such a def -/
theorem run_fnG {pins : List (Addr × Obj)} {σ : L2.St} {H : Hp} {s : Shared} {Q : VK} {us : List Value} {vs : List V}
    (F : FnG X.prog X.w X.K X.mg X.base CX k f fd ps sp) (hgd : X.A.guards = some []) (room : Room k X.A)
    (hb : Binds X.K fd ps ds) (hd : Vals dvs ds) (hx : Passes CX X E) (I : Inv X pins σ H s) (r : Vals vs us)
    (h : sp (vs ++ dvs) H Q E) : wpAny (model X.prog X.w) X.A (call (.ref f) us) (EP X pins σ Q) X.xe s := by
  have rr := r.append hd
  have hlen := F.len _ _ _ _ h
  rw [rr.length] at hlen
  have c := F.go X.A X.stack s H ⟨us, []⟩ (us ++ ds) (vs ++ dvs) Q E hgd room I.env0 (hb s us I.kIn hlen) rr h
  refine wpAny_call (codeAny_mono c ?_)
  intro res s' hres
  match res, hres with
  | .error e, he => exact hx pins σ H s e s' I he
  | .ok (.ret u), he => exact I.after he
  | .ok .next, he => exact he.elim
  | .ok .brk, he => exact he.elim
  | .ok .cont, he => exact he.elim

theorem pe_callG {x : Str} {p pos : Pos} {e : Expr} {es : List Expr} {t : TA}
    (F : FnG X.prog X.w X.K X.mg X.base CX k f fd ps sp) (hgd : X.A.guards = some []) (hr : Room k X.A) (hg : Gl X x)
    (hm : X.mg x = some (.ref f)) (hk : PySem.W.keepIn X.K (.ref f) = true) (hb : Binds X.K fd ps ds) (hd : Vals dvs ds)
    (hx : Passes CX X E) (ha : PA X (e :: es) t) (hdb : (x == ("__debug__" : Str)) = false := by decide)
    (he : starEach (e :: es) X.env = (false, eval e X.env) :: starEach es X.env := by rfl)
    (hpl : (backTo pos (starEach es X.env)).any (·.1) = false := by rfl) :
    PE X (.Call (.Name x p) (e :: es) [] pos) (tCall sp dvs E t) where
  run := by
    intro pins s σ H Q I h
    refine wpAny_Call_Name_kw (ld_glob I hg hm ?_ hdb)
    refine PySem.W.callWith_K (h₀ := X.base) I.ok.mod.kin hk ?_ he hpl
    refine thn (ha.run pos pins s σ H _ I h) ?_
    rintro us s1 ⟨vs, H1, I1, rel, q⟩
    exact ⟨I1.kIn, run_fnG F hgd hr hb hd hx I1 rel q⟩
end

/-! ### repr of data -/
mutual
theorem dp_nodict {K : PySem.W.Frag} {H : Hp} : ∀ (d : PyData) (v : V), Dp K H v d → d.hasDict = false
  | .none, _, _ => by simp only [PyData.hasDict]
  | .bool _, _, _ => by simp only [PyData.hasDict]
  | .int _, _, _ => by simp only [PyData.hasDict]
  | .str _, _, _ => by simp only [PyData.hasDict]
  | .list ds, _, h => by
    cases h with
    | lst _ ha => simp only [PyData.hasDict]; exact dpAll_nodict ds _ ha
  | .tuple ds, _, h => by
    cases h with
    | tup _ ha => simp only [PyData.hasDict]; exact dpAll_nodict ds _ ha
  | .dict _, _, h => by cases h
theorem dpAll_nodict {K : PySem.W.Frag} {H : Hp} : ∀ (ds : List PyData) (vs : List V), DpAll K H vs ds → PyData.hasDictAll ds = false
  | [], _, _ => by simp only [PyData.hasDictAll]
  | d :: ds, _, h => by
    cases h with
    | cons a b => simp only [PyData.hasDictAll, dp_nodict d _ a, dpAll_nodict ds _ b, Bool.or_self]
end

/-- repr(x) of data without dicts -/
def rRepr (K : PySem.W.Frag) : List V → Hp → VK → Prop := fun xs H Q => ∃ x d, xs = [x] ∧ Dp K H x d ∧
  d.showable = true ∧ d.depth ≤ 60 ∧ d.shown.length ≤ sizeLine ∧ Q (.str d.shown) H
theorem call_repr {X : Cx} (hgd : X.A.guards = some []) (hu : X.A.units + 64 < cLine) : CallR X (.builtin "repr") (rRepr X.K) := by
  intro pins s σ H xs us Q I rel h
  obtain ⟨x, d, rfl, dp, sh, hd, hz, q⟩ := h
  cases rel with
  | cons rx rt =>
    cases rt
    rename_i u
    obtain ⟨as, rd⟩ := Dp.reads I d x u dp rx
    have nod := dp_nodict d x dp
    cases dp with
    | non =>
      cases rx
      exact PySem.P.repr_of_none ⟨.str _, H, I.tok _, ⟨_, rfl⟩, q⟩
    | bl b =>
      cases rx
      exact PySem.P.repr_of_bool ⟨.str _, H, I.tok _, ⟨_, rfl⟩, q⟩
    | int i =>
      obtain ⟨t, rfl⟩ := rx
      exact PySem.P.repr_of_int (by simpa [PyData.showable] using sh) ⟨.str _, H, I.tok _, ⟨_, rfl⟩, q⟩
    | str z =>
      obtain ⟨t, rfl⟩ := rx
      exact PySem.P.repr_of_str ⟨.str _, H, I.tok _, ⟨_, rfl⟩, q⟩ (by simpa only [PyData.shown] using hz)
    | lst _ _ =>
      cases rx
      exact repr_of_reads' rd sh (PySem.PyData.noDict_hsm nod) hgd (by omega) (fun _ _ e => e) (fun h' t tk k => ⟨.str _, H, I.kept k, ⟨_, rfl⟩, q⟩) hz
    | tup _ _ =>
      cases rx
      exact repr_of_reads' rd sh (PySem.PyData.noDict_hsm nod) hgd (by omega) (fun _ _ e => e) (fun h' t tk k => ⟨.str _, H, I.kept k, ⟨_, rfl⟩, q⟩) hz
end Gd

/-! Ex: errors of own classes as values: made, their fields read, asked for their class. -/
namespace Gd
open PySem PySem.Spec PyProof.Rows L2

/-- what isinstance and the fields ask of such a class -/
structure ErC (K : PySem.W.Frag) (C : Addr) : Prop where
  ga : PySem.W.findIn K (.ref C) "__getattribute__" = some (some (.builtin "BaseException.__getattribute__"))
  gg : PySem.W.findIn K (.ref C) "__getattr__" = some none
  be : PySem.W.subIn K (.ref C) (.type "BaseException") = some true
  hd : PySem.W.hasDictIn K C = true
  ci : PySem.W.isClsIn K C = true
  cc : PySem.W.findIn K (.ref C) "__class__" = some (some (.builtin "object.__class__"))
  cg : PySem.W.specialIn K (.builtin "object.__class__") "__get__" = some (some (.builtin "getset_descriptor.__get__"))
  ct : PySem.W.takesIn K (.builtin "object.__class__") = some true
  om : PySem.W.mroIn K C (.type "object") = some true

section
variable {X : Cx} {CX : CXT} {pins : List (Addr × Obj)} {σ : L2.St} {H : Hp} {s : Shared}

/-- an error of the class at C stands at a, its fields fs (the last stored first) -/
def ErA (H : Hp) (a C : Addr) (fs : List (Str × V)) : Prop :=
  (H a = some (exo a C none) ∧ fs = []) ∨ ∃ d, H a = some (exo a C (some d)) ∧ H d = some (exd d fs)

/-- such an error, as the library's rules see it -/
theorem inst_of {a C : Addr} {fs : List (Str × V)} (I : Inv X pins σ H s) (e : ErA H a C fs) :
    ∃ ox od, PySem.W.InstAt s.heap a ox C od ∧ ∀ n v, fs.lookup n = some v →
      ∃ u o, od = some o ∧ PySem.W.lookIn n o = some (some u) ∧ RelV v u := by
  obtain ⟨e, rfl⟩ | ⟨d, e, ed⟩ := e
  · obtain ⟨t, ho⟩ := exo_at I.hok e
    exact ⟨_, none, ⟨ho, rfl, rfl, trivial⟩, fun n v z => by cases z⟩
  · obtain ⟨t, ho⟩ := exo_at I.hok e
    obtain ⟨mA, hns, rel⟩ := exd_at I.hok ed
    obtain ⟨od, hod, look⟩ := lookIn_ns hns
    refine ⟨_, some od, ⟨ho, rfl, rfl, hod⟩, fun n v z => ?_⟩
    have rn := rel n
    rw [z] at rn
    cases q : mA n with
    | none => rw [q] at rn; exact rn.elim
    | some u =>
      rw [q] at rn
      exact ⟨u, od, rfl, by rw [look, q], rn⟩

/-- isinstance(e, c) -/
def rIsEr (K : PySem.W.Frag) : List V → Hp → VK → Prop := fun xs H Q => ∃ (a C : Addr) (fs : List (Str × V)) (c : V) (u : Value) (b : Bool),
  xs = [.ref a, c] ∧ ErA H a C fs ∧ ErC K C ∧ ClsV c u ∧ PySem.W.kitOne K (.ref C) u = some b ∧ Q (.bl b) H
theorem call_isEr : CallR X (.builtin "isinstance") (rIsEr X.K) := by
  intro pins s σ H xs us Q I rel h
  obtain ⟨a, C, fs, c, u, b, rfl, ea, T, kc, kit, q⟩ := h
  obtain ⟨u1, u2, rfl, r1, r2⟩ := vals2 rel
  cases (show u1 = Value.ref a from r1)
  have e2 := kc.eq r2
  subst e2
  obtain ⟨ox, od, J, _⟩ := inst_of I ea
  have Z := PySem.W.kitx_exc (x := a) (ox := ox) (od := od) (K := X.K) T.ci T.ga T.gg T.be T.cc T.cg T.ct T.om
  exact PySem.W.kia_one Z I.kIn J kit (fun z => nomatch z) fun tk => ⟨.bl b, H, I.tok tk, rfl, q⟩

/-- e.f -/
def tErF (K : PySem.W.Frag) (f : Str) (te : TE) : TE := fun σ H Q => te σ H fun x H1 => ∃ (a C : Addr) (fs : List (Str × V)) (v : V),
  x = .ref a ∧ ErA H1 a C fs ∧ ErC K C ∧ PySem.W.findIn K (.ref C) f = some none ∧ fs.lookup f = some v ∧ Q v H1
theorem pe_erF {e : Expr} {te : TE} {pos : Pos} {f : Str} (he : PE X e te)
    (hb : attributeBase e f X.env (eval e X.env) = eval e X.env := by rfl) : PE X (.Attribute e f pos) (tErF X.K f te) where
  run := by
    intro pins s σ H Q I h
    refine attr_of hb (thn (he.run pins s σ H _ I h) ?_)
    rintro u s1 ⟨x, H1, I1, rx, a, C, fs, v, ex, ea, T, no, l, q⟩
    subst ex
    cases (show u = Value.ref a from rx)
    obtain ⟨ox, od, J, g⟩ := inst_of I1 ea
    obtain ⟨u, o, rfl, lk, ru⟩ := g f v l
    exact HandSPX.exc_get I1.kIn J T.ga T.gg T.be (PySem.W.findObj_own T.hd no rfl lk) (handed_of ru) ⟨v, H1, I1.tok _, ru, q⟩

/-- C(), an error class without an __init__ of its own -/
def tEr0 (C : Addr) : TE := fun _ H Q => ∀ a, H a = none → Q (.ref a) (upd H a (exo a C none))
theorem pe_er0 {C : Addr} {bmB : List Value} {B newId initId : String} {x : Str} {p pos : Pos} (F : ExcBaseFacts B newId initId bmB)
    (q : PySem.W.excIn X.K C bmB newId = true) (gC : X.mg x = some (.ref C)) (kC : PySem.W.keepIn X.K (.ref C) = true) (hg : Gl X x)
    (hdb : (x == ("__debug__" : Str)) = false := by decide) : PE X (.Call (.Name x p) [] [] pos) (tEr0 C) where
  run := by
    intro pins s σ H Q I h
    refine wpAny_Call_Name_kw (ld_glob I hg gC ?_ hdb)
    refine PySem.W.callWith_K0 I.kIn kC ?_
    obtain ⟨bm, N, nm, qn, bs, hdct, sn, sub, ab, col, dd, k0, k1, k2, k3, k5, mN, hC, hN, hni, T⟩ := exc_obj I.kIn q
    obtain ⟨hp, g, d, t, os⟩ := s
    refine wpAny_call_exc_subT F T hC hN hni ?_ (by show 0 ≤ sizeLine; exact Nat.zero_le _)
    intro h' a hm
    have fresh : H a = none := I.hok.gone hm.new
    obtain ⟨t0, ht, _, _⟩ := hm.there
    have lay : ObjOk X.prog X.w (upd H a (exo a C none)) h' a (exo a C none) := exo_ok ht
    refine ⟨.ref a, _, I.un (t' := t) ?_ ?_, rfl, h a fresh⟩
    · exact {
        keep := fun b u z _ _ _ => hm.keeps b u z
        slot := fun b u z _ _ _ => ⟨u.slots, hm.keeps b u z⟩
        free := fun b u z n _ => by rw [upd_ne (fun e => by rw [e] at z; have := hm.new; rw [this] at z; cases z)]; exact n
        there := fun b u z _ => ⟨u, hm.keeps b u z⟩
        tups := fun b xs z => by rw [upd_ne (ne_of_none z fresh)]; exact z
        frzs := fun b o u z => by rw [upd_ne (ne_of_none z fresh)]; exact z
        tbls := fun b ps z => ⟨#[], by rw [upd_ne (ne_of_none z fresh), z]; simp⟩ }
    · intro b u z
      by_cases e : b = a
      · subst e
        rw [upd_same] at z
        cases z
        exact lay
      · rw [upd_ne e] at z
        exact (I.hok b u z).stay (fun c v _ y => hm.keeps c v y) (fun c y => by rw [upd_ne (ne_of_none y fresh)]; exact y)
          fun c xs y => by rw [upd_ne (ne_of_none y fresh)]; exact y

/-- C(e, ..), C's own __init__ keeping sp -/
def tErI (C : Addr) (sp : Sp) (ta : TA) : TE := fun σ H Q => ta σ H fun vs H1 => vs.length ≤ 1000 ∧ ∀ a, H1 a = none →
  sp (.ref a :: vs) (upd H1 a (exo a C none)) (fun v H2 => v = .non ∧ Q (.ref a) H2) (fun _ _ _ => False)
theorem pe_erI {x : Str} {C fI : Addr} {k : Nat} {fd : FuncData} {ps : List Str} {sp : Sp} {e : Expr} {es : List Expr} {ta : TA} {p pos : Pos}
    (T : OexC X.K C) (iC : PySem.W.findIn X.K (.ref C) "__init__" = some (some (.ref fI))) (tI : PySem.W.typeIn X.K (.ref fI) = some (.type "function"))
    (F1 : FnOk X.prog X.w X.K X.mg X.base CX k fI fd ps sp) (hr : Room (k + 1) X.A) (hb : Binds X.K fd ps [])
    (hx : Passes CX X (fun _ _ _ => False)) (hg : Gl X x) (hm : X.mg x = some (.ref C)) (ha : PA X (e :: es) ta)
    (hdb : (x == ("__debug__" : Str)) = false := by decide)
    (he : starEach (e :: es) X.env = (false, eval e X.env) :: starEach es X.env := by rfl)
    (hpl : (backTo pos (starEach es X.env)).any (·.1) = false := by rfl) :
    PE X (.Call (.Name x p) (e :: es) [] pos) (tErI C sp ta) where
  run := by
    intro pins s σ H Q I h
    obtain ⟨nm, q, N, bs, bm, sn, sub, ab, col, dd, k0, k1, k2, k3, k5, hC, hbm⟩ := T.cls
    refine wpAny_Call_Name_kw (ld_glob I hg hm ?_ hdb)
    refine PySem.W.callWith_K (h₀ := X.base) I.ok.mod.kin T.kC (thn (ha.run pos pins s σ H _ I h) ?_) he hpl
    rintro us s1 ⟨vs, H1, I1, rel, few, next⟩
    refine ⟨I1.kIn, ?_⟩
    show wpAny _ _ (call (.ref C) us) _ _ _
    obtain ⟨hp, g, dr, tk, os⟩ := s1
    have above : hp.objs.size ≤ hp.objs.size + 1 := Nat.le_succ _
    have call := next (hp.objs.size + 1) (I1.hok.fresh above)
    have kept : ∀ b o, hp.get? b = some o → ((hp.push (PySem.W.kdv_tup us)).push (PySem.HandSPX.excO C hp.objs.size)).get? b = some o :=
      fun b o z => Heap.get?_push_of_some _ (Heap.get?_push_of_some _ z)
    have there : ((hp.push (PySem.W.kdv_tup us)).push (PySem.HandSPX.excO C hp.objs.size)).get? (hp.objs.size + 1) = some (PySem.HandSPX.excO C hp.objs.size) := by heap_get
    have I2 := I1.laid (t' := tk) (o := exo (hp.objs.size + 1) C none) kept above (exo_ok there)
    have rel2 : Vals (V.ref (hp.objs.size + 1) :: vs) (Value.ref (hp.objs.size + 1) :: us) := .cons rfl rel
    have len2 : (Value.ref (hp.objs.size + 1) :: us ++ []).length = ps.length := by
      rw [List.append_nil, ← rel2.length]
      exact F1.len _ _ _ _ call
    have usz : us.length ≤ sizeLine := by
      have := Paired.length rel
      rw [sizeLine_eq]
      omega
    have bound := hb _ (Value.ref (hp.objs.size + 1) :: us) I2.kIn len2
    rw [List.append_nil] at bound
    refine wpAny_call (PySem.HandSPX.call_own F.excBase_ValueError (fun Y => PySem.HandSPX.refsVE_contains Y bm hbm) (I1.kIn _ _ hC)
      (PySem.W.looks_findIn I1.kIn iC) (fun self => PySem.W.bind_fn I1.kIn self tI) usz ?_)
    refine codeAny_mono (F1.run _ X.stack _ _ ⟨Value.ref (hp.objs.size + 1) :: us, []⟩ _ _ _ (fun _ _ _ => False) (hr.make C us [])
      (I2.env0.make C us []) bound rel2 call) ?_
    intro r s' hr'
    match r, hr' with
    | .error er, z => exact hx pins σ _ _ er s' I2 z
    | .ok (.ret u), z =>
      obtain ⟨v, H2, I3, rv, ev, q2⟩ := I2.after z
      subst ev
      exact ⟨rv, ⟨V.ref (hp.objs.size + 1), H2, I3, rfl, q2⟩⟩
    | .ok .next, z => exact z.elim
    | .ok .brk, z => exact z.elim
    | .ok .cont, z => exact z.elim
end
end Gd

/-! Ge: the end of a law row over a def of the kind FnG. -/
namespace Gd
open PySem PySem.Spec PyProof.Rows L2

/-- what the law's call finds: an abstract heap that tracks the script at most, a base without it -/
structure Entry (P : Program) (w : World) (K : PySem.W.Frag) (mg : Str → Option Value) (s : Shared) (a : Addr) (ns : List Int)
    (H : Hp) (base : Heap) : Prop where
  only : Only H
  script : SqL K H a (ns.map V.int)
  kin : K.In base
  glob : base.Ns mainGlobals mg
  env : Env0 P w K mg base callerA [] s H
  old : ∀ (H' : Hp) (s' : Shared), Un [] [] H H' s.heap s'.heap → HOk P w H' s'.heap → PySem.OldK s.heap s'.heap

section
variable {P : Program} {w : World} {K : PySem.W.Frag} {mg mb : Str → Option Value} {s : Shared} {a : Addr} {vs : List Value} {ns : List Int}
theorem entry_of {H : Hp} (kin : K.In s.heap) (hns : s.heap.Ns mainGlobals mg) (hb : s.heap.Ns builtinsNs mb)
    (hbb : ∀ x : Str, x ≠ "__name__" → mb x = bootBuiltins x) (hlim : s.heap.NoLimit) (hg : s.gens = #[])
    (ha : s.heap.get? a = some { cls := .type "list", data := .seq vs.toArray })
    (o1 : Only H) (o2 : SqL K H a (ns.map V.int)) (o3 : HOk P w H s.heap) (o4 : ∀ b, H b ≠ none → b = a)
    (o5 : H a ≠ none → K.lookup a = none) : ∃ base, Entry P w K mg s a ns H base := by
  -- whatever isn't the script's own object is in the base
  have stays : ∀ {b : Addr} {o : Obj}, s.heap.get? b = some o → (b = a → H b = none) → (hidT s.heap H).get? b = some o := by
    intro b o e h
    refine hidT_get e ?_
    by_cases z : b = a
    · exact h z
    · exact Classical.byContradiction fun q => z (o4 b q)
  have ns_in : ∀ {b : Addr} {m : Str → Option Value}, s.heap.Ns b m → (hidT s.heap H).Ns b m := by
    rintro b m ⟨o, es, ep, e, d, r⟩
    refine ⟨o, es, ep, stays e fun z => ?_, d, r⟩
    rw [z, ha] at e
    rw [← Option.some.inj e] at d
    cases d
  have kin' : K.In (hidT s.heap H) := by
    intro b o e
    refine stays (kin b o e) fun z => Classical.byContradiction fun q => ?_
    rw [z] at q e
    rw [o5 q] at e
    cases e
  obtain ⟨mc, l1, l2⟩ := hlim
  refine ⟨hidT s.heap H, o1, o2, kin', ns_in hns, ?_, ?_⟩
  · refine ⟨rfl, ⟨kin', ns_in hns, ⟨mb, ns_in hb, hbb⟩, ⟨mc, ns_in l1, l2⟩⟩, fun b o e => of_hidT e, Nat.le_of_eq (hidT_size _ _), trivial, ?_, o3, .of_eq hg⟩
    intro b hm
    exact (List.not_mem_nil hm).elim
  · intro H' s' un ok'
    refine PySem.OldK.of_keep fun b o e => ?_
    cases q : H b with
    | none => exact un.keep b o e q List.not_mem_nil List.not_mem_nil
    | some u =>
      obtain z | ⟨ob, xs, z⟩ := o1 b
      · rw [q] at z
        cases z
      · obtain ⟨was, _⟩ := o3 b _ z
        obtain ⟨still, _⟩ := ok' b _ (un.frzs b ob _ z)
        rw [e] at was
        rw [Option.some.inj was]
        exact still

theorem entry_is (kin : K.In s.heap) (hns : s.heap.Ns mainGlobals mg) (hb : s.heap.Ns builtinsNs mb)
    (hbb : ∀ x : Str, x ≠ "__name__" → mb x = bootBuiltins x) (hlim : s.heap.NoLimit) (hg : s.gens = #[])
    (ha : s.heap.get? a = some { cls := .type "list", data := .seq vs.toArray })
    (hi : IntsAre vs ns) (hl : ns.length ≤ sizeLine) : ∃ H base, Entry P w K mg s a ns H base := by
  have rv := vals_ints hi
  have ln := hi.length
  cases hk : K.lookup a with
  | some o =>
    have e := kin a o hk
    rw [ha] at e
    cases e
    have sq : SqL K (fun _ => none) a (ns.map V.int) :=
      .inr ⟨_, vs.toArray, _, hk, rfl, rfl, rfl, by rw [List.size_toArray, ln]; exact hl, by simpa using rv⟩
    obtain ⟨base, E⟩ := entry_of (P := P) (w := w) kin hns hb hbb hlim hg ha (fun _ => .inl rfl) sq
      (fun b u z => by cases (show (none : Option HO) = some u from z)) (fun b z => absurd rfl z) fun z => absurd rfl z
    exact ⟨_, base, E⟩
  | none =>
    let H : Hp := fun b => if b = a then some (.frz { cls := .type "list", data := .seq vs.toArray } (.lst (ns.map V.int))) else none
    have at_a : H a = some (.frz { cls := .type "list", data := .seq vs.toArray } (.lst (ns.map V.int))) := if_pos rfl
    have off_a : ∀ {b}, b ≠ a → H b = none := fun z => if_neg z
    have ok : HOk P w H s.heap := by
      intro b u z
      by_cases q : b = a
      · subst q
        rw [at_a] at z
        cases z
        exact ⟨ha, by rw [List.length_map]; exact hl, vs, _, rv, ha⟩
      · rw [off_a q] at z
        cases z
    have on : Only H := by
      intro b
      by_cases q : b = a
      · subst q
        exact .inr ⟨_, _, at_a⟩
      · exact .inl (off_a q)
    obtain ⟨base, E⟩ := entry_of (P := P) (w := w) kin hns hb hbb hlim hg ha on (.inl (.inr ⟨_, at_a⟩)) ok
      (fun b z => Classical.byContradiction fun q => z (off_a q)) fun _ => hk
    exact ⟨H, base, E⟩
end

theorem walkG {l : PySem.W.OpenLaw} {n k : Nat} {q : Program} {loose : List Str} {XP : (Str → Option Value) → Heap → Prop}
    {YP : World → Heap → Prop} {d : DefRec} {K : Params → PySem.W.Frag} {sp : World → Sp} {x : Str}
    (hn : l.most = some n) (hn2 : n ≤ sizeLine) (hdf : d.params.defaults = []) (hr : Room k callerA)
    (hY : ∀ (w : World) (h : Heap), YP w h → (K w.params).In h)
    (F : ∀ (w : World) (mg : Str → Option Value) (fa : Addr) (h : Heap), (K w.params).In h → h.Ns mainGlobals mg → mg d.name = some (.ref fa) →
      ∃ fd : FuncData, (∀ (s : Shared) (u : Value), BindsTo s fd ⟨[u], []⟩ [(x, u)]) ∧
        ∀ base : Heap, (K w.params).In base → base.Ns mainGlobals mg → FnG l.prog w (K w.params) mg base CX0 k fa fd [x] (sp w))
    (hsp : ∀ (w : World) (H : Hp) (a : Addr) (ns : List Int), ns.length ≤ n → Only H → SqL (K w.params) H a (ns.map V.int) →
      sp w [.ref a] H (fun v _ => v = .bl true) fun _ _ _ => False) :
    PySem.W.WalkO q loose XP YP l.row.toRowW d [] (fun f vs => PySem.call f vs) := by
  refine Att.attach_call hn hdf ?_
  intro w s₀ s₁ mg mb fa o pm cd doc a vs ns G Y ho hd hcd hmg hobj hints hlen hgens
  have kin := hY w _ Y
  obtain ⟨fd, binds, all⟩ := F w mg fa _ kin G.T.g hmg
  obtain ⟨H, base, E⟩ := entry_is (P := l.prog) (w := w) kin G.T.g G.T.b G.T.builtins G.T.nolimit hgens hobj hints (Nat.le_trans hlen hn2)
  have run := (all base E.kin E.glob).go callerA [] s₁ H ⟨[.ref a], []⟩ [.ref a] [.ref a] _ _ rfl hr E.env (binds s₁ (.ref a)) (.cons rfl .nil)
    (hsp w H a ns hlen E.only E.script)
  refine codeAny_mono run ?_
  intro res s' hres
  match res, hres with
  | .ok (.ret u), ⟨v, H', os, bare, un, ok', rel, e⟩ =>
    subst e
    cases (show u = Value.bool true from rel)
    exact ⟨rfl, E.old H' s' un ok', os, bare⟩
end Gd

/-! Gr: repr of data, lists and tuples and dicts within one another. -/
namespace Gd
open PySem PySem.Spec PyProof.Rows L2
def kD : Key → PyData
  | .inl i => .int i
  | .inr x => .str x
mutual
/-- v is the data d, at the abstract heap -/
inductive Dq (K : PySem.W.Frag) (H : Hp) : V → PyData → Prop
  | non : Dq K H .non .none
  | bl (b : Bool) : Dq K H (.bl b) (.bool b)
  | int (i : Int) : Dq K H (.int i) (.int i)
  | str (x : Str) : Dq K H (.str x) (.str x)
  | lst {a : Addr} {xs : List V} {ds : List PyData} : SqL K H a xs → DqAll K H xs ds → Dq K H (.ref a) (.list ds)
  | tup {a : Addr} {xs : List V} {ds : List PyData} : SqT K H a xs → DqAll K H xs ds → Dq K H (.ref a) (.tuple ds)
  | dct {a : Addr} {kvs : List (Key × V)} {ds : List (PyData × PyData)} : Rd H a (.dK kvs) → DqKv K H kvs ds → Dq K H (.ref a) (.dict ds)
inductive DqAll (K : PySem.W.Frag) (H : Hp) : List V → List PyData → Prop
  | nil : DqAll K H [] []
  | cons {v : V} {vs : List V} {d : PyData} {ds : List PyData} : Dq K H v d → DqAll K H vs ds → DqAll K H (v :: vs) (d :: ds)
inductive DqKv (K : PySem.W.Frag) (H : Hp) : List (Key × V) → List (PyData × PyData) → Prop
  | nil : DqKv K H [] []
  | cons {k : Key} {v : V} {vs : List (Key × V)} {d : PyData} {ds : List (PyData × PyData)} : Dq K H v d → DqKv K H vs ds → DqKv K H ((k, v) :: vs) ((kD k, d) :: ds)
end

theorem ram_nil {h : Heap} {n : Nat} : ReadAtMost h n [] := fun b hb => (List.not_mem_nil hb).elim
/-- a value's own repr, and what it reads -/
structure Rp (prog : Program) (w : World) (h : Heap) (u : Value) (d : PyData) : Prop where
  reads : ∃ as, Reads h u d as
  repr : d.showable = true → d.shown.length ≤ sizeLine → ∃ bs, ReadAtMost h d.depth bs ∧ ReprK prog w bs h d.depth u d.shown
structure RpAll (prog : Program) (w : World) (h : Heap) (us : List Value) (ds : List PyData) : Prop where
  reads : ∃ as, ReadsAll h us ds as
  repr : PyData.showableAll ds = true → (∀ t ∈ PyData.shownAll ds, t.length ≤ sizeLine) →
    ∃ bs, ReadAtMost h (PyData.depthAll ds) bs ∧ ReprAllK prog w bs h (PyData.depthAll ds) us (PyData.shownAll ds)
section
variable {prog : Program} {w : World} {h : Heap}
theorem RpAll.nil : RpAll prog w h [] [] := ⟨⟨_, .nil⟩, fun _ _ => ⟨[], ram_nil, by simp only [PyData.shownAll]; exact .nil⟩⟩
theorem RpAll.cons {u : Value} {d : PyData} {us : List Value} {ds : List PyData} (a : Rp prog w h u d) (b : RpAll prog w h us ds) : RpAll prog w h (u :: us) (d :: ds) where
  reads := by
    obtain ⟨as, r⟩ := a.reads
    obtain ⟨bs, rs⟩ := b.reads
    exact ⟨_, .cons r rs⟩
  repr := by
    intro hs hz
    obtain ⟨s1, s2⟩ : d.showable = true ∧ PyData.showableAll ds = true := by simpa [PyData.showableAll] using hs
    obtain ⟨b1, m1, k1⟩ := a.repr s1 (hz _ (by simp only [PyData.shownAll]; exact List.mem_cons_self ..))
    obtain ⟨b2, m2, k2⟩ := b.repr s2 fun t ht => hz t (by simp only [PyData.shownAll]; exact List.mem_cons_of_mem _ ht)
    refine ⟨b1 ++ b2, ?_, ?_⟩
    · simp only [PyData.depthAll]
      exact (m1.mono (Nat.le_max_left _ _)).append (m2.mono (Nat.le_max_right _ _))
    · simp only [PyData.depthAll, PyData.shownAll]
      have sub1 : ∀ c ∈ b1, c ∈ b1 ++ b2 := fun c hc => List.mem_append_left _ hc
      have sub2 : ∀ c ∈ b2, c ∈ b1 ++ b2 := fun c hc => List.mem_append_right _ hc
      exact .cons ((k1.more sub1).level_le (Nat.le_max_left _ _)) (k2.more_le sub2 (Nat.le_max_right _ _))
theorem Rp.list {a : Addr} {o : Obj} {us : List Value} {n : Nat} {ds : List PyData} (ho : h.get? a = some o) (hc : o.cls = .type "list") (hd : o.data = .seq us.toArray n) (all : RpAll prog w h us ds) : Rp prog w h (.ref a) (.list ds) := by
  obtain ⟨as, rs⟩ := all.reads
  have r : Reads h (.ref a) (.list ds) _ := .list ho hc hd rs
  refine ⟨⟨_, r⟩, fun hs hz => ?_⟩
  have hz' : (listText (PyData.shownAll ds)).length ≤ sizeLine := by simpa only [PyData.shown] using hz
  obtain ⟨bs, m, k⟩ := all.repr (by simpa [PyData.showable] using hs) fun t ht => Nat.le_trans (listText_mem_le ht) hz'
  have deep : PyData.depthAll ds < PyData.depth (.list ds) := by simp only [PyData.depth]; omega
  have off : a ∉ bs := not_mem_of_deeper r deep m
  refine ⟨a :: bs, ReadAtMost.cons r (Nat.le_of_lt deep) m, ?_⟩
  simp only [PyData.depth, PyData.shown]
  cases us with
  | nil =>
    cases rs
    simp only [PyData.shownAll, listText_nil]
    exact ReprK.listEmpty ho hc hd
  | cons u us => exact ReprK.list ho hc hd off (by simpa using k.length_eq) fun i y e => k.item i y (by simpa using e)
theorem Rp.tuple {a : Addr} {o : Obj} {us : List Value} {n : Nat} {ds : List PyData} (ho : h.get? a = some o) (hc : o.cls = .type "tuple") (hd : o.data = .seq us.toArray n) (all : RpAll prog w h us ds) : Rp prog w h (.ref a) (.tuple ds) := by
  obtain ⟨as, rs⟩ := all.reads
  have r : Reads h (.ref a) (.tuple ds) _ := .tuple ho hc hd rs
  refine ⟨⟨_, r⟩, fun hs hz => ?_⟩
  have hz' : (tupleText (PyData.shownAll ds)).length ≤ sizeLine := by simpa only [PyData.shown] using hz
  obtain ⟨bs, m, k⟩ := all.repr (by simpa [PyData.showable] using hs) fun t ht => Nat.le_trans (tupleText_mem_le ht) hz'
  have deep : PyData.depthAll ds < PyData.depth (.tuple ds) := by simp only [PyData.depth]; omega
  refine ⟨a :: bs, ReadAtMost.cons r (Nat.le_of_lt deep) m, ?_⟩
  simp only [PyData.depth, PyData.shown]
  exact ReprK.tuple ho hc hd (not_mem_of_deeper r deep m) k
theorem Rp.dict {a : Addr} {o : Obj} {es : Array DictEntry} {n : Nat} {ds : List (PyData × PyData)} (ho : h.get? a = some o) (hc : o.cls = .type "dict") (hd : o.data = .dict es n) (low : (a == sysModules) = false)
    (ks : RpAll prog w h (es.toList.map (·.key)) (ds.map (·.1))) (vs : RpAll prog w h (es.toList.map (·.val)) (ds.map (·.2))) : Rp prog w h (.ref a) (.dict ds) := by
  obtain ⟨as, r1⟩ := ks.reads
  obtain ⟨bs, r2⟩ := vs.reads
  have r : Reads h (.ref a) (.dict ds) _ := .dict ho hc hd r1 r2
  refine ⟨⟨_, r⟩, fun hs hz => ?_⟩
  have hz' : (dictText (PyData.shownKv ds)).length ≤ sizeLine := by simpa only [PyData.shown] using hz
  obtain ⟨s1, s2⟩ := PyData.showableKv_split ds (by simpa [PyData.showable] using hs)
  obtain ⟨b1, m1, k1⟩ := ks.repr s1 fun t ht => by
    obtain ⟨p, hp, hl⟩ := PyData.shownKv_key_le ds t ht
    exact Nat.le_trans hl (Nat.le_trans (dictText_mem_le hp) hz')
  obtain ⟨b2, m2, k2⟩ := vs.repr s2 fun t ht => by
    obtain ⟨p, hp, hl⟩ := PyData.shownKv_val_le ds t ht
    exact Nat.le_trans hl (Nat.le_trans (dictText_mem_le hp) hz')
  have deep : PyData.depthKv ds < PyData.depth (.dict ds) := by simp only [PyData.depth]; omega
  have m := (m1.mono (PyData.depthAll_keys_le ds)).append (m2.mono (PyData.depthAll_vals_le ds))
  refine ⟨a :: (b1 ++ b2), ReadAtMost.cons r (Nat.le_of_lt deep) m, ?_⟩
  simp only [PyData.depth, PyData.shown, PyData.shownKv_eq]
  have sub1 : ∀ c ∈ b1, c ∈ b1 ++ b2 := fun c hc => List.mem_append_left _ hc
  have sub2 : ∀ c ∈ b2, c ∈ b1 ++ b2 := fun c hc => List.mem_append_right _ hc
  exact ReprK.dict ho hc hd low (not_mem_of_deeper r deep m) (ReprEntriesK.of_two es.toList _ _ (k1.more_le sub1 (PyData.depthAll_keys_le ds)) (k2.more_le sub2 (PyData.depthAll_vals_le ds)))
theorem Rp.int (i : Int) (t : Tok) : Rp prog w h (.int i t) (.int i) :=
  ⟨⟨_, .int i t⟩, fun hs _ => ⟨[], ram_nil, by simp only [PyData.shown]; exact .of_is (ReprIs.int t (by simpa [PyData.showable] using hs)) _ _ _⟩⟩
theorem Rp.str (x : Str) (t : Tok) : Rp prog w h (.str x t) (.str x) :=
  ⟨⟨_, .str x t⟩, fun _ hz => ⟨[], ram_nil, by simp only [PyData.shown]; exact .of_is (ReprIs.str x t (by simpa only [PyData.shown] using hz)) _ _ _⟩⟩
theorem Rp.bool (b : Bool) : Rp prog w h (.bool b) (.bool b) :=
  ⟨⟨_, .bool b⟩, fun _ _ => ⟨[], ram_nil, by simp only [PyData.shown]; exact .of_is (ReprIs.bool b) _ _ _⟩⟩
theorem Rp.none : Rp prog w h .none .none :=
  ⟨⟨_, .none⟩, fun _ _ => ⟨[], ram_nil, by simp only [PyData.shown]; exact .of_is ReprIs.none _ _ _⟩⟩
end
section
variable {X : Cx} {pins : List (Addr × Obj)} {σ : L2.St} {H : Hp} {s : Shared}
theorem key_rp {prog : Program} {w : World} {h : Heap} {k : Key} {u : Value} (e : keyIs k u = true) : Rp prog w h u (kD k) := by
  rcases keyIs_shape e with ⟨i, t, rfl, rfl⟩ | ⟨x, t, rfl, rfl⟩
  · exact Rp.int i t
  · exact Rp.str x t
mutual
theorem Dq.rp (I : Inv X pins σ H s) : ∀ (d : PyData) (v : V) (u : Value), Dq X.K H v d → RelV v u → Rp X.prog X.w s.heap u d
  | .none, _, _, h, r => by cases h; cases r; exact Rp.none
  | .bool b, _, _, h, r => by cases h; cases r; exact Rp.bool b
  | .int i, _, _, h, r => by cases h; obtain ⟨t, rfl⟩ := r; exact Rp.int i t
  | .str x, _, _, h, r => by cases h; obtain ⟨t, rfl⟩ := r; exact Rp.str x t
  | .list ds, _, _, h, r => by
    cases h with
    | lst hs ha =>
      cases r
      obtain ⟨its, rv, ⟨o, n, ho, hc, _, hd⟩, _⟩ := I.list hs
      exact Rp.list ho hc hd (DqAll.rp I ds _ its ha rv)
  | .tuple ds, _, _, h, r => by
    cases h with
    | tup hs ha =>
      cases r
      obtain ⟨its, rv, ⟨o, ho, hc, n, hd⟩, _⟩ := I.tuple hs
      exact Rp.tuple ho hc hd (DqAll.rp I ds _ its ha rv)
  | .dict ds, _, _, h, r => by
    cases h with
    | dct hs ha =>
      cases r
      obtain ⟨_, low, vs, kv, o, es, ep, ho, hx, hd, _, hp, _⟩ := dk_rd I.hok hs
      obtain ⟨k1, k2⟩ := DqKv.rp I ds _ vs es.toList ha kv hp
      exact Rp.dict ho hx.1 hd low k1 k2
theorem DqAll.rp (I : Inv X pins σ H s) : ∀ (ds : List PyData) (vs : List V) (us : List Value), DqAll X.K H vs ds → Vals vs us → RpAll X.prog X.w s.heap us ds
  | [], _, _, h, r => by cases h; cases r; exact RpAll.nil
  | d :: ds, _, _, h, r => by
    cases h with
    | cons h1 h2 =>
      cases r with
      | cons r1 r2 => exact RpAll.cons (Dq.rp I d _ _ h1 r1) (DqAll.rp I ds _ _ h2 r2)
theorem DqKv.rp (I : Inv X pins σ H s) : ∀ (ds : List (PyData × PyData)) (kvs : List (Key × V)) (vs : List (Key × Value)) (es : List DictEntry), DqKv X.K H kvs ds → KV kvs vs → Pairs (mixKind X.prog X.w) es vs →
    RpAll X.prog X.w s.heap (es.map (·.key)) (ds.map (·.1)) ∧ RpAll X.prog X.w s.heap (es.map (·.val)) (ds.map (·.2))
  | [], _, _, _, h, r, p => by cases h; cases r; cases p; exact ⟨RpAll.nil, RpAll.nil⟩
  | (dk, d) :: ds, _, _, _, h, r, p => by
    cases h with
    | cons h1 h2 =>
      cases r with
      | cons r1 r2 =>
        obtain ⟨r0, r1⟩ := r1
        cases p with
        | cons hk hv ht =>
          obtain ⟨a, b⟩ := DqKv.rp I ds _ _ _ h2 r2 ht
          simp only at r0 r1
          subst r0
          exact ⟨RpAll.cons (key_rp hk) a, RpAll.cons (Dq.rp I d _ _ h1 (by rw [← hv] at r1; exact r1)) b⟩
end
end
/-- repr(x) of data -/
def rReprQ (K : PySem.W.Frag) : List V → Hp → VK → Prop := fun xs H Q => ∃ x d, xs = [x] ∧ Dq K H x d ∧
  d.showable = true ∧ d.depth ≤ 60 ∧ d.shown.length ≤ sizeLine ∧ Q (.str d.shown) H
theorem call_reprQ {X : Cx} (hgd : X.A.guards = some []) (hu : X.A.units + 64 < cLine) : CallR X (.builtin "repr") (rReprQ X.K) := by
  intro pins s σ H xs us Q I rel h
  obtain ⟨x, d, rfl, dq, sh, hd, hz, q⟩ := h
  cases rel with
  | cons rx rt =>
    cases rt
    rename_i u
    cases dq with
    | non =>
      cases rx
      exact PySem.P.repr_of_none ⟨.str _, H, I.tok _, ⟨_, rfl⟩, q⟩
    | bl b =>
      cases rx
      exact PySem.P.repr_of_bool ⟨.str _, H, I.tok _, ⟨_, rfl⟩, q⟩
    | int i =>
      obtain ⟨t, rfl⟩ := rx
      exact PySem.P.repr_of_int (by simpa [PyData.showable] using sh) ⟨.str _, H, I.tok _, ⟨_, rfl⟩, q⟩
    | str z =>
      obtain ⟨t, rfl⟩ := rx
      exact PySem.P.repr_of_str ⟨.str _, H, I.tok _, ⟨_, rfl⟩, q⟩ (by simpa only [PyData.shown] using hz)
    | lst hs ha =>
      cases rx
      rename_i a zs ds
      obtain ⟨its, rv, ⟨o, n, ho, hc, _, hdt⟩, _⟩ := I.list hs
      have all := DqAll.rp I ds _ its ha rv
      obtain ⟨as, rs⟩ := all.reads
      have r : Reads s.heap (.ref a) (.list ds) _ := .list ho hc hdt rs
      have hz' : (listText (PyData.shownAll ds)).length ≤ sizeLine := by simpa only [PyData.shown] using hz
      obtain ⟨bs, m, k⟩ := all.repr (by simpa [PyData.showable] using sh) fun t ht => Nat.le_trans (listText_mem_le ht) hz'
      have deep : PyData.depthAll ds < PyData.depth (.list ds) := by simp only [PyData.depth]; omega
      refine call_repr_slot (by omega) ⟨o, ho, hc⟩ F.slot_list_repr.toG ?_
      cases its with
      | nil =>
        cases rs
        refine call_list_repr_empty ⟨o, ho, hc⟩ ho hdt ?_
        exact ⟨_, _, rfl, .str _, H, I.tok _, ⟨_, rfl⟩, by simpa only [PyData.shown, PyData.shownAll, listText_nil] using q⟩
      | cons u0 us0 =>
        refine call_list_reprK ho hc hdt (not_mem_of_deeper r deep m) (by simpa using k.length_eq) (fun i y e => k.item i y (by simpa using e)) hgd (fun b _ => Clear.nil b) (by show X.A.units + 1 + _ < cLine; omega) (fun _ _ e => e) (fun h' t tk kk => ?_) hz'
        exact ⟨_, _, rfl, .str _, H, I.kept kk, ⟨_, rfl⟩, by simpa only [PyData.shown] using q⟩
    | tup hs ha =>
      cases rx
      rename_i a zs ds
      obtain ⟨its, rv, ⟨o, ho, hc, n, hdt⟩, _⟩ := I.tuple hs
      have all := DqAll.rp I ds _ its ha rv
      obtain ⟨as, rs⟩ := all.reads
      have r : Reads s.heap (.ref a) (.tuple ds) _ := .tuple ho hc hdt rs
      have hz' : (tupleText (PyData.shownAll ds)).length ≤ sizeLine := by simpa only [PyData.shown] using hz
      obtain ⟨bs, m, k⟩ := all.repr (by simpa [PyData.showable] using sh) fun t ht => Nat.le_trans (tupleText_mem_le ht) hz'
      have deep : PyData.depthAll ds < PyData.depth (.tuple ds) := by simp only [PyData.depth]; omega
      refine call_repr_slot (by omega) ⟨o, ho, hc⟩ F.slot_tuple_repr ?_
      refine call_tuple_reprK ho hc hdt (not_mem_of_deeper r deep m) k hgd (fun b _ => Clear.nil b) (by show X.A.units + 1 + _ < cLine; omega) (fun _ _ e => e) (fun h' t tk kk => ?_) hz'
      exact ⟨_, _, rfl, .str _, H, I.kept kk, ⟨_, rfl⟩, by simpa only [PyData.shown] using q⟩
    | dct hs ha =>
      cases rx
      rename_i a kvs ds
      obtain ⟨_, low, vs, kv, o, es, ep, ho, hx, hdt, _, hp, _⟩ := dk_rd I.hok hs
      obtain ⟨ks, vals⟩ := DqKv.rp I ds _ vs es.toList ha kv hp
      obtain ⟨as, r1⟩ := ks.reads
      obtain ⟨bs, r2⟩ := vals.reads
      have r : Reads s.heap (.ref a) (.dict ds) _ := .dict ho hx.1 hdt r1 r2
      have hz' : (dictText (PyData.shownKv ds)).length ≤ sizeLine := by simpa only [PyData.shown] using hz
      obtain ⟨s1, s2⟩ := PyData.showableKv_split ds (by simpa [PyData.showable] using sh)
      obtain ⟨b1, m1, k1⟩ := ks.repr s1 fun t ht => by
        obtain ⟨p, hp, hl⟩ := PyData.shownKv_key_le ds t ht
        exact Nat.le_trans hl (Nat.le_trans (dictText_mem_le hp) hz')
      obtain ⟨b2, m2, k2⟩ := vals.repr s2 fun t ht => by
        obtain ⟨p, hp, hl⟩ := PyData.shownKv_val_le ds t ht
        exact Nat.le_trans hl (Nat.le_trans (dictText_mem_le hp) hz')
      have deep : PyData.depthKv ds < PyData.depth (.dict ds) := by simp only [PyData.depth]; omega
      have m := (m1.mono (PyData.depthAll_keys_le ds)).append (m2.mono (PyData.depthAll_vals_le ds))
      have sub1 : ∀ c ∈ b1, c ∈ b1 ++ b2 := fun c hc => List.mem_append_left _ hc
      have sub2 : ∀ c ∈ b2, c ∈ b1 ++ b2 := fun c hc => List.mem_append_right _ hc
      refine call_repr_slot (by omega) ⟨o, ho, hx.1⟩ F.slot_dict_repr ?_
      refine call_dict_reprK ho hx.1 hdt low (not_mem_of_deeper r deep m) (ReprEntriesK.of_two es.toList _ _ (k1.more_le sub1 (PyData.depthAll_keys_le ds)) (k2.more_le sub2 (PyData.depthAll_vals_le ds)))
        hgd (fun b _ => Clear.nil b) (by show X.A.units + 1 + _ < cLine; omega) (fun _ _ e => e) (fun h' t tk kk => ?_) (by rw [← PyData.shownKv_eq]; exact hz')
      exact ⟨_, _, rfl, .str _, H, I.kept kk, ⟨_, rfl⟩, by simpa only [PyData.shown, PyData.shownKv_eq] using q⟩
end Gd

/-! Lw: several clauses `except .. as n`; the end of a law row that makes lambdas, where no guard stands around. -/
namespace Gd
open PySem PySem.Spec PyProof.Rows L2

/-! ### several clauses, each with the name at slot i -/
abbrev Clause := Value × (Addr → Value → Option Addr → TS)
/-- behind the suite the name is gone -/
def offE (i : Nat) (D : Ends) : Ends :=
  { nx := fun σ H => D.nx (σ.set i none) H, rt := D.rt, bk := fun σ H => D.bk (σ.set i none) H, ct := fun σ H => D.ct (σ.set i none) H }
def wAll (K : PySem.W.Frag) (n i : Nat) (W : WX) (D : Ends) : List Clause → WX
  | [] => W
  | (c, ts) :: r => fun cls d σ H => ∃ b, PySem.W.exmOne K cls c = some b ∧
      (b = true → σ.length = n → ∀ a, H a = none → ts a cls d (offE i D) (σ.set i (some (.ref a))) H) ∧ (b = false → wAll K n i W D r cls d σ H)
inductive Clauses (X : Cx) (n : Str) : List ExceptHandler → List Clause → Prop
  | nil : Clauses X n [] []
  | cons {x : Str} {c : Value} {ts : Addr → Value → Option Addr → TS} {st : Stmt} {sts : List Stmt} {p1 p2 : Pos}
      {hds : List ExceptHandler} {l : List Clause} (nm : Names X x c)
      (su : ∀ (a : Addr) (oe : Obj) (cls : Value) (d : Option Addr) (pn : List (Addr × Obj)), Zc cls d oe →
        (∃ vs, oe.data = .fields vs) → PSs (X.suite a ((a, oe) :: pn)) (st :: sts) (ts a cls d))
      (rest : Clauses X n hds l) : Clauses X n (.ExceptHandler (some (.Name x p1)) (some n) (st :: sts) p2 :: hds) ((c, ts) :: l)

section
variable {X : Cx} {n : Str} {i : Nat} {body : List Stmt} {h₀ : ExceptHandler} {hds : List ExceptHandler} {l : List Clause} {pos : Pos} {tb : WX → TS} {W : WX}
theorem ps_tryAll (stk : X.stack = X.env :: X.outer) (frm : X.env.frame = some X.env.locals) (nd : X.N.Nodup) (at_ : X.N[i]? = some n)
    (loc : X.env.kindOf n = some .local) (tk : Takes X W)
    (hb : ∀ (V : WX) (pn : List (Addr × Obj)) (xe : Value → Shared → Prop), Takes (X.tr pn xe) V → PassesOwn (model X.prog X.w) X.A X.env xe →
      PSs (X.tr pn xe) body (tb V)) (hh : Clauses X n (h₀ :: hds) l) :
    PS X (.Try body (h₀ :: hds) [] [] pos) (fun D σ H => tb (wAll X.K X.N.length i W D l) D σ H) where
  run := by
    intro pins s σ H D I h
    have ok := I.ok
    have frames : X.A.frames = some (X.env :: X.outer) := by rw [ok.frames, stk]
    have isLoc : Loc X.env.scope n := .inl loc
    refine wpAny_Try_except (wpAny_mono ((hb (wAll X.K X.N.length i W D l) (X.pn ++ pins)
      (fun e s₁ => wpAny (model X.prog X.w) X.A (noteFrame e X.env)
        (fun _ s₂ => wpAny (model X.prog X.w) X.A (setFlight e none)
          (fun _ s₃ => wpAny (model X.prog X.w) X.A (handleBy e X.env (h₀ :: hds)) (SP X pins D) X.xe s₃) X.xe s₂) X.xe s₁)
      ?caught PassesOwn.looking).run [] s σ H D (I.toTry _) h) ?through fun _ _ z => z)
    case through =>
      intro f s1 q
      match f, q with
      | .next, ⟨σ', H', J, q⟩ => exact wpAny_execs_nil ⟨σ', H', J.ofTry ok, q⟩
      | .brk, ⟨σ', H', J, q⟩ => exact ⟨σ', H', J.ofTry ok, q⟩
      | .cont, ⟨σ', H', J, q⟩ => exact ⟨σ', H', J.ofTry ok, q⟩
      | .ret u, ⟨v, σ', H', J, r, q⟩ => exact ⟨v, σ', H', J.ofTry ok, r, q⟩
    case caught =>
      rintro u s' ⟨a, B, sI, pins', σ', H', cls, d, rfl, J0, nb, up, sky, na, os, ag, w⟩
      have J : Inv X pins σ' H' sI := J0.ofTry ok
      have sk : Sky B (X.env :: X.outer) a (Zc cls d) X.env.locals s'.heap := stk ▸ sky
      show wpAny (model X.prog X.w) X.A (noteFrame (.ref a) X.env) _ _ _
      refine Sky.land Zc.steady frames frm sk ?_
      intro hp fl up2
      have landed : Inv X pins σ' H' { s' with heap := hp } := J.landed nb fl.1 (up.trans up2) os ag
      obtain ⟨ob, vs, atA, zc, dat⟩ := fl.there
      have noFrame : a ∉ frs (X.env :: X.outer) := by
        intro hm
        obtain ⟨_, o', e', no⟩ := fl.2.2.1.mem hm
        rw [atA] at e'
        cases e'
        exact no _ dat
      have neL : a ≠ X.env.locals := fun z => noFrame (List.mem_filterMap.mpr ⟨X.env, List.mem_cons_self, by rw [frm, z]⟩)
      have neF : a ∉ X.fs := by
        intro hm
        obtain ⟨e, he, q⟩ := List.mem_filterMap.mp hm
        exact noFrame (List.mem_filterMap.mpr ⟨e, List.mem_cons_of_mem _ he, q⟩)
      have inSuite := landed.suite atA dat na neL neF
      have go : ∀ {hs : List ExceptHandler} {ls : List Clause}, Clauses X n hs ls → wAll X.K X.N.length i W D ls cls d σ' H' →
          wpAny (model X.prog X.w) X.A (handleBy (.ref a) X.env hs) (SP X pins D) X.xe { s' with heap := hp } := by
        intro hs ls k
        induction k with
        | nil =>
          intro w
          refine wpAny_handleBy_nil ?_
          obtain ⟨_, _, _, oe, vs2, T, oT, ts', he, hz, hd, h1, _⟩ := id fl
          unfold PySem.passOn
          refine wpAny_bind (wpAny_field he hd h1 ?_)
          have ref : ¬ ((Value.ref T == Value.none) = true) := by simp
          rw [if_neg ref]
          have fin : wpAny (model X.prog X.w) X.A (setFlight (.ref a) X.env.frame)
              (fun _ s4 => wpAny (model X.prog X.w) X.A (throw (.ref a) : Sem Flow) (SP X pins D) X.xe s4) X.xe { s' with heap := hp } := by
            rw [frm]
            refine HandSPX.setFlight_upZ fl fun h4 hh4 up4 => wpAny_throw (tk _ _ ?_)
            exact ⟨a, B, sI, pins, σ', H', cls, d, rfl, J, nb, (up.trans up2).trans up4, .inr (.inr (stk ▸ hh4)), na, os, ag, w⟩
          first
            | exact wpAny_bind (wpAny_pure (wpAny_bind fin))
            | exact wpAny_bind fin
        | @cons x c ts st sts p1 p2 hds2 l2 nm su rest ih =>
          rintro ⟨b, hb1, yes, no⟩
          refine wpAny_handleBy_cons (codeAny_handlers_test ?_) (fun q => by cases q)
          have typ : PySem.W.Looks (model X.prog X.w) hp (typeOf (.ref a)) cls :=
            fun A Q E s k q => wpAny_typeOf_ref (k _ _ atA) (by rw [zc.1]; exact q)
          have fits := PySem.W.exm_one (M := model X.prog X.w) (landed.kIn) typ hb1
          have named : ∀ {Q : Value → Shared → Prop} {E : Value → Shared → Prop}, Q c { s' with heap := hp } →
              wpAny (model X.prog X.w) (X.A.mark (some (.ref a))) (eval (.Name x p1) X.env) Q E { s' with heap := hp } := by
            intro Q E q
            obtain ⟨hg, dbg, hm | ⟨hm, hv, hn⟩⟩ := nm
            · exact ld_glob (X := X.suite a ((a, ob) :: (X.pn ++ pins))) inSuite hg hm q dbg
            · exact ld_blt (X := X.suite a ((a, ob) :: (X.pn ++ pins))) inSuite hg hm hv q hn dbg
          refine named (fits.here ?_)
          cases b with
          | false =>
            show wpAny _ X.A (handleBy (.ref a) X.env hds2) _ _ _
            exact ih (no rfl)
          | true =>
            refine codeAny_handlers_suite_as (HandSPX.lands_againZ fl ?_)
            intro h4 fl4 up4
            have land4 : Inv X pins σ' H' { s' with heap := h4 } := J.landed nb fl4.1 ((up.trans up2).trans up4) os ag
            obtain ⟨ob4, vs4, at4, z4, d4⟩ := fl4.there
            have in4 := land4.suite at4 d4 na neL neF
            refine store_ok (X := X.suite a ((a, ob4) :: (X.pn ++ pins))) (v := .ref a) in4 nd at_ isLoc rfl ?_ (.inr loc)
            intro s5 S5
            refine wpAny_mono ((su a ob4 cls d (X.pn ++ pins) z4 ⟨_, d4⟩).run [] s5 _ H' _ S5 (yes rfl J.len a na)) ?_ fun _ _ z => z.elim
            intro f s6 q
            have over : ∀ {σ6 : L2.St} {H6 : Hp} {Q : Shared → Prop}, Inv (X.suite a ((a, ob4) :: (X.pn ++ pins))) [] σ6 H6 s6 →
                (∀ s7, Inv X pins (σ6.set i none) H6 s7 → Q s7) →
                wpAny (model X.prog X.w) X.A (do bindName X.env n .none; unbindBehindTheSuite X.env n p2) (fun _ s7 => Q s7) X.xe s6 :=
              fun S q => gone_ok (S.unsuite ok) nd at_ loc q
            match f, q with
            | .next, ⟨σ6, H6, S6, q6⟩ => exact over S6 fun s7 J7 => ⟨_, _, J7, q6⟩
            | .brk, ⟨σ6, H6, S6, q6⟩ => exact over S6 fun s7 J7 => ⟨_, _, J7, q6⟩
            | .cont, ⟨σ6, H6, S6, q6⟩ => exact over S6 fun s7 J7 => ⟨_, _, J7, q6⟩
            | .ret u, ⟨v6, σ6, H6, S6, r6, q6⟩ => exact over S6 fun s7 J7 => ⟨_, _, _, J7, r6, q6⟩
      exact go hh w
end

/-! ### the law's end, the tables of its makers' code objects tracked -/
open LamX in
/-- what the law's call finds -/
structure EntryT (P : Program) (w : World) (K : PySem.W.Frag) (mg : Str → Option Value) (s : Shared) (a : Addr) (ns : List Int)
    (cs : List (Addr × Addr)) (H : Hp) (base : Heap) : Prop where
  tabs : ∀ p ∈ cs, H p.2 = some (.tbl #[])
  script : SqL K H a (ns.map V.int)
  kin : K.In base
  glob : base.Ns mainGlobals mg
  env : Env0 P w K mg base callerA [] s H
  bs : ∀ p ∈ cs, TabB base mg p.1 p.2
  old : ∀ (H' : Hp) (s' : Shared), Un [] [] H H' s.heap s'.heap → HOk P w H' s'.heap → PySem.OldK s.heap s'.heap

section
variable {P : Program} {w : World} {K : PySem.W.Frag} {mg mb : Str → Option Value} {s : Shared} {a : Addr} {vs : List Value} {ns : List Int} {cs : List (Addr × Addr)}
open LamX in
theorem entryT_of {H : Hp} (kin : K.In s.heap) (hns : s.heap.Ns mainGlobals mg) (hb : s.heap.Ns builtinsNs mb)
    (hbb : ∀ x : Str, x ≠ "__name__" → mb x = bootBuiltins x) (hlim : s.heap.NoLimit) (hg : s.gens = #[])
    (bmain : ∃ (bm : Addr) (ob : Obj), mg "__builtins__" = some (.ref bm) ∧ bm ≠ builtinsNs ∧ s.heap.get? bm = some ob ∧
      ob.cls = .type "module" ∧ ob.dict = some builtinsNs ∧ ob.data = .plain)
    (tabs : ∀ p ∈ cs, s.heap.get? p.2 = some { cls := .none, data := .fields #[] }) (noK : ∀ p ∈ cs, K.lookup p.2 = none)
    (heads : ∀ p ∈ cs, PySem.W.CodeHd s.heap p.1 p.2)
    (ha : s.heap.get? a = some { cls := .type "list", data := .seq vs.toArray })
    (o0 : ∀ p ∈ cs, H p.2 = some (.tbl #[])) (o1 : ∀ b, H b = none ∨ (∃ p ∈ cs, p.2 = b) ∨ ∃ o xs, H b = some (.frz o (.lst xs)))
    (o2 : SqL K H a (ns.map V.int)) (o3 : HOk P w H s.heap) (o4 : ∀ b, H b ≠ none → b = a ∨ ∃ p ∈ cs, p.2 = b)
    (o5 : H a ≠ none → K.lookup a = none) : ∃ base, EntryT P w K mg s a ns cs H base := by
  -- an object that is neither a sequence nor an empty record is in the base
  have stays : ∀ {b : Addr} {o : Obj}, s.heap.get? b = some o → (b = a → H b = none) → o.data ≠ .fields #[] → (hidT s.heap H).get? b = some o := by
    intro b o e h no
    refine hidT_get e (Classical.byContradiction fun q => ?_)
    obtain z | ⟨p, hp, z⟩ := o4 b q
    · exact q (h z)
    · have t := tabs p hp
      rw [z, e] at t
      rw [Option.some.inj t] at no
      exact no rfl
  have other : ∀ {b : Addr} {o : Obj}, s.heap.get? b = some o → (∀ xs n, o.data ≠ .seq xs n) → o.data ≠ .fields #[] → (hidT s.heap H).get? b = some o := by
    intro b o e nos nof
    refine stays e (fun z => ?_) nof
    rw [z, ha] at e
    rw [← Option.some.inj e] at nos
    exact (nos _ _ rfl).elim
  have ns_in : ∀ {b : Addr} {m : Str → Option Value}, s.heap.Ns b m → (hidT s.heap H).Ns b m := by
    rintro b m ⟨o, es, ep, e, d, r⟩
    refine ⟨o, es, ep, other e (fun xs n z => ?_) (fun z => ?_), d, r⟩
    · rw [d] at z
      cases z
    · rw [d] at z
      cases z
  have kin' : K.In (hidT s.heap H) := by
    intro b o e
    refine hidT_get (kin b o e) (Classical.byContradiction fun q => ?_)
    obtain z | ⟨p, hp, z⟩ := o4 b q
    · rw [z] at q e
      rw [o5 q] at e
      cases e
    · rw [← z, noK p hp] at e
      cases e
  have noPlain : ∀ {o : Obj}, o.data = .plain → (∀ xs n, o.data ≠ .seq xs n) ∧ o.data ≠ .fields #[] := by
    intro o d
    rw [d]
    refine ⟨fun xs n z => ?_, fun z => ?_⟩ <;> cases z
  obtain ⟨mc, l1, l2⟩ := hlim
  refine ⟨hidT s.heap H, o0, o2, kin', ns_in hns, ?_, ?_, ?_⟩
  · refine ⟨rfl, ⟨kin', ns_in hns, ⟨mb, ns_in hb, hbb⟩, ⟨mc, ns_in l1, l2⟩⟩, fun b o e => of_hidT e, Nat.le_of_eq (hidT_size _ _), trivial, ?_, o3, .of_eq hg⟩
    intro b hm
    exact (List.not_mem_nil hm).elim
  · intro p hp
    refine ⟨?_, ?_, ?_⟩
    · obtain ⟨o, us, file, tf, flags, tg, inF, text, tt, e1, r1, r2, r3, rest⟩ := heads p hp
      refine ⟨o, us, file, tf, flags, tg, inF, text, tt, other e1 (fun xs n z => ?_) (fun z => ?_), r1, r2, r3, rest⟩
      · rw [r2] at z
        cases z
      · rw [r2] at z
        cases z
        simp at r3
    · obtain ⟨bm, ob, b1, b2, b3, b4, b5, b6⟩ := bmain
      refine ⟨bm, ob, b1, b2, fun z => ?_, fun z => ?_, other b3 (noPlain b6).1 (noPlain b6).2, b4, b5, b6⟩
      · obtain ⟨o, es, ep, e, d, _⟩ := hns
        rw [z, e] at b3
        rw [← Option.some.inj b3, d] at b6
        cases b6
      · rw [z, tabs p hp] at b3
        rw [← Option.some.inj b3] at b6
        cases b6
    · intro z
      obtain ⟨o, es, ep, e, d, _⟩ := hns
      rw [z, tabs p hp] at e
      rw [← Option.some.inj e] at d
      cases d
  · intro H' s' un ok'
    have grown : ∀ p ∈ cs, ∃ more : Array Value, s'.heap.get? p.2 = some { cls := .none, data := .fields more } := by
      intro p hp
      obtain ⟨more, z⟩ := un.tbls p.2 #[] (o0 p hp)
      exact ⟨_, ok' p.2 _ z⟩
    have key : ∀ b o, (∀ p ∈ cs, p.2 ≠ b) → s.heap.get? b = some o → s'.heap.get? b = some o := by
      intro b o nb e
      cases q : H b with
      | none => exact un.keep b o e q List.not_mem_nil List.not_mem_nil
      | some u =>
        obtain z | ⟨p, hp, z⟩ | ⟨ob, xs, z⟩ := o1 b
        · rw [q] at z
          cases z
        · exact (nb p hp z).elim
        · obtain ⟨was, _⟩ := o3 b _ z
          obtain ⟨still, _⟩ := ok' b _ (un.frzs b ob _ z)
          rw [e] at was
          rw [Option.some.inj was]
          exact still
    refine ⟨fun b o e => ?_, fun b o e => ?_⟩
    · by_cases hb' : ∃ p ∈ cs, p.2 = b
      · obtain ⟨p, hp, rfl⟩ := hb'
        obtain ⟨more, hm⟩ := grown p hp
        have t := tabs p hp
        rw [e] at t
        rw [Option.some.inj t]
        exact .inr (.inl ⟨((heads p hp).tab (tabs p hp)).isCodeTable, rfl, #[], more, rfl, by rw [Array.empty_append]; exact hm⟩)
      · exact .inl (key b o (fun p hp z => hb' ⟨p, hp, z⟩) e)
    · by_cases hb' : ∃ p ∈ cs, p.2 = b
      · obtain ⟨p, hp, rfl⟩ := hb'
        obtain ⟨more, hm⟩ := grown p hp
        exact ⟨_, hm⟩
      · exact ⟨o, key b o (fun p hp z => hb' ⟨p, hp, z⟩) e⟩

open LamX in
theorem entryT_is (kin : K.In s.heap) (hns : s.heap.Ns mainGlobals mg) (hb : s.heap.Ns builtinsNs mb)
    (hbb : ∀ x : Str, x ≠ "__name__" → mb x = bootBuiltins x) (hlim : s.heap.NoLimit) (hg : s.gens = #[])
    (bmain : ∃ (bm : Addr) (ob : Obj), mg "__builtins__" = some (.ref bm) ∧ bm ≠ builtinsNs ∧ s.heap.get? bm = some ob ∧
      ob.cls = .type "module" ∧ ob.dict = some builtinsNs ∧ ob.data = .plain)
    (tabs : ∀ p ∈ cs, s.heap.get? p.2 = some { cls := .none, data := .fields #[] }) (noK : ∀ p ∈ cs, K.lookup p.2 = none)
    (heads : ∀ p ∈ cs, PySem.W.CodeHd s.heap p.1 p.2)
    (ha : s.heap.get? a = some { cls := .type "list", data := .seq vs.toArray })
    (hi : IntsAre vs ns) (hl : ns.length ≤ sizeLine) : ∃ H base, EntryT P w K mg s a ns cs H base := by
  have rv := vals_ints hi
  have ln := hi.length
  have noT : ¬ ∃ p ∈ cs, p.2 = a := by
    rintro ⟨p, hp, z⟩
    have t := tabs p hp
    rw [z, ha] at t
    have d := congrArg Obj.data (Option.some.inj t)
    cases d
  let T : Hp := fun b => if ∃ p ∈ cs, p.2 = b then some (.tbl #[]) else none
  have T_in : ∀ {b}, (∃ p ∈ cs, p.2 = b) → T b = some (.tbl #[]) := fun z => if_pos z
  have T_off : ∀ {b}, (¬ ∃ p ∈ cs, p.2 = b) → T b = none := fun z => if_neg z
  have okT : ∀ (H : Hp) b u, T b = some u → ObjOk P w H s.heap b u := by
    intro H b u z
    by_cases q : ∃ p ∈ cs, p.2 = b
    · rw [T_in q] at z
      cases z
      obtain ⟨p, hp, rfl⟩ := q
      exact tabs p hp
    · rw [T_off q] at z
      cases z
  cases hk : K.lookup a with
  | some o =>
    have e := kin a o hk
    rw [ha] at e
    cases e
    have sq : SqL K T a (ns.map V.int) :=
      .inr ⟨_, vs.toArray, _, hk, rfl, rfl, rfl, by rw [List.size_toArray, ln]; exact hl, by simpa using rv⟩
    obtain ⟨base, E⟩ := entryT_of (P := P) (w := w) (H := T) kin hns hb hbb hlim hg bmain tabs noK heads ha (fun p hp => T_in ⟨p, hp, rfl⟩)
      (fun b => by
        by_cases q : ∃ p ∈ cs, p.2 = b
        · exact .inr (.inl q)
        · exact .inl (T_off q)) sq (fun b u z => okT T b u z)
      (fun b z => by
        by_cases q : ∃ p ∈ cs, p.2 = b
        · exact .inr q
        · exact (z (T_off q)).elim) fun z => (z (T_off noT)).elim
    exact ⟨_, base, E⟩
  | none =>
    let H : Hp := fun b => if b = a then some (.frz { cls := .type "list", data := .seq vs.toArray } (.lst (ns.map V.int))) else T b
    have at_a : H a = some (.frz { cls := .type "list", data := .seq vs.toArray } (.lst (ns.map V.int))) := if_pos rfl
    have off_a : ∀ {b}, b ≠ a → H b = T b := fun z => if_neg z
    have H_in : ∀ p ∈ cs, H p.2 = some (.tbl #[]) := by
      intro p hp
      rw [off_a fun z => noT ⟨p, hp, z⟩]
      exact T_in ⟨p, hp, rfl⟩
    have ok : HOk P w H s.heap := by
      intro b u z
      by_cases q : b = a
      · subst q
        rw [at_a] at z
        cases z
        exact ⟨ha, by rw [List.length_map]; exact hl, vs, _, rv, ha⟩
      · rw [off_a q] at z
        exact okT H b u z
    obtain ⟨base, E⟩ := entryT_of (P := P) (w := w) (H := H) kin hns hb hbb hlim hg bmain tabs noK heads ha H_in
      (fun b => by
        by_cases q : b = a
        · subst q
          exact .inr (.inr ⟨_, _, at_a⟩)
        · by_cases r : ∃ p ∈ cs, p.2 = b
          · exact .inr (.inl r)
          · exact .inl ((off_a q).trans (T_off r))) (.inl (.inr ⟨_, at_a⟩)) ok
      (fun b z => by
        by_cases q : b = a
        · exact .inl q
        · rw [off_a q] at z
          by_cases r : ∃ p ∈ cs, p.2 = b
          · exact .inr r
          · exact (z (T_off r)).elim) fun _ => hk
    exact ⟨H, base, E⟩
end

open LamX in
theorem walkT {l : PySem.W.OpenLaw} {n k : Nat} {q : Program} {loose : List Str} {XP : (Str → Option Value) → Heap → Prop}
    {YP : World → Heap → Prop} {d : DefRec} {K : Params → PySem.W.Frag} {cs : List (Addr × Addr)} {sp : World → Sp} {x : Str}
    (hn : l.most = some n) (hn2 : n ≤ sizeLine) (hdf : d.params.defaults = []) (hr : Room k callerA)
    (hY : ∀ (w : World) (h : Heap), YP w h → (K w.params).In h)
    (hT : ∀ (w : World) (h : Heap), YP w h → ∀ p ∈ cs, h.get? p.2 = some { cls := .none, data := .fields #[] })
    (F : ∀ (w : World) (mg : Str → Option Value) (fa : Addr) (h : Heap), (K w.params).In h → h.Ns mainGlobals mg → mg d.name = some (.ref fa) →
      (∀ p ∈ cs, (K w.params).lookup p.2 = none ∧ PySem.W.codeHdIn (K w.params) p.1 p.2 = true) ∧
      ∃ fd : FuncData, (∀ (s : Shared) (u : Value), BindsTo s fd ⟨[u], []⟩ [(x, u)]) ∧
        ∀ base : Heap, (K w.params).In base → base.Ns mainGlobals mg → (∀ p ∈ cs, TabB base mg p.1 p.2) →
          FnG l.prog w (K w.params) mg base CX0 k fa fd [x] (sp w))
    (hsp : ∀ (w : World) (H : Hp) (a : Addr) (ns : List Int), ns.length ≤ n → (∀ p ∈ cs, H p.2 = some (.tbl #[])) → SqL (K w.params) H a (ns.map V.int) →
      sp w [.ref a] H (fun v _ => v = .bl true) fun _ _ _ => False) :
    PySem.W.WalkO q loose XP YP l.row.toRowW d [] (fun f vs => PySem.call f vs) := by
  refine Att.attach_call hn hdf ?_
  intro w s₀ s₁ mg mb fa o pm cd doc a vs ns G Y ho hd hcd hmg hobj hints hlen hgens
  have kin := hY w _ Y
  obtain ⟨heads, fd, binds, all⟩ := F w mg fa _ kin G.T.g hmg
  obtain ⟨H, base, E⟩ := entryT_is (P := l.prog) (w := w) kin G.T.g G.T.b G.T.builtins G.T.nolimit hgens G.T.bmain (hT w _ Y)
    (fun p hp => (heads p hp).1) (fun p hp => PySem.W.codeHd_of_K kin (heads p hp).2) hobj hints (Nat.le_trans hlen hn2)
  have run := (all base E.kin E.glob E.bs).go callerA [] s₁ H ⟨[.ref a], []⟩ [.ref a] [.ref a] _ _ rfl hr E.env (binds s₁ (.ref a)) (.cons rfl .nil)
    (hsp w H a ns hlen E.tabs E.script)
  refine codeAny_mono run ?_
  intro res s' hres
  match res, hres with
  | .ok (.ret u), ⟨v, H', os, bare, un, ok', rel, e⟩ =>
    subst e
    cases (show u = Value.bool true from rel)
    exact ⟨rfl, E.old H' s' un ok', os, bare⟩

/-! ### a lambda's body: what a callee raises leaves it -/
open LamX in
theorem takesLam {X : Cx} {A : Around} {outer : List Env} {s : Shared} {H : Hp} {E : XK} {scope : Scope} {f c : Addr} :
    Passes (L2.CX X.prog X.w) (lamCx X A outer s H E scope f c) E :=
  passes_call (takes_of (X := lamCx X A outer s H E scope f c) (E := E) rfl rfl rfl rfl) fun _ _ _ _ h => h

/-! ### a written dict of ints: each value a tuple of ints -/
def keyI : Value → Option Int
  | .int i _ => some i
  | _ => none
def allI : List Value → Option (List Int)
  | [] => some []
  | v :: r => match keyI v, allI r with
    | some i, some is => some (i :: is)
    | _, _ => none
/-- the ints of the tuple of the written part at a -/
def tupI (K : PySem.W.Frag) : Value → Option (List Int)
  | .ref a => match K.lookup a with
    | some ⟨.type "tuple", none, .seq us _, _⟩ => allI us.toList
    | _ => none
  | _ => none
def rowsI (K : PySem.W.Frag) : List DictEntry → Option (List (Int × List Int))
  | [] => some []
  | e :: r => match keyI e.key, tupI K e.val, rowsI K r with
    | some i, some t, some l => if e.hash = hashInt i then some ((i, t) :: l) else none
    | _, _, _ => none
def dictI (K : PySem.W.Frag) (d : Addr) : Option (List (Int × List Int)) :=
  match K.lookup d with
  | some ⟨.type "dict", none, .dict es _, sl⟩ => if sl.isEmpty && !(d == sysModules) then rowsI K es.toList else none
  | _ => none

theorem keyI_some {v : Value} {i : Int} (h : keyI v = some i) : ∃ t, v = .int i t := by
  cases v <;> simp_all [keyI]
theorem allI_some : ∀ {us : List Value} {is : List Int}, allI us = some is → Vals (is.map V.int) us := by
  intro us
  induction us with
  | nil =>
    intro is h
    cases h
    exact .nil
  | cons v r ih =>
    intro is h
    unfold allI at h
    split at h
    · rename_i i l e1 e2
      cases h
      obtain ⟨t, rfl⟩ := keyI_some e1
      exact .cons ⟨t, rfl⟩ (ih e2)
    · cases h

theorem tupI_some {K : PySem.W.Frag} {v : Value} {is : List Int} (h : tupI K v = some is) :
    ∃ a us n sl, v = .ref a ∧ K.lookup a = some ⟨.type "tuple", none, .seq us n, sl⟩ ∧ Vals (is.map V.int) us.toList := by
  unfold tupI at h
  split at h
  · rename_i a
    split at h
    · rename_i us n sl e
      exact ⟨a, us, n, sl, rfl, e, allI_some h⟩
    · cases h
  · cases h

theorem rowsI_all {K : PySem.W.Frag} : ∀ {es : List DictEntry} {rows : List (Int × List Int)}, rowsI K es = some rows →
    (∀ e ∈ es, ∃ k t, e.key = .int k t ∧ e.hash = hashInt k) ∧
    (∀ k, rows.lookup k = none → (es.find? fun e => Value.isInt k e.key) = none) ∧
    ∀ k is, rows.lookup k = some is → ∃ e, (es.find? fun e => Value.isInt k e.key) = some e ∧ tupI K e.val = some is := by
  intro es
  induction es with
  | nil =>
    intro rows h
    cases h
    exact ⟨fun e he => (List.not_mem_nil he).elim, fun _ _ => rfl, fun k is z => by cases z⟩
  | cons e r ih =>
    intro rows h
    unfold rowsI at h
    split at h
    · rename_i i t l e1 e2 e3
      split at h
      · rename_i hh
        cases h
        obtain ⟨tk, ek⟩ := keyI_some e1
        obtain ⟨h1, h2, h3⟩ := ih e3
        have test : ∀ k, Value.isInt k e.key = decide (i = k) := by
          intro k
          rw [ek]
          show (i == k) = decide (i = k)
          by_cases q : i = k
          · subst q
            rw [beq_self_eq_true, decide_eq_true rfl]
          · rw [beq_eq_false_iff_ne.mpr q, decide_eq_false q]
        refine ⟨fun x hx => ?_, fun k z => ?_, fun k is z => ?_⟩
        · obtain rfl | hx := List.mem_cons.mp hx
          · exact ⟨i, tk, ek, hh⟩
          · exact h1 x hx
        · rw [List.lookup_cons] at z
          rw [List.find?_cons, test]
          by_cases q : k = i
          · subst q
            rw [beq_self_eq_true] at z
            cases z
          · rw [show (k == i) = false from beq_eq_false_iff_ne.mpr q] at z
            rw [show decide (i = k) = false from decide_eq_false fun y => q y.symm]
            exact h2 k z
        · rw [List.lookup_cons] at z
          rw [List.find?_cons, test]
          by_cases q : k = i
          · subst q
            rw [beq_self_eq_true] at z
            cases z
            rw [show decide (k = k) = true from decide_eq_true rfl]
            exact ⟨e, rfl, e2⟩
          · rw [show (k == i) = false from beq_eq_false_iff_ne.mpr q] at z
            rw [show decide (i = k) = false from decide_eq_false fun y => q y.symm]
            exact h3 k is z
      · cases h
    · cases h

/-- what such a dict tells, as the library's dict rules want it -/
theorem dictI_map {K : PySem.W.Frag} {prog : Program} {w : World} {h : Heap} {d : Addr} {rows : List (Int × List Int)} (kin : K.In h)
    (e : dictI K d = some rows) : (d == sysModules) = false ∧ ∃ f : Int → Option Value, h.MapOf (PySem.intKind prog w) d f ∧
      (∀ k, rows.lookup k = none → f k = none) ∧ ∀ k is, rows.lookup k = some is → ∃ v, f k = some v ∧ tupI K v = some is := by
  unfold dictI at e
  split at e
  · rename_i es n sl hl
    split at e
    · rename_i hc
      rw [Bool.and_eq_true] at hc
      obtain ⟨c1, c2⟩ := hc
      obtain ⟨h1, h2, h3⟩ := rowsI_all e
      have c1 : sl = #[] := Array.isEmpty_iff.mp c1
      subst c1
      have same : ∀ k, findBy Value.isInt es k = ((es.toList.find? fun e => Value.isInt k e.key).map (·.val)) := by
        intro k
        obtain ⟨l⟩ := es
        unfold findBy
        rw [List.find?_toArray]
      refine ⟨by simpa using c2, fun k => findBy Value.isInt es k, ⟨_, es, n, kin _ _ hl, ⟨rfl, rfl, rfl⟩, rfl, fun x hx => ?_, fun k => rfl⟩, fun k z => ?_, fun k is z => ?_⟩
      · obtain ⟨k, t, ek, eh⟩ := h1 x (Array.mem_toList_iff.mpr hx)
        exact ⟨k, by rw [ek]; simp [PySem.intKind, Value.isInt], eh⟩
      · show findBy Value.isInt es k = none
        rw [same, h2 k z]
        rfl
      · obtain ⟨x, e1, e2⟩ := h3 k is z
        exact ⟨x.val, by show findBy Value.isInt es k = _; rw [same, e1]; rfl, e2⟩
    · cases e
  · cases e

section
variable {X : Cx}
/-- k not in d, of such a dict -/
def rNotInI (K : PySem.W.Frag) : R2 := fun x y H Q => ∃ (k : Int) (d : Addr) (rows : List (Int × List Int)),
  x = .int k ∧ y = .ref d ∧ dictI K d = some rows ∧ Q (.bl (!(rows.lookup k).isSome)) H
theorem op_notInI : OpR X (compareOp .NotIn) (rNotInI X.K) := by
  intro pins s σ H x y v u Q I rx ry h
  obtain ⟨k, d, rows, rfl, rfl, e, q⟩ := h
  obtain ⟨t, rfl⟩ := rx
  cases (show u = Value.ref d from ry)
  obtain ⟨low, f, hm, f1, f2⟩ := dictI_map (prog := X.prog) (w := X.w) I.kIn e
  refine wpAny_notIn_of (intKind_is X.prog X.w k t) low hm ?_
  have fe : (f k).isSome = (rows.lookup k).isSome := by
    cases z : rows.lookup k with
    | none =>
      rw [f1 k z]
      rfl
    | some is =>
      obtain ⟨v, e1, _⟩ := f2 k is z
      rw [e1]
      rfl
  rw [fe]
  exact ⟨.bl _, H, I.tok _, rfl, q⟩
/-- d[k]: the tuple that stands there -/
def rIxI (K : PySem.W.Frag) : R2 := fun x y H Q => ∃ (k : Int) (d : Addr) (rows : List (Int × List Int)) (is : List Int),
  x = .ref d ∧ y = .int k ∧ dictI K d = some rows ∧ rows.lookup k = some is ∧ is.length ≤ 1000 ∧ ∀ a, SqT K H a (is.map V.int) → Q (.ref a) H
theorem ix_int : IxR X (rIxI X.K) := by
  intro value slice pins s σ H x y v u Q I rx ry h hs
  obtain ⟨k, d, rows, is, rfl, rfl, e, l, few, q⟩ := h
  cases (show v = Value.ref d from rx)
  obtain ⟨t, rfl⟩ := ry
  obtain ⟨low, f, hm, f1, f2⟩ := dictI_map (prog := X.prog) (w := X.w) I.kIn e
  obtain ⟨v, e1, e2⟩ := f2 k is l
  obtain ⟨a, us, n, sl, rfl, ha, rv⟩ := tupI_some e2
  have size : us.size ≤ sizeLine := by
    have z := Paired.length rv
    rw [List.length_map] at z
    have z2 : us.toList.length = us.size := Array.length_toList
    rw [sizeLine_eq]
    omega
  refine tail_any hm.typeIs slot_dict_getitem.lookup (wpAny_getItem_of (intKind_is X.prog X.w k t) hm e1 ⟨.ref a, H, I.tok _, rfl, q a ?_⟩) hs
  exact .inr ⟨_, us, n, ha, rfl, rfl, size, rv⟩
end
end Gd

/-! Bs: what all laws share: the pen, kinds of values, rows, errors, digits (no statement of any text is named). -/
namespace B5
open PySem L2 Gd
variable {P : Program} {w : World} {K : PySem.W.Frag} {mg : Str → Option Value} {base : Heap}
/-! ### the law's pen: where drawn numbers come from -/
abbrev kC : Key := Sum.inr "cells"
abbrev kA : Key := Sum.inr "at"
abbrev kG : Key := Sum.inr "digits"
abbrev kN : Key := Sum.inr "count"
abbrev kF : Key := Sum.inr "fold"
theorem kne : (kA = kC) = False ∧ (kG = kC) = False ∧ (kN = kC) = False ∧ (kF = kC) = False ∧ (kC = kA) = False ∧ (kG = kA) = False ∧ (kN = kA) = False ∧ (kF = kA) = False ∧
    (kC = kG) = False ∧ (kA = kG) = False ∧ (kN = kG) = False ∧ (kF = kG) = False ∧ (kC = kN) = False ∧ (kA = kN) = False ∧ (kG = kN) = False ∧ (kF = kN) = False ∧
    (kC = kF) = False ∧ (kA = kF) = False ∧ (kG = kF) = False ∧ (kN = kF) = False := by
  refine ⟨?_, ?_, ?_, ?_, ?_, ?_, ?_, ?_, ?_, ?_, ?_, ?_, ?_, ?_, ?_, ?_, ?_, ?_, ?_, ?_⟩ <;> exact eq_false (by decide +kernel)
theorem putK_same {kvs : List (Key × V)} {k : Key} {v x : V} (h : valV kvs k = some x) : (putK kvs k v).length = kvs.length := by
  have e := valV_any k kvs
  rw [h, Option.isSome_some] at e
  unfold putK
  rw [if_pos e, List.length_map]
theorem dg {H : Hp} {a : Addr} {kvs : List (Key × V)} (k : Key) {v : V} (hd : H a = some (.dK kvs)) (h : valV kvs k = some v) : DGet H a (kV k) (some v) := h ▸ DGet.k hd
theorem five {n : Nat} (h : n ≤ 5) : n < sizeLine := small1000 (by omega)
theorem put_in {kvs : List (Key × V)} (k j : Key) (v : V) {x : V} (h : valV kvs j = some x) (ne : (j = k) = False) : valV (putK kvs k v) j = some x := by
  rw [valV_put, if_neg (by rw [ne]; exact id)]
  exact h
theorem put_at {kvs : List (Key × V)} (k : Key) (v : V) : valV (putK kvs k v) k = some v := by
  rw [valV_put, if_pos rfl]
/-- the pen at d, its cells at c; n draws were made -/
def Pen (H : Hp) (d c : Addr) (n : Int) : Prop := ∃ (kvs : List (Key × V)) (cs : List Int) (p g f : Int), H d = some (.dK kvs) ∧ H c = some (.lst (cs.map V.int)) ∧
  kvs.length ≤ 5 ∧ valV kvs kC = some (.ref c) ∧ valV kvs kA = some (.int p) ∧ valV kvs kG = some (.int g) ∧ valV kvs kN = some (.int n) ∧ valV kvs kF = some (.int f) ∧
  (0 ≤ p ∧ 0 ≤ g) ∧ (0 ≤ f ∧ f < 2147483648)
theorem Pen.ne {H : Hp} {d c : Addr} {n : Int} (h : Pen H d c n) : c ≠ d := by
  obtain ⟨kvs, cs, p, g, f, h1, h2, _⟩ := h
  exact ne_of h2 h1 (by intro z; cases z)
theorem Pen.keep {H H' : Hp} {d c : Addr} {n : Int} (h : Pen H d c n) (e1 : H' d = H d) (e2 : H' c = H c) : Pen H' d c n := by
  obtain ⟨kvs, cs, p, g, f, h1, h2, r⟩ := h
  exact ⟨kvs, cs, p, g, f, e1.trans h1, e2.trans h2, r⟩
theorem Pen.at {H : Hp} {d c : Addr} {n : Int} (h : Pen H d c n) : ∃ o, H d = some o := let ⟨_, _, _, _, _, h1, _⟩ := h; ⟨_, h1⟩
theorem Pen.atc {H : Hp} {d c : Addr} {n : Int} (h : Pen H d c n) : ∃ o, H c = some o := let ⟨_, _, _, _, _, _, h2, _⟩ := h; ⟨_, h2⟩
/-- new objects do not touch the pen -/
theorem Pen.upd {H : Hp} {d c p : Addr} {n : Int} {o : HO} (h : Pen H d c n) (hp : H p = none) : Pen (upd H p o) d c n := by
  obtain ⟨o1, h1⟩ := h.at
  obtain ⟨o2, h2⟩ := h.atc
  exact h.keep (upd_ne (ne_of_none h1 hp)) (upd_ne (ne_of_none h2 hp))
/-- what a draw leaves -/
structure Drawn (H H' : Hp) (d c : Addr) (n : Int) : Prop where
  pen : Pen H' d c n
  off : ∀ b, b ≠ d → H' b = H b
theorem Drawn.trans {H H1 H2 : Hp} {d c : Addr} {n m : Int} (a : Drawn H H1 d c n) (b : Drawn H1 H2 d c m) : Drawn H H2 d c m := ⟨b.pen, fun x hx => (b.off x hx).trans (a.off x hx)⟩
/-- one step: a number of the pen is put anew -/
theorem pen_put {H : Hp} {d c : Addr} {kvs : List (Key × V)} {k : Key} {v x : V} (hd : H d = some (.dK kvs)) (l : kvs.length ≤ 5) (h : valV kvs k = some x) :
    (upd H d (.dK (putK kvs k v))) d = some (.dK (putK kvs k v)) ∧ (putK kvs k v).length ≤ 5 := ⟨upd_same, by rw [putK_same h]; exact l⟩

def spDraw : Sp := fun vs H Q _ => ∃ (d c : Addr) (n m : Int), vs = [.ref d, .int m] ∧ Pen H d c n ∧ 0 < m ∧ m ≤ 1000000000000000000000 ∧ 0 ≤ n ∧ n < 1000000000 ∧
  ∀ (r : Int) (H' : Hp), 0 ≤ r → r < m → Drawn H H' d c (n + 1) → Q (.int r) H'
def spPen (K : PySem.W.Frag) : Sp := fun vs H Q _ => ∃ (a : Addr) (ns : List Int), vs = [.ref a] ∧ SqL K H a (ns.map V.int) ∧
  ∀ (H' : Hp) (d c : Addr), Pen H' d c 0 → (∀ b o, H b = some o → H' b = some o) → H d = none → Q (.ref d) H'
def spPick (K : PySem.W.Frag) : Sp := fun vs H Q _ => ∃ (d c a : Addr) (n : Int) (xs : List V), vs = [.ref d, .ref a] ∧ Pen H d c n ∧ H a = some (.lst xs) ∧ 0 < xs.length ∧ xs.length ≤ 1000 ∧ 0 ≤ n ∧ n < 1000000000 ∧
  ∀ (x : V) (H' : Hp), x ∈ xs → Drawn H H' d c (n + 1) → Q x H'
def spLarge : Sp := fun vs H Q _ => ∃ (d c : Addr) (n : Int), vs = [.ref d] ∧ Pen H d c n ∧ 0 ≤ n ∧ n < 900000000 ∧
  ∀ (r n' : Int) (H' : Hp), 0 ≤ r → r < 10 ^ 57 → n ≤ n' → n' ≤ n + 30 → Pen H' d c n' → (∀ b o, H b = some o → b ≠ d → H' b = some o) → Q (.int r) H'
/-! ### the errors -/
/-- what an __init__ that keeps its arguments as fields does -/
def spIni (C : Addr) (fs : List Str) : Sp := fun vs H Q _ => ∃ (a : Addr) (ys : List V), vs = .ref a :: ys ∧ ys.length = fs.length ∧ H a = some (exo a C none) ∧
  ∀ (H' : Hp) (dx : Addr), H dx = none → dx ≠ a → (∀ b, b ≠ a → b ≠ dx → H' b = H b) → H' a = some (exo a C (some dx)) → H' dx = some (exd dx (fs.zip ys).reverse) → Q .non H'
/-! ### kinds of values -/
def offInt : List String := ["bool", "NoneType", "str", "list", "tuple", "dict"]
theorem off_int : ∀ n ∈ offInt, kitB n "int" = some (decide (n = "bool")) ∧ kitB n "bool" = some (decide (n = "bool")) := by decide +kernel
theorem on_int : kitB "int" "int" = some true ∧ kitB "int" "bool" = some false := by decide +kernel
/-- no int at all, or a bool -/
def NoInt (K : PySem.W.Frag) (H : Hp) (x : V) : Prop := ∃ n, n ∈ offInt ∧ TyX K H x (.type n)
theorem tyMore {K : PySem.W.Frag} {H H' : Hp} {x : V} {n : String} (e : ∀ b o, H b = some o → H' b = some o) (t : TyX K H x (.type n)) : TyX K H' x (.type n) := by
  cases t with
  | base t =>
    refine .base ?_
    cases t with
    | non => exact .non
    | bl b => exact .bl b
    | int i => exact .int i
    | str z => exact .str z
    | flt z => exact .flt z
    | lst h => exact .lst (e _ _ h)
    | frz h => exact .frz (e _ _ h)
    | tup h => exact .tup (e _ _ h)
    | dK h => exact .dK (e _ _ h)
    | dT h => exact .dT (e _ _ h)
  | byt b => exact .byt b
  | set h => exact .set (e _ _ h)
  | kList h c => exact .kList h c
  | kTuple h c => exact .kTuple h c
  | kDict h c => exact .kDict h c
  | fTuple h => exact .fTuple (e _ _ h)
  | fDict h => exact .fDict (e _ _ h)
theorem NoInt.more {K : PySem.W.Frag} {H H' : Hp} {x : V} (e : ∀ b o, H b = some o → H' b = some o) (h : NoInt K H x) : NoInt K H' x :=
  let ⟨n, m, t⟩ := h; ⟨n, m, tyMore e t⟩
def spIsI (K : PySem.W.Frag) : Sp := fun vs H Q _ => ∃ x, vs = [x] ∧ ((∃ i, x = .int i ∧ Q (.bl true) H) ∨ (NoInt K H x ∧ Q (.bl false) H) ∨ ∃ t, TyX K H x t ∧ PySem.W.kitOne K t (.type "int") = some false ∧ Q (.bl false) H)
theorem pi_or {X : Cx} {tg it : Expr} {u v : TI} (a : PI X tg it u) (b : PI X tg it v) : PI X tg it (fun σ H R => u σ H R ∨ v σ H R) where
  run := by
    rintro pins s σ H R I (h | h)
    · exact a.run pins s σ H R I h
    · exact b.run pins s σ H R I h
theorem sqT_more {K : PySem.W.Frag} {H H' : Hp} {a : Addr} {xs : List V} (e : ∀ b o, H b = some o → H' b = some o) : SqT K H a xs → SqT K H' a xs
  | .inl (.inl h) => .inl (.inl (e _ _ h))
  | .inl (.inr ⟨o, h⟩) => .inl (.inr ⟨o, e _ _ h⟩)
  | .inr h => .inr h
/-- a list or a tuple of xs -/
def Sq (K : PySem.W.Frag) (H : Hp) (a : Addr) (xs : List V) : Prop := SqL K H a xs ∨ SqT K H a xs
theorem Sq.more {K : PySem.W.Frag} {H H' : Hp} {a : Addr} {xs : List V} (e : ∀ b o, H b = some o → H' b = some o) : Sq K H a xs → Sq K H' a xs
  | .inl h => .inl (Same.seq e h)
  | .inr h => .inr (sqT_more e h)
/-! ### errors of the program -/
structure Er (K : PySem.W.Frag) (mg : Str → Option Value) (x q : Str) (C fI : Addr) (fs : List Str) (st : Stmt) (fd : FuncData) : Prop where
  T : OexC K C
  iC : PySem.W.findIn K (.ref C) "__init__" = some (some (.ref fI))
  tI : PySem.W.typeIn K (.ref fI) = some (.type "function")
  fn : Fun K "__init__" q st fI fd
  b : Binds K fd ("self" :: fs) []
  no : ∀ g ∈ fs, PySem.W.findIn K (.ref C) g = some none
  g : mg x = some (.ref C)
theorem mk_ini {C : Addr} {fs : List Str} {vs : List V} {H1 : Hp} {Q : XK} (hl : vs.length = fs.length) (h9 : vs.length ≤ 900)
    (h : ∀ d, H1 d = none → Q (.ref C) (some d) (upd H1 d (.xd (fs.zip vs).reverse))) : vs.length ≤ 1000 ∧ ∀ a, H1 a = none →
      spIni C fs (.ref a :: (vs ++ [])) (upd H1 a (exo a C none)) (fun v H2 => v = .non ∧ ∃ (d : Addr) (fs' : List (Str × V)), H2 a = some (exo a C (some d)) ∧
        H2 d = some (exd d fs') ∧ H1 d = none ∧ Q (.ref C) (some d) (upd (del H2 a) d (.xd fs'))) (fun _ _ _ => False) := by
  refine ⟨by omega, fun a ha => ⟨a, vs, by rw [List.append_nil], hl, upd_same, fun H' dx hdx ne off e1 e2 => ⟨rfl, dx, _, e1, e2, ?_, ?_⟩⟩⟩
  · rw [upd_ne ne] at hdx
    exact hdx
  · rw [upd_ne ne] at hdx
    have same : upd (del H' a) dx (.xd (fs.zip vs).reverse) = upd H1 dx (.xd (fs.zip vs).reverse) := by
      funext b
      by_cases q : b = dx
      · subst q
        rw [upd_same, upd_same]
      · rw [upd_ne q, upd_ne q]
        by_cases z : b = a
        · subst z
          rw [del_same, ha]
        · rw [del_ne z, off b z q, upd_ne z]
    rw [same]
    exact h dx hdx
def RRow (CR : Addr) (x : V) (H : Hp) (E : XK) : Prop := ∀ d, H d = none → E (.ref CR) (some d) (upd H d (.xd [("row", x)]))
/-- a def of the text -/
structure Cl (K : PySem.W.Frag) (mg : Str → Option Value) (x : Str) (st : Stmt) (ps : List Str) (f : Addr) (fd : FuncData) : Prop where
  fn : Fun K x x st f fd
  b : Binds K fd ps []
  g : mg x = some (.ref f)
theorem Cl.k {x : Str} {st : Stmt} {ps : List Str} {f : Addr} {fd : FuncData} (h : Cl K mg x st ps f fd) : PySem.W.keepIn K (.ref f) = true := h.fn.kp
structure Blt (mg : Str → Option Value) : Prop where
  int_ : mg "int" = none
  bool_ : mg "bool" = none
  tup_ : mg "tuple" = none
  len_ : mg "len" = none
  list_ : mg "list" = none
  range_ : mg "range" = none
  isi_ : mg "isinstance" = none
  repr_ : mg "repr" = none
  all_ : mg "all" = none
  divmod_ : mg "divmod" = none
  rev_ : mg "reversed" = none
abbrev More (H H' : Hp) : Prop := ∀ b o, H b = some o → H' b = some o
theorem More.new {H H' : Hp} {p : Addr} {o : HO} (m : More H H') (hp : H' p = none) : More H (upd H' p o) := fun b u e => by
  rw [upd_ne (ne_of_none (m b u e) hp)]
  exact m b u e
theorem More.at {H H' : Hp} {p : Addr} {o : HO} (m : More H H') (hp : H p = none) : More H (upd H' p o) := fun b u e => by
  rw [upd_ne (ne_of_none e hp)]
  exact m b u e
theorem More.off {H H' : Hp} {p : Addr} (m : More H H') (hp : H' p = none) : H p = none := by
  cases e : H p with
  | none => rfl
  | some o =>
    rw [m p o e] at hp
    cases hp
/-! ### sequences of integers -/
def isI : V → Bool
  | .int _ => true
  | _ => false
theorem noInt_isI {K : PySem.W.Frag} {H : Hp} {y : V} (h : NoInt K H y) : isI y = false := by
  obtain ⟨n, hn, t⟩ := h
  cases y with
  | int i =>
    cases t with
    | base t =>
      cases t
      exact absurd hn (by decide)
  | _ => rfl
theorem tyL {K : PySem.W.Frag} {H : Hp} {a : Addr} {xs : List V} : SqL K H a xs → TyX K H (.ref a) (.type "list")
  | .inl (.inl h) => .base (.lst h)
  | .inl (.inr ⟨o, h⟩) => .base (.frz h)
  | .inr ⟨o, its, n, h, c, _⟩ => .kList h c
theorem tyT {K : PySem.W.Frag} {H : Hp} {a : Addr} {xs : List V} : SqT K H a xs → TyX K H (.ref a) (.type "tuple")
  | .inl (.inl h) => .base (.tup h)
  | .inl (.inr ⟨o, h⟩) => .fTuple h
  | .inr ⟨o, its, n, h, c, _⟩ => .kTuple h c
def noSeq : List String := ["int", "bool", "NoneType", "str", "dict"]
theorem seq_no : ∀ n ∈ noSeq, kitB n "tuple" = some false ∧ kitB n "list" = some false := by decide +kernel
theorem seq_yes : kitB "tuple" "tuple" = some true ∧ kitB "list" "tuple" = some false ∧ kitB "list" "list" = some true := by decide +kernel
def spIsIs (K : PySem.W.Frag) : Sp := fun vs H Q _ => ∃ x, vs = [x] ∧
  ((∃ n, n ∈ noSeq ∧ TyX K H x (.type n) ∧ ∀ H', More H H' → Q (.bl false) H') ∨
    ∃ a xs, x = .ref a ∧ Sq K H a xs ∧ xs.length ≤ 1000 ∧ (∀ y ∈ xs, (∃ i, y = .int i) ∨ NoInt K H y) ∧ ∀ H', More H H' → Q (.bl (xs.all isI)) H')
theorem take_snoc {α : Type} {l : List α} {i : Nat} {x : α} (h : l[i]? = some x) : l.take (i + 1) = l.take i ++ [x] := by
  rw [List.take_succ, h]
  rfl
/-! ### terms of a sum -/
def NoSq (K : PySem.W.Frag) (H : Hp) (x : V) : Prop := ∃ n, n ∈ noSeq ∧ TyX K H x (.type n)
theorem NoSq.more {K : PySem.W.Frag} {H H' : Hp} {x : V} (e : ∀ b o, H b = some o → H' b = some o) (h : NoSq K H x) : NoSq K H' x := let ⟨n, m, t⟩ := h; ⟨n, m, tyMore e t⟩
def Its (K : PySem.W.Frag) (H : Hp) (ys : List V) : Prop := ys.length ≤ 1000 ∧ ∀ y ∈ ys, (∃ i, y = .int i) ∨ NoInt K H y
theorem Its.more {K : PySem.W.Frag} {H H' : Hp} {ys : List V} (e : ∀ b o, H b = some o → H' b = some o) (h : Its K H ys) : Its K H' ys := ⟨h.1, fun y hy => (h.2 y hy).imp id fun z => z.more e⟩
theorem Its.ints {K : PySem.W.Frag} {H : Hp} {ds : List Int} (h : ds.length ≤ 1000) : Its K H (ds.map V.int) := ⟨by rw [List.length_map]; exact h, fun y hy => by
  obtain ⟨d, _, rfl⟩ := List.mem_map.mp hy
  exact .inl ⟨d, rfl⟩⟩
def spRow (K : PySem.W.Frag) : Sp := fun vs H Q _ => ∃ (x : V) (n : Int), vs = [x, .int n] ∧
  ((NoSq K H x ∧ ∀ H', More H H' → Q (.bl false) H') ∨ ∃ a xs, x = .ref a ∧ Sq K H a xs ∧ Its K H xs ∧ ∀ H', More H H' → Q (.bl (xs.all isI && decide (((xs.length : Nat) : Int) = n))) H')
theorem deI {i j : Int} : decide (V.int i = V.int j) = decide (i = j) := by simp only [V.int.injEq]
theorem ix_any {K : PySem.W.Frag} {H : Hp} {a : Addr} {xs : List V} {j : Nat} {i : Int} {v : V} {Q : VK} (s : Sq K H a xs) (e : i = (j : Int)) (h : xs[j]? = some v) (q : Q v H) : rIx K (.ref a) (.int i) H Q := by
  obtain s | s := s
  · exact .inl ⟨a, xs, i, v, rfl, rfl, s, at_of e h, q⟩
  · exact .inr (.inl ⟨a, xs, i, v, rfl, rfl, s, at_of e h, q⟩)
theorem isI_all (ds : List Int) : (ds.map V.int).all isI = true := by
  rw [List.all_map, List.all_eq_true]
  intro d _
  rfl
theorem sq_len {K : PySem.W.Frag} {H : Hp} {a : Addr} {xs : List V} (s : Sq K H a xs) : SqL K H a xs ∨ SqT K H a xs := s
/-! ### words of digits -/
/-- the digits of n to the base p, the low one first -/
def dgs (p : Nat) (n : Nat) : List Int := if h : n = 0 ∨ p < 2 then [] else ((n % p : Nat) : Int) :: dgs p (n / p)
termination_by n
decreasing_by exact Nat.div_lt_self (by omega) (by omega)
theorem dgs_zero {p : Nat} : dgs p 0 = [] := by
  rw [dgs, dif_pos (.inl rfl)]
theorem dgs_pos {p n : Nat} (h : 0 < n) (hp : 2 ≤ p) : dgs p n = ((n % p : Nat) : Int) :: dgs p (n / p) := by
  rw [dgs, dif_neg (by omega)]
theorem dgs_len {p : Nat} (hp : 2 ≤ p) : ∀ (k n : Nat), n < 2 ^ k → (dgs p n).length ≤ k
  | 0, n, h => by
    have e : n = 0 := by simpa using h
    rw [e, dgs_zero]
    exact Nat.le_refl _
  | k + 1, n, h => by
    by_cases z : n = 0
    · rw [z, dgs_zero]
      exact Nat.zero_le _
    · rw [dgs_pos (by omega) hp]
      have h2 : n / p < 2 ^ k := by
        refine Nat.lt_of_le_of_lt (Nat.div_le_div_left hp (by decide)) ?_
        rw [Nat.pow_succ] at h
        omega
      have := dgs_len hp k _ h2
      simp only [List.length_cons]
      omega
theorem dgs_are {p : Nat} (hp : 2 ≤ p) : ∀ (k n : Nat), n ≤ k → ∀ d ∈ dgs p n, 0 ≤ d ∧ d < (p : Int)
  | 0, n, h, d, hd => by
    have e : n = 0 := by omega
    rw [e, dgs_zero] at hd
    cases hd
  | k + 1, n, h, d, hd => by
    by_cases z : n = 0
    · rw [z, dgs_zero] at hd
      cases hd
    · rw [dgs_pos (by omega) hp] at hd
      rcases List.mem_cons.mp hd with rfl | hd
      · have := Nat.mod_lt n (show p > 0 by omega)
        omega
      · exact dgs_are hp k _ (by have := Nat.div_lt_self (show 0 < n by omega) (show 1 < p by omega); omega) d hd
/-- the number that a word tells -/
def val (p : Int) : List Int → Int
  | [] => 0
  | d :: r => val p r * p + d
theorem val_dgs {p : Nat} (hp : 2 ≤ p) : ∀ (k n : Nat), n ≤ k → val p (dgs p n) = n
  | 0, n, h => by
    have e : n = 0 := by omega
    rw [e, dgs_zero]
    rfl
  | k + 1, n, h => by
    by_cases z : n = 0
    · rw [z, dgs_zero]
      rfl
    · rw [dgs_pos (by omega) hp]
      have lt := Nat.div_lt_self (show 0 < n by omega) (show 1 < p by omega)
      show val p (dgs p (n / p)) * p + ((n % p : Nat) : Int) = n
      rw [val_dgs hp k _ (by omega)]
      have := Nat.div_add_mod n p
      rw [Nat.mul_comm] at this
      omega
theorem val_zeros {p : Int} : ∀ (l : List Int) (k : Nat), val p (l ++ List.replicate k 0) = val p l
  | [], 0 => rfl
  | [], k + 1 => by
    have ih := val_zeros (p := p) [] k
    rw [List.nil_append] at ih ⊢
    show val p (List.replicate k 0) * p + 0 = 0
    rw [ih]
    show (0 : Int) * p + 0 = 0
    rw [Int.zero_mul]
    rfl
  | d :: l, k => by
    show val p (l ++ List.replicate k 0) * p + d = val p l * p + d
    rw [val_zeros l k]
theorem val_drop {p : Int} {l : List Int} {i : Nat} {d : Int} (h : l[i]? = some d) : val p (l.drop i) = val p (l.drop (i + 1)) * p + d := by
  have hi : i < l.length := by
    rcases Nat.lt_or_ge i l.length with z | z
    · exact z
    · rw [List.getElem?_eq_none z] at h
      cases h
  rw [List.drop_eq_getElem_cons hi]
  have e : l[i] = d := by
    rw [List.getElem?_eq_getElem hi] at h
    exact Option.some.inj h
  rw [e]
  rfl
/-- BadNumber(what, x) is raised -/
def RNum (CN : Addr) (what : Str) (x : V) (H : Hp) (E : XK) : Prop := ∀ d, H d = none → E (.ref CN) (some d) (upd H d (.xd [("number", x), ("what", .str what)]))
def isPr (p : Int) : Bool := inV (.int p) ([2, 3, 5, 7].map V.int)
def BadP (K : PySem.W.Frag) (H : Hp) (x : V) : Prop := (∃ m, x = .int m ∧ isPr m = false) ∨ NoInt K H x
def spCP (K : PySem.W.Frag) (CN : Addr) : Sp := fun vs H Q E => ∃ x, vs = [x] ∧
  ((∃ m, x = .int m ∧ isPr m = true ∧ Q .non H) ∨ (BadP K H x ∧ RNum CN "p" x H E))
theorem isPr_small {p : Int} (h : isPr p = true) : 2 ≤ p ∧ p ≤ 7 := by
  have z : (decide (2 = p) || (decide (3 = p) || (decide (5 = p) || (decide (7 = p) || false)))) = true := h
  simp only [Bool.or_eq_true, decide_eq_true_eq, Bool.or_false] at z
  omega
def spDg (K : PySem.W.Frag) (CN : Addr) : Sp := fun vs H Q E => ∃ x y, vs = [x, y] ∧
  ((∃ n p : Nat, x = .int n ∧ y = .int p ∧ isPr p = true ∧ n < 2 ^ 400 ∧ ∀ H' a, More H H' → H a = none → H' a = some (.tup ((dgs p n).map V.int)) → Q (.ref a) H') ∨
    (((∃ i, x = .int i ∧ i < 0) ∨ NoInt K H x) ∧ RNum CN "n" x H E) ∨
    ∃ n : Int, x = .int n ∧ 0 ≤ n ∧ BadP K H y ∧ RNum CN "p" y H E)
end B5

namespace K72
open PySem L2 Gd B5
def top (i : Nat) : Stmt := PySem.Challenge.pw_restcounts_k72_whole_values_again_and_la.main.body.getD i (.Pass ⟨0, 0, 0, 0⟩)
abbrev sPen : Stmt := top 27
abbrev sDraw : Stmt := top 28
abbrev sPick : Stmt := top 29
section
variable {P : Program} {w : World} {K : PySem.W.Frag} {mg : Str → Option Value} {base : Heap}
theorem scDraw : FnScope ["_law_pen_here", "_law_many", "_law_cell", "_law_digit", "_law_mixed"] ["_law_pen_here", "_law_many"] (defScope sDraw) := ⟨rfl, rfl, rfl, by decide +kernel, rfl, by decide +kernel, by decide +kernel⟩
theorem ok_draw {f : Addr} {fd : FuncData} (F : Fun K "_law_draw" "_law_draw" sDraw f fd) (mInt : mg "int" = none) (mLen : mg "len" = none) : FnOk P w K mg base CX0 1 f fd ["_law_pen_here", "_law_many"] spDraw := by
  refine F.ok scDraw (fun vs H Q E h => ?_) (fun cdv A outer s H vs Q E hr h => ?_)
  · obtain ⟨d, c, n, m, rfl, _⟩ := h
    rfl
  · obtain ⟨d, c, n, m, rfl, pen, m0, m1, n0, n1, k⟩ := h
    have hu := hu_of hr
    have ne := pen.ne
    obtain ⟨kvs, cs, p, g, f, hd, hc, hl, vC, vA, vG, vN, vF, ⟨p0, g0⟩, f0, f1⟩ := pen
    refine ⟨_, pss_cons (ps_dput hu (pv 0) pe_str (pe_op op_add (pe_dget hu (pv 0) pe_str (fun _ _ => rfl)) pe_int) rfl)
      (Evl.pss_cut (ps_if (PW.pt (pw_and (pt_cmpR op_eq (pe_dget hu (pv 0) pe_str (fun _ _ => rfl)) pe_int (nomark _))
            (pw_and1 (pt_cmpR op_lt (pe_dget hu (pv 0) pe_str (fun _ _ => rfl)) (pe_callB call_len_seq (by rfl) mLen PySem.boot_len (pa_cons (pe_dget hu (pv 0) pe_str (fun _ _ => rfl)) pa_nil)) (nomark _)))))
          (pss_cons (ps_set (i := 2) scDraw.nd rfl (Or.inl rfl) (pe_ix ix_list (pe_dget hu (pv 0) pe_str (fun _ _ => rfl)) (pe_dget hu (pv 0) pe_str (fun _ _ => rfl)) (fun _ _ => rfl)))
          (pss_cons (ps_dput hu (pv 0) pe_str (pe_op op_add (pe_dget hu (pv 0) pe_str (fun _ _ => rfl)) pe_int) rfl)
          (pss_one (ps_if (pt_cmpR op_ge (pv 2) (pe_op op_pow pe_int pe_int) (nomark _))
            (pss_one (ps_dput hu (pv 0) pe_str (pe_op op_sub (pv 2) (pe_op op_pow pe_int pe_int)) rfl))
            (pss_one (ps_dput hu (pv 0) pe_str (pe_op op_mod (pe_callTy call_int1 (by rfl) mInt (by decide +kernel) (pa_cons (pe_op op_add (pe_op op_mul (pe_dget hu (pv 0) pe_str (fun _ _ => rfl)) pe_int) (pv 2)) pa_nil)) pe_int) rfl))))))
          pss_nil)
      (pss_cons (ps_if (pt_cmpR op_gt (pe_dget hu (pv 0) pe_str (fun _ _ => rfl)) pe_int (nomark _))
          (pss_cons (ps_set (i := 3) scDraw.nd rfl (Or.inl rfl) (pe_op op_mod (pe_callTy call_int1 (by rfl) mInt (by decide +kernel) (pa_cons (pe_dget hu (pv 0) pe_str (fun _ _ => rfl)) pa_nil)) (pv 1)))
          (pss_cons (ps_dput hu (pv 0) pe_str (pe_op op_fdivW (pe_dget hu (pv 0) pe_str (fun _ _ => rfl)) (pv 1)) rfl)
          (pss_one (ps_ret (pv 3)))))
          pss_nil)
      (pss_cons (ps_set (i := 4) scDraw.nd rfl (Or.inl rfl) (pe_op op_add (pe_op op_add (pe_dget hu (pv 0) pe_str (fun _ _ => rfl)) (pe_op op_mul (pe_dget hu (pv 0) pe_str (fun _ _ => rfl)) pe_int)) pe_int))
      (pss_one (ps_ret (pe_op op_mod (pe_op op_fdiv (pe_callTy call_int1 (by rfl) mInt (by decide +kernel) (pa_cons (pe_op op_mod (pe_op op_pow (pv 4) pe_int) pe_int) pa_nil)) pe_int) (pv 1))))))), ?_⟩
    -- pen['count'] = pen['count'] + 1
    obtain ⟨ac, gc, nc, fc, ca, ga, na, fa, cg, ag, ng, fg, cn, an, gn, fn, cf, af, gf, nf⟩ := kne
    have l1 : (putK kvs kN (V.int (n + 1))).length ≤ 5 := by rw [putK_same vN]; exact hl
    have vC1 := put_in kN kC (V.int (n + 1)) vC cn
    have vA1 := put_in kN kA (V.int (n + 1)) vA an
    have vG1 := put_in kN kG (V.int (n + 1)) vG gn
    have vF1 := put_in kN kF (V.int (n + 1)) vF fn
    have vN1 : valV (putK kvs kN (V.int (n + 1))) kN = some (V.int (n + 1)) := put_at kN _
    refine ⟨_, rfl, d, _, rfl, dg kN hd vN, _, _, rfl, rfl, _, rfl, d, _, rfl, DPut.k (k := kN) hd (five hl), ?_⟩
    have hc1 : ∀ o, (L2.upd H d o) c = some (.lst (cs.map V.int)) := fun o => by rw [upd_ne ne]; exact hc
    generalize putK kvs kN (V.int (n + 1)) = kvs1 at *
    clear vC vA vG vN vF
    -- behind the if: a heap that differs at the pen alone
    refine ⟨fun σ' H' => ∃ (kvs : List (Key × V)) (p g f : Int) (z : Option V), σ' = [some (.ref d), some (.int m), z, none, none] ∧ H' d = some (.dK kvs) ∧ (∀ b, b ≠ d → H' b = H b) ∧
      kvs.length ≤ 5 ∧ valV kvs kC = some (.ref c) ∧ valV kvs kA = some (.int p) ∧ valV kvs kG = some (.int g) ∧ valV kvs kN = some (.int (n + 1)) ∧ valV kvs kF = some (.int f) ∧
      (0 ≤ p ∧ 0 ≤ g) ∧ (0 ≤ f ∧ f < 2147483648), ?_, ?_⟩
    · have mid : ∀ (z : Option V) (kvs2 : List (Key × V)) (H2 : Hp) (p g f : Int), H2 d = some (.dK kvs2) → (∀ b, b ≠ d → H2 b = H b) → kvs2.length ≤ 5 → valV kvs2 kC = some (.ref c) → valV kvs2 kA = some (.int p) →
          valV kvs2 kG = some (.int g) → valV kvs2 kN = some (.int (n + 1)) → valV kvs2 kF = some (.int f) → (0 ≤ p ∧ 0 ≤ g) → (0 ≤ f ∧ f < 2147483648) →
          ∃ (kvs : List (Key × V)) (p g f : Int) (z' : Option V), [some (V.ref d), some (V.int m), z, none, none] = [some (V.ref d), some (V.int m), z', none, none] ∧ H2 d = some (.dK kvs) ∧ (∀ b, b ≠ d → H2 b = H b) ∧
            kvs.length ≤ 5 ∧ valV kvs kC = some (.ref c) ∧ valV kvs kA = some (.int p) ∧ valV kvs kG = some (.int g) ∧ valV kvs kN = some (.int (n + 1)) ∧ valV kvs kF = some (.int f) ∧ (0 ≤ p ∧ 0 ≤ g) ∧ (0 ≤ f ∧ f < 2147483648) :=
        fun z kvs2 H2 p g f a1 a2 a3 a4 a5 a6 a7 a8 a9 a10 => ⟨kvs2, p, g, f, z, rfl, a1, a2, a3, a4, a5, a6, a7, a8, a9, a10⟩
      have off : ∀ o b, b ≠ d → (L2.upd H d o) b = H b := fun o b hb => upd_ne hb
      refine ⟨_, rfl, d, _, rfl, dg kG upd_same vG1, rfl, _, rfl, ite2 (fun _ => ?_) (fun _ => ?_)⟩
      · refine ⟨_, rfl, d, _, rfl, dg kA upd_same vA1, _, rfl, d, _, rfl, dg kC upd_same vC1, c, _, rfl, .inl (SqL.of (hc1 _)), _, _, rfl, rfl, _, rfl, ite2 (fun hlt => ?_) (fun _ => ?_)⟩
        · have hlt := of_decide_eq_true hlt
          rw [List.length_map] at hlt
          have hp : p.toNat < cs.length := by omega
          have hat : (cs.map V.int)[p.toNat]? = some (V.int cs[p.toNat]) := by rw [List.getElem?_map, List.getElem?_eq_getElem hp]; rfl
          refine ⟨_, rfl, d, _, rfl, dg kC upd_same vC1, _, rfl, d, _, rfl, dg kA upd_same vA1, c, _, _, _, rfl, rfl, SqL.of (hc1 _), at_of (by omega) hat, ?_⟩
          generalize cs[p.toNat] = x
          -- pen['at'] = pen['at'] + 1
          have l2 : (putK kvs1 kA (V.int (p + 1))).length ≤ 5 := by rw [putK_same vA1]; exact l1
          have vC2 := put_in kA kC (V.int (p + 1)) vC1 ca
          have vG2 := put_in kA kG (V.int (p + 1)) vG1 ga
          have vF2 := put_in kA kF (V.int (p + 1)) vF1 fa
          have vN2 := put_in kA kN (V.int (p + 1)) vN1 na
          have vA2 : valV (putK kvs1 kA (V.int (p + 1))) kA = some (V.int (p + 1)) := put_at kA _
          refine ⟨_, rfl, d, _, rfl, dg kA upd_same vA1, _, _, rfl, rfl, _, rfl, d, _, rfl, DPut.k (k := kA) upd_same (five l1), ?_⟩
          rw [upd_upd]
          generalize putK kvs1 kA (V.int (p + 1)) = kvs2 at *
          refine ⟨_, rfl, _, _, rfl, rfl, ⟨by decide, by decide, by decide⟩, _, _, rfl, rfl, _, rfl, ite2 (fun hge => ?_) (fun _ => ?_)⟩
          · have hge := of_decide_eq_true hge
            refine ⟨_, rfl, _, _, rfl, rfl, ⟨by decide, by decide, by decide⟩, _, _, rfl, rfl, _, rfl, d, _, rfl, DPut.k (k := kG) upd_same (five l2), ?_⟩
            rw [upd_upd]
            have e10 : (10 : Int) ^ (18 : Int).toNat = 1000000000000000000 := by decide
            exact mid _ _ _ (p + 1) _ f upd_same (off _) (by rw [putK_same vG2]; exact l2) (put_in kG kC _ vC2 cg) (put_in kG kA _ vA2 ag) (put_at kG _) (put_in kG kN _ vN2 ng) (put_in kG kF _ vF2 fg) ⟨by omega, by omega⟩ ⟨f0, f1⟩
          · refine ⟨_, rfl, d, _, rfl, dg kF upd_same vF2, _, _, rfl, rfl, .inl ⟨by omega, by omega⟩, _, rfl, _, _, rfl, rfl, .inl ⟨_, rfl, _, _, rfl, rfl, (by show (0 : Int) < 2147483587; decide), _, rfl, d, _, rfl, DPut.k (k := kF) upd_same (five l2), ?_⟩⟩
            rw [upd_upd]
            exact mid _ _ _ (p + 1) g _ upd_same (off _) (by rw [putK_same vF2]; exact l2) (put_in kF kC _ vC2 cf) (put_in kF kA _ vA2 af) (put_in kF kG _ vG2 gf) (put_in kF kN _ vN2 nf) (put_at kF _) ⟨by omega, by omega⟩ ⟨by omega, by omega⟩
        · exact mid _ _ _ p g f upd_same (off _) l1 vC1 vA1 vG1 vN1 vF1 ⟨p0, g0⟩ ⟨f0, f1⟩
      · refine iteF ?_
        exact mid _ _ _ p g f upd_same (off _) l1 vC1 vA1 vG1 vN1 vF1 ⟨p0, g0⟩ ⟨f0, f1⟩
    · clear vC1 vA1 vG1 vF1 vN1 l1 hc1 p0 g0 f0 f1 hl hd
      rintro σ' H2 ⟨kvs2, p2, g2, f2, z, rfl, hd2, off, l2, vC2, vA2, vG2, vN2, vF2, ⟨p0, g0⟩, f0, f1⟩
      have hc2 : H2 c = some (.lst (cs.map V.int)) := (off c ne).trans hc
      have m80 : m.natAbs < 2 ^ 80 := by
        have e : (2 ^ 80 : Nat) = 1208925819614629174706176 := by decide
        omega
      refine ⟨_, rfl, d, _, rfl, dg kG hd2 vG2, _, _, rfl, rfl, _, rfl, ite2 (fun hgt => ?_) (fun _ => ?_)⟩
      · refine ⟨_, rfl, d, _, rfl, dg kG hd2 vG2, .inl ⟨_, rfl, _, rfl, _, _, rfl, rfl, m0, ?_⟩⟩
        refine ⟨_, rfl, d, _, rfl, dg kG hd2 vG2, _, rfl, _, _, rfl, rfl, wide_div m0 m80 (by decide) (by decide), _, rfl, d, _, rfl, DPut.k (k := kG) hd2 (five l2), _, rfl, ?_⟩
        have q0 : 0 ≤ g2 / m := Int.ediv_nonneg g0 (by omega)
        refine k _ _ (Int.emod_nonneg _ (by omega)) (Int.emod_lt_of_pos _ m0) ⟨⟨_, cs, p2, g2 / m, f2, upd_same, by rw [upd_ne ne]; exact hc2, by rw [putK_same vG2]; exact l2, put_in kG kC _ vC2 cg, put_in kG kA _ vA2 ag, put_at kG _, put_in kG kN _ vN2 ng, put_in kG kF _ vF2 fg, ⟨p0, q0⟩, f0, f1⟩, fun b hb => by rw [upd_ne hb]; exact off b hb⟩
      · refine ⟨_, rfl, d, _, rfl, dg kF hd2 vF2, _, rfl, d, _, rfl, dg kN hd2 vN2, _, _, rfl, rfl, .inr ⟨by decide, by decide⟩, _, _, rfl, rfl, _, _, rfl, rfl, ?_⟩
        refine ⟨_, rfl, _, _, rfl, rfl, ⟨by decide, by decide, by omega⟩, _, _, rfl, rfl, (by show (0 : Int) < 2305843009213693951; decide), .inl ⟨_, rfl, _, _, rfl, rfl, ⟨by decide, by decide⟩, _, rfl, _, _, rfl, rfl, m0, ?_⟩⟩
        exact k _ _ (Int.emod_nonneg _ (by omega)) (Int.emod_lt_of_pos _ m0) ⟨⟨kvs2, cs, p2, g2, f2, hd2, hc2, l2, vC2, vA2, vG2, vN2, vF2, ⟨p0, g0⟩, f0, f1⟩, off⟩

theorem scPen : FnScope ["_law_script", "_law_fold", "_law_cell"] ["_law_script"] (defScope sPen) := ⟨rfl, rfl, rfl, by decide +kernel, rfl, by decide +kernel, by decide +kernel⟩
theorem ok_pen {f : Addr} {fd : FuncData} (F : Fun K "_law_pen" "_law_pen" sPen f fd) (mInt : mg "int" = none) (mLst : mg "list" = none) : FnOk P w K mg base CX0 1 f fd ["_law_script"] (spPen K) := by
  refine F.ok scPen (fun vs H Q E h => ?_) (fun cdv A outer s H vs Q E hr h => ?_)
  · obtain ⟨a, ns, rfl, _⟩ := h
    rfl
  · obtain ⟨a, ns, rfl, hS, k⟩ := h
    refine ⟨_, pss_cons (ps_set (i := 1) scPen.nd rfl (Or.inl rfl) pe_int)
      (pss_cons (ps_for PassesOwn.never rfl (pi_list (pv 0)) (pg_name (i := 2) scPen.nd rfl (Or.inl rfl))
        (pss_one (ps_set (i := 1) scPen.nd rfl (Or.inl rfl) (pe_op op_mod (pe_callTy call_int1 (by rfl) mInt (by decide +kernel) (pa_cons (pe_op op_add (pe_op op_mul (pv 1) pe_int) (pv 2)) pa_nil)) pe_int))))
      (pss_one (ps_ret (pe_disp (pps_cons pe_str (pe_callTy call_list_of (by rfl) mLst (by decide +kernel) (pa_cons (pv 0) pa_nil))
        (pps_cons pe_str pe_int (pps_cons pe_str pe_int (pps_cons pe_str pe_int (pps_cons pe_str (pv 1) pps_nil))))) rfl rfl (by simp) (by decide))))), ?_⟩
    refine ⟨_, rfl, a, rfl, ⟨_, hS⟩, for_list (K := K) (a := a) (xs := ns.map V.int) (fun _ σ H2 => ∃ (f : Int) (v : Option V), σ = [some (.ref a), some (.int f), v] ∧ H2 = H ∧ 0 ≤ f ∧ f < 1000000007)
      ⟨0, none, rfl, rfl, by decide, by decide⟩ (fun i σ H2 _ ⟨_, _, _, e, _⟩ => e ▸ hS) ?_ ?_⟩
    · rintro i y σ H2 hi ⟨f, v, rfl, rfl, f0, f1⟩
      obtain ⟨z, rfl⟩ : ∃ z, y = V.int z := by
        rw [List.getElem?_map] at hi
        cases e : ns[i]? with
        | none => rw [e] at hi; cases hi
        | some z => rw [e] at hi; exact ⟨z, (Option.some.inj hi).symm⟩
      refine ⟨_, rfl, _, _, rfl, rfl, .inl ⟨by omega, by omega⟩, _, rfl, _, _, rfl, rfl, .inl ⟨_, rfl, _, _, rfl, rfl, (by show (0 : Int) < 1000000007; decide), ?_⟩⟩
      exact ⟨_, _, rfl, rfl, Int.emod_nonneg _ (by decide), Int.emod_lt_of_pos _ (by decide)⟩
    · rintro σ H2 ⟨f, v, rfl, rfl, f0, f1⟩
      intro d hd
      have hS1 : SqL K (L2.upd H2 d (.dK [])) a (ns.map V.int) := Same.seq (fun b o e => by rw [upd_ne (ne_of_none e hd)]; exact e) hS
      refine ⟨_, rfl, a, _, rfl, .inl hS1, fun c hc => ?_⟩
      have ncd : c ≠ d := fun e => by
        rw [e, upd_same] at hc
        cases hc
      have hc0 : H2 c = none := by rw [upd_ne ncd] at hc; exact hc
      refine ⟨_, rfl, by rw [upd_ne ncd.symm, upd_same], [(kC, .ref c), (kA, .int 0), (kG, .int 0), (kN, .int 0), (kF, .int f)], rfl, (by show 5 ≤ 15; decide), ?_⟩
      have lm := length_mergeK [(kC, V.ref c), (kA, .int 0), (kG, .int 0), (kN, .int 0), (kF, .int f)] []
      obtain ⟨ac, gc, nc, fc, ca, ga, na, fa, cg, ag, ng, fg, cn, an, gn, fn, cf, af, gf, nf⟩ := kne
      have em : mergeK [] [(kC, V.ref c), (kA, .int 0), (kG, .int 0), (kN, .int 0), (kF, .int f)] = putK (putK (putK (putK (putK [] kC (.ref c)) kA (.int 0)) kG (.int 0)) kN (.int 0)) kF (.int f) := rfl
      have v1 : valV (mergeK [] [(kC, V.ref c), (kA, .int 0), (kG, .int 0), (kN, .int 0), (kF, .int f)]) kC = some (.ref c) := by
        rw [em]; exact put_in _ _ _ (put_in _ _ _ (put_in _ _ _ (put_in _ _ _ (put_at _ _) ca) cg) cn) cf
      have v2 : valV (mergeK [] [(kC, V.ref c), (kA, .int 0), (kG, .int 0), (kN, .int 0), (kF, .int f)]) kA = some (.int 0) := by
        rw [em]; exact put_in _ _ _ (put_in _ _ _ (put_in _ _ _ (put_at _ _) ag) an) af
      have v3 : valV (mergeK [] [(kC, V.ref c), (kA, .int 0), (kG, .int 0), (kN, .int 0), (kF, .int f)]) kG = some (.int 0) := by
        rw [em]; exact put_in _ _ _ (put_in _ _ _ (put_at _ _) gn) gf
      have v4 : valV (mergeK [] [(kC, V.ref c), (kA, .int 0), (kG, .int 0), (kN, .int 0), (kF, .int f)]) kN = some (.int 0) := by
        rw [em]; exact put_in _ _ _ (put_at _ _) nf
      have v5 : valV (mergeK [] [(kC, V.ref c), (kA, .int 0), (kG, .int 0), (kN, .int 0), (kF, .int f)]) kF = some (.int f) := by
        rw [em]; exact put_at _ _
      have l5 : (mergeK [] [(kC, V.ref c), (kA, .int 0), (kG, .int 0), (kN, .int 0), (kF, .int f)]).length ≤ 5 := lm
      refine k _ d c ⟨_, ns, 0, 0, f, upd_same, by rw [upd_ne ncd, upd_same], l5, v1, v2, v3, v4, v5, by decide, f0, by omega⟩ (fun b o e => ?_) hd
      rw [upd_ne (ne_of_none e hd), upd_ne (ne_of_none e hc0), upd_ne (ne_of_none e hd)]
      exact e
theorem scPick : FnScope ["_law_pen_here", "_law_some"] ["_law_pen_here", "_law_some"] (defScope sPick) := ⟨rfl, rfl, rfl, by decide +kernel, rfl, by decide +kernel, by decide +kernel⟩
theorem ok_pick {f fD : Addr} {fd fdD : FuncData} (F : Fun K "_law_pick" "_law_pick" sPick f fd) (FD : Fun K "_law_draw" "_law_draw" sDraw fD fdD) (bD : Binds K fdD ["_law_pen_here", "_law_many"] []) (mD : mg "_law_draw" = some (.ref fD))
    (mInt : mg "int" = none) (mLen : mg "len" = none) : FnOk P w K mg base CX0 2 f fd ["_law_pen_here", "_law_some"] (spPick K) := by
  have GD : FnOk P w K mg base CX0 1 fD fdD ["_law_pen_here", "_law_many"] spDraw := ok_draw FD mInt mLen
  refine F.ok scPick (fun vs H Q E h => ?_) (fun cdv A outer s H vs Q E hr h => ?_)
  · obtain ⟨d, c, a, n, xs, rfl, _⟩ := h
    rfl
  · obtain ⟨d, c, a, n, xs, rfl, pen, ha, x0, x1, n0, n1, k⟩ := h
    refine ⟨_, pss_one (ps_ret (pe_ix ix_list (pv 1) (pe_call GD hr rfl mD FD.kp bD .nil pass0 (pa_cons (pv 0) (pa_cons (pe_callB call_len_seq (by rfl) mLen PySem.boot_len (pa_cons (pv 1) pa_nil)) pa_nil))) (fun _ _ => rfl))), ?_⟩
    refine ⟨_, rfl, _, rfl, _, rfl, a, _, rfl, .inl (SqL.of ha), d, c, n, _, rfl, pen, by omega, by omega, n0, n1, fun r H' r0 r1 dr => ?_⟩
    have nda : a ≠ d := fun e => by
      obtain ⟨kvs, cs, p, g, f, h1, _⟩ := pen
      rw [e, h1] at ha
      cases ha
    have hr : r.toNat < xs.length := by omega
    refine ⟨a, _, _, _, rfl, rfl, SqL.of ((dr.off a nda).trans ha), at_of (j := r.toNat) (by omega) (List.getElem?_eq_getElem hr), ?_⟩
    exact k _ _ (List.getElem_mem hr) dr
end
end K72

namespace K72
open PySem L2 Gd B5
section
variable {P : Program} {w : World} {K : PySem.W.Frag} {mg : Str → Option Value} {base : Heap}
abbrev sBadNumber : Stmt := inClass (top 2) 0
theorem scBadNumber : FnScope ["self", "what", "number"] ["self", "what", "number"] (defScope sBadNumber) := ⟨rfl, rfl, rfl, by decide +kernel, rfl, by decide +kernel, by decide +kernel⟩
theorem okBadNumber {f C : Addr} {fd : FuncData} (F : Fun K "__init__" "BadNumber.__init__" sBadNumber f fd) (T : OexC K C) (no : ∀ g ∈ (["what", "number"] : List Str), PySem.W.findIn K (.ref C) g = some none) : FnOk P w K mg base CX0 1 f fd ["self", "what", "number"] (spIni C ["what", "number"]) := by
  refine F.ok scBadNumber (fun vs H Q E h => ?_) (fun cdv A outer s H vs Q E hr h => ?_)
  · obtain ⟨a, ys, rfl, hl, _⟩ := h
    show ys.length + 1 = _
    rw [hl]
    rfl
  · obtain ⟨a, ys, rfl, hl, ha, k⟩ := h
    match ys, hl with
    | [y0, y1], _ =>
    refine ⟨_, pss_cons (ps_ost (pv 0) (pv 1)) (pss_one (ps_ost (pv 0) (pv 2))), ?_⟩
    refine ⟨_, rfl, _, rfl, a, C, rfl, T, no _ (.head _), .inl ⟨ha, fun dx hdx ne => ?_⟩⟩
    refine ⟨_, rfl, _, rfl, a, C, rfl, T, no _ (.tail _ (.head _)), .inr ⟨dx, _, upd_same, by rw [upd_ne ne, upd_same], by show 1 ≤ 900; decide, ?_⟩⟩
    refine k _ dx hdx ne (fun b hb hd => ?_) ?_ ?_
    · rw [upd_ne hd, upd_ne hb, upd_ne hd]
    · rw [upd_ne ne.symm, upd_same]
    · exact upd_same
abbrev sBadRow : Stmt := inClass (top 3) 0
theorem scBadRow : FnScope ["self", "row"] ["self", "row"] (defScope sBadRow) := ⟨rfl, rfl, rfl, by decide +kernel, rfl, by decide +kernel, by decide +kernel⟩
theorem okBadRow {f C : Addr} {fd : FuncData} (F : Fun K "__init__" "BadRow.__init__" sBadRow f fd) (T : OexC K C) (no : ∀ g ∈ (["row"] : List Str), PySem.W.findIn K (.ref C) g = some none) : FnOk P w K mg base CX0 1 f fd ["self", "row"] (spIni C ["row"]) := by
  refine F.ok scBadRow (fun vs H Q E h => ?_) (fun cdv A outer s H vs Q E hr h => ?_)
  · obtain ⟨a, ys, rfl, hl, _⟩ := h
    show ys.length + 1 = _
    rw [hl]
    rfl
  · obtain ⟨a, ys, rfl, hl, ha, k⟩ := h
    match ys, hl with
    | [y0], _ =>
    refine ⟨_, pss_one (ps_ost (pv 0) (pv 1)), ?_⟩
    refine ⟨_, rfl, _, rfl, a, C, rfl, T, no _ (.head _), .inl ⟨ha, fun dx hdx ne => ?_⟩⟩
    refine k _ dx hdx ne (fun b hb hd => ?_) ?_ ?_
    · rw [upd_ne hb, upd_ne hd]
    · exact upd_same
    · rw [upd_ne ne, upd_same]; rfl
abbrev sUnlike : Stmt := inClass (top 4) 0
theorem scUnlike : FnScope ["self", "what"] ["self", "what"] (defScope sUnlike) := ⟨rfl, rfl, rfl, by decide +kernel, rfl, by decide +kernel, by decide +kernel⟩
theorem okUnlike {f C : Addr} {fd : FuncData} (F : Fun K "__init__" "Unlike.__init__" sUnlike f fd) (T : OexC K C) (no : ∀ g ∈ (["what"] : List Str), PySem.W.findIn K (.ref C) g = some none) : FnOk P w K mg base CX0 1 f fd ["self", "what"] (spIni C ["what"]) := by
  refine F.ok scUnlike (fun vs H Q E h => ?_) (fun cdv A outer s H vs Q E hr h => ?_)
  · obtain ⟨a, ys, rfl, hl, _⟩ := h
    show ys.length + 1 = _
    rw [hl]
    rfl
  · obtain ⟨a, ys, rfl, hl, ha, k⟩ := h
    match ys, hl with
    | [y0], _ =>
    refine ⟨_, pss_one (ps_ost (pv 0) (pv 1)), ?_⟩
    refine ⟨_, rfl, _, rfl, a, C, rfl, T, no _ (.head _), .inl ⟨ha, fun dx hdx ne => ?_⟩⟩
    refine k _ dx hdx ne (fun b hb hd => ?_) ?_ ?_
    · rw [upd_ne hb, upd_ne hd]
    · exact upd_same
    · rw [upd_ne ne, upd_same]; rfl
end
end K72

namespace K72
open PySem L2 Gd B5
section
variable {P : Program} {w : World} {K : PySem.W.Frag} {mg : Str → Option Value} {base : Heap}
abbrev sIsI : Stmt := top 6
theorem scIsI : FnScope ["value"] ["value"] (defScope sIsI) := ⟨rfl, rfl, rfl, by decide +kernel, rfl, by decide +kernel, by decide +kernel⟩
theorem ok_isI {f : Addr} {fd : FuncData} (F : Fun K "is_integer" "is_integer" sIsI f fd) (mIsi : mg "isinstance" = none) (mInt : mg "int" = none) (mBool : mg "bool" = none) : FnOk P w K mg base CX0 1 f fd ["value"] (spIsI K) := by
  refine F.ok scIsI (fun vs H Q E h => ?_) (fun cdv A outer s H vs Q E hr h => ?_)
  · obtain ⟨x, rfl, _⟩ := h
    rfl
  · obtain ⟨x, rfl, h⟩ := h
    refine ⟨_, pss_one (ps_ret (pe_and (pe_callB call_isi (by rfl) mIsi (by decide +kernel) (pa_cons (pv 0) (pa_cons (pe_bltn (v := .ty "int") rfl mInt (by decide +kernel) rfl) pa_nil)))
      (pe_one (pe_not (pe_callB call_isi (by rfl) mIsi (by decide +kernel) (pa_cons (pv 0) (pa_cons (pe_bltn (v := .ty "bool") rfl mBool (by decide +kernel) rfl) pa_nil))))))), ?_⟩
    obtain ⟨i, rfl, q⟩ | ⟨⟨n, hn, t⟩, q⟩ | ⟨t, ty, kt, q⟩ := h
    · refine ⟨_, rfl, _, _, _, _, _, rfl, .ty "int", .base (.int i), kit_ty on_int.1, _, rfl, iteT ?_⟩
      exact ⟨_, rfl, _, _, _, _, _, rfl, .ty "bool", .base (.int i), kit_ty on_int.2, _, rfl, q⟩
    · obtain ⟨k1, k2⟩ := off_int n hn
      refine ⟨_, rfl, _, _, _, _, _, rfl, .ty "int", t, kit_ty k1, _, rfl, ite2 (fun z => ?_) (fun z => q)⟩
      refine ⟨_, rfl, _, _, _, _, _, rfl, .ty "bool", t, kit_ty k2, _, rfl, ?_⟩
      rw [z]
      exact q
    · exact ⟨_, rfl, _, _, _, _, _, rfl, .ty "int", ty, kt, _, rfl, iteF q⟩
end
section
variable {P : Program} {w : World} {K : PySem.W.Frag} {mg : Str → Option Value} {base : Heap}
end
section
variable {P : Program} {w : World} {K : PySem.W.Frag} {mg : Str → Option Value} {base : Heap}
variable {fI f : Addr} {fdI fd : FuncData}
abbrev sIsIs : Stmt := top 7
theorem scIsIs : FnScope ["value", "item"] ["value"] (defScope sIsIs) := ⟨rfl, rfl, rfl, by decide +kernel, rfl, by decide +kernel, by decide +kernel⟩
theorem ok_isIs (F : Fun K "is_integers" "is_integers" sIsIs f fd) (B : Blt mg) (I : Cl K mg "is_integer" sIsI ["value"] fI fdI) :
    FnOk P w K mg base CX0 2 f fd ["value"] (spIsIs K) := by
  have GI : FnOk P w K mg base CX0 1 fI fdI ["value"] (spIsI K) := ok_isI I.fn B.isi_ B.int_ B.bool_
  refine F.ok scIsIs (fun vs H Q E h => ?_) (fun cdv A outer s H vs Q E hr h => ?_)
  · obtain ⟨x, rfl, _⟩ := h
    rfl
  · obtain ⟨x, rfl, h⟩ := h
    refine ⟨_, pss_one (ps_ret (pe_and (pe_callB call_isiT (by rfl) B.isi_ (by decide +kernel) (pa_cons (pv 0) (pa_cons (pe_tup (pa_cons (pe_bltn (v := .ty "tuple") rfl B.tup_ (by decide +kernel) rfl)
        (pa_cons (pe_bltn (v := .ty "list") rfl B.list_ (by decide +kernel) rfl) pa_nil))) pa_nil)))
      (pe_one (pe_callB (cr_all rfl) (by rfl) B.all_ (by decide +kernel) (pa_cons (pe_lc (own := [("item", 1)]) (g := gName 1) (tt := tYes) rfl scIsIs.nd (pi_or (pi_list (pv 0)) (pi_tup (pv 0)))
        (blkOk_by (N := ["value", "item"]) (sc := defScope sIsIs) (by decide +kernel))
        (fun _ _ _ _ _ => pg_name (i := 1) scIsIs.nd rfl (Or.inl rfl)) (fun _ _ _ _ _ => pts_nil)
        (fun _ _ _ _ _ => pe_call GI hr rfl I.g I.k I.b .nil pass0 (pa_cons (pv 1) pa_nil))) pa_nil))))), ?_⟩
    refine ⟨_, rfl, (by show 2 ≤ sizeLine; decide), fun t ht => ?_⟩
    have m1 : More H (upd H t (.tup [.ty "tuple", .ty "list"])) := More.new (fun _ _ e => e) ht
    obtain ⟨n, hn, ty, q⟩ | ⟨a, xs, rfl, sq, few, all, q⟩ := h
    · obtain ⟨k1, k2⟩ := seq_no n hn
      refine ⟨_, t, _, _, _, false, rfl, upd_same, .cons (.ty "tuple") (.cons (.ty "list") .nil), tyMore m1 ty, kitAny_cons (kit_ty k1) (fun _ => kitAny_cons (kit_ty k2) (fun _ => kitAny_nil) (fun z => nomatch z)) (fun z => nomatch z), _, rfl, iteF ?_⟩
      exact q _ m1
    · have yes : ∃ n, TyX K H (.ref a) (.type n) ∧ PySem.W.kitAny K (.type n) [.type "tuple", .type "list"] = some true := by
        obtain h | h := sq
        · exact ⟨_, tyL h, kitAny_cons (kit_ty seq_yes.2.1) (fun _ => kitAny_cons (kit_ty seq_yes.2.2) (fun z => nomatch z) (fun _ => rfl)) (fun z => nomatch z)⟩
        · exact ⟨_, tyT h, kitAny_cons (kit_ty seq_yes.1) (fun z => nomatch z) (fun _ => rfl)⟩
      obtain ⟨n, ty, ka⟩ := yes
      refine ⟨_, t, _, _, _, true, rfl, upd_same, .cons (.ty "tuple") (.cons (.ty "list") .nil), tyMore m1 ty, ka, _, rfl, iteT ?_⟩
      have sq1 := Sq.more m1 sq
      generalize upd H t (.tup [.ty "tuple", .ty "list"]) = H1 at m1 sq1 ⊢
      have body : ∀ (J : It) (G : Hp → Prop), Walk J xs.length G (YAt xs) → (∀ H', More H1 H' → G H') → ∀ L, H1 L = none → _ :=
        fun J G wk hG L hL => lc_it (w := wk) (vs := [1]) (g := gName 1) (tt := tYes) (σ := [some (.ref a), none]) (D := L) (H1 := H1)
          (te := tCall (spIsI K) [] (fun _ _ _ => False) (tCons (tVar 1) tNil))
          (Qd := fun H' => ∃ (b : Addr) (bs : List Bool), [V.ref L] = [V.ref b] ∧ SqL K H' b (bs.map V.bl) ∧ Q (.bl (bs.all id)) H')
          (fun i H' => H' L = some (.lst ((xs.take i).map fun y => V.bl (isI y))) ∧ More H1 H') ⟨upd_same, More.new (fun _ _ e => e) hL⟩ (fun i H' _ h => hG H' h.2)
          (fun i y H2 H3 hi ⟨e1, m2⟩ ⟨eH, hy⟩ => by
            subst eH
            have la : ((xs.take i).map fun y => V.bl (isI y)).length < sizeLine := by
              rw [List.length_map, List.length_take]
              exact small1000 (by omega)
            have fin : ∀ b, isI y = b → ∃ acc, H3 L = some (.lst acc) ∧ acc.length < sizeLine ∧ (upd H3 L (.lst (acc ++ [V.bl b]))) L = some (.lst ((xs.take (i + 1)).map fun y => V.bl (isI y))) ∧ More H1 (upd H3 L (.lst (acc ++ [V.bl b]))) := by
              intro b hb
              refine ⟨_, e1, la, ?_, m2.at hL⟩
              rw [upd_same, take_snoc hy, List.map_append, List.map_cons, List.map_nil, hb]
            refine ⟨rfl, _, rfl, y, rfl, ?_⟩
            obtain ⟨z, rfl⟩ | no := all y (List.mem_of_getElem? hy)
            · exact .inl ⟨z, rfl, fin _ rfl⟩
            · exact .inr (.inl ⟨no.more fun b o e => m2 b o (m1 b o e), fin _ (noInt_isI no)⟩))
          (fun H' ⟨e1, m2⟩ => by
            rw [List.take_length] at e1
            refine ⟨L, xs.map isI, rfl, SqL.of (by rw [List.map_map]; exact e1), ?_⟩
            have : ((xs.map isI).all id) = xs.all isI := by rw [List.all_map]; rfl
            rw [this]
            exact q _ fun b o e => m2 b o (m1 b o e))
      obtain h | h := sq1
      · exact .inl ⟨_, rfl, a, rfl, ⟨xs, h⟩, body _ _ walk_list fun H' m => Same.seq m h⟩
      · exact .inr ⟨_, rfl, a, rfl, ⟨xs, h⟩, body _ _ walk_tup fun H' m => sqT_more m h⟩
end
end K72

namespace K72
open PySem L2 Gd B5
section
variable {P : Program} {w : World} {K : PySem.W.Frag} {mg : Str → Option Value} {base : Heap}
variable {fI fS f : Addr} {fdI fdS fd : FuncData}
abbrev sRow : Stmt := top 8
theorem scRow : FnScope ["value", "width"] ["value", "width"] (defScope sRow) := ⟨rfl, rfl, rfl, by decide +kernel, rfl, by decide +kernel, by decide +kernel⟩
theorem ok_row (F : Fun K "is_row" "is_row" sRow f fd) (B : Blt mg) (I : Cl K mg "is_integer" sIsI ["value"] fI fdI) (S : Cl K mg "is_integers" sIsIs ["value"] fS fdS) :
    FnOk P w K mg base CX0 3 f fd ["value", "width"] (spRow K) := by
  have GS : FnOk P w K mg base CX0 2 fS fdS ["value"] (spIsIs K) := ok_isIs S.fn B I
  refine F.ok scRow (fun vs H Q E h => ?_) (fun cdv A outer s H vs Q E hr h => ?_)
  · obtain ⟨x, n, rfl, _⟩ := h
    rfl
  · obtain ⟨x, n, rfl, h⟩ := h
    refine ⟨_, pss_one (ps_ret (pe_and (pe_call GS hr rfl S.g S.k S.b .nil pass0 (pa_cons (pv 0) pa_nil))
      (pe_one (pe_cmpR op_eq (pe_callB call_len_seq (by rfl) B.len_ PySem.boot_len (pa_cons (pv 0) pa_nil)) (pv 1) (nomark _))))), ?_⟩
    obtain ⟨⟨m, hm, t⟩, q⟩ | ⟨a, xs, rfl, s, i, q⟩ := h
    · exact ⟨_, rfl, x, rfl, .inl ⟨m, hm, t, fun H' mo => ⟨_, rfl, iteF (q H' mo)⟩⟩⟩
    · refine ⟨_, rfl, _, rfl, .inr ⟨a, xs, rfl, s, i.1, i.2, fun H' mo => ⟨_, rfl, ?_⟩⟩⟩
      have q := q H' mo
      cases e : xs.all isI with
      | false =>
        rw [e] at q
        exact iteF q
      | true =>
        rw [e] at q
        exact iteT ⟨_, rfl, a, _, rfl, s.more mo, _, rfl, rfl, by rw [deI]; exact q⟩
end
end K72

namespace K72
open PySem L2 Gd B5
section
variable {P : Program} {w : World} {K : PySem.W.Frag} {mg : Str → Option Value} {base : Heap}
variable {fN CN fI fC f : Addr} {fdN fdI fdC fd : FuncData} {D : Addr}
abbrev sCP : Stmt := top 11
theorem scCP : FnScope ["p"] ["p"] (defScope sCP) := ⟨rfl, rfl, rfl, by decide +kernel, rfl, by decide +kernel, by decide +kernel⟩
abbrev sDg : Stmt := top 12
theorem scDg : FnScope ["n", "p", "found", "digit"] ["n", "p"] (defScope sDg) := ⟨rfl, rfl, rfl, by decide +kernel, rfl, by decide +kernel, by decide +kernel⟩
theorem ok_cp (F : Fun K "check_prime" "check_prime" sCP f fd) (B : Blt mg) (I : Cl K mg "is_integer" sIsI ["value"] fI fdI)
    (N : Er K mg "BadNumber" "BadNumber.__init__" CN fN ["what", "number"] sBadNumber fdN) (gD : mg "PRIMES" = some (.ref D)) (dD : tupI K (.ref D) = some [2, 3, 5, 7]) :
    FnOk P w K mg base (L2.CX P w) 3 f fd ["p"] (spCP K CN) := by
  have GI : FnOk P w K mg base CX0 1 fI fdI ["value"] (spIsI K) := ok_isI I.fn B.isi_ B.int_ B.bool_
  have GN : FnOk P w K mg base CX0 1 fN fdN ["self", "what", "number"] (spIni CN ["what", "number"]) := okBadNumber N.fn N.T N.no
  refine F.okX scCP (fun vs H Q E h => ?_) (fun cdv A outer s H vs Q E hr h => ?_)
  · obtain ⟨x, rfl, _⟩ := h
    rfl
  · obtain ⟨x, rfl, h⟩ := h
    have hT : SqT K H D ([2, 3, 5, 7].map V.int) := by
      obtain ⟨a, us, n, sl, ea, hk, rv⟩ := tupI_some dD
      cases ea
      refine .inr ⟨_, us, n, hk, rfl, rfl, ?_, rv⟩
      have z := Paired.length rv
      have z2 : us.toList.length = us.size := Array.length_toList
      rw [← z2, ← z, sizeLine_eq]
      show 4 ≤ 16777216
      decide
    refine ⟨_, pss_one (ps_if (PW.pt (pw_or (pt_not (pt_val (pe_call GI (hr.mono (by decide)) rfl I.g I.k I.b .nil pass0 (pa_cons (pv 0) pa_nil))))
          (pw_or1 (pt_cmpR op_notIn_seq (pv 0) (pe_glob (v := .ref D) rfl gD rfl) (by rfl)))))
        (pss_one (ps_raise rfl (takes_of rfl rfl rfl rfl) (pmk_oex N.T N.iC N.tI GN hr N.b .nil pass0 rfl N.g (pa_cons pe_str (pa_cons (pv 0) pa_nil))))) pss_nil), ?_⟩
    obtain ⟨m, rfl, l, q⟩ | ⟨⟨m, rfl, l⟩ | bad, q⟩ := h
    · refine ⟨_, rfl, _, rfl, .inl ⟨m, rfl, _, rfl, iteF ⟨_, rfl, D, _, rfl, .inr hT, rfl, rfl, _, rfl, ?_⟩⟩⟩
      rw [if_pos rfl, show inV (V.int m) ([2, 3, 5, 7].map V.int) = true from l]
      exact iteF q
    · refine ⟨_, rfl, _, rfl, .inl ⟨m, rfl, _, rfl, iteF ⟨_, rfl, D, _, rfl, .inr hT, rfl, rfl, _, rfl, ?_⟩⟩⟩
      rw [if_pos rfl, show inV (V.int m) ([2, 3, 5, 7].map V.int) = false from l]
      exact iteT ⟨_, rfl, mk_ini rfl (by show 2 ≤ 900; decide) q⟩
    · exact ⟨_, rfl, _, rfl, .inr (.inl ⟨bad, _, rfl, iteT (iteT ⟨_, rfl, mk_ini rfl (by show 2 ≤ 900; decide) q⟩)⟩)⟩
theorem ok_dg (F : Fun K "digits" "digits" sDg f fd) (B : Blt mg) (I : Cl K mg "is_integer" sIsI ["value"] fI fdI) (C : Cl K mg "check_prime" sCP ["p"] fC fdC)
    (N : Er K mg "BadNumber" "BadNumber.__init__" CN fN ["what", "number"] sBadNumber fdN) (gD : mg "PRIMES" = some (.ref D)) (dD : tupI K (.ref D) = some [2, 3, 5, 7]) :
    FnOk P w K mg base (L2.CX P w) 4 f fd ["n", "p"] (spDg K CN) := by
  have GI : FnOk P w K mg base CX0 1 fI fdI ["value"] (spIsI K) := ok_isI I.fn B.isi_ B.int_ B.bool_
  have GN : FnOk P w K mg base CX0 1 fN fdN ["self", "what", "number"] (spIni CN ["what", "number"]) := okBadNumber N.fn N.T N.no
  have GC : FnOk P w K mg base (L2.CX P w) 3 fC fdC ["p"] (spCP K CN) := ok_cp C.fn B I N gD dD
  refine F.okX scDg (fun vs H Q E h => ?_) (fun cdv A outer s H vs Q E hr h => ?_)
  · obtain ⟨x, y, rfl, _⟩ := h
    rfl
  · obtain ⟨x, y, rfl, h⟩ := h
    refine ⟨_, pss_cons (ps_if (PW.pt (pw_or (pt_not (pt_val (pe_call GI (hr.mono (by decide)) rfl I.g I.k I.b .nil pass0 (pa_cons (pv 0) pa_nil))))
          (pw_or1 (pt_cmpR op_lt (pv 0) pe_int (nomark _)))))
        (pss_one (ps_raise rfl (takes_of rfl rfl rfl rfl) (pmk_oex N.T N.iC N.tI GN (hr.mono (by decide)) N.b .nil pass0 rfl N.g (pa_cons pe_str (pa_cons (pv 0) pa_nil))))) pss_nil)
      (pss_cons (ps_expr (pe_call GC hr rfl C.g C.k C.b .nil (passes_call (takes_of rfl rfl rfl rfl) (fun _ _ _ _ h => h)) (pa_cons (pv 1) pa_nil)))
      (pss_cons (ps_set (i := 2) scDg.nd rfl (Or.inl rfl) (pe_lst pa_nil))
      (pss_cons (ps_while (passes_of rfl) (pt_cmpR op_gt (pv 0) pe_int (nomark _))
        (pss_cons (ps_asg (pe_callB call_divmod (by rfl) B.divmod_ (by decide +kernel) (pa_cons (pv 0) (pa_cons (pv 1) pa_nil)))
            (pg_tup (by rfl) (pgs_cons (pg_name (i := 0) scDg.nd rfl (Or.inl rfl)) (pgs_cons (pg_name (i := 3) scDg.nd rfl (Or.inl rfl)) pgs_nil))))
          (pss_one (ps_expr (pe_bm PySem.F.plainAttrs_list PySem.F.slot_list_append PySem.F.type_list_append mt_append (pv 2) (pa_cons (pv 3) pa_nil))))))
      (pss_one (ps_ret (pe_callTy call_tuple_of (by rfl) B.tup_ (by decide +kernel) (pa_cons (pv 2) pa_nil))))))), ?_⟩
    obtain ⟨n, p, rfl, rfl, pr, big, q⟩ | ⟨⟨i, rfl, neg⟩ | bad, q⟩ | ⟨n, rfl, n0, bad, q⟩ := h
    · obtain ⟨p2, p7⟩ := isPr_small pr
      refine ⟨_, rfl, _, rfl, .inl ⟨_, rfl, _, rfl, iteF ⟨_, rfl, _, _, rfl, rfl, _, rfl, ?_⟩⟩⟩
      rw [show decide ((n : Int) < 0) = false from decide_eq_false (by omega)]
      refine iteF ⟨_, rfl, _, rfl, .inl ⟨_, rfl, pr, ?_⟩⟩
      refine ⟨(by show 0 ≤ sizeLine; exact Nat.zero_le _), fun l hl => ?_⟩
      refine while_by (fun σ H2 => ∃ (m : Nat) (acc : List Int) (z : Option V), σ = [some (.int m), some (.int p), some (.ref l), z] ∧ H2 l = some (.lst (acc.map V.int)) ∧
          More H H2 ∧ acc ++ dgs p m = dgs p n) (fun σ _ => match σ with | some (.int m) :: _ => m.toNat | _ => 0)
        ⟨n, [], none, rfl, upd_same, More.new (fun _ _ e => e) hl, rfl⟩ ?_ ?_
      · rintro σ H2 ⟨m, acc, z, rfl, hl2, mo, eq⟩
        refine ⟨_, rfl, _, _, rfl, rfl, _, rfl, ite2 (fun hm => ?_) (fun hm => ?_)⟩
        · have hm : (0 : Int) < m := of_decide_eq_true hm
          have m0 : 0 < m := by omega
          refine ⟨_, rfl, _, rfl, _, _, rfl, ⟨by omega, by omega⟩, fun t ht => ?_⟩
          have lt : l ≠ t := ne_of_none hl2 ht
          have hl3 : (upd H2 t (.tup [.int ((m : Int) / p), .int ((m : Int) % p)])) l = some (.lst (acc.map V.int)) := by rw [upd_ne lt]; exact hl2
          refine ⟨t, _, rfl, SqT.of upd_same, rfl, _, _, rfl, _, _, rfl, rfl, ?_⟩
          have short : acc.length < sizeLine := by
            have e := congrArg List.length eq
            rw [List.length_append] at e
            have := dgs_len (show 2 ≤ p by omega) 400 n big
            exact small1000 (by omega)
          refine ⟨_, rfl, .inl ⟨rfl, _, SqL.of hl3⟩, _, rfl, l, _, _, rfl, rfl, hl3, by rw [List.length_map]; exact short, ?_⟩
          refine ⟨⟨m / p, acc ++ [((m % p : Nat) : Int)], _, rfl, ?_, ?_, ?_⟩, ?_⟩
          · rw [upd_same, List.map_append]
            rfl
          · refine More.at (More.new mo ht) (More.off ?_ hl)
            exact fun b o e => e
          · rw [List.append_assoc, List.singleton_append, ← dgs_pos m0 (by omega)]
            exact eq
          · show ((m / p : Nat) : Int).toNat < (m : Int).toNat
            have := Nat.div_lt_self m0 (show 1 < p by omega)
            omega
        · have hm : ¬ ((0 : Int) < m) := fun z => hm (decide_eq_true z)
          have m0 : m = 0 := by omega
          rw [m0, dgs_zero, List.append_nil] at eq
          rw [eq] at hl2
          refine ⟨_, rfl, l, _, rfl, .inl ⟨SqL.of hl2, fun t ht => ?_⟩⟩
          exact q _ t (More.new mo ht) (More.off mo ht) upd_same
      · rintro σ H2 Q1 Q2 f ⟨v, e, x, y, e1, e2, c, e3, q2⟩
        exact ⟨v, e, x, y, e1, e2, c, e3, f _ _ q2⟩
    · refine ⟨_, rfl, _, rfl, .inl ⟨i, rfl, _, rfl, iteF ⟨_, rfl, _, _, rfl, rfl, _, rfl, ?_⟩⟩⟩
      rw [show decide (i < 0) = true from decide_eq_true neg]
      exact iteT ⟨_, rfl, mk_ini rfl (by show 2 ≤ 900; decide) q⟩
    · exact ⟨_, rfl, _, rfl, .inr (.inl ⟨bad, _, rfl, iteT (iteT ⟨_, rfl, mk_ini rfl (by show 2 ≤ 900; decide) q⟩)⟩)⟩
    · refine ⟨_, rfl, _, rfl, .inl ⟨n, rfl, _, rfl, iteF ⟨_, rfl, _, _, rfl, rfl, _, rfl, ?_⟩⟩⟩
      rw [show decide (n < 0) = false from decide_eq_false (by omega)]
      exact iteF ⟨_, rfl, _, rfl, .inr ⟨bad, q⟩⟩
end
end K72

namespace ZipG
open PySem L2 PySem.Spec PyProof.Rows
/-! zip of any two of: a list, a tuple, a text -/
inductive Src where
  | l (a : Addr)
  | t (a : Addr)
  | s (z : Str)
def Src.v : Src → V
  | .l a => .ref a
  | .t a => .ref a
  | .s z => .str z
/-- its items as they stand -/
def Src.has (K : PySem.W.Frag) : Src → List V → Hp → Prop
  | .l a, xs, H => SqL K H a xs
  | .t a, xs, H => SqT K H a xs
  | .s z, xs, _ => xs = z.cps.toList.map fun c => V.str ⟨#[c]⟩
def Src.it : Src → Addr → Nat → Heap → Prop
  | .l a, it, i, h => h.IsListIter it a i
  | .t a, it, i, h => h.IsTupleIter it a i
  | .s z, it, i, h => ∃ t, h.IsStrIter it (strIterType z) z t i
def Src.low (n : Nat) : Src → Prop
  | .l a => a < n
  | .t a => a < n
  | .s _ => True
def ItG (K : PySem.W.Frag) (S1 S2 : Src) : It :=
  ⟨fun i H => ∃ xs ys, S1.has K xs H ∧ S2.has K ys H ∧ i < xs.length ∧ i < ys.length,
    fun i H v H' => ∃ T x y, v = .ref T ∧ H T = none ∧ H' = upd H T (.tup [x, y]) ∧ (∀ xs, S1.has K xs H → xs[i]? = some x) ∧ ∀ ys, S2.has K ys H → ys[i]? = some y,
    fun i H => ∃ xs ys : List V, S1.has K xs H ∧ S2.has K ys H ∧ i ≤ xs.length ∧ i ≤ ys.length ∧ (i = xs.length ∨ i = ys.length)⟩
theorem vals_back : ∀ {xs : List V} {us : List Value} {i : Nat} {u : Value}, Vals xs us → us[i]? = some u → ∃ x, xs[i]? = some x ∧ RelV x u
  | _, _, _, _, .nil, e => by simp at e
  | _, _, 0, _, .cons r _, e => by simp at e; subst e; exact ⟨_, rfl, r⟩
  | _, _, i + 1, u, .cons _ t, e => by
    rw [List.getElem?_cons_succ] at e
    obtain ⟨x, h1, h2⟩ := vals_back t e
    exact ⟨x, by rw [List.getElem?_cons_succ]; exact h1, h2⟩
section
variable {X : Cx} {pins : List (Addr × Obj)} {σ : L2.St} {H : Hp} {s : Shared} {A : Around}
theorem src_draw (hh : A.handled = none) (S : Src) (I : Inv X pins σ H s) {it i n : Nat} {xs : List V} (st : S.it it i s.heap) (low : S.low n) (hit : n ≤ it) (h : S.has X.K xs H) :
    ∃ (fp : List Addr) (P : Nat → Value → Prop) (St : Nat → Heap → Prop), Draws X.prog X.w A it fp xs.length P St ∧ St i s.heap ∧ (∀ j h', St j h' → S.it it j h') ∧ it ∈ fp ∧ (∀ b ∈ fp, b = it ∨ b < n) ∧ ∀ j u, P j u → ∃ x, xs[j]? = some x ∧ RelV x u := by
  cases S with
  | l a =>
    obtain ⟨its, rv, p, _⟩ := I.list h
    have hl := rv.length
    have e : its.toArray.size = xs.length := by rw [List.size_toArray, hl]
    have low : a < n := low
    refine ⟨_, _, _, e ▸ Draws.list hh it a (Nat.ne_of_lt (Nat.lt_of_lt_of_le low hit)) its.toArray, ⟨st, p.isList⟩, fun j h' z => z.1, by simp, fun b hb => ?_, fun j u hu => ?_⟩
    · have hb : b = it ∨ b = a := by simpa using hb
      rcases hb with rfl | rfl
      · exact .inl rfl
      · exact .inr low
    · have hu : its[j]? = some u := by simpa using hu
      exact vals_back rv hu
  | t a =>
    obtain ⟨its, rv, p, _⟩ := I.tuple h
    have hl := rv.length
    have e : its.toArray.size = xs.length := by rw [List.size_toArray, hl]
    have low : a < n := low
    refine ⟨_, _, _, e ▸ Draws.tuple hh it a (Nat.ne_of_lt (Nat.lt_of_lt_of_le low hit)) its.toArray, ⟨st, p⟩, fun j h' z => z.1, by simp, fun b hb => ?_, fun j u hu => ?_⟩
    · have hb : b = it ∨ b = a := by simpa using hb
      rcases hb with rfl | rfl
      · exact .inl rfl
      · exact .inr low
    · have hu : its[j]? = some u := by simpa using hu
      exact vals_back rv hu
  | s z =>
    obtain ⟨t, st⟩ := st
    have h : xs = z.cps.toList.map fun c => V.str ⟨#[c]⟩ := h
    subst h
    have e : z.cps.size = (z.cps.toList.map fun c => V.str ⟨#[c]⟩).length := by simp
    refine ⟨_, _, _, e ▸ Draws.text hh it z t, st, fun j h' z => ⟨t, z⟩, by simp, fun b hb => .inl (by simpa using hb), fun j u hu => ?_⟩
    obtain ⟨c, u', hc, rfl⟩ := hu
    refine ⟨.str ⟨#[c]⟩, ?_, u', rfl⟩
    rw [List.getElem?_map, Array.getElem?_toList, hc]
    rfl
theorem src_it {S : Src} {it i : Nat} {h h' : Heap} (st : S.it it i h) (k : ∀ o, h.get? it = some o → h'.get? it = some o) : S.it it i h' := by
  cases S with
  | l a => exact Heap.IsListIter.at st k
  | t a => exact Heap.IsTupleIter.at st k
  | s z =>
    obtain ⟨t, o, e, r⟩ := st
    exact ⟨t, o, k _ e, r⟩
theorem src_obj {S : Src} {it i : Nat} {h : Heap} (st : S.it it i h) : ∃ o, h.get? it = some o ∧ ∀ v, o.data ≠ .cell v := by
  cases S with
  | l a => obtain ⟨o, e, _, d⟩ := st; exact ⟨o, e, fun v q => by rw [d] at q; cases q⟩
  | t a => obtain ⟨o, e, _, d⟩ := st; exact ⟨o, e, fun v q => by rw [d] at q; cases q⟩
  | s z => obtain ⟨t, o, e, _, d⟩ := st; exact ⟨o, e, fun v q => by rw [d] at q; cases q⟩
theorem has_inj {S : Src} (I : Inv X pins σ H s) {xs ys : List V} (h1 : S.has X.K xs H) (h2 : S.has X.K ys H) : xs = ys := by
  cases S with
  | l a => exact I.list_inj h1 h2
  | t a => exact I.tuple_inj h1 h2
  | s z => exact h1.trans h2.symm
theorem nn {a b : Nat} (h : a ≠ b) : @Ne Addr a b := h
theorem ee {a b : Addr} (h : a = b) : @Eq Nat a b := h
abbrev fpG (n : Nat) : List Addr := [n + 4, n + 2, n + 3, n, n + 1]
theorem turn_zipG {P : Program} {w : World} {K : PySem.W.Frag} {elts : List Expr} {kk : Nat} {tpos : Pos} {n : Nat} {S1 S2 : Src} (l1 : S1.low n) (l2 : S2.low n) :
    Turn P w K (.Tuple elts kk tpos) (ItG K S1 S2) (fpG n) (n + 4) (fun i h => IsZip h (n + 4) (n + 2) (n + 3) .none ∧ IsTupOf2 h (n + 2) (.ref n) (.ref (n + 1)) ∧ (∃ x y, IsTupOf2 h (n + 3) x y) ∧ S1.it n i h ∧ S2.it (n + 1) i h) where
  mem := by simp
  obj := fun i h st c hc => by
    obtain ⟨hz, hTI, ⟨x, y, hTO⟩, h1, h2⟩ := st
    have e' : c = n + 4 ∨ c = n + 2 ∨ c = n + 3 ∨ c = n ∨ c = n + 1 := by simpa using hc
    rcases e' with q | q | q | q | q
    · rw [q]; exact ⟨_, hz, fun v q => nomatch q⟩
    · rw [q]; exact ⟨_, hTI, fun v q => nomatch q⟩
    · rw [q]; exact ⟨_, hTO, fun v q => nomatch q⟩
    · rw [q]; exact src_obj h1
    · rw [q]; exact src_obj h2
  keep := fun i h h' st k => by
    obtain ⟨hz, hTI, ⟨x, y, hTO⟩, h1, h2⟩ := st
    exact ⟨k _ (by simp) _ hz, k _ (by simp) _ hTI, ⟨x, y, k _ (by simp) _ hTO⟩, src_it h1 fun o q => k n (by simp) o q, src_it h2 fun o q => k (n + 1) (by simp) o q⟩
  item := by
    intro X hP hw hK hc i pins s σ H E I hf st hg
    subst hP hw hK
    obtain ⟨hz, hTI, ⟨x0, y0, hTO⟩, h1, h2⟩ := st
    obtain ⟨xs, ys, hx, hy, lx, ly⟩ := hg
    have hh : X.A.in1.handled = none := I.ok.hd hc
    obtain ⟨fp1, P1, St1, D1, s1, back1, m1, f1, r1⟩ := src_draw hh S1 I h1 l1 (Nat.le_refl _) hx
    obtain ⟨fp2, P2, St2, D2, s2, back2, m2, f2, r2⟩ := src_draw hh S2 I h2 l2 (Nat.le_succ _) hy
    have no1 : ∀ c : Nat, n < c → c ∉ fp1 := fun c hc hm => by
      rcases f1 c hm with e | e
      · have := ee e
        omega
      · have e : (c : Nat) < n := e
        omega
    have no2 : ∀ c : Nat, n ≤ c → c ≠ n + 1 → c ∉ fp2 := fun c hc hn hm => by
      rcases f2 c hm with e | e
      · exact hn e
      · have e : (c : Nat) < n := e
        omega
    have S : ZipSep2 (n + 4) (n + 2) (n + 3) n (n + 1) fp1 fp2 := ⟨nn (by omega), nn (by omega), nn (by omega), nn (by omega), m1, no1 (n + 4) (by omega), no1 (n + 3) (by omega), nn (by omega), m2, no2 (n + 4) (by omega) (by omega), no2 (n + 3) (by omega) (by omega), no2 n (by omega) (by omega), no1 (n + 1) (by omega)⟩
    have hzl : n + 4 < s.heap.objs.size := Heap.lt_size hz
    refine wpAny_pyNext_zipD2_item S D1 D2 hz hTI hTO s1 s2 lx ly fun u u2 h' tk p1 p2 z' TO' h1' h2' hT hsz hk => ?_
    obtain ⟨x, ex, ru⟩ := r1 _ _ p1
    obtain ⟨y, ey, ru2⟩ := r2 _ _ p2
    refine ⟨_, rfl, wpAny_letOwnedTupleGo_zip (s := { s with heap := h', toks := tk }) z' fun h'' z'' sb => ?_⟩
    have hT2 : h''.get? s.heap.objs.size = some { cls := .type "tuple", data := .seq #[u, u2] } := (sb.2 _ (Nat.ne_of_gt hzl)).trans hT
    have new : ObjOk X.prog X.w (upd H s.heap.objs.size (.tup [x, y])) h'' s.heap.objs.size (.tup [x, y]) :=
      ⟨by show 2 ≤ sizeLine; decide, [u, u2], .cons ru (.cons ru2 .nil), ⟨_, hT2, rfl, _, rfl⟩⟩
    have I1 : Inv X pins σ (upd H s.heap.objs.size (.tup [x, y])) { s with heap := h'', toks := tk } :=
      I.turnedNew (t' := tk) (ch := fpG n) (fun c o hb q => (sb.2 c (fun q' => hb (by simp [q']))).trans (hk c o (fun q' => hb (by simp [q'])) (fun q' => hb (by simp [q'])) (fun q' => hb (by simp [q'])) (fun q' => hb (by simp [q'])) q)) hf (Nat.le_refl _) new
    refine ⟨.ref s.heap.objs.size, _, I1, rfl, ⟨_, x, y, rfl, I.hok.fresh (Nat.le_refl _), rfl, fun l hl => by rw [has_inj I hl hx]; exact ex, fun l hl => by rw [has_inj I hl hy]; exact ey⟩, ⟨z'', ?_, ⟨u, u2, ?_⟩, ?_, ?_⟩, fun c hcm => ?_⟩
    · exact (sb.2 _ (nn (by omega))).trans (hk _ _ (nn (by omega)) (nn (by omega)) (nn (by omega)) (nn (by omega)) hTI)
    · exact (sb.2 _ (nn (by omega))).trans TO'
    · exact src_it (back1 _ _ h1') fun o q => (sb.2 _ (nn (by omega))).trans q
    · exact src_it (back2 _ _ h2') fun o q => (sb.2 _ (nn (by omega))).trans q
    · have hlt : c < s.heap.objs.size := by
        have e' : @Eq Nat c (n + 4) ∨ @Eq Nat c (n + 2) ∨ @Eq Nat c (n + 3) ∨ @Eq Nat c n ∨ @Eq Nat c (n + 1) := by simpa using hcm
        have go : ∀ k : Nat, k ≤ 4 → @Eq Nat c (n + k) → c < s.heap.objs.size := fun k hk e => Nat.lt_of_le_of_lt (Nat.le_trans (Nat.le_of_eq e) (Nat.add_le_add_left hk n)) hzl
        rcases e' with e | e | e | e | e
        · exact go 4 (by decide) e
        · exact go 2 (by decide) e
        · exact go 3 (by decide) e
        · exact go 0 (by decide) e
        · exact go 1 (by decide) e
      rw [upd_ne (Nat.ne_of_lt hlt)]
      exact (hf c hcm).1
  done := by
    intro X hP hw hK hc i pins s σ H E I hf st hg
    subst hP hw hK
    obtain ⟨hz, hTI, ⟨x0, y0, hTO⟩, h1, h2⟩ := st
    obtain ⟨xs, ys, hx, hy, lx, ly, he⟩ := hg
    have hh : X.A.in1.handled = none := I.ok.hd hc
    obtain ⟨fp1, P1, St1, D1, s1, back1, m1, f1, r1⟩ := src_draw hh S1 I h1 l1 (Nat.le_refl _) hx
    obtain ⟨fp2, P2, St2, D2, s2, back2, m2, f2, r2⟩ := src_draw hh S2 I h2 l2 (Nat.le_succ _) hy
    have no1 : ∀ c : Nat, n < c → c ∉ fp1 := fun c hc hm => by
      rcases f1 c hm with e | e
      · have := ee e
        omega
      · have e : (c : Nat) < n := e
        omega
    have no2 : ∀ c : Nat, n ≤ c → c ≠ n + 1 → c ∉ fp2 := fun c hc hn hm => by
      rcases f2 c hm with e | e
      · exact hn e
      · have e : (c : Nat) < n := e
        omega
    have S : ZipSep2 (n + 4) (n + 2) (n + 3) n (n + 1) fp1 fp2 := ⟨nn (by omega), nn (by omega), nn (by omega), nn (by omega), m1, no1 (n + 4) (by omega), no1 (n + 3) (by omega), nn (by omega), m2, no2 (n + 4) (by omega) (by omega), no2 (n + 3) (by omega) (by omega), no2 n (by omega) (by omega), no1 (n + 1) (by omega)⟩
    exact wpAny_pyNext_zipD2_end S D1 D2 hz hTI hTO s1 s2 lx ly he fun h' tk hk => ⟨rfl, I.turnedL (t' := tk) (ch := fpG n) (fun c o hb q =>
      hk c o (fun q' => hb (by simp [q'])) (fun q' => hb (by simp [q'])) (fun q' => hb (by simp [q'])) (fun q' => hb (by simp [q'])) q) hf⟩
  self := fun A i s Q E st h => wpAny_pyIter_zip st.1 h
def iZipG (K : PySem.W.Frag) (ta : TA) : TI := fun σ H R => ta σ H fun vs H1 => ∃ (S1 S2 : Src) (xs ys : List V), vs = [S1.v, S2.v] ∧ S1.has K xs H1 ∧ S2.has K ys H1 ∧ R (ItG K S1 S2) H1
theorem src_begin (S : Src) (I : Inv X pins σ H s) {xs : List V} {u : Value} (h : S.has X.K xs H) (r : RelV S.v u) :
    ∃ (o : Obj) (Hp0 : Heap → Prop), Begins u o Hp0 ∧ Hp0 s.heap ∧ S.low s.heap.objs.size ∧ ∀ (h' : Heap) (it : Addr), h'.get? it = some o → S.it it 0 h' := by
  cases S with
  | l a =>
    obtain ⟨its, rv, p, _⟩ := I.list h
    cases r
    exact ⟨_, _, begins_list a its.toArray, p.isList, p.lt, fun h' it e => ⟨_, e, rfl, rfl⟩⟩
  | t a =>
    obtain ⟨its, rv, p, _⟩ := I.tuple h
    cases r
    exact ⟨_, _, begins_tuple a its.toArray, p, p.lt, fun h' it e => ⟨_, e, rfl, rfl⟩⟩
  | s z =>
    obtain ⟨t, rfl⟩ := r
    exact ⟨_, _, begins_text z t, trivial, trivial, fun h' it e => ⟨t, _, e, rfl, rfl⟩⟩
theorem pi_zipG {X : Cx} {e e2 : Expr} {ta : TA} {p pos tpos : Pos} {elts : List Expr} {kk : Nat} (hg : Gl X "zip") (hm : X.mg "zip" = none) (ha : PA X [e, e2] ta)
    (hs : starEach [e, e2] X.env = (false, eval e X.env) :: starEach [e2] X.env := by rfl) (hpl : (backTo pos (starEach [e2] X.env)).any (·.1) = false := by rfl) :
    PI X (.Tuple elts kk tpos) (.Call (.Name "zip" p) [e, e2] [] pos) (iZipG X.K ta) := by
  refine ⟨fun pins s σ H R I h => ?_⟩
  refine Call_ (ld_blt I hg hm PyProof.Rows.boot_zip (PyProof.Rows.callWith_type1 (thn (ha.run pos pins s σ H _ I h) fun us s1 ⟨vs, H1, I1, r1, q1⟩ => ?_) hs hpl))
  obtain ⟨S1, S2, xs, ys, ex, hx, hy, q⟩ := q1
  subst ex
  cases r1 with
  | cons r rr =>
    cases rr with
    | cons r' rr =>
      cases rr
      obtain ⟨o1, G1, B1, g1, low1, b1⟩ := src_begin S1 I1 hx r
      obtain ⟨o2, G2, B2, g2, low2, b2⟩ := src_begin S2 I1 hy r'
      have fresh5 : ∀ c, c ∈ fpG s1.heap.objs.size → FpOk X pins H1 c := fun c hcm => by
        have e' : @Eq Nat c (s1.heap.objs.size + 4) ∨ @Eq Nat c (s1.heap.objs.size + 2) ∨ @Eq Nat c (s1.heap.objs.size + 3) ∨ @Eq Nat c s1.heap.objs.size ∨ @Eq Nat c (s1.heap.objs.size + 1) := by simpa using hcm
        have go : ∀ k : Nat, @Eq Nat c (s1.heap.objs.size + k) → s1.heap.objs.size ≤ c := fun k e => Nat.le_trans (Nat.le_add_right _ k) (Nat.le_of_eq e.symm)
        have hle : s1.heap.objs.size ≤ c := by
          rcases e' with e | e | e | e | e
          · exact go 4 e
          · exact go 2 e
          · exact go 3 e
          · exact go 0 e
          · exact go 1 e
        exact I1.fpOk hle (I1.hok.fresh hle)
      refine zip_begins2 B1 B2 g1 g2 fun h' hz hTI hTO h1 h2 hsz hk => wpAny_pyIter_zip hz ?_
      have I2 : Inv X pins σ H1 { s1 with heap := h' } := I1.kept (t' := s1.toks) hk
      exact ⟨s1.heap.objs.size + 4, fpG s1.heap.objs.size, _, _, H1, rfl, I2, turn_zipG low1 low2, ⟨hz, hTI, ⟨_, _, hTO⟩, b1 _ _ h1, b2 _ _ h2⟩, fresh5, q⟩
theorem walk_zipG {K : PySem.W.Frag} {S1 S2 : Src} {xs ys : List V} {n : Nat} (hn : n = min xs.length ys.length) : Walk (ItG K S1 S2) n (fun H => S1.has K xs H ∧ S2.has K ys H) (YPair (fun i => xs[i]?) (fun i => ys[i]?)) where
  goes := fun i H hi h => ⟨xs, ys, h.1, h.2, by omega, by omega⟩
  stops := fun H h => ⟨xs, ys, h.1, h.2, by omega, by omega, by omega⟩
  yields := fun i H v H' hi h ⟨T, x, y, e1, e2, e3, e4, e5⟩ => ⟨T, x, y, e1, e2, e3, e4 xs h.1, e5 ys h.2⟩
end
end ZipG

/-! Sqs: lists and tuples alike as what is walked; comprehensions whose items leave what stands. -/
namespace B5
open PySem PySem.Spec PyProof.Rows L2 Gd
/-- what stands at a stands there still -/
def Kept (a : Addr) (H H' : Hp) : Prop := ∀ o, H a = some o → H' a = some o
theorem Kept.sqL {K : PySem.W.Frag} {H H' : Hp} {a : Addr} {xs : List V} (e : Kept a H H') : SqL K H a xs → SqL K H' a xs
  | .inl (.inl h) => .inl (.inl (e _ h))
  | .inl (.inr ⟨o, h⟩) => .inl (.inr ⟨o, e _ h⟩)
  | .inr h => .inr h
theorem Kept.sqT {K : PySem.W.Frag} {H H' : Hp} {a : Addr} {xs : List V} (e : Kept a H H') : SqT K H a xs → SqT K H' a xs
  | .inl (.inl h) => .inl (.inl (e _ h))
  | .inl (.inr ⟨o, h⟩) => .inl (.inr ⟨o, e _ h⟩)
  | .inr h => .inr h
theorem Kept.sq {K : PySem.W.Frag} {H H' : Hp} {a : Addr} {xs : List V} (e : Kept a H H') : Sq K H a xs → Sq K H' a xs
  | .inl h => .inl (e.sqL h)
  | .inr h => .inr (e.sqT h)
theorem Kept.of {a : Addr} {H H' : Hp} (m : More H H') : Kept a H H' := fun o h => m a o h
/-- a list or a tuple is walked -/
def iSq (K : PySem.W.Frag) (te : TE) : TI := fun σ H R => te σ H fun v H1 => ∃ a xs, v = .ref a ∧ Sq K H1 a xs ∧
  ∀ (J : It) (Z : Hp → Prop), Walk J xs.length Z (YAt xs) → (∀ H', Kept a H1 H' → Z H') → R J H1
theorem pi_sq {X : Cx} {K : PySem.W.Frag} {tg e : Expr} {te : TE} (hK : X.K = K) (h : PE X e te) : PI X tg e (iSq K te) := by
  subst hK
  refine ⟨fun pins s σ H R I q => ?_⟩
  refine thn (h.run pins s σ H _ I q) fun v s1 ⟨x, H1, I1, r1, q1⟩ => ?_
  obtain ⟨a, xs, e, hq, q⟩ := q1
  subst e
  cases r1
  rcases hq with hq | hq
  · obtain ⟨its, rv, p, hz⟩ := I1.list hq
    refine wpAny_pyIter_list p.isList ?_
    refine ⟨s1.heap.objs.size, [s1.heap.objs.size], _, _, H1, rfl, I1.kept (t' := s1.toks) fun b o e => Heap.get?_push_of_some _ e, turn_list a _, ⟨_, Heap.get?_push_size _ rfl, rfl, rfl⟩, fun b hb => ?_, q _ _ walk_list fun H' k => k.sqL hq⟩
    have e : b = s1.heap.objs.size := by simpa using hb
    subst e
    exact I1.fpOk (Nat.le_refl _) (I1.hok.fresh (Nat.le_refl _))
  · obtain ⟨its, rv, p, hz⟩ := I1.tuple hq
    refine wpAny_pyIter_tuple (show s1.heap.IsTuple a its.toArray from p) ?_
    refine ⟨s1.heap.objs.size, [s1.heap.objs.size], _, _, H1, rfl, I1.kept (t' := s1.toks) fun b o e => Heap.get?_push_of_some _ e, turn_tuple a _, ⟨_, Heap.get?_push_size _ rfl, rfl, rfl⟩, fun b hb => ?_, q _ _ walk_tup fun H' k => k.sqT hq⟩
    have e : b = s1.heap.objs.size := by simpa using hb
    subst e
    exact I1.fpOk (Nat.le_refl _) (I1.hok.fresh (Nat.le_refl _))
/-- a comprehension without tests over it: each item's value is known, what stands ahead stays -/
theorem lc_pure {J : It} {Z : Hp → Prop} {xs rs : List V} (w : Walk J xs.length Z (YAt xs)) {g : TG} {te : TE} {vs : List Nat} {σ : L2.St} {H1 : Hp} {D : Addr} {Qd : Hp → Prop}
    (hD : H1 D = none) (hZ : ∀ H', More H1 H' → Z H') (hl : rs.length = xs.length) (few : xs.length ≤ 16777215)
    (el : ∀ (i : Nat) (y v : V) (H2 : Hp) (Q : VK), xs[i]? = some y → rs[i]? = some v → More H1 H2 → (∀ H3, More H2 H3 → Q v H3) → g y (wipe σ vs) H2 fun σ2 H3 => wipe σ2 vs = wipe σ vs ∧ te σ2 H3 Q)
    (mo : ∀ y σ' H2 (A B : L2.St → Hp → Prop), (∀ σ2 H3, A σ2 H3 → B σ2 H3) → g y σ' H2 A → g y σ' H2 B)
    (hd : ∀ H', H' D = some (.lst rs) → More H1 H' → Qd H') :
    ∃ W : Nat → Nat → Hp → Prop, (∃ m, W 0 m (upd H1 D (.lst []))) ∧ ∀ i m H, W i m H →
    (J.stop i H ∧ Qd H) ∨ (J.go i H ∧ ∃ Nx : Hp → Prop, (∀ H', Nx H' → ∃ m', m' < m ∧ W (i + 1) m' H') ∧ ∀ x H', J.yld i H x H' → g x (wipe σ vs) H' fun σ2 H2 => wipe σ2 vs = wipe σ vs ∧ tYes σ2 H2 fun b H3 =>
      if b = true then te σ2 H3 fun y H4 => ∃ acc, H4 D = some (.lst acc) ∧ acc.length < sizeLine ∧ Nx (upd H4 D (.lst (acc ++ [y]))) else Nx H3) := by
  refine lc_it (H1 := H1) (D := D) (Qd := Qd) w (fun i H' => H' D = some (.lst (rs.take i)) ∧ More H1 H') ⟨upd_same, More.new (fun _ _ e => e) hD⟩ (fun i H' _ h => hZ H' h.2) ?_ ?_
  · rintro i y H2 H3 hi ⟨h2, m2⟩ ⟨rfl, hy⟩
    have hv : rs[i]? = some rs[i] := List.getElem?_eq_getElem (by omega)
    refine mo _ _ _ _ _ (fun σ2 H4 q => q) (el i y rs[i] H3 (fun y H4 => ∃ acc, H4 D = some (.lst acc) ∧ acc.length < sizeLine ∧ (upd H4 D (.lst (acc ++ [y]))) D = some (.lst (rs.take (i + 1))) ∧ More H1 (upd H4 D (.lst (acc ++ [y])))) hy hv m2 fun H4 m4 => ⟨_, m4 _ _ h2, ?_, ?_, ?_⟩)
    · rw [List.length_take, sizeLine_eq]
      omega
    · rw [upd_same, take_snoc hv]
    · exact More.at (fun b o e => m4 b o (m2 b o e)) hD
  · rintro H' ⟨e, m⟩
    rw [← hl, List.take_length] at e
    exact hd H' e m
/-- the same for one name as the target -/
theorem lc_name {J : It} {Z : Hp → Prop} {xs rs : List V} (w : Walk J xs.length Z (YAt xs)) {n : Nat} {te : TE} {vs : List Nat} {σ : L2.St} {H1 : Hp} {D : Addr} {Qd : Hp → Prop}
    (hD : H1 D = none) (hZ : ∀ H', More H1 H' → Z H') (hl : rs.length = xs.length) (few : xs.length ≤ 16777215)
    (hw : ∀ y, wipe ((wipe σ vs).set n (some y)) vs = wipe σ vs)
    (el : ∀ (i : Nat) (y v : V) (H2 : Hp) (Q : VK), xs[i]? = some y → rs[i]? = some v → More H1 H2 → (∀ H3, More H2 H3 → Q v H3) → te ((wipe σ vs).set n (some y)) H2 Q)
    (hd : ∀ H', H' D = some (.lst rs) → More H1 H' → Qd H') :
    ∃ W : Nat → Nat → Hp → Prop, (∃ m, W 0 m (upd H1 D (.lst []))) ∧ ∀ i m H, W i m H →
    (J.stop i H ∧ Qd H) ∨ (J.go i H ∧ ∃ Nx : Hp → Prop, (∀ H', Nx H' → ∃ m', m' < m ∧ W (i + 1) m' H') ∧ ∀ x H', J.yld i H x H' → gName n x (wipe σ vs) H' fun σ2 H2 => wipe σ2 vs = wipe σ vs ∧ tYes σ2 H2 fun b H3 =>
      if b = true then te σ2 H3 fun y H4 => ∃ acc, H4 D = some (.lst acc) ∧ acc.length < sizeLine ∧ Nx (upd H4 D (.lst (acc ++ [y]))) else Nx H3) :=
  lc_pure w hD hZ hl few (fun i y v H2 Q h1 h2 m h3 => ⟨hw y, el i y v H2 Q h1 h2 m h3⟩) (fun _ _ _ _ _ h q => h _ _ q) hd
end B5

/-! Dat: rows of ints and tuples of such as data; pairs of lists; comprehensions that make objects. -/
namespace B5
open PySem L2 Gd
theorem paired_at {α β : Type} {R : α → β → Prop} : ∀ {xs : List α} {l : List β}, Paired R xs l → ∀ {i : Nat} {y : α}, xs[i]? = some y → ∃ e, l[i]? = some e ∧ R y e
  | _, _, .nil, i, y, h => by rw [List.getElem?_nil] at h; cases h
  | _, _, .cons h t, 0, y, e => by cases e; exact ⟨_, rfl, h⟩
  | _, _, .cons h t, i + 1, y, e => by
    rw [List.getElem?_cons_succ] at e
    obtain ⟨z, h1, h2⟩ := paired_at t e
    exact ⟨z, by rw [List.getElem?_cons_succ]; exact h1, h2⟩
theorem paired_back {α β : Type} {R : α → β → Prop} : ∀ {xs : List α} {l : List β}, Paired R xs l → ∀ e ∈ l, ∃ y ∈ xs, R y e
  | _, _, .nil, e, h => nomatch h
  | _, _, .cons h t, e, he => by
    rcases List.mem_cons.mp he with rfl | he
    · exact ⟨_, .head _, h⟩
    · obtain ⟨y, hy, r⟩ := paired_back t e he
      exact ⟨y, .tail _ hy, r⟩
theorem paired_imp {α β : Type} {R S : α → β → Prop} (h : ∀ x y, R x y → S x y) : ∀ {xs : List α} {l : List β}, Paired R xs l → Paired S xs l
  | _, _, .nil => .nil
  | _, _, .cons a t => .cons (h _ _ a) (paired_imp h t)
theorem paired_snoc {α β : Type} {R : α → β → Prop} {x : α} {y : β} (h : R x y) : ∀ {xs : List α} {l : List β}, Paired R xs l → Paired R (xs ++ [x]) (l ++ [y])
  | _, _, .nil => .cons h .nil
  | _, _, .cons a t => .cons a (paired_snoc h t)
/-- by places -/
theorem paired_of {α β : Type} {R : α → β → Prop} : ∀ {xs : List α} {l : List β}, xs.length = l.length → (∀ (i : Nat) x y, xs[i]? = some x → l[i]? = some y → R x y) → Paired R xs l
  | [], [], _, _ => .nil
  | [], _ :: _, h, _ => by cases h
  | _ :: _, [], h, _ => by cases h
  | x :: xs, y :: l, h, e => .cons (e 0 x y rfl rfl) (paired_of (Nat.succ.inj h) fun i a b ha hb => e (i + 1) a b ha hb)
theorem map_at {α β : Type} {f : α → β} {l : List α} {i : Nat} {v : β} (h : (l.map f)[i]? = some v) : ∃ d, l[i]? = some d ∧ v = f d := by
  rw [List.getElem?_map] at h
  cases e : l[i]? with
  | none => rw [e] at h; cases h
  | some d => rw [e] at h; exact ⟨d, rfl, (Option.some.inj h).symm⟩
theorem at_map {α β : Type} {f : α → β} {l : List α} {i : Nat} {d : α} (h : l[i]? = some d) : (l.map f)[i]? = some (f d) := by
  rw [List.getElem?_map, h]
  rfl
theorem at_getD {α : Type} {l : List α} {i : Nat} (h : i < l.length) (d : α) : l[i]? = some (l.getD i d) := by
  rw [List.getD_eq_getElem?_getD, List.getElem?_eq_getElem h]
  rfl
theorem getD_of {α : Type} {l : List α} {i : Nat} {x : α} (h : l[i]? = some x) (d : α) : l.getD i d = x := by
  rw [List.getD_eq_getElem?_getD, h]
  rfl
/-! ### data -/
def dI (k : List Int) : PyData := .tuple (k.map .int)
def dR (l : List (List Int)) : PyData := .tuple (l.map dI)
theorem lay_ints : ∀ k : List Int, PyData.canLayAll0 (k.map .int) = true
  | [] => by simp [PyData.canLayAll0]
  | x :: k => by
    rw [List.map_cons]
    simp only [PyData.canLayAll0, PyData.canLay0, lay_ints k, Bool.and_self]
theorem lay_rows : ∀ l : List (List Int), PyData.canLayAll0 (l.map dI) = true
  | [] => by simp [PyData.canLayAll0]
  | e :: l => by
    rw [List.map_cons]
    simp only [PyData.canLayAll0, dI, PyData.canLay0, lay_ints, lay_rows l, Bool.and_self]
theorem dep_ints : ∀ k : List Int, PyData.depthAll (k.map .int) = 0
  | [] => by simp [PyData.depthAll]
  | x :: k => by
    rw [List.map_cons]
    simp [PyData.depthAll, PyData.depth, dep_ints k]
theorem dep_rows : ∀ l : List (List Int), PyData.depthAll (l.map dI) ≤ 1
  | [] => by simp [PyData.depthAll]
  | e :: l => by
    have := dep_rows l
    rw [List.map_cons]
    simp only [PyData.depthAll, dI, PyData.depth, dep_ints]
    omega
theorem shaped_I (k : List Int) : SeqAt.shaped (dI k) = true := by
  unfold SeqAt.shaped dI
  simp only [PyData.canLay0, lay_ints, PyData.depth, dep_ints]
  decide
theorem shaped_R (l : List (List Int)) : SeqAt.shaped (dR l) = true := by
  unfold SeqAt.shaped
  have := dep_rows l
  have e : (dR l).canLay0 = true := by unfold dR; simp only [PyData.canLay0, lay_rows]
  rw [e, Bool.true_and, decide_eq_true_eq]
  unfold dR
  simp only [PyData.depth]
  omega
theorem eqvAll_ints : ∀ a b : List Int, PyData.eqvAll (a.map .int) (b.map .int) = decide (a = b)
  | [], [] => by simp [PyData.eqvAll]
  | [], _ :: _ => by simp [PyData.eqvAll]
  | _ :: _, [] => by simp [PyData.eqvAll]
  | x :: a, y :: b => by
    rw [List.map_cons, List.map_cons]
    simp only [PyData.eqvAll, PyData.eqv, eqvAll_ints a b, List.cons.injEq]
    by_cases e : x = y <;> by_cases f : a = b <;> simp [e, f]
theorem eqv_I (a b : List Int) : PyData.eqv (dI a) (dI b) = decide (a = b) := by
  unfold dI
  simp only [PyData.eqv, eqvAll_ints]
theorem eqvAll_rows : ∀ a b : List (List Int), PyData.eqvAll (a.map dI) (b.map dI) = decide (a = b)
  | [], [] => by simp [PyData.eqvAll]
  | [], _ :: _ => by simp [PyData.eqvAll]
  | _ :: _, [] => by simp [PyData.eqvAll]
  | x :: a, y :: b => by
    rw [List.map_cons, List.map_cons]
    simp only [PyData.eqvAll, eqv_I, eqvAll_rows a b, List.cons.injEq]
    by_cases e : x = y <;> by_cases f : a = b <;> simp [e, f]
theorem eqv_R (a b : List (List Int)) : PyData.eqv (dR a) (dR b) = decide (a = b) := by
  unfold dR
  simp only [PyData.eqv, eqvAll_rows]
theorem dp_ints {K : PySem.W.Frag} {H : Hp} : ∀ k : List Int, DpAll K H (k.map V.int) (k.map .int)
  | [] => .nil
  | x :: k => .cons (.int x) (dp_ints k)
theorem dp_I {K : PySem.W.Frag} {H : Hp} {t : Addr} {k : List Int} (h : SqT K H t (k.map V.int)) : Dp K H (.ref t) (dI k) := .tup h (dp_ints k)
/-- x is a tuple of the ints k -/
def TupI (K : PySem.W.Frag) (H : Hp) (x : V) (k : List Int) : Prop := ∃ b, x = .ref b ∧ SqT K H b (k.map V.int)
theorem TupI.more {K : PySem.W.Frag} {H H' : Hp} {x : V} {k : List Int} (m : More H H') (h : TupI K H x k) : TupI K H' x k := let ⟨b, e, s⟩ := h; ⟨b, e, sqT_more m s⟩
theorem dp_rows {K : PySem.W.Frag} {H : Hp} : ∀ {xs : List V} {l : List (List Int)}, Paired (TupI K H) xs l → DpAll K H xs (l.map dI)
  | _, _, .nil => .nil
  | _, _, .cons ⟨b, e, s⟩ t => by subst e; exact .cons (dp_I s) (dp_rows t)
theorem dp_R {K : PySem.W.Frag} {H : Hp} {t : Addr} {xs : List V} {l : List (List Int)} (h : SqT K H t xs) (r : Paired (TupI K H) xs l) : Dp K H (.ref t) (dR l) := .tup h (dp_rows r)
def rTof (K : PySem.W.Frag) : List V → Hp → VK → Prop := fun xs H Q => ∃ p ys, xs = [.ref p] ∧ ((SqL K H p ys ∧ ∀ l, H l = none → Q (.ref l) (upd H l (.tup ys))) ∨ (SqT K H p ys ∧ Q (.ref p) H))
theorem call_tof {X : Cx} {K : PySem.W.Frag} (hK : X.K = K) : CallR X (.type "tuple") (rTof K) := by
  subst hK
  exact call_tuple_of
def rLof (K : PySem.W.Frag) : List V → Hp → VK → Prop := fun xs H Q => ∃ p ys, xs = [.ref p] ∧ (SqL K H p ys ∨ SqT K H p ys) ∧ ∀ l, H l = none → Q (.ref l) (upd H l (.lst ys))
theorem call_lof {X : Cx} {K : PySem.W.Frag} (hK : X.K = K) : CallR X (.type "list") (rLof K) := by
  subst hK
  exact call_list_of
/-! ### comprehensions whose items are new objects -/
theorem lc_rel {J : It} {Z : Hp → Prop} {xs : List V} (w : Walk J xs.length Z (YAt xs)) {n : Nat} {te : TE} {vs : List Nat} {σ : L2.St} {H1 : Hp} {D : Addr} {Qd : Hp → Prop} (R : Nat → V → Hp → Prop)
    (mono : ∀ i v H H', More H H' → R i v H → R i v H') (hD : H1 D = none) (hZ : ∀ H', More H1 H' → Z H') (few : xs.length ≤ 16777215)
    (hw : ∀ y, wipe ((wipe σ vs).set n (some y)) vs = wipe σ vs)
    (el : ∀ (i : Nat) (y : V) (H2 : Hp) (Q : VK), xs[i]? = some y → More H1 H2 → More H1 (del H2 D) → (∃ l, H2 D = some (.lst l)) → (∀ v H3, More H2 H3 → R i v (del H3 D) → Q v H3) → te ((wipe σ vs).set n (some y)) H2 Q)
    (hd : ∀ H' G rs, rs.length = xs.length → More H1 G → More G H' → G D = none → (∀ (i : Nat) v, rs[i]? = some v → R i v G) → H' D = some (.lst rs) → Qd H') :
    ∃ W : Nat → Nat → Hp → Prop, (∃ m, W 0 m (upd H1 D (.lst []))) ∧ ∀ i m H, W i m H →
    (J.stop i H ∧ Qd H) ∨ (J.go i H ∧ ∃ Nx : Hp → Prop, (∀ H', Nx H' → ∃ m', m' < m ∧ W (i + 1) m' H') ∧ ∀ x H', J.yld i H x H' → gName n x (wipe σ vs) H' fun σ2 H2 => wipe σ2 vs = wipe σ vs ∧ tYes σ2 H2 fun b H3 =>
      if b = true then te σ2 H3 fun y H4 => ∃ acc, H4 D = some (.lst acc) ∧ acc.length < sizeLine ∧ Nx (upd H4 D (.lst (acc ++ [y]))) else Nx H3) := by
  have dm : ∀ {H H' : Hp}, More H H' → More (del H D) (del H' D) := fun {H H'} m b o e => by
    by_cases z : b = D
    · rw [z, del_same] at e
      cases e
    · rw [del_ne z] at e ⊢
      exact m b o e
  have d1 : ∀ {H : Hp}, More H1 H → More H1 (del H D) := fun {H} m b o e => by
    rw [del_ne (ne_of_none e hD)]
    exact m b o e
  have dd : ∀ {H : Hp} {o : HO}, del (upd H D o) D = del H D := fun {H o} => by
    funext b
    by_cases z : b = D
    · rw [z, del_same, del_same]
    · rw [del_ne z, del_ne z, upd_ne z]
  refine lc_it (H1 := H1) (D := D) (Qd := Qd) w (fun i H' => ∃ rs, rs.length = i ∧ H' D = some (.lst rs) ∧ More H1 H' ∧ ∀ (j : Nat) v, rs[j]? = some v → R j v (del H' D))
    ⟨[], rfl, upd_same, More.new (fun _ _ e => e) hD, fun j v e => by rw [List.getElem?_nil] at e; cases e⟩ (fun i H' _ h => hZ H' h.choose_spec.2.2.1) ?_ ?_
  · rintro i y H2 H3 hi ⟨rs, rl, h2, m2, al⟩ ⟨rfl, hy⟩
    refine ⟨hw y, el i y H3 (fun v H4 => ∃ acc, H4 D = some (.lst acc) ∧ acc.length < sizeLine ∧ ∃ rs, rs.length = i + 1 ∧ (upd H4 D (.lst (acc ++ [v]))) D = some (.lst rs) ∧ More H1 (upd H4 D (.lst (acc ++ [v]))) ∧ ∀ (j : Nat) x, rs[j]? = some x → R j x (del (upd H4 D (.lst (acc ++ [v]))) D)) hy m2 (d1 m2) ⟨_, h2⟩ fun v H4 m4 r => ?_⟩
    refine ⟨rs, m4 _ _ h2, by rw [sizeLine_eq]; omega, rs ++ [v], by rw [List.length_append, rl]; rfl, upd_same, More.at (fun b o e => m4 b o (m2 b o e)) hD, fun j x hx => ?_⟩
    rw [dd]
    by_cases z : j < rs.length
    · rw [List.getElem?_append_left z] at hx
      exact mono _ _ _ _ (dm m4) (al j x hx)
    · have lt : j < rs.length + 1 := by
        have := (List.getElem?_eq_some_iff.mp hx).1
        rw [List.length_append] at this
        exact this
      have ej : j = rs.length := by omega
      subst ej
      rw [List.getElem?_append_right (Nat.le_refl _), Nat.sub_self] at hx
      cases hx
      rw [rl]
      exact r
  · rintro H' ⟨rs, rl, h2, m2, al⟩
    refine hd H' (del H' D) rs rl (d1 m2) (fun b o e => ?_) del_same al h2
    by_cases z : b = D
    · rw [z, del_same] at e
      cases e
    · rw [del_ne z] at e
      exact e
end B5

namespace L2
open PySem PySem.Spec PyProof.Rows
/-! ### x == y, x != y by an own __eq__ of the class of x -/
section
variable {X : Cx} {CX : CXT} {C f : Addr} {fd : FuncData} {ps : List Str} {sp : Sp} {n : Nat} {E : XK}
def OthT (K : PySem.W.Frag) (H : Hp) (C : Addr) (y : V) (t : Value) : Prop := TyX K H y t ∨ ∃ b dy gs, y = .ref b ∧ H b = some (.ins C dy gs) ∧ t = .ref C
def rOwnE (K : PySem.W.Frag) (C : Addr) (sp : Sp) (E : XK) : R2 := fun x y H Q => ∃ a dx fs t, x = .ref a ∧ H a = some (.ins C dx fs) ∧ OthT K H C y t ∧ PySem.W.notFirst K C t = true ∧ sp [x, y] H Q E
theorem oth_looks {pins : List (Addr × Obj)} {σ : L2.St} {H : Hp} {s : Shared} {y : V} {u t : Value} (I : Inv X pins σ H s) (ry : RelV y u) (o : OthT X.K H C y t) : PySem.W.Looks (model X.prog X.w) s.heap (typeOf u) t := by
  obtain ty | ⟨b, dy, gs, rfl, hb, rfl⟩ := o
  · obtain ⟨P, k, p, _⟩ := kit_of I ry ty
    exact k.ty _ _ I.kIn p
  · cases ry
    obtain ⟨mB, J, _⟩ := ins_get I.hok hb
    obtain ⟨od, J, _⟩ := J.look
    exact J.type
theorem rc_own {op : CmpOp} (hs : PySem.W.findIn X.K (.ref C) (cmpInfo op).2.1 = some (some (.ref f))) (hf : PySem.W.isFn X.K (.ref f) = true) (F : FnR X.prog X.w X.K X.mg X.base CX n f sp)
    (hr : Room n X.A) (hx : Passes CX X E) : OpR X (fun a b => richCompare op a b) (rOwnE X.K C sp E) := by
  intro pins s σ H x y v u Q I rx ry h
  obtain ⟨a, dx, fs, t, rfl, ha, o, hn, q⟩ := h
  cases (show v = Value.ref a from rx)
  obtain ⟨mA, J, _⟩ := ins_get I.hok ha
  obtain ⟨od, J, _⟩ := J.look
  obtain ⟨m, hF⟩ := I.fr
  refine PySem.W.cmp_K (op := op) (tb := t) hr.units0 hF I.ok.mod.kin J (oth_looks I ry o) hn hs hf ?_
  refine wpAny_mono (wpAny_call (run_fnR (us := [.ref a, u]) (vs := [.ref a, y]) F hr hx I (.cons rfl (.cons ry .nil)) q)) (fun w s' z => ?_) fun _ _ x => x
  obtain ⟨z', H', I', rz, qz⟩ := z
  exact SlX.cmpback rz ⟨z', H', I', rz, qz⟩
theorem op_eqOwn (hs : PySem.W.findIn X.K (.ref C) "__eq__" = some (some (.ref f))) (hf : PySem.W.isFn X.K (.ref f) = true) (F : FnOk X.prog X.w X.K X.mg X.base CX n f fd ps sp) (hb : Binds X.K fd ps [])
    (hr : Room n X.A) (hx : Passes CX X E) : OpR X (compareOp .Eq) (rOwnE X.K C sp E) := by
  intro pins s σ H x y v u Q I rx ry h
  have F2 := F.raw (sp := sp) hb .nil
  obtain ⟨a, dx, fs, t, e1, ha, o, hn, q⟩ := h
  exact rc_own (op := .Eq) hs hf F2 hr hx pins s σ H x y v u Q I rx ry ⟨a, dx, fs, t, e1, ha, o, hn, by show sp ([x, y] ++ []) H Q E; rw [List.append_nil]; exact q⟩
end
end L2

/-! Mc: what is asked of a machine. -/
namespace B5
open PySem L2 Gd
/-- a right row of states -/
structure GRow (K : PySem.W.Frag) (H : Hp) (p : Int) (many : Nat) (x : V) (ds : List Int) : Prop where
  ex : ∃ b, x = .ref b ∧ Sq K H b (ds.map V.int)
  len : ((ds.length : Nat) : Int) = p
  ok : ∀ d ∈ ds, 0 ≤ d ∧ d < (many : Int)
theorem GRow.more {K : PySem.W.Frag} {H H' : Hp} {p : Int} {many : Nat} {x : V} {ds : List Int} (m : More H H') (h : GRow K H p many x ds) : GRow K H' p many x ds :=
  ⟨let ⟨b, e, s⟩ := h.ex; ⟨b, e, s.more m⟩, h.len, h.ok⟩
/-- no row of states -/
def NRow (K : PySem.W.Frag) (H : Hp) (p : Int) (many : Nat) (x : V) : Prop := NoSq K H x ∨ ∃ b ys, x = .ref b ∧ Sq K H b ys ∧ Its K H ys ∧
  (ys.all isI = false ∨ ((ys.length : Nat) : Int) ≠ p ∨ ∃ ds : List Int, ys = ds.map V.int ∧ ((ds.length : Nat) : Int) = p ∧ ∃ d ∈ ds, ¬ (0 ≤ d ∧ d < (many : Int)))
theorem NRow.more {K : PySem.W.Frag} {H H' : Hp} {p : Int} {many : Nat} {x : V} (m : More H H') (h : NRow K H p many x) : NRow K H' p many x := by
  obtain h | ⟨b, ys, e, s, i, h⟩ := h
  · exact .inl (h.more m)
  · exact .inr ⟨b, ys, e, s.more m, i.more m, h⟩
/-- no row of so many ints -/
def NWor (K : PySem.W.Frag) (H : Hp) (many : Nat) (x : V) : Prop := NoSq K H x ∨ ∃ b ys, x = .ref b ∧ Sq K H b ys ∧ Its K H ys ∧ (ys.all isI = false ∨ ys.length ≠ many)
theorem NWor.more {K : PySem.W.Frag} {H H' : Hp} {many : Nat} {x : V} (m : More H H') (h : NWor K H many x) : NWor K H' many x := by
  obtain h | ⟨b, ys, e, s, i, h⟩ := h
  · exact .inl (h.more m)
  · exact .inr ⟨b, ys, e, s.more m, i.more m, h⟩
def inD (p : Int) : V → Bool
  | .int d => decide (0 ≤ d ∧ d < p)
  | _ => false
theorem inD_all {p : Int} {ds : List Int} (h : ∀ d ∈ ds, 0 ≤ d ∧ d < p) : (ds.map V.int).all (inD p) = true := by
  rw [List.all_map, List.all_eq_true]
  intro d hd
  exact decide_eq_true (h d hd)
open ZipG in
theorem Sq.src {K : PySem.W.Frag} {H : Hp} {a : Addr} {xs : List V} (h : Sq K H a xs) : ∃ S : Src, S.v = .ref a ∧ ∀ H', Kept a H H' → S.has K xs H' := by
  rcases h with h | h
  · exact ⟨.l a, rfl, fun H' k => k.sqL h⟩
  · exact ⟨.t a, rfl, fun H' k => k.sqT h⟩
theorem any_not {α β : Type} (f : α → β → Bool) : ∀ (l : List α) (m : List β), (List.zipWith (fun a b => !f a b) l m).any id = !(List.zipWith f l m).all id
  | [], _ => by simp
  | _ :: _, [] => by simp
  | a :: l, b :: m => by
    rw [List.zipWith_cons_cons, List.zipWith_cons_cons, List.any_cons, List.all_cons, any_not f l m]
    cases f a b <;> simp
theorem zip_at {α β γ : Type} {f : α → β → γ} {l : List α} {m : List β} {i : Nat} {a : α} {b : β} (h1 : l[i]? = some a) (h2 : m[i]? = some b) : (List.zipWith f l m)[i]? = some (f a b) := by
  rw [List.getElem?_zipWith, h1, h2]
/-- a zero changes no worth -/
def stdy (dss : List (List Int)) (ws : List Int) : Bool := (List.zipWith (fun ds (w : Int) => decide (w = ws.getD (ds.getD 0 0).toNat 0)) dss ws).all id
def RUn (CU : Addr) (what : Str) (H : Hp) (E : XK) : Prop := ∀ d, H d = none → E (.ref CU) (some d) (upd H d (.xd [("what", .str what)]))
def spCM0 (K : PySem.W.Frag) (CN CR CU : Addr) : Sp := fun vs H Q E => ∃ x y z, vs = [x, y, z] ∧ ((BadP K H x ∧ RNum CN "p" x H E) ∨
  ∃ (p : Int) (a : Addr) (xs : List V), x = .int p ∧ isPr p = true ∧ y = .ref a ∧ Sq K H a xs ∧ xs.length ≤ 1000 ∧
    ((xs = [] ∧ RNum CN "states" (.int 0) H E) ∨
    (xs ≠ [] ∧ ∃ (i : Nat) (x0 : V), xs[i]? = some x0 ∧ NRow K H p xs.length x0 ∧ (∀ j y, j < i → xs[j]? = some y → ∃ ds, GRow K H p xs.length y ds) ∧ ∀ H', More H H' → RRow CR x0 H' E) ∨
    (xs ≠ [] ∧ ∃ dss : List (List Int), Paired (GRow K H p xs.length) xs dss ∧
      ((NWor K H xs.length z ∧ ∀ H', More H H' → RRow CR z H' E) ∨
      ∃ (b : Addr) (ws : List Int), z = .ref b ∧ Sq K H b (ws.map V.int) ∧ ws.length = xs.length ∧
        ((stdy dss ws = false ∧ ∀ H', More H H' → RUn CU "zeros" H' E) ∨ (stdy dss ws = true ∧ ∀ H', More H H' → Q .non H'))))))
/-- at a stands the machine of these moves and worths -/
def MAt (K : PySem.W.Frag) (H : Hp) (C a : Addr) (p : Int) (dss : List (List Int)) (ws : List Int) : Prop := ∃ (dx t u : Addr) (xs : List V), H a = some (.ins C dx [("p", .int p), ("moves", .ref t), ("worths", .ref u), ("size", .int (dss.length : Nat))]) ∧
  SqT K H t xs ∧ Paired (TupI K H) xs dss ∧ SqT K H u (ws.map V.int)
theorem MAt.more {K : PySem.W.Frag} {H H' : Hp} {C a : Addr} {p : Int} {dss : List (List Int)} {ws : List Int} (m : More H H') (h : MAt K H C a p dss ws) : MAt K H' C a p dss ws :=
  let ⟨dx, t, u, xs, h1, h2, h3, h4⟩ := h; ⟨dx, t, u, xs, m _ _ h1, sqT_more m h2, paired_imp (fun _ _ r => r.more m) h3, sqT_more m h4⟩
/-- all but what stands at a stays -/
def Off (a : Addr) (H H' : Hp) : Prop := ∀ b o, H b = some o → b ≠ a → H' b = some o
theorem Off.refl {a : Addr} {H : Hp} : Off a H H := fun _ _ e _ => e
theorem Off.trans {a : Addr} {H H1 H2 : Hp} (x : Off a H H1) (y : Off a H1 H2) : Off a H H2 := fun b o e n => y b o (x b o e n) n
theorem Off.of {a : Addr} {H H' : Hp} (m : More H H') : Off a H H' := fun b o e _ => m b o e
theorem Off.upd {a : Addr} {H : Hp} {o : HO} : Off a H (upd H a o) := fun b u e n => by
  rw [upd_ne n]
  exact e
theorem Off.dr {d c : Addr} {n : Int} {H H' : Hp} (h : Drawn H H' d c n) : Off d H H' := fun b o e nb => (h.off b nb).trans e
theorem new_more {H : Hp} {p : Addr} {o : HO} (hp : H p = none) : More H (upd H p o) := More.new (fun _ _ e => e) hp
/-- where an instance or a dict stands, no list or tuple does -/
theorem sqL_off {K : PySem.W.Frag} {a b : Addr} {H H' : Hp} {xs : List V} {o : HO} (ha : H a = some o) (no : ∀ xs, o ≠ .lst xs) (nf : ∀ u v, o ≠ .frz u v) (m : Off a H H') : SqL K H b xs → SqL K H' b xs
  | .inl (.inl h) => .inl (.inl (m _ _ h fun e => by rw [e, ha] at h; exact no _ (Option.some.inj h)))
  | .inl (.inr ⟨u, h⟩) => .inl (.inr ⟨u, m _ _ h fun e => by rw [e, ha] at h; exact nf _ _ (Option.some.inj h)⟩)
  | .inr h => .inr h
theorem sqT_off {K : PySem.W.Frag} {a b : Addr} {H H' : Hp} {xs : List V} {o : HO} (ha : H a = some o) (no : ∀ xs, o ≠ .tup xs) (nf : ∀ u v, o ≠ .frz u v) (m : Off a H H') : SqT K H b xs → SqT K H' b xs
  | .inl (.inl h) => .inl (.inl (m _ _ h fun e => by rw [e, ha] at h; exact no _ (Option.some.inj h)))
  | .inl (.inr ⟨u, h⟩) => .inl (.inr ⟨u, m _ _ h fun e => by rw [e, ha] at h; exact nf _ _ (Option.some.inj h)⟩)
  | .inr h => .inr h
theorem sq_ins {K : PySem.W.Frag} {a b C dx : Addr} {H H' : Hp} {xs : List V} {fs : List (Str × V)} (ha : H a = some (.ins C dx fs)) (m : Off a H H') : Sq K H b xs → Sq K H' b xs
  | .inl h => .inl (sqL_off ha (fun _ e => nomatch e) (fun _ _ e => nomatch e) m h)
  | .inr h => .inr (sqT_off ha (fun _ e => nomatch e) (fun _ _ e => nomatch e) m h)
theorem Off.gone {a b : Addr} {H H' : Hp} (m : Off a H H') (ha : ∃ o, H' a = some o) (h : H' b = none) : H b = none := by
  cases e : H b with
  | none => rfl
  | some o =>
    by_cases z : b = a
    · obtain ⟨u, hu⟩ := ha
      rw [z, hu] at h
      cases h
    · rw [m _ _ e z] at h
      cases h
theorem Off.at {a b : Addr} {H H' : Hp} {o : HO} (m : Off a H H') (h : H b = none) : Off a H (L2.upd H' b o) := fun c u e n => by
  rw [upd_ne (ne_of_none e h)]
  exact m c u e n
theorem Pen.updA {H : Hp} {d c b : Addr} {n : Int} {o : HO} (h : Pen H d c n) (h1 : b ≠ d) (h2 : b ≠ c) : Pen (L2.upd H b o) d c n := h.keep (upd_ne h1.symm) (upd_ne h2.symm)
theorem putK_le (kvs : List (Key × V)) (k : Key) (v : V) : (putK kvs k v).length ≤ kvs.length + 1 := by
  unfold putK
  split
  · rw [List.length_map]
    omega
  · rw [List.length_append]
    exact Nat.le_refl _
/-- all is right for a machine -/
structure MOk (K : PySem.W.Frag) (H : Hp) (x y z : V) (p : Int) (dss : List (List Int)) (ws : List Int) : Prop where
  x_ : x = .int p
  pr : isPr p = true
  y_ : ∃ a xs, y = .ref a ∧ Sq K H a xs ∧ xs.length ≤ 1000 ∧ xs ≠ [] ∧ Paired (GRow K H p xs.length) xs dss
  z_ : ∃ b, z = .ref b ∧ Sq K H b (ws.map V.int)
  len : ws.length = dss.length
  st : stdy dss ws = true
/-- what is no machine, and the error for it -/
def BadM (K : PySem.W.Frag) (CN CR CU : Addr) (x y z : V) (H : Hp) (E : XK) : Prop := (BadP K H x ∧ RNum CN "p" x H E) ∨
  ∃ (p : Int) (a : Addr) (xs : List V), x = .int p ∧ isPr p = true ∧ y = .ref a ∧ Sq K H a xs ∧ xs.length ≤ 1000 ∧
    ((xs = [] ∧ RNum CN "states" (.int 0) H E) ∨
    (xs ≠ [] ∧ ∃ (i : Nat) (x0 : V), xs[i]? = some x0 ∧ NRow K H p xs.length x0 ∧ (∀ j y, j < i → xs[j]? = some y → ∃ ds, GRow K H p xs.length y ds) ∧ ∀ H', More H H' → RRow CR x0 H' E) ∨
    (xs ≠ [] ∧ ∃ dss : List (List Int), Paired (GRow K H p xs.length) xs dss ∧
      ((NWor K H xs.length z ∧ ∀ H', More H H' → RRow CR z H' E) ∨
      ∃ (b : Addr) (ws : List Int), z = .ref b ∧ Sq K H b (ws.map V.int) ∧ ws.length = xs.length ∧ stdy dss ws = false ∧ ∀ H', More H H' → RUn CU "zeros" H' E)))
def spCM (K : PySem.W.Frag) (CN CR CU : Addr) : Sp := fun vs H Q E => ∃ x y z, vs = [x, y, z] ∧ (BadM K CN CR CU x y z H E ∨ ∃ p dss ws, MOk K H x y z p dss ws ∧ ∀ H', More H H' → Q .non H')
theorem spCM.to0 {K : PySem.W.Frag} {CN CR CU : Addr} {vs : List V} {H : Hp} {Q : VK} {E : XK} (h : spCM K CN CR CU vs H Q E) : spCM0 K CN CR CU vs H Q E := by
  obtain ⟨x, y, z, e, c | ⟨p, dss, ws, ⟨e1, pr, ⟨ay, xs, e2, sq, few, ne, hp⟩, ⟨az, e3, sw⟩, lw, st⟩, q⟩⟩ := h
  · refine ⟨x, y, z, e, ?_⟩
    obtain c | ⟨p, a, xs, e1, e2, e3, e4, e5, c⟩ := c
    · exact .inl c
    refine .inr ⟨p, a, xs, e1, e2, e3, e4, e5, ?_⟩
    obtain c | c | ⟨c1, dss, c2, c⟩ := c
    · exact .inl c
    · exact .inr (.inl c)
    refine .inr (.inr ⟨c1, dss, c2, ?_⟩)
    obtain c | ⟨b, ws, c3, c4, c5, c⟩ := c
    · exact .inl c
    · exact .inr ⟨b, ws, c3, c4, c5, .inl c⟩
  · exact ⟨x, y, z, e, .inr ⟨p, ay, xs, e1, pr, e2, sq, few, .inr (.inr ⟨ne, dss, hp, .inr ⟨az, ws, e3, sw, by rw [lw, ← Paired.length hp], .inr ⟨st, q⟩⟩⟩)⟩⟩
def spMI (K : PySem.W.Frag) (C CN CR CU : Addr) : Sp := fun vs H Q E => ∃ a dx x y z, vs = [.ref a, x, y, z] ∧ H a = some (.ins C dx []) ∧ (BadM K CN CR CU x y z H E ∨
  ∃ p dss ws, MOk K H x y z p dss ws ∧ ∀ H', Off a H H' → MAt K H' C a p dss ws → Q .non H')
/-- the kinds of values that are no object of a class of one's own -/
def offOwn : List String := ["int", "bool", "NoneType", "str", "list", "tuple", "dict"]
/-- what is asked of the class -/
structure McC (K : PySem.W.Frag) (mg : Str → Option Value) (C : Addr) : Prop where
  ic : C8.InsC K C
  n1 : NoAttr K C "p"
  n2 : NoAttr K C "moves"
  n3 : NoAttr K C "worths"
  n4 : NoAttr K C "size"
  g : mg "Machine" = some (.ref C)
  no : ∀ n ∈ offOwn, PySem.W.kitOne K (.type n) (.ref C) = some false
theorem MAt.ty {K : PySem.W.Frag} {mg : Str → Option Value} {C a : Addr} (Z : McC K mg C) {H : Hp} {p : Int} {dss : List (List Int)} {ws : List Int} (h : MAt K H C a p dss ws) : TyX K H (.ref a) (.ref C) := by
  obtain ⟨dx, t, u, xs, h1, _⟩ := h
  exact .base (.ins h1 Z.ic.cl Z.ic.ha Z.ic.hn Z.ic.htk Z.ic.hm)
def spMEq (K : PySem.W.Frag) (C : Addr) : Sp := fun vs H Q _ => ∃ a y p dss ws, vs = [.ref a, y] ∧ MAt K H C a p dss ws ∧
  ((∃ n ∈ offOwn, TyX K H y (.type n) ∧ Q (.bl false) H) ∨ ∃ b p2 dss2 ws2, y = .ref b ∧ MAt K H C b p2 dss2 ws2 ∧ Q (.bl (decide (p = p2 ∧ dss = dss2 ∧ ws = ws2))) H)
/-- right rows of states, a worth for each -/
structure MGood (p : Int) (dss : List (List Int)) (ws : List Int) : Prop where
  pr : isPr p = true
  ne : dss ≠ []
  rows : ∀ ds ∈ dss, ((ds.length : Nat) : Int) = p ∧ ∀ d ∈ ds, 0 ≤ d ∧ d < (dss.length : Int)
  len : ws.length = dss.length
  few : dss.length ≤ 1000
/-- the state behind a digit -/
def stepM (dss : List (List Int)) (s : Nat) (d : Int) : Nat := ((dss.getD s []).getD d.toNat 0).toNat
def runM (dss : List (List Int)) (word : List Int) : Nat := word.foldl (stepM dss) 0
theorem MGood.step {p : Int} {dss : List (List Int)} {ws : List Int} (g : MGood p dss ws) {s : Nat} (hs : s < dss.length) {d : Int} (d0 : 0 ≤ d) (d1 : d < p) :
    ∃ ds, dss[s]? = some ds ∧ ds[d.toNat]? = some ((stepM dss s d : Nat) : Int) ∧ stepM dss s d < dss.length := by
  have e := at_getD hs []
  have hm : dss.getD s [] ∈ dss := List.mem_of_getElem? e
  obtain ⟨l, r⟩ := g.rows _ hm
  have lt : d.toNat < (dss.getD s []).length := by omega
  have e2 := at_getD lt 0
  obtain ⟨r0, r1⟩ := r _ (List.mem_of_getElem? e2)
  refine ⟨_, e, ?_, ?_⟩
  · rw [e2]
    unfold stepM
    rw [Int.toNat_of_nonneg r0]
  · unfold stepM
    omega
theorem MGood.run {p : Int} {dss : List (List Int)} {ws : List Int} (g : MGood p dss ws) : ∀ (l : List Int) (s : Nat), s < dss.length → (∀ d ∈ l, 0 ≤ d ∧ d < p) → l.foldl (stepM dss) s < dss.length
  | [], s, hs, _ => hs
  | d :: l, s, hs, h => by
    obtain ⟨_, _, _, lt⟩ := g.step hs (h d (.head _)).1 (h d (.head _)).2
    exact g.run l _ lt fun x hx => h x (.tail _ hx)
def spMAt (K : PySem.W.Frag) (C CN : Addr) : Sp := fun vs H Q E => ∃ a x p dss ws, vs = [.ref a, x] ∧ MAt K H C a p dss ws ∧ MGood p dss ws ∧
  ((∃ n : Nat, x = .int n ∧ n < 2 ^ 400 ∧ ∀ H', More H H' → Q (.int (ws.getD (runM dss (dgs p.toNat n)) 0)) H') ∨ (((∃ i, x = .int i ∧ i < 0) ∨ NoInt K H x) ∧ RNum CN "n" x H E))
def spLd : Sp := fun vs H Q _ => ∃ n p : Nat, vs = [.int n, .int p] ∧ isPr p = true ∧ n < 2 ^ 400 ∧
  ∀ H' l, More H H' → H l = none → H' l = some (.lst ((dgs p n).map V.int)) → Q (.ref l) H'
/-- the state behind a word, told by the law -/
def spLs (K : PySem.W.Frag) : Sp := fun vs H Q _ => ∃ (M L : Addr) (rs : List V) (p : Int) (dss : List (List Int)) (ws l : List Int), vs = [.ref M, .ref L] ∧ SqT K H M rs ∧ Paired (TupI K H) rs dss ∧ MGood p dss ws ∧ SqL K H L (l.map V.int) ∧ (∀ d ∈ l, 0 ≤ d ∧ d < p) ∧ Q (.int (runM dss l : Nat)) H
def spIm (K : PySem.W.Frag) (C : Addr) : Sp := fun vs H Q _ => ∃ (a M W : Addr) (rs : List V) (p : Int) (dss : List (List Int)) (ws : List Int), vs = [.ref a, .int p, .ref M, .ref W] ∧ MAt K H C a p dss ws ∧ SqT K H M rs ∧ Paired (TupI K H) rs dss ∧ SqT K H W (ws.map V.int) ∧ ∀ H', More H H' → Q (.bl true) H'
/-- what the clauses and the fields ask of the three classes -/
structure Cau3 (K : PySem.W.Frag) (CN CR CU : Addr) : Prop where
  nn : PySem.W.exmOne K (.ref CN) (.ref CN) = some true
  rn : PySem.W.exmOne K (.ref CR) (.ref CN) = some false
  rr : PySem.W.exmOne K (.ref CR) (.ref CR) = some true
  un : PySem.W.exmOne K (.ref CU) (.ref CN) = some false
  ur : PySem.W.exmOne K (.ref CU) (.ref CR) = some false
  uu : PySem.W.exmOne K (.ref CU) (.ref CU) = some true
  xn : XfC K CN
  xr : XfC K CR
  xu : XfC K CU
/-- the list that tells an error -/
def ERef3 (CN CR CU : Addr) (Q : VK) : XK := fun cls d H =>
  (cls = .ref CN ∧ ∃ (dd : Addr) (what x : V), d = some dd ∧ H dd = some (.xd [("number", x), ("what", what)]) ∧ ∀ l, H l = none → Q (.ref l) (upd H l (.lst [.str "number", what, x]))) ∨
  (cls = .ref CR ∧ ∃ (dd : Addr) (x : V), d = some dd ∧ H dd = some (.xd [("row", x)]) ∧ ∀ l, H l = none → Q (.ref l) (upd H l (.lst [.str "row", x]))) ∨
  (cls = .ref CU ∧ ∃ (dd : Addr) (x : V), d = some dd ∧ H dd = some (.xd [("what", x)]) ∧ ∀ l, H l = none → Q (.ref l) (upd H l (.lst [.str "unlike", x])))
def TRef3 (CN CR CU : Addr) : (XK → Hp → VK → Prop) → Hp → VK → Prop := fun tl H Q => tl (ERef3 CN CR CU Q) H fun _ H' => ([] : List V).length ≤ sizeLine ∧ ∀ l, H' l = none → Q (.ref l) (upd H' l (.lst []))
end B5

namespace K72
open PySem L2 Gd B5 ZipG
section
variable {P : Program} {w : World} {K : PySem.W.Frag} {mg : Str → Option Value} {base : Heap}
variable {fN CN fR CR fU CU fI fS fW fC f : Addr} {fdN fdR fdU fdI fdS fdW fdC fd : FuncData} {D : Addr}
abbrev sCM : Stmt := top 23
abbrev NCM : List Str := ["p", "moves", "worths", "many", "row", "state", "worth"]
theorem scCM : FnScope NCM ["p", "moves", "worths"] (defScope sCM) := ⟨rfl, rfl, rfl, by decide +kernel, rfl, by decide +kernel, by decide +kernel⟩
theorem ok_cm (F : Fun K "check_machine" "check_machine" sCM f fd) (B : Blt mg) (zAny : mg "any" = none) (zZip : mg "zip" = none) (I : Cl K mg "is_integer" sIsI ["value"] fI fdI) (S : Cl K mg "is_integers" sIsIs ["value"] fS fdS)
    (W : Cl K mg "is_row" sRow ["value", "width"] fW fdW) (C : Cl K mg "check_prime" sCP ["p"] fC fdC)
    (N : Er K mg "BadNumber" "BadNumber.__init__" CN fN ["what", "number"] sBadNumber fdN) (R : Er K mg "BadRow" "BadRow.__init__" CR fR ["row"] sBadRow fdR) (U : Er K mg "Unlike" "Unlike.__init__" CU fU ["what"] sUnlike fdU)
    (gD : mg "PRIMES" = some (.ref D)) (dD : tupI K (.ref D) = some [2, 3, 5, 7]) :
    FnOk P w K mg base (L2.CX P w) 4 f fd ["p", "moves", "worths"] (spCM K CN CR CU) := by
  have GN : FnOk P w K mg base CX0 1 fN fdN ["self", "what", "number"] (spIni CN ["what", "number"]) := okBadNumber N.fn N.T N.no
  have GR : FnOk P w K mg base CX0 1 fR fdR ["self", "row"] (spIni CR ["row"]) := okBadRow R.fn R.T R.no
  have GU : FnOk P w K mg base CX0 1 fU fdU ["self", "what"] (spIni CU ["what"]) := okUnlike U.fn U.T U.no
  have GC : FnOk P w K mg base (L2.CX P w) 3 fC fdC ["p"] (spCP K CN) := ok_cp C.fn B I N gD dD
  have GW : FnOk P w K mg base CX0 3 fW fdW ["value", "width"] (spRow K) := ok_row W.fn B I S
  refine F.okX scCM (fun vs H Q E h => ?_) (fun cdv A outer s H vs Q E hr h => ?_)
  · obtain ⟨x, y, z, rfl, _⟩ := h
    rfl
  · replace h := h.to0
    obtain ⟨x, y, z, rfl, h⟩ := h
    have hr2 : Room 2 _ := hr.mono (by decide)
    refine ⟨_, pss_cons (ps_expr (pe_call GC hr rfl C.g C.k C.b .nil (passes_call (takes_of rfl rfl rfl rfl) (fun _ _ _ _ h => h)) (pa_cons (pv 0) pa_nil)))
      (pss_cons (ps_if (pt_not (pt_truth (pv 1) (by intro _; rfl)))
        (pss_one (ps_raise rfl (takes_of rfl rfl rfl rfl) (pmk_oex N.T N.iC N.tI GN hr2 N.b .nil pass0 rfl N.g (pa_cons pe_str (pa_cons pe_int pa_nil))))) pss_nil)
      (pss_cons (ps_set (i := 3) scCM.nd rfl (Or.inr rfl) (pe_callB call_len_seq (by rfl) B.len_ PySem.boot_len (pa_cons (pv 1) pa_nil)))
      (Evl.pss_cut (ps_for (passes_of rfl) rfl (pi_sq (K := K) rfl (pv 1)) (pg_name (i := 4) scCM.nd rfl (Or.inl rfl))
        (pss_one (ps_if (PW.pt (pw_or (pt_not (pt_val (pe_call GW hr rfl W.g W.k W.b .nil pass0 (pa_cons (pv 4) (pa_cons (pv 0) pa_nil)))))
          (pw_or1 (pt_not (pt_val (pe_callB (cr_all rfl) (by rfl) B.all_ (by decide +kernel) (pa_cons (pe_lc (own := [("state", 5)]) (g := gName 5) (tt := tYes) rfl scCM.nd (pi_sq (K := K) rfl (pv 4))
            (blkOk_by (N := NCM) (sc := defScope sCM) (by decide +kernel))
            (fun _ _ _ _ _ => pg_name (i := 5) scCM.nd rfl (Or.inl rfl)) (fun _ _ _ _ _ => pts_nil)
            (fun _ _ _ _ _ => pe_chain op_le op_lt pe_int (pv 5) (pv 3))) pa_nil)))))))
          (pss_one (ps_raise rfl (takes_of rfl rfl rfl rfl) (pmk_oex R.T R.iC R.tI GR hr2 R.b .nil pass0 rfl R.g (pa_cons (pv 4) pa_nil)))) pss_nil)))
      (pss_cons (ps_if (pt_not (pt_val (pe_call GW hr rfl W.g W.k W.b .nil pass0 (pa_cons (pv 2) (pa_cons (pv 3) pa_nil)))))
        (pss_one (ps_raise rfl (takes_of rfl rfl rfl rfl) (pmk_oex R.T R.iC R.tI GR hr2 R.b .nil pass0 rfl R.g (pa_cons (pv 2) pa_nil)))) pss_nil)
      (pss_one (ps_if (pt_val (pe_callB (cr_any rfl) (by rfl) zAny (by decide +kernel) (pa_cons (pe_lc (own := [("worth", 6), ("row", 4)]) (g := gTup K 2 (gCons (gName 6) (gCons (gName 4) gNil))) (tt := tYes) rfl scCM.nd
            (pi_zipG (by rfl) zZip (pa_cons (pv 2) (pa_cons (pv 1) pa_nil)))
            (blkOk_by (N := NCM) (sc := defScope sCM) (by decide +kernel))
            (fun _ _ _ _ _ => pg_tup rfl (pgs_cons (pg_name (i := 6) scCM.nd rfl (Or.inl rfl)) (pgs_cons (pg_name (i := 4) scCM.nd rfl (Or.inl rfl)) pgs_nil))) (fun _ _ _ _ _ => pts_nil)
            (fun _ _ _ _ _ => pe_cmpR op_ne (pv 6) (pe_ix (r := rIx K) ix_seq (pv 2) (pe_ix (r := rIx K) ix_seq (pv 4) pe_int (fun _ _ => rfl)) (fun _ _ => rfl)) (nomark _))) pa_nil)))
        (pss_one (ps_raise rfl (takes_of rfl rfl rfl rfl) (pmk_oex U.T U.iC U.tI GU hr2 U.b .nil pass0 rfl U.g (pa_cons pe_str pa_nil)))) pss_nil)))))), ?_⟩
    obtain ⟨bad, q⟩ | ⟨p, a, xs, rfl, pr, rfl, sq, few, h⟩ := h
    · exact ⟨_, rfl, _, rfl, .inr ⟨bad, q⟩⟩
    refine ⟨_, rfl, _, rfl, .inl ⟨_, rfl, pr, ?_⟩⟩
    have tru : ∀ k, k = !xs.isEmpty → TruV K (.ref a) H k := fun k e => by
      rcases sq with s | s
      · exact .inl ⟨xs, s, e⟩
      · exact .inr (.inl ⟨xs, s, e⟩)
    -- the test over all states of a row
    have comp : ∀ (b : Addr) (ds : List Int) (J : It) (Z : Hp → Prop) (wk : Walk J (ds.map V.int).length Z (YAt (ds.map V.int))) (H1 : Hp) (hZ : ∀ H', Kept b H1 H' → Z H') (few2 : ds.length ≤ 1000) (D' : Addr) (hD : H1 D' = none) (Zq : Hp → Prop)
        (hq : ∀ H', (∃ bs : List Bool, H' D' = some (.lst (bs.map V.bl)) ∧ bs.all id = (ds.map V.int).all (inD xs.length)) → More H1 H' → Zq H'), _ :=
      fun b ds J Z wk H1 hZ few2 D' hD Zq hq => lc_name (n := 5) (te := tChain (rI0 fun i j => .bl (decide (i ≤ j))) (rI0 fun i j => .bl (decide (i < j))) (tC (.int 0)) (tVar 5) (tVar 3)) (vs := [5])
        (σ := [some (.int p), some (.ref a), some z, some (.int (xs.length : Nat)), some (.ref b), none, none]) (D := D') (rs := (ds.map V.int).map fun y => V.bl (inD xs.length y))
        (Qd := Zq) wk hD (fun H' m => hZ H' (.of m)) (by rw [List.length_map]) (by rw [List.length_map]; omega) (fun _ => rfl)
        (fun i y v H2 Q hy hv m2 q => by
          rw [List.getElem?_map] at hy
          cases e : ds[i]? with
          | none => rw [e] at hy; cases hy
          | some d =>
            rw [e] at hy
            cases hy
            rw [List.getElem?_map, List.getElem?_map, e] at hv
            cases hv
            refine ⟨_, rfl, _, _, rfl, rfl, _, rfl, ite2 (fun h => ⟨_, rfl, _, _, rfl, rfl, ?_⟩) (fun h => ?_)⟩
            · have h := of_decide_eq_true h
              have : decide (d < (xs.length : Int)) = inD xs.length (V.int d) := by
                show _ = decide (0 ≤ d ∧ d < (xs.length : Int))
                rw [decide_eq_decide]
                exact ⟨fun q => ⟨h, q⟩, fun q => q.2⟩
              show Q (V.bl (decide (d < (xs.length : Int)))) H2
              rw [this]
              exact q _ fun _ _ e => e
            · have : false = inD xs.length (V.int d) := by
                show _ = decide (0 ≤ d ∧ d < (xs.length : Int))
                rw [decide_eq_false fun q => h (decide_eq_true q.1)]
              show Q (V.bl false) H2
              rw [this]
              exact q _ fun _ _ e => e)
        (fun H' hl m => hq H' ⟨(ds.map V.int).map (inD xs.length), by rw [List.map_map]; exact hl, by rw [List.all_map]; rfl⟩ m)
    have its : ∀ {y : V} {ds : List Int} {H' : Hp}, GRow K H' p xs.length y ds → ds.length ≤ 1000 := fun {y ds H'} g => by
      have := g.len
      have := (isPr_small pr).2
      omega
    obtain ⟨rfl, q⟩ | ⟨ne, i0, x0, hx0, no, before, q⟩ | ⟨ne, dss, hp, h⟩ := h
    · exact ⟨_, rfl, _, tru _ rfl, iteT (mk_ini rfl (by show 2 ≤ 900; decide) q)⟩
    all_goals
      have e0 : xs.isEmpty = false := by cases xs with | nil => exact absurd rfl ne | cons _ _ => rfl
      refine ⟨_, rfl, _, tru _ rfl, ?_⟩
      rw [e0]
      refine iteF ⟨_, rfl, a, _, rfl, sq, ?_⟩
    · -- a wrong row
      refine ⟨fun _ _ => False, ?_, fun _ _ h => h.elim⟩
      refine ⟨_, rfl, a, xs, rfl, sq, fun J Z wk hZ => for_it wk (fun i σ' H' => i ≤ i0 ∧ ∃ z4, σ' = [some (.int p), some (.ref a), some z, some (.int (xs.length : Nat)), z4, none, none] ∧ More H H')
        ⟨Nat.zero_le _, none, rfl, fun _ _ e => e⟩ (fun i σ' H' _ ⟨_, _, _, m⟩ => hZ H' (.of m)) ?_ (fun σ' H' ⟨h, _⟩ => ?_)⟩
      · rintro i y σ2 H2 H3 hi ⟨le, z4, rfl, m2⟩ ⟨rfl, hy⟩
        by_cases e : i = i0
        · subst e
          rw [hx0] at hy
          cases hy
          obtain no | ⟨b, ys, rfl, sb, it, no⟩ := no.more m2
          · exact ⟨_, rfl, _, rfl, _, _, rfl, .inl ⟨no, fun H' m => ⟨_, rfl, iteT (iteT ⟨_, rfl, mk_ini rfl (by show 1 ≤ 900; decide) (q H' fun b o q => m b o (m2 b o q))⟩)⟩⟩⟩
          · refine ⟨_, rfl, _, rfl, _, _, rfl, .inr ⟨b, ys, rfl, sb, it, fun H' m => ⟨_, rfl, ?_⟩⟩⟩
            cases eb : (ys.all isI && decide (((ys.length : Nat) : Int) = p)) with
            | false => exact iteT (iteT ⟨_, rfl, mk_ini rfl (by show 1 ≤ 900; decide) (q H' fun b o q => m b o (m2 b o q))⟩)
            | true =>
              rw [Bool.and_eq_true, decide_eq_true_eq] at eb
              obtain no | no | ⟨ds, rfl, ld, d, hd, nd⟩ := no
              · rw [no] at eb; cases eb.1
              · exact absurd eb.2 no
              · refine iteF ⟨_, rfl, b, _, rfl, sb.more m, fun J2 Z2 wk2 hZ2 D' hD => comp b ds J2 Z2 wk2 H' hZ2 (by have := (isPr_small pr).2; omega) D' hD _ (fun H5 ⟨bs, h5, eb2⟩ m5 => ⟨D', bs, rfl, SqL.of h5, _, rfl, ?_⟩)⟩
                have : (ds.map V.int).all (inD xs.length) = false := by
                  rw [List.all_eq_false]
                  refine ⟨_, List.mem_map.mpr ⟨d, hd, rfl⟩, ?_⟩
                  show ¬ decide (0 ≤ d ∧ d < (xs.length : Int)) = true
                  rw [decide_eq_false nd]
                  exact Bool.false_ne_true
                rw [eb2, this]
                exact iteT ⟨_, rfl, mk_ini rfl (by show 1 ≤ 900; decide) (q H5 fun b o q => m5 b o (m b o (m2 b o q)))⟩
        · obtain ⟨ds, g⟩ := before i y (by omega) hy
          obtain ⟨b, rfl, sb⟩ := (g.more m2).ex
          refine ⟨_, rfl, _, rfl, _, _, rfl, .inr ⟨b, _, rfl, sb, Its.ints (its g), fun H' m => ⟨_, rfl, ?_⟩⟩⟩
          have yes : ((ds.map V.int).all isI && decide ((((ds.map V.int).length : Nat) : Int) = p)) = true := by
            rw [isI_all, List.length_map, Bool.true_and]
            exact decide_eq_true g.len
          rw [yes]
          refine iteF ⟨_, rfl, b, _, rfl, sb.more m, fun J2 Z2 wk2 hZ2 D' hD => comp b ds J2 Z2 wk2 H' hZ2 (its g) D' hD _ (fun H5 ⟨bs, h5, eb2⟩ m5 => ⟨D', bs, rfl, SqL.of h5, _, rfl, ?_⟩)⟩
          rw [eb2, inD_all g.ok]
          exact iteF ⟨by omega, _, rfl, fun b o q => m5 b o (m b o (m2 b o q))⟩
      · have := (List.getElem?_eq_some_iff.mp hx0).1
        omega
    · -- all rows are right
      refine ⟨fun σ' H' => ∃ z4, σ' = [some (.int p), some (.ref a), some z, some (.int (xs.length : Nat)), z4, none, none] ∧ More H H', ?_, ?_⟩
      · refine ⟨_, rfl, a, xs, rfl, sq, fun J Z wk hZ => for_it wk (fun i σ' H' => ∃ z4, σ' = [some (.int p), some (.ref a), some z, some (.int (xs.length : Nat)), z4, none, none] ∧ More H H')
          ⟨none, rfl, fun _ _ e => e⟩ (fun i σ' H' _ ⟨_, _, m⟩ => hZ H' (.of m)) ?_ (fun σ' H' h => h)⟩
        rintro i y σ2 H2 H3 hi ⟨z4, rfl, m2⟩ ⟨rfl, hy⟩
        · obtain ⟨ds, _, g⟩ := paired_at hp hy
          obtain ⟨b, rfl, sb⟩ := (g.more m2).ex
          refine ⟨_, rfl, _, rfl, _, _, rfl, .inr ⟨b, _, rfl, sb, Its.ints (its g), fun H' m => ⟨_, rfl, ?_⟩⟩⟩
          have yes : ((ds.map V.int).all isI && decide ((((ds.map V.int).length : Nat) : Int) = p)) = true := by
            rw [isI_all, List.length_map, Bool.true_and]
            exact decide_eq_true g.len
          rw [yes]
          refine iteF ⟨_, rfl, b, _, rfl, sb.more m, fun J2 Z2 wk2 hZ2 D' hD => comp b ds J2 Z2 wk2 H' hZ2 (its g) D' hD _ (fun H5 ⟨bs, h5, eb2⟩ m5 => ⟨D', bs, rfl, SqL.of h5, _, rfl, ?_⟩)⟩
          rw [eb2, inD_all g.ok]
          exact iteF ⟨_, rfl, fun b o q => m5 b o (m b o (m2 b o q))⟩
      · rintro σ2 H2 ⟨z4, rfl, m2⟩
        obtain ⟨no, q⟩ | ⟨b, ws, rfl, sw, lw, h⟩ := h
        · obtain no | ⟨b, ys, rfl, sb, it, no⟩ := no.more m2
          · exact ⟨_, rfl, _, rfl, _, _, rfl, .inl ⟨no, fun H' m => ⟨_, rfl, iteT ⟨_, rfl, mk_ini rfl (by show 1 ≤ 900; decide) (q H' fun b o q => m b o (m2 b o q))⟩⟩⟩⟩
          · refine ⟨_, rfl, _, rfl, _, _, rfl, .inr ⟨b, ys, rfl, sb, it, fun H' m => ⟨_, rfl, ?_⟩⟩⟩
            have eb : (ys.all isI && decide (((ys.length : Nat) : Int) = (xs.length : Nat))) = false := by
              obtain no | no := no
              · rw [no, Bool.false_and]
              · rw [decide_eq_false (by omega), Bool.and_false]
            rw [eb]
            exact iteT ⟨_, rfl, mk_ini rfl (by show 1 ≤ 900; decide) (q H' fun b o q => m b o (m2 b o q))⟩
        · refine ⟨_, rfl, _, rfl, _, _, rfl, .inr ⟨b, _, rfl, sw.more m2, Its.ints (by omega), fun H3 m3 => ⟨_, rfl, ?_⟩⟩⟩
          have yes : ((ws.map V.int).all isI && decide ((((ws.map V.int).length : Nat) : Int) = (xs.length : Nat))) = true := by
            rw [isI_all, List.length_map, Bool.true_and]
            exact decide_eq_true (by omega)
          rw [yes]
          have m23 : More H H3 := fun b o q => m3 b o (m2 b o q)
          obtain ⟨S1, e1, h1⟩ := (sw.more m23).src
          obtain ⟨S2, e2, h2⟩ := (sq.more m23).src
          have dl : xs.length = dss.length := Paired.length hp
          refine iteF ⟨_, rfl, _, rfl, S1, S2, ws.map V.int, xs, by rw [e1, e2], h1 _ (fun o z => z), h2 _ (fun o z => z), fun D' hD => ?_⟩
          refine lc_it (H1 := H3) (D := D') (walk_zipG (n := xs.length) (by rw [List.length_map]; omega)) (fun i H' => H' D' = some (.lst (((List.zipWith (fun ds (w : Int) => !decide (w = ws.getD (ds.getD 0 0).toNat 0)) dss ws).take i).map V.bl)) ∧ More H3 H')
            ⟨upd_same, More.new (fun _ _ e => e) hD⟩ (fun i H' _ hh => ⟨h1 _ (.of hh.2), h2 _ (.of hh.2)⟩) ?_ ?_
          · rintro i v H4 H5 hi ⟨k4, m4⟩ ⟨T, u, y, rfl, nT, rfl, hu, hy⟩
            obtain ⟨ds, hds, g⟩ := paired_at hp hy
            obtain ⟨w0, hw, rfl⟩ := map_at hu
            have m5 : More H3 (upd H4 T (.tup [.int w0, y])) := More.new m4 nT
            have nTD : D' ≠ T := ne_of_none k4 nT
            have k5 : (upd H4 T (.tup [.int w0, y])) D' = _ := (upd_ne nTD).trans k4
            obtain ⟨b', rfl, sb⟩ := (g.more (fun b o q => m5 b o (m23 b o q))).ex
            have l0 : 0 < ds.length := by have := g.len; have := (isPr_small pr).1; omega
            have d0 : (ds.map V.int)[0]? = some (.int (ds.getD 0 0)) := at_map (at_getD l0 0)
            have ok0 := g.ok (ds.getD 0 0) (by rw [List.getD_eq_getElem?_getD, List.getElem?_eq_getElem l0]; exact List.getElem_mem l0)
            have lt : (ds.getD 0 0).toNat < ws.length := by omega
            have w1 : (ws.map V.int)[(ds.getD 0 0).toNat]? = some (.int (ws.getD (ds.getD 0 0).toNat 0)) := at_map (at_getD lt 0)
            refine ⟨T, _, rfl, SqT.of upd_same, rfl, _, _, rfl, _, _, rfl, rfl, rfl, ?_⟩
            refine ⟨_, rfl, _, rfl, _, rfl, ix_any sb rfl (j := 0) d0 (ix_any (sw.more (fun b o q => m5 b o (m23 b o q))) (by omega) w1 ⟨rfl, ?_⟩)⟩
            have zb := zip_at (f := fun ds (w : Int) => !decide (w = ws.getD (ds.getD 0 0).toNat 0)) hds hw
            refine ⟨_, k5, ?_, ?_, More.at m5 hD⟩
            · rw [List.length_map, List.length_take, sizeLine_eq]
              omega
            · rw [upd_same, take_snoc zb, List.map_append, deI]
              rfl
          · rintro H4 ⟨k4, m4⟩
            have len : (List.zipWith (fun ds (w : Int) => !decide (w = ws.getD (ds.getD 0 0).toNat 0)) dss ws).length = xs.length := by
              rw [List.length_zipWith]
              omega
            rw [← len, List.take_length] at k4
            refine ⟨D', _, rfl, SqL.of k4, _, rfl, ?_⟩
            rw [any_not]
            obtain ⟨no, q⟩ | ⟨ok, q⟩ := h
            · rw [show (List.zipWith (fun ds (w : Int) => decide (w = ws.getD (ds.getD 0 0).toNat 0)) dss ws).all id = false from no]
              exact iteT (mk_ini rfl (by show 1 ≤ 900; decide) (q H4 fun b o q => m4 b o (m23 b o q)))
            · rw [show (List.zipWith (fun ds (w : Int) => decide (w = ws.getD (ds.getD 0 0).toNat 0)) dss ws).all id = true from ok]
              exact iteF (q H4 fun b o q => m4 b o (m23 b o q))
end
end K72

namespace K72
open PySem L2 Gd B5
section
variable {P : Program} {w : World} {K : PySem.W.Frag} {mg : Str → Option Value} {base : Heap}
variable {CN CR CU C fM f : Addr} {fdM fd : FuncData}
abbrev sMI : Stmt := inClass (top 22) 0
abbrev NMI : List Str := ["self", "p", "moves", "worths", "row"]
theorem scMI : FnScope NMI ["self", "p", "moves", "worths"] (defScope sMI) := ⟨rfl, rfl, rfl, by decide +kernel, rfl, by decide +kernel, by decide +kernel⟩
theorem ok_mi (F : Fun K "__init__" "Machine.__init__" sMI f fd) (B : Blt mg) (M : Cl K mg "check_machine" sCM ["p", "moves", "worths"] fM fdM) (Z : McC K mg C)
    (GM : FnOk P w K mg base (L2.CX P w) 4 fM fdM ["p", "moves", "worths"] (spCM K CN CR CU)) : FnOk P w K mg base (L2.CX P w) 5 f fd ["self", "p", "moves", "worths"] (spMI K C CN CR CU) := by
  refine F.okX scMI (fun vs H Q E h => ?_) (fun cdv A outer s H vs Q E hr h => ?_)
  · obtain ⟨a, dx, x, y, z, rfl, _⟩ := h
    rfl
  · obtain ⟨a, dx, x, y, z, rfl, ha, h⟩ := h
    refine ⟨_, pss_cons (ps_expr (pe_call GM hr rfl M.g M.k M.b .nil (passes_call (takes_of rfl rfl rfl rfl) (fun _ _ _ _ h => h)) (pa_cons (pv 1) (pa_cons (pv 2) (pa_cons (pv 3) pa_nil)))))
      (pss_cons (ps_fld (pv 0) (pv 1) rfl)
      (pss_cons (ps_fld (pv 0) (pe_callTy call_tuple_of (by rfl) B.tup_ (by decide +kernel) (pa_cons (pe_lc (own := [("row", 4)]) (g := gName 4) (tt := tYes) rfl scMI.nd (pi_sq (K := K) rfl (pv 2))
          (blkOk_by (N := NMI) (sc := defScope sMI) (by decide +kernel)) (fun _ _ _ _ _ => pg_name (i := 4) scMI.nd rfl (Or.inl rfl)) (fun _ _ _ _ _ => pts_nil)
          (fun _ _ _ _ _ => pe_callTy (r := rTof K) (call_tof rfl) (by rfl) B.tup_ (by decide +kernel) (pa_cons (pv 4) pa_nil))) pa_nil)) rfl)
      (pss_cons (ps_fld (pv 0) (pe_callTy call_tuple_of (by rfl) B.tup_ (by decide +kernel) (pa_cons (pv 3) pa_nil)) rfl)
      (pss_one (ps_fld (pv 0) (pe_callB call_len_seq (by rfl) B.len_ PySem.boot_len (pa_cons (pe_fld (pv 0) rfl) pa_nil)) rfl))))), ?_⟩
    obtain h | ⟨p, dss, ws, ok, q⟩ := h
    · exact ⟨_, rfl, _, rfl, _, rfl, _, _, _, rfl, .inl h⟩
    refine ⟨_, rfl, _, rfl, _, rfl, _, _, _, rfl, .inr ⟨p, dss, ws, ok, fun H1 m1 => ?_⟩⟩
    obtain ⟨rfl, pr, ⟨ay, xs, rfl, sq, few, ne, hp⟩, ⟨az, rfl, sw⟩, lw, st⟩ := ok
    have dl : xs.length = dss.length := Paired.length hp
    have ha1 := m1 _ _ ha
    refine ⟨_, rfl, _, rfl, a, C, dx, _, rfl, ha1, Z.ic.cl, Z.n1, by show 0 < 1000; decide, ?_⟩
    have o2 : Off a H1 (upd H1 a (.ins C dx (putF "p" (.int p) []))) := Off.upd
    have sq2 := sq_ins ha1 o2 (sq.more m1)
    have ha2 : (upd H1 a (.ins C dx (putF "p" (.int p) []))) a = some (.ins C dx [("p", .int p)]) := upd_same
    generalize upd H1 a (.ins C dx (putF "p" (.int p) [])) = H2 at o2 sq2 ha2 ⊢
    refine ⟨_, rfl, ay, xs, rfl, sq2, fun J W wk hZ D hD => ?_⟩
    refine lc_rel (n := 4) (D := D) (H1 := H2) wk (fun i v H' => ∃ ds, dss[i]? = some ds ∧ TupI K H' v ds) (fun i v H' H'' m ⟨ds, e, t⟩ => ⟨ds, e, t.more m⟩) hD (fun H' m => hZ H' (.of m)) (by omega) (fun _ => rfl) ?_ ?_
    · intro i yv H3 Q3 hy m3 m3' ⟨l0, hl0⟩ q3
      obtain ⟨ds, hds, g⟩ := paired_at hp hy
      obtain ⟨b, rfl, sb⟩ := g.ex
      refine ⟨_, rfl, b, ds.map V.int, rfl, ?_⟩
      rcases sq_ins ha1 o2 (sb.more m1) with s | s
      · refine .inl ⟨Same.seq m3 s, fun l hl => q3 _ _ (new_more hl) ⟨ds, hds, l, rfl, SqT.of ?_⟩⟩
        rw [del_ne (ne_of_none hl0 hl).symm, upd_same]
      · exact .inr ⟨sqT_more m3 s, q3 _ _ (fun _ _ e => e) ⟨ds, hds, b, rfl, sqT_more m3' s⟩⟩
    · intro H3 G rs rl mG mH nG al hD3
      refine ⟨D, rs, rfl, .inl ⟨SqL.of hD3, fun t ht => ?_⟩⟩
      have m3 : More H2 (upd H3 t (.tup rs)) := fun b o e => new_more ht _ _ (mH _ _ (mG _ _ e))
      have pr3 : Paired (TupI K (upd H3 t (.tup rs))) rs dss := paired_of (by omega) fun i x y hx hy => by
        obtain ⟨ds, e, ti⟩ := al i x hx
        rw [hy] at e
        cases e
        exact ti.more fun b o e => new_more ht _ _ (mH _ _ e)
      have t3 : (upd H3 t (.tup rs)) t = some (.tup rs) := upd_same
      have nat : a ≠ t := ne_of_none (mH _ _ (mG _ _ ha2)) ht
      generalize upd H3 t (.tup rs) = H4 at m3 pr3 t3 ⊢
      have ha4 := m3 _ _ ha2
      refine ⟨_, rfl, a, C, dx, _, rfl, ha4, Z.ic.cl, Z.n2, by show 1 < 1000; decide, ?_⟩
      have o5 : Off a H4 (upd H4 a (.ins C dx (putF "moves" (.ref t) [("p", .int p)]))) := Off.upd
      have ha5 : (upd H4 a (.ins C dx (putF "moves" (.ref t) [("p", .int p)]))) a = some (.ins C dx [("p", .int p), ("moves", .ref t)]) := upd_same
      generalize upd H4 a (.ins C dx (putF "moves" (.ref t) [("p", .int p)])) = H5 at o5 ha5 ⊢
      have t5 := o5 _ _ t3 nat.symm
      have pr5 : Paired (TupI K H5) rs dss := paired_imp (fun x y ⟨b, e, s⟩ => ⟨b, e, sqT_off ha4 (fun _ e => nomatch e) (fun _ _ e => nomatch e) o5 s⟩) pr3
      have sw5 : Sq K H5 az (ws.map V.int) := sq_ins ha4 o5 ((sq_ins ha1 o2 (sw.more m1)).more m3)
      have o05 : Off a H H5 := fun b o e n => o5 _ _ (m3 _ _ (o2 _ _ (m1 _ _ e) n)) n
      -- the worths
      have fin : ∀ (u : Addr) (H6 : Hp), More H5 H6 → SqT K H6 u (ws.map V.int) → MAt K (upd (upd H6 a (.ins C dx (putF "worths" (.ref u) [("p", .int p), ("moves", .ref t)]))) a (.ins C dx [("p", .int p), ("moves", .ref t), ("worths", .ref u), ("size", .int (rs.length : Nat))])) C a p dss ws := by
        intro u H6 m6 su
        rw [upd_upd]
        have ha6 := m6 _ _ ha5
        have o7 : Off a H6 (upd H6 a (.ins C dx [("p", .int p), ("moves", .ref t), ("worths", .ref u), ("size", .int (rs.length : Nat))])) := Off.upd
        refine ⟨dx, t, u, rs, ?_, SqT.of (o7 _ _ (m6 _ _ t5) nat.symm), paired_imp (fun x y ⟨b, e, s⟩ => ⟨b, e, sqT_off ha6 (fun _ e => nomatch e) (fun _ _ e => nomatch e) o7 (sqT_more m6 s)⟩) pr5, sqT_off ha6 (fun _ e => nomatch e) (fun _ _ e => nomatch e) o7 su⟩
        rw [upd_same, rl, dl]
      have last : ∀ (u : Addr) (H6 : Hp), More H5 H6 → SqT K H6 u (ws.map V.int) → Q .non (upd (upd H6 a (.ins C dx (putF "worths" (.ref u) [("p", .int p), ("moves", .ref t)]))) a (.ins C dx [("p", .int p), ("moves", .ref t), ("worths", .ref u), ("size", .int (rs.length : Nat))])) := by
        intro u H6 m6 su
        refine q _ (fun b o e n => ?_) (fin u H6 m6 su)
        rw [upd_ne n, upd_ne n]
        exact m6 _ _ (o05 _ _ e n)
      have store : ∀ (u : Addr) (H6 : Hp), More H5 H6 → SqT K H6 u (ws.map V.int) → ∃ p' C' dx' fs, V.ref a = .ref p' ∧ H6 p' = some (.ins C' dx' fs) ∧ True := fun u H6 m6 _ => ⟨_, _, _, _, rfl, m6 _ _ ha5, trivial⟩
      have ht7 : ∀ (u : Addr) (H6 : Hp), More H5 H6 → SqT K (upd H6 a (.ins C dx (putF "worths" (.ref u) [("p", .int p), ("moves", .ref t)]))) t rs := fun u H6 m6 => SqT.of (by rw [upd_ne nat.symm]; exact m6 _ _ t5)
      rcases sw5 with s | s
      · refine ⟨_, rfl, az, ws.map V.int, rfl, .inl ⟨s, fun u hu => ?_⟩⟩
        have m6 := new_more (o := .tup (ws.map V.int)) hu
        have su : SqT K (upd H5 u (.tup (ws.map V.int))) u (ws.map V.int) := SqT.of upd_same
        generalize upd H5 u (.tup (ws.map V.int)) = H6 at m6 su ⊢
        refine ⟨_, rfl, a, C, dx, _, rfl, m6 _ _ ha5, Z.ic.cl, Z.n3, by show 2 < 1000; decide, ?_⟩
        exact ⟨_, rfl, a, C, dx, _, _, rfl, upd_same, Z.ic.cl, Z.n2, rfl, t, _, rfl, .inr (ht7 u H6 m6), _, rfl, a, C, dx, _, rfl, upd_same, Z.ic.cl, Z.n4, by show 3 < 1000; decide, last u H6 m6 su⟩
      · refine ⟨_, rfl, az, ws.map V.int, rfl, .inr ⟨s, ?_⟩⟩
        refine ⟨_, rfl, a, C, dx, _, rfl, ha5, Z.ic.cl, Z.n3, by show 2 < 1000; decide, ?_⟩
        exact ⟨_, rfl, a, C, dx, _, _, rfl, upd_same, Z.ic.cl, Z.n2, rfl, t, _, rfl, .inr (ht7 az H5 (fun _ _ e => e)), _, rfl, a, C, dx, _, rfl, upd_same, Z.ic.cl, Z.n4, by show 3 < 1000; decide, last az H5 (fun _ _ e => e) s⟩
end
end K72

namespace K72
open PySem L2 Gd B5
section
variable {P : Program} {w : World} {K : PySem.W.Frag} {mg : Str → Option Value} {base : Heap}
variable {CN C fI fN fD f : Addr} {fdI fdN fdD fd : FuncData}
abbrev sME : Stmt := inClass (top 22) 1
abbrev sMA : Stmt := inClass (top 22) 2
theorem scME : FnScope ["self", "other"] ["self", "other"] (defScope sME) := ⟨rfl, rfl, rfl, by decide +kernel, rfl, by decide +kernel, by decide +kernel⟩
theorem scMA : FnScope ["self", "n", "state", "digit"] ["self", "n"] (defScope sMA) := ⟨rfl, rfl, rfl, by decide +kernel, rfl, by decide +kernel, by decide +kernel⟩
theorem ok_me (F : Fun K "__eq__" "Machine.__eq__" sME f fd) (B : Blt mg) (Z : McC K mg C) : FnOk P w K mg base CX0 1 f fd ["self", "other"] (spMEq K C) := by
  refine F.ok scME (fun vs H Q E h => ?_) (fun cdv A outer s H vs Q E hr h => ?_)
  · obtain ⟨a, y, p, dss, ws, rfl, _⟩ := h
    rfl
  · obtain ⟨a, y, p, dss, ws, rfl, ⟨dx, t, u, xs, h1, h2, h3, h4⟩, h⟩ := h
    have hu64 := hr.units
    refine ⟨_, pss_one (ps_ret (pe_and (pe_callB call_isi (by rfl) B.isi_ (by decide +kernel) (pa_cons (pv 1) (pa_cons (pe_glob (v := .ref C) rfl Z.g rfl) pa_nil)))
      (pe_and (pe_cmpR op_eq (pe_fld (pv 0) rfl) (pe_fld (pv 1) rfl) (nomark _))
      (pe_and (pe_cmpR (op_eqD hu64) (pe_fld (pv 0) rfl) (pe_fld (pv 1) rfl) (nomark _))
      (pe_one (pe_cmpR (op_eqD hu64) (pe_fld (pv 0) rfl) (pe_fld (pv 1) rfl) (nomark _))))))), ?_⟩
    obtain ⟨n, hn, ty, q⟩ | ⟨b, p2, dss2, ws2, rfl, mb, q⟩ := h
    · exact ⟨_, rfl, y, .ref C, _, _, _, rfl, .own C, ty, Z.no n hn, _, rfl, iteF q⟩
    · have ty := mb.ty Z
      obtain ⟨dx2, t2, u2, xs2, k1, k2, k3, k4⟩ := mb
      refine ⟨_, rfl, _, .ref C, _, _, _, rfl, .own C, ty, Z.ic.me, _, rfl, iteT ?_⟩
      refine ⟨_, rfl, a, C, dx, _, _, rfl, h1, Z.ic.cl, Z.n1, rfl, _, rfl, b, C, dx2, _, _, rfl, k1, Z.ic.cl, Z.n1, rfl, rfl, _, rfl, ?_⟩
      rw [deI]
      by_cases e1 : p = p2
      · rw [decide_eq_true e1]
        refine iteT ⟨_, rfl, a, C, dx, _, _, rfl, h1, Z.ic.cl, Z.n2, rfl, _, rfl, b, C, dx2, _, _, rfl, k1, Z.ic.cl, Z.n2, rfl, _, _, dp_R h2 h3, dp_R k2 k3, shaped_R _, shaped_R _, _, rfl, ?_⟩
        rw [eqv_R]
        by_cases e2 : dss = dss2
        · rw [decide_eq_true e2]
          refine iteT ⟨_, rfl, a, C, dx, _, _, rfl, h1, Z.ic.cl, Z.n3, rfl, _, rfl, b, C, dx2, _, _, rfl, k1, Z.ic.cl, Z.n3, rfl, _, _, dp_I h4, dp_I k4, shaped_I _, shaped_I _, ?_⟩
          rw [eqv_I]
          have : decide (ws = ws2) = decide (p = p2 ∧ dss = dss2 ∧ ws = ws2) := by
            rw [decide_eq_decide]
            exact ⟨fun z => ⟨e1, e2, z⟩, fun z => z.2.2⟩
          rw [this]
          exact q
        · rw [decide_eq_false e2]
          rw [decide_eq_false fun z => e2 z.2.1] at q
          exact iteF q
      · rw [decide_eq_false e1]
        rw [decide_eq_false fun z => e1 z.1] at q
        exact iteF q
theorem ok_ma (F : Fun K "at" "Machine.at" sMA f fd) (B : Blt mg) (Z : McC K mg C) (I : Cl K mg "is_integer" sIsI ["value"] fI fdI) (Dg : Cl K mg "digits" sDg ["n", "p"] fD fdD)
    (N : Er K mg "BadNumber" "BadNumber.__init__" CN fN ["what", "number"] sBadNumber fdN) (GD : FnOk P w K mg base (L2.CX P w) 4 fD fdD ["n", "p"] (spDg K CN)) : FnOk P w K mg base (L2.CX P w) 5 f fd ["self", "n"] (spMAt K C CN) := by
  have GI : FnOk P w K mg base CX0 1 fI fdI ["value"] (spIsI K) := ok_isI I.fn B.isi_ B.int_ B.bool_
  have GN : FnOk P w K mg base CX0 1 fN fdN ["self", "what", "number"] (spIni CN ["what", "number"]) := okBadNumber N.fn N.T N.no
  refine F.okX scMA (fun vs H Q E h => ?_) (fun cdv A outer s H vs Q E hr h => ?_)
  · obtain ⟨a, x, p, dss, ws, rfl, _⟩ := h
    rfl
  · obtain ⟨a, x, p, dss, ws, rfl, ma, g, h⟩ := h
    have hr1 : Room 1 _ := hr.mono (by decide)
    have hr2 : Room 2 _ := hr.mono (by decide)
    refine ⟨_, pss_cons (ps_if (PW.pt (pw_or (pt_not (pt_val (pe_call GI hr1 rfl I.g I.k I.b .nil pass0 (pa_cons (pv 1) pa_nil))))
          (pw_or1 (pt_cmpR op_lt (pv 1) pe_int (nomark _)))))
        (pss_one (ps_raise rfl (takes_of rfl rfl rfl rfl) (pmk_oex N.T N.iC N.tI GN hr2 N.b .nil pass0 rfl N.g (pa_cons pe_str (pa_cons (pv 1) pa_nil))))) pss_nil)
      (pss_cons (ps_set (i := 2) scMA.nd rfl (Or.inl rfl) pe_int)
      (pss_cons (ps_for (passes_of rfl) rfl (pi_sq (K := K) rfl (pe_call GD hr rfl Dg.g Dg.k Dg.b .nil (passes_call (takes_of rfl rfl rfl rfl) (fun _ _ _ _ h => h)) (pa_cons (pv 1) (pa_cons (pe_fld (pv 0) rfl) pa_nil)))) (pg_name (i := 3) scMA.nd rfl (Or.inl rfl))
        (pss_one (ps_set (i := 2) scMA.nd rfl (Or.inl rfl) (pe_ix ix_seq (pe_ix ix_seq (pe_fld (pv 0) rfl) (pv 2) (fun _ _ => rfl)) (pv 3) (fun _ _ => rfl)))))
      (pss_one (ps_ret (pe_ix ix_seq (pe_fld (pv 0) rfl) (pv 2) (fun _ _ => rfl)))))), ?_⟩
    obtain ⟨n, rfl, big, q⟩ | ⟨⟨i, rfl, neg⟩ | bad, q⟩ := h
    · obtain ⟨p2, p7⟩ := isPr_small g.pr
      obtain ⟨dx, t, u, xs, h1, h2, h3, h4⟩ := id ma
      refine ⟨_, rfl, _, rfl, .inl ⟨_, rfl, _, rfl, iteF ⟨_, rfl, _, _, rfl, rfl, _, rfl, ?_⟩⟩⟩
      rw [show decide ((n : Int) < 0) = false from decide_eq_false (by omega)]
      refine iteF ?_
      have ep : p = (p.toNat : Int) := by omega
      refine ⟨_, rfl, _, rfl, a, C, dx, _, _, rfl, h1, Z.ic.cl, Z.n1, rfl, _, _, rfl, .inl ⟨n, p.toNat, rfl, by rw [← ep], by rw [← ep]; exact g.pr, big, fun H1 tD m1 nD hD => ?_⟩⟩
      refine ⟨tD, _, rfl, .inr (SqT.of hD), fun J W wk hZ => ?_⟩
      have dl : xs.length = dss.length := Paired.length h3
      have digs : ∀ d ∈ dgs p.toNat n, 0 ≤ d ∧ d < p := fun d hd => by
        have := dgs_are (p := p.toNat) (by omega) n n (Nat.le_refl _) d hd
        omega
      have d0 : 0 < dss.length := List.length_pos_iff.mpr g.ne
      refine for_it wk (fun i σ' H' => ∃ z3, σ' = [some (.ref a), some (.int n), some (.int ((((dgs p.toNat n).take i).foldl (stepM dss) 0 : Nat) : Int)), z3] ∧ More H1 H') ⟨none, rfl, fun _ _ e => e⟩ (fun i σ' H' _ ⟨_, _, m⟩ => hZ H' (.of m)) ?_ ?_
      · rintro i y σ2 H2 H3 hi ⟨z3, rfl, m2⟩ ⟨rfl, hy⟩
        obtain ⟨d, hd, rfl⟩ := map_at hy
        obtain ⟨dd0, dd1⟩ := digs d (List.mem_of_getElem? hd)
        have m3 : More H H3 := fun b o e => m2 b o (m1 b o e)
        have lt := g.run ((dgs p.toNat n).take i) 0 d0 fun x hx => digs x (List.mem_of_mem_take hx)
        obtain ⟨ds, e1, e2, e3⟩ := g.step lt dd0 dd1
        obtain ⟨ds', e4, b, e5, sb⟩ : ∃ ds', dss[((dgs p.toNat n).take i).foldl (stepM dss) 0]? = some ds' ∧ TupI K H (xs.getD (((dgs p.toNat n).take i).foldl (stepM dss) 0) .non) ds' := paired_at h3 (at_getD (by omega) _)
        rw [e1] at e4
        cases e4
        refine ⟨_, rfl, a, C, dx, _, _, rfl, m3 _ _ h1, Z.ic.cl, Z.n2, rfl, _, rfl, ix_any (.inr (sqT_more m3 h2)) rfl (at_getD (by omega) .non) ?_⟩
        refine ⟨_, rfl, ?_⟩
        rw [e5]
        refine ix_any (j := d.toNat) (.inr (sqT_more m3 sb)) (by omega) (at_map e2) ⟨some (.int d), ?_, m2⟩
        rw [take_snoc hd, List.foldl_append]
        rfl
      · rintro σ2 H2 ⟨z3, rfl, m2⟩
        rw [List.length_map, List.take_length]
        have m3 : More H H2 := fun b o e => m2 b o (m1 b o e)
        have lt := g.run (dgs p.toNat n) 0 d0 digs
        exact ⟨_, rfl, a, C, dx, _, _, rfl, m3 _ _ h1, Z.ic.cl, Z.n3, rfl, _, rfl, ix_any (.inr (sqT_more m3 h4)) rfl (at_map (at_getD (by rw [g.len]; exact lt) 0)) (q _ m3)⟩
    · refine ⟨_, rfl, _, rfl, .inl ⟨i, rfl, _, rfl, iteF ⟨_, rfl, _, _, rfl, rfl, _, rfl, ?_⟩⟩⟩
      rw [show decide (i < 0) = true from decide_eq_true neg]
      exact iteT ⟨_, rfl, mk_ini rfl (by show 2 ≤ 900; decide) q⟩
    · exact ⟨_, rfl, _, rfl, .inr (.inl ⟨bad, _, rfl, iteT (iteT ⟨_, rfl, mk_ini rfl (by show 2 ≤ 900; decide) q⟩)⟩)⟩
end
end K72

/-! Ring: a function on the numbers below n, followed; the ring to which it leads. -/
namespace Ring
def it (f : Nat → Nat) : Nat → Nat → Nat
  | 0, x => x
  | k + 1, x => f (it f k x)
theorem it_in (f : Nat → Nat) : ∀ (k x : Nat), it f k (f x) = it f (k + 1) x
  | 0, _ => rfl
  | k + 1, x => by
    show f (it f k (f x)) = f (it f (k + 1) x)
    rw [it_in f k x]
theorem it_add (f : Nat → Nat) : ∀ (a b x : Nat), it f (a + b) x = it f a (it f b x)
  | 0, b, x => by rw [Nat.zero_add]; rfl
  | a + 1, b, x => by
    rw [Nat.add_right_comm]
    show f (it f (a + b) x) = f (it f a (it f b x))
    rw [it_add f a b x]
theorem it_lt {f : Nat → Nat} {n : Nat} (h : ∀ x, x < n → f x < n) : ∀ (k x : Nat), x < n → it f k x < n
  | 0, _, hx => hx
  | k + 1, x, hx => h _ (it_lt h k x hx)
theorem nodup_few : ∀ (n : Nat) (l : List Nat), l.Nodup → (∀ x ∈ l, x < n) → l.length ≤ n
  | 0, [], _, _ => Nat.le_refl _
  | 0, x :: _, _, h => absurd (h x (.head _)) (Nat.not_lt_zero _)
  | n + 1, l, nd, h => by
    have h1 := nodup_few n (l.erase n) (nd.erase n) fun x hx => by
      have hm := List.mem_of_mem_erase hx
      have := h x hm
      have : x ≠ n := fun e => by
        subst e
        exact (List.Nodup.not_mem_erase nd) hx
      omega
    by_cases m : n ∈ l
    · have := List.length_erase_of_mem m
      omega
    · rw [List.erase_of_not_mem m] at h1
      omega
/-- two turns meet -/
theorem meet {f : Nat → Nat} {n : Nat} (h : ∀ x, x < n → f x < n) {x : Nat} (hx : x < n) : ∃ i j, i < j ∧ j ≤ n ∧ it f i x = it f j x := by
  apply Classical.byContradiction
  intro no
  have nd : ((List.range (n + 1)).map fun k => it f k x).Nodup := by
    rw [List.nodup_iff_pairwise_ne, List.pairwise_map]
    refine List.Pairwise.imp_of_mem ?_ (List.pairwise_lt_range (n := n + 1))
    intro a b ha hb lt e
    exact no ⟨a, b, lt, by have := List.mem_range.mp hb; omega, e⟩
  have := nodup_few n _ nd fun y hy => by
    obtain ⟨k, _, rfl⟩ := List.mem_map.mp hy
    exact it_lt h k x hx
  rw [List.length_map, List.length_range] at this
  omega
/-- behind n turns one is on a ring of at most n -/
theorem back {f : Nat → Nat} {n : Nat} (h : ∀ x, x < n → f x < n) {x : Nat} (hx : x < n) : ∃ k, 1 ≤ k ∧ k ≤ n ∧ it f k (it f n x) = it f n x := by
  obtain ⟨i, j, lt, le, e⟩ := meet h hx
  refine ⟨j - i, by omega, by omega, ?_⟩
  have e1 : it f n x = it f (n - j) (it f j x) := by rw [← it_add]; congr 1; omega
  have e2 : it f n x = it f (n - i) (it f i x) := by rw [← it_add]; congr 1; omega
  have e3 : it f (j - i) (it f (n - j) (it f j x)) = it f (n - i) (it f j x) := by rw [← it_add]; congr 1; omega
  rw [e1, e3]
  refine Eq.trans ?_ e1
  rw [← e]
  exact e2.symm
/-- what the laps round the ring have found -/
structure Lap (f : Nat → Nat) (x j : Nat) (ring : List Nat) (at_ : Nat) : Prop where
  here : x ∈ ring
  all : ∀ y ∈ ring, ∃ i, y = it f i x
  ends : (at_ = x ∧ ∀ y ∈ ring, f y ∈ ring) ∨ (at_ = it f (j + 1) x ∧ (∀ i, 1 ≤ i → i ≤ j → it f i x ≠ x) ∧ ∀ y ∈ ring, f y ∈ ring ∨ f y = at_)
theorem Lap.start (f : Nat → Nat) (x : Nat) : Lap f x 0 [x] (f x) where
  here := .head _
  all := fun y hy => ⟨0, by simpa [it] using hy⟩
  ends := .inr ⟨rfl, fun i h1 h2 => by omega, fun y hy => by
    have e : y = x := by simpa using hy
    rw [e]
    exact .inr rfl⟩
theorem Lap.stay {f : Nat → Nat} {x j : Nat} {ring : List Nat} (l : Lap f x j ring x) : Lap f x (j + 1) ring x where
  here := l.here
  all := l.all
  ends := .inl ⟨rfl, by
    obtain ⟨_, h⟩ | ⟨e, no, h⟩ := l.ends
    · exact h
    · intro y hy
      obtain h | h := h y hy
      · exact h
      · rw [h]
        exact l.here⟩
theorem Lap.go {f : Nat → Nat} {x j a : Nat} {ring : List Nat} (l : Lap f x j ring a) (ne : a ≠ x) : Lap f x (j + 1) (ring ++ [a]) (f a) := by
  obtain ⟨e, _⟩ | ⟨e, no, h⟩ := l.ends
  · exact absurd e ne
  refine ⟨List.mem_append.mpr (.inl l.here), fun y hy => ?_, .inr ⟨by rw [e]; rfl, fun i h1 h2 => ?_, fun y hy => ?_⟩⟩
  · rcases List.mem_append.mp hy with hy | hy
    · exact l.all y hy
    · have : y = a := by simpa using hy
      exact ⟨j + 1, this.trans e⟩
  · by_cases z : i = j + 1
    · rw [z, ← e]
      exact ne
    · exact no i h1 (by omega)
  · rcases List.mem_append.mp hy with hy | hy
    · obtain h | h := h y hy
      · exact .inl (List.mem_append.mpr (.inl h))
      · exact .inl (List.mem_append.mpr (.inr (by rw [h]; exact .head _)))
    · have : y = a := by simpa using hy
      rw [this]
      exact .inr rfl
/-- the ring is found -/
theorem Lap.done {f : Nat → Nat} {x j a k : Nat} {ring : List Nat} (l : Lap f x j ring a) (k1 : 1 ≤ k) (kj : k ≤ j) (e : it f k x = x) : ∀ i, it f i x ∈ ring := by
  have cl : ∀ y ∈ ring, f y ∈ ring := by
    obtain ⟨_, h⟩ | ⟨_, no, _⟩ := l.ends
    · exact h
    · exact absurd e (no k k1 kj)
  intro i
  induction i with
  | zero => exact l.here
  | succ i ih => exact cl _ ih
/-- m is the least number of the ring to which x leads -/
def Low (f : Nat → Nat) (n x m : Nat) : Prop := (∃ i, m = it f i (it f n x)) ∧ ∀ i, m ≤ it f i (it f n x)
theorem Low.one {f : Nat → Nat} {n x m m' : Nat} (a : Low f n x m) (b : Low f n x m') : m = m' := by
  obtain ⟨⟨i, rfl⟩, h⟩ := a
  obtain ⟨⟨j, rfl⟩, h'⟩ := b
  exact Nat.le_antisymm (h j) (h' i)
theorem Low.next {f : Nat → Nat} {n x m : Nat} (h : ∀ x, x < n → f x < n) (hx : x < n) (l : Low f n x m) : Low f n (f x) m := by
  obtain ⟨⟨i, e⟩, al⟩ := l
  obtain ⟨k, k1, _, ek⟩ := back h hx
  have z : ∀ i, it f i (it f n (f x)) = it f (i + 1) (it f n x) := fun i => by
    rw [it_in, ← it_in f i (it f n x)]
    rfl
  have round : ∀ i, it f (i + k) (it f n x) = it f i (it f n x) := fun i => by rw [it_add, ek]
  refine ⟨⟨i + (k - 1), ?_⟩, fun i => ?_⟩
  · rw [z, show i + (k - 1) + 1 = i + k by omega, round]
    exact e
  · rw [z]
    exact al _
theorem Lap.low {f : Nat → Nat} {n x a : Nat} {ring : List Nat} (h : ∀ x, x < n → f x < n) (hx : x < n) (l : Lap f (it f n x) n ring a) {m : Nat} (hm : m ∈ ring) (al : ∀ y ∈ ring, m ≤ y) : Low f n x m := by
  obtain ⟨k, k1, kn, ek⟩ := back h hx
  exact ⟨l.all m hm, fun i => al _ (l.done k1 kn ek i)⟩
theorem least_of {P : Nat → Prop} : ∀ k, P k → ∃ m, P m ∧ ∀ j, P j → m ≤ j := by
  intro k
  induction k using Nat.strongRecOn with
  | ind k ih =>
    intro h
    by_cases z : ∃ j, j < k ∧ P j
    · obtain ⟨j, lt, pj⟩ := z
      exact ih j lt pj
    · exact ⟨k, h, fun j pj => Nat.le_of_not_lt fun lt => z ⟨j, lt, pj⟩⟩
theorem Low.ex (f : Nat → Nat) (n x : Nat) : ∃ m, Low f n x m := by
  obtain ⟨m, h, al⟩ := least_of (P := fun y => ∃ i, y = it f i (it f n x)) _ ⟨0, rfl⟩
  exact ⟨m, h, fun i => al _ ⟨i, rfl⟩⟩
end Ring

namespace K72
open PySem L2 Gd B5
/-- the lists of the states' rows at D -/
structure SS (H0 : Hp) (d c D : Addr) (as : List Addr) (dss : List (List Int)) (i m p : Nat) (n0 n1 : Int) (H : Hp) : Prop where
  pen : ∃ n, Pen H d c n ∧ n0 ≤ n ∧ n ≤ n1
  off : Off d H0 H
  hD : H D = some (.lst (as.map V.ref))
  nD : H0 D = none
  nd : as.Nodup
  new : ∀ a ∈ as, H0 a = none ∧ a ≠ D
  rows : ∀ (j : Nat) a, as[j]? = some a → ∃ ds, dss[j]? = some ds ∧ H a = some (.lst (ds.map V.int))
  la : as.length = i
  ld : dss.length = i
  ok : ∀ ds ∈ dss, ds.length = p ∧ ∀ x ∈ ds, 0 ≤ x ∧ x < (m : Int)
theorem SS.dne {H0 H : Hp} {d c D : Addr} {as : List Addr} {dss : List (List Int)} {i m p : Nat} {n0 n1 : Int} (s : SS H0 d c D as dss i m p n0 n1 H) : ∃ kvs, H d = some (.dK kvs) := let ⟨_, ⟨kvs, _, _, _, _, h, _⟩, _⟩ := s.pen; ⟨kvs, h⟩
/-- what leaves all but the pen's dict as it is -/
theorem SS.keep {H0 H H' : Hp} {d c D : Addr} {as : List Addr} {dss : List (List Int)} {i m p : Nat} {n0 n1 n2 : Int} (s : SS H0 d c D as dss i m p n0 n1 H) (m1 : Off d H H') (pen : ∃ n, Pen H' d c n ∧ n0 ≤ n ∧ n ≤ n2) : SS H0 d c D as dss i m p n0 n2 H' where
  pen := pen
  off := s.off.trans m1
  hD := m1 _ _ s.hD fun e => by
    obtain ⟨kvs, h⟩ := s.dne
    have := s.hD
    rw [e, h] at this
    cases this
  nD := s.nD
  nd := s.nd
  new := s.new
  rows := fun j a h => by
    obtain ⟨ds, e, g⟩ := s.rows j a h
    refine ⟨ds, e, m1 _ _ g fun z => ?_⟩
    obtain ⟨kvs, h⟩ := s.dne
    rw [z, h] at g
    cases g
  la := s.la
  ld := s.ld
  ok := s.ok
theorem SS.more {H0 H H' : Hp} {d c D : Addr} {as : List Addr} {dss : List (List Int)} {i m p : Nat} {n0 n1 : Int} (s : SS H0 d c D as dss i m p n0 n1 H) (m1 : More H H') : SS H0 d c D as dss i m p n0 n1 H' :=
  s.keep (.of m1) (let ⟨n, pn, a, b⟩ := s.pen; let ⟨o1, h1⟩ := pn.at; let ⟨o2, h2⟩ := pn.atc; ⟨n, pn.keep ((m1 _ _ h1).trans h1.symm) ((m1 _ _ h2).trans h2.symm), a, b⟩)
theorem SS.snoc {H0 H H' : Hp} {d c D L : Addr} {as : List Addr} {dss : List (List Int)} {i m p : Nat} {n0 n1 n2 : Int} {ys : List Int} (s : SS H0 d c D as dss i m p n0 n1 H) (m1 : Off d H H') (pen : ∃ n, Pen H' d c n ∧ n0 ≤ n ∧ n ≤ n2) (hc : c ≠ D) (nL : H L = none)
    (hL : H' L = some (.lst (ys.map V.int))) (l : ys.length = p) (al : ∀ x ∈ ys, 0 ≤ x ∧ x < (m : Int)) : SS H0 d c D (as ++ [L]) (dss ++ [ys]) (i + 1) m p n0 n2 (L2.upd H' D (.lst ((as ++ [L]).map V.ref))) := by
  have s' := s.keep m1 pen
  obtain ⟨n, pn, b1, b2⟩ := pen
  have dD : D ≠ d := fun e => by
    obtain ⟨kvs, h⟩ := s'.dne
    have := s'.hD
    rw [e, h] at this
    cases this
  have LD : L ≠ D := fun e => by rw [e, s.hD] at nL; cases nL
  have Lnew : L ∉ as := fun hm => by
    obtain ⟨j, hj, e⟩ := List.getElem_of_mem hm
    obtain ⟨ds, _, g⟩ := s.rows j L (by rw [List.getElem?_eq_getElem hj, e])
    rw [nL] at g
    cases g
  refine ⟨⟨n, pn.updA dD hc.symm, b1, b2⟩, s'.off.at s.nD, upd_same, s.nD, ?_, ?_, ?_, ?_, ?_, ?_⟩
  · rw [List.nodup_append]
    refine ⟨s.nd, by simp, fun a ha b hb e => ?_⟩
    have : b = L := by simpa using hb
    rw [e, this] at ha
    exact Lnew ha
  · intro a ha
    rcases List.mem_append.mp ha with ha | ha
    · exact s.new a ha
    · have : a = L := by simpa using ha
      rw [this]
      exact ⟨s.off.gone (let ⟨kvs, h⟩ := s.dne; ⟨_, h⟩) nL, LD⟩
  · intro j a h
    by_cases z : j < as.length
    · rw [List.getElem?_append_left z] at h
      obtain ⟨ds, e, g⟩ := s'.rows j a h
      refine ⟨ds, by rw [List.getElem?_append_left (by rw [s.ld, ← s.la]; exact z)]; exact e, ?_⟩
      rw [upd_ne (s.new a (List.mem_of_getElem? h)).2]
      exact g
    · have lt := (List.getElem?_eq_some_iff.mp h).1
      rw [List.length_append] at lt
      have lt : j < as.length + 1 := lt
      have ej : j = as.length := by omega
      rw [ej, List.getElem?_append_right (Nat.le_refl _), Nat.sub_self] at h
      cases h
      refine ⟨ys, ?_, ?_⟩
      · rw [ej, show as.length = dss.length by rw [s.la, s.ld], List.getElem?_append_right (Nat.le_refl _), Nat.sub_self]
        rfl
      · rw [upd_ne LD]
        exact hL
  · rw [List.length_append, s.la]; rfl
  · rw [List.length_append, s.ld]; rfl
  · intro ds hds
    rcases List.mem_append.mp hds with hds | hds
    · exact s.ok ds hds
    · have : ds = ys := by simpa using hds
      rw [this]
      exact ⟨l, al⟩
theorem SS.put {H0 H : Hp} {d c D a : Addr} {as : List Addr} {dss : List (List Int)} {i m p j : Nat} {n0 n1 : Int} {ys : List Int} (s : SS H0 d c D as dss i m p n0 n1 H) (hc : ∃ o, H0 c = some o) (ha : as[j]? = some a)
    (l : ys.length = p) (al : ∀ x ∈ ys, 0 ≤ x ∧ x < (m : Int)) : SS H0 d c D as (dss.set j ys) i m p n0 n1 (L2.upd H a (.lst (ys.map V.int))) := by
  obtain ⟨n, pn, b1, b2⟩ := s.pen
  have hm := List.mem_of_getElem? ha
  obtain ⟨na, aD⟩ := s.new a hm
  have ad : a ≠ d := fun e => by
    obtain ⟨ds, _, g⟩ := s.rows j a ha
    obtain ⟨kvs, h⟩ := s.dne
    rw [e, h] at g
    cases g
  have ac : a ≠ c := fun e => by
    obtain ⟨o, h⟩ := hc
    rw [e, h] at na
    cases na
  refine ⟨⟨n, pn.updA ad ac, b1, b2⟩, s.off.at na, by rw [upd_ne aD.symm]; exact s.hD, s.nD, s.nd, s.new, ?_, s.la, by rw [List.length_set, s.ld], ?_⟩
  · intro t b h
    by_cases e : t = j
    · subst e
      rw [ha] at h
      cases h
      refine ⟨ys, ?_, upd_same⟩
      rw [List.getElem?_set_self (by rw [s.ld, ← s.la]; exact (List.getElem?_eq_some_iff.mp ha).1)]
    · obtain ⟨ds, e1, g⟩ := s.rows t b h
      refine ⟨ds, by rw [List.getElem?_set_ne (Ne.symm e)]; exact e1, ?_⟩
      rw [upd_ne fun z => ?_]
      · exact g
      · subst z
        obtain ⟨h1, h2⟩ := List.getElem?_eq_some_iff.mp h
        obtain ⟨h3, h4⟩ := List.getElem?_eq_some_iff.mp ha
        exact e ((List.getElem_inj s.nd).mp (h2.trans h4.symm))
  · intro ds hds
    rcases List.mem_or_eq_of_mem_set hds with h | h
    · exact s.ok ds h
    · rw [h]
      exact ⟨l, al⟩
/-- the state behind a zero -/
def zf (dss : List (List Int)) (s : Nat) : Nat := ((dss.getD s []).getD 0 0).toNat
theorem SS.zero {H0 H : Hp} {d c D : Addr} {as : List Addr} {dss : List (List Int)} {i m p : Nat} {n0 n1 : Int} (s : SS H0 d c D as dss i m p n0 n1 H) (hp : 0 < p) {x : Nat} (hx : x < i) : ∃ a ds, as[x]? = some a ∧ dss[x]? = some ds ∧ H a = some (.lst (ds.map V.int)) ∧ (ds.map V.int)[0]? = some (.int (zf dss x : Nat)) ∧ zf dss x < m := by
  have ha := at_getD (l := as) (i := x) (by rw [s.la]; exact hx) 0
  obtain ⟨ds, e, g⟩ := s.rows _ _ ha
  obtain ⟨l, al⟩ := s.ok ds (List.mem_of_getElem? e)
  have e0 := at_getD (l := ds) (i := 0) (by omega) 0
  obtain ⟨r0, r1⟩ := al _ (List.mem_of_getElem? e0)
  have ez : zf dss x = (ds.getD 0 0).toNat := by
    unfold zf
    rw [getD_of e]
  refine ⟨_, ds, ha, e, g, ?_, by rw [ez]; omega⟩
  rw [ez, Int.toNat_of_nonneg r0]
  exact at_map e0
/-- the worths and the kinds of the first i states -/
structure WS (H0 : Hp) (d c w k : Addr) (n : Int) (mm : Nat) (f : Nat → Nat) (b i : Nat) (ws : List Int) (kvs : List (Key × V)) (H : Hp) : Prop where
  off : Off d H0 H
  pen : ∃ n', Pen H d c n' ∧ n ≤ n' ∧ n' ≤ n + 300 + b
  hw : H w = some (.lst (ws.map V.int))
  hk : H k = some (.dK kvs)
  nw : H0 w = none
  nk : H0 k = none
  len : ws.length = mm
  few : kvs.length ≤ b
  vals : ∀ s, s < i → ∀ lo, Ring.Low f mm s lo → valV kvs (Sum.inl (lo : Int)) = some (.int (ws.getD s 0))
  whole : ∀ q v, valV kvs q = some v → ∃ z, v = .int z
def spSt (K : PySem.W.Frag) : Sp := fun vs H Q _ => ∃ (d c : Addr) (n : Int) (p m : Nat), vs = [.ref d, .int p, .int m] ∧ Pen H d c n ∧ 0 ≤ n ∧ n < 800000000 ∧ isPr p = true ∧ 1 ≤ m ∧ m ≤ 20 ∧
  ∀ (H' : Hp) (t M W : Addr) (rs : List V) (dss : List (List Int)) (ws : List Int) (n' : Int), H' t = some (.tup [.ref M, .ref W]) → H' M = some (.tup rs) → Paired (TupI K H') rs dss → H' W = some (.tup (ws.map V.int)) →
    MGood p dss ws → stdy dss ws = true → dss.length ≤ m → Pen H' d c n' → n ≤ n' → n' ≤ n + 1000 → Off d H H' → Q (.ref t) H'
def lcSc : Expr → Scope
  | .ListComp _ _ sc _ => sc
  | _ => { kind := .function, names := [], isGenerator := false, isCoroutine := false }
def asgV : Stmt → Expr
  | .Assign _ v _ => v
  | s => .Constant .none 0 ⟨0, 0, 0, 0⟩
section
variable {P : Program} {w : World} {K : PySem.W.Frag} {mg : Str → Option Value} {base : Heap}
variable {g1 g2 f : Addr} {d1 d2 fd : FuncData}
abbrev sSt : Stmt := top 31
abbrev NSt : List Str := ["_law_pen_here", "_law_p", "_law_most", "_law_many", "_law_state", "_law_moves", "_law_worths", "_law_kinds", "_law_there", "_law_lap", "_law_ring", "_law_at", "_law_digit", "_law_row"]
theorem scSt : FnScope NSt ["_law_pen_here", "_law_p", "_law_most"] (defScope sSt) := ⟨rfl, rfl, rfl, by decide +kernel, rfl, by decide +kernel, by decide +kernel⟩
theorem ok_st (F : Fun K "_law_steady" "_law_steady" sSt f fd) (B : Blt mg) (zMin : mg "min" = none) (Dr : Cl K mg "_law_draw" sDraw ["_law_pen_here", "_law_many"] g1 d1) (Pi : Cl K mg "_law_pick" sPick ["_law_pen_here", "_law_some"] g2 d2) :
    FnOk P w K mg base CX0 3 f fd ["_law_pen_here", "_law_p", "_law_most"] (spSt K) := by
  have G1 : FnOk P w K mg base CX0 1 g1 d1 ["_law_pen_here", "_law_many"] spDraw := ok_draw Dr.fn B.int_ B.len_
  have G2 : FnOk P w K mg base CX0 2 g2 d2 ["_law_pen_here", "_law_some"] (spPick K) := ok_pick Pi.fn Dr.fn Dr.b Dr.g B.int_ B.len_
  refine F.ok scSt (fun vs H Q E h => ?_) (fun cdv A outer s H vs Q E hr h => ?_)
  · obtain ⟨d, c, n, p, m, rfl, _⟩ := h
    rfl
  · obtain ⟨d, c, n, p, m, rfl, pen, n0, n1, pr, m1, m9, q⟩ := h
    have hr1 : Room 1 _ := hr.mono (by decide)
    have hu := hu_of hr
    obtain ⟨p2, p7⟩ := isPr_small pr
    refine ⟨_, pss_cons (ps_set (i := 3) scSt.nd rfl (Or.inr rfl) (pe_op op_add pe_int (pe_call G1 hr1 rfl Dr.g Dr.k Dr.b .nil pass0 (pa_cons (pv 0) (pa_cons (pv 2) pa_nil)))))
      (Evl.pss_cut (ps_setLc (i := 5) (own := [("_law_state", 4)]) (g := gName 4) (tt := tYes) rfl scSt.nd rfl rfl (sw_true rfl rfl rfl (by decide +kernel)) (pi_range1 (by rfl) B.range_ (pa_cons (pv 3) pa_nil))
          (blkOk_by (N := NSt) (sc := defScope sSt) (by decide +kernel)) (fun _ _ _ _ _ => pg_name (i := 4) scSt.nd rfl (Or.inl rfl)) (fun _ _ _ _ _ => pts_nil)
          (fun _ _ _ _ _ => by exact (pe_lc (own := [("_law_digit", 12)]) (g := gName 12) (tt := tYes) rfl scSt.nd (pi_range1 (by rfl) B.range_ (pa_cons (pv 1) pa_nil))
            (blkOk_by (N := NSt) (sc := relabel (lcSc (asgV ((defBody sSt).getD 1 (.Pass ⟨0, 0, 0, 0⟩)))) (PyProof.Rows.envOfC "_law_steady" (defScope sSt) 0 0 .none)) (by decide +kernel))
            (fun _ _ _ _ _ => pg_name (i := 12) scSt.nd rfl (Or.inl rfl)) (fun _ _ _ _ _ => pts_nil)
            (fun _ _ _ _ _ => pe_call G1 hr1 rfl Dr.g Dr.k Dr.b .nil pass0 (pa_cons (pv 0) (pa_cons (pv 3) pa_nil))))))
      (Evl.pss_cut (ps_for PassesOwn.never rfl (pi_range1 (by rfl) B.range_ (pa_cons (pv 3) pa_nil)) (pg_name (i := 4) scSt.nd rfl (Or.inl rfl))
        (pss_one (ps_if (pt_cmpR op_eq (pe_call G1 hr1 rfl Dr.g Dr.k Dr.b .nil pass0 (pa_cons (pv 0) (pa_cons pe_int pa_nil))) pe_int (nomark _))
          (pss_one (ps_asg (pv 4) (pg_sub (pe_ix ix_list (pv 5) (pv 4) (fun _ _ => rfl)) pe_int set_list))) pss_nil)))
      (pss_cons (ps_par (i := 6) (j := 7) rfl scSt.nd rfl rfl (by decide) rfl rfl (pa_cons (pe_op op_rep (pe_lst (pa_cons pe_int pa_nil)) (pv 3)) (pa_cons pe_dnewK pa_nil)) (by rfl))
      (Evl.pss_cut (ps_for PassesOwn.never rfl (pi_range1 (by rfl) B.range_ (pa_cons (pv 3) pa_nil)) (pg_name (i := 4) scSt.nd rfl (Or.inl rfl))
        (pss_cons (ps_set (i := 8) scSt.nd rfl (Or.inl rfl) (pv 4))
        (Evl.pss_cut (ps_for PassesOwn.never rfl (pi_range1 (by rfl) B.range_ (pa_cons (pv 3) pa_nil)) (pg_name (i := 9) scSt.nd rfl (Or.inl rfl))
          (pss_one (ps_set (i := 8) scSt.nd rfl (Or.inl rfl) (pe_ix ix_list (pe_ix ix_list (pv 5) (pv 8) (fun _ _ => rfl)) pe_int (fun _ _ => rfl)))))
        (pss_cons (ps_par (i := 10) (j := 11) rfl scSt.nd rfl rfl (by decide) rfl rfl (pa_cons (pe_lst (pa_cons (pv 8) pa_nil)) (pa_cons (pe_ix ix_list (pe_ix ix_list (pv 5) (pv 8) (fun _ _ => rfl)) pe_int (fun _ _ => rfl)) pa_nil)) (by rfl))
        (Evl.pss_cut (ps_for PassesOwn.never rfl (pi_range1 (by rfl) B.range_ (pa_cons (pv 3) pa_nil)) (pg_name (i := 9) scSt.nd rfl (Or.inl rfl))
          (pss_one (ps_if (pt_cmpR op_ne (pv 11) (pv 8) (nomark _))
            (pss_one (ps_par (i := 10) (j := 11) rfl scSt.nd rfl rfl (by decide) rfl rfl (pa_cons (pe_op op_cat (pv 10) (pe_lst (pa_cons (pv 11) pa_nil))) (pa_cons (pe_ix ix_list (pe_ix ix_list (pv 5) (pv 11) (fun _ _ => rfl)) pe_int (fun _ _ => rfl)) pa_nil)) (by rfl))) pss_nil)))
        (Evl.pss_cut (ps_if (pt_cmp (pc_dnotin hu (pe_callB (cr_min rfl) (by rfl) zMin (by decide +kernel) (pa_cons (pv 10) pa_nil)) (pv 7)))
          (pss_one (ps_dput hu (pv 7) (pe_callB (cr_min rfl) (by rfl) zMin (by decide +kernel) (pa_cons (pv 10) pa_nil)) (pe_call G2 hr rfl Pi.g Pi.k Pi.b .nil pass0 (pa_cons (pv 0)
            (pa_cons (pe_lst (pa_cons pe_int (pa_cons pe_int (pa_cons pe_int (pa_cons pe_int (pa_cons (pe_un un_neg pe_int) (pa_cons (pe_op op_pow pe_int pe_int) pa_nil))))))) pa_nil))) rfl)) pss_nil)
        (pss_one (ps_asg (pe_dget hu (pv 7) (pe_callB (cr_min rfl) (by rfl) zMin (by decide +kernel) (pa_cons (pv 10) pa_nil)) (fun _ _ => rfl)) (pg_sub (pv 6) (pv 4) set_list)))))))))
      (pss_one (ps_ret (pe_tup (pa_cons (pe_callTy call_tuple_of (by rfl) B.tup_ (by decide +kernel) (pa_cons (pe_lc (own := [("_law_row", 13)]) (g := gName 13) (tt := tYes) rfl scSt.nd (pi_list (pv 5))
          (blkOk_by (N := NSt) (sc := defScope sSt) (by decide +kernel)) (fun _ _ _ _ _ => pg_name (i := 13) scSt.nd rfl (Or.inl rfl)) (fun _ _ _ _ _ => pts_nil)
          (fun _ _ _ _ _ => pe_callTy (r := rTof K) (call_tof rfl) (by rfl) B.tup_ (by decide +kernel) (pa_cons (pv 13) pa_nil))) pa_nil))
        (pa_cons (pe_callTy call_tuple_of (by rfl) B.tup_ (by decide +kernel) (pa_cons (pv 6) pa_nil)) pa_nil))))))))), ?_⟩
    refine ⟨_, rfl, _, rfl, d, c, n, m, rfl, pen, by omega, by omega, n0, by omega, fun r H1 r0 r1 dr => ?_⟩
    refine ⟨_, _, rfl, rfl, ?_⟩
    obtain ⟨mm, em, mm1, mm9⟩ : ∃ mm : Nat, 1 + r = (mm : Int) ∧ 1 ≤ mm ∧ mm ≤ m := ⟨(1 + r).toNat, by omega, by omega, by omega⟩
    show gName 3 (V.int (1 + r)) _ _ _
    rw [em]
    obtain ⟨oc', hc0⟩ := pen.atc
    have hd1 := dr.pen.at
    refine ⟨fun σ' H' => ∃ D as dss, σ' = [some (.ref d), some (.int p), some (.int m), some (.int mm), none, some (.ref D), none, none, none, none, none, none, none, none] ∧ SS H d c D as dss mm mm p n (n + 1 + 7 * mm) H', ?_, ?_⟩
    · refine ⟨_, rfl, _, rfl, by omega, by omega, fun D hD => lc_range (lo := 0) (n := mm) (fun i H' => ∃ as dss, SS H d c D as dss i mm p n (n + 1 + 7 * i) H') ⟨[], [], ?_⟩ ?_ ?_⟩
      · refine ⟨⟨_, dr.pen.upd hD, by omega, by omega⟩, (Off.dr dr).trans (.of (new_more hD)), upd_same, (Off.dr dr).gone hd1 hD, List.nodup_nil, nofun, fun j a h => ?_, rfl, rfl, nofun⟩
        rw [List.getElem?_nil] at h
        cases h
      · rintro i H2 hi ⟨as, dss, s2⟩
        have cD : c ≠ D := fun e => by rw [e, s2.nD] at hc0; cases hc0
        refine ⟨rfl, _, rfl, _, rfl, by omega, by omega, fun L hL => lc_range (lo := 0) (n := p) (fun j H' => ∃ ys : List Int, ys.length = j ∧ (∀ y ∈ ys, 0 ≤ y ∧ y < (mm : Int)) ∧ H' L = some (.lst (ys.map V.int)) ∧ (∃ n', Pen H' d c n' ∧ n ≤ n' ∧ n' ≤ n + 1 + 7 * i + j) ∧ Off d H2 H')
          ⟨[], rfl, nofun, upd_same, ?_, .of (new_more hL)⟩ ?_ ?_⟩
        · obtain ⟨n', pn, b1, b2⟩ := s2.pen
          exact ⟨n', pn.upd hL, b1, by omega⟩
        · rintro j H3 hj ⟨ys, e1, e2, e3, ⟨n', pn, b1, b2⟩, o3⟩
          refine ⟨rfl, _, rfl, _, rfl, d, c, n', mm, rfl, pn, by omega, by omega, by omega, by omega, fun r H4 r0 r1 dr4 => ?_⟩
          have Ld : L ≠ d := fun e => by
            obtain ⟨kvs, h⟩ := s2.dne
            rw [e, h] at hL
            cases hL
          have Lc : L ≠ c := fun e => by
            obtain ⟨_, pn2, _⟩ := s2.pen
            obtain ⟨o, h⟩ := pn2.atc
            rw [e, h] at hL
            cases hL
          refine ⟨_, (dr4.off L Ld).trans e3, by rw [List.length_map]; exact small1000 (by omega), ys ++ [r], by rw [List.length_append, e1]; rfl, ?_, ?_, ⟨_, dr4.pen.updA Ld Lc, by omega, by omega⟩, (o3.trans (.dr dr4)).at hL⟩
          · intro y hy
            rcases List.mem_append.mp hy with hy | hy
            · exact e2 y hy
            · have : y = r := by simpa using hy
              omega
          · rw [upd_same, List.map_append]
            rfl
        · rintro H3 ⟨ys, e1, e2, e3, ⟨n', pn, b1, b2⟩, o3⟩
          have s3 := s2.snoc (n2 := n + 1 + 7 * ((i + 1 : Nat) : Int)) o3 ⟨n', pn, b1, by omega⟩ cD hL e3 e1 e2
          refine ⟨_, (s2.keep o3 ⟨n', pn, b1, b2⟩).hD, by rw [List.length_map, s2.la]; exact small1000 (by omega), as ++ [L], dss ++ [ys], ?_⟩
          rw [List.map_append] at s3
          exact s3
      · rintro H2 ⟨as, dss, s2⟩
        exact ⟨D, as, dss, rfl, s2⟩
    clear hd1 dr
    rintro σ1 H2 ⟨D, as, dss0, rfl, s2⟩
    -- zeros that lead back
    refine ⟨fun σ' H' => ∃ dss z4, σ' = [some (.ref d), some (.int p), some (.int m), some (.int mm), z4, some (.ref D), none, none, none, none, none, none, none, none] ∧ SS H d c D as dss mm mm p n (n + 1 + 7 * mm + mm) H', ?_, ?_⟩
    · refine ⟨_, rfl, _, rfl, by omega, by omega, for_range (lo := 0) (n := mm) (fun i σ' H' => ∃ dss z4, σ' = [some (.ref d), some (.int p), some (.int m), some (.int mm), z4, some (.ref D), none, none, none, none, none, none, none, none] ∧ SS H d c D as dss mm mm p n (n + 1 + 7 * mm + i) H')
        ⟨dss0, none, rfl, s2.keep .refl (let ⟨n', a, b, e⟩ := s2.pen; ⟨n', a, b, by omega⟩)⟩ ?_ (fun σ' H' h => h)⟩
      rintro i σ2 H3 hi ⟨dss, z4, rfl, s3⟩
      rw [Int.zero_add]
      obtain ⟨n', pn, b1, b2⟩ := s3.pen
      refine ⟨_, rfl, d, c, n', 2, rfl, pn, by decide, by decide, by omega, by omega, fun r H4 r0 r1 dr4 => ?_⟩
      have s4 := s3.keep (n2 := n + 1 + 7 * mm + ((i + 1 : Nat) : Int)) (.dr dr4) ⟨_, dr4.pen, by omega, by omega⟩
      refine ⟨rfl, _, rfl, ite2 (fun _ => ?_) (fun _ => ⟨dss, _, rfl, s4⟩)⟩
      obtain ⟨a, ds, ha, hds, hHa, h0, _⟩ := s4.zero (by omega) hi
      obtain ⟨l, al⟩ := s4.ok ds (List.mem_of_getElem? hds)
      have s5 := s4.put (ys := ds.set 0 (i : Int)) ⟨_, hc0⟩ ha (by rw [List.length_set, l]) (fun x hx => by
        rcases List.mem_or_eq_of_mem_set hx with hx | hx
        · exact al x hx
        · omega)
      rw [List.map_set] at s5
      exact ⟨_, rfl, _, rfl, _, rfl, D, _, _, _, rfl, rfl, SqL.of s4.hD, atI_nat (at_map ha), a, _, 0, 0, rfl, rfl, hHa, (show L2.ixN _ ((0 : Nat) : Int) = some 0 from Evl.ixN_nat (by rw [List.length_map]; omega)), _, _, rfl, s5⟩
    clear s2
    rintro σ2 H3 ⟨dss, z4, rfl, s3⟩
    -- the worths
    refine ⟨by show 1 ≤ sizeLine; decide, fun o1 ho1 => ?_⟩
    have m31 := new_more (o := .lst [V.int 0]) ho1
    refine ⟨_, rfl, o1, _, _, rfl, rfl, upd_same, by omega, by omega, ?_, fun w1 hw1 => ?_⟩
    · rw [sizeLine_eq, Int.toNat_natCast, List.length_singleton]
      omega
    have m32 : More H3 (upd (upd H3 o1 (.lst [V.int 0])) w1 (.lst (List.replicate (mm : Int).toNat [V.int 0]).flatten)) := fun b o e => new_more hw1 _ _ (m31 _ _ e)
    have hW : (upd (upd H3 o1 (.lst [V.int 0])) w1 (.lst (List.replicate (mm : Int).toNat [V.int 0]).flatten)) w1 = some (.lst ((List.replicate mm (0 : Int)).map V.int)) := by
      rw [upd_same, Int.toNat_natCast]
      rw [List.flatten_replicate_singleton, List.map_replicate]
    have nw1 : H3 w1 = none := m31.off hw1
    generalize upd (upd H3 o1 (.lst [V.int 0])) w1 (.lst (List.replicate (mm : Int).toNat [V.int 0]).flatten) = H4 at m32 hW ⊢
    intro k1 hk1
    refine ⟨_, _, rfl, ?_⟩
    have nk1 : H3 k1 = none := m32.off hk1
    have hW5 := new_more (o := .dK []) hk1 _ _ hW
    have hk5 : (upd H4 k1 (.dK [])) k1 = some (.dK []) := upd_same
    have o35 : Off d H3 (upd H4 k1 (.dK [])) := .of fun b o e => new_more hk1 _ _ (m32 _ _ e)
    have pen5 : ∃ n', Pen (upd H4 k1 (.dK [])) d c n' ∧ n ≤ n' ∧ n' ≤ n + 300 := by
      obtain ⟨n', pn, b1, b2⟩ := (s3.more fun b o e => new_more hk1 _ _ (m32 _ _ e)).pen
      exact ⟨n', pn, b1, by omega⟩
    have wk : w1 ≠ k1 := ne_of_none hW hk1
    generalize upd H4 k1 (.dK []) = H5 at hW5 hk5 o35 pen5 ⊢
    clear hW m32 m31
    -- states' worths
    have fl : ∀ x, x < mm → zf dss x < mm := fun x hx => let ⟨_, _, _, _, _, _, z⟩ := s3.zero (by omega) hx; z
    refine ⟨fun σ' H' => ∃ ws kvs z4 z8 z9 z10 z11, σ' = [some (.ref d), some (.int p), some (.int m), some (.int mm), z4, some (.ref D), some (.ref w1), some (.ref k1), z8, z9, z10, z11, none, none] ∧ WS H3 d c w1 k1 n mm (zf dss) mm mm ws kvs H', ?_, ?_⟩
    · refine ⟨_, rfl, _, rfl, by omega, by omega, for_range (lo := 0) (n := mm) (fun i σ' H' => ∃ ws kvs z4 z8 z9 z10 z11, σ' = [some (.ref d), some (.int p), some (.int m), some (.int mm), z4, some (.ref D), some (.ref w1), some (.ref k1), z8, z9, z10, z11, none, none] ∧ WS H3 d c w1 k1 n mm (zf dss) i i ws kvs H')
        ⟨_, _, _, _, _, _, _, rfl, ⟨o35, let ⟨n', a, b, e⟩ := pen5; ⟨n', a, b, by omega⟩, hW5, hk5, nw1, nk1, by rw [List.length_replicate], Nat.zero_le _, fun s hs => absurd hs (Nat.not_lt_zero _), fun q v h => by cases h⟩⟩ ?_ (fun σ' H' h => h)⟩
      rintro i σ3 H6 hi ⟨ws, kvs, z4, z8, z9, z10, z11, rfl, s6⟩
      rw [Int.zero_add]
      have s36 := s3.keep s6.off (n2 := n + 300 + i) s6.pen
      refine ⟨_, rfl, fun σ' H' => ∃ z9, σ' = [some (.ref d), some (.int p), some (.int m), some (.int mm), some (.int i), some (.ref D), some (.ref w1), some (.ref k1), some (.int (Ring.it (zf dss) mm i : Nat)), z9, z10, z11, none, none] ∧ H' = H6, ?_, ?_⟩
      · refine ⟨_, rfl, _, rfl, by omega, by omega, for_range (lo := 0) (n := mm) (fun j σ' H' => ∃ z9, σ' = [some (.ref d), some (.int p), some (.int m), some (.int mm), some (.int i), some (.ref D), some (.ref w1), some (.ref k1), some (.int (Ring.it (zf dss) j i : Nat)), z9, z10, z11, none, none] ∧ H' = H6) ⟨_, rfl, rfl⟩ ?_ (fun σ' H' h => h)⟩
        rintro j σ4 H7 hj ⟨z9, rfl, rfl⟩
        obtain ⟨a, ds, ha, hds, hHa, h0, lt⟩ := s36.zero (by omega) (Ring.it_lt fl j i hi)
        exact ⟨_, rfl, _, rfl, D, _, _, _, rfl, rfl, SqL.of s36.hD, atI_nat (at_map ha), a, _, 0, _, rfl, rfl, SqL.of hHa, atI_nat (j := 0) h0, _, rfl, rfl⟩
      rintro σ4 H7 ⟨z9, rfl, rfl⟩
      have x0 := Ring.it_lt fl mm i hi
      refine ⟨_, rfl, by show 1 ≤ sizeLine; decide, fun ρ hρ => ?_⟩
      have m7 := new_more (o := .lst [V.int (Ring.it (zf dss) mm i : Nat)]) hρ
      have hρ8 : (upd H7 ρ (.lst [V.int (Ring.it (zf dss) mm i : Nat)])) ρ = some (.lst ([Ring.it (zf dss) mm i].map fun y : Nat => V.int y)) := upd_same
      generalize upd H7 ρ (.lst [V.int (Ring.it (zf dss) mm i : Nat)]) = H8 at m7 hρ8 ⊢
      obtain ⟨a, ds, ha, hds, hHa, h0, lt⟩ := (s36.more m7).zero (by omega) x0
      refine ⟨_, rfl, _, rfl, D, _, _, _, rfl, rfl, SqL.of (s36.more m7).hD, atI_nat (at_map ha), a, _, 0, _, rfl, rfl, SqL.of hHa, atI_nat (j := 0) h0, _, _, rfl, ?_⟩
      clear ha hds hHa h0
      -- round the ring
      refine ⟨fun σ' H' => ∃ ring a z9 ρ, σ' = [some (.ref d), some (.int p), some (.int m), some (.int mm), some (.int i), some (.ref D), some (.ref w1), some (.ref k1), some (.int (Ring.it (zf dss) mm i : Nat)), z9, some (.ref ρ), some (.int (a : Nat)), none, none] ∧ Ring.Lap (zf dss) (Ring.it (zf dss) mm i) mm ring a ∧ H' ρ = some (.lst (ring.map fun y : Nat => V.int y)) ∧ ring.length ≤ mm + 1 ∧ More H7 H', ?_, ?_⟩
      · refine ⟨_, rfl, _, rfl, by omega, by omega, for_range (lo := 0) (n := mm) (fun j σ' H' => ∃ ring a z9 ρ, σ' = [some (.ref d), some (.int p), some (.int m), some (.int mm), some (.int i), some (.ref D), some (.ref w1), some (.ref k1), some (.int (Ring.it (zf dss) mm i : Nat)), z9, some (.ref ρ), some (.int (a : Nat)), none, none] ∧ Ring.Lap (zf dss) (Ring.it (zf dss) mm i) j ring a ∧ H' ρ = some (.lst (ring.map fun y : Nat => V.int y)) ∧ ring.length ≤ j + 1 ∧ a < mm ∧ More H7 H')
          ⟨_, _, _, _, rfl, Ring.Lap.start _ _, hρ8, Nat.le_refl _, lt, m7⟩ ?_ (fun σ' H' ⟨ring, a, z9, ρ, h1, h2, h3, h4, _, h5⟩ => ⟨ring, a, z9, ρ, h1, h2, h3, h4, h5⟩)⟩
        rintro j σ5 H9 hj ⟨ring, a, z9, ρ, rfl, lap, hρ9, rl, alt, m9⟩
        refine ⟨_, rfl, _, rfl, rfl, _, rfl, ?_⟩
        rw [deI]
        by_cases e : a = Ring.it (zf dss) mm i
        · rw [decide_eq_true (by rw [e])]
          subst e
          exact iteF ⟨ring, _, _, ρ, rfl, lap.stay, hρ9, by omega, alt, m9⟩
        · rw [decide_eq_false (by omega)]
          refine iteT ⟨_, rfl, _, rfl, by show 1 ≤ sizeLine; decide, fun q1 hq1 => ?_⟩
          have m10 := new_more (o := .lst [V.int (a : Nat)]) hq1
          refine ⟨ρ, q1, _, _, rfl, rfl, m10 _ _ hρ9, upd_same, by rw [List.length_map, sizeLine_eq]; show ring.length + 1 ≤ _; omega, fun ρ2 hρ2 => ?_⟩
          have m11 := new_more (o := .lst ((ring.map fun y : Nat => V.int y) ++ [V.int (a : Nat)])) hρ2
          have m12 : More H7 (upd (upd H9 q1 (.lst [V.int (a : Nat)])) ρ2 (.lst ((ring.map fun y : Nat => V.int y) ++ [V.int (a : Nat)]))) := fun b o e => m11 _ _ (m10 _ _ (m9 _ _ e))
          have h12 : (upd (upd H9 q1 (.lst [V.int (a : Nat)])) ρ2 (.lst ((ring.map fun y : Nat => V.int y) ++ [V.int (a : Nat)]))) ρ2 = some (.lst ((ring ++ [a]).map fun y : Nat => V.int y)) := by
            rw [upd_same, List.map_append]
            rfl
          generalize upd (upd H9 q1 (.lst [V.int (a : Nat)])) ρ2 (.lst ((ring.map fun y : Nat => V.int y) ++ [V.int (a : Nat)])) = H12 at m12 h12 ⊢
          obtain ⟨b, ds, hb, hds, hHb, h0, lt⟩ := (s36.more m12).zero (by omega) alt
          exact ⟨_, rfl, _, rfl, D, _, _, _, rfl, rfl, SqL.of (s36.more m12).hD, atI_nat (at_map hb), b, _, 0, _, rfl, rfl, SqL.of hHb, atI_nat (j := 0) h0, _, _, rfl, ring ++ [a], _, _, ρ2, rfl, lap.go e, h12, by rw [List.length_append]; show ring.length + 1 ≤ _; omega, lt, m12⟩
      rintro σ5 H9 ⟨ring, a9, z9, ρ, rfl, lap, hρ9, rl, m9⟩
      -- the least one
      have ring0 : 0 < (ring.map fun y : Nat => (y : Int)).length := by
        rw [List.length_map]
        exact List.length_pos_of_mem lap.here
      have least : ∀ mn : Int, mn ∈ (ring.map fun y : Nat => (y : Int)) → (∀ y, y ∈ (ring.map fun y : Nat => (y : Int)) → mn ≤ y) → ∃ lo : Nat, mn = lo ∧ Ring.Low (zf dss) mm i lo := by
        intro mn hm al
        obtain ⟨lo, hlo, rfl⟩ := List.mem_map.mp hm
        refine ⟨lo, rfl, lap.low fl hi hlo fun y hy => ?_⟩
        have := al _ (List.mem_map.mpr ⟨y, hy, rfl⟩)
        omega
      have sqρ : ∀ {H' : Hp}, H' ρ = some (.lst (ring.map fun y : Nat => V.int y)) → SqL K H' ρ ((ring.map fun y : Nat => (y : Int)).map V.int) := fun {H'} h => SqL.of (by rw [List.map_map]; exact h)
      have s9 : WS H3 d c w1 k1 n mm (zf dss) i i ws kvs H9 := ⟨s6.off.trans (.of m9), let ⟨n', pn, b1, b2⟩ := s6.pen; let ⟨o1, h1⟩ := pn.at; let ⟨o2, h2⟩ := pn.atc; ⟨n', pn.keep ((m9 _ _ h1).trans h1.symm) ((m9 _ _ h2).trans h2.symm), b1, b2⟩, m9 _ _ s6.hw, m9 _ _ s6.hk, s6.nw, s6.nk, s6.len, s6.few, s6.vals, s6.whole⟩
      have ρd : ρ ≠ d := fun e => by
        obtain ⟨_, pn, _⟩ := s9.pen
        obtain ⟨o, h⟩ := pn.at
        obtain ⟨kvs', _, _, _, _, h, _⟩ := pn
        rw [e, h] at hρ9
        cases hρ9
      have ρk : ρ ≠ k1 := ne_of hρ9 s9.hk (by intro z; cases z)
      have kd : k1 ≠ d := fun e => by
        obtain ⟨_, pn, _⟩ := s3.pen
        obtain ⟨o, h⟩ := pn.at
        rw [← e, nk1] at h
        cases h
      have wd : w1 ≠ d := fun e => by
        obtain ⟨_, pn, _⟩ := s3.pen
        obtain ⟨o, h⟩ := pn.at
        rw [← e, nw1] at h
        cases h
      have kc : k1 ≠ c := fun e => by
        obtain ⟨_, pn, _⟩ := s3.pen
        obtain ⟨o, h⟩ := pn.atc
        rw [← e, nk1] at h
        cases h
      have wc : w1 ≠ c := fun e => by
        obtain ⟨_, pn, _⟩ := s3.pen
        obtain ⟨o, h⟩ := pn.atc
        rw [← e, nw1] at h
        cases h
      refine ⟨fun σ' H' => ∃ kvs', σ' = [some (.ref d), some (.int p), some (.int m), some (.int mm), some (.int i), some (.ref D), some (.ref w1), some (.ref k1), some (.int (Ring.it (zf dss) mm i : Nat)), z9, some (.ref ρ), some (.int (a9 : Nat)), none, none] ∧ H' ρ = some (.lst (ring.map fun y : Nat => V.int y)) ∧ WS H3 d c w1 k1 n mm (zf dss) (i + 1) i ws kvs' H' ∧ ∀ lo, Ring.Low (zf dss) mm i lo → ∃ z, valV kvs' (Sum.inl (lo : Int)) = some (.int z), ?_, ?_⟩
      · refine ⟨_, rfl, ρ, _, rfl, sqρ hρ9, ring0, fun mn hm al => ⟨_, rfl, k1, _, rfl, DGet.k (k := Sum.inl mn) s9.hk, _, rfl, ?_⟩⟩
        obtain ⟨lo, rfl, low⟩ := least mn hm al
        cases ev : valV kvs (Sum.inl (lo : Int)) with
        | some v =>
          obtain ⟨z, rfl⟩ := s9.whole _ _ ev
          refine iteF ⟨kvs, rfl, hρ9, ⟨s9.off, let ⟨n', a, b, e⟩ := s9.pen; ⟨n', a, b, by omega⟩, s9.hw, s9.hk, s9.nw, s9.nk, s9.len, Nat.le_succ_of_le s9.few, s9.vals, s9.whole⟩, fun lo' l' => ?_⟩
          rw [l'.one low]
          exact ⟨z, ev⟩
        | none =>
          obtain ⟨n', pn, b1, b2⟩ := s9.pen
          refine iteT ⟨_, rfl, _, rfl, _, _, rfl, rfl, ⟨by decide, by decide, by decide⟩, by show 6 ≤ sizeLine; decide, fun L hL => ?_⟩
          refine ⟨d, c, L, n', _, rfl, pn.upd hL, upd_same, by show 0 < 6; decide, by show 6 ≤ 1000; decide, by omega, by omega, fun x H10 hx dr => ?_⟩
          obtain ⟨z, rfl⟩ : ∃ z, x = .int z := by
            rcases List.mem_cons.mp hx with rfl | hx
            · exact ⟨_, rfl⟩
            rcases List.mem_cons.mp hx with rfl | hx
            · exact ⟨_, rfl⟩
            rcases List.mem_cons.mp hx with rfl | hx
            · exact ⟨_, rfl⟩
            rcases List.mem_cons.mp hx with rfl | hx
            · exact ⟨_, rfl⟩
            rcases List.mem_cons.mp hx with rfl | hx
            · exact ⟨_, rfl⟩
            rcases List.mem_cons.mp hx with rfl | hx
            · exact ⟨_, rfl⟩
            · exact (List.not_mem_nil hx).elim
          have o10 : Off d H9 H10 := (Off.of (new_more hL)).trans (.dr dr)
          have hρ10 := o10 _ _ hρ9 ρd
          have hk10 := o10 _ _ s9.hk kd
          refine ⟨_, rfl, _, rfl, ρ, _, rfl, sqρ hρ10, ring0, fun mn2 hm2 al2 => ⟨k1, _, rfl, DPut.k (k := Sum.inl mn2) hk10 (small1000 (by have := s9.few; omega)), ?_⟩⟩
          obtain ⟨lo2, rfl, low2⟩ := least mn2 hm2 al2
          have : lo2 = lo := low2.one low
          subst this
          refine ⟨_, rfl, by rw [upd_ne ρk]; exact hρ10, ⟨(s9.off.trans o10).at nk1, ⟨_, dr.pen.updA kd kc, by omega, by omega⟩, by rw [upd_ne wk]; exact o10 _ _ s9.hw wd, upd_same, nw1, nk1, s9.len, ?_, ?_, ?_⟩, fun lo' l' => ?_⟩
          · have := putK_le kvs (Sum.inl (lo2 : Int)) (V.int z)
            have := s9.few
            omega
          · intro s hs lo' l'
            have v := s9.vals s hs lo' l'
            rw [valV_put, if_neg fun e => ?_]
            · exact v
            · rw [e, ev] at v
              cases v
          · intro q v hv
            rw [valV_put] at hv
            by_cases e : q = Sum.inl (lo2 : Int)
            · rw [if_pos e] at hv
              cases hv
              exact ⟨_, rfl⟩
            · rw [if_neg e] at hv
              exact s9.whole _ _ hv
          · rw [l'.one low2]
            exact ⟨z, by rw [valV_put, if_pos rfl]⟩
      rintro σ6 H10 ⟨kvs', rfl, hρ10, s10, has⟩
      refine ⟨_, rfl, _, rfl, ρ, _, rfl, sqρ hρ10, ring0, fun mn hm al => ?_⟩
      obtain ⟨lo, rfl, low⟩ := least mn hm al
      obtain ⟨z, hz⟩ := has lo low
      refine ⟨k1, .int z, rfl, dg (Sum.inl (lo : Int)) s10.hk hz, _, rfl, _, rfl, w1, _, i, i, rfl, rfl, s10.hw, Evl.ixN_nat (by rw [List.length_map, s10.len]; exact hi), ?_⟩
      obtain ⟨n', pn, b1, b2⟩ := s10.pen
      refine ⟨ws.set i z, kvs', _, _, _, _, _, rfl, ⟨s10.off.at nw1, ⟨n', pn.updA wd wc, b1, b2⟩, ?_, by rw [upd_ne wk.symm]; exact s10.hk, nw1, nk1, by rw [List.length_set]; exact s10.len, s10.few, ?_, s10.whole⟩⟩
      · rw [upd_same, List.map_set]
      · intro s hs lo' l'
        by_cases e : s = i
        · subst e
          rw [l'.one low, hz, getD_of (List.getElem?_set_self (by rw [s10.len]; exact hi))]
        · rw [s10.vals s (by omega) lo' l', List.getD_eq_getElem?_getD, List.getD_eq_getElem?_getD, List.getElem?_set_ne (Ne.symm e)]
    rintro σ3 H6 ⟨ws, kvs, z4, z8, z9, z10, z11, rfl, s6⟩
    have s36 := s3.keep s6.off (n2 := n + 300 + mm) s6.pen
    have steady : stdy dss ws = true := by
      unfold stdy
      rw [List.all_eq_true]
      intro b hb
      obtain ⟨x, hx⟩ := List.getElem?_of_mem hb
      rw [List.getElem?_zipWith] at hx
      cases e1 : dss[x]? with
      | none => rw [e1] at hx; cases hx
      | some ds =>
        cases e2 : ws[x]? with
        | none => rw [e1, e2] at hx; cases hx
        | some w0 =>
          rw [e1, e2] at hx
          cases hx
          have lx : x < mm := by
            have := (List.getElem?_eq_some_iff.mp e2).1
            rw [s6.len] at this
            exact this
          obtain ⟨lo, low⟩ := Ring.Low.ex (zf dss) mm x
          have v1 := s6.vals x lx lo low
          have v2 := s6.vals (zf dss x) (fl x lx) lo (low.next fl lx)
          rw [v1] at v2
          have e3 := V.int.inj (Option.some.inj v2)
          rw [getD_of e2] at e3
          refine decide_eq_true ?_
          rw [e3]
          congr 1
          unfold zf
          rw [getD_of e1]
    have good : MGood p dss ws := ⟨pr, fun e => by have := s3.ld; rw [e, List.length_nil] at this; omega, fun ds hds => by
      obtain ⟨l, al⟩ := s3.ok ds hds
      exact ⟨by rw [l], fun x hx => by rw [s3.ld]; exact al x hx⟩, by rw [s6.len, s3.ld], by rw [s3.ld]; omega⟩
    have d6 : ∃ o, H6 d = some o := let ⟨_, pn, _⟩ := s6.pen; pn.at
    refine ⟨_, rfl, D, rfl, ⟨_, SqL.of s36.hD⟩, fun D2 hD2 => lc_rel (n := 13) (D := D2) (H1 := H6) (walk_list (xs := as.map V.ref)) (fun i v H' => ∃ ds, dss[i]? = some ds ∧ TupI K H' v ds) (fun i v H' H'' m ⟨ds, e, t⟩ => ⟨ds, e, t.more m⟩) hD2
      (fun H' m => Same.seq m (SqL.of s36.hD)) (by rw [List.length_map, s3.la]; omega) (fun _ => rfl) ?_ ?_⟩
    · intro i y H7 Q7 hy m7 m7' ⟨l0, hl0⟩ q7
      obtain ⟨a, ha, rfl⟩ := map_at hy
      obtain ⟨ds, hds, g⟩ := s36.rows i a ha
      refine ⟨_, rfl, a, ds.map V.int, rfl, .inl ⟨SqL.of (m7 _ _ g), fun l hl => q7 _ _ (new_more hl) ⟨ds, hds, l, rfl, SqT.of ?_⟩⟩⟩
      rw [del_ne (ne_of_none hl0 hl).symm, upd_same]
    · intro H7 G rs rl mG mH nG al hD7
      refine ⟨D2, rs, rfl, .inl ⟨SqL.of hD7, fun t1 ht1 => ?_⟩⟩
      have m8 : More H6 (upd H7 t1 (.tup rs)) := fun b o e => new_more ht1 _ _ (mH _ _ (mG _ _ e))
      refine ⟨_, rfl, w1, ws.map V.int, rfl, .inl ⟨SqL.of (m8 _ _ s6.hw), fun t2 ht2 => ⟨by show 2 ≤ sizeLine; decide, fun t ht => ?_⟩⟩⟩
      have m9 := new_more (o := .tup (ws.map V.int)) ht2
      have m10 := new_more (o := .tup [.ref t1, .ref t2]) ht
      have m11 : More H6 (upd (upd (upd H7 t1 (.tup rs)) t2 (.tup (ws.map V.int))) t (.tup [.ref t1, .ref t2])) := fun b o e => m10 _ _ (m9 _ _ (m8 _ _ e))
      obtain ⟨n', pn, b1, b2⟩ := s6.pen
      obtain ⟨o1, h1⟩ := pn.at
      obtain ⟨o2, h2⟩ := pn.atc
      refine q _ t t1 t2 rs dss ws n' upd_same (m10 _ _ (m9 _ _ upd_same)) (paired_of (by rw [rl, List.length_map, s3.la, s3.ld]) fun i x y hx hy => ?_) (m10 _ _ upd_same) good steady (by rw [s3.ld]; exact mm9)
        (pn.keep ((m11 _ _ h1).trans h1.symm) ((m11 _ _ h2).trans h2.symm)) b1 (by omega) ((s3.off.trans s6.off).trans (.of m11))
      obtain ⟨ds, e, ti⟩ := al i x hx
      rw [hy] at e
      cases e
      exact ti.more fun b o e => m10 _ _ (m9 _ _ (new_more ht1 _ _ (mH _ _ e)))
end
end K72

/-! Clo: functions made by a def in a def, handed to other functions: their captured cells are shown in the heap. -/
namespace B5
open PySem PySem.Spec PyProof.Rows L2 NdefX
open Classical
/-- the cell object ob stands at c -/
def CelO (c : Addr) (ob : Obj) : HO := .ext fun h => h.get? c = some ob
def isC (cl : List (Str × Addr)) (b : Addr) : Prop := ∃ y, cl.lookup y = some b
/-- the captured cells stand in the heap, with what they hold -/
structure Exd (cl : List (Str × Addr)) (fr : List Str) (ws : List (Option V)) (H : Hp) : Prop where
  len : ws.length = fr.length
  all : ∀ y c, cl.lookup y = some c → ∃ ob v, H c = some (CelO c ob) ∧ ob.data = .cell v
  inj : ∀ x y c, cl.lookup x = some c → cl.lookup y = some c → x = y
  has : ∀ (i : Nat) (y : Str), fr[i]? = some y → ∃ c, cl.lookup y = some c ∧ ∀ v, ws[i]? = some (some v) → ∃ ob u, H c = some (CelO c ob) ∧ ob.data = .cell (some u) ∧ L2.RelV v u
theorem Exd.same {cl : List (Str × Addr)} {fr : List Str} {ws : List (Option V)} {H H' : Hp} (x : Exd cl fr ws H) (m : ∀ b, isC cl b → H' b = H b) : Exd cl fr ws H' where
  len := x.len
  all := fun y c e => let ⟨ob, v, a, b⟩ := x.all y c e; ⟨ob, v, (m c ⟨y, e⟩).trans a, b⟩
  inj := x.inj
  has := fun i y e => let ⟨c, a, b⟩ := x.has i y e; ⟨c, a, fun v ev => let ⟨ob, u, p, q, r⟩ := b v ev; ⟨ob, u, (m c ⟨y, a⟩).trans p, q, r⟩⟩
theorem Exd.ex {cl : List (Str × Addr)} {fr : List Str} {ws : List (Option V)} {H : Hp} (x : Exd cl fr ws H) {b : Addr} (h : isC cl b) : ∃ ob, H b = some (CelO b ob) :=
  let ⟨y, e⟩ := h; let ⟨ob, _, a, _⟩ := x.all y b e; ⟨ob, a⟩
/-- without the cells -/
noncomputable def hide (cl : List (Str × Addr)) (H : Hp) : Hp := fun b => if isC cl b then none else H b
/-- with the cells as in H -/
noncomputable def lay (cl : List (Str × Addr)) (H H' : Hp) : Hp := fun b => if isC cl b then H b else H' b
theorem hide_no {cl : List (Str × Addr)} {H : Hp} {b : Addr} (h : ¬ isC cl b) : hide cl H b = H b := if_neg h
theorem hide_at {cl : List (Str × Addr)} {H : Hp} {b : Addr} (h : isC cl b) : hide cl H b = none := if_pos h
theorem hide_some {cl : List (Str × Addr)} {H : Hp} {b : Addr} {o : HO} (h : hide cl H b = some o) : ¬ isC cl b ∧ H b = some o := by
  by_cases e : isC cl b
  · rw [hide_at e] at h; cases h
  · rw [hide_no e] at h; exact ⟨e, h⟩
theorem lay_no {cl : List (Str × Addr)} {H H' : Hp} {b : Addr} (h : ¬ isC cl b) : lay cl H H' b = H' b := if_neg h
theorem lay_at {cl : List (Str × Addr)} {H H' : Hp} {b : Addr} (h : isC cl b) : lay cl H H' b = H b := if_pos h
section
variable {P : Program} {w : World} {cl : List (Str × Addr)} {fr : List Str} {ws : List (Option V)} {H H' : Hp} {h h' : Heap}
theorem cel_obj {c : Addr} {ob : Obj} (x : HOk P w H h) (e : H c = some (CelO c ob)) : h.get? c = some ob := (x c _ e).1
theorem cel_ok {c : Addr} {ob : Obj} (H : Hp) (e : h.get? c = some ob) : ObjOk P w H h c (CelO c ob) := ⟨e, ⟨ob, e⟩, fun h1 h2 a b => b _ a⟩
theorem hok_hide (x : HOk P w H h) (ex : ∀ b, isC cl b → ∃ ob, H b = some (CelO b ob)) : HOk P w (hide cl H) h := by
  intro b o e
  obtain ⟨nb, e⟩ := hide_some e
  refine (x b o e).stay (fun c u _ q => q) (fun c q => ?_) (fun c xs q => ?_)
  · rw [hide_no fun z => ?_]
    · exact q
    · obtain ⟨ob, r⟩ := ex c z
      rw [r] at q; cases q
  · rw [hide_no fun z => ?_]
    · exact q
    · obtain ⟨ob, r⟩ := ex c z
      rw [r] at q; cases q
theorem hok_lay (x : HOk P w H' h) (no : ∀ b, isC cl b → H' b = none) (ex : ∀ b, isC cl b → ∃ ob, H b = some (CelO b ob) ∧ h.get? b = some ob) : HOk P w (lay cl H H') h := by
  intro b o e
  by_cases z : isC cl b
  · rw [lay_at z] at e
    obtain ⟨ob, r, g⟩ := ex b z
    rw [r] at e; cases e
    exact cel_ok _ g
  · rw [lay_no z] at e
    refine (x b o e).stay (fun c u _ q => q) (fun c q => ?_) (fun c xs q => ?_)
    · rw [lay_no fun y => ?_]
      · exact q
      · rw [no c y] at q; cases q
    · rw [lay_no fun y => ?_]
      · exact q
      · rw [no c y] at q; cases q
theorem exd_cells (x : Exd cl fr ws H) (ok : HOk P w H h) : CellsAt cl fr ws h (hide cl H) where
  len := x.len
  all := fun y c e => by
    obtain ⟨ob, v, a, b⟩ := x.all y c e
    exact ⟨hide_at ⟨y, e⟩, v, ob, cel_obj ok a, b⟩
  inj := x.inj
  has := fun i y e => by
    obtain ⟨c, a, b⟩ := x.has i y e
    refine ⟨c, a, fun v ev => ?_⟩
    obtain ⟨ob, u, p, q, r⟩ := b v ev
    exact ⟨u, r, ob, cel_obj ok p, q⟩
end
/-- a function at f that answers as sp where pre is -/
structure Lead (P : Program) (w : World) (K : PySem.W.Frag) (mg : Str → Option Value) (base : Heap) (k : Nat) (f : Addr) (pre : Hp → Prop) (sp : Sp) : Prop where
  at_ : ∀ H, pre H → ∃ F, H f = some (FnO f F)
  run : ∀ (A : Around) (outer : List Env) (s : Shared) (H : Hp) (us : List Value) (vs : List V) (Q : VK), Room k A → Env0 P w K mg base A outer s H → pre H → Vals vs us → sp vs H Q E0 → codeAny (model P w) A (.call (.ref f) ⟨us, []⟩) (CR CX0 outer P w H s Q E0) s
theorem lead_of {P : Program} {w : World} {K : PySem.W.Frag} {mg : Str → Option Value} {base : Heap} {k : Nat} {f : Addr} {F : NF} {ps fr : List Str} {sp : List (Option V) → Sp} (Fn : NOk P w K mg base CX0 k f F ps fr sp) (ws : List (Option V)) (nf : ¬ isC F.cl f) (nc : ¬ isC F.cl F.c) :
    Lead P w K mg base k f (fun H => (H f = some (FnO f F) ∧ H F.c = some (LamX.CodeO F.c F.qual)) ∧ Exd F.cl fr ws H) (fun vs H Q E => sp ws vs (hide F.cl H) (fun v H' => Q v (lay F.cl H H')) E) := by
  refine ⟨fun H h => ⟨F, h.1.1⟩, fun A outer s H us vs Q hr e0 ⟨⟨hf, hcc⟩, x⟩ r q => ?_⟩
  have exs : ∀ b, isC F.cl b → ∃ ob, H b = some (CelO b ob) := fun b hb => x.ex hb
  have hide_none : ∀ {b : Addr}, H b = none → hide F.cl H b = none := fun {b} e => by
    by_cases z : isC F.cl b
    · exact hide_at z
    · rw [hide_no z]; exact e
  have e1 : Env0 P w K mg base A outer s (hide F.cl H) := ⟨e0.frames, e0.mod, fun b o e => ⟨(e0.bs b o e).1, hide_none (e0.bs b o e).2⟩, e0.bsz, e0.funs, fun b hb => hide_none (e0.frf b hb), hok_hide e0.hok exs, e0.bare⟩
  refine codeAny_mono (Fn.run A outer s (hide F.cl H) us vs ws _ E0 hr e1 (by rw [hide_no nf]; exact hf) (by rw [hide_no nc]; exact hcc) (exd_cells x e0.hok) r q) fun res s' hs => ?_
  cases res with
  | error e => exact hs
  | ok fl =>
    cases fl with
    | next => exact hs
    | brk => exact hs
    | cont => exact hs
    | ret u =>
      obtain ⟨v, H', os, bare, un, hok, rv, q⟩ := hs
      have celk : ∀ b, isC F.cl b → ∃ ob, H b = some (CelO b ob) ∧ s'.heap.get? b = some ob := fun b hb => by
        obtain ⟨ob, e⟩ := exs b hb
        refine ⟨ob, e, un.keep b ob (cel_obj e0.hok e) (hide_at hb) (fun z => ?_) (by simp)⟩
        rw [e0.frf b z] at e; cases e
      have no' : ∀ b, isC F.cl b → H' b = none := fun b hb => by
        obtain ⟨ob, e⟩ := exs b hb
        exact un.free b ob (cel_obj e0.hok e) (hide_at hb) (by simp)
      have nex : ∀ {b : Addr} {o : HO}, H b = some o → (∀ ob, o ≠ CelO b ob) → ¬ isC F.cl b := fun {b o} e n z => by
        obtain ⟨ob, r⟩ := exs b z
        rw [r] at e
        exact n ob (Option.some.inj e).symm
      refine ⟨v, lay F.cl H H', os, bare, ⟨fun b o g n => un.keep b o g (hide_none n), fun b o g n => un.slot b o g (hide_none n), fun b o g n hx => ?_, un.there, fun b xs e => ?_, fun b o u e => ?_, fun b ps e => ?_⟩, hok_lay hok no' celk, rv, q⟩
      · by_cases z : isC F.cl b
        · rw [lay_at z]; exact n
        · rw [lay_no z]; exact un.free b o g (hide_none n) hx
      · have z := nex e fun ob z => by cases z
        rw [lay_no z]
        exact un.tups b xs (by rw [hide_no z]; exact e)
      · have z := nex e fun ob z => by cases z
        rw [lay_no z]
        exact un.frzs b o u (by rw [hide_no z]; exact e)
      · have z := nex e fun ob z => by cases z
        rw [lay_no z]
        exact un.tbls b ps (by rw [hide_no z]; exact e)
/-- f(..), f a name that holds such a function -/
def tLead (P : Program) (w : World) (K : PySem.W.Frag) (mg : Str → Option Value) (base : Heap) (k i : Nat) (t : TA) : TE := fun σ H Q => ∃ f pre sp, σ[i]? = some (some (.ref f)) ∧ Lead P w K mg base k f pre sp ∧ (∃ F, H f = some (FnO f F)) ∧ t σ H fun vs H1 => pre H1 ∧ sp vs H1 Q E0
section
variable {X : Cx} {i j k : Nat} {x : Str} {t : TA} {e : Expr} {es : List Expr} {p pos : Pos}
theorem pe_lead (hr : Room k X.A) (hN : X.N[i]? = some x) (hv : Vis X.env.scope x) (ha : PA X (e :: es) t)
    (hd : (x == ("__debug__" : Str)) = false := by decide) (hcd : (x == ("__classdict__" : Str)) = false := by decide)
    (he : starEach (e :: es) X.env = (false, eval e X.env) :: starEach es X.env := by rfl) (hpl : (backTo pos (starEach es X.env)).any (·.1) = false := by rfl) :
    PE X (.Call (.Name x p) (e :: es) [] pos) (tLead X.prog X.w X.K X.mg X.base k i t) := by
  refine ⟨fun pins s σ H Q I h => ?_⟩
  obtain ⟨f, pre, sp, hs, L, ⟨F, hf⟩, ht⟩ := h
  refine wpAny_Call_Name_kw (thn ((pe_var (pos := p) hN hv hd hcd).run pins s σ H (fun v H1 => v = .ref f ∧ H1 = H) I ⟨.ref f, hs, rfl, rfl⟩) fun u s1 ⟨v, H1, I1, r1, q1⟩ => ?_)
  obtain ⟨ev, eH⟩ := q1
  subst ev
  rw [eH] at I1
  obtain rfl : u = Value.ref f := r1
  refine PySem.W.callWith_F (first := []) (fnAt_of I1 hf) (thn (ha.run pos pins s1 σ H _ I1 ht) fun us s2 ⟨vs, H2, I2, r, h1, q⟩ => ?_) he hpl
  obtain ⟨F2, hf2⟩ := L.at_ H2 h1
  refine ⟨fnAt_of I2 hf2, ?_⟩
  show wpAny _ _ (call (.ref f) us) _ _ _
  refine wpAny_call (codeAny_mono (L.run X.A X.stack s2 H2 us vs Q hr I2.env0 h1 r q) fun r s' hq => ?_)
  cases r with
  | error e => exact hq.elim
  | ok fl =>
    cases fl with
    | ret u => exact I2.after hq
    | next => exact False.elim hq
    | brk => exact False.elim hq
    | cont => exact False.elim hq
end
/-- HE is H with the cells shown -/
structure Shown (cl : List (Str × Addr)) (fr : List Str) (ws : List (Option V)) (H HE : Hp) : Prop where
  exd : Exd cl fr ws HE
  off : ∀ b, ¬ isC cl b → HE b = H b
  on : ∀ b, isC cl b → H b = none
theorem Shown.more {cl : List (Str × Addr)} {fr : List Str} {ws : List (Option V)} {H HE : Hp} (x : Shown cl fr ws H HE) : ∀ b o, H b = some o → HE b = some o := fun b o e => by
  rw [x.off b fun z => by rw [x.on b z] at e; cases e]
  exact e
theorem show_of {P : Program} {w : World} {cl : List (Str × Addr)} {fr : List Str} {ws : List (Option V)} {H : Hp} {h : Heap} (ok : HOk P w H h) (C : CellsAt cl fr ws h H) :
    ∃ HE, Shown cl fr ws H HE ∧ HOk P w HE h ∧ ∀ b, isC cl b → ∃ ob, HE b = some (CelO b ob) ∧ h.get? b = some ob := by
  let G : Hp := fun b => match h.get? b with
    | some ob => some (CelO b ob)
    | none => none
  have gat : ∀ {b ob}, h.get? b = some ob → G b = some (CelO b ob) := fun {b ob} e => by
    show (match h.get? b with | some ob => some (CelO b ob) | none => none) = _
    rw [e]
  have on : ∀ b, isC cl b → H b = none := fun b ⟨y, e⟩ => (C.all y b e).1
  have cel : ∀ b, isC cl b → ∃ ob, G b = some (CelO b ob) ∧ h.get? b = some ob := fun b ⟨y, e⟩ => by
    obtain ⟨_, v, ob, g, _⟩ := C.all y b e
    exact ⟨ob, gat g, g⟩
  refine ⟨lay cl G H, ⟨⟨C.len, fun y c e => ?_, C.inj, fun i y e => ?_⟩, fun b z => lay_no z, on⟩, hok_lay ok on cel, fun b z => ?_⟩
  · obtain ⟨_, v, ob, g, d⟩ := C.all y c e
    exact ⟨ob, v, (lay_at ⟨y, e⟩).trans (gat g), d⟩
  · obtain ⟨c, a, b⟩ := C.has i y e
    refine ⟨c, a, fun v ev => ?_⟩
    obtain ⟨u, r, ob, g, d⟩ := b v ev
    exact ⟨ob, u, (lay_at ⟨y, a⟩).trans (gat g), d, r⟩
  · obtain ⟨ob, a, g⟩ := cel b z
    exact ⟨ob, (lay_at z).trans a, g⟩
/-- a def's call while the caller's own cells are shown -/
def tCallE (cl : List (Str × Addr)) (fr : List Str) (js : List Nat) (sp : Sp) (t : TA) : TE := fun σ H Q => t σ H fun vs H1 => ∀ HE, Shown cl fr (js.map (slotAt σ)) H1 HE → sp vs HE (fun v H2 => (∀ b, isC cl b → H2 b = HE b) ∧ Q v (hide cl H2)) E0
section
variable {X : Cx} {k : Nat} {f : Addr} {fd : FuncData} {ps fr : List Str} {cl : List (Str × Addr)} {js : List Nat} {sp : Sp} {x : Str} {p pos : Pos} {e : Expr} {es : List Expr} {t : TA}
theorem own_new {pins : List (Addr × Obj)} {σ : L2.St} {H : Hp} {s : Shared} (I : Inv X pins σ H s) (cp : Caps X cl fr js) (hfn : ∀ x, X.fn x = true) {b : Addr} (h : isC cl b) : X.s_0.heap.objs.size ≤ b ∧ b ∉ frs X.stack := by
  obtain ⟨y, e⟩ := h
  have e1 := cp.sub y b e
  have lo := I.ok.cab y b (hfn y) e1
  refine ⟨lo, fun z => ?_⟩
  rcases List.mem_cons.mp (I.stkSub b z) with z | z
  · exact I.cne y b e1 z
  · obtain ⟨_, o, ho, _⟩ := I.ok.funs.mem z
    exact absurd (Nat.lt_of_lt_of_le (Heap.lt_size ho) lo) (Nat.lt_irrefl _)
theorem run_fnE {pins : List (Addr × Obj)} {σ : L2.St} {H HE : Hp} {s : Shared} {Q : VK} {us : List Value} {vs : List V} {ws : List (Option V)} (F : FnOk X.prog X.w X.K X.mg X.base CX0 k f fd ps sp) (hr : Room k X.A) (hb : Binds X.K fd ps [])
    (I : Inv X pins σ H s) (cp : Caps X cl fr js) (hfn : ∀ x, X.fn x = true) (sh : Shown cl fr ws H HE) (okE : HOk X.prog X.w HE s.heap) (cel : ∀ b, isC cl b → ∃ ob, HE b = some (CelO b ob) ∧ s.heap.get? b = some ob)
    (r : Vals vs us) (h : sp vs HE (fun v H2 => (∀ b, isC cl b → H2 b = HE b) ∧ Q v (hide cl H2)) E0) : wpAny (model X.prog X.w) X.A (call (.ref f) us) (EP X pins σ Q) X.xe s := by
  have hl : us.length = ps.length := by rw [← r.length]; exact F.len _ _ _ _ h
  have e0 := I.env0
  have nEb : ∀ {b : Addr}, H b = none → ¬ isC cl b → HE b = none := fun {b} e z => by rw [sh.off b z]; exact e
  have e1 : Env0 X.prog X.w X.K X.mg X.base X.A X.stack s HE := ⟨e0.frames, e0.mod, fun b o e => ⟨(e0.bs b o e).1, nEb (e0.bs b o e).2 fun z => ?_⟩, e0.bsz, e0.funs, fun b hb' => nEb (e0.frf b hb') fun z => (own_new I cp hfn z).2 hb', okE, e0.bare⟩
  · have hb2 := hb s us I.kIn (by rw [List.append_nil]; exact hl)
    rw [List.append_nil] at hb2
    refine wpAny_call (codeAny_mono (F.run X.A X.stack s HE ⟨us, []⟩ us vs _ E0 hr e1 hb2 r h) fun r s' hq => ?_)
    cases r with
    | error e => exact hq.elim
    | ok fl =>
      cases fl with
      | next => exact False.elim hq
      | brk => exact False.elim hq
      | cont => exact False.elim hq
      | ret u =>
        obtain ⟨v, H2, os, bare, un, hok, rv, keep, q⟩ := hq
        have ex2 : ∀ b, isC cl b → ∃ ob, H2 b = some (CelO b ob) := fun b z => by
          obtain ⟨ob, a, _⟩ := cel b z
          exact ⟨ob, (keep b z).trans a⟩
        have tr : ∀ {b : Addr} {o : HO}, H b = some o → ¬ isC cl b := fun {b o} e z => by rw [sh.on b z] at e; cases e
        refine I.after ⟨v, hide cl H2, os, bare, ⟨fun b o g n hf hx => ?_, fun b o g n hf hx => ?_, fun b o g n hx => ?_, un.there, fun b xs e => ?_, fun b o u e => ?_, fun b ps e => ?_⟩, hok_hide hok ex2, rv, q⟩
        · by_cases z : isC cl b
          · obtain ⟨ob, a, g2⟩ := cel b z
            rw [g] at g2
            cases g2
            exact cel_obj hok ((keep b z).trans a)
          · exact un.keep b o g (nEb n z) hf hx
        · by_cases z : isC cl b
          · exact absurd hf (own_new I cp hfn z).2
          · exact un.slot b o g (nEb n z) hf hx
        · by_cases z : isC cl b
          · exact hide_at z
          · rw [hide_no z]; exact un.free b o g (nEb n z) hx
        · have z := tr e
          rw [hide_no z]
          exact un.tups b xs (by rw [sh.off b z]; exact e)
        · have z := tr e
          rw [hide_no z]
          exact un.frzs b o u (by rw [sh.off b z]; exact e)
        · have z := tr e
          rw [hide_no z]
          exact un.tbls b ps (by rw [sh.off b z]; exact e)
  · have lo := (own_new I cp hfn z).1
    exact absurd (Nat.lt_of_lt_of_le (Nat.lt_of_lt_of_le (Heap.lt_size e) I.ok.bsz) lo) (Nat.lt_irrefl _)
theorem pe_callE (F : FnOk X.prog X.w X.K X.mg X.base CX0 k f fd ps sp) (hr : Room k X.A) (hg : Gl X x) (hm : X.mg x = some (.ref f)) (hk : PySem.W.keepIn X.K (.ref f) = true) (hb : Binds X.K fd ps []) (cp : X.Ok → Caps X cl fr js) (hfn : ∀ x, X.fn x = true)
    (ha : PA X (e :: es) t) (hdb : (x == ("__debug__" : Str)) = false := by decide) (he : starEach (e :: es) X.env = (false, eval e X.env) :: starEach es X.env := by rfl) (hpl : (backTo pos (starEach es X.env)).any (·.1) = false := by rfl) :
    PE X (.Call (.Name x p) (e :: es) [] pos) (tCallE cl fr js sp t) := by
  refine ⟨fun pins s σ H Q I h => ?_⟩
  refine wpAny_Call_Name_kw (ld_glob I hg hm ?_ hdb)
  refine PySem.W.callWith_K (h₀ := X.base) I.ok.mod.kin hk (thn (ha.run pos pins s σ H _ I h) fun us s2 ⟨vs, H2, I2, r, q⟩ => ⟨I2.kIn, ?_⟩) he hpl
  obtain ⟨HE, sh, ok, cel⟩ := show_of I2.hok (cells_of I2 (cp I2.ok))
  exact run_fnE F hr hb I2 (cp I2.ok) hfn sh ok cel r (q HE sh)
end
/-- THE RULE for a def whose body is a statement and a return, whose own cells are shown behind it -/
theorem ok_show {P : Program} {w : World} {K : PySem.W.Frag} {mg : Str → Option Value} {base : Heap} {x qual : Str} {st s1 : Stmt} {e : Expr} {rp : Pos} {f c : Addr} {oc kV doc pm ct : Value} {od an : Option Addr} {osl : Array (Option Value)} {N ps : List Str} {k : Nat} {sp : Sp}
    (lk : K.lookup f = some ⟨oc, od, .func (PySem.W.fnOf x qual (defArgs st) (defBody st) (defScope st) .none kV doc pm an (.ref c) ct), osl⟩) (hcd : PySem.W.codeIn K (.ref c) qual = true) (S : FnScope N ps (defScope st)) (len : ∀ vs H Q E, sp vs H Q E → vs.length = ps.length)
    (hbd : defBody st = [s1, .Return (some e) rp])
    (hbody : ∀ (A : Around) (outer : List Env) (s : Shared) (H : Hp) (vs : List V) (Q : VK) (E : XK), Room k (A.deeper (envOfC qual (defScope st) s.heap.objs.size f (.ref c))) → sp vs H Q E →
      ∃ (t1 : TS) (te : TE) (cl : List (Str × Addr)) (fr : List Str) (js : List Nat), PS (cxOf CX0 P w K mg base N qual (defScope st) f (.ref c) A outer s H E) s1 t1 ∧ PE (cxOf CX0 P w K mg base N qual (defScope st) f (.ref c) A outer s H E) e te ∧
        ((cxOf CX0 P w K mg base N qual (defScope st) f (.ref c) A outer s H E).Ok → Caps (cxOf CX0 P w K mg base N qual (defScope st) f (.ref c) A outer s H E) cl fr js) ∧
        t1 { nx := fun σ1 H1 => te σ1 H1 fun v H2 => ∀ HE, Shown cl fr (js.map (slotAt σ1)) H2 HE → Q v HE, rt := fun _ _ => False } (L2.start N vs) H) :
    FnOk P w K mg base CX0 (k + 1) f (PySem.W.fnOf x qual (defArgs st) (defBody st) (defScope st) .none kV doc pm an (.ref c) ct) ps sp := by
  refine ⟨len, fun A outer s H args us vs Q E hr e0 hb r hsp => ?_⟩
  have hl := len _ _ _ _ hsp
  have KX : K.In s.heap := e0.mod.kin.keeps fun b o e => (e0.bs b o e).1
  have lim : s.heap.NoLimit := e0.mod.nolimit.keeps fun b o e => (e0.bs b o e).1
  have hkind : ∀ y ∈ ps.zip us, (defScope st).names.lookup y.1 = some .local ∨ ((defScope st).names.lookup y.1 = some .cell ∧ ((cellsFrom (s.heap.objs.size + 1) (defScope st).names []).lookup y.1).isSome = true) := fun ⟨n, v⟩ hy => by
    rcases S.par n (List.of_mem_zip hy).1 with q | q
    · exact .inl q
    · exact .inr ⟨q, PySem.W.cellsFrom_some _ _ _ (.inl q)⟩
  refine codeAny_call_function hr.depth (KX _ _ lk) rfl S.co S.gen rfl (PySem.W.codeRec_of KX hcd) (hb _ _ _ _ ?_)
  refine wpAny_newFunctionEnv_cells S.kind hkind fun env he s1' x => ?_
  subst he
  refine ⟨lim.keeps x.toInCall.keep, codeAny_func ?_⟩
  obtain ⟨t1, te, cl, fr, js, h1, h2, cp, hq⟩ := hbody A outer s H vs Q E (hr.deeper _) hsp
  have I : Inv (cxOf CX0 P w K mg base N qual (defScope st) f (.ref c) A outer s H E) [] (L2.start N vs) H s1' := inv_start S hr.hd e0 hl r x
  have key : wpAny (model P w) (cxOf CX0 P w K mg base N qual (defScope st) f (.ref c) A outer s H E).A (execs [s1, .Return (some e) rp] (cxOf CX0 P w K mg base N qual (defScope st) f (.ref c) A outer s H E).env)
      (fun fl s' => ∃ u v σ' H', fl = Flow.ret u ∧ Inv (cxOf CX0 P w K mg base N qual (defScope st) f (.ref c) A outer s H E) [] σ' H' s' ∧ L2.RelV v u ∧ ∀ HE, Shown cl fr (js.map (slotAt σ')) H' HE → Q v HE) (cxOf CX0 P w K mg base N qual (defScope st) f (.ref c) A outer s H E).xe s1' := by
    refine wpAny_execs_cons (thn (h1.run [] s1' _ H _ I hq) fun fl s2 q => ?_)
    cases fl with
    | next =>
      obtain ⟨σ', H', I', q⟩ := q
      refine wpAny_execs_cons (wpAny_Return_some (thn (h2.run [] s2 σ' H' _ I' q) fun u s3 ⟨v, H3, I3, r3, q3⟩ => ⟨u, v, σ', H3, rfl, I3, r3, q3⟩))
    | ret v =>
      obtain ⟨_, _, _, _, _, q⟩ := q
      exact q.elim
    | brk =>
      obtain ⟨_, _, _, q⟩ := q
      exact q.elim
    | cont =>
      obtain ⟨_, _, _, q⟩ := q
      exact q.elim
  show wpAny _ _ (execs (defBody st) _) _ _ _
  rw [hbd]
  refine wpAny_mono key (fun fl s' hs => ?_) fun e s' hs => hs
  obtain ⟨u, v, σ', H', rfl, J, rv, q⟩ := hs
  have cp' := cp J.ok
  obtain ⟨HE, sh, ok, cel⟩ := show_of J.hok (cells_of J cp')
  have fresh : ∀ {b : Addr} {o : Obj}, s.heap.get? b = some o → ¬ isC cl b := fun {b o} g z => by
    have lo := (own_new J cp' (fun _ => rfl) z).1
    exact absurd (Nat.lt_of_lt_of_le (Heap.lt_size g) lo) (Nat.lt_irrefl _)
  have un := J.base
  show CE outer P w H s Q u s'
  refine ⟨v, HE, J.os, J.bare, ⟨un.keep, un.slot, fun b o g n hx => ?_, un.there, fun b xs e => sh.more b _ (un.tups b xs e), fun b o u e => sh.more b _ (un.frzs b o u e), fun b ps e => ?_⟩, ok, rv, q HE sh⟩
  · rw [sh.off b (fresh g)]
    exact un.free b o g n hx
  · obtain ⟨more, e⟩ := un.tbls b ps e
    exact ⟨more, sh.more b _ e⟩
end B5

/-! Bfs: states met in order, named by what is met; two namings of the same give the same rows. -/
namespace B5
/-- the place of a name in a list -/
def ixOf {α : Type} [DecidableEq α] : List α → α → Option Nat
  | [], _ => none
  | x :: l, a => if x = a then some 0 else (ixOf l a).map (· + 1)
/-- one name more: its place, and the list with it -/
def note {α : Type} [DecidableEq α] (st : List α) (a : α) : List α × Nat :=
  match ixOf st a with
  | some i => (st, i)
  | none => (st ++ [a], st.length)
/-- a row of names in turn -/
def noteAll {α : Type} [DecidableEq α] : List α → List α → List α × List Nat
  | st, [] => (st, [])
  | st, a :: as => let q := note st a; let r := noteAll q.1 as; (r.1, q.2 :: r.2)
/-- the walk over all names that are met -/
def walkB {α : Type} [DecidableEq α] (lead : α → List α) : Nat → Nat → List α → List (List Nat) → List α × List (List Nat)
  | 0, _, st, rows => (st, rows)
  | k + 1, i, st, rows => match st[i]? with
    | none => (st, rows)
    | some a => let q := noteAll st (lead a); walkB lead k (i + 1) q.1 (rows ++ [q.2])
inductive Par {α β : Type} (R : α → β → Prop) : List α → List β → Prop
  | nil : Par R [] []
  | cons {a b l m} : R a b → Par R l m → Par R (a :: l) (b :: m)
theorem Par.len {α β : Type} {R : α → β → Prop} {l : List α} {m : List β} (h : Par R l m) : l.length = m.length := by
  induction h with
  | nil => rfl
  | cons _ _ ih => rw [List.length_cons, List.length_cons, ih]
theorem Par.app {α β : Type} {R : α → β → Prop} {l l' : List α} {m m' : List β} (h : Par R l m) (g : Par R l' m') : Par R (l ++ l') (m ++ m') := by
  induction h with
  | nil => exact g
  | cons r _ ih => exact .cons r ih
theorem Par.at {α β : Type} {R : α → β → Prop} {l : List α} {m : List β} (h : Par R l m) : ∀ (i : Nat), (l[i]? = none ∧ m[i]? = none) ∨ ∃ a b, l[i]? = some a ∧ m[i]? = some b ∧ R a b := by
  induction h with
  | nil => exact fun i => .inl ⟨by simp, by simp⟩
  | cons r _ ih =>
    intro i
    cases i with
    | zero => exact .inr ⟨_, _, rfl, rfl, r⟩
    | succ i => simpa using ih i
section
variable {α β : Type} [DecidableEq α] [DecidableEq β] {R : α → β → Prop}
/-- R names one to one -/
def One (R : α → β → Prop) : Prop := ∀ a b a' b', R a b → R a' b' → (a = a' ↔ b = b')
theorem ixOf_par (o : One R) {l : List α} {m : List β} (h : Par R l m) {a : α} {b : β} (r : R a b) : ixOf l a = ixOf m b := by
  induction h with
  | nil => rfl
  | @cons x y l m q _ ih =>
    unfold ixOf
    by_cases e : x = a
    · rw [if_pos e, if_pos ((o _ _ _ _ q r).mp e)]
    · rw [if_neg e, if_neg fun z => e ((o _ _ _ _ q r).mpr z), ih]
theorem note_par (o : One R) {l : List α} {m : List β} (h : Par R l m) {a : α} {b : β} (r : R a b) : Par R (note l a).1 (note m b).1 ∧ (note l a).2 = (note m b).2 := by
  unfold note
  rw [ixOf_par o h r]
  cases ixOf m b with
  | some i => exact ⟨h, rfl⟩
  | none => exact ⟨h.app (.cons r .nil), h.len⟩
theorem noteAll_par (o : One R) {as : List α} {bs : List β} (g : Par R as bs) : ∀ {l : List α} {m : List β}, Par R l m → Par R (noteAll l as).1 (noteAll m bs).1 ∧ (noteAll l as).2 = (noteAll m bs).2 := by
  induction g with
  | nil => exact fun h => ⟨h, rfl⟩
  | cons r _ ih =>
    intro l m h
    obtain ⟨h1, h2⟩ := note_par o h r
    obtain ⟨h3, h4⟩ := ih h1
    refine ⟨h3, ?_⟩
    show (note l _).2 :: (noteAll (note l _).1 _).2 = (note m _).2 :: (noteAll (note m _).1 _).2
    rw [h2, h4]
/-- two namings of the same give the same rows -/
theorem walkB_par (o : One R) {f : α → List α} {g : β → List β} (fg : ∀ a b, R a b → Par R (f a) (g b)) : ∀ (k i : Nat) {l : List α} {m : List β} (rows : List (List Nat)), Par R l m →
    Par R (walkB f k i l rows).1 (walkB g k i m rows).1 ∧ (walkB f k i l rows).2 = (walkB g k i m rows).2
  | 0, _, _, _, _, h => ⟨h, rfl⟩
  | k + 1, i, l, m, rows, h => by
    unfold walkB
    rcases h.at i with ⟨e1, e2⟩ | ⟨a, b, e1, e2, r⟩
    · rw [e1, e2]
      exact ⟨h, rfl⟩
    · rw [e1, e2]
      obtain ⟨h1, h2⟩ := noteAll_par o (fg a b r) h
      have := walkB_par o fg k (i + 1) (rows ++ [(noteAll l (f a)).2]) h1
      simp only []
      rw [h2] at this ⊢
      exact this
end
section
variable {α : Type} [DecidableEq α]
theorem ixOf_some {a : α} : ∀ {l : List α} {i : Nat}, ixOf l a = some i → l[i]? = some a
  | [], _, h => by cases h
  | x :: l, i, h => by
    unfold ixOf at h
    by_cases e : x = a
    · rw [if_pos e] at h
      cases h
      rw [e]
      rfl
    · rw [if_neg e] at h
      cases q : ixOf l a with
      | none => rw [q] at h; cases h
      | some j =>
        rw [q] at h
        cases h
        show l[j]? = some a
        exact ixOf_some q
theorem ixOf_none {a : α} : ∀ {l : List α}, ixOf l a = none → a ∉ l
  | [], _ => by simp
  | x :: l, h => by
    unfold ixOf at h
    by_cases e : x = a
    · rw [if_pos e] at h
      cases h
    · rw [if_neg e] at h
      cases q : ixOf l a with
      | none =>
        intro z
        rcases List.mem_cons.mp z with z | z
        · exact e z.symm
        · exact ixOf_none q z
      | some j => rw [q] at h; cases h
theorem ixOf_self {l : List α} (nd : l.Nodup) {i : Nat} {a : α} (h : l[i]? = some a) : ixOf l a = some i := by
  cases q : ixOf l a with
  | none => exact absurd (List.mem_of_getElem? h) (ixOf_none q)
  | some j =>
    have hj := ixOf_some q
    obtain ⟨h1, h2⟩ := List.getElem?_eq_some_iff.mp h
    obtain ⟨h3, h4⟩ := List.getElem?_eq_some_iff.mp hj
    rw [(List.getElem_inj nd).mp (h4.trans h2.symm)]
/-- what a list that grows keeps -/
theorem note_pre (st : List α) (a : α) : st <+: (note st a).1 := by
  unfold note
  cases ixOf st a with
  | some i => exact List.prefix_refl _
  | none => exact List.prefix_append _ _
theorem note_nd {st : List α} (nd : st.Nodup) (a : α) : (note st a).1.Nodup := by
  unfold note
  cases q : ixOf st a with
  | some i => exact nd
  | none =>
    show (st ++ [a]).Nodup
    rw [List.nodup_append]
    refine ⟨nd, by simp, fun x hx y hy e => ?_⟩
    have : y = a := by simpa using hy
    rw [e, this] at hx
    exact ixOf_none q hx
theorem note_at (st : List α) (a : α) : (note st a).1[(note st a).2]? = some a := by
  unfold note
  cases q : ixOf st a with
  | some i => exact ixOf_some q
  | none => show (st ++ [a])[st.length]? = some a; simp
theorem noteAll_pre : ∀ (as st : List α), st <+: (noteAll st as).1
  | [], st => List.prefix_refl _
  | a :: as, st => (note_pre st a).trans (noteAll_pre as _)
theorem noteAll_nd : ∀ (as : List α) {st : List α}, st.Nodup → (noteAll st as).1.Nodup
  | [], _, nd => nd
  | a :: as, _, nd => noteAll_nd as (note_nd nd a)
theorem pre_at {l m : List α} (h : l <+: m) {i : Nat} {a : α} (e : l[i]? = some a) : m[i]? = some a := by
  obtain ⟨t, rfl⟩ := h
  rw [List.getElem?_append_left (List.getElem?_eq_some_iff.mp e).1]
  exact e
/-- a row tells the places of its names -/
theorem noteAll_at : ∀ (as st : List α), (noteAll st as).2.length = as.length ∧ ∀ (j : Nat) (a : α) (i : Nat), as[j]? = some a → (noteAll st as).2[j]? = some i → (noteAll st as).1[i]? = some a
  | [], st => ⟨rfl, fun j a i h _ => by simp at h⟩
  | x :: as, st => by
    obtain ⟨h1, h2⟩ := noteAll_at as (note st x).1
    refine ⟨by show (_ :: _).length = _; rw [List.length_cons, List.length_cons, h1], fun j a i e1 e2 => ?_⟩
    cases j with
    | zero =>
      cases e1
      cases e2
      exact pre_at (noteAll_pre as _) (note_at st x)
    | succ j => exact h2 j a i e1 e2
/-- every name of a noted row is in the list -/
theorem note_mem (st : List α) (a : α) : ∀ x ∈ (note st a).1, x ∈ st ∨ x = a := by
  unfold note
  cases ixOf st a with
  | some i => exact fun x h => .inl h
  | none =>
    intro x h
    rcases List.mem_append.mp h with h | h
    · exact .inl h
    · exact .inr (by simpa using h)
theorem noteAll_mem : ∀ (as st : List α), ∀ x ∈ (noteAll st as).1, x ∈ st ∨ x ∈ as
  | [], _ => fun x h => .inl h
  | a :: as, st => fun x h => by
    rcases noteAll_mem as _ x h with h | h
    · rcases note_mem st a x h with h | h
      · exact .inl h
      · exact .inr (by rw [h]; exact .head _)
    · exact .inr (.tail _ h)
end
end B5

/-! Bfs2: the walk ends closed. -/
namespace B5
variable {α : Type} [DecidableEq α]
theorem ixOf_app {k : α} (x : α) : ∀ (l : List α), ixOf (l ++ [k]) x = match ixOf l x with
    | some t => some t
    | none => if k = x then some l.length else none
  | [] => by
    show (if k = x then some 0 else (ixOf [] x).map _) = if k = x then some 0 else none
    rfl
  | y :: l => by
    show (if y = x then some 0 else (ixOf (l ++ [k]) x).map (· + 1)) = match (if y = x then some 0 else (ixOf l x).map (· + 1)) with
      | some t => some t
      | none => if k = x then some (y :: l).length else none
    by_cases z : y = x
    · rw [if_pos z]
      rw [if_pos z]
    · rw [if_neg z, if_neg z, ixOf_app x l]
      cases ixOf l x with
      | some t => rfl
      | none =>
        by_cases q : k = x
        · simp [q]
        · simp [q]
/-- the rows tell where the names lead -/
def RowOk (lead : α → List α) (st : List α) (a : α) (row : List Nat) : Prop := row.length = (lead a).length ∧ ∀ (j : Nat) (b : α), (lead a)[j]? = some b → ∃ k, row[j]? = some k ∧ st[k]? = some b
theorem RowOk.pre {lead : α → List α} {st st' : List α} {a : α} {row : List Nat} (h : RowOk lead st a row) (p : st <+: st') : RowOk lead st' a row :=
  ⟨h.1, fun j b e => let ⟨k, e1, e2⟩ := h.2 j b e; ⟨k, e1, pre_at p e2⟩⟩
structure WalkI (lead : α → List α) (P : α → Prop) (st0 : List α) (i : Nat) (st : List α) (rows : List (List Nat)) : Prop where
  len : rows.length = i
  le : i ≤ st.length
  nd : st.Nodup
  all : ∀ x ∈ st, P x
  pre : st0 <+: st
  ok : ∀ (j : Nat) (a : α) (row : List Nat), j < i → st[j]? = some a → rows[j]? = some row → RowOk lead st a row
theorem WalkI.step {lead : α → List α} {P : α → Prop} (cl : ∀ a, P a → ∀ b ∈ lead a, P b) {st0 : List α} {i : Nat} {st : List α} {rows : List (List Nat)} (h : WalkI lead P st0 i st rows) {a : α} (e : st[i]? = some a) :
    WalkI lead P st0 (i + 1) (noteAll st (lead a)).1 (rows ++ [(noteAll st (lead a)).2]) := by
  have p := noteAll_pre (lead a) st
  have lt := (List.getElem?_eq_some_iff.mp e).1
  have pl := p.length_le
  refine ⟨by rw [List.length_append, h.len]; rfl, by omega, noteAll_nd _ h.nd, fun x hx => ?_, h.pre.trans p, fun j b row hj e1 e2 => ?_⟩
  · rcases noteAll_mem _ _ x hx with hx | hx
    · exact h.all x hx
    · exact cl a (h.all a (List.mem_of_getElem? e)) x hx
  · by_cases z : j < i
    · rw [List.getElem?_append_left (by rw [h.len]; exact z)] at e2
      obtain ⟨b', eb⟩ : ∃ b', st[j]? = some b' := ⟨st[j], List.getElem?_eq_getElem (by omega)⟩
      have := pre_at p eb
      rw [e1] at this
      cases this
      exact (h.ok j b row z eb e2).pre p
    · have ej : j = i := by omega
      subst ej
      have := pre_at p e
      rw [e1] at this
      cases this
      rw [List.getElem?_append_right (by rw [h.len]; exact Nat.le_refl _), h.len, Nat.sub_self] at e2
      cases e2
      obtain ⟨h1, h2⟩ := noteAll_at (lead a) st
      refine ⟨h1, fun t b' eb => ?_⟩
      have lt2 := (List.getElem?_eq_some_iff.mp eb).1
      have ek : (noteAll st (lead a)).2[t]? = some ((noteAll st (lead a)).2[t]'(by omega)) := List.getElem?_eq_getElem (by omega)
      exact ⟨_, ek, h2 t b' _ eb ek⟩
/-- with room enough the walk ends closed -/
theorem walkB_end {lead : α → List α} {P : α → Prop} (cl : ∀ a, P a → ∀ b ∈ lead a, P b) {N : Nat} (bnd : ∀ l : List α, l.Nodup → (∀ x ∈ l, P x) → l.length ≤ N) {st0 : List α} : ∀ (k i : Nat) {st : List α} {rows : List (List Nat)},
    WalkI lead P st0 i st rows → N < i + k → ∃ m, WalkI lead P st0 m (walkB lead k i st rows).1 (walkB lead k i st rows).2 ∧ m = (walkB lead k i st rows).1.length
  | 0, i, st, rows, h, hk => by
    have := bnd st h.nd h.all
    have := h.le
    omega
  | k + 1, i, st, rows, h, hk => by
    unfold walkB
    cases e : st[i]? with
    | none =>
      have := List.getElem?_eq_none_iff.mp e
      have := h.le
      exact ⟨i, h, by show i = st.length; omega⟩
    | some a => exact walkB_end cl bnd k (i + 1) (h.step cl e) (by omega)
/-- the walk from one name -/
def walkFrom (lead : α → List α) (N : Nat) (a : α) : List α × List (List Nat) := walkB lead (N + 1) 0 [a] []
theorem walkFrom_end {lead : α → List α} {P : α → Prop} (cl : ∀ a, P a → ∀ b ∈ lead a, P b) {N : Nat} (bnd : ∀ l : List α, l.Nodup → (∀ x ∈ l, P x) → l.length ≤ N) {a : α} (ha : P a) :
    WalkI lead P [a] (walkFrom lead N a).1.length (walkFrom lead N a).1 (walkFrom lead N a).2 := by
  obtain ⟨m, h, e⟩ := walkB_end (st0 := [a]) cl bnd (N + 1) 0 (st := [a]) (rows := []) ⟨rfl, Nat.zero_le _, by simp, fun x hx => by
    have : x = a := by simpa using hx
    rw [this]; exact ha, List.prefix_refl _, fun j _ _ hj => by omega⟩ (by omega)
  rw [e] at h
  exact h
/-- names below n, each once: at most n -/
theorem nodup_below : ∀ (n : Nat) (l : List Nat), l.Nodup → (∀ x ∈ l, x < n) → l.length ≤ n
  | 0, l, _, h => by
    cases l with
    | nil => exact Nat.le_refl _
    | cons x l => exact absurd (h x (.head _)) (Nat.not_lt_zero x)
  | n + 1, l, nd, h => by
    have ih := nodup_below n (l.erase n) (nd.erase n) fun x hx => by
      have h1 := h x (List.mem_of_mem_erase hx)
      have : x ≠ n := fun e => by
        rw [e] at hx
        exact (nd.not_mem_erase) hx
      omega
    have := List.length_erase_of_mem (a := n) (l := l)
    by_cases z : n ∈ l
    · have := this z
      omega
    · have e := List.erase_of_not_mem (a := n) (l := l) z
      rw [e] at ih
      omega
/-- more room changes nothing once the walk has ended -/
theorem walkB_more {lead : α → List α} : ∀ (k i : Nat) (st : List α) (rows : List (List Nat)), (walkB lead k i st rows).1.length < i + k → ∀ k', k ≤ k' → walkB lead k' i st rows = walkB lead k i st rows
  | 0, i, st, rows, h, k', _ => by
    have h : st.length < i + 0 := h
    cases k' with
    | zero => rfl
    | succ k' =>
      unfold walkB
      rw [List.getElem?_eq_none (by omega)]
  | k + 1, i, st, rows, h, k', hk => by
    obtain ⟨k', rfl⟩ : ∃ j, k' = j + 1 := ⟨k' - 1, by omega⟩
    unfold walkB at h ⊢
    cases e : st[i]? with
    | none => rfl
    | some a =>
      rw [e] at h
      exact walkB_more k (i + 1) _ _ (by simp only [] at h; omega) k' (by omega)
end B5

/-! Moore: the coarsest partition of states that a step keeps and that tells the worths. -/
namespace B5
/-- the first of its class -/
def Rep (c : Nat → Nat) (s : Nat) : Prop := ∀ t, t < s → c t ≠ c s
instance (c : Nat → Nat) (s : Nat) : Decidable (Rep c s) := inferInstanceAs (Decidable (∀ t, t < s → c t ≠ c s))
/-- how many classes there are among the first n -/
def cnt (c : Nat → Nat) (n : Nat) : Nat := (List.range n).countP fun s => decide (Rep c s)
/-- c' tells apart what c tells apart, among the first n -/
def Fin1 (c' c : Nat → Nat) (n : Nat) : Prop := ∀ s t, s < n → t < n → c' s = c' t → c s = c t
def Same1 (c' c : Nat → Nat) (n : Nat) : Prop := ∀ s t, s < n → t < n → (c' s = c' t ↔ c s = c t)
theorem Rep.fin {c' c : Nat → Nat} {n s : Nat} (f : Fin1 c' c n) (h : s < n) (r : Rep c s) : Rep c' s := fun t lt e => r t lt (f t s (by omega) h e)
theorem countP_le {α : Type} {p q : α → Bool} : ∀ {l : List α}, (∀ x ∈ l, p x = true → q x = true) → l.countP p ≤ l.countP q
  | [], _ => Nat.le_refl _
  | x :: l, h => by
    have ih := countP_le (l := l) fun y hy => h y (.tail _ hy)
    have hx := h x (.head _)
    rw [List.countP_cons, List.countP_cons]
    cases e : p x with
    | true => rw [hx e]; omega
    | false => cases q x <;> simp <;> omega
theorem countP_eq {α : Type} {p q : α → Bool} : ∀ {l : List α}, (∀ x ∈ l, p x = true → q x = true) → l.countP q ≤ l.countP p → ∀ x ∈ l, q x = true → p x = true
  | [], _, _, x, hx, _ => nomatch hx
  | x :: l, h, le, y, hy, qy => by
    have h' := fun y hy => h y (.tail _ hy)
    have l1 := countP_le (l := l) h'
    have hx := h x (.head _)
    rw [List.countP_cons, List.countP_cons] at le
    cases e : p x with
    | true =>
      rw [e, hx e] at le
      rcases List.mem_cons.mp hy with rfl | hy
      · exact e
      · exact countP_eq (l := l) h' (by simpa using le) y hy qy
    | false =>
      cases e2 : q x with
      | true => rw [e, e2] at le; simp at le; omega
      | false =>
        rw [e, e2] at le
        rcases List.mem_cons.mp hy with rfl | hy
        · rw [e2] at qy; cases qy
        · exact countP_eq (l := l) h' (by simpa using le) y hy qy
theorem cnt_le {c' c : Nat → Nat} {n : Nat} (f : Fin1 c' c n) : cnt c n ≤ cnt c' n := countP_le fun s hs h => decide_eq_true (Rep.fin f (List.mem_range.mp hs) (of_decide_eq_true h))
theorem cnt_max (c : Nat → Nat) (n : Nat) : cnt c n ≤ n := by
  have := List.countP_le_length (p := fun s => decide (Rep c s)) (l := List.range n)
  rw [List.length_range] at this
  exact this
theorem cnt_pos (c : Nat → Nat) {n : Nat} (h : 0 < n) : 0 < cnt c n := List.countP_pos_iff.mpr ⟨0, List.mem_range.mpr h, decide_eq_true fun t lt => absurd lt (Nat.not_lt_zero t)⟩
/-- every state has a first of its class -/
theorem rep_of (c : Nat → Nat) : ∀ (k s : Nat), s ≤ k → ∃ r, r ≤ s ∧ Rep c r ∧ c r = c s
  | 0, s, h => ⟨s, Nat.le_refl _, fun t lt => by omega, rfl⟩
  | k + 1, s, h => by
    by_cases z : Rep c s
    · exact ⟨s, Nat.le_refl _, z, rfl⟩
    · have : ∃ t, t < s ∧ c t = c s := by
        refine Classical.byContradiction fun q => z fun t lt e => q ⟨t, lt, e⟩
      obtain ⟨t, lt, e⟩ := this
      obtain ⟨r, h1, h2, h3⟩ := rep_of c k t (by omega)
      exact ⟨r, by omega, h2, h3.trans e⟩
theorem rep_one' {c : Nat → Nat} {s t : Nat} (a : Rep c s) (b : Rep c t) (e : c s = c t) : s = t := by
  rcases Nat.lt_trichotomy s t with h | h | h
  · exact absurd e (b s h)
  · exact h
  · exact absurd e.symm (a t h)
/-- as many classes: the same partition -/
theorem same_of_cnt {c' c : Nat → Nat} {n : Nat} (f : Fin1 c' c n) (h : cnt c' n ≤ cnt c n) : Same1 c' c n := fun s t hs ht => by
  refine ⟨f s t hs ht, fun e => ?_⟩
  have all := countP_eq (p := fun s => decide (Rep c s)) (q := fun s => decide (Rep c' s)) (l := List.range n) (fun s hs h => decide_eq_true (Rep.fin f (List.mem_range.mp hs) (of_decide_eq_true h))) h
  have back : ∀ r, r < n → Rep c' r → Rep c r := fun r hr h => of_decide_eq_true (all r (List.mem_range.mpr hr) (decide_eq_true h))
  obtain ⟨s0, l1, r1, e1⟩ := rep_of c' s s (Nat.le_refl _)
  obtain ⟨t0, l2, r2, e2⟩ := rep_of c' t t (Nat.le_refl _)
  have k1 := f s0 s (by omega) hs e1
  have k2 := f t0 t (by omega) ht e2
  have := rep_one' (back s0 (by omega) r1) (back t0 (by omega) r2) (k1.trans (e.trans k2.symm))
  rw [← e1, ← e2, this]
theorem Same1.symm {c' c : Nat → Nat} {n : Nat} (h : Same1 c' c n) : Same1 c c' n := fun s t hs ht => (h s t hs ht).symm
theorem Same1.trans {a b c : Nat → Nat} {n : Nat} (x : Same1 a b n) (y : Same1 b c n) : Same1 a c n := fun s t hs ht => (x s t hs ht).trans (y s t hs ht)
/-! ### steps and words -/
section
variable {n p : Nat} {step : Nat → Nat → Nat} {val : Nat → Int}
def runW (step : Nat → Nat → Nat) (s : Nat) (w : List Nat) : Nat := w.foldl step s
/-- no word tells s from t -/
def Alike1 (p : Nat) (step : Nat → Nat → Nat) (val : Nat → Int) (s t : Nat) : Prop := ∀ w : List Nat, (∀ d ∈ w, d < p) → val (runW step s w) = val (runW step t w)
theorem Alike1.next {s t d : Nat} (h : Alike1 p step val s t) (hd : d < p) : Alike1 p step val (step s d) (step t d) := fun w hw => h (d :: w) fun e he => by
  rcases List.mem_cons.mp he with rfl | he
  · exact hd
  · exact hw e he
theorem Alike1.now {s t : Nat} (h : Alike1 p step val s t) : val s = val t := h [] fun _ h => nomatch h
/-- a partition that steps keep and that tells the worths -/
structure Stab (n p : Nat) (step : Nat → Nat → Nat) (val : Nat → Int) (c : Nat → Nat) : Prop where
  keep : ∀ s t, s < n → t < n → c s = c t → ∀ d, d < p → c (step s d) = c (step t d)
  tell : ∀ s t, s < n → t < n → c s = c t → val s = val t
/-- a partition that tells no more than words do -/
def Coarse (n p : Nat) (step : Nat → Nat → Nat) (val : Nat → Int) (c : Nat → Nat) : Prop := ∀ s t, s < n → t < n → Alike1 p step val s t → c s = c t
theorem Stab.alike {c : Nat → Nat} (cl : ∀ s d, s < n → d < p → step s d < n) (h : Stab n p step val c) : ∀ (w : List Nat) (s t : Nat), s < n → t < n → c s = c t → (∀ d ∈ w, d < p) → val (runW step s w) = val (runW step t w)
  | [], s, t, hs, ht, e, _ => h.tell s t hs ht e
  | d :: w, s, t, hs, ht, e, hw => Stab.alike cl h w _ _ (cl s d hs (hw d (.head _))) (cl t d ht (hw d (.head _))) (h.keep s t hs ht e d (hw d (.head _))) fun x hx => hw x (.tail _ hx)
/-- such a partition is that of the words -/
theorem moore {c : Nat → Nat} (cl : ∀ s d, s < n → d < p → step s d < n) (h : Stab n p step val c) (k : Coarse n p step val c) {s t : Nat} (hs : s < n) (ht : t < n) : c s = c t ↔ Alike1 p step val s t :=
  ⟨fun e w hw => Stab.alike cl h w s t hs ht e hw, k s t hs ht⟩
/-- one lap: what stands together and leads together stands together -/
def Lap (n p : Nat) (step : Nat → Nat → Nat) (c c' : Nat → Nat) : Prop := ∀ s t, s < n → t < n → (c' s = c' t ↔ c s = c t ∧ ∀ d, d < p → c (step s d) = c (step t d))
theorem Lap.fin {c c' : Nat → Nat} (l : Lap n p step c c') : Fin1 c' c n := fun s t hs ht e => ((l s t hs ht).mp e).1
theorem Lap.coarse {c c' : Nat → Nat} (cl : ∀ s d, s < n → d < p → step s d < n) (l : Lap n p step c c') (k : Coarse n p step val c) : Coarse n p step val c' := fun s t hs ht a =>
  (l s t hs ht).mpr ⟨k s t hs ht a, fun d hd => k _ _ (cl s d hs hd) (cl t d ht hd) (a.next hd)⟩
/-- n laps behind a partition that tells the worths it is stable -/
theorem laps_stab (cl : ∀ s d, s < n → d < p → step s d < n) (n0 : 0 < n) (c : Nat → Nat → Nat) (tell : ∀ s t, s < n → t < n → c 0 s = c 0 t → val s = val t) {m : Nat} (hm : n ≤ m) (laps : ∀ k, k < m → Lap n p step (c k) (c (k + 1))) : Stab n p step val (c m) := by
  have tells : ∀ k, k ≤ m → ∀ s t, s < n → t < n → c k s = c k t → val s = val t := by
    intro k
    induction k with
    | zero => exact fun _ => tell
    | succ k ih => exact fun hk s t hs ht e => ih (by omega) s t hs ht ((laps k (by omega)).fin s t hs ht e)
  -- a lap that tells no more
  have still : ∃ k, k < n ∧ cnt (c (k + 1)) n ≤ cnt (c k) n := by
    refine Classical.byContradiction fun q => ?_
    have grow : ∀ k, k ≤ n → k + 1 ≤ cnt (c k) n := by
      intro k
      induction k with
      | zero => exact fun _ => cnt_pos _ n0
      | succ k ih =>
        intro hk
        have h1 := ih (by omega)
        have h2 : ¬ cnt (c (k + 1)) n ≤ cnt (c k) n := fun z => q ⟨k, by omega, z⟩
        omega
    have := grow n (Nat.le_refl _)
    have := cnt_max (c n) n
    omega
  obtain ⟨k, hk, le⟩ := still
  have s0 := same_of_cnt (laps k (by omega)).fin le
  -- from there on each lap is the same
  have on : ∀ j, k + j ≤ m → Same1 (c (k + j)) (c k) n := by
    intro j
    induction j with
    | zero => exact fun _ s t _ _ => Iff.rfl
    | succ j ih =>
      intro hj
      have h1 := ih (by omega)
      intro s t hs ht
      refine (laps (k + j) (by omega) s t hs ht).trans ?_
      rw [h1 s t hs ht]
      refine ⟨fun h => h.1, fun e => ⟨e, fun d hd => ?_⟩⟩
      rw [h1 _ _ (cl s d hs hd) (cl t d ht hd)]
      exact (((laps k (by omega)) s t hs ht).mp ((s0 s t hs ht).mpr e)).2 d hd
  have e := on (m - k) (by omega)
  rw [show k + (m - k) = m by omega] at e
  refine ⟨fun s t hs ht q d hd => ?_, tells m (Nat.le_refl _)⟩
  rw [e _ _ (cl s d hs hd) (cl t d ht hd)]
  exact (((laps k (by omega)) s t hs ht).mp ((s0 s t hs ht).mpr ((e s t hs ht).mp q))).2 d hd
/-- one column: what stands together and is led by it together stands together -/
def Col (n : Nat) (f : Nat → Nat) (c c' : Nat → Nat) : Prop := ∀ s t, s < n → t < n → (c' s = c' t ↔ c s = c t ∧ c (f s) = c (f t))
theorem Col.fin {f c c' : Nat → Nat} (l : Col n f c c') : Fin1 c' c n := fun s t hs ht e => ((l s t hs ht).mp e).1
/-- a column that adds no class is kept -/
theorem Col.still {f c c' : Nat → Nat} (l : Col n f c c') (h : cnt c' n ≤ cnt c n) : Same1 c' c n ∧ ∀ s t, s < n → t < n → c s = c t → c (f s) = c (f t) := by
  have e := same_of_cnt l.fin h
  exact ⟨e, fun s t hs ht q => ((l s t hs ht).mp ((e s t hs ht).mpr q)).2⟩
end
end B5

/-! Least: the states that are met, the classes among them, and the classes at once: the same least machine. -/
namespace B5
def tab (rows : List (List Nat)) (i d : Nat) : Nat := (rows.getD i []).getD d 0
def leadS (p : Nat) (step : Nat → Nat → Nat) (s : Nat) : List Nat := (List.range p).map (step s)
theorem leadS_at {p : Nat} {step : Nat → Nat → Nat} {s d : Nat} (h : d < p) : (leadS p step s)[d]? = some (step s d) := by
  unfold leadS
  rw [List.getElem?_map, List.getElem?_range h]
  rfl
theorem leadS_len {p : Nat} {step : Nat → Nat → Nat} {s : Nat} : (leadS p step s).length = p := by
  unfold leadS
  rw [List.length_map, List.length_range]
theorem leadS_mem {p : Nat} {step : Nat → Nat → Nat} {s b : Nat} (h : b ∈ leadS p step s) : ∃ d, d < p ∧ b = step s d := by
  unfold leadS at h
  obtain ⟨d, hd, e⟩ := List.mem_map.mp h
  exact ⟨d, List.mem_range.mp hd, e.symm⟩
/-- what is met, and where it leads -/
structure MetI (n p : Nat) (step : Nat → Nat → Nat) (s0 : Nat) (met : List Nat) (rows : List (List Nat)) : Prop where
  len : rows.length = met.length
  first : met[0]? = some s0
  nd : met.Nodup
  all : ∀ s ∈ met, s < n
  row : ∀ (i : Nat) (r : List Nat), rows[i]? = some r → r.length = p
  led : ∀ (i s d : Nat), met[i]? = some s → d < p → tab rows i d < met.length ∧ met[tab rows i d]? = some (step s d)
theorem met_of {n p N : Nat} {step : Nat → Nat → Nat} (cl : ∀ s d, s < n → d < p → step s d < n) {s0 : Nat} (h0 : s0 < n) (hN : n ≤ N) :
    MetI n p step s0 (walkFrom (leadS p step) N s0).1 (walkFrom (leadS p step) N s0).2 := by
  have h := walkFrom_end (lead := leadS p step) (P := fun s => s < n) (fun a ha b hb => by
    obtain ⟨d, hd, rfl⟩ := leadS_mem hb
    exact cl a d ha hd) (N := N) (fun l nd al => Nat.le_trans (nodup_below n l nd al) hN) h0
  generalize walkFrom (leadS p step) N s0 = W at h ⊢
  refine ⟨h.len, pre_at h.pre rfl, h.nd, h.all, fun i r e => ?_, fun i s d e hd => ?_⟩
  · have lt := (List.getElem?_eq_some_iff.mp e).1
    rw [h.len] at lt
    have := (h.ok i _ r lt (List.getElem?_eq_getElem lt) e).1
    rw [this, leadS_len]
  · have lt := (List.getElem?_eq_some_iff.mp e).1
    have er : W.2[i]? = some (W.2[i]'(by rw [h.len]; exact lt)) := List.getElem?_eq_getElem (by rw [h.len]; exact lt)
    obtain ⟨k, e1, e2⟩ := (h.ok i s _ lt e er).2 d _ (leadS_at hd)
    have ek : tab W.2 i d = k := by
      have e0 : W.2.getD i [] = W.2[i]'(by rw [h.len]; exact lt) := by
        rw [List.getD_eq_getElem?_getD, er]
        rfl
      unfold tab
      rw [e0, List.getD_eq_getElem?_getD, e1]
      rfl
    rw [ek]
    exact ⟨(List.getElem?_eq_some_iff.mp e2).1, e2⟩
section
variable {n p : Nat} {step : Nat → Nat → Nat} {val : Nat → Int} {s0 : Nat} {met : List Nat} {rows : List (List Nat)}
/-- words lead alike on both sides -/
theorem MetI.run (M : MetI n p step s0 met rows) : ∀ (w : List Nat) (i s : Nat), met[i]? = some s → (∀ d ∈ w, d < p) → met[runW (tab rows) i w]? = some (runW step s w)
  | [], i, s, e, _ => e
  | d :: w, i, s, e, hw => MetI.run M w _ _ (M.led i s d e (hw d (.head _))).2 fun x hx => hw x (.tail _ hx)
theorem MetI.alike (M : MetI n p step s0 met rows) {i j s t : Nat} (hi : met[i]? = some s) (hj : met[j]? = some t) :
    Alike1 p (tab rows) (fun i => val (met.getD i 0)) i j ↔ Alike1 p step val s t := by
  have key : ∀ w : List Nat, (∀ d ∈ w, d < p) → ∀ (i s : Nat), met[i]? = some s → val (met.getD (runW (tab rows) i w) 0) = val (runW step s w) := fun w hw i s e => by
    rw [List.getD_eq_getElem?_getD, M.run w i s e hw]
    rfl
  refine ⟨fun h w hw => ?_, fun h w hw => ?_⟩
  · have := h w hw
    simp only [key w hw i s hi, key w hw j t hj] at this
    exact this
  · show val _ = val _
    rw [key w hw i s hi, key w hw j t hj]
    exact h w hw
/-- the classes at once, and the classes among what is met: the same rows, the same worths -/
theorem least_same (cl : ∀ s d, s < n → d < p → step s d < n) (M : MetI n p step s0 met rows) {c c' rp rp' : Nat → Nat}
    (S : Stab n p step val c) (k : Coarse n p step val c) (S' : Stab met.length p (tab rows) (fun i => val (met.getD i 0)) c') (k' : Coarse met.length p (tab rows) (fun i => val (met.getD i 0)) c')
    (hr : ∀ s, s < n → rp (c s) < n ∧ c (rp (c s)) = c s) (hr' : ∀ i, i < met.length → rp' (c' i) < met.length ∧ c' (rp' (c' i)) = c' i) (N : Nat) :
    (walkFrom (fun a => (leadS p step (rp a)).map c) N (c s0)).2 = (walkFrom (fun b => (leadS p (tab rows) (rp' b)).map c') N (c' 0)).2 ∧
    ((walkFrom (fun a => (leadS p step (rp a)).map c) N (c s0)).1.map fun a => val (rp a)) = ((walkFrom (fun b => (leadS p (tab rows) (rp' b)).map c') N (c' 0)).1.map fun b => val (met.getD (rp' b) 0)) := by
  have cl' : ∀ i d, i < met.length → d < p → tab rows i d < met.length := fun i d hi hd => (M.led i _ d (List.getElem?_eq_getElem hi) hd).1
  have o : One (fun a b => ∃ i s, met[i]? = some s ∧ a = c s ∧ b = c' i) := by
    rintro a b a' b' ⟨i, s, hi, rfl, rfl⟩ ⟨j, t, hj, rfl, rfl⟩
    rw [moore cl S k (M.all s (List.mem_of_getElem? hi)) (M.all t (List.mem_of_getElem? hj)), moore cl' S' k' (List.getElem?_eq_some_iff.mp hi).1 (List.getElem?_eq_some_iff.mp hj).1]
    exact (M.alike hi hj).symm
  have fg : ∀ a b, (∃ i s, met[i]? = some s ∧ a = c s ∧ b = c' i) → Par (fun a b => ∃ i s, met[i]? = some s ∧ a = c s ∧ b = c' i) ((leadS p step (rp a)).map c) ((leadS p (tab rows) (rp' b)).map c') := by
    rintro a b ⟨i, s, hi, rfl, rfl⟩
    have hs := M.all s (List.mem_of_getElem? hi)
    have li := (List.getElem?_eq_some_iff.mp hi).1
    obtain ⟨r1, r2⟩ := hr s hs
    obtain ⟨q1, q2⟩ := hr' i li
    unfold leadS
    have go : ∀ l : List Nat, (∀ d ∈ l, d < p) → Par (fun a b => ∃ i s, met[i]? = some s ∧ a = c s ∧ b = c' i) ((l.map (step (rp (c s)))).map c) ((l.map (tab rows (rp' (c' i)))).map c') := by
      intro l
      induction l with
      | nil => exact fun _ => .nil
      | cons d l ih =>
        intro hl
        have hd := hl d (.head _)
        refine .cons ⟨tab rows i d, step s d, (M.led i s d hi hd).2, S.keep _ _ r1 hs r2 d hd, S'.keep _ _ q1 li q2 d hd⟩ (ih fun x hx => hl x (.tail _ hx))
    exact go _ fun d hd => List.mem_range.mp hd
  have l0 : Par (fun a b => ∃ i s, met[i]? = some s ∧ a = c s ∧ b = c' i) [c s0] [c' 0] := .cons ⟨0, s0, M.first, rfl, rfl⟩ .nil
  obtain ⟨h1, h2⟩ := walkB_par o fg (N + 1) 0 [] l0
  refine ⟨h2, ?_⟩
  have vals : ∀ {l : List Nat} {m : List Nat}, Par (fun a b => ∃ i s, met[i]? = some s ∧ a = c s ∧ b = c' i) l m → (l.map fun a => val (rp a)) = m.map fun b => val (met.getD (rp' b) 0) := by
    intro l m h
    induction h with
    | nil => rfl
    | cons r _ ih =>
      obtain ⟨i, s, hi, rfl, rfl⟩ := r
      have hs := M.all s (List.mem_of_getElem? hi)
      have li := (List.getElem?_eq_some_iff.mp hi).1
      obtain ⟨r1, r2⟩ := hr s hs
      obtain ⟨q1, q2⟩ := hr' i li
      rw [List.map_cons, List.map_cons, ih, S.tell _ _ r1 hs r2]
      have this : val (met.getD (rp' (c' i)) 0) = val (met.getD i 0) := S'.tell _ _ q1 li q2
      rw [this, List.getD_eq_getElem?_getD, hi]
      rfl
  exact vals h1
end
end B5

/-! Least2: two machines that tell the same of every word have the same least machine. -/
namespace B5
section
variable {n n' p : Nat} {step step' : Nat → Nat → Nat} {val val' : Nat → Int}
/-- every word tells the same from here and from there -/
def Across (p : Nat) (step : Nat → Nat → Nat) (val : Nat → Int) (step' : Nat → Nat → Nat) (val' : Nat → Int) (s t : Nat) : Prop := ∀ w : List Nat, (∀ d ∈ w, d < p) → val (runW step s w) = val' (runW step' t w)
theorem Across.next {s t d : Nat} (h : Across p step val step' val' s t) (hd : d < p) : Across p step val step' val' (step s d) (step' t d) := fun w hw => h (d :: w) fun e he => by
  rcases List.mem_cons.mp he with rfl | he
  · exact hd
  · exact hw e he
theorem Across.now {s t : Nat} (h : Across p step val step' val' s t) : val s = val' t := h [] fun _ h => nomatch h
theorem Across.alike {s t s' t' : Nat} (h : Across p step val step' val' s t) (h' : Across p step val step' val' s' t') : Alike1 p step val s s' ↔ Alike1 p step' val' t t' :=
  ⟨fun a w hw => by rw [← h w hw, ← h' w hw]; exact a w hw, fun a w hw => by rw [h w hw, h' w hw]; exact a w hw⟩
theorem least_cross (cl : ∀ s d, s < n → d < p → step s d < n) (cl' : ∀ s d, s < n' → d < p → step' s d < n') {c c' rp rp' : Nat → Nat}
    (S : Stab n p step val c) (k : Coarse n p step val c) (S' : Stab n' p step' val' c') (k' : Coarse n' p step' val' c')
    (hr : ∀ s, s < n → rp (c s) < n ∧ c (rp (c s)) = c s) (hr' : ∀ i, i < n' → rp' (c' i) < n' ∧ c' (rp' (c' i)) = c' i) {s0 t0 : Nat} (h0 : s0 < n) (h0' : t0 < n') (x : Across p step val step' val' s0 t0) (N : Nat) :
    (walkFrom (fun a => (leadS p step (rp a)).map c) N (c s0)).2 = (walkFrom (fun b => (leadS p step' (rp' b)).map c') N (c' t0)).2 ∧
    ((walkFrom (fun a => (leadS p step (rp a)).map c) N (c s0)).1.map fun a => val (rp a)) = ((walkFrom (fun b => (leadS p step' (rp' b)).map c') N (c' t0)).1.map fun b => val' (rp' b)) := by
  have o : One (fun a b => ∃ s t, s < n ∧ t < n' ∧ Across p step val step' val' s t ∧ a = c s ∧ b = c' t) := by
    rintro a b a' b' ⟨s, t, hs, ht, xx, rfl, rfl⟩ ⟨s', t', hs', ht', yy, rfl, rfl⟩
    rw [moore cl S k hs hs', moore cl' S' k' ht ht']
    exact xx.alike yy
  have fg : ∀ a b, (∃ s t, s < n ∧ t < n' ∧ Across p step val step' val' s t ∧ a = c s ∧ b = c' t) → Par (fun a b => ∃ s t, s < n ∧ t < n' ∧ Across p step val step' val' s t ∧ a = c s ∧ b = c' t) ((leadS p step (rp a)).map c) ((leadS p step' (rp' b)).map c') := by
    rintro a b ⟨s, t, hs, ht, xx, rfl, rfl⟩
    obtain ⟨r1, r2⟩ := hr s hs
    obtain ⟨q1, q2⟩ := hr' t ht
    unfold leadS
    have go : ∀ l : List Nat, (∀ d ∈ l, d < p) → Par (fun a b => ∃ s t, s < n ∧ t < n' ∧ Across p step val step' val' s t ∧ a = c s ∧ b = c' t) ((l.map (step (rp (c s)))).map c) ((l.map (step' (rp' (c' t)))).map c') := by
      intro l
      induction l with
      | nil => exact fun _ => .nil
      | cons d l ih =>
        intro hl
        have hd := hl d (.head _)
        exact .cons ⟨step s d, step' t d, cl s d hs hd, cl' t d ht hd, xx.next hd, S.keep _ _ r1 hs r2 d hd, S'.keep _ _ q1 ht q2 d hd⟩ (ih fun x hx => hl x (.tail _ hx))
    exact go _ fun d hd => List.mem_range.mp hd
  obtain ⟨h1, h2⟩ := walkB_par o fg (N + 1) 0 [] (.cons ⟨s0, t0, h0, h0', x, rfl, rfl⟩ .nil)
  refine ⟨h2, ?_⟩
  have vals : ∀ {l : List Nat} {m : List Nat}, Par (fun a b => ∃ s t, s < n ∧ t < n' ∧ Across p step val step' val' s t ∧ a = c s ∧ b = c' t) l m → (l.map fun a => val (rp a)) = m.map fun b => val' (rp' b) := by
    intro l m h
    induction h with
    | nil => rfl
    | cons r _ ih =>
      obtain ⟨s, t, hs, ht, xx, rfl, rfl⟩ := r
      obtain ⟨r1, r2⟩ := hr s hs
      obtain ⟨q1, q2⟩ := hr' t ht
      rw [List.map_cons, List.map_cons, ih, S.tell _ _ r1 hs r2, S'.tell _ _ q1 ht q2, xx.now]
  exact vals h1
/-- a map of states that leads alike and keeps the worths -/
theorem across_map {f : Nat → Nat} (P : Nat → Prop) (ls : ∀ s d, P s → d < p → P (step s d) ∧ step' (f s) d = f (step s d)) (lv : ∀ s, P s → val s = val' (f s)) : ∀ (w : List Nat) (s : Nat), P s → (∀ d ∈ w, d < p) → val (runW step s w) = val' (runW step' (f s) w)
  | [], s, h, _ => lv s h
  | d :: w, s, h, hw => by
    have hd := hw d (.head _)
    have := across_map P ls lv w (step s d) (ls s d h hd).1 fun x hx => hw x (.tail _ hx)
    show val (runW step (step s d) w) = val' (runW step' (step' (f s) d) w)
    rw [(ls s d h hd).2]
    exact this
/-- the least machine tells of every word what the machine told -/
theorem least_across (cl : ∀ s d, s < n → d < p → step s d < n) {c rp : Nat → Nat} (S : Stab n p step val c) (hr : ∀ s, s < n → rp (c s) < n ∧ c (rp (c s)) = c s) {s0 N : Nat} (h0 : s0 < n) {met : List Nat} {rows : List (List Nat)}
    (W : ∀ (i a d : Nat), met[i]? = some a → d < p → met[tab rows i d]? = some (c (step (rp a) d))) (all : ∀ a ∈ met, ∃ s, s < n ∧ a = c s) (first : met[0]? = some (c s0)) :
    Across p step val (tab rows) (fun i => val (rp (met.getD i 0))) s0 0 := by
  have key : ∀ (w : List Nat) (s i : Nat), s < n → met[i]? = some (c s) → (∀ d ∈ w, d < p) → val (runW step s w) = val (rp (met.getD (runW (tab rows) i w) 0)) := by
    intro w
    induction w with
    | nil =>
      intro s i hs hi _
      show val s = val (rp (met.getD i 0))
      rw [List.getD_eq_getElem?_getD, hi]
      exact (S.tell _ _ (hr s hs).1 hs (hr s hs).2).symm
    | cons d w ih =>
      intro s i hs hi hw
      have hd := hw d (.head _)
      refine ih (step s d) (tab rows i d) (cl s d hs hd) ?_ fun x hx => hw x (.tail _ hx)
      rw [W i _ d hi hd, S.keep _ _ (hr s hs).1 hs (hr s hs).2 d hd]
  exact fun w hw => key w s0 0 h0 first hw
end
end B5

/-! Nums: keys numbered in the order in which they are met. -/
namespace B5
variable {α : Type} [DecidableEq α]
theorem noteAll_snoc (a : α) : ∀ (as st : List α), noteAll st (as ++ [a]) = ((note (noteAll st as).1 a).1, (noteAll st as).2 ++ [(note (noteAll st as).1 a).2])
  | [], st => rfl
  | x :: as, st => by
    show ((noteAll (note st x).1 (as ++ [a])).1, (note st x).2 :: (noteAll (note st x).1 (as ++ [a])).2) = _
    rw [noteAll_snoc a as]
    rfl
/-- the numbers of the keys -/
def numB (keys : List α) : List Nat := (noteAll [] keys).2
def manyOf (keys : List α) : Nat := (noteAll [] keys).1.length
def cOf (l : List Nat) (i : Nat) : Nat := l.getD i 0
theorem numB_len (keys : List α) : (numB keys).length = keys.length := (noteAll_at keys []).1
theorem numB_at {keys : List α} {i : Nat} (h : i < keys.length) : (noteAll [] keys).1[cOf (numB keys) i]? = keys[i]? := by
  obtain ⟨h1, h2⟩ := noteAll_at keys []
  have e1 : keys[i]? = some keys[i] := List.getElem?_eq_getElem h
  have lt : i < (noteAll [] keys).2.length := by omega
  have e2 : (noteAll [] keys).2[i]? = some ((noteAll [] keys).2[i]) := List.getElem?_eq_getElem lt
  have e3 : cOf (numB keys) i = (noteAll [] keys).2[i] := by
    unfold cOf numB
    rw [List.getD_eq_getElem?_getD, e2]
    rfl
  rw [e3, e1]
  exact h2 i _ _ e1 e2
theorem numB_lt {keys : List α} {i : Nat} (h : i < keys.length) : cOf (numB keys) i < manyOf keys := by
  have e := numB_at h
  rw [List.getElem?_eq_getElem h] at e
  exact (List.getElem?_eq_some_iff.mp e).1
/-- like numbers for like keys alone -/
theorem numB_iff {keys : List α} {i j : Nat} (hi : i < keys.length) (hj : j < keys.length) : cOf (numB keys) i = cOf (numB keys) j ↔ keys[i]? = keys[j]? := by
  rw [← numB_at hi, ← numB_at hj]
  refine ⟨fun e => by rw [e], fun e => ?_⟩
  have l1 := numB_lt hi
  have l2 := numB_lt hj
  unfold manyOf at l1 l2
  rw [List.getElem?_eq_getElem l1, List.getElem?_eq_getElem l2] at e
  exact (List.getElem_inj (noteAll_nd keys List.nodup_nil)).mp (Option.some.inj e)
theorem cnt_succ (c : Nat → Nat) (n : Nat) : cnt c (n + 1) = cnt c n + if Rep c n then 1 else 0 := by
  unfold cnt
  rw [List.range_succ, List.countP_append, List.countP_cons]
  by_cases h : Rep c n <;> simp [h]
theorem cnt_congr {c c' : Nat → Nat} : ∀ (n : Nat), (∀ s, s < n → c s = c' s) → cnt c n = cnt c' n
  | 0, _ => rfl
  | n + 1, h => by
    rw [cnt_succ, cnt_succ, cnt_congr n fun s hs => h s (by omega)]
    have : Rep c n ↔ Rep c' n := ⟨fun r t lt => by rw [← h t (by omega), ← h n (by omega)]; exact r t lt, fun r t lt => by rw [h t (by omega), h n (by omega)]; exact r t lt⟩
    by_cases z : Rep c n
    · rw [if_pos z, if_pos (this.mp z)]
    · rw [if_neg z, if_neg fun q => z (this.mpr q)]
/-- as many numbers as classes -/
theorem manyOf_cnt : ∀ (n : Nat) (keys : List α), keys.length = n → manyOf keys = cnt (cOf (numB keys)) n
  | 0, keys, h => by
    cases keys with
    | nil => rfl
    | cons x l => cases h
  | n + 1, keys, h => by
    have ne : keys ≠ [] := fun e => by rw [e] at h; cases h
    obtain ⟨as, a, rfl⟩ : ∃ as a, keys = as ++ [a] := ⟨keys.dropLast, keys.getLast ne, (List.dropLast_concat_getLast ne).symm⟩
    have la : as.length = n := by
      rw [List.length_append] at h
      have h : as.length + 1 = n + 1 := h
      omega
    have ih := manyOf_cnt n as la
    have low : ∀ s, s < n → cOf (numB (as ++ [a])) s = cOf (numB as) s := fun s hs => by
      unfold cOf numB
      rw [noteAll_snoc]
      show ((noteAll [] as).2 ++ _).getD s 0 = _
      rw [List.getD_eq_getElem?_getD, List.getD_eq_getElem?_getD, List.getElem?_append_left]
      have := numB_len as
      unfold numB at this
      omega
    rw [cnt_succ, cnt_congr n low, ← ih]
    have rep : Rep (cOf (numB (as ++ [a]))) n ↔ a ∉ as := by
      refine ⟨fun r hm => ?_, fun hm t lt e => ?_⟩
      · obtain ⟨t, ht⟩ := List.getElem?_of_mem hm
        have lt := (List.getElem?_eq_some_iff.mp ht).1
        refine r t (by omega) ((numB_iff (by rw [List.length_append]; omega) (by rw [List.length_append]; show n < as.length + 1; omega)).mpr ?_)
        rw [List.getElem?_append_left lt, ht, ← la, List.getElem?_append_right (Nat.le_refl _), Nat.sub_self]
        rfl
      · have := (numB_iff (keys := as ++ [a]) (by rw [List.length_append]; omega) (by rw [List.length_append]; show n < as.length + 1; omega)).mp e
        rw [List.getElem?_append_left (by omega), ← la, List.getElem?_append_right (Nat.le_refl _), Nat.sub_self] at this
        exact hm (List.mem_of_getElem? this)
    have inn : ∀ x, x ∈ (noteAll [] as).1 ↔ x ∈ as := fun x => by
      refine ⟨fun hx => (noteAll_mem as [] x hx).resolve_left (fun z => nomatch z), fun hx => ?_⟩
      obtain ⟨t, ht⟩ := List.getElem?_of_mem hx
      have := numB_at (keys := as) (List.getElem?_eq_some_iff.mp ht).1
      rw [ht] at this
      exact List.mem_of_getElem? this
    unfold manyOf
    rw [noteAll_snoc]
    show (note (noteAll [] as).1 a).1.length = _
    unfold note
    cases q : ixOf (noteAll [] as).1 a with
    | some i =>
      have : a ∈ as := (inn a).mp (List.mem_of_getElem? (ixOf_some q))
      rw [if_neg fun r => (rep.mp r) this]
      rfl
    | none =>
      have : a ∉ as := fun z => ixOf_none q ((inn a).mpr z)
      rw [if_pos (rep.mpr this)]
      show ((noteAll [] as).1 ++ [a]).length = _
      rw [List.length_append]
      rfl
end B5

/-! Parts: the law's laps and the program's columns, each ends at the partition of the words. -/
namespace B5
section
variable {n p : Nat} {step : Nat → Nat → Nat} {val : Nat → Int}
/-! ### laps -/
def keysL (n p : Nat) (step : Nat → Nat → Nat) (c : Nat → Nat) : List (List Nat) := (List.range n).map fun s => c s :: (leadS p step s).map c
theorem keysL_at {c : Nat → Nat} {s : Nat} (h : s < n) : (keysL n p step c)[s]? = some (c s :: (leadS p step s).map c) := by
  unfold keysL
  rw [List.getElem?_map, List.getElem?_range h]
  rfl
theorem keysL_len {c : Nat → Nat} : (keysL n p step c).length = n := by
  unfold keysL
  rw [List.length_map, List.length_range]
theorem lead_eq {c : Nat → Nat} {s t : Nat} : (leadS p step s).map c = (leadS p step t).map c ↔ ∀ d, d < p → c (step s d) = c (step t d) := by
  refine ⟨fun e d hd => ?_, fun h => ?_⟩
  · have := congrArg (fun l => l[d]?) e
    simp only [List.getElem?_map, leadS_at hd, Option.map_some, Option.some.injEq] at this
    exact this
  · unfold leadS
    rw [List.map_map, List.map_map]
    exact List.map_congr_left fun d hd => h d (List.mem_range.mp hd)
theorem lap_nums (c : Nat → Nat) : Lap n p step c (cOf (numB (keysL n p step c))) := fun s t hs ht => by
  rw [numB_iff (by rw [keysL_len]; exact hs) (by rw [keysL_len]; exact ht), keysL_at hs, keysL_at ht, Option.some.injEq, List.cons.injEq, lead_eq]
def lapsL (n p : Nat) (step : Nat → Nat → Nat) (l0 : List Nat) : Nat → List Nat
  | 0 => l0
  | k + 1 => numB (keysL n p step (cOf (lapsL n p step l0 k)))
theorem start_nums {worths : List Int} (hw : worths.length = n) (hv : ∀ s, s < n → worths[s]? = some (val s)) {s t : Nat} (hs : s < n) (ht : t < n) : cOf (numB worths) s = cOf (numB worths) t ↔ val s = val t := by
  rw [numB_iff (by omega) (by omega), hv s hs, hv t ht, Option.some.injEq]
theorem start_coarse {worths : List Int} (hw : worths.length = n) (hv : ∀ s, s < n → worths[s]? = some (val s)) : Coarse n p step val (cOf (numB worths)) := fun s t hs ht a => (start_nums hw hv hs ht).mpr a.now
/-- the law's classes -/
theorem laps_end (cl : ∀ s d, s < n → d < p → step s d < n) (n0 : 0 < n) {worths : List Int} (hw : worths.length = n) (hv : ∀ s, s < n → worths[s]? = some (val s)) {m : Nat} (hm : n ≤ m) :
    Stab n p step val (cOf (lapsL n p step (numB worths) m)) ∧ Coarse n p step val (cOf (lapsL n p step (numB worths) m)) := by
  refine ⟨laps_stab cl n0 (fun k => cOf (lapsL n p step (numB worths) k)) (fun s t hs ht e => (start_nums hw hv hs ht).mp e) hm fun k hk => lap_nums _, ?_⟩
  have all : ∀ k, Coarse n p step val (cOf (lapsL n p step (numB worths) k)) := by
    intro k
    induction k with
    | zero => exact start_coarse hw hv
    | succ k ih => exact (lap_nums _).coarse cl ih
  exact all m
/-! ### columns -/
def keysC (n many : Nat) (c f : Nat → Nat) : List Nat := (List.range n).map fun s => c s * many + c (f s)
theorem keysC_at {many : Nat} {c f : Nat → Nat} {s : Nat} (h : s < n) : (keysC n many c f)[s]? = some (c s * many + c (f s)) := by
  unfold keysC
  rw [List.getElem?_map, List.getElem?_range h]
  rfl
theorem keysC_len {many : Nat} {c f : Nat → Nat} : (keysC n many c f).length = n := by
  unfold keysC
  rw [List.length_map, List.length_range]
theorem pair_eq {m a b a' b' : Nat} (h : b < m) (h' : b' < m) : a * m + b = a' * m + b' ↔ a = a' ∧ b = b' := by
  refine ⟨fun e => ?_, fun ⟨e1, e2⟩ => by rw [e1, e2]⟩
  have q1 : (a * m + b) / m = a := by
    rw [Nat.mul_comm, Nat.mul_add_div (by omega), Nat.div_eq_of_lt h, Nat.add_zero]
  have q2 : (a' * m + b') / m = a' := by
    rw [Nat.mul_comm, Nat.mul_add_div (by omega), Nat.div_eq_of_lt h', Nat.add_zero]
  have ea : a = a' := by rw [← q1, e, q2]
  subst ea
  exact ⟨rfl, by omega⟩
theorem col_nums {many : Nat} {c f : Nat → Nat} (lt : ∀ s, s < n → c s < many) (hf : ∀ s, s < n → f s < n) : Col n f c (cOf (numB (keysC n many c f))) := fun s t hs ht => by
  rw [numB_iff (by rw [keysC_len]; exact hs) (by rw [keysC_len]; exact ht), keysC_at hs, keysC_at ht, Option.some.injEq, pair_eq (lt _ (hf s hs)) (lt _ (hf t ht))]
theorem Fin1.trans {a b c : Nat → Nat} (x : Fin1 a b n) (y : Fin1 b c n) : Fin1 a c n := fun s t hs ht e => y s t hs ht (x s t hs ht e)
theorem Col.coarse {f c c' : Nat → Nat} (l : Col n f c c') {d : Nat} (hd : d < p) (cl : ∀ s d, s < n → d < p → step s d < n) (hf : ∀ s, s < n → f s = step s d) (k : Coarse n p step val c) : Coarse n p step val c' := fun s t hs ht a =>
  (l s t hs ht).mpr ⟨k s t hs ht a, by rw [hf s hs, hf t ht]; exact k _ _ (cl s d hs hd) (cl t d ht hd) (a.next hd)⟩
/-- a pass over the columns: each is a list of states -/
def colF (l : List Nat) (s : Nat) : Nat := l.getD s 0
def passC (n : Nat) : List (List Nat) → List Nat → List Nat
  | [], l => l
  | f :: fs, l => passC n fs (numB (keysC n (cnt (cOf l) n) (cOf l) (colF f)))
/-- numbers as numB gives them -/
def Numbs (n : Nat) (l : List Nat) : Prop := l.length = n ∧ ∀ s, s < n → cOf l s < cnt (cOf l) n
theorem numbs_of {α : Type} [DecidableEq α] {keys : List α} (h : keys.length = n) : Numbs n (numB keys) := ⟨by rw [numB_len]; exact h, fun s hs => by rw [← manyOf_cnt n keys h]; exact numB_lt (by omega)⟩
theorem pass_all (cl : ∀ s d, s < n → d < p → step s d < n) : ∀ (fs : List (List Nat)) (l : List Nat), Numbs n l → (∀ f ∈ fs, ∃ d, d < p ∧ ∀ s, s < n → colF f s = step s d) →
    Numbs n (passC n fs l) ∧ Fin1 (cOf (passC n fs l)) (cOf l) n ∧ (Coarse n p step val (cOf l) → Coarse n p step val (cOf (passC n fs l))) ∧
    (cnt (cOf (passC n fs l)) n ≤ cnt (cOf l) n → Same1 (cOf (passC n fs l)) (cOf l) n ∧ ∀ f ∈ fs, ∀ s t, s < n → t < n → cOf l s = cOf l t → cOf l (colF f s) = cOf l (colF f t))
  | [], l, h, _ => ⟨h, fun _ _ _ _ e => e, id, fun _ => ⟨fun _ _ _ _ => Iff.rfl, fun _ z => nomatch z⟩⟩
  | f :: fs, l, h, hf => by
    obtain ⟨d, hd, ef⟩ := hf f (.head _)
    have bf : ∀ s, s < n → colF f s < n := fun s hs => by rw [ef s hs]; exact cl s d hs hd
    have col := col_nums (f := colF f) h.2 bf
    have h' : Numbs n (numB (keysC n (cnt (cOf l) n) (cOf l) (colF f))) := numbs_of keysC_len
    obtain ⟨i1, i2, i3, i4⟩ := pass_all cl fs _ h' fun g hg => hf g (.tail _ hg)
    refine ⟨i1, Fin1.trans i2 col.fin, fun k => i3 (col.coarse hd cl ef k), fun le => ?_⟩
    have le : cnt (cOf (passC n fs (numB (keysC n (cnt (cOf l) n) (cOf l) (colF f))))) n ≤ cnt (cOf l) n := le
    have le1 := cnt_le i2
    have le2 := cnt_le col.fin
    obtain ⟨s1, k1⟩ := col.still (by omega)
    obtain ⟨s2, k2⟩ := i4 (by omega)
    refine ⟨Same1.trans s2 s1, fun g hg s t hs ht e => ?_⟩
    rcases List.mem_cons.mp hg with rfl | hg
    · exact k1 s t hs ht e
    · obtain ⟨dg, hdg, eg⟩ := hf g (.tail _ hg)
      have := k2 g hg s t hs ht ((s1 s t hs ht).mpr e)
      rw [eg s hs, eg t ht] at this ⊢
      exact (s1 _ _ (cl s dg hs hdg) (cl t dg ht hdg)).mp this
/-- a pass that adds no class: the partition of the words -/
theorem pass_end (cl : ∀ s d, s < n → d < p → step s d < n) {fs : List (List Nat)} {l : List Nat} (h : Numbs n l) (hf : ∀ f ∈ fs, ∃ d, d < p ∧ ∀ s, s < n → colF f s = step s d) (all : ∀ d, d < p → ∃ f ∈ fs, ∀ s, s < n → colF f s = step s d)
    (k : Coarse n p step val (cOf l)) (tell : ∀ s t, s < n → t < n → cOf l s = cOf l t → val s = val t) (e : cnt (cOf (passC n fs l)) n = cnt (cOf l) n) :
    Stab n p step val (cOf (passC n fs l)) ∧ Coarse n p step val (cOf (passC n fs l)) := by
  obtain ⟨_, i2, i3, i4⟩ := pass_all (val := val) cl fs l h hf
  obtain ⟨s1, k1⟩ := i4 (by omega)
  refine ⟨⟨fun s t hs ht q d hd => ?_, fun s t hs ht q => tell s t hs ht (i2 s t hs ht q)⟩, i3 k⟩
  obtain ⟨f, hm, ef⟩ := all d hd
  have := k1 f hm s t hs ht (i2 s t hs ht q)
  rw [ef s hs, ef t ht] at this
  exact (s1 _ _ (cl s d hs hd) (cl t d ht hd)).mpr this
end
end B5

/-! Xf: what is asked of walks over names that are met. -/
namespace B5
open PySem PySem.Spec PyProof.Rows L2 Gd NdefX
abbrev nV : Nat → V := fun x => V.int (x : Nat)
theorem Lead.imp {P : Program} {w : World} {K : PySem.W.Frag} {mg : Str → Option Value} {base : Heap} {k : Nat} {f : Addr} {pre pre' : Hp → Prop} {sp sp' : Sp} (L : Lead P w K mg base k f pre sp) (hp : ∀ H, pre' H → pre H) (h : ∀ vs H Q, pre' H → sp' vs H Q E0 → sp vs H Q E0) : Lead P w K mg base k f pre' sp' :=
  ⟨fun H q => L.at_ H (hp H q), fun A outer s H us vs Q hr e0 q r hs => L.run A outer s H us vs Q hr e0 (hp H q) r (h vs H Q q hs)⟩
theorem Lead.mono {P : Program} {w : World} {K : PySem.W.Frag} {mg : Str → Option Value} {base : Heap} {j k : Nat} {f : Addr} {pre : Hp → Prop} {sp : Sp} (L : Lead P w K mg base j f pre sp) (h : j ≤ k) : Lead P w K mg base k f pre sp :=
  ⟨L.at_, fun A outer s H us vs Q hr => L.run A outer s H us vs Q (hr.mono h)⟩
/-- a step from a state below n by a digit below p -/
def spStep (n p : Nat) (lead : Nat → List Nat) : Sp := fun vs H Q _ => ∃ (s d b : Nat), vs = [.int s, .int d] ∧ s < n ∧ d < p ∧ (lead s)[d]? = some b ∧ ∀ H', More H H' → Q (.int b) H'
def TupN (H : Hp) (b : Addr) (row : List Nat) : Prop := H b = some (.tup (row.map nV))
/-- what a walk tells -/
def Told (H : Hp) (t : Addr) (met : List Nat) (rows : List (List Nat)) : Prop := ∃ (ls lm : Addr) (ts : List Addr), H t = some (.tup [.ref ls, .ref lm]) ∧ H ls = some (.lst (met.map nV)) ∧ H lm = some (.lst (ts.map V.ref)) ∧ Paired (TupN H) ts rows
def spXf (P : Program) (w : World) (K : PySem.W.Frag) (mg : Str → Option Value) (base : Heap) (k : Nat) : Sp := fun vs H Q _ => ∃ (a f : Addr) (p n s0 : Nat) (lead : Nat → List Nat) (pre : Hp → Prop), vs = [.ref a, .ref f, .int p, .non] ∧ H a = some (.lst [.int s0]) ∧ (∀ H', More H H' → pre H') ∧
  Lead P w K mg base k f pre (spStep n p lead) ∧ (∀ s, s < n → (lead s).length = p ∧ ∀ b ∈ lead s, b < n) ∧ s0 < n ∧ n ≤ 1000 ∧ p ≤ 1000 ∧ ∀ (H' : Hp) (t : Addr), More H H' → Told H' t (walkFrom lead n s0).1 (walkFrom lead n s0).2 → Q (.ref t) H'
def spXp (P : Program) (w : World) (K : PySem.W.Frag) (mg : Str → Option Value) (base : Heap) (k : Nat) : Sp := fun vs H Q _ => ∃ (f : Addr) (p n s0 : Nat) (lead : Nat → List Nat) (pre : Hp → Prop), vs = [.int s0, .ref f, .int p, .non] ∧ (∀ H', More H H' → pre H') ∧
  Lead P w K mg base k f pre (spStep n p lead) ∧ (∀ s, s < n → (lead s).length = p ∧ ∀ b ∈ lead s, b < n) ∧ s0 < n ∧ n ≤ 1000 ∧ p ≤ 1000 ∧ ∀ (H' : Hp) (t : Addr), More H H' → Told H' t (walkFrom lead n s0).1 (walkFrom lead n s0).2 → Q (.ref t) H'
/-- the dict tells the places of the names -/
structure DNn (H : Hp) (d : Addr) (st : List Nat) : Prop where
  ex : ∃ kvs, H d = some (.dK kvs) ∧ st.length = kvs.length ∧ ∀ x : Nat, valV kvs (Sum.inl (x : Int)) = (ixOf st x).map fun i => V.int (i : Nat)
theorem putK_new' {kvs : List (Key × V)} {k : Key} {v : V} (h : valV kvs k = none) : (putK kvs k v).length = kvs.length + 1 := by
  have e := valV_any k kvs
  rw [h, Option.isSome_none] at e
  unfold putK
  rw [if_neg (by rw [e]; exact Bool.false_ne_true), List.length_append]
  rfl
/-- a dict comprehension over what is walked -/
theorem dc_it {J : It} {n : Nat} {G : Hp → Prop} {Y : Nat → Hp → V → Hp → Prop} (w : Walk J n G Y) {g : TG} {tt : TT} {tk tv : TE} {vs : List Nat} {σ : L2.St} {H1 : Hp} {D : Addr} {Qd : Hp → Prop} (Pv : Nat → Hp → Prop) (h0 : Pv 0 (upd H1 D (.dK []))) (hG : ∀ i H, i ≤ n → Pv i H → G H)
    (hs : ∀ i x H H', i < n → Pv i H → Y i H x H' → g x (wipe σ vs) H' fun σ2 H2 => wipe σ2 vs = wipe σ vs ∧ tt σ2 H2 fun b H3 =>
      if b = true then tk σ2 H3 fun y H4 => tv σ2 H4 fun z H5 => ∃ kvs k, y = kV k ∧ H5 D = some (.dK kvs) ∧ kvs.length < sizeLine ∧ Pv (i + 1) (upd H5 D (.dK (putK kvs k z))) else Pv (i + 1) H3) (hd : ∀ H, Pv n H → Qd H) :
    ∃ W : Nat → Nat → Hp → Prop, (∃ m, W 0 m (upd H1 D (.dK []))) ∧ ∀ i m H, W i m H →
      (J.stop i H ∧ Qd H) ∨ (J.go i H ∧ ∃ Nx : Hp → Prop, (∀ H', Nx H' → ∃ m', m' < m ∧ W (i + 1) m' H') ∧ ∀ x H', J.yld i H x H' → g x (wipe σ vs) H' fun σ2 H2 => wipe σ2 vs = wipe σ vs ∧ tt σ2 H2 fun b H3 =>
        if b = true then tk σ2 H3 fun y H4 => tv σ2 H4 fun z H5 => ∃ kvs k, y = kV k ∧ H5 D = some (.dK kvs) ∧ kvs.length < sizeLine ∧ Nx (upd H5 D (.dK (putK kvs k z))) else Nx H3) := by
  refine ⟨fun i m H => m = n - i ∧ i ≤ n ∧ Pv i H, ⟨n, by simp, Nat.zero_le _, h0⟩, ?_⟩
  rintro i m H ⟨rfl, hi, p⟩
  have q := hG i H hi p
  by_cases hlt : i < n
  · exact .inr ⟨w.goes i H hlt q, Pv (i + 1), fun H' p' => ⟨n - (i + 1), by omega, rfl, hlt, p'⟩, fun x H' y => hs i x H H' hlt p (w.yields i H x H' hlt q y)⟩
  · have e : i = n := by omega
    subst e
    exact .inl ⟨w.stops H q, hd H p⟩
theorem swD_true {kx vx : Expr} {gs : List Comprehension} {scope : Scope} {pos py : Pos} {y : Str} {l : Nat} {env : Env} (hk : env.scope.kind = .function) (hy : env.scope.names.lookup y = some .local) (hl : (py.line == pos.line) = true)
    (ha : (scope.names.any fun (n, k) => n == y && (k == .local || k == .cell)) = false) : swapsWith (.DictComp kx vx gs scope pos) (some (.Name y py)) l env = pure true := by
  have ky : env.kindOf y = some .local := hy
  have hb : env.blockKind = .function := by unfold Env.blockKind; rw [hk]; rfl
  unfold swapsWith
  simp only [hb, ky, ha, Expr.pos, hl]
  rfl
/-- name = {k: v ..} on one line, the name a local -/
theorem ps_setDc {X : Cx} {i : Nat} {y : Str} {py : Pos} {kx vx tg iter : Expr} {ifs : List Expr} {scope : Scope} {own : List (Str × Nat)} {pos spos : Pos} {wi : TI} {g : TG} {tt : TT} {tk tv : TE} (hc : X.calm = true) (hN : X.N.Nodup) (hy : X.N[i]? = some y) (hyl : X.env.scope.names.lookup y = some .local)
    (hsw : swapsWith (.DictComp kx vx [⟨tg, iter, ifs, 0⟩] scope pos) (some (.Name y py)) spos.line X.env = pure true) (hi : PI X tg iter wi) (ok : BlkOk X.N X.env.scope scope own)
    (hg : ∀ (s : Shared) (H : Hp) (C : Addr) (cl : List (Str × Addr)) (fp : List Addr), PG (X.blk s H scope (compEnvC scope cl C X.env) fp) tg g) (ht : ∀ (s : Shared) (H : Hp) (C : Addr) (cl : List (Str × Addr)) (fp : List Addr), PTs (X.blk s H scope (compEnvC scope cl C X.env) fp) ifs tt)
    (hk : ∀ (s : Shared) (H : Hp) (C : Addr) (cl : List (Str × Addr)) (fp : List Addr), PE (X.blk s H scope (compEnvC scope cl C X.env) fp) kx tk)
    (he : ∀ (s : Shared) (H : Hp) (C : Addr) (cl : List (Str × Addr)) (fp : List Addr), PE (X.blk s H scope (compEnvC scope cl C X.env) fp) vx tv) (hs : ∀ x, foldedSetIterable iter X.env x = pure x := by intro _; rfl) :
    PS X (.Assign [.Name y py] (.DictComp kx vx [⟨tg, iter, ifs, 0⟩] scope pos) spos) (tAsg (tDc wi g tt tk tv (own.map (·.2))) (gName i)) := by
  refine ⟨fun pins s σ H D I h => ?_⟩
  rw [exec_Assign_Name_used _ _ _ _ hsw]
  refine wpAny_bind (wpAny_standAt (wpAny_bind ?_))
  show wpAny _ X.A (do let _ ← comprehension (.DictComp kx vx [⟨tg, iter, ifs, 0⟩] scope pos) scope X.env (firstIterPos [⟨tg, iter, ifs, 0⟩] pos) newDict false (eval iter X.env) (some (assign (.Name y py) X.env))) _ _ s
  have h : tDc wi g tt tk tv (own.map (·.2)) σ H (fun x H1 => gName i x σ H1 D.nx) := h
  refine wpAny_bind (thn (dc_core (Qf := fun _ s' => SP X pins D .next s') hc hN I hi ok hg ht hk he hs h fun L C s' m H' I' q hn f => ?_) fun _ s' hq => wpAny_pure (wpAny_pure hq))
  show wpAny _ _ (assign (.Name y py) X.env (.ref L)) _ _ _
  refine wpAny_assign_Name (store_ok2 (v := V.ref L) I' hN hy (.inl hyl) rfl (fun s2 I2 ⟨a, sb, ha⟩ => ?_) (.inr hyl))
  obtain ⟨f0, f1, f2, f3, f4, f5⟩ := f
  have haC : C ≠ a := by
    rcases ha with z | z
    · rw [z]; exact f1
    · exact fun e => f4 y a z e.symm
  refine ⟨m, hn.sameBut sb haC, fun h3 sb3 => ?_⟩
  exact ⟨_, H', I2.turned (t' := s2.toks) (fun b o hb e => (sb3.2 b hb).trans e) f0 f1 f3 f4 f5, q⟩
/-! ### what stays -/
theorem sqT_by {K : PySem.W.Frag} {H H' : Hp} {t : Addr} {xs : List V} (e : ∀ o, H t = some o → (∀ φ, o ≠ .ext φ) → (∀ ps, o ≠ .tbl ps) → H' t = some o) (h : SqT K H t xs) : SqT K H' t xs := by
  rcases h with (h | ⟨o, h⟩) | h
  · exact .inl (.inl (e _ h (fun φ z => by cases z) (fun ps z => by cases z)))
  · exact .inl (.inr ⟨o, e _ h (fun φ z => by cases z) (fun ps z => by cases z)⟩)
  · exact .inr h
theorem sqT_ext {K : PySem.W.Frag} {H H' : Hp} {t : Addr} {xs : List V} (e : LamX.ExtN H H') (h : SqT K H t xs) : SqT K H' t xs := sqT_by (fun o a _ c => e _ o a c) h
theorem hide_by {cl : List (Str × Addr)} {fr : List Str} {ws : List (Option V)} {H : Hp} (x : Exd cl fr ws H) {t : Addr} {o : HO} (h : H t = some o) (n : ∀ φ, o ≠ .ext φ) : hide cl H t = some o := by
  rw [hide_no fun z => ?_]
  · exact h
  · obtain ⟨ob, r⟩ := x.ex z
    rw [r] at h
    cases h
    exact n _ rfl
theorem sqT_hide {K : PySem.W.Frag} {cl : List (Str × Addr)} {fr : List Str} {ws : List (Option V)} {H : Hp} {t : Addr} {xs : List V} (x : Exd cl fr ws H) (h : SqT K H t xs) : SqT K (hide cl H) t xs := sqT_by (fun o a b _ => hide_by x a b) h
theorem pairT_hide {K : PySem.W.Frag} {cl : List (Str × Addr)} {fr : List Str} {ws : List (Option V)} {H : Hp} {xs : List V} {dss : List (List Int)} (x : Exd cl fr ws H) (h : Paired (TupI K H) xs dss) : Paired (TupI K (hide cl H)) xs dss :=
  paired_imp (fun v k ⟨b, e, s⟩ => ⟨b, e, sqT_hide x s⟩) h
theorem pairT_ext {K : PySem.W.Frag} {H H' : Hp} {xs : List V} {dss : List (List Int)} (e : LamX.ExtN H H') (h : Paired (TupI K H) xs dss) : Paired (TupI K H') xs dss := paired_imp (fun v k ⟨b, e1, s⟩ => ⟨b, e1, sqT_ext e s⟩) h
theorem more_lay {cl : List (Str × Addr)} {H H' : Hp} (m : More (hide cl H) H') : More H (lay cl H H') := fun b o e => by
  by_cases z : isC cl b
  · rw [lay_at z]; exact e
  · rw [lay_no z]; exact m b o (by rw [hide_no z]; exact e)
theorem Exd.more {cl : List (Str × Addr)} {fr : List Str} {ws : List (Option V)} {H H' : Hp} (x : Exd cl fr ws H) (m : More H H') : Exd cl fr ws H' := x.same fun b z => by
  obtain ⟨ob, e⟩ := x.ex z
  rw [e]
  exact m _ _ e
theorem Shown.nc {cl : List (Str × Addr)} {fr : List Str} {ws : List (Option V)} {H HE : Hp} (sh : Shown cl fr ws H HE) {b : Addr} {o : HO} (h : H b = some o) : ¬ isC cl b := fun z => by rw [sh.on b z] at h; cases h
end B5

namespace K72
open PySem L2 Gd B5 NdefX
section
variable {P : Program} {w : World} {K : PySem.W.Frag} {mg : Str → Option Value} {base : Heap} {g1 f : Addr} {d1 fd : FuncData}
abbrev sXf : Stmt := top 15
abbrev NXf : List Str := ["starts", "lead", "many", "most", "places", "states", "moves", "state", "row", "step", "further", "at", "start"]
theorem scXf : FnScope NXf ["starts", "lead", "many", "most"] (defScope sXf) := ⟨rfl, rfl, rfl, by decide +kernel, rfl, by decide +kernel, by decide +kernel⟩
theorem ok_xf (F : Fun K "explored_from" "explored_from" sXf f fd) (B : Blt mg) (zEnum : mg "enumerate" = none) : FnOk P w K mg base CX0 2 f fd ["starts", "lead", "many", "most"] (spXf P w K mg base 1) := by
  refine F.ok scXf (fun vs H Q E h => ?_) (fun cdv A outer s H vs Q E hr h => ?_)
  · obtain ⟨a, f0, p, n, s0, lead, pre, rfl, _⟩ := h
    rfl
  · obtain ⟨a, f0, p, n, s0, lead, pre, rfl, ha, hpre, L, leads, s0n, fewn, fewp, q⟩ := h
    have hu := hu_of hr
    refine ⟨_, pss_cons (ps_setDc (i := 4) (own := [("at", 11), ("start", 12)]) (g := gTup K 2 (gCons (gName 11) (gCons (gName 12) gNil))) (tt := tYes) rfl scXf.nd rfl rfl (swD_true rfl rfl rfl (by decide +kernel)) (pi_enum (by rfl) zEnum (pa_cons (pv 0) pa_nil))
          (blkOk_by (N := NXf) (sc := defScope sXf) (by decide +kernel)) (fun _ _ _ _ _ => pg_tup rfl (pgs_cons (pg_name (i := 11) scXf.nd rfl (Or.inl rfl)) (pgs_cons (pg_name (i := 12) scXf.nd rfl (Or.inl rfl)) pgs_nil))) (fun _ _ _ _ _ => pts_nil)
          (fun _ _ _ _ _ => pv 12) (fun _ _ _ _ _ => pv 11))
      (pss_cons (ps_set (i := 5) scXf.nd rfl (Or.inl rfl) (pe_callTy call_list_of (by rfl) B.list_ (by decide +kernel) (pa_cons (pv 0) pa_nil)))
      (pss_cons (ps_set (i := 6) scXf.nd rfl (Or.inl rfl) (pe_lst pa_nil))
      (pss_cons (ps_while PassesOwn.never (pt_cmpR op_lt (pe_callB call_len_seq (by rfl) B.len_ PySem.boot_len (pa_cons (pv 6) pa_nil)) (pe_callB call_len_seq (by rfl) B.len_ PySem.boot_len (pa_cons (pv 5) pa_nil)) (nomark _))
        (pss_cons (ps_set (i := 7) scXf.nd rfl (Or.inl rfl) (pe_ix ix_list (pv 5) (pe_callB call_len_seq (by rfl) B.len_ PySem.boot_len (pa_cons (pv 6) pa_nil)) (fun _ _ => rfl)))
        (pss_cons (ps_set (i := 8) scXf.nd rfl (Or.inl rfl) (pe_lst pa_nil))
        (pss_cons (ps_for PassesOwn.never rfl (pi_range1 (by rfl) B.range_ (pa_cons (pv 2) pa_nil)) (pg_name (i := 9) scXf.nd rfl (Or.inl rfl))
          (pss_cons (ps_set (i := 10) scXf.nd rfl (Or.inl rfl) (pe_lead (k := 1) (i := 1) hr rfl (Or.inl rfl) (pa_cons (pv 7) (pa_cons (pv 9) pa_nil))))
          (Evl.pss_cut (ps_if (pt_cmp (pc_dnotin hu (pv 10) (pv 4)))
            (pss_cons (ps_dput hu (pv 4) (pv 10) (pe_callB call_len_seq (by rfl) B.len_ PySem.boot_len (pa_cons (pv 5) pa_nil)) rfl)
              (pss_one (ps_expr (pe_bm PySem.F.plainAttrs_list PySem.F.slot_list_append PySem.F.type_list_append mt_append (pv 5) (pa_cons (pv 10) pa_nil))))) pss_nil)
          (pss_one (ps_expr (pe_bm PySem.F.plainAttrs_list PySem.F.slot_list_append PySem.F.type_list_append mt_append (pv 8) (pa_cons (pe_dget hu (pv 4) (pv 10) (fun _ _ => rfl)) pa_nil)))))))
        (pss_cons (ps_if (PW.pt (pw_and (pt_cmpR op_notN (pv 3) pe_non (nomark _)) (pw_and1 (pt_cmpR op_gt (pe_callB call_len_seq (by rfl) B.len_ PySem.boot_len (pa_cons (pv 5) pa_nil)) (pv 3) (nomark _))))) (pss_one (ps_ret pe_non)) pss_nil)
        (pss_one (ps_expr (pe_bm PySem.F.plainAttrs_list PySem.F.slot_list_append PySem.F.type_list_append mt_append (pv 6) (pa_cons (pe_callTy call_tuple_of (by rfl) B.tup_ (by decide +kernel) (pa_cons (pv 8) pa_nil)) pa_nil)))))))))
      (pss_one (ps_ret (pe_tup (pa_cons (pv 5) (pa_cons (pv 6) pa_nil)))))))), ?_⟩
    -- the places
    refine ⟨_, rfl, a, _, rfl, SqL.of ha, fun d hd => ?_⟩
    have m1 := new_more (o := .dK []) hd
    refine dc_it (H1 := H) (D := d) (walk_enum (xs := [V.int s0])) (fun i H' => More H H' ∧ ((i = 0 ∧ H' d = some (.dK [])) ∨ (i = 1 ∧ DNn H' d [s0]))) ⟨m1, .inl ⟨rfl, upd_same⟩⟩ (fun i H' _ h => SqL.of (h.1 _ _ ha)) ?_ ?_
    · rintro i x H1 H2 hi ⟨m, h⟩ ⟨T, u, y, rfl, nT, rfl, hu', hy⟩
      have i0 : i = 0 := by have : i < 1 := hi; omega
      subst i0
      cases hu'
      cases hy
      obtain ⟨_, hk⟩ | ⟨z, _⟩ := h
      · have m7 := m.new (o := .tup [.int (0 : Nat), .int s0]) nT
        refine ⟨T, _, rfl, SqT.of upd_same, rfl, _, _, rfl, _, _, rfl, rfl, rfl, ?_⟩
        refine ⟨_, rfl, _, rfl, [], Sum.inl (s0 : Int), rfl, (upd_ne (ne_of_none hk nT)).trans hk, by decide, More.at m7 hd, .inr ⟨rfl, _, upd_same, rfl, fun x => ?_⟩⟩
        rw [valV_put]
        by_cases z : x = s0
        · subst z
          rw [if_pos rfl]
          show _ = Option.map _ (if x = x then _ else _)
          rw [if_pos rfl]
          rfl
        · rw [if_neg fun q => z (by have := Sum.inl.inj q; omega)]
          show none = Option.map _ (if s0 = x then _ else _)
          rw [if_neg fun q => z q.symm]
          rfl
      · omega
    rintro H1 ⟨mo1, h⟩
    have dn : DNn H1 d [s0] := by
      obtain ⟨z, _⟩ | ⟨_, h⟩ := h
      · cases z
      · exact h
    clear m1 h
    -- the states, the rows
    refine ⟨_, rfl, a, _, rfl, .inl (SqL.of (mo1 _ _ ha)), fun ls nls => ?_⟩
    have m2 := new_more (o := .lst [V.int s0]) nls
    have ks : (upd H1 ls (.lst [V.int s0])) ls = some (.lst ([s0].map nV)) := upd_same
    refine ⟨by show 0 ≤ sizeLine; exact Nat.zero_le _, fun lm nlm => ?_⟩
    have m3 := new_more (o := .lst []) nlm
    have km : (upd (upd H1 ls (.lst [V.int s0])) lm (.lst [])) lm = some (.lst (([] : List Addr).map V.ref)) := upd_same
    have ls0 : H ls = none := mo1.off nls
    have lm0 : H lm = none := mo1.off (m2.off nlm)
    have lsm : ls ≠ lm := ne_of_none ks nlm
    have ks := m3 _ _ ks
    have dn2 : DNn (upd (upd H1 ls (.lst [V.int s0])) lm (.lst [])) d [s0] := by
      obtain ⟨kvs, e1, e2, e3⟩ := dn.ex
      exact ⟨kvs, m3 _ _ (m2 _ _ e1), e2, e3⟩
    have mo3 : More H (upd (upd H1 ls (.lst [V.int s0])) lm (.lst [])) := fun b o e => m3 _ _ (m2 _ _ (mo1 _ _ e))
    generalize upd (upd H1 ls (.lst [V.int s0])) lm (.lst []) = H3 at ks km dn2 mo3 ⊢
    clear dn m2 m3 nls nlm mo1
    have bnd : ∀ l : List Nat, l.Nodup → (∀ x ∈ l, x < n) → l.length ≤ n := fun l nd al => nodup_below n l nd al
    have cl : ∀ s, s < n → ∀ b ∈ lead s, b < n := fun s hs => (leads s hs).2
    refine while_by (fun σ H' => ∃ (z7 z8 z9 z10 : Option V) (i : Nat) (st : List Nat) (rows : List (List Nat)) (ts : List Addr), σ = [some (.ref a), some (.ref f0), some (.int p), some .non, some (.ref d), some (.ref ls), some (.ref lm), z7, z8, z9, z10, none, none] ∧ DNn H' d st ∧ H' ls = some (.lst (st.map nV)) ∧ H' lm = some (.lst (ts.map V.ref)) ∧ Paired (TupN H') ts rows ∧ More H H' ∧
        WalkI lead (fun x => x < n) [s0] i st rows ∧ walkB lead (n + 1 - i) i st rows = walkFrom lead n s0 ∧ i ≤ n)
      (fun σ H' => match H' lm with | some (.lst xs) => n + 1 - xs.length | _ => 0)
      ⟨none, none, none, none, 0, [s0], [], [], rfl, dn2, ks, km, .nil, mo3, ⟨rfl, Nat.zero_le _, by simp, fun x hx => by
        have : x = s0 := by simpa using hx
        rw [this]; exact s0n, List.prefix_refl _, fun j _ _ hj => by omega⟩, rfl, Nat.zero_le _⟩ ?_ ?_
    · rintro σ H4 ⟨z7, z8, z9, z10, i, st, rows, ts, rfl, dn4, ks4, km4, pr4, mo4, wi, wk, hi⟩
      have lts : ts.length = i := by rw [Paired.length pr4, wi.len]
      have lt1 : (ts.map V.ref).length = i := by rw [List.length_map, lts]
      have lt2 : (st.map nV).length = st.length := List.length_map _
      have lst := bnd st wi.nd wi.all
      refine ⟨_, rfl, lm, _, rfl, .inl (SqL.of km4), _, rfl, ls, _, rfl, .inl (SqL.of ks4), _, _, rfl, rfl, _, rfl, ite2 (fun hm => ?_) (fun hm => ?_)⟩
      · have hm := of_decide_eq_true hm
        have ii : i < st.length := by omega
        obtain ⟨s, hs⟩ : ∃ s, st[i]? = some s := ⟨st[i], List.getElem?_eq_getElem ii⟩
        have sn := wi.all s (List.mem_of_getElem? hs)
        obtain ⟨ll, al⟩ := leads s sn
        refine ⟨_, rfl, _, rfl, lm, _, rfl, .inl (SqL.of km4), ls, _, _, _, rfl, rfl, SqL.of ks4, atI_nat (by rw [lt1]; exact at_map hs), ?_⟩
        refine ⟨by show 0 ≤ sizeLine; exact Nat.zero_le _, fun lr nlr => ?_⟩
        have m5 := new_more (o := .lst []) nlr
        have lr0 : H lr = none := mo4.off nlr
        have lrs : ls ≠ lr := ne_of_none ks4 nlr
        have lrm : lm ≠ lr := ne_of_none km4 nlr
        have kr5 : (upd H4 lr (.lst [])) lr = some (.lst (([] : List Nat).map nV)) := upd_same
        have ks5 := m5 _ _ ks4
        have km5 := m5 _ _ km4
        have pr5 := paired_imp (S := TupN (upd H4 lr (.lst []))) (fun b row e => m5 _ _ e) pr4
        have dn5 : DNn (upd H4 lr (.lst [])) d st := by
          obtain ⟨kvs, e1, e2, e3⟩ := dn4.ex
          exact ⟨kvs, m5 _ _ e1, e2, e3⟩
        have mo5 : More H (upd H4 lr (.lst [])) := fun b o e => m5 _ _ (mo4 _ _ e)
        generalize upd H4 lr (.lst []) = H5 at kr5 ks5 km5 pr5 dn5 mo5 ⊢
        have nds : ∀ j, ((noteAll st ((lead s).take j)).1).Nodup := fun j => noteAll_nd _ wi.nd
        have alls : ∀ j, ∀ x ∈ (noteAll st ((lead s).take j)).1, x < n := fun j x hx => by
          rcases noteAll_mem _ _ x hx with hx | hx
          · exact wi.all x hx
          · exact al x (List.mem_of_mem_take hx)
        have lens : ∀ j, ((noteAll st ((lead s).take j)).1).length ≤ n := fun j => bnd _ (nds j) (alls j)
        refine ⟨_, rfl, _, rfl, by omega, by omega, for_range (lo := 0) (n := p) (fun j σ' H' => ∃ (z9 z10 : Option V), σ' = [some (.ref a), some (.ref f0), some (.int p), some .non, some (.ref d), some (.ref ls), some (.ref lm), some (.int s), some (.ref lr), z9, z10, none, none] ∧ DNn H' d (noteAll st ((lead s).take j)).1 ∧ H' ls = some (.lst ((noteAll st ((lead s).take j)).1.map nV)) ∧
            H' lm = some (.lst (ts.map V.ref)) ∧ Paired (TupN H') ts rows ∧ More H H' ∧ H' lr = some (.lst ((noteAll st ((lead s).take j)).2.map nV)))
          ⟨z9, z10, rfl, dn5, ks5, km5, pr5, mo5, kr5⟩ ?_ ?_⟩
        · rintro j σ' H6 hj ⟨z9, z10, rfl, dn6, ks6, km6, pr6, mo6, kr6⟩
          rw [Int.zero_add]
          obtain ⟨b, eb⟩ : ∃ b, (lead s)[j]? = some b := ⟨(lead s)[j]'(by omega), List.getElem?_eq_getElem (by omega)⟩
          have tk : (lead s).take (j + 1) = (lead s).take j ++ [b] := by rw [List.take_add_one, eb]; rfl
          refine ⟨f0, pre, _, rfl, L, L.at_ _ (hpre _ mo6), _, rfl, _, rfl, hpre _ mo6, s, j, b, rfl, sn, hj, eb, fun H7 m67 => ?_⟩
          have ks7 := m67 _ _ ks6
          have km7 := m67 _ _ km6
          have kr7 := m67 _ _ kr6
          have pr7 := paired_imp (S := TupN H7) (fun b row e => m67 _ _ e) pr6
          have mo7 : More H H7 := fun b o e => m67 _ _ (mo6 _ _ e)
          obtain ⟨kvs, hk, lk, vals⟩ : DNn H7 d (noteAll st ((lead s).take j)).1 := by
            obtain ⟨kvs, e1, e2, e3⟩ := dn6.ex
            exact ⟨kvs, m67 _ _ e1, e2, e3⟩
          have sn1 := noteAll_snoc b ((lead s).take j) st
          rw [← tk] at sn1
          have nj := nds j
          have lj := lens j
          have l2 := (noteAll_at ((lead s).take j) st).1
          have l3 : ((lead s).take j).length ≤ p := by rw [List.length_take]; omega
          generalize noteAll st ((lead s).take j) = q0 at ks7 kr7 hk lk vals sn1 nj lj l2 ⊢
          obtain ⟨st0, row0⟩ := q0
          have lj : st0.length ≤ n := lj
          have l2 : row0.length = ((lead s).take j).length := l2
          have lk : st0.length = kvs.length := lk
          have nj : st0.Nodup := nj
          have vals : ∀ x : Nat, valV kvs (Sum.inl (x : Int)) = (ixOf st0 x).map fun i => V.int (i : Nat) := vals
          clear ks6 km6 kr6 pr6 dn6 m67
          rw [sn1]
          have dls : d ≠ ls := ne_of hk ks7 (fun z => by cases z)
          have dlm : d ≠ lm := ne_of hk km7 (fun z => by cases z)
          have dlr : d ≠ lr := ne_of hk kr7 (fun z => by cases z)
          have tne : ∀ {c : Addr} {row : List Nat} {xs : List V} {e : Addr}, TupN H7 c row → H7 e = some (.lst xs) → c ≠ e := fun {c row xs e} h1 h2 => ne_of h1 h2 (fun z => by cases z)
          have tnd : ∀ {c : Addr} {row : List Nat}, TupN H7 c row → c ≠ d := fun {c row} h1 => ne_of h1 hk (fun z => by cases z)
          refine ⟨fun σ' H' => σ' = [some (.ref a), some (.ref f0), some (.int p), some .non, some (.ref d), some (.ref ls), some (.ref lm), some (.int s), some (.ref lr), some (.int j), some (.int b), none, none] ∧ DNn H' d (note st0 b).1 ∧ H' ls = some (.lst ((note st0 b).1.map nV)) ∧
            H' lm = some (.lst (ts.map V.ref)) ∧ Paired (TupN H') ts rows ∧ More H H' ∧ H' lr = some (.lst (row0.map nV)), ?_, ?_⟩
          · refine ⟨_, rfl, _, rfl, d, _, rfl, DGet.k (k := Sum.inl (b : Int)) hk, _, rfl, ?_⟩
            rw [vals b]
            cases e : ixOf st0 b with
            | some i0 =>
              refine iteF ⟨rfl, ?_, ?_, km7, pr7, mo7, kr7⟩
              · unfold note
                rw [e]
                exact ⟨kvs, hk, lk, vals⟩
              · unfold note
                rw [e]
                exact ks7
            | none =>
              have nv : valV kvs (Sum.inl (b : Int)) = none := by rw [vals b, e]; rfl
              refine iteT ⟨_, rfl, ls, _, rfl, .inl (SqL.of ks7), _, rfl, _, rfl, d, _, rfl, DPut.k (k := Sum.inl (b : Int)) hk (small1000 (by rw [← lk]; omega)), ?_⟩
              have ks8 : (upd H7 d (.dK (putK kvs (Sum.inl (b : Int)) (.int ((st0.map nV).length : Nat))))) ls = some (.lst (st0.map nV)) := (upd_ne dls.symm).trans ks7
              refine ⟨_, rfl, .inl ⟨rfl, _, SqL.of ks8⟩, _, rfl, ls, _, _, rfl, rfl, ks8, by rw [List.length_map]; exact small1000 (by omega), ?_⟩
              have en : note st0 b = (st0 ++ [b], st0.length) := by unfold note; rw [e]
              rw [en]
              refine ⟨rfl, ⟨_, (upd_ne dls).trans upd_same, ?_, fun x => ?_⟩, ?_, ?_, ?_, More.at (More.at mo7 hd) ls0, ?_⟩
              · rw [putK_new' nv, ← lk, List.length_append]
                rfl
              · rw [valV_put, ixOf_app]
                by_cases z : x = b
                · subst z
                  rw [if_pos rfl, e, if_pos rfl, List.length_map]
                  rfl
                · rw [if_neg fun q => z (by have := Sum.inl.inj q; omega), vals x]
                  cases ixOf st0 x with
                  | some t => rfl
                  | none =>
                    show none = Option.map _ (if b = x then _ else none)
                    rw [if_neg fun q => z q.symm]
                    rfl
              · rw [upd_same, List.map_append]
                rfl
              · rw [upd_ne lsm.symm, upd_ne dlm.symm]
                exact km7
              · exact paired_imp (S := TupN _) (fun c row (e : TupN H7 c row) => (upd_ne (tne e ks7)).trans ((upd_ne (tnd e)).trans e)) pr7
              · rw [upd_ne lrs.symm, upd_ne dlr.symm]
                exact kr7
          · rintro σ2 H8 ⟨rfl, ⟨kv8, hk8, lk8, vals8⟩, ks8, km8, pr8, mo8, kr8⟩
            have es := ixOf_self (note_nd nj b) (note_at st0 b)
            have l2' : row0.length ≤ p := by omega
            refine ⟨_, rfl, .inl ⟨rfl, _, SqL.of kr8⟩, _, rfl, _, rfl, d, V.int ((note st0 b).2 : Nat), rfl, dg (Sum.inl (b : Int)) hk8 (by rw [vals8 b, es]; rfl), lr, _, _, rfl, rfl, kr8, by rw [List.length_map]; exact small1000 (by omega), ?_⟩
            have dlr8 : d ≠ lr := ne_of hk8 kr8 (fun z => by cases z)
            refine ⟨_, _, rfl, ⟨kv8, (upd_ne dlr8).trans hk8, lk8, vals8⟩, (upd_ne lrs).trans ks8, (upd_ne lrm).trans km8, paired_imp (S := TupN _) (fun c row (e : TupN H8 c row) => (upd_ne (ne_of e kr8 (fun z => by cases z))).trans e) pr8, More.at mo8 lr0, ?_⟩
            rw [upd_same, List.map_append]
            rfl
        · rintro σ' H6 ⟨z9', z10', rfl, dn6, ks6, km6, pr6, mo6, kr6⟩
          have tkp : (lead s).take p = lead s := by rw [← ll, List.take_length]
          rw [tkp] at dn6 ks6 kr6
          have eF : (!decide (V.non = V.non)) = false := by rw [decide_eq_true rfl]; rfl
          refine ⟨_, rfl, rfl, _, rfl, ?_⟩
          rw [eF]
          refine iteF (iteF ?_)
          have lr2 : (noteAll st (lead s)).2.length = p := by rw [(noteAll_at (lead s) st).1, ll]
          refine ⟨_, rfl, .inl ⟨rfl, _, SqL.of km6⟩, _, rfl, lr, _, rfl, .inl ⟨SqL.of kr6, fun t ht => ?_⟩⟩
          have mt := new_more (o := .tup ((noteAll st (lead s)).2.map nV)) ht
          have kt : (upd H6 t (.tup ((noteAll st (lead s)).2.map nV))) t = some (.tup ((noteAll st (lead s)).2.map nV)) := upd_same
          have ks7 := mt _ _ ks6
          have km7 := mt _ _ km6
          have pr7 := paired_imp (S := TupN (upd H6 t (.tup ((noteAll st (lead s)).2.map nV)))) (fun b row (e : TupN H6 b row) => mt _ _ e) pr6
          have mo7 : More H (upd H6 t (.tup ((noteAll st (lead s)).2.map nV))) := fun b o e => mt _ _ (mo6 _ _ e)
          obtain ⟨kv, hk, lk, vals⟩ := dn6.ex
          have hk7 := mt _ _ hk
          generalize upd H6 t (.tup ((noteAll st (lead s)).2.map nV)) = H7 at kt ks7 km7 pr7 mo7 hk7 ⊢
          refine ⟨lm, _, _, rfl, rfl, km7, by rw [List.length_map]; exact small1000 (by omega), ?_⟩
          have dlm : d ≠ lm := ne_of hk7 km7 (fun z => by cases z)
          have tlm : t ≠ lm := ne_of kt km7 (fun z => by cases z)
          have wi' := wi.step (fun a ha b hb => cl a ha b hb) hs
          have len' := bnd _ wi'.nd wi'.all
          have le' := wi'.le
          refine ⟨⟨_, _, _, _, i + 1, (noteAll st (lead s)).1, rows ++ [(noteAll st (lead s)).2], ts ++ [t], rfl, ⟨kv, (upd_ne dlm).trans hk7, lk, vals⟩, (upd_ne lsm).trans ks7, ?_, ?_, More.at mo7 lm0, wi', ?_, by omega⟩, ?_⟩
          · rw [upd_same, List.map_append]
            rfl
          · exact paired_snoc (R := TupN _) ((upd_ne tlm).trans kt) (paired_imp (S := TupN _) (fun c row (e : TupN H7 c row) => (upd_ne (ne_of e km7 (fun z => by cases z))).trans e) pr7)
          · rw [← wk, show n + 1 - i = n - i + 1 by omega, show n + 1 - (i + 1) = n - i by omega]
            conv => rhs; unfold walkB
            rw [hs]
          · rw [km4]
            show (match (upd H7 lm (.lst (ts.map V.ref ++ [V.ref t]))) lm with | some (.lst xs) => n + 1 - xs.length | _ => 0) < n + 1 - (ts.map V.ref).length
            rw [upd_same]
            show n + 1 - (ts.map V.ref ++ [V.ref t]).length < _
            rw [List.length_append, lt1]
            show n + 1 - (i + 1) < _
            omega
      · have ei : i = st.length := by
          have := wi.le
          have : ¬ ((ts.map V.ref).length : Int) < (st.map nV).length := fun z => hm (decide_eq_true z)
          omega
        have e0 : st[i]? = none := List.getElem?_eq_none (by omega)
        obtain ⟨k, hk⟩ : ∃ k, n + 1 - i = k + 1 := ⟨n - i, by omega⟩
        rw [hk] at wk
        unfold walkB at wk
        rw [e0] at wk
        have wk : (st, rows) = walkFrom lead n s0 := wk
        rw [← wk] at q
        refine ⟨_, rfl, _, rfl, by show 2 ≤ sizeLine; decide, fun t ht => ?_⟩
        have mt := new_more (o := .tup [.ref ls, .ref lm]) ht
        exact q _ t (fun b o e => mt _ _ (mo4 _ _ e)) ⟨ls, lm, ts, upd_same, mt _ _ ks4, mt _ _ km4, paired_imp (S := TupN _) (fun b row e => mt _ _ e) pr4⟩
    · rintro σ H2 Q1 Q2 f ⟨v, e, l1, x1, e1, s1, v2, e2, l2, x2, e3, s2, i1, j1, h1, h2, c, hc, q2⟩
      exact ⟨v, e, l1, x1, e1, s1, v2, e2, l2, x2, e3, s2, i1, j1, h1, h2, c, hc, f _ _ q2⟩
end
end K72

namespace K72
open PySem L2 Gd B5 NdefX
abbrev sGb : Stmt := top 20
abbrev sGbL : Stmt := (defBody sGb).getD 0 (.Pass ⟨0, 0, 0, 0⟩)
abbrev NGb : List Str := ["moves", "lead"]
theorem scGb : FnScope NGb ["moves"] (defScope sGb) := ⟨rfl, rfl, rfl, by decide +kernel, rfl, by decide +kernel, by decide +kernel⟩
abbrev NGbL : List Str := ["state", "step", "moves"]
theorem scGbL : NScope NGbL ["state", "step"] ["moves"] (C8.fnScope sGbL) := nscope_by (by decide +kernel)
abbrev qGb : Str := (PyProof.Rows.envOfC "going_by" (defScope sGb) 0 0 .none).qual ++ "lead"
/-- where a table of moves leads -/
def ledBy (p : Nat) (dss : List (List Int)) (s : Nat) : List Nat := (List.range p).map fun d => ((dss.getD s []).getD d 0).toNat
def spGb (P : Program) (w : World) (K : PySem.W.Frag) (mg : Str → Option Value) (base : Heap) (T : List NTab) : Sp := fun vs H Q _ => ∃ (t : Addr) (xs : List V) (p : Nat) (dss : List (List Int)), vs = [.ref t] ∧ Sq K H t xs ∧ Paired (TupI K H) xs dss ∧
  (∀ ds ∈ dss, ds.length = p ∧ ∀ x ∈ ds, 0 ≤ x ∧ x < (dss.length : Int)) ∧ TabsN T H ∧
  ∀ (H' : Hp) (f : Addr) (pre : Hp → Prop), LamX.ExtN H H' → TabsN T H' → (∀ H'', More H' H'' → pre H'') → Lead P w K mg base 1 f pre (spStep dss.length p (ledBy p dss)) → Q (.ref f) H'
theorem sqL_by {K : PySem.W.Frag} {H H' : Hp} {t : Addr} {xs : List V} (e : ∀ o, H t = some o → (∀ φ, o ≠ .ext φ) → (∀ ps, o ≠ .tbl ps) → H' t = some o) (h : SqL K H t xs) : SqL K H' t xs := by
  rcases h with (h | ⟨o, h⟩) | h
  · exact .inl (.inl (e _ h (fun φ z => by cases z) (fun ps z => by cases z)))
  · exact .inl (.inr ⟨o, e _ h (fun φ z => by cases z) (fun ps z => by cases z)⟩)
  · exact .inr h
theorem sq_ext {K : PySem.W.Frag} {H H' : Hp} {t : Addr} {xs : List V} (e : LamX.ExtN H H') (h : Sq K H t xs) : Sq K H' t xs := h.elim (fun h => .inl (sqL_by (fun o a _ c => e _ o a c) h)) fun h => .inr (sqT_ext e h)
theorem sq_hide {K : PySem.W.Frag} {cl : List (Str × Addr)} {fr : List Str} {ws : List (Option V)} {H : Hp} {t : Addr} {xs : List V} (x : Exd cl fr ws H) (h : Sq K H t xs) : Sq K (hide cl H) t xs := h.elim (fun h => .inl (sqL_by (fun o a b _ => hide_by x a b) h)) fun h => .inr (sqT_hide x h)
section
variable {P : Program} {w : World} {K : PySem.W.Frag} {mg : Str → Option Value} {base : Heap}
theorem ok_gb {f c Pt : Addr} {kV doc pm ct oc : Value} {an od : Option Addr} {osl : Array (Option Value)} {T : List NTab}
    (lk : K.lookup f = some ⟨oc, od, .func (PySem.W.fnOf "going_by" "going_by" (defArgs sGb) (defBody sGb) (defScope sGb) .none kV doc pm an (.ref c) ct), osl⟩)
    (hcd : PySem.W.codeIn K (.ref c) "going_by" = true) (TB : LamX.TabB base mg c Pt) (hm : (Pt, fun _ _ => qGb) ∈ T) (hu : ∀ p ∈ T, p.1 = Pt → p.2 = fun _ _ => qGb) :
    FnOk P w K mg base CX0 2 f (PySem.W.fnOf "going_by" "going_by" (defArgs sGb) (defBody sGb) (defScope sGb) .none kV doc pm an (.ref c) ct) ["moves"] (spGb P w K mg base T) := by
  refine ok_show lk hcd scGb (fun vs H Q E h => ?_) (s1 := sGbL) rfl (fun A outer s H vs Q E hr h => ?_)
  · obtain ⟨t, xs, p, dss, rfl, _⟩ := h
    rfl
  · obtain ⟨t, xs, p, dss, rfl, sq, pr, ok, tabs, q⟩ := h
    have nb : ndefB (defScope sGb) (C8.fnScope sGbL) ["moves"] = true := by decide +kernel
    refine ⟨_, _, _, _, _, ps_ndefS (i := 1) (T := T) rfl TB rfl hm rfl hu (ndef_free nb) rfl rfl rfl scGb.nd rfl (Or.inl rfl) (Or.inl rfl), pv 1,
      fun o => Caps.made (scope := C8.fnScope sGbL) (fr := ["moves"]) (js := [0]) o (ndef_free nb) (ndef_fr nb) rfl, ?_⟩
    refine ⟨tabs, fun f2 c2 H1 eN tabs1 nf hf hc => ⟨_, rfl, fun HE sh => ?_⟩⟩
    generalize cloFrom (cxOf CX0 P w K mg base NGb "going_by" (defScope sGb) f (.ref c) A outer s H E).env.cells (C8.fnScope sGbL).names [] = cl at hf hc sh
    generalize hq0 : (cxOf CX0 P w K mg base NGb "going_by" (defScope sGb) f (.ref c) A outer s H E).env.qual ++ "lead" = ql at hf hc
    have nk : NOk P w K mg base CX0 1 f2 (NF.of sGbL "lead" ql cl c2) ["state", "step"] ["moves"] (fun ws vs H Q _ => ∃ (s d b : Nat), ws = [some (.ref t)] ∧ vs = [.int s, .int d] ∧ s < dss.length ∧ d < p ∧ (ledBy p dss s)[d]? = some b ∧ Sq K H t xs ∧ Paired (TupI K H) xs dss ∧ ∀ H', More H H' → Q (.int b) H') := by
      refine nok_of scGbL (fun _ _ _ us hl => ?_) (fun ws vs H Q E h => ?_) (fun A' outer' s' H' vs ws Q' E' hr' hf' hc' lw h => ?_)
      · match us, hl with
        | [_, _], _ => rfl
      · obtain ⟨s, d, b, _, rfl, _⟩ := h
        rfl
      · obtain ⟨s, d, b, rfl, rfl, hs, hd, eb, sq', pr', k⟩ := h
        refine ⟨_, pss_one (ps_ret (pe_ix ix_tup (pe_ix ix_seq (pv 2) (pv 0) (fun _ _ => rfl)) (pv 1) (fun _ _ => rfl))), ?_⟩
        have e0 := at_getD hs []
        obtain ⟨ld, okd⟩ := ok _ (List.mem_of_getElem? e0)
        have lx : xs.length = dss.length := Paired.length pr'
        obtain ⟨x, hx⟩ : ∃ x, xs[s]? = some x := ⟨xs[s]'(by omega), List.getElem?_eq_getElem (by omega)⟩
        obtain ⟨ds, e1, b1, rfl, sq1⟩ := paired_at pr' hx
        rw [e0] at e1
        cases e1
        have e2 := at_getD (l := dss.getD s []) (i := d) (by omega) 0
        have o2 := okd _ (List.mem_of_getElem? e2)
        unfold ledBy at eb
        rw [List.getElem?_map, List.getElem?_range hd] at eb
        cases eb
        refine ⟨_, rfl, _, rfl, ix_any sq' rfl hx ⟨_, rfl, b1, _, d, _, rfl, rfl, sq1, atI_nat (at_map e2), ?_⟩⟩
        have := k H' fun _ _ e => e
        rw [Int.toNat_of_nonneg o2.1] at this
        exact this
    have mf := sh.nc hf
    have mc := sh.nc hc
    have hfE := (sh.off _ mf).trans hf
    have hcE := (sh.off _ mc).trans hc
    have eE : LamX.ExtN H HE := eN.trans (.of sh.more)
    have L := lead_of nk [some (.ref t)] mf mc
    refine q HE f2 (fun H => ((H f2 = some (FnO f2 (NF.of sGbL "lead" ql cl c2)) ∧ H c2 = some (LamX.CodeO c2 ql)) ∧ Exd cl ["moves"] [some (.ref t)] H) ∧ Sq K H t xs ∧ Paired (TupI K H) xs dss) eE (tabs1.ext sh.more) (fun H2 m => ⟨⟨⟨m _ _ hfE, m _ _ hcE⟩, sh.exd.more m⟩, Sq.more m (sq_ext eE sq), paired_imp (fun v k r => r.more m) (pairT_ext eE pr)⟩) ?_
    refine L.imp (fun H2 h => h.1) fun vs H2 Q2 h hs => ?_
    obtain ⟨s, d, b, rfl, h1, h2, h3, k⟩ := hs
    exact ⟨s, d, b, rfl, rfl, h1, h2, h3, sq_hide h.1.2 h.2.1, pairT_hide h.1.2 h.2.2, fun H' m => k _ (more_lay m)⟩
end
end K72

namespace K72
open PySem L2 Gd B5 NdefX
section
variable {P : Program} {w : World} {K : PySem.W.Frag} {mg : Str → Option Value} {base : Heap} {g1 g2 f : Addr} {d1 d2 fd : FuncData}
abbrev sXp : Stmt := top 14
theorem scXp : FnScope ["start", "lead", "many", "most"] ["start", "lead", "many", "most"] (defScope sXp) := ⟨rfl, rfl, rfl, by decide +kernel, rfl, by decide +kernel, by decide +kernel⟩
theorem ok_xp (F : Fun K "explored" "explored" sXp f fd) (B : Blt mg) (zEnum : mg "enumerate" = none) (Xf : Cl K mg "explored_from" sXf ["starts", "lead", "many", "most"] g1 d1) : FnOk P w K mg base CX0 3 f fd ["start", "lead", "many", "most"] (spXp P w K mg base 1) := by
  have G1 : FnOk P w K mg base CX0 2 g1 d1 ["starts", "lead", "many", "most"] (spXf P w K mg base 1) := ok_xf Xf.fn B zEnum
  refine F.ok scXp (fun vs H Q E h => ?_) (fun cdv A outer s H vs Q E hr h => ?_)
  · obtain ⟨f0, p, n, s0, lead, pre, rfl, _⟩ := h
    rfl
  · obtain ⟨f0, p, n, s0, lead, pre, rfl, hpre, L, leads, s0n, fewn, fewp, q⟩ := h
    refine ⟨_, pss_one (ps_ret (pe_call G1 hr rfl Xf.g Xf.k Xf.b .nil pass0 (pa_cons (pe_lst (pa_cons (pv 0) pa_nil)) (pa_cons (pv 1) (pa_cons (pv 2) (pa_cons (pv 3) pa_nil)))))), ?_⟩
    refine ⟨_, rfl, by show 1 ≤ sizeLine; decide, fun l hl => ?_⟩
    have m1 := new_more (o := .lst [V.int s0]) hl
    exact ⟨_, rfl, _, rfl, _, rfl, l, f0, p, n, s0, lead, pre, rfl, upd_same, fun H' m => hpre H' fun b o e => m _ _ (m1 _ _ e), L, leads, s0n, fewn, fewp, fun H' t m told => q H' t (fun b o e => m _ _ (m1 _ _ e)) told⟩
abbrev sMs : Stmt := top 19
abbrev NMs : List Str := ["moves", "worths", "met", "rows", "state"]
theorem scMs : FnScope NMs ["moves", "worths"] (defScope sMs) := ⟨rfl, rfl, rfl, by decide +kernel, rfl, by decide +kernel, by decide +kernel⟩
/-- the states that are met, in this order -/
def metN (p : Nat) (dss : List (List Int)) : List Nat := (walkFrom (ledBy p dss) dss.length 0).1
def metR (p : Nat) (dss : List (List Int)) : List (List Nat) := (walkFrom (ledBy p dss) dss.length 0).2
def spMs (K : PySem.W.Frag) (T : List NTab) : Sp := fun vs H Q _ => ∃ (t u : Addr) (xs : List V) (p : Nat) (dss : List (List Int)) (ws : List Int), vs = [.ref t, .ref u] ∧ Sq K H t xs ∧ Paired (TupI K H) xs dss ∧ Sq K H u (ws.map V.int) ∧ MGood p dss ws ∧ TabsN T H ∧
  ∀ (H' : Hp) (t2 lr lw : Addr) (ts : List Addr), LamX.ExtN H H' → TabsN T H' → H' t2 = some (.tup [.ref lr, .ref lw]) → H' lr = some (.lst (ts.map V.ref)) → Paired (TupN H') ts (metR p dss) → H' lw = some (.lst ((metN p dss).map fun s => V.int (ws.getD s 0))) → Q (.ref t2) H'
theorem ledBy_ok {p : Nat} {dss : List (List Int)} {ws : List Int} (g : MGood p dss ws) : ∀ s, s < dss.length → (ledBy p dss s).length = p ∧ ∀ b ∈ ledBy p dss s, b < dss.length := fun s hs => by
  unfold ledBy
  refine ⟨by rw [List.length_map, List.length_range], fun b hb => ?_⟩
  obtain ⟨d, hd, rfl⟩ := List.mem_map.mp hb
  have hd := List.mem_range.mp hd
  obtain ⟨l, ok⟩ := g.rows _ (List.mem_of_getElem? (at_getD hs []))
  have := ok _ (List.mem_of_getElem? (at_getD (l := dss.getD s []) (i := d) (by omega) 0))
  omega
theorem met_below {p : Nat} {dss : List (List Int)} {ws : List Int} (g : MGood p dss ws) : (metN p dss).length ≤ dss.length ∧ ∀ s ∈ metN p dss, s < dss.length := by
  have h := walkFrom_end (lead := ledBy p dss) (P := fun x => x < dss.length) (N := dss.length) (fun a ha => (ledBy_ok g a ha).2) (fun l nd al => nodup_below dss.length l nd al) (a := 0) (List.length_pos_iff.mpr g.ne)
  exact ⟨nodup_below dss.length _ h.nd h.all, h.all⟩
theorem ok_ms (F : Fun K "met_states" "met_states" sMs f fd) (B : Blt mg) {T : List NTab} (Xp : Cl K mg "explored" sXp ["start", "lead", "many", "most"] g1 d1) (GX : FnOk P w K mg base CX0 3 g1 d1 ["start", "lead", "many", "most"] (spXp P w K mg base 1))
    (kG : PySem.W.keepIn K (.ref g2) = true) (gG : mg "going_by" = some (.ref g2)) (bG : Binds K d2 ["moves"] []) (GG : FnOk P w K mg base CX0 2 g2 d2 ["moves"] (spGb P w K mg base T)) : FnOk P w K mg base CX0 4 f fd ["moves", "worths"] (spMs K T) := by
  refine F.ok scMs (fun vs H Q E h => ?_) (fun cdv A outer s H vs Q E hr h => ?_)
  · obtain ⟨t, u, xs, p, dss, ws, rfl, _⟩ := h
    rfl
  · obtain ⟨t, u, xs, p, dss, ws, rfl, sq, pr, su, g, tabs, q⟩ := h
    have hr2 : Room 2 _ := hr.mono (by decide)
    refine ⟨_, pss_cons (ps_asg (pe_call GX hr rfl Xp.g Xp.k Xp.b .nil pass0 (pa_cons pe_int (pa_cons (pe_call GG hr2 rfl gG kG bG .nil pass0 (pa_cons (pv 0) pa_nil)) (pa_cons (pe_callB call_len_seq (by rfl) B.len_ PySem.boot_len (pa_cons (pe_ix ix_seq (pv 0) pe_int (fun _ _ => rfl)) pa_nil)) (pa_cons pe_non pa_nil)))))
        (pg_tup (by rfl) (pgs_cons (pg_name (i := 2) scMs.nd rfl (Or.inl rfl)) (pgs_cons (pg_name (i := 3) scMs.nd rfl (Or.inl rfl)) pgs_nil))))
      (pss_one (ps_ret (pe_tup (pa_cons (pv 3) (pa_cons (pe_lc (own := [("state", 4)]) (g := gName 4) (tt := tYes) rfl scMs.nd (pi_list (pv 2)) (blkOk_by (N := NMs) (sc := defScope sMs) (by decide +kernel)) (fun _ _ _ _ _ => pg_name (i := 4) scMs.nd rfl (Or.inl rfl)) (fun _ _ _ _ _ => pts_nil)
        (fun _ _ _ _ _ => pe_ix (r := rIx K) ix_seq (pv 1) (pv 4) (fun _ _ => rfl))) pa_nil))))), ?_⟩
    have d0 : 0 < dss.length := List.length_pos_iff.mpr g.ne
    obtain ⟨p2, p7⟩ := isPr_small g.pr
    have few := g.few
    refine ⟨_, rfl, t, xs, p, dss, rfl, sq, pr, fun ds hds => ⟨by have := (g.rows ds hds).1; omega, (g.rows ds hds).2⟩, tabs, fun H1 f1 pre e1 tabs1 hpre L => ?_⟩
    have sq1 := sq_ext e1 sq
    have pr1 := pairT_ext e1 pr
    have su1 := sq_ext e1 su
    have lx : xs.length = dss.length := Paired.length pr1
    obtain ⟨x, hx⟩ : ∃ x, xs[0]? = some x := ⟨xs[0]'(by omega), List.getElem?_eq_getElem (by omega)⟩
    obtain ⟨ds, eds, b1, rfl, sqb⟩ := paired_at pr1 hx
    have lb := (g.rows ds (List.mem_of_getElem? eds)).1
    refine ⟨_, rfl, ix_any (j := 0) sq1 rfl hx ⟨b1, _, rfl, .inr sqb, ?_⟩⟩
    have el : (((ds.map V.int).length : Nat) : Int) = p := by rw [List.length_map]; exact lb
    refine ⟨f1, p, dss.length, 0, ledBy p dss, pre, by show [V.int 0, V.ref f1, V.int _, V.non] = _; rw [el]; rfl, hpre, L, ledBy_ok g, d0, few, by omega, fun H2 t2 m12 told => ?_⟩
    obtain ⟨ls, lm, ts, k1, k2, k3, k4⟩ := told
    refine ⟨t2, _, rfl, SqT.of k1, rfl, _, _, rfl, _, _, rfl, rfl, ?_⟩
    obtain ⟨mb1, mb2⟩ := met_below g
    refine ⟨_, rfl, _, rfl, ls, rfl, ⟨_, SqL.of k2⟩, fun D nD => ?_⟩
    refine lc_name (n := 4) (D := D) (H1 := H2) (xs := (metN p dss).map nV) (rs := (metN p dss).map fun s => V.int (ws.getD s 0)) walk_list nD (fun H' m => SqL.of (m _ _ k2)) (by rw [List.length_map, List.length_map]) (by rw [List.length_map]; omega) (fun _ => rfl) ?_ ?_
    · intro i y v H3 Q3 hy hv m3 q3
      obtain ⟨s, hs, rfl⟩ := map_at hy
      obtain ⟨s2, hs2, rfl⟩ := map_at hv
      rw [hs] at hs2
      cases hs2
      have lt := mb2 s (List.mem_of_getElem? hs)
      exact ⟨_, rfl, _, rfl, ix_any ((su1.more m12).more m3) rfl (at_map (at_getD (by rw [g.len]; exact lt) 0)) (q3 _ fun _ _ e => e)⟩
    · intro H3 k5 m3
      refine ⟨by show 2 ≤ sizeLine; decide, fun t3 ht3 => ?_⟩
      have mt := new_more (o := .tup [.ref lm, .ref D]) ht3
      exact q _ t3 lm D ts (((e1.trans (.of m12)).trans (.of m3)).trans (.of mt)) (((tabs1.ext m12).ext m3).ext mt) upd_same (mt _ _ (m3 _ _ k3)) (paired_imp (S := TupN _) (fun b row (e : TupN H2 b row) => mt _ _ (m3 _ _ e)) k4) (mt _ _ k5)
end
end K72

/-! Cls: numbers of keys under one-to-one maps; every number is used; the keys of a dict. -/
namespace B5
section
variable {α β : Type} [DecidableEq α] [DecidableEq β]
theorem ixOf_map {f : α → β} (inj : ∀ a b, f a = f b → a = b) (x : α) : ∀ l : List α, ixOf (l.map f) (f x) = ixOf l x
  | [] => rfl
  | a :: l => by
    have ih := ixOf_map inj x l
    show (if f a = f x then some 0 else (ixOf (l.map f) (f x)).map _) = if a = x then some 0 else (ixOf l x).map _
    rw [ih]
    by_cases e : a = x
    · rw [if_pos e, if_pos (by rw [e])]
    · rw [if_neg e, if_neg fun q => e (inj _ _ q)]
theorem note_map {f : α → β} (inj : ∀ a b, f a = f b → a = b) (st : List α) (a : α) : note (st.map f) (f a) = ((note st a).1.map f, (note st a).2) := by
  unfold note
  rw [ixOf_map inj]
  cases ixOf st a with
  | some i => rfl
  | none =>
    show (st.map f ++ [f a], (st.map f).length) = ((st ++ [a]).map f, st.length)
    rw [List.map_append, List.length_map]
    rfl
theorem noteAll_map {f : α → β} (inj : ∀ a b, f a = f b → a = b) : ∀ (as st : List α), noteAll (st.map f) (as.map f) = ((noteAll st as).1.map f, (noteAll st as).2)
  | [], st => rfl
  | a :: as, st => by
    show ((noteAll (note (st.map f) (f a)).1 (as.map f)).1, (note (st.map f) (f a)).2 :: (noteAll (note (st.map f) (f a)).1 (as.map f)).2) = ((noteAll (note st a).1 as).1.map f, (note st a).2 :: (noteAll (note st a).1 as).2)
    rw [note_map inj]
    show ((noteAll ((note st a).1.map f) (as.map f)).1, (note st a).2 :: (noteAll ((note st a).1.map f) (as.map f)).2) = _
    rw [noteAll_map inj as]
theorem numB_map {f : α → β} (inj : ∀ a b, f a = f b → a = b) (as : List α) : numB (as.map f) = numB as := by
  have h := noteAll_map inj as []
  unfold numB
  rw [List.map_nil] at h
  rw [h]
theorem noteAll_onto : ∀ (as st : List α) (i : Nat), i < (noteAll st as).1.length → i < st.length ∨ ∃ j : Nat, (noteAll st as).2[j]? = some i
  | [], st, i, h => .inl h
  | a :: as, st, i, h => by
    have h : i < (noteAll (note st a).1 as).1.length := h
    rcases noteAll_onto as (note st a).1 i h with g | ⟨j, e⟩
    · by_cases z : i < st.length
      · exact .inl z
      · refine .inr ⟨0, ?_⟩
        show some (note st a).2 = some i
        revert g
        unfold note
        cases ixOf st a with
        | some k => intro g; exact absurd g z
        | none =>
          intro g
          have g : i < (st ++ [a]).length := g
          rw [List.length_append] at g
          have : st.length = i := by simp at g; omega
          show some st.length = _
          rw [this]
    · exact .inr ⟨j + 1, e⟩
/-- the greatest number and one more -/
theorem numB_max {keys : List α} {m : Int} (h : m ∈ (numB keys).map fun i => ((i : Nat) : Int)) (le : ∀ y ∈ (numB keys).map fun i => ((i : Nat) : Int), y ≤ m) : m + 1 = ((cnt (cOf (numB keys)) keys.length : Nat) : Int) := by
  rw [← manyOf_cnt keys.length keys rfl]
  obtain ⟨i, hi, rfl⟩ := List.mem_map.mp h
  obtain ⟨j, hj⟩ := List.getElem?_of_mem hi
  have lj : j < keys.length := by have := (List.getElem?_eq_some_iff.mp hj).1; rw [numB_len] at this; exact this
  have lt := numB_lt lj
  have ej : cOf (numB keys) j = i := by unfold cOf; rw [List.getD_eq_getElem?_getD, hj]; rfl
  rw [ej] at lt
  have pos : 0 < manyOf keys := by omega
  rcases noteAll_onto keys [] (manyOf keys - 1) (by show _ < manyOf keys; omega) with z | ⟨k, e⟩
  · exact absurd z (Nat.not_lt_zero _)
  · have := le _ (List.mem_map.mpr ⟨_, List.mem_of_getElem? e, rfl⟩)
    omega
end
/-- and every number below the greatest is one of them -/
def NumbsO (n : Nat) (l : List Nat) : Prop := Numbs n l ∧ ∀ i, i < cnt (cOf l) n → ∃ s, s < n ∧ cOf l s = i
theorem numbsO_of {α : Type} [DecidableEq α] {keys : List α} {n : Nat} (h : keys.length = n) : NumbsO n (numB keys) := by
  refine ⟨numbs_of h, fun i hi => ?_⟩
  rw [← manyOf_cnt n keys h] at hi
  rcases noteAll_onto keys [] i hi with z | ⟨j, e⟩
  · exact absurd z (Nat.not_lt_zero _)
  · have e : (numB keys)[j]? = some i := e
    have lj := (List.getElem?_eq_some_iff.mp e).1
    rw [numB_len] at lj
    refine ⟨j, by omega, ?_⟩
    unfold cOf
    rw [List.getD_eq_getElem?_getD, e]
    rfl
theorem passC_o {n : Nat} : ∀ (fs : List (List Nat)) (l : List Nat), NumbsO n l → NumbsO n (passC n fs l)
  | [], l, h => h
  | f :: fs, l, h => passC_o fs _ (numbsO_of (keysC_len (n := n)))
end B5

/-! Lm: what a least machine is, and that there is one alone. -/
namespace B5
section
variable {n p : Nat} {step : Nat → Nat → Nat} {val : Nat → Int} {R : List (List Nat)} {W : List Int}
theorem walkFrom_more {α : Type} [DecidableEq α] {lead : α → List α} {P : α → Prop} (cl : ∀ a, P a → ∀ b ∈ lead a, P b) {N : Nat} (bnd : ∀ l : List α, l.Nodup → (∀ x ∈ l, P x) → l.length ≤ N) {a : α} (ha : P a) {M : Nat} (h : N ≤ M) : walkFrom lead M a = walkFrom lead N a := by
  have e := walkFrom_end cl bnd ha
  have l := bnd _ e.nd e.all
  exact walkB_more (N + 1) 0 [a] [] (by show (walkFrom lead N a).1.length < _; omega) (M + 1) (by omega)
/-- the classes' walk -/
def leadK (p : Nat) (step : Nat → Nat → Nat) (c rp : Nat → Nat) (a : Nat) : List Nat := (leadS p step (rp a)).map c
/-- the least machine, by a partition of the states -/
structure LeastOf (n p : Nat) (step : Nat → Nat → Nat) (val : Nat → Int) (R : List (List Nat)) (W : List Int) : Prop where
  n0 : 0 < n
  cl : ∀ s d, s < n → d < p → step s d < n
  ex : ∃ c rp : Nat → Nat, Stab n p step val c ∧ Coarse n p step val c ∧ (∀ s, s < n → c s < n) ∧ (∀ s, s < n → rp (c s) < n ∧ c (rp (c s)) = c s) ∧
    ∀ N, n ≤ N → R = (walkFrom (leadK p step c rp) N (c 0)).2 ∧ W = (walkFrom (leadK p step c rp) N (c 0)).1.map fun a => val (rp a)
/-- what is met of the classes -/
structure MetC (n p : Nat) (step : Nat → Nat → Nat) (c rp : Nat → Nat) (met : List Nat) (rows : List (List Nat)) : Prop where
  len : rows.length = met.length
  first : met[0]? = some (c 0)
  all : ∀ a ∈ met, ∃ s, s < n ∧ a = c s
  few : met.length ≤ n
  row : ∀ (i : Nat) (r : List Nat), rows[i]? = some r → r.length = p
  led : ∀ (i a d : Nat), met[i]? = some a → d < p → tab rows i d < met.length ∧ met[tab rows i d]? = some (c (step (rp a) d))
theorem metC_of (cl : ∀ s d, s < n → d < p → step s d < n) (n0 : 0 < n) {c rp : Nat → Nat} (cb : ∀ s, s < n → c s < n) (hr : ∀ s, s < n → rp (c s) < n ∧ c (rp (c s)) = c s) :
    MetC n p step c rp (walkFrom (leadK p step c rp) n (c 0)).1 (walkFrom (leadK p step c rp) n (c 0)).2 ∧ ∀ N, n ≤ N → walkFrom (leadK p step c rp) N (c 0) = walkFrom (leadK p step c rp) n (c 0) := by
  have clK : ∀ a, (∃ s, s < n ∧ a = c s) → ∀ b ∈ leadK p step c rp a, ∃ s, s < n ∧ b = c s := fun a ⟨s, hs, ea⟩ b hb => by
    obtain ⟨x, hx, rfl⟩ := List.mem_map.mp hb
    obtain ⟨d, hd, rfl⟩ := leadS_mem hx
    subst ea
    exact ⟨_, cl _ d (hr s hs).1 hd, rfl⟩
  have bnd : ∀ l : List Nat, l.Nodup → (∀ x ∈ l, ∃ s, s < n ∧ x = c s) → l.length ≤ n := fun l nd al => nodup_below n l nd fun x hx => by
    obtain ⟨s, hs, rfl⟩ := al x hx
    exact cb s hs
  refine ⟨?_, fun N h => walkFrom_more clK bnd ⟨0, n0, rfl⟩ h⟩
  have h := walkFrom_end clK bnd ⟨0, n0, rfl⟩
  generalize walkFrom (leadK p step c rp) n (c 0) = Z at h ⊢
  refine ⟨h.len, pre_at h.pre rfl, h.all, bnd _ h.nd h.all, fun i r e => ?_, fun i a d e hd => ?_⟩
  · have lt := (List.getElem?_eq_some_iff.mp e).1
    rw [h.len] at lt
    have := (h.ok i _ r lt (List.getElem?_eq_getElem lt) e).1
    rw [this]
    unfold leadK
    rw [List.length_map, leadS_len]
  · have lt := (List.getElem?_eq_some_iff.mp e).1
    have er : Z.2[i]? = some (Z.2[i]'(by rw [h.len]; exact lt)) := List.getElem?_eq_getElem (by rw [h.len]; exact lt)
    have ea : (leadK p step c rp a)[d]? = some (c (step (rp a) d)) := by
      unfold leadK
      rw [List.getElem?_map, leadS_at hd]
      rfl
    obtain ⟨k, e1, e2⟩ := (h.ok i a _ lt e er).2 d _ ea
    have ek : tab Z.2 i d = k := by
      unfold tab
      rw [List.getD_eq_getElem?_getD (l := Z.2), er]
      show (Z.2[i]'_).getD d 0 = k
      rw [List.getD_eq_getElem?_getD, e1]
      rfl
    rw [ek]
    exact ⟨(List.getElem?_eq_some_iff.mp e2).1, e2⟩
/-- what is right of it -/
structure Fine (n p : Nat) (R : List (List Nat)) (W : List Int) : Prop where
  ne : 0 < R.length
  few : R.length ≤ n
  rows : ∀ r ∈ R, r.length = p ∧ ∀ x ∈ r, x < R.length
  len : W.length = R.length
theorem getD_map {α β : Type} {f : α → β} {l : List α} {i : Nat} (h : i < l.length) (a : α) (b : β) : (l.map f).getD i b = f (l.getD i a) := by
  rw [List.getD_eq_getElem?_getD, List.getD_eq_getElem?_getD, List.getElem?_map, List.getElem?_eq_getElem h]
  rfl
theorem MetC.fine {c rp : Nat → Nat} {met : List Nat} {rows : List (List Nat)} (M : MetC n p step c rp met rows) {f : Nat → Int} : Fine n p rows (met.map f) := by
  have m0 : 0 < met.length := (List.getElem?_eq_some_iff.mp M.first).1
  refine ⟨by rw [M.len]; exact m0, by rw [M.len]; exact M.few, fun r hr => ?_, by rw [List.length_map, M.len]⟩
  obtain ⟨i, hi⟩ := List.getElem?_of_mem hr
  have lr := M.row i r hi
  refine ⟨lr, fun x hx => ?_⟩
  obtain ⟨d, hd⟩ := List.getElem?_of_mem hx
  have ld := (List.getElem?_eq_some_iff.mp hd).1
  have li := (List.getElem?_eq_some_iff.mp hi).1
  rw [M.len] at li
  have := (M.led i _ d (List.getElem?_eq_getElem li) (by omega)).1
  have e : tab rows i d = x := by
    unfold tab
    rw [List.getD_eq_getElem?_getD (l := rows), hi]
    show r.getD d 0 = x
    rw [List.getD_eq_getElem?_getD, hd]
    rfl
  rw [e] at this
  rw [M.len]
  exact this
theorem LeastOf.fine (L : LeastOf n p step val R W) : Fine n p R W := by
  obtain ⟨c, rp, S, k, cb, hr, h⟩ := L.ex
  obtain ⟨e1, e2⟩ := h n (Nat.le_refl _)
  rw [e1, e2]
  exact (metC_of L.cl L.n0 cb hr).1.fine
def valL (W : List Int) (s : Nat) : Int := W.getD s 0
theorem Across.symm {step' : Nat → Nat → Nat} {val' : Nat → Int} {s t : Nat} (h : Across p step val step' val' s t) : Across p step' val' step val t s := fun w hw => (h w hw).symm
theorem Across.trans {step' step2 : Nat → Nat → Nat} {val' val2 : Nat → Int} {s t u : Nat} (h : Across p step val step' val' s t) (g : Across p step' val' step2 val2 t u) : Across p step val step2 val2 s u := fun w hw => (h w hw).trans (g w hw)
theorem Across.refl {s : Nat} : Across p step val step val s s := fun _ _ => rfl
/-- it tells what the machine tells -/
theorem LeastOf.tells (L : LeastOf n p step val R W) : Across p step val (tab R) (valL W) 0 0 := by
  obtain ⟨c, rp, S, k, cb, hr, h⟩ := L.ex
  obtain ⟨e1, e2⟩ := h n (Nat.le_refl _)
  have M := (metC_of L.cl L.n0 cb hr).1
  generalize walkFrom (leadK p step c rp) n (c 0) = Z at e1 e2 M
  subst e1 e2
  have A := least_across (s0 := 0) (N := n) L.cl S hr L.n0 (met := Z.1) (rows := Z.2) (fun i a d e hd => (M.led i a d e hd).2) M.all M.first
  have m0 : 0 < Z.1.length := (List.getElem?_eq_some_iff.mp M.first).1
  have inr : ∀ (w : List Nat) (i : Nat), i < Z.1.length → (∀ d ∈ w, d < p) → runW (tab Z.2) i w < Z.1.length := by
    intro w
    induction w with
    | nil => intro i hi _; exact hi
    | cons d w ih =>
      intro i hi hw
      exact ih _ (M.led i _ d (List.getElem?_eq_getElem hi) (hw d (.head _))).1 fun x hx => hw x (.tail _ hx)
  intro w hw
  rw [A w hw]
  unfold valL
  rw [getD_map (inr w 0 m0 hw) 0]
/-- steady machines have steady least machines -/
theorem LeastOf.steady (L : LeastOf n p step val R W) (p0 : 0 < p) (st : ∀ s, s < n → val s = val (step s 0)) : ∀ i, i < R.length → valL W i = valL W (tab R i 0) := by
  obtain ⟨c, rp, S, k, cb, hr, h⟩ := L.ex
  obtain ⟨e1, e2⟩ := h n (Nat.le_refl _)
  have M := (metC_of L.cl L.n0 cb hr).1
  generalize walkFrom (leadK p step c rp) n (c 0) = Z at e1 e2 M
  subst e1 e2
  intro i hi
  rw [M.len] at hi
  have ea : Z.1[i]? = some Z.1[i] := List.getElem?_eq_getElem hi
  obtain ⟨l1, l2⟩ := M.led i _ 0 ea p0
  obtain ⟨s, hs, es⟩ := M.all _ (List.getElem_mem hi)
  unfold valL
  rw [getD_map hi 0, getD_map l1 0, List.getD_eq_getElem?_getD (l := Z.1) (i := i), ea, List.getD_eq_getElem?_getD (l := Z.1), l2]
  show val (rp Z.1[i]) = val (rp (c (step (rp Z.1[i]) 0)))
  rw [es]
  obtain ⟨r1, r2⟩ := hr s hs
  have b1 := L.cl _ 0 r1 p0
  obtain ⟨r3, r4⟩ := hr _ b1
  rw [st _ r1]
  exact (S.tell _ _ r3 b1 r4).symm
/-- the least machine of all that tells the same -/
structure LeastFor (p : Nat) (step : Nat → Nat → Nat) (val : Nat → Int) (R : List (List Nat)) (W : List Int) : Prop where
  ex : ∃ (n' : Nat) (step' : Nat → Nat → Nat) (val' : Nat → Int), LeastOf n' p step' val' R W ∧ Across p step val step' val' 0 0
theorem LeastOf.for (L : LeastOf n p step val R W) : LeastFor p step val R W := ⟨n, step, val, L, .refl⟩
theorem LeastFor.tells (L : LeastFor p step val R W) : Across p step val (tab R) (valL W) 0 0 := by
  obtain ⟨n', step', val', L, A⟩ := L.ex
  exact A.trans L.tells
theorem LeastOf.one {n' : Nat} {step' : Nat → Nat → Nat} {val' : Nat → Int} {R' : List (List Nat)} {W' : List Int} (L : LeastOf n p step val R W) (L' : LeastOf n' p step' val' R' W') (A : Across p step val step' val' 0 0) : R = R' ∧ W = W' := by
  obtain ⟨c, rp, S, k, cb, hr, h⟩ := L.ex
  obtain ⟨c', rp', S', k', cb', hr', h'⟩ := L'.ex
  obtain ⟨e1, e2⟩ := h (n + n') (by omega)
  obtain ⟨e3, e4⟩ := h' (n + n') (by omega)
  have x := least_cross L.cl L'.cl S k S' k' hr hr' L.n0 L'.n0 A (n + n')
  rw [e1, e2, e3, e4]
  exact x
theorem LeastFor.one {step2 : Nat → Nat → Nat} {val2 : Nat → Int} {R2 : List (List Nat)} {W2 : List Int} (L : LeastFor p step val R W) (L2 : LeastFor p step2 val2 R2 W2) (A : Across p step val step2 val2 0 0) : R = R2 ∧ W = W2 := by
  obtain ⟨_, _, _, L, B⟩ := L.ex
  obtain ⟨_, _, _, L', B'⟩ := L2.ex
  exact L.one L' (B.symm.trans (A.trans B'))
/-- of what is met alone -/
theorem met_least {met : List Nat} {rows : List (List Nat)} (M : MetI n p step 0 met rows) (L : LeastOf met.length p (tab rows) (valL (met.map val)) R W) : LeastFor p step val R W := by
  refine ⟨_, _, _, L, fun w hw => ?_⟩
  have e := M.run w 0 0 M.first hw
  have lt := (List.getElem?_eq_some_iff.mp e).1
  unfold valL
  rw [getD_map lt 0, List.getD_eq_getElem?_getD, e]
  rfl
end
end B5

/-! gm: general texts of machines, their rows and worths (of lmd, lcl, il), for laws without least machines -/
namespace K72
open PySem L2 Gd B5 NdefX
/-- where a machine leads -/
def stepT (dss : List (List Int)) (s d : Nat) : Nat := ((dss.getD s []).getD d 0).toNat
def toI (R : List (List Nat)) : List (List Int) := R.map fun r => r.map fun x => ((x : Nat) : Int)
theorem toI_len (R : List (List Nat)) : (toI R).length = R.length := List.length_map _
theorem stepT_toI {R : List (List Nat)} {p s d : Nat} (hs : s < R.length) (hp : ∀ r ∈ R, r.length = p) (hd : d < p) : stepT (toI R) s d = tab R s d := by
  have e := at_getD hs []
  have l := hp _ (List.mem_of_getElem? e)
  unfold stepT toI tab
  rw [getD_map hs [], getD_map (by omega) 0]
  rfl
theorem stdy_iff {dss : List (List Int)} {ws : List Int} (l : ws.length = dss.length) : stdy dss ws = true ↔ ∀ i, i < dss.length → ws.getD i 0 = ws.getD (stepT dss i 0) 0 := by
  unfold stdy
  rw [List.all_eq_true]
  constructor
  · intro h i hi
    have e := zip_at (f := fun (ds : List Int) (w : Int) => decide (w = ws.getD (ds.getD 0 0).toNat 0)) (at_getD hi []) (at_getD (l := ws) (i := i) (by omega) 0)
    have := h _ (List.mem_of_getElem? e)
    exact of_decide_eq_true this
  · intro h x hx
    obtain ⟨i, hi⟩ := List.getElem?_of_mem hx
    have lt := (List.getElem?_eq_some_iff.mp hi).1
    rw [List.length_zipWith] at lt
    have e := zip_at (f := fun (ds : List Int) (w : Int) => decide (w = ws.getD (ds.getD 0 0).toNat 0)) (at_getD (l := dss) (i := i) (by omega) []) (at_getD (l := ws) (i := i) (by omega) 0)
    rw [hi] at e
    cases e
    exact decide_eq_true (h i (by omega))
theorem good_cl {p : Nat} {dss : List (List Int)} {ws : List Int} (g : MGood p dss ws) : ∀ s d, s < dss.length → d < p → stepT dss s d < dss.length := fun s d hs hd => by
  obtain ⟨l, ok⟩ := g.rows _ (List.mem_of_getElem? (at_getD hs []))
  have := ok _ (List.mem_of_getElem? (at_getD (l := dss.getD s []) (i := d) (by omega) 0))
  unfold stepT
  omega
theorem met_I {p : Nat} {dss : List (List Int)} {ws : List Int} (g : MGood p dss ws) : MetI dss.length p (stepT dss) 0 (metN p dss) (metR p dss) := met_of (good_cl g) (List.length_pos_iff.mpr g.ne) (Nat.le_refl _)
theorem metI_C {n p : Nat} {step : Nat → Nat → Nat} {met : List Nat} {rows : List (List Nat)} (M : MetI n p step 0 met rows) : MetC n p step id id met rows :=
  ⟨M.len, M.first, fun a ha => ⟨a, M.all a ha, rfl⟩, nodup_below n _ M.nd M.all, M.row, fun i a d e hd => M.led i a d e hd⟩
theorem mk_ok {K : PySem.W.Frag} {H : Hp} {p : Int} {a b : Addr} {xs : List V} {dss : List (List Int)} {ws : List Int} (g : MGood p dss ws) (st : stdy dss ws = true) (sq : Sq K H a xs) (hp : Paired (fun x ds => ∃ b, x = .ref b ∧ Sq K H b (ds.map V.int)) xs dss)
    (sw : Sq K H b (ws.map V.int)) : MOk K H (.int p) (.ref a) (.ref b) p dss ws := by
  have l := Paired.length hp
  have d0 := List.length_pos_iff.mpr g.ne
  refine ⟨rfl, g.pr, ⟨a, xs, rfl, sq, by rw [l]; exact g.few, fun e => by rw [e] at l; exact absurd l (by show 0 ≠ _; omega), paired_of l fun i x ds hx hds => ?_⟩, ⟨b, rfl, sw⟩, g.len, st⟩
  obtain ⟨ds', e, b, rfl, sb⟩ := paired_at hp hx
  rw [hds] at e
  cases e
  obtain ⟨l1, r⟩ := g.rows ds (List.mem_of_getElem? hds)
  exact ⟨⟨b, rfl, sb⟩, l1, by rw [l]; exact r⟩
theorem fine_good {n p : Nat} {R : List (List Nat)} {W : List Int} (f : Fine n p R W) (pr : isPr p = true) (few : n ≤ 1000) : MGood p (toI R) W := by
  refine ⟨pr, fun e => ?_, fun ds hds => ?_, by rw [toI_len]; exact f.len, by rw [toI_len]; have := f.few; omega⟩
  · have := toI_len R
    rw [e] at this
    have := f.ne
    simp at *
    omega
  · obtain ⟨r, hr, rfl⟩ := List.mem_map.mp hds
    obtain ⟨l, b⟩ := f.rows r hr
    refine ⟨by rw [List.length_map, l], fun d hd => ?_⟩
    obtain ⟨x, hx, rfl⟩ := List.mem_map.mp hd
    have := b x hx
    rw [toI_len]
    omega
theorem fine_stdy {n p : Nat} {R : List (List Nat)} {W : List Int} (f : Fine n p R W) (p0 : 0 < p) (st : ∀ i, i < R.length → valL W i = valL W (tab R i 0)) : stdy (toI R) W = true := by
  rw [stdy_iff (by rw [toI_len]; exact f.len)]
  intro i hi
  rw [toI_len] at hi
  rw [stepT_toI hi (fun r hr => (f.rows r hr).1) p0]
  exact st i hi
theorem rows_pair {K : PySem.W.Frag} {H : Hp} : ∀ {ts : List Addr} {R : List (List Nat)}, Paired (TupN H) ts R → Paired (fun x ds => ∃ b, x = V.ref b ∧ Sq K H b (ds.map V.int)) (ts.map V.ref) (toI R)
  | [], [], .nil => .nil
  | t :: ts, r :: R, .cons h q => .cons ⟨t, rfl, .inr (SqT.of (by
      have h : H t = some (.tup (r.map nV)) := h
      rw [h, List.map_map]
      rfl))⟩ (rows_pair q)
theorem rows_tupI {K : PySem.W.Frag} {H : Hp} : ∀ {ts : List Addr} {R : List (List Nat)}, Paired (TupN H) ts R → Paired (TupI K H) (ts.map V.ref) (toI R)
  | [], [], .nil => .nil
  | t :: ts, r :: R, .cons h q => .cons ⟨t, rfl, SqT.of (by
      have h : H t = some (.tup (r.map nV)) := h
      rw [h, List.map_map]
      rfl)⟩ (rows_tupI q)
/-- plain moves and worths of the law -/
structure PlT (K : PySem.W.Frag) (H : Hp) (M W : Addr) (rs : List V) (p : Nat) (dss : List (List Int)) (ws : List Int) : Prop where
  hM : H M = some (.tup rs)
  rows : Paired (TupI K H) rs dss
  hW : H W = some (.tup (ws.map V.int))
  good : MGood p dss ws
  few : dss.length ≤ 100
theorem PlT.more {K : PySem.W.Frag} {H H' : Hp} {M W : Addr} {rs : List V} {p : Nat} {dss : List (List Int)} {ws : List Int} (h : PlT K H M W rs p dss ws) (m : More H H') : PlT K H' M W rs p dss ws :=
  ⟨m _ _ h.hM, paired_imp (fun _ _ r => r.more m) h.rows, m _ _ h.hW, h.good, h.few⟩
theorem tup_row {K : PySem.W.Frag} {H : Hp} {rs : List V} {p : Nat} {dss : List (List Int)} {ws : List Int} (hrows : Paired (TupI K H) rs dss) (hgood : MGood p dss ws) {s : Nat} (hs : s < dss.length) : ∃ (b : Addr) (row : List Nat), rs[s]? = some (.ref b) ∧ SqT K H b (row.map nV) ∧ row = leadS p (stepT dss) s ∧ row.length = p ∧ ∀ x ∈ row, x < dss.length := by
  have l := Paired.length hrows
  obtain ⟨x, hx⟩ : ∃ x, rs[s]? = some x := ⟨rs[s]'(by omega), List.getElem?_eq_getElem (by omega)⟩
  obtain ⟨ds, eds, b, rfl, sb⟩ := paired_at hrows hx
  obtain ⟨ld, ok⟩ := hgood.rows ds (List.mem_of_getElem? eds)
  have ed : dss.getD s [] = ds := by rw [List.getD_eq_getElem?_getD, eds]; rfl
  have e : ds = (leadS p (stepT dss) s).map fun x => ((x : Nat) : Int) := by
    apply List.ext_getElem?
    intro d
    by_cases hd : d < p
    · rw [at_getD (l := ds) (i := d) (by omega) 0, List.getElem?_map, leadS_at hd]
      have := (ok _ (List.mem_of_getElem? (at_getD (l := ds) (i := d) (by omega) 0))).1
      show some (ds.getD d 0) = some ((((dss.getD s []).getD d 0).toNat : Nat) : Int)
      rw [ed, Int.toNat_of_nonneg this]
    · rw [List.getElem?_eq_none (by omega), List.getElem?_eq_none (by rw [List.length_map, leadS_len]; omega)]
  refine ⟨b, _, hx, ?_, rfl, leadS_len, fun x hx => ?_⟩
  · rw [e, List.map_map] at sb
    exact sb
  · obtain ⟨d, hd, rfl⟩ := leadS_mem hx
    exact good_cl hgood s d hs hd
theorem PlT.row {K : PySem.W.Frag} {H : Hp} {M W : Addr} {rs : List V} {p : Nat} {dss : List (List Int)} {ws : List Int} (h : PlT K H M W rs p dss ws) {s : Nat} (hs : s < dss.length) : ∃ (b : Addr) (row : List Nat), rs[s]? = some (.ref b) ∧ SqT K H b (row.map nV) ∧ row = leadS p (stepT dss) s ∧ row.length = p ∧ ∀ x ∈ row, x < dss.length := tup_row h.rows h.good hs
end K72

/-! SetL: set of a list of ints, in the order in which it is walked. -/
namespace L2
open PySem PySem.Spec PyProof.Rows
abbrev seO (w : World) : Obj := { cls := .type "set", dict := none, data := .set #[] 0 (.fresh 0 0 (!w.params.followText "set-order")) }
abbrev liO (l : Addr) : Obj := { cls := .type "list_iterator", data := .fields #[.ref l, .int 0 0] }
section
variable {P : Program} {w : World} {A : Around} {E : Value → Shared → Prop} {s : Shared}
theorem set_of_list {l : Addr} {items : Array Value} (ns : List Int) {Q : Value → Shared → Prop} (calm : A.handled = none) (hl : s.heap.IsList l items) (are : IntsAre items.toList ns) (few : ns.length + 1 < scanBound)
    (q : ∀ (g : Heap) (tk c : Nat), SetR w g s.heap.objs.size (fun j => decide (j ∈ ns)) c → c ≤ ns.length → (∀ b o, s.heap.get? b = some o → g.get? b = some o) → Q (.ref s.heap.objs.size) { s with heap := g, toks := tk }) :
    wpAny (model P w) A (call (.type "set") [.ref l]) Q E s := by
  have size : items.size = ns.length := by rw [← Array.length_toList]; exact IntsAre.length are
  obtain ⟨c, tl, hmro⟩ := F.called_set.mro
  have k1 := F.called_set.made; have k2 := F.called_set.sub; have k3 := F.called_set.notType; have k4 := F.called_set.canCreate; have k5 := F.typeCall_set_1 (.ref l)
  refine wpAny_call (codeAny_of_tree (show wpAny _ _ (callAny (.type "set") _) _ _ _ from wpAny_pure ⟨Code.quiet_builtin _ (by decide +kernel), codeAny_builtin F.entry_type_call ?_⟩))
  rw [Around.under_plain (weight_type_call_type "set" [.ref l] []) rfl]
  repeat (any_goals (first | assumption | wp_step))
  refine codeAny_mono (code_set_led1 (.ref l) (E := E) (Q₁ := fun x s1 => x = .ref s.heap.objs.size ∧ s1 = { s with heap := s.heap.push (seO w) }) ⟨rfl, rfl⟩) fun r s1 hr => ?_
  rcases r with e | fl
  · exact hr
  cases fl with
  | ret x =>
    obtain ⟨rfl, rfl⟩ := hr
    have at0 : (s.heap.push (seO w)).get? s.heap.objs.size = some (seO w) := Heap.get?_push_size _ rfl
    have ty : Shared.TypeIs { s with heap := s.heap.push (seO w) } (.ref s.heap.objs.size) "set" := ⟨_, at0, rfl⟩
    have k6 := F.called_set.init.lookup; have k7 := F.called_set.init.bind (.ref s.heap.objs.size)
    repeat (any_goals (first | assumption | wp_step))
    refine codeAny_mono (codeAny_call_builtin (R := wants (fun r s2 => r = .none ∧ ∃ g tk c, s2 = { s with heap := g, toks := tk } ∧ SetR w g s.heap.objs.size (fun j => decide (j ∈ ns)) c ∧ c ≤ ns.length ∧ ∀ b o, s.heap.get? b = some o → g.get? b = some o) E)
      F.called_set.init.plain F.entry_set_init (check_set_init_1 ty ?_)) fun r2 s2 h2 => ?_
    · obtain ⟨⟨oc, od, odt, osl⟩, hol, hcl, nl, hdl⟩ := hl
      obtain rfl : oc = .type "list" := hcl
      obtain rfl : odt = .seq items nl := hdl
      have at1 : (s.heap.push (seO w)).get? l = some { cls := .type "list", dict := od, data := .seq items nl, slots := osl } := Heap.get?_push_of_some _ hol
      have s1 := F.sub_list_set; have s2 := F.sub_list_frozenset
      have ne0 : (Value.type "list" == Value.type "dict") = false := by decide
      have isl : (s.heap.push (seO w)).IsList l items := ⟨_, at1, rfl, nl, rfl⟩
      unfold Builtin.«set.__init__» noKeywords Builtin.Frozenset.updateFrom
      generalize hPI : pyIter = PI
      wp_walk
      subst hPI
      refine wpAny_pyIter_list isl (wpAny_bind (wpAny_runValue ?_))
      have lt : l < s.heap.objs.size := Heap.lt_size hol
      have c3 : A.in1.in1.in1.handled = none := by simp [calm]
      have sz : (s.heap.push (seO w)).objs.size = s.heap.objs.size + 1 := Heap.size_push ..
      have lne : l ≠ (s.heap.push (seO w)).objs.size := by rw [sz]; exact Nat.ne_of_lt (Nat.lt_succ_of_lt lt)
      have off : s.heap.objs.size ∉ [(s.heap.push (seO w)).objs.size, l] := by
        rw [sz]
        intro z
        rcases List.mem_cons.mp z with z | z
        · exact absurd z (Nat.ne_of_lt (Nat.lt_succ_self _))
        · exact absurd (List.mem_singleton.mp z) (Nat.ne_of_gt lt)
      have val : ∀ (i : Nat) (v : Value), items[i]? = some v → ∃ k t, ns[i]? = some k ∧ v = .int k t := fun i v hv => by
        have hi : i < ns.length := by rw [← size]; exact (Array.getElem?_eq_some_iff.mp hv).1
        obtain ⟨t, e⟩ := IntsAre.int_at are i v (by rw [Array.getElem?_toList]; exact hv)
        exact ⟨ns[i], t, List.getElem?_eq_getElem hi, by rw [e, List.getD_eq_getElem?_getD, List.getElem?_eq_getElem hi] <;> rfl⟩
      refine set_update_ints ((Walks.list c3 _ l lne items).toS) s.heap.objs.size off ns size few val (items.size - 0) 0 _ (by omega) (Nat.zero_le _) ⟨⟨_, Heap.get?_push_size _ rfl, rfl, rfl⟩, (isl.push _)⟩ ?a0 ?a1
      case a0 => exact ⟨0, Nat.le_refl 0, setR_new_at (show ((s.heap.push (seO w)).push (liO l)).get? s.heap.objs.size = some (seO w) from Heap.get?_push_of_some _ at0)⟩
      case a1 =>
        intro s' c' hm hc' hS'
        obtain ⟨g, g2, d', tk', os'⟩ := s'
        obtain rfl : g2 = s.gens := hm.gens
        obtain rfl : d' = s.drawn := hm.drawn
        obtain rfl : os' = s.os := hm.os
        show wpAny _ _ _ _ _ _
        refine wpAny_pure (show wpAny _ _ (ret Value.none) _ _ _ from ?_)
        rw [size] at hc'
        refine wpAny_pure ⟨rfl, g, tk', c', rfl, hS', hc', fun b o e => ?_⟩
        have lb : b < s.heap.objs.size := Heap.lt_size e
        refine hm.heap b o (fun z => ?_) (Heap.get?_push_of_some _ (Heap.get?_push_of_some _ e))
        rcases List.mem_cons.mp z with z | z
        · exact absurd z (Nat.ne_of_lt lb)
        · have z := List.mem_singleton.mp z
          rw [sz] at z
          exact absurd z (Nat.ne_of_lt (Nat.lt_succ_of_lt lb))
    · rcases r2 with e | fl2
      · exact h2
      cases fl2 with
      | ret r =>
        obtain ⟨rfl, g, tk, c', rfl, hS', hc', hk'⟩ := h2
        repeat (any_goals (first | assumption | wp_step))
        exact q _ _ _ hS' hc' hk'
      | _ => exact h2.elim
  | _ => exact hr.elim
end
theorem nodup_sub : ∀ {l m : List Int}, l.Nodup → (∀ x ∈ l, x ∈ m) → l.length ≤ m.length
  | [], _, _, _ => Nat.zero_le _
  | x :: l, m, nd, h => by
    rw [List.nodup_cons] at nd
    have hx := h x (.head _)
    have := nodup_sub (m := m.erase x) nd.2 fun y hy => (List.mem_erase_of_ne fun e => nd.1 (by rw [← e]; exact hy)).mpr (h y (.tail _ hy))
    rw [List.length_erase_of_mem hx] at this
    have : 0 < m.length := List.length_pos_of_mem hx
    rw [List.length_cons]
    omega
theorem setR_le {w : World} {h : Heap} {a : Addr} {ns : List Int} {c : Nat} (R : SetR w h a (fun j => decide (j ∈ ns)) c) {l : List Int} (hl : ∀ x ∈ ns, x ∈ l) : c ≤ l.length := by
  obtain ⟨o, es, ep, t, _, _, _, _, nd, mem, _, _, e, _⟩ := R
  have := nodup_sub nd fun x hx => hl x (of_decide_eq_true ((mem x).mpr hx))
  rw [List.length_map, Array.length_toList] at this
  omega
/-- set(xs), xs a list of ints -/
def rSetLi (K : PySem.W.Frag) (w : World) : List V → Hp → VK → Prop := fun vs H Q => ∃ (a : Addr) (ns : List Int), vs = [V.ref a] ∧ SqL K H a (ns.map V.int) ∧ ns.length ≤ 1000 ∧
  ∀ (p : Addr) (n : Nat), H p = none → (∀ l : List Int, (∀ x ∈ ns, x ∈ l) → n ≤ l.length) → Q (.ref p) (upd H p (SetO w p (fun j => decide (j ∈ ns)) n))
theorem cr_setL {X : Cx} (hc : X.calm = true) : CallR X (.type "set") (rSetLi X.K X.w) := by
  intro pins s σ H vs us Q I r h
  obtain ⟨a, ns, rfl, hs, few, q⟩ := h
  rw [Vals.ref1 r]
  obtain ⟨its, rv, hl, hz⟩ := I.list hs
  refine set_of_list ns (I.ok.hd hc) hl.isList (by simpa using rv.ints) (by unfold scanBound; omega) fun g tk c R le k => ?_
  exact ⟨.ref s.heap.objs.size, _, I.laid (t' := tk) (o := SetO X.w s.heap.objs.size (fun j => decide (j ∈ ns)) c) k (Nat.le_refl _) (setO_new R), rfl, q _ _ (I.hok.fresh (Nat.le_refl _)) fun l hl => setR_le R hl⟩
end L2

/-! Ln: the least numbers that lead to states, level by level; the least number with a value. -/
namespace B5
section
variable {p : Nat} {step : Nat → Nat → Nat} {val : Nat → Int}
def numW (p : Nat) : List Nat → Nat
  | [] => 0
  | d :: w => d + p * numW p w
def Dg (p : Nat) (w : List Nat) : Prop := ∀ d ∈ w, d < p
theorem runW_app {s d : Nat} {w : List Nat} : runW step s (w ++ [d]) = step (runW step s w) d := by
  unfold runW
  rw [List.foldl_append]
  rfl
theorem numW_snoc {d : Nat} : ∀ w : List Nat, numW p (w ++ [d]) = numW p w + d * p ^ w.length
  | [] => by show d + p * 0 = 0 + d * p ^ 0; simp
  | x :: w => by
    show x + p * numW p (w ++ [d]) = x + p * numW p w + d * p ^ (w.length + 1)
    rw [numW_snoc w, Nat.mul_add, Nat.pow_succ, Nat.add_assoc]
    congr 1
    congr 1
    rw [Nat.mul_comm p, Nat.mul_assoc]
theorem numW_lt (p0 : 0 < p) : ∀ w : List Nat, Dg p w → numW p w < p ^ w.length
  | [], _ => by show 0 < p ^ 0; simp
  | x :: w, h => by
    have ih := numW_lt p0 w fun d hd => h d (.tail _ hd)
    have hx := h x (.head _)
    show x + p * numW p w < p ^ (w.length + 1)
    rw [Nat.pow_succ, Nat.mul_comm]
    have : p * (numW p w + 1) ≤ p * p ^ w.length := Nat.mul_le_mul_left p ih
    rw [Nat.mul_add] at this
    rw [Nat.mul_comm (numW p w) p, Nat.mul_comm (p ^ w.length) p]
    omega
theorem Dg.snoc {w : List Nat} {d : Nat} : Dg p (w ++ [d]) ↔ Dg p w ∧ d < p := by
  unfold Dg
  constructor
  · intro h
    exact ⟨fun x hx => h x (List.mem_append.mpr (.inl hx)), h d (List.mem_append.mpr (.inr (by simp)))⟩
  · rintro ⟨h, hd⟩ x hx
    rcases List.mem_append.mp hx with hx | hx
    · exact h x hx
    · have : x = d := by simpa using hx
      omega
theorem snoc_of : ∀ (w : List Nat), w ≠ [] → ∃ w' d, w = w' ++ [d] := fun w h => ⟨w.dropLast, w.getLast h, (List.dropLast_concat_getLast h).symm⟩
/-- a word of so many digits leads to s, and tells m -/
def Wd (p : Nat) (step : Nat → Nat → Nat) (L s m : Nat) : Prop := ∃ w : List Nat, w.length = L ∧ Dg p w ∧ runW step 0 w = s ∧ numW p w = m
/-- the shortest words, and the least number among them -/
structure LN (p : Nat) (step : Nat → Nat → Nat) (L s m : Nat) : Prop where
  wd : Wd p step L s m
  short : ∀ L' m', Wd p step L' s m' → L ≤ L'
  least : ∀ m', Wd p step L s m' → m ≤ m'
theorem LN.one {L s m L' m' : Nat} (h : LN p step L s m) (h' : LN p step L' s m') : L = L' ∧ m = m' := by
  have a := h.short _ _ h'.wd
  have b := h'.short _ _ h.wd
  obtain rfl : L = L' := Nat.le_antisymm a b
  exact ⟨rfl, Nat.le_antisymm (h.least _ h'.wd) (h'.least _ h.wd)⟩
theorem least_ex (P : Nat → Prop) : ∀ n, P n → ∃ m, P m ∧ ∀ k, P k → m ≤ k := by
  intro n
  induction n using Nat.strongRecOn with
  | _ n ih =>
    intro h
    by_cases z : ∃ k, k < n ∧ P k
    · obtain ⟨k, lt, hk⟩ := z
      exact ih k lt hk
    · exact ⟨n, h, fun k hk => Nat.le_of_not_lt fun lt => z ⟨k, lt, hk⟩⟩
theorem ln_ex {L s m : Nat} (h : Wd p step L s m) : ∃ L' m', L' ≤ L ∧ LN p step L' s m' := by
  obtain ⟨L', ⟨m1, h1⟩, hL⟩ := least_ex (fun L => ∃ m, Wd p step L s m) L ⟨m, h⟩
  obtain ⟨m', h2, hm⟩ := least_ex (fun m => Wd p step L' s m) m1 h1
  exact ⟨L', m', hL L ⟨m, h⟩, ⟨h2, fun L2 m2 x => hL L2 ⟨m2, x⟩, hm⟩⟩
theorem Wd.next {L s m d : Nat} (h : Wd p step L s m) (hd : d < p) : Wd p step (L + 1) (step s d) (m + d * p ^ L) := by
  obtain ⟨w, rfl, h2, rfl, rfl⟩ := h
  exact ⟨w ++ [d], by rw [List.length_append]; rfl, Dg.snoc.mpr ⟨h2, hd⟩, runW_app, numW_snoc w⟩
theorem Wd.back {L t v : Nat} (h : Wd p step (L + 1) t v) : ∃ s m d, Wd p step L s m ∧ d < p ∧ step s d = t ∧ v = m + d * p ^ L := by
  obtain ⟨w, h1, h2, h3, h4⟩ := h
  obtain ⟨w', d, rfl⟩ := snoc_of w fun e => by rw [e] at h1; cases h1
  rw [List.length_append] at h1
  have h1 : w'.length + 1 = L + 1 := h1
  have h1 : w'.length = L := by omega
  obtain ⟨g1, g2⟩ := Dg.snoc.mp h2
  rw [runW_app] at h3
  rw [numW_snoc, h1] at h4
  exact ⟨_, _, d, ⟨w', h1, g1, rfl, rfl⟩, g2, h3, h4.symm⟩
/-- what a level leads to -/
def Ev (p : Nat) (step : Nat → Nat → Nat) (k t v : Nat) : Prop := (¬ ∃ L m, L ≤ k ∧ LN p step L t m) ∧ ∃ s m d, LN p step k s m ∧ d < p ∧ step s d = t ∧ v = m + d * p ^ k
def MinE (E : Nat → Prop) (m : Nat) : Prop := E m ∧ ∀ m', E m' → m ≤ m'
theorem MinE.one {E : Nat → Prop} {m m' : Nat} (h : MinE E m) (h' : MinE E m') : m = m' := Nat.le_antisymm (h.2 _ h'.1) (h'.2 _ h.1)
/-- the word's last step comes from a state of the level ahead -/
theorem from_level {k t v : Nat} (n : ¬ ∃ L m, L ≤ k ∧ LN p step L t m) (h : Wd p step (k + 1) t v) : ∃ v', v' ≤ v ∧ Ev p step k t v' := by
  obtain ⟨s, m, d, h1, hd, h2, h3⟩ := h.back
  obtain ⟨L', m', hL, h4⟩ := ln_ex h1
  have : L' = k := by
    by_cases z : L' = k
    · exact z
    · have w := h4.wd.next hd
      rw [h2] at w
      obtain ⟨L2, m2, l2, h5⟩ := ln_ex w
      exact absurd ⟨L2, m2, by omega, h5⟩ n
  subst this
  refine ⟨m' + d * p ^ L', ?_, n, s, m', d, h4, hd, h2, rfl⟩
  have := h4.least _ h1
  omega
theorem level_next {k t v : Nat} : MinE (Ev p step k t) v ↔ LN p step (k + 1) t v := by
  constructor
  · rintro ⟨⟨n, s, m, d, h1, hd, h2, h3⟩, least⟩
    have w := h1.wd.next hd
    rw [h2, ← h3] at w
    refine ⟨w, fun L' m' h => ?_, fun m' h => ?_⟩
    · obtain ⟨L2, m2, l2, h5⟩ := ln_ex h
      by_cases z : L2 ≤ k
      · exact absurd ⟨L2, m2, z, h5⟩ n
      · omega
    · obtain ⟨v', l, e⟩ := from_level n h
      have := least _ e
      omega
  · intro h
    have n : ¬ ∃ L m, L ≤ k ∧ LN p step L t m := fun ⟨L, m, l, e⟩ => by
      have := (h.one e).1
      omega
    have up : ∀ v', Ev p step k t v' → v ≤ v' := fun v' ⟨_, s, m, d, h1, hd, h2, h3⟩ => by
      have w := h1.wd.next hd
      rw [h2, ← h3] at w
      exact h.least _ w
    obtain ⟨v', l, e⟩ := from_level n h.wd
    have := up _ e
    obtain rfl : v' = v := by omega
    exact ⟨e, up⟩
theorem ln_zero (h : LN p step 0 s m) : s = 0 ∧ m = 0 := by
  obtain ⟨w, h1, _, h2, h3⟩ := h.wd
  have : w = [] := List.length_eq_zero_iff.mp h1
  subst this
  exact ⟨h2.symm, h3.symm⟩
theorem ln_start : LN p step 0 0 0 := ⟨⟨[], rfl, fun _ h => (nomatch h), rfl, rfl⟩, fun _ _ _ => Nat.zero_le _, fun _ _ => Nat.zero_le _⟩
/-- behind an empty level there is none -/
theorem ln_end {k : Nat} (h : ∀ s m, ¬ LN p step k s m) : ∀ L s m, LN p step L s m → L < k := by
  have up : ∀ j, ∀ s m, ¬ LN p step (k + j) s m := by
    intro j
    induction j with
    | zero => exact h
    | succ j ih =>
      intro s m e
      obtain ⟨⟨_, s', m', d, e', _⟩, _⟩ := level_next.mpr e
      exact ih s' m' e'
  intro L s m e
  by_cases z : L < k
  · exact z
  · have := up (L - k) s m
    rw [show k + (L - k) = L by omega] at this
    exact absurd e this
/-! ### values -/
def Tell (p : Nat) (step : Nat → Nat → Nat) (val : Nat → Int) (v : Int) (m : Nat) : Prop := ∃ w : List Nat, Dg p w ∧ val (runW step 0 w) = v ∧ numW p w = m
/-- without zeros at the top -/
theorem strip (st : ∀ s, (∃ w, Dg p w ∧ runW step 0 w = s) → val s = val (step s 0)) : ∀ (k : Nat) (w : List Nat), w.length = k → Dg p w → ∃ w', Dg p w' ∧ numW p w' = numW p w ∧ val (runW step 0 w') = val (runW step 0 w) ∧ w'.length ≤ w.length ∧ (w' = [] ∨ ∃ u d, w' = u ++ [d] ∧ d ≠ 0)
  | 0, w, h, g => ⟨w, g, rfl, rfl, Nat.le_refl _, .inl (List.length_eq_zero_iff.mp h)⟩
  | k + 1, w, h, g => by
    obtain ⟨u, d, rfl⟩ := snoc_of w fun e => by rw [e] at h; cases h
    obtain ⟨g1, g2⟩ := Dg.snoc.mp g
    by_cases z : d = 0
    · subst z
      rw [List.length_append] at h
      obtain ⟨w', a, b, c, l, e⟩ := strip st k u (by have h : u.length + 1 = k + 1 := h; omega) g1
      refine ⟨w', a, by rw [b, numW_snoc, Nat.zero_mul, Nat.add_zero], by rw [c, runW_app]; exact st _ ⟨u, g1, rfl⟩, by rw [List.length_append]; show _ ≤ u.length + 1; omega, e⟩
    · exact ⟨_, g, rfl, rfl, Nat.le_refl _, .inr ⟨u, d, rfl, z⟩⟩
theorem top_ge {u : List Nat} {d : Nat} (h : d ≠ 0) : p ^ u.length ≤ numW p (u ++ [d]) := by
  rw [numW_snoc]
  have : 1 * p ^ u.length ≤ d * p ^ u.length := Nat.mul_le_mul_right _ (by omega)
  omega
/-- the least number with a value is the least of the states' numbers -/
theorem comes_least (p0 : 0 < p) (st : ∀ s, (∃ w, Dg p w ∧ runW step 0 w = s) → val s = val (step s 0)) {v : Int} {m : Nat} : MinE (fun m => ∃ s, val s = v ∧ ∃ L, LN p step L s m) m ↔ MinE (Tell p step val v) m := by
  have one : ∀ m, (∃ s, val s = v ∧ ∃ L, LN p step L s m) → Tell p step val v m := fun m ⟨s, e, L, h⟩ => by
    obtain ⟨w, _, h2, h3, h4⟩ := h.wd
    exact ⟨w, h2, by rw [h3, e], h4⟩
  have two : ∀ m, Tell p step val v m → ∃ m', m' ≤ m ∧ ∃ s, val s = v ∧ ∃ L, LN p step L s m' := fun m ⟨w, h1, h2, h3⟩ => by
    obtain ⟨w', a, b, c, _, e⟩ := strip st w.length w rfl h1
    obtain ⟨L, m', hL, h⟩ := ln_ex (p := p) (step := step) (L := w'.length) (s := runW step 0 w') (m := numW p w') ⟨w', rfl, a, rfl, rfl⟩
    refine ⟨m', ?_, _, by rw [c, h2], L, h⟩
    rw [← h3, ← b]
    by_cases z : L = w'.length
    · subst z
      exact h.least _ ⟨w', rfl, a, rfl, rfl⟩
    · obtain ⟨u, g1, g2, _, g4⟩ := h.wd
      have lt := numW_lt p0 u g2
      rw [g1, g4] at lt
      rcases e with rfl | ⟨u2, d, rfl, nz⟩
      · exact absurd (show L ≤ 0 from hL) (by intro q; exact z (by show L = 0; omega))
      · have ge := top_ge (p := p) (u := u2) nz
        rw [List.length_append] at hL z
        have hL : L ≤ u2.length + 1 := hL
        have z : L ≠ u2.length + 1 := z
        have : p ^ L ≤ p ^ u2.length := Nat.pow_le_pow_right p0 (by omega)
        omega
  constructor
  · rintro ⟨h, least⟩
    refine ⟨one m h, fun m' h' => ?_⟩
    obtain ⟨m2, l, e⟩ := two m' h'
    have := least _ e
    omega
  · rintro ⟨h, least⟩
    obtain ⟨m2, l, e⟩ := two m h
    have := least _ (one _ e)
    obtain rfl : m2 = m := by omega
    exact ⟨e, fun m' h' => least _ (one _ h')⟩
end
end B5

namespace K72
open PySem L2 Gd B5
abbrev sNb : Stmt := top 30
theorem scNb : FnScope ["_law_word", "_law_p", "_law_total", "_law_digit"] ["_law_word", "_law_p"] (defScope sNb) := ⟨rfl, rfl, rfl, by decide +kernel, rfl, by decide +kernel, by decide +kernel⟩
abbrev sLay : Stmt := top 32
abbrev NLay : List Str := ["_law_moves", "_law_many", "_law_found", "_law_lap", "_law_row", "_law_state"]
theorem scLay : FnScope NLay ["_law_moves", "_law_many"] (defScope sLay) := ⟨rfl, rfl, rfl, by decide +kernel, rfl, by decide +kernel, by decide +kernel⟩
def spNb (K : PySem.W.Frag) : Sp := fun vs H Q _ => ∃ (a : Addr) (w : List Nat) (p : Nat), vs = [.ref a, .int p] ∧ SqL K H a (w.map nV) ∧ p ≤ 7 ∧ w.length ≤ 1000 ∧ ∀ H', More H H' → Q (.int (numW p w : Nat)) H'
def LisN (H : Hp) (b : Addr) (l : List Nat) : Prop := H b = some (.lst (l.map nV))
/-- the states behind so many digits, ascending -/
structure LayN (p : Nat) (step : Nat → Nat → Nat) (i : Nat) (l : List Nat) : Prop where
  asc : l.Pairwise (· < ·)
  mem : ∀ s, s ∈ l ↔ ∃ w : List Nat, w.length = i ∧ Dg p w ∧ runW step 0 w = s
def spLay (K : PySem.W.Frag) : Sp := fun vs H Q _ => ∃ (M : Addr) (rs : List V) (m p : Nat) (dss : List (List Int)) (ws : List Int), vs = [.ref M, .int m] ∧ H M = some (.tup rs) ∧ Paired (TupI K H) rs dss ∧ MGood p dss ws ∧ dss.length ≤ 60 ∧ m ≤ 130 ∧
  ∀ (H' : Hp) (L : Addr) (as : List Addr) (ls : List (List Nat)), More H H' → H' L = some (.lst (as.map V.ref)) → Paired (LisN H') as ls → ls.length = m + 1 → (∀ i l, ls[i]? = some l → LayN p (stepT dss) i l) → Q (.ref L) H'
section
variable {P : Program} {w : World} {K : PySem.W.Frag} {mg : Str → Option Value} {base : Heap} {f : Addr} {fd : FuncData}
theorem ok_nb (F : Fun K "_law_number" "_law_number" sNb f fd) : FnOk P w K mg base CX0 1 f fd ["_law_word", "_law_p"] (spNb K) := by
  refine F.ok scNb (fun vs H Q E h => ?_) (fun cdv A outer s H vs Q E hr h => ?_)
  · obtain ⟨a, w, p, rfl, _⟩ := h
    rfl
  · obtain ⟨a, w, p, rfl, sq, p7, few, q⟩ := h
    refine ⟨_, pss_cons (ps_set (i := 2) scNb.nd rfl (Or.inl rfl) pe_int)
      (pss_cons (ps_for PassesOwn.never rfl (pi_list (pe_revL (pv 0))) (pg_name (i := 3) scNb.nd rfl (Or.inl rfl))
        (pss_one (ps_set (i := 2) scNb.nd rfl (Or.inl rfl) (pe_op op_add (pe_op op_mul (pv 2) (pv 1)) (pv 3)))))
      (pss_one (ps_ret (pv 2)))), ?_⟩
    refine ⟨_, rfl, a, _, rfl, sq, fun r hr' => ?_⟩
    have m := new_more (o := .lst (w.map nV).reverse) hr'
    have kr : (upd H r (.lst (w.map nV).reverse)) r = some (.lst (w.map nV).reverse) := upd_same
    generalize upd H r (.lst (w.map nV).reverse) = H1 at m kr ⊢
    refine ⟨r, rfl, ⟨_, SqL.of kr⟩, for_list (K := K) (a := r) (xs := (w.map nV).reverse) (fun i σ' H' => ∃ z3, σ' = [some (.ref a), some (.int p), some (.int (numW p (w.drop (w.length - i)) : Nat)), z3] ∧ H' = H1) ⟨none, ?_, rfl⟩ (fun i σ' H' _ ⟨_, _, e⟩ => by rw [e]; exact SqL.of kr) ?_ ?_⟩
    · rw [Nat.sub_zero, List.drop_length]
      rfl
    · rintro i y σ' G hy ⟨z3, rfl, rfl⟩
      have li : i < w.length := by
        have := (List.getElem?_eq_some_iff.mp hy).1
        rw [List.length_reverse, List.length_map] at this
        exact this
      rw [List.getElem?_reverse (by rw [List.length_map]; exact li), List.length_map] at hy
      obtain ⟨d, hd, rfl⟩ := map_at hy
      refine ⟨_, rfl, _, rfl, _, _, rfl, rfl, .inr ⟨by omega, by omega⟩, _, rfl, _, _, rfl, rfl, ?_⟩
      have e : w.drop (w.length - (i + 1)) = d :: w.drop (w.length - i) := by
        have := List.drop_eq_getElem_cons (l := w) (i := w.length - 1 - i) (by omega)
        rw [show w.length - (i + 1) = w.length - 1 - i by omega, this]
        rw [show w.length - 1 - i + 1 = w.length - i by omega]
        rw [(List.getElem?_eq_some_iff.mp hd).2]
      refine ⟨some (nV d), ?_, rfl⟩
      rw [e]
      show _ = [some (V.ref a), some (.int p), some (.int ((d + p * numW p (w.drop (w.length - i)) : Nat) : Int)), some (nV d)]
      have e2 : ((numW p (w.drop (w.length - i)) : Nat) : Int) * ((p : Nat) : Int) + ((d : Nat) : Int) = ((d + p * numW p (w.drop (w.length - i)) : Nat) : Int) := by
        rw [Int.natCast_add, Int.natCast_mul, Int.add_comm, Int.mul_comm]
      rw [← e2]
      rfl
    · rintro σ' G ⟨z3, rfl, rfl⟩
      rw [List.length_reverse, List.length_map, Nat.sub_self, List.drop_zero]
      exact ⟨_, rfl, q _ m⟩
theorem ok_lay (F : Fun K "_law_layers" "_law_layers" sLay f fd) (B : Blt mg) (zSorted : mg "sorted" = none) (zSet : mg "set" = none) : FnOk P w K mg base CX0 1 f fd ["_law_moves", "_law_many"] (spLay K) := by
  refine F.ok scLay (fun vs H Q E h => ?_) (fun cdv A outer s H vs Q E hr h => ?_)
  · obtain ⟨M, rs, m, p, dss, ws, rfl, _⟩ := h
    rfl
  · obtain ⟨M, rs, m, p, dss, ws, rfl, hM, rows, g, few, m60, q⟩ := h
    refine ⟨_, pss_cons (ps_set (i := 2) scLay.nd rfl (Or.inl rfl) (pe_lst (pa_cons (pe_lst (pa_cons pe_int pa_nil)) pa_nil)))
      (pss_cons (ps_for PassesOwn.never rfl (pi_range1 (by rfl) B.range_ (pa_cons (pv 1) pa_nil)) (pg_name (i := 3) scLay.nd rfl (Or.inl rfl))
        (pss_cons (ps_set (i := 4) scLay.nd rfl (Or.inl rfl) (pe_lst pa_nil))
        (pss_cons (ps_for PassesOwn.never rfl (pi_list (pe_ix ix_list (pv 2) (pe_un un_neg pe_int) (fun _ _ => rfl))) (pg_name (i := 5) scLay.nd rfl (Or.inl rfl))
          (pss_one (ps_set (i := 4) scLay.nd rfl (Or.inl rfl) (pe_op op_cat (pv 4) (pe_callTy call_list_of (by rfl) B.list_ (by decide +kernel) (pa_cons (pe_ix ix_tup (pv 0) (pv 5) (fun _ _ => rfl)) pa_nil))))))
        (pss_one (ps_expr (pe_bm PySem.F.plainAttrs_list PySem.F.slot_list_append PySem.F.type_list_append mt_append (pv 2) (pa_cons (pe_callB (cr_sortedSet rfl) (by rfl) zSorted (by decide +kernel) (pa_cons (pe_callTy (cr_setL rfl) (by rfl) zSet (by decide +kernel) (pa_cons (pv 4) pa_nil)) pa_nil)) pa_nil)))))))
      (pss_one (ps_ret (pv 2)))), ?_⟩
    obtain ⟨n, hn⟩ : ∃ n, n = dss.length := ⟨_, rfl⟩
    have n0 : 0 < n := hn ▸ List.length_pos_iff.mpr g.ne
    obtain ⟨p2, p7⟩ := isPr_small g.pr
    have cl : ∀ s d, s < n → d < p → stepT dss s d < n := by rw [hn]; exact good_cl g
    refine ⟨by show 1 ≤ sizeLine; decide, fun l0 hl0 => ⟨by show 1 ≤ sizeLine; decide, fun L hL => ?_⟩⟩
    have m1 := new_more (o := .lst [V.int 0]) hl0
    have m2 := new_more (o := .lst [V.ref l0]) hL
    have k0 : (upd (upd H l0 (.lst [V.int 0])) L (.lst [V.ref l0])) l0 = some (.lst (([0] : List Nat).map nV)) := m2 _ _ upd_same
    have kL : (upd (upd H l0 (.lst [V.int 0])) L (.lst [V.ref l0])) L = some (.lst ([l0].map V.ref)) := upd_same
    have m02 : More H (upd (upd H l0 (.lst [V.int 0])) L (.lst [V.ref l0])) := fun b o e => m2 _ _ (m1 _ _ e)
    have hL0 : H L = none := m1.off hL
    have l0L : l0 ≠ L := ne_of_none (upd_same (a := l0) (o := .lst [V.int 0]) (H := H)) hL
    have h00 : H l0 = none := hl0
    generalize upd (upd H l0 (.lst [V.int 0])) L (.lst [V.ref l0]) = H2 at k0 kL m02 ⊢
    clear m1 m2 hl0 hL
    have start : LayN p (stepT dss) 0 [0] := ⟨by simp, fun s => by
      constructor
      · intro h
        have : s = 0 := by simpa using h
        subst this
        exact ⟨[], rfl, fun _ h => (nomatch h), rfl⟩
      · rintro ⟨w, h1, _, h2⟩
        have : w = [] := List.length_eq_zero_iff.mp h1
        subst this
        rw [← h2]
        exact List.mem_singleton.mpr rfl⟩
    have lb : ∀ i l, LayN p (stepT dss) i l → ∀ s ∈ l, s < n := fun i l h s hs => by
      obtain ⟨w, _, hw, e⟩ := (h.mem s).mp hs
      have key : ∀ (w : List Nat) (s : Nat), s < n → Dg p w → runW (stepT dss) s w < n := by
        intro w
        induction w with
        | nil => intro s hs _; exact hs
        | cons d w ih => intro s hs g; exact ih _ (cl s d hs (g d (.head _))) fun x hx => g x (.tail _ hx)
      rw [← e]
      exact key w 0 n0 hw
    have ll : ∀ i l, LayN p (stepT dss) i l → l.length ≤ n := fun i l h => nodup_below n l (List.Pairwise.imp (fun {a b} h e => by omega) h.asc) (lb i l h)
    refine ⟨_, rfl, _, rfl, by omega, by omega, for_range (lo := 0) (n := m) (fun i σ' H' => ∃ (z3 z4 z5 : Option V) (as : List Addr) (ls : List (List Nat)), σ' = [some (.ref M), some (.int m), some (.ref L), z3, z4, z5] ∧ H' L = some (.lst (as.map V.ref)) ∧ Paired (fun (b : Addr) (l : List Nat) => LisN H' b l ∧ b ≠ L) as ls ∧ ls.length = i + 1 ∧ (∀ j l, ls[j]? = some l → LayN p (stepT dss) j l) ∧ More H H')
      ⟨none, none, none, [l0], [[0]], rfl, kL, .cons ⟨k0, l0L⟩ .nil, rfl, fun j l h => ?_, m02⟩ ?_ ?_⟩
    · cases j with
      | zero => cases h; exact start
      | succ j => cases h
    · rintro i σ' G hi ⟨z3, z4, z5, as, ls, rfl, kL, pas, lls, lay, mG⟩
      have las : as.length = i + 1 := by rw [Paired.length pas, lls]
      refine ⟨by show 0 ≤ sizeLine; exact Nat.zero_le _, fun r0 hr0 => ?_⟩
      have mr := new_more (o := .lst []) hr0
      have kr : (upd G r0 (.lst [])) r0 = some (.lst (([] : List Nat).map nV)) := upd_same
      have kL1 := mr _ _ kL
      have pas1 := paired_imp (S := fun (b : Addr) (l : List Nat) => LisN (upd G r0 (.lst [])) b l ∧ b ≠ L) (fun b l (e : LisN G b l ∧ b ≠ L) => ⟨mr _ _ e.1, e.2⟩) pas
      have mG1 : More H (upd G r0 (.lst [])) := fun b o e => mr _ _ (mG _ _ e)
      generalize upd G r0 (.lst []) = G1 at kr kL1 pas1 mG1 ⊢
      clear mr hr0 kL pas mG
      obtain ⟨bl, hbl⟩ : ∃ bl, as[i]? = some bl := ⟨as[i]'(by omega), List.getElem?_eq_getElem (by omega)⟩
      obtain ⟨l, el, kb, bL⟩ := paired_at pas1 hbl
      have kb : G1 bl = some (.lst (l.map nV)) := kb
      have lay1 := lay i l el
      have at1 : atI (as.map V.ref) (-1) = some (V.ref bl) := by
        unfold atI ixN
        rw [if_neg (by omega), if_pos (by rw [List.length_map]; omega), List.length_map, las]
        show (as.map V.ref)[(-1 + ((i + 1 : Nat) : Int)).toNat]? = _
        rw [show (-1 + ((i + 1 : Nat) : Int)).toNat = i by omega]
        exact at_map hbl
      refine ⟨_, rfl, 1, rfl, L, _, -1, _, rfl, rfl, SqL.of kL1, at1, bl, rfl, ⟨_, SqL.of kb⟩, for_list (K := K) (a := bl) (xs := l.map nV) (fun j σ' H' => ∃ (z5 : Option V) (r : Addr), σ' = [some (.ref M), some (.int m), some (.ref L), some (.int i), some (.ref r), z5] ∧ H' r = some (.lst (((l.take j).flatMap (leadS p (stepT dss))).map nV)) ∧ More G1 H')
        ⟨z5, r0, by rw [Int.zero_add]; rfl, kr, fun _ _ e => e⟩ (fun j σ' H' _ ⟨_, _, _, _, m⟩ => SqL.of (m _ _ kb)) ?_ ?_⟩
      · rintro j y σ' G2 hy ⟨z5, r, rfl, kr, m⟩
        obtain ⟨s, hs, rfl⟩ := map_at hy
        have sn := lb i l lay1 s (List.mem_of_getElem? hs)
        have rows2 := paired_imp (fun v k (r : TupI K H v k) => r.more fun b o e => m _ _ (mG1 _ _ e)) rows
        obtain ⟨b, row, hb, sb, erow, lrow, brow⟩ := tup_row rows2 g (s := s) (by omega)
        refine ⟨_, rfl, _, rfl, _, rfl, M, rs, ((s : Nat) : Int), _, rfl, rfl, SqT.of (m _ _ (mG1 _ _ hM)), atI_nat hb, b, _, rfl, .inr sb, fun q0 hq0 => ?_⟩
        have mq := new_more (o := .lst (row.map nV)) hq0
        have kq : (upd G2 q0 (.lst (row.map nV))) q0 = some (.lst (row.map nV)) := upd_same
        have kr2 := mq _ _ kr
        have lt : (l.take j).length ≤ n := by rw [List.length_take]; have := ll i l lay1; omega
        have lf : ((l.take j).flatMap (leadS p (stepT dss))).length ≤ n * p := by
          have : ∀ t : List Nat, (t.flatMap (leadS p (stepT dss))).length = t.length * p := by
            intro t
            induction t with
            | nil => simp
            | cons x t ih => rw [List.flatMap_cons, List.length_append, ih, leadS_len, List.length_cons, Nat.add_mul, Nat.one_mul, Nat.add_comm]
          rw [this]
          exact Nat.mul_le_mul_right p lt
        have lf2 : n * p ≤ 60 * 7 := Nat.mul_le_mul (by omega) (by omega)
        refine ⟨r, q0, _, _, rfl, rfl, kr2, kq, by rw [List.length_map, List.length_map]; exact Nat.le_of_lt (small1000 (by omega)), fun r2 hr2 => ?_⟩
        have mr2 := new_more (o := .lst (((l.take j).flatMap (leadS p (stepT dss))).map nV ++ row.map nV)) hr2
        refine ⟨_, r2, rfl, ?_, fun b o e => mr2 _ _ (mq _ _ (m _ _ e))⟩
        rw [upd_same, take_snoc hs, List.flatMap_append, List.flatMap_cons, List.flatMap_nil, List.append_nil, List.map_append, erow]
      · rintro σ' G2 ⟨z5, r, rfl, kr, m⟩
        rw [List.length_map, List.take_length] at kr
        have kL2 := m _ _ kL1
        have fm : ∀ x, x ∈ l.flatMap (leadS p (stepT dss)) ↔ ∃ w : List Nat, w.length = i + 1 ∧ Dg p w ∧ runW (stepT dss) 0 w = x := fun x => by
          rw [List.mem_flatMap]
          constructor
          · rintro ⟨s, hs, hx⟩
            obtain ⟨d, hd, rfl⟩ := leadS_mem hx
            obtain ⟨w, e1, e2, rfl⟩ := (lay1.mem s).mp hs
            exact ⟨w ++ [d], by rw [List.length_append, e1]; rfl, Dg.snoc.mpr ⟨e2, hd⟩, runW_app⟩
          · rintro ⟨w, e1, e2, rfl⟩
            obtain ⟨u, d, rfl⟩ := snoc_of w fun e => by rw [e] at e1; cases e1
            obtain ⟨g1, g2⟩ := Dg.snoc.mp e2
            rw [List.length_append] at e1
            refine ⟨runW (stepT dss) 0 u, (lay1.mem _).mpr ⟨u, by have e1 : u.length + 1 = i + 1 := e1; omega, g1, rfl⟩, ?_⟩
            rw [runW_app]
            exact List.mem_map.mpr ⟨d, List.mem_range.mpr g2, rfl⟩
        have lf : (l.flatMap (leadS p (stepT dss))).length ≤ 1000 := by
          have : ∀ t : List Nat, (t.flatMap (leadS p (stepT dss))).length = t.length * p := by
            intro t
            induction t with
            | nil => simp
            | cons x t ih => rw [List.flatMap_cons, List.length_append, ih, leadS_len, List.length_cons, Nat.add_mul, Nat.one_mul, Nat.add_comm]
          rw [this]
          have : l.length * p ≤ 60 * 7 := Nat.mul_le_mul (by have := ll i l lay1; omega) (by omega)
          omega
        obtain ⟨fl, hfl⟩ : ∃ fl, fl = l.flatMap (leadS p (stepT dss)) := ⟨_, rfl⟩
        rw [← hfl] at kr fm lf
        have kr' : G2 r = some (.lst ((fl.map fun x => ((x : Nat) : Int)).map V.int)) := by rw [kr, List.map_map]; rfl
        have flb : ∀ x ∈ fl, x < n := fun x hx => by
          obtain ⟨w, e1, e2, e3⟩ := (fm x).mp hx
          rw [← e3]
          have key : ∀ (w : List Nat) (s : Nat), s < n → Dg p w → runW (stepT dss) s w < n := by
            intro w
            induction w with
            | nil => intro s hs _; exact hs
            | cons d w ih => intro s hs g; exact ih _ (cl s d hs (g d (.head _))) fun x hx => g x (.tail _ hx)
          exact key w 0 n0 e2
        refine ⟨_, rfl, .inl ⟨rfl, _, SqL.of kL2⟩, _, rfl, r, _, rfl, SqL.of kr', by rw [List.length_map]; exact lf, fun ps cnt' hps le => ?_⟩
        have c30 : cnt' ≤ 60 := by
          have := le ((List.range n).map fun x => ((x : Nat) : Int)) fun x hx => by
            obtain ⟨y, hy, rfl⟩ := List.mem_map.mp hx
            exact List.mem_map.mpr ⟨y, List.mem_range.mpr (flb y hy), rfl⟩
          rw [List.length_map, List.length_range] at this
          omega
        refine ⟨ps, _, cnt', rfl, upd_same, by omega, fun ns bs asc mem len hbs => ?_⟩
        have mps := new_more (o := SetO (cxOf CX0 P w K mg base NLay "_law_layers" (defScope sLay) f cdv A outer s H E).nox.w ps (fun j => decide (j ∈ fl.map fun x => ((x : Nat) : Int))) cnt') hps
        have mbs := new_more (o := .lst (ns.map V.int)) hbs
        have kL3 := mbs _ _ (mps _ _ kL2)
        have kb3 : (upd (upd G2 ps (SetO (cxOf CX0 P w K mg base NLay "_law_layers" (defScope sLay) f cdv A outer s H E).nox.w ps (fun j => decide (j ∈ fl.map fun x => ((x : Nat) : Int))) cnt')) bs (.lst (ns.map V.int))) bs = some (.lst (ns.map V.int)) := upd_same
        have m3 : More G1 (upd (upd G2 ps (SetO (cxOf CX0 P w K mg base NLay "_law_layers" (defScope sLay) f cdv A outer s H E).nox.w ps (fun j => decide (j ∈ fl.map fun x => ((x : Nat) : Int))) cnt')) bs (.lst (ns.map V.int))) := fun b o e => mbs _ _ (mps _ _ (m _ _ e))
        generalize upd (upd G2 ps (SetO (cxOf CX0 P w K mg base NLay "_law_layers" (defScope sLay) f cdv A outer s H E).nox.w ps (fun j => decide (j ∈ fl.map fun x => ((x : Nat) : Int))) cnt')) bs (.lst (ns.map V.int)) = G3 at kL3 kb3 m3 ⊢
        have bsL : bs ≠ L := fun e => by
          rw [e] at hbs
          have := mps _ _ kL2
          rw [hbs] at this
          cases this
        have pos : ∀ x ∈ ns, 0 ≤ x ∧ ∃ y : Nat, x = y ∧ y ∈ fl := fun x hx => by
          have := of_decide_eq_true ((mem x).mp hx)
          obtain ⟨y, hy, rfl⟩ := List.mem_map.mp this
          exact ⟨by omega, y, rfl, hy⟩
        have en : ns = (ns.map Int.toNat).map fun x => ((x : Nat) : Int) := by
          rw [List.map_map]
          conv => lhs; rw [← List.map_id ns]
          refine List.map_congr_left fun x hx => ?_
          show x = ((x.toNat : Nat) : Int)
          rw [Int.toNat_of_nonneg (pos x hx).1]
        have kb4 : G3 bs = some (.lst ((ns.map Int.toNat).map nV)) := by
          rw [kb3]
          conv => lhs; rw [en]
          rw [List.map_map]
          rfl
        have lay2 : LayN p (stepT dss) (i + 1) (ns.map Int.toNat) := by
          refine ⟨?_, fun s => ?_⟩
          · rw [List.pairwise_map]
            refine List.Pairwise.imp_of_mem (fun {x y} hx hy h => ?_) asc
            have := (pos x hx).1
            omega
          · rw [← fm]
            constructor
            · intro h
              obtain ⟨x, hx, rfl⟩ := List.mem_map.mp h
              obtain ⟨_, y, e, hy⟩ := pos x hx
              rw [e]
              exact hy
            · intro h
              refine List.mem_map.mpr ⟨(s : Int), (mem _).mpr (decide_eq_true (List.mem_map.mpr ⟨s, h, rfl⟩)), by omega⟩
        refine ⟨L, _, _, rfl, rfl, kL3, by rw [List.length_map]; exact small1000 (by omega), ?_⟩
        refine ⟨_, _, _, as ++ [bs], ls ++ [ns.map Int.toNat], rfl, ?_, ?_, by rw [List.length_append, lls]; rfl, fun j l' hj => ?_, More.at (fun b o e => m3 _ _ (mG1 _ _ e)) hL0⟩
        · rw [upd_same, List.map_append]
          rfl
        · refine paired_snoc (R := fun (b : Addr) (l : List Nat) => LisN _ b l ∧ b ≠ L) ⟨(upd_ne bsL).trans kb4, bsL⟩ (paired_imp (S := fun (b : Addr) (l : List Nat) => LisN _ b l ∧ b ≠ L) (fun b l (e : LisN G1 b l ∧ b ≠ L) => ⟨(upd_ne e.2).trans (m3 _ _ e.1), e.2⟩) pas1)
        · by_cases z : j < i + 1
          · rw [List.getElem?_append_left (by omega)] at hj
            exact lay j l' hj
          · have lj := (List.getElem?_eq_some_iff.mp hj).1
            rw [List.length_append, lls] at lj
            have lj : j < i + 1 + 1 := lj
            obtain rfl : j = i + 1 := by omega
            rw [List.getElem?_append_right (by omega), lls, Nat.sub_self] at hj
            cases hj
            exact lay2
    · rintro σ' G ⟨z3, z4, z5, as, ls, rfl, kL, pas, lls, lay, mG⟩
      exact ⟨_, rfl, q G L as ls mG kL (paired_imp (fun b l e => e.1) pas) lls lay⟩
end
end K72

/-! Bst: the least number of just so many digits, digit by digit from above. -/
namespace B5
section
variable {p N : Nat} {step : Nat → Nat → Nat} {A : Nat → Prop}
/-- a word of so many digits, no 0 at its top, that leads to A -/
structure Cand (p : Nat) (step : Nat → Nat → Nat) (A : Nat → Prop) (N : Nat) (w : List Nat) : Prop where
  len : w.length = N
  dg : Dg p w
  top : w = [] ∨ ∃ u d, w = u ++ [d] ∧ d ≠ 0
  leads : A (runW step 0 w)
def Bst (p : Nat) (step : Nat → Nat → Nat) (A : Nat → Prop) (N : Nat) (r : Option Nat) : Prop := (r = none ∧ ∀ w, ¬ Cand p step A N w) ∨ ∃ w, r = some (numW p w) ∧ Cand p step A N w ∧ ∀ w', Cand p step A N w' → numW p w ≤ numW p w'
theorem runW_cat {s : Nat} {u v : List Nat} : runW step s (u ++ v) = runW step (runW step s u) v := by
  unfold runW
  rw [List.foldl_append]
/-- i digits from above are chosen -/
structure Chosen (p : Nat) (step : Nat → Nat → Nat) (A : Nat → Prop) (N i : Nat) (wd : List Nat) (Wi : Nat → Prop) : Prop where
  len : wd.length = i
  dg : Dg p wd
  top : wd = [] ∨ ∃ u d, wd = u ++ [d] ∧ d ≠ 0
  mem : ∀ s, (∃ w : List Nat, w.length = N - i ∧ Dg p w ∧ runW step 0 w = s) → (Wi s ↔ A (runW step s wd))
  some_ : 0 < i → ∃ s, Wi s ∧ ∃ w : List Nat, w.length = N - i ∧ Dg p w ∧ runW step 0 w = s
  least : ∀ w, Cand p step A N w → numW p wd < numW p (w.drop (N - i)) ∨ w.drop (N - i) = wd
theorem chosen_start : Chosen p step A N 0 [] A where
  len := rfl
  dg := fun _ h => nomatch h
  top := .inl rfl
  mem := fun s _ => Iff.rfl
  some_ := fun h => absurd h (Nat.lt_irrefl 0)
  least := fun w h => .inr (List.drop_eq_nil_of_le (by rw [h.len]; omega))
theorem numW_cons_lt {d d' : Nat} {u v : List Nat} (hd : d < p) (h : numW p u < numW p v) : numW p (d :: u) < numW p (d' :: v) := by
  show d + p * numW p u < d' + p * numW p v
  have : p * (numW p u + 1) ≤ p * numW p v := Nat.mul_le_mul_left p h
  rw [Nat.mul_add] at this
  omega
theorem Cand.digit {i : Nat} {w : List Nat} (h : Cand p step A N w) (hi : i < N) : ∃ d, w.drop (N - (i + 1)) = d :: w.drop (N - i) ∧ d < p ∧ (i = 0 → d ≠ 0) ∧ w.take (N - i) = w.take (N - (i + 1)) ++ [d] := by
  have lt : N - (i + 1) < w.length := by rw [h.len]; omega
  refine ⟨w[N - (i + 1)], ?_, h.dg _ (List.getElem_mem lt), fun i0 => ?_, ?_⟩
  · rw [List.drop_eq_getElem_cons lt, show N - (i + 1) + 1 = N - i by omega]
  · subst i0
    rcases h.top with e | ⟨u, d, rfl, nz⟩
    · have := h.len
      rw [e] at this
      have : 0 = N := this
      omega
    · have l := h.len
      rw [List.length_append] at l
      have l : u.length + 1 = N := l
      have e : (u ++ [d])[N - (0 + 1)]? = some d := by
        rw [List.getElem?_append_right (by omega), show N - (0 + 1) - u.length = 0 by omega]
        rfl
      have e2 := List.getElem?_eq_getElem lt
      rw [e] at e2
      rw [← Option.some.inj e2]
      exact nz
  · rw [show N - i = N - (i + 1) + 1 by omega, List.take_succ_eq_append_getElem lt]
/-- the next digit: the least that fits -/
theorem Chosen.next {i d lo : Nat} {wd : List Nat} {Wi Wj : Nat → Prop} (c : Chosen p step A N i wd Wi) (hi : i < N) (hlo : lo = if i = 0 then 1 else 0) (hd : d < p) (lod : lo ≤ d)
    (hW : ∀ s, (∃ w : List Nat, w.length = N - (i + 1) ∧ Dg p w ∧ runW step 0 w = s) → (Wj s ↔ Wi (step s d))) (ne : ∃ s, Wj s ∧ ∃ w : List Nat, w.length = N - (i + 1) ∧ Dg p w ∧ runW step 0 w = s)
    (no : ∀ e, lo ≤ e → e < d → ∀ s, (∃ w : List Nat, w.length = N - (i + 1) ∧ Dg p w ∧ runW step 0 w = s) → ¬ Wi (step s e)) : Chosen p step A N (i + 1) (d :: wd) Wj where
  len := by rw [List.length_cons, c.len]
  dg := fun x hx => by
    rcases List.mem_cons.mp hx with rfl | hx
    · exact hd
    · exact c.dg x hx
  top := .inr (by
    rcases c.top with rfl | ⟨u, e, rfl, nz⟩
    · have : i = 0 := c.len.symm
      rw [if_pos this] at hlo
      exact ⟨[], d, rfl, by omega⟩
    · exact ⟨d :: u, e, rfl, nz⟩)
  mem := fun s hs => by
    rw [hW s hs]
    obtain ⟨w, e1, e2, rfl⟩ := hs
    exact c.mem _ ⟨w ++ [d], by rw [List.length_append, e1]; show N - (i + 1) + 1 = _; omega, Dg.snoc.mpr ⟨e2, hd⟩, runW_app⟩
  some_ := fun _ => ne
  least := fun w h => by
    obtain ⟨e, e1, e2, e3, e4⟩ := h.digit hi
    rw [e1]
    rcases c.least w h with lt | eq
    · exact .inl (numW_cons_lt hd lt)
    · rw [eq]
      have le : d ≤ e := by
        by_cases z : d ≤ e
        · exact z
        · refine absurd ?_ (no e ?_ (by omega) (runW step 0 (w.take (N - (i + 1)))) ⟨w.take (N - (i + 1)), by rw [List.length_take, h.len]; omega, fun x hx => h.dg x (List.mem_of_mem_take hx), rfl⟩)
          · have hm := c.mem (runW step 0 (w.take (N - i))) ⟨w.take (N - i), by rw [List.length_take, h.len]; omega, fun x hx => h.dg x (List.mem_of_mem_take hx), rfl⟩
            rw [e4, runW_app] at hm
            refine hm.mpr ?_
            have := h.leads
            rw [← List.take_append_drop (N - i) w, eq, e4, runW_cat, runW_app] at this
            exact this
          · rw [hlo]
            split
            · have := e3 (by assumption)
              omega
            · omega
      by_cases z : d = e
      · subst z; exact .inr rfl
      · refine .inl ?_
        show d + p * numW p wd < e + p * numW p wd
        omega
/-- no digit fits: there is none -/
theorem Chosen.stuck {i lo : Nat} {wd : List Nat} {Wi : Nat → Prop} (c : Chosen p step A N i wd Wi) (hi : i < N) (hlo : lo = if i = 0 then 1 else 0)
    (no : ∀ e, lo ≤ e → e < p → ∀ s, (∃ w : List Nat, w.length = N - (i + 1) ∧ Dg p w ∧ runW step 0 w = s) → ¬ Wi (step s e)) : ∀ w, ¬ Cand p step A N w := fun w h => by
  by_cases z : i = 0
  · subst z
    obtain ⟨e, e1, e2, e3, e4⟩ := h.digit hi
    refine no e (by rw [hlo, if_pos rfl]; have := e3 rfl; omega) e2 (runW step 0 (w.take (N - (0 + 1)))) ⟨w.take (N - (0 + 1)), by rw [List.length_take, h.len]; omega, fun x hx => h.dg x (List.mem_of_mem_take hx), rfl⟩ ?_
    have hm := c.mem (runW step 0 (w.take (N - 0))) ⟨w.take (N - 0), by rw [List.length_take, h.len]; omega, fun x hx => h.dg x (List.mem_of_mem_take hx), rfl⟩
    rw [e4, runW_app] at hm
    have ew : wd = [] := List.length_eq_zero_iff.mp c.len
    refine hm.mpr ?_
    rw [ew]
    have := h.leads
    rw [← List.take_append_drop (N - 0) w, List.drop_eq_nil_of_le (by rw [h.len]; omega), List.append_nil, e4, runW_app] at this
    exact this
  · obtain ⟨s, hs, w2, e1, e2, e3⟩ := c.some_ (by omega)
    obtain ⟨u, d, rfl⟩ := snoc_of w2 fun e => by rw [e] at e1; have e1 : 0 = N - i := e1; omega
    obtain ⟨g1, g2⟩ := Dg.snoc.mp e2
    rw [List.length_append] at e1
    have e1 : u.length + 1 = N - i := e1
    rw [runW_app] at e3
    refine no d (by rw [hlo, if_neg z]; omega) g2 (runW step 0 u) ⟨u, by omega, g1, rfl⟩ ?_
    rw [e3]
    exact hs
/-- all digits are chosen -/
theorem Chosen.done {wd : List Nat} {Wi : Nat → Prop} (c : Chosen p step A N N wd Wi) (n0 : 0 < N) : Bst p step A N (some (numW p wd)) := by
  obtain ⟨s, hs, w, e1, _, e3⟩ := c.some_ n0
  have : w = [] := List.length_eq_zero_iff.mp (by omega)
  subst this
  have e3 : 0 = s := e3
  subst e3
  refine .inr ⟨wd, rfl, ⟨c.len, c.dg, c.top, (c.mem 0 ⟨[], by show 0 = N - N; omega, fun _ h => (nomatch h), rfl⟩).mp hs⟩, fun w' h => ?_⟩
  rcases c.least w' h with lt | eq
  · rw [show N - N = 0 by omega, List.drop_zero] at lt
    omega
  · rw [show N - N = 0 by omega, List.drop_zero] at eq
    rw [eq]
    exact Nat.le_refl _
theorem bst_zero {b : Bool} (h : b = true ↔ A 0) : Bst p step A 0 (if b = true then some 0 else none) := by
  by_cases z : b = true
  · rw [if_pos z]
    exact .inr ⟨[], rfl, ⟨rfl, fun _ h => (nomatch h), .inl rfl, h.mp z⟩, fun w' _ => Nat.zero_le _⟩
  · rw [if_neg z]
    refine .inl ⟨rfl, fun w hw => z (h.mpr ?_)⟩
    have : w = [] := List.length_eq_zero_iff.mp hw.len
    have := hw.leads
    subst_vars
    exact this
/-- the first number of digits at which there is one tells the least -/
theorem first_least (p0 : 0 < p) {val : Nat → Int} {v : Int} (st : ∀ s, (∃ w, Dg p w ∧ runW step 0 w = s) → val s = val (step s 0)) {k m M : Nat} (hk : k ≤ M) (b : Bst p step (fun s => val s = v) k (some m)) (no : ∀ j, j < k → Bst p step (fun s => val s = v) j none) : MinE (Tell p step val v) m := by
  rcases b with ⟨z, _⟩ | ⟨w, e, c, least⟩
  · cases z
  obtain rfl : m = numW p w := Option.some.inj e
  refine ⟨⟨w, c.dg, c.leads, rfl⟩, fun m' ⟨u, h1, h2, h3⟩ => ?_⟩
  obtain ⟨w', a1, a2, a3, _, a5⟩ := strip st u.length u rfl h1
  have cw : Cand p step (fun s => val s = v) w'.length w' := ⟨rfl, a1, a5, by show val _ = v; rw [a3, h2]⟩
  rw [← h3, ← a2]
  by_cases z : w'.length < k
  · rcases no _ z with ⟨_, h⟩ | ⟨_, h, _⟩
    · exact absurd cw (h _)
    · cases h
  · by_cases z2 : w'.length = k
    · exact least w' (z2 ▸ cw)
    · have lt := numW_lt p0 w c.dg
      rw [c.len] at lt
      rcases a5 with rfl | ⟨u2, d, rfl, nz⟩
      · exact absurd (show ([] : List Nat).length = 0 from rfl) (by omega)
      · have ge := top_ge (p := p) (u := u2) nz
        rw [List.length_append] at z z2
        have z : ¬ u2.length + 1 < k := z
        have z2 : u2.length + 1 ≠ k := z2
        have : p ^ k ≤ p ^ u2.length := Nat.pow_le_pow_right p0 (by omega)
        omega
end
end B5

namespace K72
open PySem L2 Gd B5
abbrev sBs : Stmt := top 33
abbrev NBs : List Str := ["_law_moves", "_law_layers_here", "_law_wanted", "_law_many", "_law_is_least", "_law_p", "_law_word", "_law_place", "_law_digits", "_law_found", "_law_rows", "_law_digit", "_law_here", "_law_kept", "_law_state"]
theorem scBs : FnScope NBs ["_law_moves", "_law_layers_here", "_law_wanted", "_law_many", "_law_is_least"] (defScope sBs) := ⟨rfl, rfl, rfl, by decide +kernel, rfl, by decide +kernel, by decide +kernel⟩
theorem inV_nat {x : Nat} : ∀ {l : List Nat}, inV (nV x) (l.map nV) = decide (x ∈ l)
  | [] => rfl
  | y :: l => by
    have ih := inV_nat (x := x) (l := l)
    unfold inV at ih ⊢
    rw [List.map_cons, List.any_cons, ih]
    have : eqV (nV y) (nV x) = decide (y = x) := by
      show (((y : Nat) : Int) == ((x : Nat) : Int)) = _
      by_cases z : y = x
      · subst z; simp
      · rw [decide_eq_false z]
        exact beq_eq_false_iff_ne.mpr (by omega)
    rw [this]
    by_cases z : y = x
    · subst z; simp
    · rw [decide_eq_false z, Bool.false_or, decide_eq_decide]
      exact ⟨fun h => .tail _ h, fun h => (List.mem_cons.mp h).elim (fun e => absurd e.symm z) id⟩
theorem flat_nat (l : List Nat) : (l.map nV).all flatV = true := by
  rw [List.all_eq_true]
  intro x hx
  obtain ⟨y, _, rfl⟩ := List.mem_map.mp hx
  rfl
def oV : Option Nat → V
  | some m => .int (m : Nat)
  | none => .non
theorem dp_L {K : PySem.W.Frag} {H : Hp} {t : Addr} {l : List Int} (h : SqL K H t (l.map V.int)) : Dp K H (.ref t) (.list (l.map .int)) := .lst h (dp_ints l)
theorem shaped_L (l : List Int) : SeqAt.shaped (.list (l.map .int)) = true := by
  unfold SeqAt.shaped
  simp only [PyData.canLay0, lay_ints, PyData.depth, dep_ints]
  decide
theorem eqv_L (a b : List Int) : PyData.eqv (.list (a.map .int)) (.list (b.map .int)) = decide (a = b) := by
  simp only [PyData.eqv, eqvAll_ints]
theorem nat_L {H : Hp} {t : Addr} {l : List Nat} (h : H t = some (.lst (l.map nV))) : H t = some (.lst ((l.map fun x => ((x : Nat) : Int)).map V.int)) := by rw [h, List.map_map]; rfl
/-- what the digits of a place have told -/
def PlI (H : Hp) (lo j : Nat) (layer wi : List Nat) (step : Nat → Nat → Nat) (z9 : V) (z13 : Option V) : Prop := (z9 = .non ∧ ∀ e, lo ≤ e → e < lo + j → ∀ s ∈ layer, step s e ∉ wi) ∨
  ∃ (d : Nat) (hl : Addr) (hs : List Nat), z9 = .int (d : Nat) ∧ z13 = some (.ref hl) ∧ H hl = some (.lst (hs.map nV)) ∧ lo ≤ d ∧ d < lo + j ∧ hs ≠ [] ∧ (∀ s, s ∈ hs ↔ s ∈ layer ∧ step s d ∈ wi) ∧ ∀ e, lo ≤ e → e < d → ∀ s ∈ layer, step s e ∉ wi
def spBs (K : PySem.W.Frag) : Sp := fun vs H Q _ => ∃ (M L W : Addr) (rs : List V) (m p N : Nat) (dss : List (List Int)) (ws : List Int) (as : List Addr) (ls : List (List Nat)) (wt : List Nat), vs = [.ref M, .ref L, .ref W, .int N, .bl true] ∧ H M = some (.tup rs) ∧ Paired (TupI K H) rs dss ∧ MGood p dss ws ∧ dss.length ≤ 60 ∧
  H L = some (.lst (as.map V.ref)) ∧ Paired (LisN H) as ls ∧ ls.length = m + 1 ∧ (∀ i l, ls[i]? = some l → LayN p (stepT dss) i l) ∧ H W = some (.lst (wt.map nV)) ∧ N ≤ m ∧ m ≤ 130 ∧
  ∀ (H' : Hp) (r : Option Nat), More H H' → Bst p (stepT dss) (fun s => s ∈ wt) N r → Q (oV r) H'
section
variable {P : Program} {w : World} {K : PySem.W.Frag} {mg : Str → Option Value} {base : Heap} {g1 f : Addr} {d1 fd : FuncData}
theorem ok_bs (F : Fun K "_law_best" "_law_best" sBs f fd) (B : Blt mg) (Nb : Cl K mg "_law_number" sNb ["_law_word", "_law_p"] g1 d1) : FnOk P w K mg base CX0 2 f fd ["_law_moves", "_law_layers_here", "_law_wanted", "_law_many", "_law_is_least"] (spBs K) := by
  have G1 : FnOk P w K mg base CX0 1 g1 d1 ["_law_word", "_law_p"] (spNb K) := ok_nb Nb.fn
  refine F.ok scBs (fun vs H Q E h => ?_) (fun cdv A outer s H vs Q E hr h => ?_)
  · obtain ⟨M, L, W, rs, m, p, N, dss, ws, as, ls, wt, rfl, _⟩ := h
    rfl
  · obtain ⟨M, L, W, rs, m, p, N, dss, ws, as, ls, wt, rfl, hM, rows, g, few, hL, pls, lls, lay, hW, Nm, m60, q⟩ := h
    have hu64 := hr.units
    refine ⟨_, pss_cons (ps_par (i := 5) (j := 6) rfl scBs.nd rfl rfl (by decide) rfl rfl (pa_cons (pe_callB call_len_seq (by rfl) B.len_ PySem.boot_len (pa_cons (pe_ix ix_tup (pv 0) pe_int (fun _ _ => rfl)) pa_nil)) (pa_cons (pe_lst pa_nil) pa_nil)) (by rfl))
      (Evl.pss_cut (ps_for PassesOwn.never rfl (pi_range3 (by rfl) B.range_ (pa_cons (pe_op op_sub (pv 3) pe_int) (pa_cons (pe_un un_neg pe_int) (pa_cons (pe_un un_neg pe_int) pa_nil)))) (pg_name (i := 7) scBs.nd rfl (Or.inl rfl))
        (pss_cons (ps_set (i := 8) scBs.nd rfl (Or.inl rfl) (pe_listRg rfl (by rfl) B.list_ (prg_2 (by rfl) B.range_ (pe_callTy call_int1 (by rfl) B.int_ (by decide +kernel) (pa_cons (pe_cmpR op_eq (pv 7) (pe_op op_sub (pv 3) pe_int) (nomark _)) pa_nil)) (pv 5))))
        (pss_cons (ps_par (i := 9) (j := 10) rfl scBs.nd rfl rfl (by decide) rfl rfl (pa_cons pe_non (pa_cons (pe_ifExp (pt_val (pv 4)) (pv 8) (pe_revL (pv 8))) pa_nil)) (by rfl))
        (Evl.pss_cut (ps_for PassesOwn.never rfl (pi_list (pv 10)) (pg_name (i := 11) scBs.nd rfl (Or.inr rfl))
          (pss_cons (ps_setLc (i := 12) (own := [("_law_state", 14)]) (g := gName 14) rfl scBs.nd rfl rfl (sw_true rfl rfl rfl (by decide +kernel)) (pi_list (pe_ix ix_list (pv 1) (pv 7) (fun _ _ => rfl)))
              (blkOk_by (N := NBs) (sc := defScope sBs) (by decide +kernel)) (fun _ _ _ _ _ => pg_name (i := 14) scBs.nd rfl (Or.inl rfl))
              (fun _ _ _ _ _ => pts_one (pt_cmpR (r := rIn K false) op_in_seq (pe_ix (r := rIxT K) ix_tup (pe_ix (r := rIxT K) ix_tup (pv 0) (pv 14) (fun _ _ => rfl)) (pv 11) (fun _ _ => rfl)) (pv 2) rfl)) (fun _ _ _ _ _ => pv 14))
          (pss_one (ps_if (PW.pt (pw_and (pt_cmpR op_isN (pv 9) pe_non (nomark _)) (pw_and1 (pt_cmpR (op_neD hu64) (pv 12) (pe_lst pa_nil) (nomark _)))))
            (pss_one (ps_par (i := 9) (j := 13) rfl scBs.nd rfl rfl (by decide) rfl rfl (pa_cons (pv 11) (pa_cons (pv 12) pa_nil)) (by rfl))) pss_nil))))
        (pss_cons (ps_if (pt_cmpR op_isN (pv 9) pe_non (nomark _)) (pss_one (ps_ret pe_non)) pss_nil)
        (pss_one (ps_asg (pe_tup (pa_cons (pe_op op_cat (pe_lst (pa_cons (pv 9) pa_nil)) (pv 6)) (pa_cons (pv 13) pa_nil))) (pg_tup (by rfl) (pgs_cons (pg_name (i := 6) scBs.nd rfl (Or.inl rfl)) (pgs_cons (pg_name (i := 2) scBs.nd rfl (Or.inr rfl)) pgs_nil))))))))))
      (pss_one (ps_ret (pe_ifExp (PW.pt (pw_or (pt_cmpR op_gt (pv 3) pe_int (nomark _)) (pw_or1 (pt_cmpR op_in_seq pe_int (pv 2) rfl)))) (pe_call G1 hr rfl Nb.g Nb.k Nb.b .nil pass0 (pa_cons (pv 6) (pa_cons (pv 5) pa_nil))) pe_non)))), ?_⟩
    obtain ⟨n, hn⟩ : ∃ n, n = dss.length := ⟨_, rfl⟩
    have n0 : 0 < n := hn ▸ List.length_pos_iff.mpr g.ne
    obtain ⟨p2, p7⟩ := isPr_small g.pr
    obtain ⟨st, hst⟩ : ∃ st, st = stepT dss := ⟨_, rfl⟩
    rw [← hst] at lay q
    obtain ⟨b0, row0, hb0, sb0, _, lrow0, _⟩ := tup_row rows g (s := 0) (by omega)
    refine ⟨_, rfl, M, rs, ((0 : Nat) : Int), _, rfl, rfl, SqT.of hM, atI_nat hb0, b0, _, rfl, .inr sb0, by show 0 ≤ sizeLine; exact Nat.zero_le _, fun w0 hw0 => ⟨_, _, rfl, ?_⟩⟩
    have m1 := new_more (o := .lst []) hw0
    have kw0 : (upd H w0 (.lst [])) w0 = some (.lst (([] : List Nat).map nV)) := upd_same
    have hW1 := m1 _ _ hW
    generalize upd H w0 (.lst []) = H1 at m1 kw0 hW1 ⊢
    rw [show (((row0.map nV).length : Nat) : Int) = ((p : Nat) : Int) by rw [List.length_map, lrow0]]
    refine ⟨fun σ' H' => ∃ (z7 z8 z9 z10 z11 z12 z13 : Option V) (wl Wl : Addr) (wd wi : List Nat), σ' = [some (.ref M), some (.ref L), some (.ref Wl), some (.int N), some (.bl true), some (.int p), some (.ref wl), z7, z8, z9, z10, z11, z12, z13, none] ∧ H' wl = some (.lst (wd.map nV)) ∧ H' Wl = some (.lst (wi.map nV)) ∧ Chosen p st (fun s => s ∈ wt) N N wd (fun s => s ∈ wi) ∧ More H H', ?_, ?_⟩
    · refine ⟨_, rfl, _, _, rfl, rfl, _, rfl, _, rfl, _, _, _, N, rfl, ?_, ?_⟩
      · have e : ((((N : Nat) : Int) - 1) - (-1)).toNat = N := by omega
        have := RgC.neg (i := ((N : Nat) : Int) - 1) (j := -1) (by omega) (by omega) (by decide) (by decide)
        rw [e] at this
        exact this
      refine for_rangeC (fun i σ' H' => ∃ (z7 z8 z9 z10 z11 z12 z13 : Option V) (wl Wl : Addr) (wd wi : List Nat), σ' = [some (.ref M), some (.ref L), some (.ref Wl), some (.int N), some (.bl true), some (.int p), some (.ref wl), z7, z8, z9, z10, z11, z12, z13, none] ∧ H' wl = some (.lst (wd.map nV)) ∧ H' Wl = some (.lst (wi.map nV)) ∧ Chosen p st (fun s => s ∈ wt) N i wd (fun s => s ∈ wi) ∧ More H H')
        ⟨none, none, none, none, none, none, none, w0, W, [], wt, rfl, kw0, hW1, chosen_start, m1⟩ ?_ ?_
      · rintro i σ' G hi ⟨z7, z8, z9, z10, z11, z12, z13, wl, Wl, wd, wi, rfl, kw, kW, ch, mG⟩
        obtain ⟨pl, hpl⟩ : ∃ pl, pl = N - (i + 1) := ⟨_, rfl⟩
        rw [show ((N : Nat) : Int) - 1 + ((i : Nat) : Int) * (-1) = ((pl : Nat) : Int) by omega]
        refine ⟨_, rfl, _, rfl, _, _, rfl, rfl, rfl, .inr ⟨_, rfl, ?_⟩⟩
        rw [deI]
        obtain ⟨lo, hlo⟩ : ∃ lo, lo = if i = 0 then 1 else 0 := ⟨_, rfl⟩
        have elo : (if decide (((pl : Nat) : Int) = ((N : Nat) : Int) - 1) = true then (1 : Int) else 0) = ((lo : Nat) : Int) := by
          by_cases z : i = 0
          · rw [decide_eq_true (by omega), if_pos rfl, hlo, if_pos z]
            rfl
          · rw [decide_eq_false (by omega), if_neg (by decide), hlo, if_neg z]
            rfl
        rw [elo]
        have lo1 : lo ≤ 1 := by rw [hlo]; split <;> omega
        refine ⟨_, rfl, _, _, rfl, rfl, ⟨by omega, by omega, by omega, by omega⟩, fun dl hdl => ?_⟩
        obtain ⟨ds, hds⟩ : ∃ ds : List Nat, ds = (List.range (p - lo)).map fun x => lo + x := ⟨_, rfl⟩
        have erg : rgV ((lo : Nat) : Int) ((p : Nat) : Int) = ds.map nV := by
          unfold rgV
          rw [hds, List.map_map, show (((p : Nat) : Int) - ((lo : Nat) : Int)).toNat = p - lo by omega]
          refine List.map_congr_left fun x _ => ?_
          show V.int (((lo : Nat) : Int) + ((x : Nat) : Int)) = V.int (((lo + x : Nat) : Nat) : Int)
          rw [Int.natCast_add]
        rw [erg]
        have md := new_more (o := .lst (ds.map nV)) hdl
        have kd : (upd G dl (.lst (ds.map nV))) dl = some (.lst (ds.map nV)) := upd_same
        have kw1 := md _ _ kw
        have kW1 := md _ _ kW
        have mG1 : More H (upd G dl (.lst (ds.map nV))) := fun b o e => md _ _ (mG _ _ e)
        generalize upd G dl (.lst (ds.map nV)) = G1 at kd kw1 kW1 mG1 ⊢
        clear md kw kW mG hdl erg elo
        refine ⟨_, rfl, true, rfl, iteT ⟨_, rfl, _, _, rfl, ?_⟩⟩
        obtain ⟨al, hal⟩ : ∃ al, as[pl]? = some al := ⟨as[pl]'(by rw [Paired.length pls]; omega), List.getElem?_eq_getElem _⟩
        obtain ⟨layer, elay, kal⟩ := paired_at pls hal
        have kal : H al = some (.lst (layer.map nV)) := kal
        have lyr := lay pl layer elay
        have lb : ∀ s ∈ layer, s < n := fun s hs => by
          obtain ⟨w, _, hw, e⟩ := (lyr.mem s).mp hs
          have key : ∀ (w : List Nat) (s : Nat), s < n → Dg p w → runW st s w < n := by
            intro w
            induction w with
            | nil => intro s hs _; exact hs
            | cons d w ih => intro s hs g'; exact ih _ (by rw [hst, hn]; exact good_cl g s d (by omega) (g' d (.head _))) fun x hx => g' x (.tail _ hx)
          rw [← e]
          exact key w 0 n0 hw
        have ll : layer.length ≤ n := nodup_below n layer (List.Pairwise.imp (fun {a b} h e => by omega) lyr.asc) lb
        refine ⟨fun σ' H' => ∃ (z9 : V) (z11 z12 z13 : Option V), σ' = [some (.ref M), some (.ref L), some (.ref Wl), some (.int N), some (.bl true), some (.int p), some (.ref wl), some (.int pl), some (.ref dl), some z9, some (.ref dl), z11, z12, z13, none] ∧ More G1 H' ∧ PlI H' lo (p - lo) layer wi st z9 z13, ?_, ?_⟩
        · have lds : ds.length = p - lo := by rw [hds, List.length_map, List.length_range]
          refine ⟨_, rfl, dl, rfl, ⟨_, SqL.of kd⟩, for_list (K := K) (a := dl) (xs := ds.map nV) (fun j σ' H' => ∃ (z9 : V) (z11 z12 z13 : Option V), σ' = [some (.ref M), some (.ref L), some (.ref Wl), some (.int N), some (.bl true), some (.int p), some (.ref wl), some (.int pl), some (.ref dl), some z9, some (.ref dl), z11, z12, z13, none] ∧ More G1 H' ∧ PlI H' lo j layer wi st z9 z13)
            ⟨.non, z11, z12, z13, rfl, fun _ _ e => e, .inl ⟨rfl, fun e h1 h2 => absurd h2 (by omega)⟩⟩ (fun j σ' H' _ ⟨_, _, _, _, _, m, _⟩ => SqL.of (m _ _ kd)) ?_ ?_⟩
          · rintro j y σ' G2 hy ⟨z9, z11, z12, z13, rfl, m2, pli⟩
            obtain ⟨dj, hdj, rfl⟩ := map_at hy
            have jl := (List.getElem?_eq_some_iff.mp hdj).1
            have edj : dj = lo + j := by
              rw [hds, List.getElem?_map, List.getElem?_range (by omega)] at hdj
              exact (Option.some.inj hdj).symm
            have djp : dj < p := by omega
            refine ⟨_, rfl, _, rfl, L, _, ((pl : Nat) : Int), _, rfl, rfl, SqL.of (m2 _ _ (mG1 _ _ hL)), atI_nat (at_map hal), al, rfl, ⟨_, SqL.of (m2 _ _ (mG1 _ _ kal))⟩, fun D hD => ?_⟩
            refine lc_it (H1 := G2) (D := D) (walk_list (xs := layer.map nV)) (fun k H' => H' D = some (.lst (((layer.take k).filter fun s => decide (st s dj ∈ wi)).map nV)) ∧ More G2 H') ⟨upd_same, new_more hD⟩ (fun k H' _ ⟨_, m⟩ => SqL.of (m _ _ (m2 _ _ (mG1 _ _ kal)))) ?_ ?_
            · rintro k v G3 G4 hk ⟨kD, m3⟩ ⟨rfl, hv⟩
              obtain ⟨s, hs, rfl⟩ := map_at hv
              have sn := lb s (List.mem_of_getElem? hs)
              have rows3 := paired_imp (fun v k (r : TupI K H v k) => r.more fun b o e => m3 _ _ (m2 _ _ (mG1 _ _ e))) rows
              obtain ⟨b, row, hb, sb, erow, lrow, brow⟩ := tup_row rows3 g (s := s) (by omega)
              have er : row[dj]? = some (st s dj) := by rw [erow, hst]; exact leadS_at djp
              refine ⟨rfl, _, rfl, _, rfl, M, rs, ((s : Nat) : Int), _, rfl, rfl, SqT.of (m3 _ _ (m2 _ _ (mG1 _ _ hM))), atI_nat hb, _, rfl, b, _, ((dj : Nat) : Int), _, rfl, rfl, sb, atI_nat (at_map er), _, rfl, Wl, _, rfl, .inl (SqL.of (m3 _ _ (m2 _ _ kW1))), rfl, flat_nat _, _, rfl, ?_⟩
              show (if (inV (nV (st s dj)) (wi.map nV)) = true then _ else _)
              rw [inV_nat, take_snoc hs, List.filter_append]
              refine ite2 (fun hz => ?_) (fun hz => ?_)
              · refine ⟨_, rfl, _, kD, ?_, ?_, More.at m3 hD⟩
                · rw [List.length_map]
                  have := List.length_filter_le (fun s => decide (st s dj ∈ wi)) (layer.take k)
                  rw [List.length_take] at this
                  exact small1000 (by omega)
                · rw [upd_same, List.map_append, show [s].filter (fun s => decide (st s dj ∈ wi)) = [s] by simp; exact of_decide_eq_true hz]
                  rfl
              · refine ⟨?_, m3⟩
                rw [show [s].filter (fun s => decide (st s dj ∈ wi)) = [] by simp; exact fun h => hz (decide_eq_true h), List.append_nil]
                exact kD
            rintro G3 ⟨kD, m3⟩
            rw [List.length_map, List.take_length] at kD
            obtain ⟨hs, hhs⟩ : ∃ hs, hs = layer.filter fun s => decide (st s dj ∈ wi) := ⟨_, rfl⟩
            rw [← hhs] at kD
            have hsm : ∀ s, s ∈ hs ↔ s ∈ layer ∧ st s dj ∈ wi := fun s => by rw [hhs, List.mem_filter]; exact and_congr_right fun _ => ⟨of_decide_eq_true, decide_eq_true⟩
            have m13 : More G1 G3 := fun b o e => m3 _ _ (m2 _ _ e)
            refine ⟨_, rfl, rfl, _, rfl, ?_⟩
            rcases pli with ⟨rfl, ah⟩ | ⟨d, hl, hs', rfl, rfl, k13, d1, d2, ne, mm, ah⟩
            · rw [decide_eq_true rfl]
              refine iteT ⟨_, rfl, by show 0 ≤ sizeLine; exact Nat.zero_le _, fun L2 hL2 => ?_⟩
              have mL := new_more (o := .lst []) hL2
              refine ⟨_, _, dp_L (SqL.of (nat_L (mL _ _ kD))), dp_L (l := []) (SqL.of upd_same), shaped_L _, shaped_L [], _, rfl, ?_⟩
              rw [eqv_L]
              by_cases z : hs = []
              · rw [decide_eq_true (by rw [z]; rfl)]
                refine iteF ⟨_, _, _, _, rfl, fun b o e => mL _ _ (m13 _ _ e), .inl ⟨rfl, fun e h1 h2 s hs' hw => ?_⟩⟩
                by_cases z2 : e = dj
                · subst z2
                  have := (hsm s).mpr ⟨hs', hw⟩
                  rw [z] at this
                  cases this
                · exact ah e h1 (by omega) s hs' hw
              · have nz : (hs.map fun x => ((x : Nat) : Int)) ≠ [] := fun e => z (List.map_eq_nil_iff.mp e)
                rw [decide_eq_false nz]
                refine iteT ⟨_, rfl, _, rfl, _, _, rfl, _, _, _, _, rfl, fun b o e => mL _ _ (m13 _ _ e), .inr ⟨dj, D, hs, rfl, rfl, mL _ _ kD, by omega, by omega, z, hsm, fun e h1 h2 => ah e h1 (by omega)⟩⟩
            · rw [decide_eq_false (fun z => by cases z)]
              exact iteF (iteF ⟨_, _, _, _, rfl, m13, .inr ⟨d, hl, hs', rfl, rfl, m3 _ _ k13, d1, by omega, ne, mm, ah⟩⟩)
          · rintro σ' G2 ⟨z9, z11, z12, z13, rfl, m2, pli⟩
            rw [List.length_map, lds] at pli
            exact ⟨z9, z11, z12, z13, rfl, m2, pli⟩
        rintro σ' G2 ⟨z9, z11, z12, z13, rfl, m2, pli⟩
        have m02 : More H G2 := fun b o e => m2 _ _ (mG1 _ _ e)
        refine ⟨_, rfl, rfl, _, rfl, ?_⟩
        rcases pli with ⟨rfl, ah⟩ | ⟨d, hl, hs, rfl, rfl, k13, d1, d2, ne, mm, ah⟩
        · rw [decide_eq_true rfl]
          exact iteT (q G2 none m02 (.inl ⟨rfl, ch.stuck hi hlo fun e h1 h2 s hs => ah e h1 (by omega) s ((lyr.mem s).mpr (by rw [hpl]; exact hs))⟩))
        · rw [decide_eq_false (fun z => by cases z)]
          refine iteF ⟨_, rfl, by show 1 ≤ sizeLine; decide, fun f1 hf1 => ?_⟩
          have mf := new_more (o := .lst [V.int ((d : Nat) : Int)]) hf1
          have lwd := ch.len
          refine ⟨_, rfl, f1, wl, _, _, rfl, rfl, upd_same, mf _ _ (m2 _ _ kw1), by rw [List.length_map]; show 1 + wd.length ≤ sizeLine; exact Nat.le_of_lt (small1000 (by omega)), fun w2 hw2 => ⟨_, rfl, by show 2 ≤ sizeLine; decide, fun t ht => ?_⟩⟩
          have mw := new_more (o := .lst ([V.int ((d : Nat) : Int)] ++ wd.map nV)) hw2
          have mt := new_more (o := .tup [.ref w2, .ref hl]) ht
          refine ⟨t, _, rfl, SqT.of upd_same, rfl, _, _, rfl, _, _, rfl, rfl, _, _, _, _, _, _, _, w2, hl, d :: wd, hs, rfl, mt _ _ upd_same, mt _ _ (mw _ _ (mf _ _ k13)), ?_, fun b o e => mt _ _ (mw _ _ (mf _ _ (m02 _ _ e)))⟩
          refine ch.next hi hlo (by omega) d1 (fun s hs' => ?_) ?_ fun e h1 h2 s hs' => ah e h1 h2 s ((lyr.mem s).mpr (by rw [hpl]; exact hs'))
          · rw [mm]
            exact ⟨fun h => h.2, fun h => ⟨(lyr.mem s).mpr (by rw [hpl]; exact hs'), h⟩⟩
          · cases hh : hs with
            | nil => exact absurd hh ne
            | cons x r =>
              have hx : x ∈ hs := by rw [hh]; exact .head _
              refine ⟨x, .head _, ?_⟩
              have := (lyr.mem x).mp ((mm x).mp hx).1
              rw [hpl] at this
              exact this
      · rintro σ' G ⟨z7, z8, z9, z10, z11, z12, z13, wl, Wl, wd, wi, rfl, kw, kW, ch, mG⟩
        exact ⟨z7, z8, z9, z10, z11, z12, z13, wl, Wl, wd, wi, rfl, kw, kW, ch, mG⟩
    rintro σ' G ⟨z7, z8, z9, z10, z11, z12, z13, wl, Wl, wd, wi, rfl, kw, kW, ch, mG⟩
    have lwd := ch.len
    refine ⟨_, rfl, _, _, rfl, rfl, _, rfl, ?_⟩
    by_cases nz : 0 < N
    · rw [show decide ((0 : Int) < ((N : Nat) : Int)) = true from decide_eq_true (by omega)]
      refine iteT (iteT ⟨_, rfl, _, rfl, wl, wd, p, rfl, SqL.of kw, by omega, by omega, fun H' m => ?_⟩)
      exact q H' (some (numW p wd)) (fun b o e => m _ _ (mG _ _ e)) (ch.done nz)
    · rw [show decide ((0 : Int) < ((N : Nat) : Int)) = false from decide_eq_false (by omega)]
      have N0 : N = 0 := by omega
      subst N0
      have ew : wd = [] := List.length_eq_zero_iff.mp lwd
      subst ew
      refine iteF ⟨_, rfl, Wl, _, rfl, .inl (SqL.of kW), rfl, flat_nat _, _, rfl, ?_⟩
      have hm : (0 ∈ wi) ↔ 0 ∈ wt := ch.mem 0 ⟨[], rfl, fun _ h => (nomatch h), rfl⟩
      have bz := bst_zero (p := p) (step := st) (A := fun s => s ∈ wt) (b := decide (0 ∈ wi)) (by rw [← hm]; exact ⟨of_decide_eq_true, decide_eq_true⟩)
      show (if (inV (nV 0) (wi.map nV)) = true then _ else _)
      rw [inV_nat]
      by_cases z : 0 ∈ wi
      · rw [decide_eq_true z] at bz ⊢
        refine iteT ⟨_, rfl, _, rfl, wl, [], p, rfl, SqL.of kw, by omega, by simp, fun H' m => ?_⟩
        exact q H' (some 0) (fun b o e => m _ _ (mG _ _ e)) bz
      · rw [decide_eq_false z] at bz ⊢
        exact iteF (q G none mG bz)
end
end K72

/-! Rch: what words lead to; the walk meets just that; short words do. -/
namespace B5
section
variable {n p : Nat} {step : Nat → Nat → Nat} {val : Nat → Int} {R : List (List Nat)} {W : List Int}
/-- a word leads here -/
def Rch (p : Nat) (step : Nat → Nat → Nat) (s : Nat) : Prop := ∃ w, Dg p w ∧ runW step 0 w = s
theorem Rch.zero : Rch p step 0 := ⟨[], fun _ h => (nomatch h), rfl⟩
theorem Rch.next {s d : Nat} (h : Rch p step s) (hd : d < p) : Rch p step (step s d) := by
  obtain ⟨w, h1, rfl⟩ := h
  exact ⟨w ++ [d], Dg.snoc.mpr ⟨h1, hd⟩, runW_app⟩
theorem rch_in (P : Nat → Prop) (h0 : P 0) (cl : ∀ s d, P s → d < p → P (step s d)) {s : Nat} (h : Rch p step s) : P s := by
  obtain ⟨w, hw, rfl⟩ := h
  have key : ∀ (w : List Nat) (s : Nat), P s → Dg p w → P (runW step s w) := by
    intro w
    induction w with
    | nil => intro s hs _; exact hs
    | cons d w ih => intro s hs g; exact ih _ (cl s d hs (g d (.head _))) fun x hx => g x (.tail _ hx)
  exact key w 0 h0 hw
theorem Rch.below (cl : ∀ s d, s < n → d < p → step s d < n) (n0 : 0 < n) {s : Nat} (h : Rch p step s) : s < n := rch_in (fun s => s < n) n0 cl h
theorem met_rch {N : Nat} (cl : ∀ s d, s < n → d < p → step s d < n) (n0 : 0 < n) (hN : n ≤ N) : ∀ s ∈ (walkFrom (leadS p step) N 0).1, Rch p step s :=
  (walkFrom_end (lead := leadS p step) (P := fun s => Rch p step s) (fun a ha b hb => by
    obtain ⟨d, hd, rfl⟩ := leadS_mem hb
    exact ha.next hd) (N := N) (fun l nd al => Nat.le_trans (nodup_below n l nd fun x hx => (al x hx).below cl n0) hN) .zero).all
theorem rch_met {met : List Nat} {rows : List (List Nat)} (M : MetI n p step 0 met rows) {s : Nat} (h : Rch p step s) : s ∈ met := by
  obtain ⟨w, hw, rfl⟩ := h
  exact List.mem_of_getElem? (M.run w 0 0 M.first hw)
/-- the least machine's values are told -/
theorem LeastOf.rch (L : LeastOf n p step val R W) : ∀ x ∈ W, ∃ s, Rch p step s ∧ val s = x := by
  obtain ⟨c, rp, S, k, cb, hr, h⟩ := L.ex
  obtain ⟨_, e2⟩ := h n (Nat.le_refl _)
  have all := (walkFrom_end (lead := leadK p step c rp) (P := fun a => ∃ s, Rch p step s ∧ a = c s) (fun a ⟨s, hs, ea⟩ b hb => by
    obtain ⟨x, hx, rfl⟩ := List.mem_map.mp hb
    obtain ⟨d, hd, rfl⟩ := leadS_mem hx
    subst ea
    have sn := hs.below L.cl L.n0
    exact ⟨step s d, hs.next hd, S.keep _ _ (hr s sn).1 sn (hr s sn).2 d hd⟩) (N := n) (fun l nd al => nodup_below n l nd fun x hx => by
      obtain ⟨s, hs, rfl⟩ := al x hx
      exact cb s (hs.below L.cl L.n0)) (a := c 0) ⟨0, .zero, rfl⟩).all
  intro x hx
  rw [e2] at hx
  obtain ⟨a, ha, rfl⟩ := List.mem_map.mp hx
  obtain ⟨s, hs, rfl⟩ := all a ha
  have sn := hs.below L.cl L.n0
  exact ⟨s, hs, (S.tell _ _ (hr s sn).1 sn (hr s sn).2).symm⟩
/-- a short word does -/
theorem rch_short (cl : ∀ s d, s < n → d < p → step s d < n) (n0 : 0 < n) {s : Nat} (h : Rch p step s) : ∃ w : List Nat, w.length < n ∧ Dg p w ∧ runW step 0 w = s := by
  obtain ⟨w0, g0, e0⟩ := h
  obtain ⟨L, ⟨w, rfl, g, e⟩, least⟩ := least_ex (fun L => ∃ w : List Nat, w.length = L ∧ Dg p w ∧ runW step 0 w = s) w0.length ⟨w0, rfl, g0, e0⟩
  refine ⟨w, ?_, g, e⟩
  by_cases z : w.length < n
  · exact z
  exfalso
  by_cases q : ∃ i j, i < j ∧ j ≤ w.length ∧ runW step 0 (w.take i) = runW step 0 (w.take j)
  · obtain ⟨i, j, lt, le, eq⟩ := q
    have l := least (w.take i ++ w.drop j).length ⟨_, rfl, fun x hx => by
      rcases List.mem_append.mp hx with hx | hx
      · exact g x (List.mem_of_mem_take hx)
      · exact g x (List.mem_of_mem_drop hx), by
      rw [runW_cat, eq, ← runW_cat, List.take_append_drop]
      exact e⟩
    rw [List.length_append, List.length_take, List.length_drop] at l
    omega
  · have nd : ((List.range (w.length + 1)).map fun i => runW step 0 (w.take i)).Nodup := by
      unfold List.Nodup
      rw [List.pairwise_map]
      refine List.Pairwise.imp_of_mem (fun {a b} ha hb lt => ?_) (List.pairwise_lt_range (n := w.length + 1))
      intro eq
      exact q ⟨a, b, lt, by have := List.mem_range.mp hb; omega, eq⟩
    have := nodup_below n _ nd fun x hx => by
      obtain ⟨i, _, rfl⟩ := List.mem_map.mp hx
      exact Rch.below cl n0 ⟨_, fun x hx => g x (List.mem_of_mem_take hx), rfl⟩
    rw [List.length_map, List.length_range] at this
    omega
theorem asc_one : ∀ {a b : List (Int × Nat)}, a.Pairwise (fun x y => x.1 < y.1) → b.Pairwise (fun x y => x.1 < y.1) → (∀ x, x ∈ a ↔ x ∈ b) → a = b
  | [], [], _, _, _ => rfl
  | [], y :: b, _, _, h => absurd ((h y).mpr (.head _)) (List.not_mem_nil)
  | x :: a, [], _, _, h => absurd ((h x).mp (.head _)) (List.not_mem_nil)
  | x :: a, y :: b, ha, hb, h => by
    obtain ⟨a1, a2⟩ := List.pairwise_cons.mp ha
    obtain ⟨b1, b2⟩ := List.pairwise_cons.mp hb
    have e : x = y := by
      rcases List.mem_cons.mp ((h x).mp (.head _)) with e | e
      · exact e
      rcases List.mem_cons.mp ((h y).mpr (.head _)) with e2 | e2
      · exact e2.symm
      · have := b1 x e
        have := a1 y e2
        omega
    subst e
    rw [asc_one a2 b2 fun z => ?_]
    constructor
    · intro hz
      rcases List.mem_cons.mp ((h z).mp (.tail _ hz)) with e | e
      · have := a1 z hz
        rw [e] at this
        omega
      · exact e
    · intro hz
      rcases List.mem_cons.mp ((h z).mpr (.tail _ hz)) with e | e
      · have := b1 z hz
        rw [e] at this
        omega
      · exact e
theorem Cand.imp {A B : Nat → Prop} {N : Nat} (h : ∀ s, Rch p step s → A s → B s) {w : List Nat} (c : Cand p step A N w) : Cand p step B N w := ⟨c.len, c.dg, c.top, h _ ⟨w, c.dg, rfl⟩ c.leads⟩
theorem Bst.congr {A B : Nat → Prop} {N : Nat} {r : Option Nat} (h : ∀ s, Rch p step s → (A s ↔ B s)) (b : Bst p step A N r) : Bst p step B N r := by
  rcases b with ⟨e, no⟩ | ⟨w, e, c, least⟩
  · exact .inl ⟨e, fun w c => no w (c.imp fun s hs => (h s hs).mpr)⟩
  · exact .inr ⟨w, e, c.imp fun s hs => (h s hs).mp, fun w' c' => least w' (c'.imp fun s hs => (h s hs).mpr)⟩
theorem first_some : ∀ {rs : List (Option Nat)} {m : Nat} {t : List Nat}, rs.filterMap id = m :: t → ∃ k : Nat, rs[k]? = some (some m) ∧ ∀ j : Nat, j < k → rs[j]? = some none
  | [], m, t, h => by simp at h
  | none :: rs, m, t, h => by
    have h : rs.filterMap id = m :: t := h
    obtain ⟨k, e, f⟩ := first_some h
    exact ⟨k + 1, e, fun j hj => by
      cases j with
      | zero => rfl
      | succ j => exact f j (by omega)⟩
  | some x :: rs, m, t, h => by
    have h : x :: rs.filterMap id = m :: t := h
    cases h
    exact ⟨0, rfl, fun (j : Nat) (hj : j < 0) => absurd hj (Nat.not_lt_zero j)⟩
/-- among the numbers of digits up to n there is one that tells the value, and the first tells it best -/
theorem found_least (p0 : 0 < p) (cl : ∀ s d, s < n → d < p → step s d < n) (n0 : 0 < n) {v : Int} (st : ∀ s, Rch p step s → val s = val (step s 0)) {rs : List (Option Nat)} (ln : n ≤ rs.length) (al : ∀ (k : Nat) (r : Option Nat), rs[k]? = some r → Bst p step (fun s => val s = v) k r)
    {s : Nat} (hs : Rch p step s) (hv : val s = v) : ∃ m t, rs.filterMap id = m :: t ∧ MinE (Tell p step val v) m := by
  obtain ⟨w, lw, g, e⟩ := rch_short cl n0 hs
  obtain ⟨w', g1, _, g3, g4, g5⟩ := strip st w.length w rfl g
  have cw : Cand p step (fun s => val s = v) w'.length w' := ⟨rfl, g1, g5, by show val _ = v; rw [g3, e, hv]⟩
  have e2 : rs[w'.length]? = some (rs[w'.length]'(by omega)) := List.getElem?_eq_getElem (by omega)
  have ne : rs.filterMap id ≠ [] := by
    intro z
    rcases al _ _ e2 with ⟨_, no⟩ | ⟨u, e3, _⟩
    · exact no _ cw
    · have : numW p u ∈ rs.filterMap id := List.mem_filterMap.mpr ⟨some (numW p u), by rw [← e3]; exact List.getElem_mem _, rfl⟩
      rw [z] at this
      exact List.not_mem_nil this
  cases h : rs.filterMap id with
  | nil => exact absurd h ne
  | cons m t =>
    obtain ⟨k, e1, no⟩ := first_some h
    exact ⟨m, t, rfl, first_least p0 st (Nat.le_refl k) (al _ _ e1) fun j hj => al _ _ (no j hj)⟩
end
end B5

/-! Khn: states are taken off whose ways in are all taken off; what is left is behind words of any length. -/
namespace B5
/-- a sum along a list -/
def Sm (f : Nat → Nat) : List Nat → Nat
  | [] => 0
  | a :: l => f a + Sm f l
theorem sm_app {f : Nat → Nat} : ∀ {l m : List Nat}, Sm f (l ++ m) = Sm f l + Sm f m
  | [], m => by show Sm f m = 0 + Sm f m; omega
  | a :: l, m => by show f a + Sm f (l ++ m) = f a + Sm f l + Sm f m; rw [sm_app]; omega
theorem sm_perm {f : Nat → Nat} {l m : List Nat} (h : l.Perm m) : Sm f l = Sm f m := by
  induction h with
  | nil => rfl
  | cons x _ ih => show f x + _ = f x + _; rw [ih]
  | swap x y l => show f y + (f x + Sm f l) = f x + (f y + Sm f l); omega
  | trans _ _ a b => rw [a, b]
theorem sm_sub {f : Nat → Nat} : ∀ {l m : List Nat}, l.Nodup → (∀ x ∈ l, x ∈ m) → Sm f l ≤ Sm f m
  | [], m, _, _ => Nat.zero_le _
  | a :: l, m, nd, h => by
    obtain ⟨n1, n2⟩ := List.nodup_cons.mp nd
    rw [sm_perm (List.perm_cons_erase (h a (.head _)))]
    show f a + Sm f l ≤ f a + Sm f (m.erase a)
    have := sm_sub (f := f) (m := m.erase a) n2 fun x hx => by
      have ne : x ≠ a := fun e => n1 (by rw [← e]; exact hx)
      exact (List.mem_erase_of_ne ne).mpr (h x (.tail _ hx))
    omega
/-- how often the rows of these states lead there -/
def Wy (row : Nat → List Nat) (l : List Nat) (t : Nat) : Nat := Sm (fun s => (row s).count t) l
structure Taken (n : Nat) (row : Nat → List Nat) (o : List Nat) : Prop where
  nd : o.Nodup
  lt : ∀ t ∈ o, t < n
  back : ∀ (i t : Nat), o[i]? = some t → ∀ s, s < n → t ∈ row s → ∃ k, k < i ∧ o[k]? = some s
/-- so many are done, and so much of the next row -/
structure Khn (n : Nat) (row : Nat → List Nat) (o : List Nat) (j i : Nat) : Prop where
  tk : Taken n row o
  le : j ≤ o.length
  hit : ∀ t, t < n → (t ∈ o ↔ Wy row (o.take j) t + ((row (o.getD j 0)).take i).count t = Wy row (List.range n) t)
section
variable {n : Nat} {row : Nat → List Nat} {o : List Nat} {j i : Nat}
theorem wy_sub {l : List Nat} {t : Nat} (nd : l.Nodup) (lt : ∀ x ∈ l, x < n) : Wy row l t ≤ Wy row (List.range n) t := sm_sub nd fun x hx => List.mem_range.mpr (lt x hx)
theorem wy_snoc {l : List Nat} {a t : Nat} : Wy row (l ++ [a]) t = Wy row l t + (row a).count t := by
  unfold Wy
  rw [sm_app]
  rfl
theorem Khn.start (n0 : 0 < n) (came : ∀ t, t < n → t ≠ 0 → ∃ s, s < n ∧ t ∈ row s) : Khn n row (if Wy row (List.range n) 0 = 0 then [0] else []) 0 0 := by
  have pos : ∀ t s, s < n → t ∈ row s → 0 < Wy row (List.range n) t := fun t s hs ht => by
    have := wy_sub (n := n) (row := row) (l := [s]) (t := t) (by simp) (fun x hx => by
      have : x = s := by simpa using hx
      omega)
    have e : Wy row [s] t = (row s).count t + 0 := rfl
    have := List.count_pos_iff.mpr ht
    omega
  by_cases z : Wy row (List.range n) 0 = 0
  · rw [if_pos z]
    refine ⟨⟨by simp, fun t ht => (by
      have : t = 0 := by simpa using ht
      omega), fun i t h s hs ht => ?_⟩, Nat.zero_le _, fun t ht => ?_⟩
    · have : t = 0 := by
        have := List.mem_of_getElem? h
        simpa using this
      subst this
      have := pos 0 s hs ht
      omega
    · show t ∈ [0] ↔ 0 + (List.take 0 _).count t = _
      rw [List.take_zero, List.count_nil]
      constructor
      · intro h
        have : t = 0 := by simpa using h
        rw [this, z]
      · intro h
        by_cases e : t = 0
        · rw [e]; exact .head _
        · obtain ⟨s, hs, hr⟩ := came t ht e
          have := pos t s hs hr
          omega
  · rw [if_neg z]
    refine ⟨⟨List.nodup_nil, fun t ht => (nomatch ht), fun i t h => by simp at h⟩, Nat.zero_le _, fun t ht => ?_⟩
    show t ∈ [] ↔ 0 + (List.take 0 _).count t = _
    rw [List.take_zero, List.count_nil]
    refine ⟨fun h => (nomatch h), fun h => ?_⟩
    by_cases e : t = 0
    · subst e; omega
    · obtain ⟨s, hs, hr⟩ := came t ht e
      have := pos t s hs hr
      omega
/-- a way less to x -/
theorem Khn.step (K : Khn n row o j i) (hj : j < o.length) (rows : ∀ s, s < n → ∀ x ∈ row s, x < n) {x : Nat} (hx : (row (o.getD j 0))[i]? = some x) :
    x < n ∧ Wy row (o.take j) x + ((row (o.getD j 0)).take (i + 1)).count x ≤ Wy row (List.range n) x ∧
    Khn n row (if Wy row (o.take j) x + ((row (o.getD j 0)).take (i + 1)).count x = Wy row (List.range n) x then o ++ [x] else o) j (i + 1) := by
  obtain ⟨a, ea⟩ : ∃ a, a = o.getD j 0 := ⟨_, rfl⟩
  have ha : o[j]? = some a := by rw [ea, List.getD_eq_getElem?_getD, List.getElem?_eq_getElem hj]; rfl
  have hit := K.hit
  rw [← ea] at hx hit ⊢
  have an : a < n := K.tk.lt a (List.mem_of_getElem? ha)
  have xn : x < n := rows a an x (List.mem_of_getElem? hx)
  have ct : ∀ t, ((row a).take (i + 1)).count t = ((row a).take i).count t + if x = t then 1 else 0 := fun t => by
    rw [List.take_succ, hx, List.count_append]
    show _ + List.count t [x] = _
    rw [List.count_singleton]
    congr 1
    by_cases e : x = t
    · simp [e]
    · simp [e]
  have tj : o.take (j + 1) = o.take j ++ [a] := by rw [List.take_succ, ha]; rfl
  have ndj : (o.take (j + 1)).Nodup := List.Pairwise.sublist (List.take_sublist _ _) K.tk.nd
  have ltj : ∀ y ∈ o.take (j + 1), y < n := fun y hy => K.tk.lt y (List.mem_of_mem_take hy)
  have top : ∀ t, Wy row (o.take j) t + (row a).count t ≤ Wy row (List.range n) t := fun t => by
    rw [← wy_snoc, ← tj]
    exact wy_sub ndj ltj
  have cl : ∀ t, ((row a).take (i + 1)).count t ≤ (row a).count t := fun t => List.Sublist.count_le _ (List.take_sublist _ _)
  have bnd : Wy row (o.take j) x + ((row a).take (i + 1)).count x ≤ Wy row (List.range n) x := by
    have := top x
    have := cl x
    omega
  refine ⟨xn, bnd, ?_⟩
  have c1 := ct x
  rw [if_pos rfl] at c1
  have xo : x ∉ o := fun h => by
    have := (hit x xn).mp h
    omega
  by_cases z : Wy row (o.take j) x + ((row a).take (i + 1)).count x = Wy row (List.range n) x
  · rw [if_pos z]
    have g1 : (o ++ [x]).getD j 0 = a := by rw [List.getD_eq_getElem?_getD, List.getElem?_append_left hj, ha]; rfl
    have g2 : (o ++ [x]).take j = o.take j := List.take_append_of_le_length (by omega)
    refine ⟨⟨List.nodup_append.mpr ⟨K.tk.nd, by simp, fun y hy w hw => ?_⟩, fun t ht => ?_, fun k t h s hs ht => ?_⟩, by rw [List.length_append]; exact Nat.le_trans K.le (Nat.le_add_right _ _), fun t ht => ?_⟩
    · have : w = x := by simpa using hw
      rw [this]
      exact fun e => xo (by rw [← e]; exact hy)
    · rcases List.mem_append.mp ht with h | h
      · exact K.tk.lt t h
      · have : t = x := by simpa using h
        rw [this]; exact xn
    · by_cases lk : k < o.length
      · rw [List.getElem?_append_left lk] at h
        obtain ⟨q, hq, e⟩ := K.tk.back k t h s hs ht
        exact ⟨q, hq, by rw [List.getElem?_append_left (by omega)]; exact e⟩
      · have lt := (List.getElem?_eq_some_iff.mp h).1
        rw [List.length_append] at lt
        have lt : k < o.length + 1 := lt
        obtain rfl : k = o.length := by omega
        rw [List.getElem?_append_right (Nat.le_refl _), Nat.sub_self] at h
        cases h
        by_cases q : s ∈ o.take (j + 1)
        · obtain ⟨k, hk⟩ := List.getElem?_of_mem q
          have lk := (List.getElem?_eq_some_iff.mp hk).1
          rw [List.length_take] at lk
          rw [List.getElem?_take_of_lt (by omega)] at hk
          exact ⟨k, by omega, by rw [List.getElem?_append_left (by omega)]; exact hk⟩
        · exfalso
          have h1 := wy_sub (n := n) (row := row) (l := s :: o.take (j + 1)) (t := x) (List.nodup_cons.mpr ⟨q, ndj⟩) (fun y hy => by
            rcases List.mem_cons.mp hy with e | e
            · rw [e]; exact hs
            · exact ltj y e)
          have h2 : Wy row (s :: o.take (j + 1)) x = (row s).count x + Wy row (o.take (j + 1)) x := rfl
          have h3 := List.count_pos_iff.mpr ht
          rw [tj, wy_snoc] at h2
          rw [tj] at h1
          have := cl x
          omega
    · rw [g1, g2, ct t]
      by_cases e : x = t
      · subst e
        rw [if_pos rfl, ← c1]
        exact ⟨fun _ => z, fun _ => List.mem_append.mpr (.inr (.head _))⟩
      · rw [if_neg e, Nat.add_zero, ← hit t ht, List.mem_append]
        exact ⟨fun h => h.elim id fun h => absurd (by simpa using h) (Ne.symm e), .inl⟩
  · rw [if_neg z]
    refine ⟨K.tk, K.le, fun t ht => ?_⟩
    rw [← ea, ct t]
    by_cases e : x = t
    · subst e
      rw [if_pos rfl, ← c1]
      exact ⟨fun h => absurd h xo, fun h => absurd h z⟩
    · rw [if_neg e, Nat.add_zero]
      exact hit t ht
/-- a row is done -/
theorem Khn.over (K : Khn n row o j (row (o.getD j 0)).length) (hj : j < o.length) : Khn n row o (j + 1) 0 := by
  refine ⟨K.tk, hj, fun t ht => ?_⟩
  have ha : o[j]? = some (o.getD j 0) := by rw [List.getD_eq_getElem?_getD, List.getElem?_eq_getElem hj]; rfl
  have := K.hit t ht
  rw [List.take_length] at this
  rw [this, List.take_zero, List.count_nil, Nat.add_zero, List.take_succ, ha]
  show _ = _ ↔ Wy row (o.take j ++ [o.getD j 0]) t = _
  rw [wy_snoc]
/-- all that are taken off are done: of what is left, each has a way in from what is left -/
theorem Khn.done (K : Khn n row o o.length 0) {t : Nat} (ht : t < n) (no : t ∉ o) : ∃ s, s < n ∧ t ∈ row s ∧ s ∉ o := by
  have h := K.hit t ht
  rw [List.take_length, List.take_zero, List.count_nil, Nat.add_zero] at h
  by_cases z : ∃ s, s < n ∧ t ∈ row s ∧ s ∉ o
  · exact z
  exfalso
  refine no (h.mpr (Nat.le_antisymm (wy_sub K.tk.nd K.tk.lt) ?_))
  have key : ∀ l : List Nat, l.Nodup → (∀ x ∈ l, x < n) → Wy row l t ≤ Wy row (l.filter (fun x => decide (x ∈ o))) t := by
    intro l
    induction l with
    | nil => intro _ _; exact Nat.le_refl _
    | cons a l ih =>
      intro nd lt
      have ih := ih (List.nodup_cons.mp nd).2 fun x hx => lt x (.tail _ hx)
      show (row a).count t + Wy row l t ≤ _
      by_cases e : a ∈ o
      · rw [List.filter_cons_of_pos (by simpa using e)]
        show _ ≤ (row a).count t + Wy row (l.filter _) t
        omega
      · rw [List.filter_cons_of_neg (by simpa using e)]
        have : (row a).count t = 0 := by
          by_cases q : t ∈ row a
          · exact absurd ⟨a, lt a (.head _), q, e⟩ z
          · exact List.count_eq_zero.mpr q
        omega
  have h1 := key (List.range n) List.nodup_range fun x hx => List.mem_range.mp hx
  have h2 : Wy row ((List.range n).filter (fun x => decide (x ∈ o))) t ≤ Wy row o t := sm_sub (List.Pairwise.sublist (List.filter_sublist ..) List.nodup_range) fun x hx => by simpa using (List.mem_filter.mp hx).2
  omega
end
section
variable {n p : Nat} {step : Nat → Nat → Nat} {o : List Nat}
/-- words to what is taken off are short -/
theorem taken_short (cl : ∀ s d, s < n → d < p → step s d < n) (n0 : 0 < n) (T : Taken n (leadS p step) o) : ∀ (L : Nat) (w : List Nat) (i : Nat), w.length = L → Dg p w → o[i]? = some (runW step 0 w) → w.length ≤ i
  | 0, w, i, e, _, _ => by omega
  | L + 1, w, i, e, g, h => by
    obtain ⟨u, d, rfl⟩ := snoc_of w fun z => by rw [z] at e; cases e
    obtain ⟨g1, g2⟩ := Dg.snoc.mp g
    rw [List.length_append] at e ⊢
    have e : u.length + 1 = L + 1 := e
    rw [runW_app] at h
    have sn : runW step 0 u < n := Rch.below cl n0 ⟨u, g1, rfl⟩
    obtain ⟨k, hk, ek⟩ := T.back i _ h _ sn (List.mem_of_getElem? (leadS_at g2))
    have := taken_short cl n0 T L u k (by omega) g1 ek
    show u.length + 1 ≤ i
    omega
/-- to what is left lead words of any length -/
theorem left_long (K : Khn n (leadS p step) o o.length 0) {t : Nat} (ht : t < n) (no : t ∉ o) : ∀ L, ∃ (s : Nat) (w : List Nat), s < n ∧ s ∉ o ∧ w.length = L ∧ Dg p w ∧ runW step s w = t := by
  intro L
  induction L with
  | zero => exact ⟨t, [], ht, no, rfl, fun _ h => (nomatch h), rfl⟩
  | succ L ih =>
    obtain ⟨s, w, h1, h2, h3, h4, h5⟩ := ih
    obtain ⟨s', a, b, c⟩ := K.done h1 h2
    obtain ⟨d, hd, rfl⟩ := leadS_mem b
    exact ⟨s', d :: w, a, c, by rw [List.length_cons, h3], fun x hx => by
      rcases List.mem_cons.mp hx with e | e
      · rw [e]; exact hd
      · exact h4 x e, h5⟩
/-- what is left: what words of so many digits, and not of twice as many, lead to -/
theorem left_iff (cl : ∀ s d, s < n → d < p → step s d < n) (n0 : 0 < n) (all : ∀ s, s < n → Rch p step s) (K : Khn n (leadS p step) o o.length 0) {t : Nat} (ht : t < n) {M : Nat} (hM : n ≤ M) :
    (t ∉ o → ∃ w : List Nat, M ≤ w.length ∧ w.length < 2 * M ∧ Dg p w ∧ runW step 0 w = t) ∧ ∀ w : List Nat, n ≤ w.length → Dg p w → runW step 0 w = t → t ∉ o := by
  constructor
  · intro no
    obtain ⟨s, w, h1, _, h3, h4, h5⟩ := left_long K ht no M
    obtain ⟨u, a, b, c⟩ := rch_short cl n0 (all s h1)
    refine ⟨u ++ w, by rw [List.length_append]; omega, by rw [List.length_append]; omega, fun x hx => (List.mem_append.mp hx).elim (b x) (h4 x), ?_⟩
    rw [runW_cat, c, h5]
  · rintro w hw g rfl h
    obtain ⟨i, hi⟩ := List.getElem?_of_mem h
    have := taken_short cl n0 K.tk w.length w i rfl g hi
    have li := (List.getElem?_eq_some_iff.mp hi).1
    have := nodup_below n o K.tk.nd K.tk.lt
    omega
end
end B5

/-! em: early_marks, the marks of the states that are taken off -/
namespace K72
open PySem L2 Gd B5
abbrev sEm : Stmt := top 16
abbrev NEm : List Str := ["moves", "ways", "row", "further", "order", "done", "marks", "state", "_"]
theorem scEm : FnScope NEm ["moves"] (defScope sEm) := ⟨rfl, rfl, rfl, by decide +kernel, rfl, by decide +kernel, by decide +kernel⟩
/-- a list by its places -/
def fnL (n : Nat) (g : Nat → V) : List V := (List.range n).map g
theorem fnL_len {n : Nat} {g : Nat → V} : (fnL n g).length = n := by unfold fnL; rw [List.length_map, List.length_range]
theorem fnL_at {n : Nat} {g : Nat → V} {j : Nat} (h : j < n) : (fnL n g)[j]? = some (g j) := by
  unfold fnL
  rw [List.getElem?_map, List.getElem?_range h]
  rfl
theorem fnL_set {n : Nat} {g g' : Nat → V} {j : Nat} {v : V} (hj : g' j = v) (ho : ∀ t, t ≠ j → g' t = g t) : (fnL n g).set j v = fnL n g' := by
  apply List.ext_getElem?
  intro i
  by_cases z : i < n
  · rw [fnL_at z]
    by_cases e : j = i
    · subst e
      rw [List.getElem?_set_self (by rw [fnL_len]; exact z), hj]
    · rw [List.getElem?_set_ne e, fnL_at z, ho i (Ne.symm e)]
  · rw [List.getElem?_eq_none (by rw [List.length_set, fnL_len]; omega), List.getElem?_eq_none (by rw [fnL_len]; omega)]
theorem fnL_congr {n : Nat} {g g' : Nat → V} (h : ∀ t, t < n → g t = g' t) : fnL n g = fnL n g' := List.map_congr_left fun t ht => h t (List.mem_range.mp ht)
def rowR (R : List (List Nat)) (s : Nat) : List Nat := R.getD s []
def spEm : Sp := fun vs H Q _ => ∃ (lr : Addr) (ts : List Addr) (R : List (List Nat)), vs = [.ref lr] ∧ H lr = some (.lst (ts.map V.ref)) ∧ Paired (TupN H) ts R ∧ 0 < R.length ∧ R.length ≤ 900 ∧ (∀ r ∈ R, ∀ x ∈ r, x < R.length) ∧ (∀ t, t < R.length → t ≠ 0 → ∃ s, s < R.length ∧ t ∈ rowR R s) ∧
  ∀ (H' : Hp) (l : Addr) (o : List Nat), More H H' → H' l = some (.lst (fnL R.length fun t => V.bl (decide (t ∈ o)))) → Khn R.length (rowR R) o o.length 0 → Q (.ref l) H'
section
variable {P : Program} {w : World} {K : PySem.W.Frag} {mg : Str → Option Value} {base : Heap} {f : Addr} {fd : FuncData}
theorem ok_em (F : Fun K "early_marks" "early_marks" sEm f fd) (B : Blt mg) : FnOk P w K mg base CX0 1 f fd ["moves"] spEm := by
  refine F.ok scEm (fun vs H Q E h => ?_) (fun cdv A outer s H vs Q E hr h => ?_)
  · obtain ⟨lr, ts, R, rfl, _⟩ := h
    rfl
  · obtain ⟨lr, ts, R, rfl, hlr, pts, n0, few, rows, came, q⟩ := h
    refine ⟨_, Evl.pss_cut (ps_setLc (i := 1) (own := [("_", 8)]) (g := gName 8) (tt := tYes) rfl scEm.nd rfl rfl (sw_true rfl rfl rfl (by decide +kernel)) (pi_list (pv 0)) (blkOk_by (N := NEm) (sc := defScope sEm) (by decide +kernel)) (fun _ _ _ _ _ => pg_name (i := 8) scEm.nd rfl (Or.inl rfl)) (fun _ _ _ _ _ => pts_nil) (fun _ _ _ _ _ => pe_int))
      (Evl.pss_cut (ps_for PassesOwn.never rfl (pi_list (pv 0)) (pg_name (i := 2) scEm.nd rfl (Or.inl rfl))
        (pss_one (ps_for PassesOwn.never rfl (pi_tup (pv 2)) (pg_name (i := 3) scEm.nd rfl (Or.inl rfl))
          (pss_one (ps_asg (pe_op op_add (pe_ix ix_list (pv 1) (pv 3) (fun _ _ => rfl)) pe_int) (pg_sub (pv 1) (pv 3) set_list))))))
      (Evl.pss_cut (ps_set (i := 4) scEm.nd rfl (Or.inl rfl) (pe_ifExp (pt_cmpR op_eq (pe_ix ix_list (pv 1) pe_int (fun _ _ => rfl)) pe_int (nomark _)) (pe_lst (pa_cons pe_int pa_nil)) (pe_lst pa_nil)))
      (pss_cons (ps_set (i := 5) scEm.nd rfl (Or.inl rfl) pe_int)
      (Evl.pss_cut (ps_while PassesOwn.never (pt_cmpR op_lt (pv 5) (pe_callB call_len_seq (by rfl) B.len_ PySem.boot_len (pa_cons (pv 4) pa_nil)) (nomark _))
        (Evl.pss_cut (ps_for PassesOwn.never rfl (pi_tup (pe_ix ix_list (pv 0) (pe_ix ix_list (pv 4) (pv 5) (fun _ _ => rfl)) (fun _ _ => rfl))) (pg_name (i := 3) scEm.nd rfl (Or.inl rfl))
          (pss_cons (ps_asg (pe_op op_sub (pe_ix ix_list (pv 1) (pv 3) (fun _ _ => rfl)) pe_int) (pg_sub (pv 1) (pv 3) set_list))
          (pss_one (ps_if (pt_cmpR op_eq (pe_ix ix_list (pv 1) (pv 3) (fun _ _ => rfl)) pe_int (nomark _))
            (pss_one (ps_expr (pe_bm PySem.F.plainAttrs_list PySem.F.slot_list_append PySem.F.type_list_append mt_append (pv 4) (pa_cons (pv 3) pa_nil)))) pss_nil))))
        (pss_one (ps_set (i := 5) scEm.nd rfl (Or.inl rfl) (pe_op op_add (pv 5) pe_int)))))
      (Evl.pss_cut (ps_setLc (i := 6) (own := [("_", 8)]) (g := gName 8) (tt := tYes) rfl scEm.nd rfl rfl (sw_true rfl rfl rfl (by decide +kernel)) (pi_list (pv 0)) (blkOk_by (N := NEm) (sc := defScope sEm) (by decide +kernel)) (fun _ _ _ _ _ => pg_name (i := 8) scEm.nd rfl (Or.inl rfl)) (fun _ _ _ _ _ => pts_nil) (fun _ _ _ _ _ => pe_bl))
      (Evl.pss_cut (ps_for PassesOwn.never rfl (pi_list (pv 4)) (pg_name (i := 7) scEm.nd rfl (Or.inl rfl)) (pss_one (ps_asg pe_bl (pg_sub (pv 6) (pv 7) set_list))))
      (pss_one (ps_ret (pv 6))))))))), ?_⟩
    have lts : ts.length = R.length := Paired.length pts
    obtain ⟨n, hn⟩ : ∃ n, n = R.length := ⟨_, rfl⟩
    rw [← hn] at n0 few rows came q lts
    obtain ⟨row, hrow⟩ : ∃ row, row = rowR R := ⟨_, rfl⟩
    rw [← hrow] at came q
    have rowAt : ∀ {i : Nat} {r : List Nat}, R[i]? = some r → r = row i := fun h => by
      rw [hrow]
      unfold rowR
      rw [List.getD_eq_getElem?_getD, h]
      rfl
    have rows2 : ∀ s, s < n → ∀ x ∈ row s, x < n := fun s hs x hx => by
      have e : R[s]? = some (R[s]'(by omega)) := List.getElem?_eq_getElem (by omega)
      rw [← rowAt e] at hx
      exact rows _ (List.getElem_mem _) x hx
    -- no ways yet
    refine ⟨fun σ' H' => ∃ wl, σ' = [some (.ref lr), some (.ref wl), none, none, none, none, none, none, none] ∧ More H H' ∧ H wl = none ∧ H' wl = some (.lst (fnL n fun _ => V.int ((0 : Nat) : Int))), ?_, ?_⟩
    · refine ⟨_, rfl, lr, rfl, ⟨_, SqL.of hlr⟩, fun wl hwl => ?_⟩
      refine lc_name (n := 8) (D := wl) (H1 := H) (xs := ts.map V.ref) (rs := fnL n fun _ => V.int ((0 : Nat) : Int)) walk_list hwl (fun H' m => SqL.of (m _ _ hlr)) (by rw [fnL_len, List.length_map, lts]) (by rw [List.length_map]; omega) (fun _ => rfl) ?_ ?_
      · intro i y v G Qv hy hv m q
        have li := (List.getElem?_eq_some_iff.mp hv).1
        rw [fnL_len] at li
        rw [fnL_at li] at hv
        cases hv
        exact q _ fun _ _ e => e
      · intro H' k m
        exact ⟨wl, rfl, m, hwl, k⟩
    rintro σ1 H1 ⟨wl, rfl, m1, nwl, kw1⟩
    have nlw : lr ≠ wl := ne_of_none hlr nwl
    -- the ways
    refine ⟨fun σ' H' => ∃ z2 z3, σ' = [some (.ref lr), some (.ref wl), z2, z3, none, none, none, none, none] ∧ More H H' ∧ H' wl = some (.lst (fnL n fun t => V.int ((Wy row (List.range n) t : Nat) : Int))), ?_, ?_⟩
    · refine ⟨_, rfl, lr, rfl, ⟨_, SqL.of (m1 _ _ hlr)⟩, for_list (K := K) (a := lr) (xs := ts.map V.ref) (fun i σ' H' => ∃ z2 z3, σ' = [some (.ref lr), some (.ref wl), z2, z3, none, none, none, none, none] ∧ More H H' ∧ H' wl = some (.lst (fnL n fun t => V.int ((Wy row (List.range i) t : Nat) : Int))))
        ⟨_, _, rfl, m1, kw1⟩ (fun i σ' H' _ ⟨_, _, _, m, _⟩ => SqL.of (m _ _ hlr)) ?_ ?_⟩
      · rintro i y σ' G hy ⟨z2, z3, rfl, m, kw⟩
        obtain ⟨b, hb, rfl⟩ := map_at hy
        obtain ⟨r, er, kb⟩ := paired_at pts hb
        have kb : H b = some (.tup (r.map nV)) := kb
        have li : i < n := by have := (List.getElem?_eq_some_iff.mp er).1; omega
        obtain rfl := rowAt er
        have nbw : b ≠ wl := ne_of_none kb nwl
        refine ⟨_, rfl, b, rfl, ⟨_, SqT.of (m _ _ kb)⟩, for_tup (K := K) (a := b) (xs := (row i).map nV) (fun k σ' H' => ∃ z3, σ' = [some (.ref lr), some (.ref wl), some (.ref b), z3, none, none, none, none, none] ∧ More H H' ∧ H' wl = some (.lst (fnL n fun t => V.int ((Wy row (List.range i) t + ((row i).take k).count t : Nat) : Int))))
          ⟨_, rfl, m, by rw [kw]; rfl⟩ (fun k σ' H' _ ⟨_, _, m, _⟩ => SqT.of (m _ _ kb)) ?_ ?_⟩
        · rintro k y σ' G2 hy ⟨z3, rfl, m2, kw2⟩
          obtain ⟨x, hx, rfl⟩ := map_at hy
          have xn := rows2 i li x (List.mem_of_getElem? hx)
          refine ⟨_, rfl, _, rfl, wl, _, ((x : Nat) : Int), _, rfl, rfl, SqL.of kw2, atI_nat (fnL_at xn), _, _, rfl, rfl, _, rfl, _, rfl, wl, _, ((x : Nat) : Int), x, rfl, rfl, kw2, Evl.ixN_nat (by rw [fnL_len]; exact xn), ?_⟩
          refine ⟨_, rfl, More.at m2 nwl, ?_⟩
          rw [upd_same, fnL_set (g' := fun t => V.int ((Wy row (List.range i) t + ((row i).take (k + 1)).count t : Nat) : Int))]
          · show V.int _ = V.int _
            rw [take_snoc hx, List.count_append, show List.count x [x] = 1 by simp]
            congr 1
          · intro t ht
            show V.int _ = V.int _
            rw [take_snoc hx, List.count_append, show List.count t [x] = 0 from List.count_eq_zero.mpr (by simpa using ht)]
            rfl
        · rintro σ' G2 ⟨z3, rfl, m2, kw2⟩
          refine ⟨_, _, rfl, m2, ?_⟩
          rw [List.length_map, List.take_length] at kw2
          rw [kw2, fnL_congr fun t ht => ?_]
          rw [List.range_succ, wy_snoc]
      · rintro σ' G ⟨z2, z3, rfl, m, kw⟩
        rw [List.length_map, lts] at kw
        exact ⟨_, _, rfl, m, kw⟩
    clear kw1 m1
    rintro σ2 H2 ⟨z2, z3, rfl, m2, kw⟩
    have start := Khn.start (row := row) n0 came
    -- the first one
    refine ⟨fun σ' H' => ∃ ol, σ' = [some (.ref lr), some (.ref wl), z2, z3, some (.ref ol), none, none, none, none] ∧ More H H' ∧ H ol = none ∧ ol ≠ wl ∧ H' wl = some (.lst (fnL n fun t => V.int ((Wy row (List.range n) t : Nat) : Int))) ∧ H' ol = some (.lst ((if Wy row (List.range n) 0 = 0 then [0] else []).map nV)), ?_, ?_⟩
    · refine ⟨_, rfl, wl, _, ((0 : Nat) : Int), _, rfl, rfl, SqL.of kw, atI_nat (fnL_at n0), rfl, _, rfl, ?_⟩
      rw [deI]
      by_cases z : Wy row (List.range n) 0 = 0
      · rw [decide_eq_true (by omega), if_pos z]
        refine iteT ⟨by show 1 ≤ sizeLine; decide, fun ol hol => ?_⟩
        have mo := new_more (o := .lst [V.int 0]) hol
        exact ⟨ol, rfl, fun b o e => mo _ _ (m2 _ _ e), m2.off hol, (ne_of_none kw hol).symm, mo _ _ kw, upd_same⟩
      · rw [decide_eq_false (by omega), if_neg z]
        refine iteF ⟨by show 0 ≤ sizeLine; exact Nat.zero_le _, fun ol hol => ?_⟩
        have mo := new_more (o := .lst []) hol
        exact ⟨ol, rfl, fun b o e => mo _ _ (m2 _ _ e), m2.off hol, (ne_of_none kw hol).symm, mo _ _ kw, upd_same⟩
    clear kw m2
    rintro σ3 H3 ⟨ol, rfl, m3, nol, now, kw, ko⟩
    -- taken off
    refine ⟨fun σ' H' => ∃ (z3 z5 : Option V) (o : List Nat), σ' = [some (.ref lr), some (.ref wl), z2, z3, some (.ref ol), z5, none, none, none] ∧ More H H' ∧ H' ol = some (.lst (o.map nV)) ∧ Khn n row o o.length 0, ?_, ?_⟩
    · refine ⟨fun m σ' H' => ∃ (z3 : Option V) (o : List Nat) (j : Nat), σ' = [some (.ref lr), some (.ref wl), z2, z3, some (.ref ol), some (.int (j : Nat)), none, none, none] ∧ m = n - j ∧ More H H' ∧ H' ol = some (.lst (o.map nV)) ∧ Khn n row o j 0 ∧ H' wl = some (.lst (fnL n fun t => V.int ((Wy row (List.range n) t - Wy row (o.take j) t : Nat) : Int))),
        ⟨_, z3, _, 0, rfl, rfl, m3, ko, start, kw⟩, ?_⟩
      rintro m σ' G ⟨z3, o, j, rfl, rfl, mG, koG, kh, kwG⟩
      have lo : o.length ≤ n := nodup_below n o kh.tk.nd kh.tk.lt
      refine ⟨_, rfl, _, rfl, ol, _, rfl, .inl (SqL.of koG), _, _, rfl, rfl, _, rfl, ?_⟩
      rw [List.length_map]
      refine ite2 (fun hz => ?_) (fun hz => ?_)
      · have hj : j < o.length := by have := of_decide_eq_true hz; omega
        obtain ⟨a, ha⟩ : ∃ a, o[j]? = some a := ⟨o[j], List.getElem?_eq_getElem hj⟩
        have ga : o.getD j 0 = a := by rw [List.getD_eq_getElem?_getD, ha]; rfl
        have an := kh.tk.lt a (List.mem_of_getElem? ha)
        obtain ⟨b, hb⟩ : ∃ b, ts[a]? = some b := ⟨ts[a]'(by omega), List.getElem?_eq_getElem (by omega)⟩
        obtain ⟨r, er, kb⟩ := paired_at pts hb
        have kb : H b = some (.tup (r.map nV)) := kb
        obtain rfl := rowAt er
        refine ⟨fun σ' H' => ∃ (z3 : Option V) (o : List Nat) (j' : Nat), σ' = [some (.ref lr), some (.ref wl), z2, z3, some (.ref ol), some (.int (j' : Nat)), none, none, none] ∧ n - j' < n - j ∧ More H H' ∧ H' ol = some (.lst (o.map nV)) ∧ Khn n row o j' 0 ∧ H' wl = some (.lst (fnL n fun t => V.int ((Wy row (List.range n) t - Wy row (o.take j') t : Nat) : Int))),
          fun σ' H' ⟨z3, o, j', e, l, x⟩ => ⟨n - j', l, z3, o, j', e, rfl, x⟩, ?_⟩
        refine ⟨fun σ' H' => ∃ (z3 : Option V) (o : List Nat), σ' = [some (.ref lr), some (.ref wl), z2, z3, some (.ref ol), some (.int (j : Nat)), none, none, none] ∧ More H H' ∧ H' ol = some (.lst (o.map nV)) ∧ o[j]? = some a ∧ Khn n row o j (row a).length ∧ H' wl = some (.lst (fnL n fun t => V.int ((Wy row (List.range n) t - (Wy row (o.take j) t + ((row a).take (row a).length).count t) : Nat) : Int))), ?_, ?_⟩
        · refine ⟨_, rfl, _, rfl, _, rfl, ol, _, ((j : Nat) : Int), _, rfl, rfl, SqL.of koG, atI_nat (at_map ha), lr, _, ((a : Nat) : Int), _, rfl, rfl, SqL.of (mG _ _ hlr), atI_nat (at_map hb), b, rfl, ⟨_, SqT.of (mG _ _ kb)⟩, for_tup (K := K) (a := b) (xs := (row a).map nV) (fun k σ' H' => ∃ (z3 : Option V) (o : List Nat), σ' = [some (.ref lr), some (.ref wl), z2, z3, some (.ref ol), some (.int (j : Nat)), none, none, none] ∧ More H H' ∧ H' ol = some (.lst (o.map nV)) ∧ o[j]? = some a ∧ Khn n row o j k ∧ H' wl = some (.lst (fnL n fun t => V.int ((Wy row (List.range n) t - (Wy row (o.take j) t + ((row a).take k).count t) : Nat) : Int))))
            ⟨z3, o, rfl, mG, koG, ha, kh, by rw [kwG, List.take_zero]; rfl⟩ (fun k σ' H' _ ⟨_, _, _, m, _⟩ => SqT.of (m _ _ kb)) ?_ ?_⟩
          · rintro k y σ' G2 hy ⟨z3, o, rfl, m2, ko2, ha2, kh2, kw2⟩
            obtain ⟨x, hx, rfl⟩ := map_at hy
            have hj2 := (List.getElem?_eq_some_iff.mp ha2).1
            have ga2 : o.getD j 0 = a := by rw [List.getD_eq_getElem?_getD, ha2]; rfl
            have lo2 : o.length ≤ n := nodup_below n o kh2.tk.nd kh2.tk.lt
            obtain ⟨xn, bnd, st⟩ := kh2.step hj2 rows2 (x := x) (by rw [ga2]; exact hx)
            rw [ga2] at bnd st
            have ct : ∀ t, ((row a).take (k + 1)).count t = ((row a).take k).count t + if x = t then 1 else 0 := fun t => by
              rw [take_snoc hx, List.count_append]
              by_cases e : x = t
              · rw [if_pos e, e, show List.count t [t] = 1 by simp]
              · rw [if_neg e, show List.count t [x] = 0 from List.count_eq_zero.mpr (by simpa using Ne.symm e)]
            have cx := ct x
            rw [if_pos rfl] at cx
            refine ⟨_, rfl, _, rfl, wl, _, ((x : Nat) : Int), _, rfl, rfl, SqL.of kw2, atI_nat (fnL_at xn), _, _, rfl, rfl, _, rfl, _, rfl, wl, _, ((x : Nat) : Int), x, rfl, rfl, kw2, Evl.ixN_nat (by rw [fnL_len]; exact xn), ?_⟩
            rw [fnL_set (g' := fun t => V.int ((Wy row (List.range n) t - (Wy row (o.take j) t + ((row a).take (k + 1)).count t) : Nat) : Int)) (by
                show V.int _ = V.int _
                congr 1
                omega) (fun t ht => by
                show V.int _ = V.int _
                rw [ct t, if_neg (Ne.symm ht), Nat.add_zero])]
            have kw3 : (upd G2 wl (.lst (fnL n fun t => V.int ((Wy row (List.range n) t - (Wy row (o.take j) t + ((row a).take (k + 1)).count t) : Nat) : Int)))) wl = some (.lst (fnL n fun t => V.int ((Wy row (List.range n) t - (Wy row (o.take j) t + ((row a).take (k + 1)).count t) : Nat) : Int))) := upd_same
            have ko3 := (upd_ne (o := .lst (fnL n fun t => V.int ((Wy row (List.range n) t - (Wy row (o.take j) t + ((row a).take (k + 1)).count t) : Nat) : Int))) now).trans ko2
            have m3 : More H (upd G2 wl (.lst (fnL n fun t => V.int ((Wy row (List.range n) t - (Wy row (o.take j) t + ((row a).take (k + 1)).count t) : Nat) : Int)))) := More.at m2 nwl
            generalize upd G2 wl (.lst (fnL n fun t => V.int ((Wy row (List.range n) t - (Wy row (o.take j) t + ((row a).take (k + 1)).count t) : Nat) : Int))) = G3 at kw3 ko3 m3 ⊢
            refine ⟨_, rfl, _, rfl, wl, _, ((x : Nat) : Int), _, rfl, rfl, SqL.of kw3, atI_nat (fnL_at xn), rfl, _, rfl, ?_⟩
            rw [deI]
            by_cases z : Wy row (o.take j) x + ((row a).take (k + 1)).count x = Wy row (List.range n) x
            · rw [if_pos z] at st
              rw [decide_eq_true (by omega)]
              refine iteT ⟨_, rfl, .inl ⟨rfl, _, SqL.of ko3⟩, _, rfl, ol, _, _, rfl, rfl, ko3, by rw [List.length_map]; exact small1000 (by omega), ?_⟩
              refine ⟨_, o ++ [x], rfl, More.at m3 nol, by rw [upd_same, List.map_append]; rfl, by rw [List.getElem?_append_left hj2]; exact ha2, st, ?_⟩
              rw [upd_ne now.symm, kw3, List.take_append_of_le_length (by omega)]
            · rw [if_neg z] at st
              rw [decide_eq_false (by omega)]
              exact iteF ⟨_, o, rfl, m3, ko3, ha2, st, kw3⟩
          · rintro σ' G2 ⟨z3, o, rfl, m2, ko2, ha2, kh2, kw2⟩
            rw [List.length_map] at kh2 kw2
            exact ⟨z3, o, rfl, m2, ko2, ha2, kh2, kw2⟩
        · rintro σ' G2 ⟨z3, o, rfl, m2, ko2, ha2, kh2, kw2⟩
          have hj2 := (List.getElem?_eq_some_iff.mp ha2).1
          have ga2 : o.getD j 0 = a := by rw [List.getD_eq_getElem?_getD, ha2]; rfl
          have lo2 : o.length ≤ n := nodup_below n o kh2.tk.nd kh2.tk.lt
          have kh3 := Khn.over (K := by rw [ga2]; exact kh2) hj2
          refine ⟨_, rfl, _, _, rfl, rfl, z3, o, j + 1, rfl, by omega, m2, ko2, kh3, ?_⟩
          rw [kw2, fnL_congr fun t ht => ?_]
          rw [List.take_length, take_snoc ha2, wy_snoc]
      · have hj : ¬ j < o.length := fun h => hz (decide_eq_true (by omega))
        have : j = o.length := by have := kh.le; omega
        subst this
        exact ⟨_, _, o, rfl, mG, koG, kh⟩
    clear kw ko m3 start
    rintro σ4 H4 ⟨z3, z5, o, rfl, m4, ko, kh⟩
    have lo : o.length ≤ n := nodup_below n o kh.tk.nd kh.tk.lt
    -- the marks
    refine ⟨fun σ' H' => ∃ ml, σ' = [some (.ref lr), some (.ref wl), z2, z3, some (.ref ol), z5, some (.ref ml), none, none] ∧ More H H' ∧ H ml = none ∧ ml ≠ ol ∧ H' ol = some (.lst (o.map nV)) ∧ H' ml = some (.lst (fnL n fun _ => V.bl false)), ?_, ?_⟩
    · refine ⟨_, rfl, lr, rfl, ⟨_, SqL.of (m4 _ _ hlr)⟩, fun ml hml => ?_⟩
      refine lc_name (n := 8) (D := ml) (H1 := H4) (xs := ts.map V.ref) (rs := fnL n fun _ => V.bl false) walk_list hml (fun H' m => SqL.of (m _ _ (m4 _ _ hlr))) (by rw [fnL_len, List.length_map, lts]) (by rw [List.length_map]; omega) (fun _ => rfl) ?_ ?_
      · intro i y v G Qv hy hv m q
        have li := (List.getElem?_eq_some_iff.mp hv).1
        rw [fnL_len] at li
        rw [fnL_at li] at hv
        cases hv
        exact q _ fun _ _ e => e
      · intro H' k m
        exact ⟨ml, rfl, fun b o e => m _ _ (m4 _ _ e), m4.off hml, (ne_of_none ko hml).symm, m _ _ ko, k⟩
    clear ko m4
    rintro σ5 H5 ⟨ml, rfl, m5, nml, nmo, ko, km⟩
    refine ⟨fun σ' H' => ∃ z7, σ' = [some (.ref lr), some (.ref wl), z2, z3, some (.ref ol), z5, some (.ref ml), z7, none] ∧ More H H' ∧ H' ml = some (.lst (fnL n fun t => V.bl (decide (t ∈ o)))), ?_, ?_⟩
    · refine ⟨_, rfl, ol, rfl, ⟨_, SqL.of ko⟩, for_list (K := K) (a := ol) (xs := o.map nV) (fun k σ' H' => ∃ z7, σ' = [some (.ref lr), some (.ref wl), z2, z3, some (.ref ol), z5, some (.ref ml), z7, none] ∧ More H H' ∧ H' ol = some (.lst (o.map nV)) ∧ H' ml = some (.lst (fnL n fun t => V.bl (decide (t ∈ o.take k)))))
        ⟨_, rfl, m5, ko, by rw [km]; rfl⟩ (fun k σ' H' _ ⟨_, _, _, h, _⟩ => SqL.of h) ?_ ?_⟩
      · rintro k y σ' G hy ⟨z7, rfl, m, koG, kmG⟩
        obtain ⟨x, hx, rfl⟩ := map_at hy
        have xn := kh.tk.lt x (List.mem_of_getElem? hx)
        refine ⟨_, rfl, _, rfl, ml, _, ((x : Nat) : Int), x, rfl, rfl, kmG, Evl.ixN_nat (by rw [fnL_len]; exact xn), ?_⟩
        refine ⟨_, rfl, More.at m nml, (upd_ne nmo.symm).trans koG, ?_⟩
        rw [upd_same, fnL_set (g' := fun t => V.bl (decide (t ∈ o.take (k + 1))))]
        · rw [take_snoc hx]
          exact congrArg V.bl (decide_eq_true (List.mem_append.mpr (.inr (.head _))))
        · intro t ht
          rw [take_snoc hx]
          refine congrArg V.bl (decide_eq_decide.mpr ?_)
          rw [List.mem_append]
          exact ⟨fun h => h.elim id fun h => absurd (by simpa using h) ht, .inl⟩
      · rintro σ' G ⟨z7, rfl, m, koG, kmG⟩
        rw [List.length_map, List.take_length] at kmG
        exact ⟨_, rfl, m, kmG⟩
    rintro σ6 H6 ⟨z7, rfl, m6, km6⟩
    exact ⟨_, rfl, q H6 ml o m6 km6 kh⟩
end
end K72

/-! Rp: a tuple times 0 or 1. -/
namespace Gd
open PySem PySem.Spec PyProof.Rows L2
theorem mul_one (l : Addr) (items : Array Value) (n : Nat) (dd : Option Addr) (sl : Array (Option Value)) (u : Tok) :
    Meets (Builtin.«tuple.__mul__» ⟨[.ref l, .int 1 u], []⟩)
      (fun _ R s => s.heap.get? l = some { cls := .type "tuple", dict := dd, data := .seq items n, slots := sl } ∧ R (.ok (.ret (Value.ref l))) s) :=
  .of_wp fun prog w A R s h => by
    obtain ⟨hp, g, d, tk, os⟩ := s
    obtain ⟨hl, h⟩ := h
    have f1 := AutoSeq1.idx_int
    wp_walk using wpAny_loadPart' hl
    repeat (first
      | (refine wpAny_ite_false (by decide) ?_; wp_walk using wpAny_loadPart' hl)
      | (refine wpAny_ite_true (by simp) ?_; wp_walk using wpAny_loadPart' hl))
    exact ⟨_, rfl, h⟩
theorem mul_zero (l : Addr) (items : Array Value) (n : Nat) (dd : Option Addr) (sl : Array (Option Value)) (u : Tok) (ne : items.isEmpty = false) :
    Meets (Builtin.«tuple.__mul__» ⟨[.ref l, .int 0 u], []⟩)
      (fun _ R s => s.heap.get? l = some { cls := .type "tuple", dict := dd, data := .seq items n, slots := sl } ∧
        R (.ok (.ret (Value.ref s.heap.objs.size))) { s with heap := s.heap.push { cls := Value.type "tuple", data := Data.seq #[] }, toks := s.toks }) :=
  .of_wp fun prog w A R s h => by
    obtain ⟨hp, g, d, tk, os⟩ := s
    obtain ⟨hl, h⟩ := h
    have f1 := AutoSeq1.idx_int
    wp_walk using wpAny_loadPart' hl
    repeat (first
      | (refine wpAny_ite_false (by simp [ne]) ?_; wp_walk using wpAny_loadPart' hl)
      | (refine wpAny_ite_true (by simp [ne]) ?_; wp_walk using wpAny_loadPart' hl))
    exact ⟨_, rfl, h⟩

/-- a tuple times a small number -/
def rRepN (K : PySem.W.Frag) : R2 := fun x y H Q => rRepT K x y H Q ∨ ∃ (l : Addr) (k : Int) (xs : List V), x = .ref l ∧ y = .int k ∧ SqT K H l xs ∧ xs ≠ [] ∧
  ((k = 1 ∧ Q (.ref l) H) ∨ (k = 0 ∧ ∀ p, H p = none → Q (.ref p) (upd H p (.tup []))))
theorem op_repN {X : Cx} : OpR X (binaryOp .Mult) (rRepN X.K) := by
  intro pins s σ H x y v u Q I rx ry h
  obtain h | ⟨l, k, xs, rfl, rfl, hT, hne, h⟩ := h
  · exact op_repT pins s σ H x y v u Q I rx ry h
  cases rx
  obtain ⟨t, rfl⟩ := ry
  obtain ⟨its, r, ⟨⟨cls, dd, data, sl⟩, ho, hc, n, hd⟩, hs⟩ := I.tuple hT
  simp only at hc hd
  subst hc hd
  have hn : its.toArray.isEmpty = false := by
    cases its with
    | cons a b => rfl
    | nil =>
      have e := r.length
      exact (hne (List.eq_nil_of_length_eq_zero e)).elim
  have is : s.TypeIs (.ref l) "tuple" := ⟨_, ho, rfl⟩
  obtain ⟨rfl, q⟩ | ⟨rfl, q⟩ := h
  · refine wpAny_binaryOp_repeat_ref (T := "tuple") (U := "int") (by decide) is (fun s' => typeIs_int s' 1 t) noFill_tuple_mul F.fills_int_mul F.slot_int_rmul repeat_tuple F.slot_int_index.lookup
      (call_meets F.slot_int_rmul (typeIs_int s 1 t) F.entry_int_rmul (F.args_int_rmul_2 _ _) (int_rmul_tuple 1 t l its.toArray n dd sl)
        ⟨ho, rfl, is, call_meets F.slot_tuple_mul is F.entry_tuple_mul (F.args_tuple_mul_2 _ _) (mul_one l its.toArray n dd sl t) ⟨ho, ?_⟩⟩)
    exact ⟨.ref l, H, I, rfl, q⟩
  · refine wpAny_binaryOp_repeat_ref (T := "tuple") (U := "int") (by decide) is (fun s' => typeIs_int s' 0 t) noFill_tuple_mul F.fills_int_mul F.slot_int_rmul repeat_tuple F.slot_int_index.lookup
      (call_meets F.slot_int_rmul (typeIs_int s 0 t) F.entry_int_rmul (F.args_int_rmul_2 _ _) (int_rmul_tuple 0 t l its.toArray n dd sl)
        ⟨ho, rfl, is, call_meets F.slot_tuple_mul is F.entry_tuple_mul (F.args_tuple_mul_2 _ _) (mul_zero l its.toArray n dd sl t hn) ⟨ho, ?_⟩⟩)
    refine ⟨.ref s.heap.objs.size, _, I.laid (t' := s.toks) (o := .tup []) (fun b ob q => Heap.get?_push_of_some _ q) (Nat.le_refl _) ?_, rfl, q _ (I.hok.fresh (Nat.le_refl _))⟩
    exact ⟨Nat.zero_le _, _, .nil, IsTup.new _ _⟩

/-- two tuples of the same flat values -/
theorem items_same {A : Around} {s : Shared} : ∀ {xs : List V} {us ws : List Value}, xs.all flatB = true → Vals xs us → Vals xs ws →
    ∀ j (h1 : j < us.length) (h2 : j < ws.length), SeqAt.EqAt A s us[j] ws[j] true
  | _, _, _, _, .nil, .nil, j, h1, _ => absurd h1 (Nat.not_lt_zero j)
  | _, _, _, f, .cons a as, .cons b bs, j, h1, h2 => by
    rw [List.all_cons, Bool.and_eq_true] at f
    cases j with
    | zero => exact eqAt_same a b f.1
    | succ j => exact items_same f.2 as bs j (Nat.lt_of_succ_lt_succ h1) (Nat.lt_of_succ_lt_succ h2)
def rTS (K : PySem.W.Frag) (r : Bool) : R2 := fun x y H Q => ∃ (a b : Addr) (xs : List V), x = .ref a ∧ y = .ref b ∧ SqT K H a xs ∧ SqT K H b xs ∧
  xs.all flatB = true ∧ Q (.bl r) H
section
variable {X : Cx}
theorem all_true {m n : Nat} (h : m = n) : ((List.range (min m n)).all (fun _ => true) && m == n) = true := by
  subst h
  rw [beq_self_eq_true, Bool.and_true]
  exact List.all_eq_true.mpr fun _ _ => rfl
theorem op_eqTS (hu : X.A.units < cLine) : OpR X (compareOp .Eq) (rTS X.K true) := by
  intro pins s σ H x y v u Q I rx ry h
  obtain ⟨a, b, xs, rfl, rfl, ha, hb, f, q⟩ := h
  cases (show v = Value.ref a from rx)
  cases (show u = Value.ref b from ry)
  obtain ⟨us, r1, p1, _⟩ := I.tuple ha
  obtain ⟨ws, r2, p2, _⟩ := I.tuple hb
  have same : us.toArray.size = ws.toArray.size := by
    rw [List.size_toArray, List.size_toArray, ← r1.length, ← r2.length]
  have all := SeqAt.RcAt.tuples (A := X.A) (s := s) (e := fun _ => true) p1 p2 hu fun j h1 h2 => by
    have k := items_same (A := X.A.in1) (s := s) f r1 r2 j (by simpa using h1) (by simpa using h2)
    simpa using k
  refine all X.prog X.w _ _ ?_
  rw [all_true same]
  exact ⟨.bl true, H, I, rfl, q⟩
theorem op_neTS (hu : X.A.units < cLine) : OpR X (compareOp .NotEq) (rTS X.K false) := by
  intro pins s σ H x y v u Q I rx ry h
  obtain ⟨a, b, xs, rfl, rfl, ha, hb, f, q⟩ := h
  cases (show v = Value.ref a from rx)
  cases (show u = Value.ref b from ry)
  obtain ⟨us, r1, p1, _⟩ := I.tuple ha
  obtain ⟨ws, r2, p2, _⟩ := I.tuple hb
  have same : us.toArray.size = ws.toArray.size := by
    rw [List.size_toArray, List.size_toArray, ← r1.length, ← r2.length]
  have all := SeqAt.RcNeAt.tuples (A := X.A) (s := s) (e := fun _ => true) p1 p2 hu fun j h1 h2 => by
    have k := items_same (A := X.A.in1) (s := s) f r1 r2 j (by simpa using h1) (by simpa using h2)
    simpa using k
  refine all X.prog X.w _ _ ?_
  rw [all_true same]
  exact ⟨.bl false, H, I, rfl, q⟩
end
end Gd

/-! Lmd: what stays while tables of code objects grow; rows of tries; one and the same object is equal to itself. -/
namespace B5
open PySem L2 Gd
abbrev ExtN := LamX.ExtN
/-- tables grow, dicts of words change, all else stays -/
def Kp (H H' : Hp) : Prop := ∀ b o, H b = some o → (∀ ps, o ≠ .tbl ps) → ((∃ kvs, o = .dK kvs) ∧ ∃ kvs, H' b = some (.dK kvs)) ∨ H' b = some o
theorem Kp.at {H H' : Hp} (m : Kp H H') {b : Addr} {o : HO} (h : H b = some o) (nt : ∀ ps, o ≠ .tbl ps) (nk : ∀ kvs, o ≠ .dK kvs) : H' b = some o := by
  rcases m b o h nt with ⟨⟨kvs, z⟩, _⟩ | z
  · exact absurd z (nk kvs)
  · exact z
theorem Kp.lst {H H' : Hp} (m : Kp H H') {b : Addr} {xs : List V} (h : H b = some (.lst xs)) : H' b = some (.lst xs) := m.at h (fun _ z => nomatch z) fun _ z => nomatch z
theorem Kp.tup {H H' : Hp} (m : Kp H H') {b : Addr} {xs : List V} (h : H b = some (.tup xs)) : H' b = some (.tup xs) := m.at h (fun _ z => nomatch z) fun _ z => nomatch z
theorem Kp.dK {H H' : Hp} (m : Kp H H') {b : Addr} {kvs : List (Key × V)} (h : H b = some (.dK kvs)) : ∃ kvs, H' b = some (.dK kvs) := by
  rcases m b _ h (fun _ z => nomatch z) with ⟨_, z⟩ | z
  · exact z
  · exact ⟨_, z⟩
theorem Kp.refl {H : Hp} : Kp H H := fun _ _ h _ => .inr h
theorem Kp.of {H H' : Hp} (m : More H H') : Kp H H' := fun b o h _ => .inr (m b o h)
theorem Kp.ext {H H' : Hp} (m : ExtN H H') : Kp H H' := fun b o h nt => .inr (m b o h nt)
theorem Kp.trans {H H1 H2 : Hp} (a : Kp H H1) (b : Kp H1 H2) : Kp H H2 := fun c o h nt => by
  rcases a c o h nt with ⟨⟨kvs, rfl⟩, kvs1, z⟩ | z
  · exact .inl ⟨⟨_, rfl⟩, b.dK z⟩
  · exact b c o z nt
theorem Kp.off {d : Addr} {H H' : Hp} (of : Off d H H') (hd : ∃ kvs, H d = some (.dK kvs)) (hd' : ∃ kvs, H' d = some (.dK kvs)) : Kp H H' := fun b o h _ => by
  by_cases z : b = d
  · subst z
    obtain ⟨kvs, e⟩ := hd
    rw [e] at h
    exact .inl ⟨⟨_, (Option.some.inj h).symm⟩, hd'⟩
  · exact .inr (of b o h z)
theorem Pen.dk {H : Hp} {d c : Addr} {n : Int} (h : Pen H d c n) : ∃ kvs, H d = some (.dK kvs) := let ⟨kvs, _, _, _, _, h1, _⟩ := h; ⟨kvs, h1⟩
theorem Kp.dr {d c : Addr} {n m : Int} {H H' : Hp} (h : Drawn H H' d c n) (p : Pen H d c m) : Kp H H' := .off (.dr h) p.dk h.pen.dk
theorem sqL_kp {K : PySem.W.Frag} {H H' : Hp} {a : Addr} {xs : List V} (e : Kp H H') : SqL K H a xs → SqL K H' a xs
  | .inl (.inl h) => .inl (.inl (e.at h (fun _ z => nomatch z) fun _ z => nomatch z))
  | .inl (.inr ⟨o, h⟩) => .inl (.inr ⟨o, e.at h (fun _ z => nomatch z) fun _ z => nomatch z⟩)
  | .inr h => .inr h
theorem sqT_kp {K : PySem.W.Frag} {H H' : Hp} {a : Addr} {xs : List V} (e : Kp H H') : SqT K H a xs → SqT K H' a xs
  | .inl (.inl h) => .inl (.inl (e.at h (fun _ z => nomatch z) fun _ z => nomatch z))
  | .inl (.inr ⟨o, h⟩) => .inl (.inr ⟨o, e.at h (fun _ z => nomatch z) fun _ z => nomatch z⟩)
  | .inr h => .inr h
theorem Sq.kp {K : PySem.W.Frag} {H H' : Hp} {a : Addr} {xs : List V} (e : Kp H H') : Sq K H a xs → Sq K H' a xs
  | .inl h => .inl (sqL_kp e h)
  | .inr h => .inr (sqT_kp e h)
theorem tyKp {K : PySem.W.Frag} {H H' : Hp} {x : V} {n : String} (e : Kp H H') (t : TyX K H x (.type n)) : TyX K H' x (.type n) := by
  cases t with
  | base t =>
    refine .base ?_
    cases t with
    | non => exact .non
    | bl b => exact .bl b
    | int i => exact .int i
    | str z => exact .str z
    | flt z => exact .flt z
    | lst h => exact .lst (e.at h (fun _ z => nomatch z) fun _ z => nomatch z)
    | frz h => exact .frz (e.at h (fun _ z => nomatch z) fun _ z => nomatch z)
    | tup h => exact .tup (e.at h (fun _ z => nomatch z) fun _ z => nomatch z)
    | dK h => exact .dK (e.dK h).choose_spec
    | dT h => exact .dT (e.at h (fun _ z => nomatch z) fun _ z => nomatch z)
  | byt b => exact .byt b
  | set h => exact .set (e.at h (fun _ z => nomatch z) fun _ z => nomatch z)
  | kList h c => exact .kList h c
  | kTuple h c => exact .kTuple h c
  | kDict h c => exact .kDict h c
  | fTuple h => exact .fTuple (e.at h (fun _ z => nomatch z) fun _ z => nomatch z)
  | fDict h => exact .fDict (e.at h (fun _ z => nomatch z) fun _ z => nomatch z)
theorem NoInt.kp {K : PySem.W.Frag} {H H' : Hp} {x : V} (e : Kp H H') (h : NoInt K H x) : NoInt K H' x := let ⟨n, m, t⟩ := h; ⟨n, m, tyKp e t⟩
theorem NoSq.kp {K : PySem.W.Frag} {H H' : Hp} {x : V} (e : Kp H H') (h : NoSq K H x) : NoSq K H' x := let ⟨n, m, t⟩ := h; ⟨n, m, tyKp e t⟩
theorem Its.kp {K : PySem.W.Frag} {H H' : Hp} {ys : List V} (e : Kp H H') (h : Its K H ys) : Its K H' ys := ⟨h.1, fun y hy => (h.2 y hy).imp id fun z => z.kp e⟩
theorem BadP.kp {K : PySem.W.Frag} {H H' : Hp} {x : V} (e : Kp H H') (h : BadP K H x) : BadP K H' x := h.imp id fun z => z.kp e
theorem GRow.kp {K : PySem.W.Frag} {H H' : Hp} {p : Int} {many : Nat} {x : V} {ds : List Int} (m : Kp H H') (h : GRow K H p many x ds) : GRow K H' p many x ds :=
  ⟨let ⟨b, e, s⟩ := h.ex; ⟨b, e, s.kp m⟩, h.len, h.ok⟩
theorem NRow.kp {K : PySem.W.Frag} {H H' : Hp} {p : Int} {many : Nat} {x : V} (m : Kp H H') (h : NRow K H p many x) : NRow K H' p many x := by
  obtain h | ⟨b, ys, e, s, i, h⟩ := h
  · exact .inl (h.kp m)
  · exact .inr ⟨b, ys, e, s.kp m, i.kp m, h⟩
theorem NWor.kp {K : PySem.W.Frag} {H H' : Hp} {many : Nat} {x : V} (m : Kp H H') (h : NWor K H many x) : NWor K H' many x := by
  obtain h | ⟨b, ys, e, s, i, h⟩ := h
  · exact .inl (h.kp m)
  · exact .inr ⟨b, ys, e, s.kp m, i.kp m, h⟩
theorem TupI.kp {K : PySem.W.Frag} {H H' : Hp} {x : V} {k : List Int} (m : Kp H H') (h : TupI K H x k) : TupI K H' x k := let ⟨b, e, s⟩ := h; ⟨b, e, sqT_kp m s⟩
theorem MAt.kp {K : PySem.W.Frag} {H H' : Hp} {C a : Addr} {p : Int} {dss : List (List Int)} {ws : List Int} (m : Kp H H') (h : MAt K H C a p dss ws) : MAt K H' C a p dss ws :=
  let ⟨dx, t, u, xs, h1, h2, h3, h4⟩ := h; ⟨dx, t, u, xs, m.at h1 (fun _ z => nomatch z) (fun _ z => nomatch z), sqT_kp m h2, paired_imp (fun _ _ r => r.kp m) h3, sqT_kp m h4⟩
/-- a list that is no table is put anew -/
theorem tabs_upd {T : List (Addr × Str)} {H : Hp} {a : Addr} {xs ys : List V} (t : LamX.Tabs T H) (h : H a = some (.lst xs)) : LamX.Tabs T (upd H a (.lst ys)) := fun p hp => by
  obtain ⟨ps, h1, h2, h3⟩ := t p hp
  refine ⟨ps, by rw [upd_ne (ne_of h1 h (by intro z; cases z))]; exact h1, h2, fun pos cv hc => ?_⟩
  obtain ⟨c, e1, e2⟩ := h3 pos cv hc
  exact ⟨c, e1, by rw [upd_ne (ne_of e2 h (by intro z; cases z))]; exact e2⟩
theorem tabs_off {T : List (Addr × Str)} {H H' : Hp} {d : Addr} {kvs : List (Key × V)} (t : LamX.Tabs T H) (m : Off d H H') (h : H d = some (.dK kvs)) : LamX.Tabs T H' := fun p hp => by
  obtain ⟨ps, h1, h2, h3⟩ := t p hp
  refine ⟨ps, m _ _ h1 (ne_of h1 h (by intro z; cases z)), h2, fun pos cv hc => ?_⟩
  obtain ⟨c, e1, e2⟩ := h3 pos cv hc
  exact ⟨c, e1, m _ _ e2 (ne_of e2 h (by intro z; cases z))⟩
/-- a value that is itself again: flat and equal, or one object -/
def Self (x : V) : Prop := (flatV x = true ∧ eqV x x = true) ∨ ∃ a, x = .ref a
def DId : Eqv := fun x y _ => ∃ a, x = .ref a ∧ y = .ref a
theorem mon_id : Mon DId := fun _ _ _ _ _ d => d
theorem eqG_id {X : Cx} : EqG X 0 DId := by
  intro A pins s σ H x y u v sb I rx ry d
  obtain ⟨a, rfl, rfl⟩ := d
  cases rx
  cases ry
  unfold eqBool
  refine wpAny_holding ?_
  rw [if_pos (by simp)]
  refine wpAny_bind (wpAny_rule (wpAny_pure ?_))
  exact ⟨rfl, H, I, Ext.rfl'⟩
abbrev DSelf : Eqv := fun x y H => DFlat x y H ∨ DId x y H
theorem op_eqSelf {X : Cx} (hr : Room 1 X.A) : OpR X (compareOp .Eq) (rEqG (DList DSelf)) := op_eqG (rcG_list (n := 0) (Mon.or mon_flat mon_id) (EqG.or eqG_flat eqG_id)) hr
theorem prs_self {H : Hp} : ∀ {xs : List V}, (∀ x ∈ xs, Self x) → Prs DSelf xs xs H
  | [], _ => .nil
  | x :: xs, h => .cons (by
      obtain ⟨a, b⟩ | ⟨a, e⟩ := h x (.head _)
      · exact .inl ⟨a, a, b⟩
      · exact .inr ⟨a, e, e⟩) (prs_self fun y hy => h y (.tail _ hy))
theorem self_int (i : Int) : Self (.int i) := .inl ⟨rfl, by simp [eqV]⟩
theorem self_non : Self .non := .inl ⟨rfl, rfl⟩
theorem self_bl (b : Bool) : Self (.bl b) := .inl ⟨rfl, by simp [eqV]⟩
theorem self_str (z : Str) : Self (.str z) := .inl ⟨rfl, by simp [eqV]⟩
theorem self_ref (a : Addr) : Self (.ref a) := .inr ⟨a, rfl⟩
/-- a try: the list that was found and the one that is due have the same items -/
def TrOk (H : Hp) (t : V) : Prop := ∃ (q f u : Addr) (xs : List V), t = .ref q ∧ H q = some (.tup [.ref f, .ref u]) ∧ H f = some (.lst xs) ∧ H u = some (.lst xs) ∧ ∀ x ∈ xs, Self x
theorem TrOk.ext {H H' : Hp} {t : V} (m : LamX.ExtN H H') (h : TrOk H t) : TrOk H' t := let ⟨q, f, u, xs, e, h1, h2, h3, h4⟩ := h; ⟨q, f, u, xs, e, m _ _ h1 (fun _ z => nomatch z), m _ _ h2 (fun _ z => nomatch z), m _ _ h3 (fun _ z => nomatch z), h4⟩
/-- the tries so far, in the list at L -/
structure Jr (H0 : Hp) (L : Addr) (T : List (Addr × Str)) (ts : List V) (H : Hp) : Prop where
  ex : ∃ G : Hp, ExtN G H ∧ G L = none ∧ ExtN H0 G ∧ ∀ t ∈ ts, TrOk G t
  tab : LamX.Tabs T H
  at_ : H L = some (.lst ts)
theorem del_ext {H : Hp} {L : Addr} : ExtN (del H L) H := fun b o e _ => by
  by_cases z : b = L
  · rw [z, del_same] at e
    cases e
  · rw [del_ne z] at e
    exact e
theorem ext_del {G H : Hp} {L : Addr} (m : ExtN G H) (n : G L = none) : ExtN G (del H L) := fun b o e no => by
  rw [del_ne (ne_of_none e n)]
  exact m b o e no
theorem Jr.ext {H0 H H' : Hp} {L : Addr} {T : List (Addr × Str)} {ts : List V} (j : Jr H0 L T ts H) (m : ExtN H H') (t : LamX.Tabs T H') : Jr H0 L T ts H' :=
  ⟨let ⟨G, a, b, c, d⟩ := j.ex; ⟨G, a.trans m, b, c, d⟩, t, m _ _ j.at_ fun _ z => nomatch z⟩
theorem Jr.base {H0 H : Hp} {L : Addr} {T : List (Addr × Str)} {ts : List V} (j : Jr H0 L T ts H) : ExtN H0 H := let ⟨_, a, _, c, _⟩ := j.ex; c.trans a
/-- one try more: new objects f, u, q beside -/
theorem Jr.step {H0 H H2 : Hp} {L f u q : Addr} {T : List (Addr × Str)} {ts xs : List V} (j : Jr H0 L T ts H) (m : ExtN H H2) (t : LamX.Tabs T H2) (fL : f ≠ L) (uL : u ≠ L) (hq : H2 q = some (.tup [.ref f, .ref u]))
    (hf : H2 f = some (.lst xs)) (hu : H2 u = some (.lst xs)) (al : ∀ x ∈ xs, Self x) : Jr H0 L T (ts ++ [.ref q]) (upd H2 L (.lst (ts ++ [.ref q]))) := by
  obtain ⟨G, a, b, c, d⟩ := j.ex
  have h2 := m _ _ j.at_ fun _ z => nomatch z
  have qL : q ≠ L := ne_of hq h2 (by intro z; cases z)
  refine ⟨⟨del H2 L, fun x o e _ => ?_, del_same, c.trans (ext_del (a.trans m) b), fun x hx => ?_⟩, tabs_upd t h2, upd_same⟩
  · by_cases z : x = L
    · rw [z, del_same] at e
      cases e
    · rw [del_ne z] at e
      rw [upd_ne z]
      exact e
  · rcases List.mem_append.mp hx with hx | hx
    · exact (d x hx).ext (ext_del (a.trans m) b)
    · have e : x = .ref q := by simpa using hx
      exact ⟨q, f, u, xs, e, by rw [del_ne qL]; exact hq, by rw [del_ne fL]; exact hf, by rw [del_ne uL]; exact hu, al⟩
/-- the first one -/
theorem Jr.first {H0 H : Hp} {L f u q : Addr} {T : List (Addr × Str)} {xs : List V} (m : ExtN H0 H) (t : LamX.Tabs T H) (nL : H L = none) (hq : H q = some (.tup [.ref f, .ref u])) (hf : H f = some (.lst xs)) (hu : H u = some (.lst xs)) (al : ∀ x ∈ xs, Self x) :
    Jr H0 L T [.ref q] (upd H L (.lst [.ref q])) :=
  ⟨⟨H, .of (new_more nL), nL, m, fun x hx => by
    have e : x = .ref q := by simpa using hx
    exact ⟨q, f, u, xs, e, hq, hf, hu, al⟩⟩, t.ext (new_more nL), upd_same⟩
theorem rep_one {x : V} (k : Nat) : (List.replicate k [x]).flatten = List.replicate k x := List.flatten_replicate_singleton
theorem cut_to {xs : List V} {k : Nat} (h : k ≤ xs.length) : cutV xs none (some (k : Int)) = xs.take k := by
  unfold cutV
  have e1 : HT.sIx xs.length 0 none = 0 := rfl
  have e2 : HT.sIx xs.length xs.length (some (k : Int)) = k := by unfold HT.sIx; simp only []; rw [if_neg (by omega), Int.toNat_natCast, Nat.min_eq_left h]
  rw [e1, e2]
  rfl
theorem cut_from {xs : List V} {k : Nat} (h : k ≤ xs.length) : cutV xs (some (k : Int)) none = xs.drop k := by
  unfold cutV
  have e1 : HT.sIx xs.length 0 (some (k : Int)) = k := by unfold HT.sIx; simp only []; rw [if_neg (by omega), Int.toNat_natCast, Nat.min_eq_left h]
  have e2 : HT.sIx xs.length xs.length none = xs.length := rfl
  rw [e1, e2, List.take_of_length_le]
  rw [List.length_drop]
  exact Nat.le_refl _
/-- values of one kind, each itself again -/
def Odd (Pr : Hp → V → Prop) (H : Hp) (xs : List V) : Prop := ∀ x ∈ xs, Pr H x ∧ Self x
theorem Odd.nil {Pr : Hp → V → Prop} {H : Hp} : Odd Pr H [] := fun _ h => nomatch h
theorem Odd.put {Pr : Hp → V → Prop} (mono : ∀ H H' x, More H H' → Pr H x → Pr H' x) {H H' : Hp} {xs : List V} {y : V} (h : Odd Pr H xs) (m : More H H') (n : Pr H' y) (s : Self y) : Odd Pr H' (y :: xs) := fun x hx => by
  rcases List.mem_cons.mp hx with rfl | hx
  · exact ⟨n, s⟩
  · exact ⟨mono _ _ _ m (h x hx).1, (h x hx).2⟩
theorem noSq_int {K : PySem.W.Frag} {H : Hp} (i : Int) : NoSq K H (.int i) := ⟨"int", by decide, .base (.int i)⟩
theorem noSq_non {K : PySem.W.Frag} {H : Hp} : NoSq K H .non := ⟨"NoneType", by decide, .base .non⟩
theorem noSq_str {K : PySem.W.Frag} {H : Hp} (z : Str) : NoSq K H (.str z) := ⟨"str", by decide, .base (.str z)⟩
theorem noInt_non {K : PySem.W.Frag} {H : Hp} : NoInt K H .non := ⟨"NoneType", by decide, .base .non⟩
theorem noInt_bl {K : PySem.W.Frag} {H : Hp} (b : Bool) : NoInt K H (.bl b) := ⟨"bool", by decide, .base (.bl b)⟩
theorem noInt_str {K : PySem.W.Frag} {H : Hp} (z : Str) : NoInt K H (.str z) := ⟨"str", by decide, .base (.str z)⟩
theorem noInt_lst {K : PySem.W.Frag} {H : Hp} {a : Addr} {xs : List V} (h : H a = some (.lst xs)) : NoInt K H (.ref a) := ⟨"list", by decide, .base (.lst h)⟩
theorem noInt_tup {K : PySem.W.Frag} {H : Hp} {a : Addr} {xs : List V} (h : H a = some (.tup xs)) : NoInt K H (.ref a) := ⟨"tuple", by decide, .base (.tup h)⟩
/-- flat items: ints, None, bools, texts -/
def Fl (ys : List V) : Prop := ∀ y ∈ ys, (∃ i, y = .int i) ∨ y = .non ∨ (∃ b, y = .bl b) ∨ ∃ z, y = .str z
theorem Fl.its {K : PySem.W.Frag} {H : Hp} {ys : List V} (h : Fl ys) (l : ys.length ≤ 1000) : Its K H ys := ⟨l, fun y hy => by
  obtain h | rfl | ⟨b, rfl⟩ | ⟨z, rfl⟩ := h y hy
  · exact .inl h
  · exact .inr noInt_non
  · exact .inr (noInt_bl b)
  · exact .inr (noInt_str z)⟩
theorem Fl.ints (l : List Int) : Fl (l.map V.int) := fun y hy => by
  obtain ⟨d, _, rfl⟩ := List.mem_map.mp hy
  exact .inl ⟨d, rfl⟩
theorem Fl.app {xs ys : List V} (a : Fl xs) (b : Fl ys) : Fl (xs ++ ys) := fun y hy => (List.mem_append.mp hy).elim (a y) (b y)
theorem Fl.rep {x : V} (k : Nat) (h : Fl [x]) : Fl (List.replicate k x) := fun y hy => by
  rw [(List.mem_replicate.mp hy).2]
  exact h x (.head _)
theorem Fl.non : Fl [.non] := fun y hy => by
  have e : y = .non := by simpa using hy
  exact .inr (.inl e)
theorem Fl.bl (b : Bool) : Fl [.bl b] := fun y hy => by
  have e : y = .bl b := by simpa using hy
  exact .inr (.inr (.inl ⟨b, e⟩))
theorem Fl.str (z : Str) : Fl [.str z] := fun y hy => by
  have e : y = .str z := by simpa using hy
  exact .inr (.inr (.inr ⟨z, e⟩))
theorem nrow_flat {K : PySem.W.Frag} {H : Hp} {p : Int} {many : Nat} {a : Addr} {ys : List V} (s : Sq K H a ys) (f : Fl ys) (l : ys.length ≤ 1000)
    (no : ys.all isI = false ∨ ((ys.length : Nat) : Int) ≠ p ∨ ∃ ds : List Int, ys = ds.map V.int ∧ ∃ d ∈ ds, ¬ (0 ≤ d ∧ d < (many : Int))) : NRow K H p many (.ref a) := by
  refine .inr ⟨a, ys, rfl, s, f.its l, ?_⟩
  by_cases e : ((ys.length : Nat) : Int) = p
  · obtain h | h | ⟨ds, rfl, h⟩ := no
    · exact .inl h
    · exact absurd e h
    · exact .inr (.inr ⟨ds, rfl, by rw [List.length_map] at e; exact e, h⟩)
  · exact .inr (.inl e)
theorem nwor_flat {K : PySem.W.Frag} {H : Hp} {many : Nat} {a : Addr} {ys : List V} (s : Sq K H a ys) (f : Fl ys) (l : ys.length ≤ 1000) (no : ys.all isI = false ∨ ys.length ≠ many) : NWor K H many (.ref a) := .inr ⟨a, ys, rfl, s, f.its l, no⟩
theorem op_mulZ {X : Cx} : OpR X (binaryOp .Mult) (fun x y H Q => ∃ p : Int, x = .str "0" ∧ y = .int p ∧ isPr p = true ∧ ∀ z : Str, Q (.str z) H) := by
  intro pins s σ H x y v u Q I rx ry h
  obtain ⟨p, rfl, rfl, pr, q⟩ := h
  obtain ⟨t, rfl⟩ := rx
  obtain ⟨t', rfl⟩ := ry
  obtain ⟨p2, p7⟩ := isPr_small pr
  have e : p = 2 ∨ p = 3 ∨ p = 4 ∨ p = 5 ∨ p = 6 ∨ p = 7 := by omega
  clear pr p2 p7
  refine PySem.P.mul_str ?_ ?_ ?_ ?_
  · rw [decide_eq_false (by omega), decide_eq_false (by omega)]; rfl
  · intro h1 h2 h3
    rcases e with rfl | rfl | rfl | rfl | rfl | rfl <;> exact absurd h3 (by decide)
  · intro h1 h2
    rcases e with rfl | rfl | rfl | rfl | rfl | rfl <;> decide +kernel
  · rcases e with rfl | rfl | rfl | rfl | rfl | rfl <;> exact ⟨by decide +kernel, .str _, H, I.tok _, ⟨_, rfl⟩, q _⟩
theorem sl1 {K : PySem.W.Frag} {σ : L2.St} {H : Hp} {a : Addr} {xs : List V} {Q : VK} (h : SqT K H a xs) (l : 1 ≤ xs.length) (q : ∀ p, H p = none → Q (.ref p) (upd H p (.tup (xs.drop 1)))) : tNoPart σ H fun u H3 => rSlA K (.ref a) (some 1) u H3 Q := by
  show rSlA K (.ref a) (some 1) none H Q
  refine ⟨a, xs, rfl, h, fun z => ?_, fun _ => ?_⟩
  · have z := z.1
    rw [show (some (1 : Int)) = some ((1 : Nat) : Int) from rfl, HT.sIx_nat] at z
    omega
  · rw [show (some (1 : Int)) = some ((1 : Nat) : Int) from rfl, cut_from l]
    exact q
theorem cat_any {K : PySem.W.Frag} {H : Hp} {a b : Addr} {xs ys : List V} {Q : VK} (ha : SqT K H a xs) (hb : SqT K H b ys) (few : xs.length + ys.length ≤ 1000)
    (q : ∀ e H', More H H' → SqT K H' e (xs ++ ys) → Q (.ref e) H') : rCatA K (.ref a) (.ref b) H Q := by
  refine ⟨a, b, xs, ys, rfl, rfl, ha, hb, by rw [sizeLine_eq]; omega, fun e => ?_, fun _ e => ?_, fun _ _ p np => q _ _ (new_more np) (SqT.of upd_same)⟩
  · subst e
    exact q _ _ (fun _ _ e => e) hb
  · subst e
    refine q _ _ (fun _ _ e => e) ?_
    rw [List.append_nil]
    exact ha
end B5

/-! Lc2: a comprehension with two fors, over any two walks. -/
namespace L2
open PySem PySem.Spec PyProof.Rows
section
variable {J J1 : It} {n n1 : Nat} {G G1 : Hp → Prop} {Y Y1 : Nat → Hp → V → Hp → Prop}
/-- the inner walk -/
def In2 (J1 : It) (g1 : TG) (tt1 : TT) (te : TE) (vs1 : List Nat) (σ2 : St) (D : Addr) (Nx : Hp → Prop) (H4 : Hp) : Prop := ∃ W1 : Nat → Nat → Hp → Prop, (∃ m, W1 0 m H4) ∧ ∀ j k H, W1 j k H →
      (J1.stop j H ∧ Nx H) ∨ (J1.go j H ∧ ∃ Nx1 : Hp → Prop, (∀ H', Nx1 H' → ∃ k', k' < k ∧ W1 (j + 1) k' H') ∧ ∀ x H', J1.yld j H x H' → g1 x (wipe σ2 vs1) H' fun σ3 H5 => wipe σ3 vs1 = wipe σ2 vs1 ∧ tt1 σ3 H5 fun b H6 =>
        if b = true then te σ3 H6 fun y H7 => ∃ acc, H7 D = some (.lst acc) ∧ acc.length < sizeLine ∧ Nx1 (upd H7 D (.lst (acc ++ [y]))) else Nx1 H6)
theorem in2_it (w : Walk J1 n1 G1 Y1) {g1 : TG} {tt1 : TT} {te : TE} {vs1 : List Nat} {σ2 : St} {D : Addr} {Nx : Hp → Prop} {H4 : Hp} (Pv : Nat → Hp → Prop) (h0 : Pv 0 H4) (hG : ∀ i H, i ≤ n1 → Pv i H → G1 H)
    (hs : ∀ i x H H', i < n1 → Pv i H → Y1 i H x H' → g1 x (wipe σ2 vs1) H' fun σ3 H5 => wipe σ3 vs1 = wipe σ2 vs1 ∧ tt1 σ3 H5 fun b H6 =>
      if b = true then te σ3 H6 fun y H7 => ∃ acc, H7 D = some (.lst acc) ∧ acc.length < sizeLine ∧ Pv (i + 1) (upd H7 D (.lst (acc ++ [y]))) else Pv (i + 1) H6) (hd : ∀ H, Pv n1 H → Nx H) : In2 J1 g1 tt1 te vs1 σ2 D Nx H4 := by
  refine ⟨fun i m H => m = n1 - i ∧ i ≤ n1 ∧ Pv i H, ⟨n1, by simp, Nat.zero_le _, h0⟩, ?_⟩
  rintro i m H ⟨rfl, hi, p⟩
  have q := hG i H hi p
  by_cases hlt : i < n1
  · exact .inr ⟨w.goes i H hlt q, Pv (i + 1), fun H' p' => ⟨n1 - (i + 1), by omega, rfl, hlt, p'⟩, fun x H' y => hs i x H H' hlt p (w.yields i H x H' hlt q y)⟩
  · have e : i = n1 := by omega
    subst e
    exact .inl ⟨w.stops H q, hd H p⟩
theorem lc2_it (w : Walk J n G Y) {g : TG} {tt : TT} {wi1 : TI} {g1 : TG} {tt1 : TT} {te : TE} {vs vs1 : List Nat} {σ : St} {H1 : Hp} {D : Addr} {Qd : Hp → Prop} (Pv : Nat → Hp → Prop) (h0 : Pv 0 (upd H1 D (.lst []))) (hG : ∀ i H, i ≤ n → Pv i H → G H)
    (hs : ∀ i x H H', i < n → Pv i H → Y i H x H' → g x (wipe σ vs) H' fun σ2 H2 => wipe σ2 vs = wipe σ vs ∧ tt σ2 H2 fun b H3 =>
      if b = true then wi1 σ2 H3 fun J1 H4 => In2 J1 g1 tt1 te vs1 σ2 D (Pv (i + 1)) H4 else Pv (i + 1) H3) (hd : ∀ H, Pv n H → Qd H) :
    ∃ W : Nat → Nat → Hp → Prop, (∃ m, W 0 m (upd H1 D (.lst []))) ∧ ∀ i m H, W i m H →
  (J.stop i H ∧ Qd H) ∨ (J.go i H ∧ ∃ Nx : Hp → Prop, (∀ H', Nx H' → ∃ m', m' < m ∧ W (i + 1) m' H') ∧ ∀ x H', J.yld i H x H' → g x (wipe σ vs) H' fun σ2 H2 => wipe σ2 vs = wipe σ vs ∧ tt σ2 H2 fun b H3 =>
    if b = true then wi1 σ2 H3 fun J1 H4 => ∃ W1 : Nat → Nat → Hp → Prop, (∃ m, W1 0 m H4) ∧ ∀ j k H, W1 j k H →
      (J1.stop j H ∧ Nx H) ∨ (J1.go j H ∧ ∃ Nx1 : Hp → Prop, (∀ H', Nx1 H' → ∃ k', k' < k ∧ W1 (j + 1) k' H') ∧ ∀ x H', J1.yld j H x H' → g1 x (wipe σ2 vs1) H' fun σ3 H5 => wipe σ3 vs1 = wipe σ2 vs1 ∧ tt1 σ3 H5 fun b H6 =>
        if b = true then te σ3 H6 fun y H7 => ∃ acc, H7 D = some (.lst acc) ∧ acc.length < sizeLine ∧ Nx1 (upd H7 D (.lst (acc ++ [y]))) else Nx1 H6)
    else Nx H3) := by
  refine ⟨fun i m H => m = n - i ∧ i ≤ n ∧ Pv i H, ⟨n, by simp, Nat.zero_le _, h0⟩, ?_⟩
  rintro i m H ⟨rfl, hi, p⟩
  have q := hG i H hi p
  by_cases hlt : i < n
  · exact .inr ⟨w.goes i H hlt q, Pv (i + 1), fun H' p' => ⟨n - (i + 1), by omega, rfl, hlt, p'⟩, fun x H' y => hs i x H H' hlt p (w.yields i H x H' hlt q y)⟩
  · have e : i = n := by omega
    subst e
    exact .inl ⟨w.stops H q, hd H p⟩
end
end L2

/-! ie: is_endless -/
namespace K72
open PySem L2 Gd B5 ZipG
abbrev sIe : Stmt := top 17
abbrev NIe : List Str := ["moves", "worths", "value", "marks", "mark", "row", "further"]
theorem scIe : FnScope NIe ["moves", "worths", "value"] (defScope sIe) := ⟨rfl, rfl, rfl, by decide +kernel, rfl, by decide +kernel, by decide +kernel⟩
/-- rows of states, as a list of tuples -/
structure Rws (H : Hp) (lr : Addr) (ts : List Addr) (R : List (List Nat)) (p : Nat) : Prop where
  at_ : H lr = some (.lst (ts.map V.ref))
  rows : Paired (TupN H) ts R
  n0 : 0 < R.length
  few : R.length ≤ 100
  p2 : 2 ≤ p
  p7 : p ≤ 7
  len : ∀ r ∈ R, r.length = p
  lt : ∀ r ∈ R, ∀ x ∈ r, x < R.length
  came : ∀ t, t < R.length → t ≠ 0 → ∃ s, s < R.length ∧ t ∈ rowR R s
theorem Rws.more {H H' : Hp} {lr : Addr} {ts : List Addr} {R : List (List Nat)} {p : Nat} (h : Rws H lr ts R p) (m : More H H') : Rws H' lr ts R p :=
  ⟨m _ _ h.at_, paired_imp (S := TupN H') (fun b r (e : TupN H b r) => m _ _ e) h.rows, h.n0, h.few, h.p2, h.p7, h.len, h.lt, h.came⟩
def spIe : Sp := fun vs H Q _ => ∃ (lr lw : Addr) (ts : List Addr) (R : List (List Nat)) (p : Nat) (ws : List Int) (v : Int), vs = [.ref lr, .ref lw, .int v] ∧ Rws H lr ts R p ∧ H lw = some (.lst (ws.map V.int)) ∧ ws.length = R.length ∧
  ∀ (H' : Hp) (b : Bool) (o : List Nat), More H H' → Khn R.length (rowR R) o o.length 0 → (b = true ↔ ∃ s x, s < R.length ∧ s ∉ o ∧ x ∈ (rowR R s).drop 1 ∧ ws.getD x 0 = v) → Q (.bl b) H'
section
variable {P : Program} {w : World} {K : PySem.W.Frag} {mg : Str → Option Value} {base : Heap} {g1 f : Addr} {d1 fd : FuncData}
theorem ok_ie (F : Fun K "is_endless" "is_endless" sIe f fd) (B : Blt mg) (zAny : mg "any" = none) (zZip : mg "zip" = none) (Em : Cl K mg "early_marks" sEm ["moves"] g1 d1) : FnOk P w K mg base CX0 2 f fd ["moves", "worths", "value"] spIe := by
  have G1 : FnOk P w K mg base CX0 1 g1 d1 ["moves"] spEm := ok_em Em.fn B
  refine F.ok scIe (fun vs H Q E h => ?_) (fun cdv A outer s H vs Q E hr h => ?_)
  · obtain ⟨lr, lw, ts, R, p, ws, v, rfl, _⟩ := h
    rfl
  · obtain ⟨lr, lw, ts, R, p, ws, v, rfl, rw0, hlw, lws, q⟩ := h
    refine ⟨_, pss_cons (ps_set (i := 3) scIe.nd rfl (Or.inl rfl) (pe_call G1 hr rfl Em.g Em.k Em.b .nil pass0 (pa_cons (pv 0) pa_nil)))
      (pss_one (ps_ret (pe_callB (cr_any rfl) (by rfl) zAny (by decide +kernel) (pa_cons (pe_lc2 (own := [("mark", 4), ("row", 5), ("further", 6)]) (vs1 := [6]) (g := gTup K 2 (gCons (gName 4) (gCons (gName 5) gNil))) (g1 := gName 6) (tt1 := tYes) (wi1 := iTup K (tSl (rSlT K) (tVar 5) (tPart (tC (V.int 1))) tNoPart)) rfl scIe.nd
        (pi_zipG (by rfl) zZip (pa_cons (pv 3) (pa_cons (pv 0) pa_nil))) (blkOk_by (N := NIe) (sc := defScope sIe) (by decide +kernel)) (by decide)
        (fun _ _ _ _ _ => pg_tup rfl (pgs_cons (pg_name (i := 4) scIe.nd rfl (Or.inl rfl)) (pgs_cons (pg_name (i := 5) scIe.nd rfl (Or.inl rfl)) pgs_nil)))
        (fun _ _ _ _ _ => pts_one (pt_not (pt_val (pv 4))))
        (fun _ _ _ _ _ => by exact pi_tup (pe_slice (r := rSlT K) sl_tup (pv 5) (po_some pe_int) po_none))
        (fun _ _ _ _ _ => pg_name (i := 6) scIe.nd rfl (Or.inl rfl)) (fun _ _ _ _ _ => pts_nil)
        (fun _ _ _ _ _ => pe_cmpR (r := rEq) op_eq (pe_ix (r := rIxL K) ix_list (pv 1) (pv 6) (fun _ _ => rfl)) (pv 2) rfl)) pa_nil)))), ?_⟩
    have lts : ts.length = R.length := Paired.length rw0.rows
    refine ⟨_, rfl, lr, ts, R, rfl, rw0.at_, rw0.rows, rw0.n0, by have := rw0.few; omega, rw0.lt, rw0.came, fun H1 ml o m1 kml kh => ?_⟩
    have rw1 := rw0.more m1
    have hlw1 := m1 _ _ hlw
    obtain ⟨n, hn⟩ : ∃ n, n = R.length := ⟨_, rfl⟩
    have few := rw0.few
    have sm : SqL K H1 ml (fnL R.length fun t => V.bl (decide (t ∈ o))) := SqL.of kml
    obtain ⟨S1, e1, h1⟩ := Sq.src (.inl sm)
    obtain ⟨S2, e2, h2⟩ := Sq.src (K := K) (.inl (SqL.of rw1.at_))
    refine ⟨_, rfl, _, rfl, S1, S2, (fnL R.length fun t => V.bl (decide (t ∈ o))), ts.map V.ref, by rw [e1, e2], h1 _ (fun o z => z), h2 _ (fun o z => z), fun D hD => ?_⟩
    obtain ⟨bs, hbs⟩ : ∃ bs : Nat → List Bool, bs = fun i => (List.range i).flatMap fun s => if s ∈ o then [] else ((rowR R s).drop 1).map fun x => decide (ws.getD x 0 = v) := ⟨_, rfl⟩
    have bsS : ∀ i, bs (i + 1) = bs i ++ (if i ∈ o then [] else ((rowR R i).drop 1).map fun x => decide (ws.getD x 0 = v)) := fun i => by
      rw [hbs]
      show (List.range (i + 1)).flatMap _ = _
      rw [List.range_succ, List.flatMap_append, List.flatMap_cons, List.flatMap_nil, List.append_nil]
    have rAt : ∀ {i : Nat}, i < R.length → ∃ b, ts[i]? = some b ∧ H1 b = some (.tup ((rowR R i).map nV)) ∧ (rowR R i).length = p ∧ ∀ x ∈ rowR R i, x < R.length := fun {i} hi => by
      have et : ts[i]? = some (ts[i]'(by omega)) := List.getElem?_eq_getElem (by omega)
      obtain ⟨r, er, kb⟩ := paired_at rw1.rows et
      have e : rowR R i = r := by
        unfold rowR
        rw [List.getD_eq_getElem?_getD, er]
        rfl
      rw [e]
      exact ⟨_, et, kb, rw0.len r (List.mem_of_getElem? er), rw0.lt r (List.mem_of_getElem? er)⟩
    have p2 := rw0.p2
    have p7 := rw0.p7
    have bl : ∀ i, i ≤ R.length → (bs i).length ≤ 7 * i := by
      intro i
      induction i with
      | zero => intro _; rw [hbs]; exact Nat.zero_le _
      | succ i ih =>
        intro hi
        have ih := ih (by omega)
        obtain ⟨_, _, _, l, _⟩ := rAt (i := i) (by omega)
        rw [bsS, List.length_append]
        split
        · rw [List.length_nil]; omega
        · rw [List.length_map, List.length_drop, l]; omega
    refine lc2_it (H1 := H1) (D := D) (walk_zipG (n := R.length) (by rw [fnL_len, List.length_map, lts, Nat.min_self])) (fun i H' => H' D = some (.lst ((bs i).map V.bl)) ∧ More H1 H')
      ⟨by rw [upd_same, hbs]; rfl, new_more hD⟩ (fun i H' _ hh => ⟨h1 _ (.of hh.2), h2 _ (.of hh.2)⟩) ?_ ?_
    · rintro i y H4 H5 hi ⟨k4, m4⟩ ⟨T, u, z, rfl, nT, rfl, hu, hz⟩
      obtain ⟨b, eb, kb, lr0, blt⟩ := rAt hi
      have hu : (fnL R.length fun t => V.bl (decide (t ∈ o)))[i]? = some u := hu
      have hz : (ts.map V.ref)[i]? = some z := hz
      rw [fnL_at hi] at hu
      rw [at_map eb] at hz
      cases hu
      cases hz
      have mT : More H1 (upd H4 T (.tup [V.bl (decide (i ∈ o)), V.ref b])) := More.new m4 nT
      have nTD : D ≠ T := ne_of_none k4 nT
      have k5 : (upd H4 T (.tup [V.bl (decide (i ∈ o)), V.ref b])) D = some (.lst ((bs i).map V.bl)) := (upd_ne nTD).trans k4
      refine ⟨T, _, rfl, SqT.of upd_same, rfl, _, _, rfl, _, _, rfl, rfl, rfl, _, rfl, _, rfl, ?_⟩
      generalize upd H4 T (.tup [V.bl (decide (i ∈ o)), V.ref b]) = H6 at mT k5 ⊢
      by_cases io : i ∈ o
      · rw [decide_eq_true io]
        refine iteF ⟨?_, mT⟩
        rw [bsS, if_pos io, List.append_nil]
        exact k5
      · rw [decide_eq_false io]
        have hc : ¬ (HT.sIx ((rowR R i).map nV).length 0 (some 1) = 0 ∧ HT.sIx ((rowR R i).map nV).length ((rowR R i).map nV).length none = ((rowR R i).map nV).length) := fun h => by
          have := h.1
          rw [List.length_map, lr0] at this
          simp [HT.sIx] at this
          omega
        refine iteT ⟨_, rfl, _, rfl, b, _, rfl, SqT.of (mT _ _ kb), hc, fun c hcc => ?_⟩
        rw [show ((1 : Int)) = ((1 : Nat) : Int) from rfl, cut_from (by rw [List.length_map]; omega), ← List.map_drop]
        have mc : More H1 (upd H6 c (.tup (((rowR R i).drop 1).map nV))) := fun b o e => new_more hcc _ _ (mT _ _ e)
        have kc : (upd H6 c (.tup (((rowR R i).drop 1).map nV))) c = some (.tup (((rowR R i).drop 1).map nV)) := upd_same
        have k7 := new_more (o := .tup (((rowR R i).drop 1).map nV)) hcc _ _ k5
        have ncD : c ≠ D := (ne_of_none k5 hcc).symm
        generalize upd H6 c (.tup (((rowR R i).drop 1).map nV)) = H7 at mc kc k7 ⊢
        refine ⟨c, rfl, ⟨_, SqT.of kc⟩, in2_it (walk_tup (K := K) (a := c) (xs := ((rowR R i).drop 1).map nV)) (fun k H' => H' D = some (.lst ((bs i ++ (((rowR R i).drop 1).take k).map fun x => decide (ws.getD x 0 = v)).map V.bl)) ∧ H' c = some (.tup (((rowR R i).drop 1).map nV)) ∧ More H1 H')
          ⟨by rw [k7, List.take_zero, List.map_nil, List.append_nil], kc, mc⟩ (fun k H' _ h => SqT.of h.2.1) ?_ ?_⟩
        · rintro k y H8 H9 hk ⟨k8, kc8, m8⟩ ⟨rfl, hy⟩
          obtain ⟨x, hx, rfl⟩ := map_at hy
          have xn := blt x (List.mem_of_mem_drop (List.mem_of_getElem? hx))
          have hk : k < (((rowR R i).drop 1).map nV).length := hk
          rw [List.length_map, List.length_drop, lr0] at hk
          refine ⟨rfl, _, rfl, _, rfl, lw, _, ((x : Nat) : Int), _, rfl, rfl, SqL.of (m8 _ _ hlw1), atI_nat (at_map (at_getD (by omega) 0)), _, rfl, rfl, _, k8, ?_, ?_, (upd_ne ncD).trans kc8, More.at m8 hD⟩
          · have := bl i (by omega)
            rw [List.length_map, List.length_append, List.length_map, List.length_take, List.length_drop]
            exact small1000 (by omega)
          · rw [upd_same, deI, take_snoc hx, List.map_append (l₁ := List.take k _), ← List.append_assoc, List.map_append (l₁ := bs i ++ _)]
            rfl
        · rintro H8 ⟨k8, _, m8⟩
          rw [List.length_map, List.take_length] at k8
          refine ⟨?_, m8⟩
          rw [bsS, if_neg io]
          exact k8
    · rintro H4 ⟨k4, m4⟩
      refine ⟨D, _, rfl, SqL.of k4, q H4 _ o (fun b o e => m4 _ _ (m1 _ _ e)) kh ?_⟩
      rw [List.any_eq_true, hbs]
      constructor
      · rintro ⟨b, hb, e⟩
        obtain ⟨s, hs, hb⟩ := List.mem_flatMap.mp hb
        by_cases so : s ∈ o
        · rw [if_pos so] at hb; exact absurd hb (List.not_mem_nil)
        · rw [if_neg so] at hb
          obtain ⟨x, hx, rfl⟩ := List.mem_map.mp hb
          exact ⟨s, x, List.mem_range.mp hs, so, hx, of_decide_eq_true e⟩
      · rintro ⟨s, x, hs, so, hx, e⟩
        exact ⟨true, List.mem_flatMap.mpr ⟨s, List.mem_range.mpr hs, by rw [if_neg so]; exact List.mem_map.mpr ⟨x, hx, decide_eq_true e⟩⟩, rfl⟩
end
end K72

/-! DcT: dict comprehensions, the keys ints, texts, or tuples of these (by DPut). -/
namespace B5
open PySem PySem.Spec PyProof.Rows L2
section
open L2
variable {κ : Type} [DecidableEq κ]
theorem putK_keys (kvs : List (κ × V)) (k : κ) (v : V) (x : κ) : (∃ p ∈ putK kvs k v, p.1 = x) ↔ x = k ∨ ∃ p ∈ kvs, p.1 = x := by
  unfold putK
  split
  · rename_i h
    obtain ⟨q, hq, eq⟩ := List.any_eq_true.mp h
    have eq := of_decide_eq_true eq
    constructor
    · rintro ⟨p, hp, rfl⟩
      obtain ⟨r, hr, rfl⟩ := List.mem_map.mp hp
      by_cases z : r.1 = k
      · rw [if_pos z]; exact .inr ⟨r, hr, rfl⟩
      · rw [if_neg z]; exact .inr ⟨r, hr, rfl⟩
    · rintro (rfl | ⟨p, hp, rfl⟩)
      · refine ⟨_, List.mem_map.mpr ⟨q, hq, rfl⟩, ?_⟩
        rw [if_pos eq]
        exact eq
      · refine ⟨_, List.mem_map.mpr ⟨p, hp, rfl⟩, ?_⟩
        by_cases z : p.1 = k
        · rw [if_pos z]
        · rw [if_neg z]
  · constructor
    · rintro ⟨p, hp, rfl⟩
      rcases List.mem_append.mp hp with hp | hp
      · exact .inr ⟨p, hp, rfl⟩
      · have : p = (k, v) := by simpa using hp
        rw [this]
        exact .inl rfl
    · rintro (rfl | ⟨p, hp, rfl⟩)
      · exact ⟨(x, v), List.mem_append.mpr (.inr (by simp)), rfl⟩
      · exact ⟨p, List.mem_append.mpr (.inl hp), rfl⟩
end
/-- D[y] = z, D a dict with keys of either form -/
theorem put_set {X : Cx} {pins : List (Addr × Obj)} {σ : L2.St} {H H' : Hp} {s : Shared} {E : Value → Shared → Prop} {D : Addr} {y z : V} {u r : Value} {Q : Unit → Shared → Prop} (hu : X.A.units < cLine) (I : Inv X pins σ H s) (g : DPut H D y z H') (ry : L2.RelV y u) (rz : L2.RelV z r)
    (h : ∀ s', Inv X pins σ H' s' → Q () s') : wpAny (model X.prog X.w) X.A (dictSet D u r) Q E s := by
  rcases g with ⟨kvs, k, e, ey, l, eH⟩ | ⟨kvs, k, b, e, ey, eb, l, eH⟩
  · subst ey eH
    exact d_dictSet I e l ry rz h
  · subst ey eH
    obtain rfl : u = Value.ref b := ry
    obtain ⟨z1, nm, ys, rel, dd⟩ := dt_of I.hok e
    have l1 : ys.length ≤ sizeLine := by have := Paired.length rel; omega
    have l2 : (putK kvs k z).length ≤ sizeLine := by have := length_putK kvs k z; omega
    refine wpAny_dictSet_heap (hsz := l1) (knd := tupleKind (mixKind X.prog X.w)) hu (key_of I.hok eb) dd fun g' dd' sb => h _ ?_
    obtain ⟨q, es, ep, hq, a2, a3, a4, _, a5⟩ := dd'
    refine d_write I (by rw [e]; exact True.intro) sb ⟨q, hq⟩ ⟨l2, nm, _, (rel.put k eb rz).keeps fun c ys ec => ?_, q, es, ep, hq, a2, a3, a4, a5⟩
    exact (upd_ne (ne_of ec e (fun z => nomatch z))).trans ec
/-- {k: v for target in iter if ..}: o0 the new dict -/
def tDcP (o0 : HO) (wi : TI) (g : TG) (tt : TT) (tk tv : TE) (own : List Nat) : TE := fun σ H Q => wi σ H fun J H1 => ∀ D, H1 D = none → ∃ W : Nat → Nat → Hp → Prop, (∃ m, W 0 m (upd H1 D o0)) ∧ ∀ i m G, W i m G →
  (J.stop i G ∧ Q (.ref D) G) ∨ (J.go i G ∧ ∃ Nx : Hp → Prop, (∀ G', Nx G' → ∃ m', m' < m ∧ W (i + 1) m' G') ∧ ∀ x G', J.yld i G x G' → g x (wipe σ own) G' fun σ2 G2 => wipe σ2 own = wipe σ own ∧ tt σ2 G2 fun b G3 =>
    if b = true then tk σ2 G3 fun y G4 => tv σ2 G4 fun z G5 => ∃ G6, DPut G5 D y z G6 ∧ Nx G6 else Nx G3)
theorem dcP_core {X : Cx} {o0 : HO} (ho : o0 = .dK [] ∨ o0 = .dT []) {pins : List (Addr × Obj)} {s : Shared} {σ : L2.St} {H : Hp} {Q : VK} {ke ve te it0 : Expr} {ifs : List Expr} {sc : Scope} {own : List (Str × Nat)} {p1 p2 : Pos} {wi : TI} {g : TG} {tt : TT} {tk tv : TE} {use : Option (Value → Sem Unit)} {Qf : Value → Shared → Prop}
    (calm : X.calm = true) (hu : X.A.units < cLine) (nd : X.N.Nodup) (I : Inv X pins σ H s) (pi : PI X te it0 wi) (ok : BlkOk X.N X.env.scope sc own)
    (pg : ∀ (s : Shared) (H : Hp) (C : Addr) (cl : List (Str × Addr)) (fp : List Addr), PG (X.blk s H sc (compEnvC sc cl C X.env) fp) te g) (pt : ∀ (s : Shared) (H : Hp) (C : Addr) (cl : List (Str × Addr)) (fp : List Addr), PTs (X.blk s H sc (compEnvC sc cl C X.env) fp) ifs tt)
    (pk : ∀ (s : Shared) (H : Hp) (C : Addr) (cl : List (Str × Addr)) (fp : List Addr), PE (X.blk s H sc (compEnvC sc cl C X.env) fp) ke tk)
    (pv : ∀ (s : Shared) (H : Hp) (C : Addr) (cl : List (Str × Addr)) (fp : List Addr), PE (X.blk s H sc (compEnvC sc cl C X.env) fp) ve tv) (fs : ∀ x, foldedSetIterable it0 X.env x = pure x)
    (h : tDcP o0 wi g tt tk tv (own.map (·.2)) σ H Q)
    (fin : ∀ D C s' m H', Inv X pins σ H' s' → Q (.ref D) H' → s'.heap.Ns C m → FpOk X pins H' C → compPost (model X.prog X.w) X.A X.xe use Qf (.ref D) C (.ok .next) s') :
    wpAny (model X.prog X.w) X.A (comprehension (.DictComp ke ve [⟨te, it0, ifs, 0⟩] sc p1) sc X.env p2 newDict false (eval it0 X.env) use) Qf X.xe s := by
  have fr : ∀ y ∈ sc.names, y.2 = .free → ∃ c, X.env.cells.lookup y.1 = some c := fun y hy e => (ok.free y hy e).elim (fun k => I.ok.has _ (.inl k)) fun k => I.ok.has _ (.inr k)
  refine wpAny_comprehension_free (use := use) rfl fs (closure_ok fr) ok.kind (fun y hy e => by rw [ok.uniq y hy, e]) ?_
  refine thn (pi.run pins s σ H _ I h) fun xv t1 h1 => thn h1 fun itv t2 h2 => ?_
  obtain ⟨it, fp, tn, J, H2, rfl, I2, T, st2, f2, q⟩ := h2
  refine wpAny_newObj_type (newEnv_comp ?_)
  obtain ⟨D, hD⟩ : ∃ D, t2.heap.objs.size = D := ⟨_, rfl⟩
  have Dn : H2 D = none := I2.hok.fresh (Nat.le_of_eq hD)
  obtain ⟨W, ⟨m0, w0⟩, turn⟩ := q D Dn
  obtain ⟨t3, ht3⟩ : ∃ t3 : Shared, t3 = { t2 with heap := t2.heap.push { cls := .type "dict", data := .dict #[] } } := ⟨_, rfl⟩
  have kp3 : ∀ {b : Addr} {o : Obj}, t2.heap.get? b = some o → t3.heap.get? b = some o := fun e => by rw [ht3]; exact Heap.get?_push_of_some _ e
  have sz3 : t3.heap.objs.size = t2.heap.objs.size + 1 := by rw [ht3]; exact Heap.size_push ..
  have I3 : Inv X pins σ (upd H2 D o0) t3 := by
    have new : ObjOk X.prog X.w (upd H2 D o0) t3.heap D o0 := by
      rw [ht3, ← hD]
      rcases ho with rfl | rfl
      · exact dk_empty t2.heap I2.big
      · exact dt_empty t2.heap I2.big
    rw [ht3] at new ⊢
    exact I2.laid (t' := t2.toks) (fun b o e => Heap.get?_push_of_some _ e) (Nat.le_of_eq hD) new
  have f3 : ∀ b ∈ fp, FpOk X pins (upd H2 D o0) b ∧ b < t3.heap.objs.size := fun b hb => by
    obtain ⟨o, e, _⟩ := T.obj _ _ st2 b hb
    have lt := Heap.lt_size e
    exact ⟨⟨(upd_ne (by rw [← hD]; exact Nat.ne_of_lt lt)).trans (f2 b hb).1, (f2 b hb).2⟩, by rw [sz3]; exact Nat.lt_succ_of_lt lt⟩
  have st3 : tn 0 t3.heap := T.keep _ _ _ st2 fun b _ o e => kp3 e
  have I4 := block_start I3 ok nd f3
  obtain ⟨cl, hcl⟩ : ∃ cl, cl = cellsFrom (t3.heap.objs.size + 1) sc.names (cloFrom X.env.cells sc.names []) := ⟨_, rfl⟩
  rw [← hcl] at I4
  have g1 := pg t3 (upd H2 D o0) t3.heap.objs.size cl fp
  have g2 := pt t3 (upd H2 D o0) t3.heap.objs.size cl fp
  have g3 := pk t3 (upd H2 D o0) t3.heap.objs.size cl fp
  have g4 := pv t3 (upd H2 D o0) t3.heap.objs.size cl fp
  rw [← ht3, ← hcl, hD]
  show codeAny _ _ (.compStart (.DictComp ke ve [⟨te, it0, ifs, 0⟩] sc p1) 0 (.ref it) (.ref D) (compEnvC sc cl t3.heap.objs.size X.env)) (compPost (model X.prog X.w) X.A X.xe use Qf (.ref D) t3.heap.objs.size) { t3 with heap := pushCells (t3.heap.push { cls := .type "dict", data := .dict #[] }) sc.names }
  have nf : ∀ b ∈ fp, upd H2 D o0 b = none := fun b hb => (f3 b hb).1.1
  obtain ⟨ce, hce⟩ : ∃ ce, ce = compEnvC sc cl t3.heap.objs.size X.env := ⟨_, rfl⟩
  rw [← hce] at I4 g1 g2 g3 g4 ⊢
  have cL : ce.locals = t3.heap.objs.size := by rw [hce]; rfl
  generalize upd H2 D o0 = H3 at I3 I4 g1 g2 g3 g4 w0 nf f3
  obtain ⟨t4, ht4⟩ : ∃ t4 : Shared, t4 = { t3 with heap := pushCells (t3.heap.push { cls := .type "dict", data := .dict #[] }) sc.names } := ⟨_, rfl⟩
  rw [← ht4] at I4 ⊢
  have st4 : tn 0 t4.heap := T.keep _ _ _ st3 fun b _ o e => by rw [ht4]; exact pushCells_keeps _ _ _ _ (Heap.get?_push_of_some _ e)
  have fps : ∀ {σ' : L2.St} {H' : Hp} {s' : Shared}, Inv (X.blk t3 H3 sc ce fp) [] σ' H' s' → (∀ b ∈ fp, H' b = none) → ∀ b ∈ fp, FpOk (X.blk t3 H3 sc ce fp) [] H' b := fun {_ _ _} I' hn b hb =>
    ⟨hn b hb, (I'.ok.exf b hb).1, I'.ok.exfs b hb, .inl hb, fun x c e => (I'.ok.exf b hb).2 x c e, fun p hp => by cases hp⟩
  have loop : codeAny (model X.prog X.w) X.A (.compLoop (.DictComp ke ve [⟨te, it0, ifs, 0⟩] sc p1) 0 (.ref it) (.ref D) ce) (compPost (model X.prog X.w) X.A X.xe use Qf (.ref D) t3.heap.objs.size) t4 := by
    refine compLoop_anyD (fun n s' => ∃ i G, Inv (X.blk t3 H3 sc ce fp) [] (wipe σ (own.map (·.2))) G s' ∧ tn i s'.heap ∧ (∀ b ∈ fp, G b = none) ∧ W i n G) ?_ m0 ⟨0, H3, I4, st4, nf, w0⟩
    rintro n t5 ⟨i, G5, I5, st5, n5, w5⟩
    rcases turn i n G5 w5 with ⟨stop, qq⟩ | ⟨go, Nx, hNx, step⟩
    · refine thnF (T.done (X.blk t3 H3 sc ce fp) rfl rfl rfl calm i [] t5 _ G5 (fun _ _ => False) I5 (fps I5 n5) st5 stop) fun r t6 ⟨hr, I6⟩ => ?_
      subst hr
      have I7 : Inv X pins σ G5 t6 := I3.call' (ch := fp) I6.os I6.base I6.hok I6.bare fun b hb => let z := (f3 b hb).1.2; ⟨z.2.2.1, z.1, z.2.2.2.1, z.2.2.2.2⟩
      have nC : G5 t3.heap.objs.size = none := by
        have z : G5 ce.locals = none := I6.free
        rwa [cL] at z
      obtain ⟨m, hn, _⟩ := I6.loc
      have hn : t6.heap.Ns ce.locals m := hn
      rw [cL] at hn
      exact fin D t3.heap.objs.size t6 m G5 I7 qq hn (I3.fpOk (Nat.le_refl _) nC)
    · refine thnF (T.item (X.blk t3 H3 sc ce fp) rfl rfl rfl calm i [] t5 _ G5 (fun _ _ => False) I5 (fps I5 n5) st5 go) fun r t6 ⟨u, hr, h6⟩ => ?_
      subst hr
      refine thnF h6 fun _ t7 ⟨x, G7, I7, r7, y7, st7, n7⟩ => ?_
      have I7' := I7.pinned (fps I7 n7) (T.obj _ _ st7)
      refine thnF (g1.run _ t7 _ G7 x u _ I7' r7 (step x G7 y7)) fun _ t8 ⟨σ8, G8, I8, hw8, q8⟩ => ?_
      refine thnF (g2.run _ t8 σ8 G8 _ I8 q8) fun b t9 ⟨G9, I9, q9⟩ => ?_
      have last : ∀ {s' : Shared} {G : Hp}, Inv (X.blk t3 H3 sc ce fp) ([] ++ pinsAt fp t7.heap) σ8 G s' → Nx G → ∃ m, m < n ∧ ∃ i G, Inv (X.blk t3 H3 sc ce fp) [] (wipe σ (own.map (·.2))) G s' ∧ tn i s'.heap ∧ (∀ b ∈ fp, G b = none) ∧ W i m G := fun {s' G} I' nx => by
        obtain ⟨m', hm, w'⟩ := hNx G nx
        have pin' : ∀ b ∈ fp, ∀ o, t7.heap.get? b = some o → s'.heap.get? b = some o ∧ G b = none := fun b hb o e => by
          have z := I'.pin (b, o) (List.mem_append_right _ (List.mem_append_right _ (mem_pinsAt hb e)))
          exact ⟨z.1, z.2.1⟩
        refine ⟨m', hm, i + 1, G, (I'.unpinned (pins := [])).weak (by rw [← hw8, wipe_length]) (fun j v e => ?_), T.keep _ _ _ st7 fun b hb o e => (pin' b hb o e).1, fun b hb => ?_, w'⟩
        · rw [← hw8] at e
          exact (wipe_some e).1
        · obtain ⟨o, e, _⟩ := T.obj _ _ st7 b hb
          exact (pin' b hb o e).2
      cases b with
      | false =>
        simp only [Bool.false_eq_true, if_false] at q9 ⊢
        exact last I9 q9
      | true =>
        simp only [if_true] at q9 ⊢
        refine thnF (g3.run _ t9 σ8 G9 _ I9 q9) fun z t10 ⟨yk, G10, I10, r10, q10⟩ => ?_
        refine thnF (g4.run _ t10 σ8 G10 _ I10 q10) fun z2 t11 ⟨yv, G11, I11, r11, G12, put, nx⟩ => ?_
        exact put_set (X := X.blk t3 H3 sc ce fp) hu I11 put r10 r11 fun t12 I12 => last I12 nx
  exact codeAny_compStart_dict loop (T.self X.A 0 _ _ _ st4 loop)
/-- as a value -/
theorem pe_dcP {X : Cx} {o0 : HO} (ho : o0 = .dK [] ∨ o0 = .dT []) {ke ve te it0 : Expr} {ifs : List Expr} {sc : Scope} {own : List (Str × Nat)} {pos : Pos} {wi : TI} {g : TG} {tt : TT} {tk tv : TE} (calm : X.calm = true) (hu : X.A.units < cLine) (nd : X.N.Nodup) (pi : PI X te it0 wi) (ok : BlkOk X.N X.env.scope sc own)
    (pg : ∀ (s : Shared) (H : Hp) (C : Addr) (cl : List (Str × Addr)) (fp : List Addr), PG (X.blk s H sc (compEnvC sc cl C X.env) fp) te g) (pt : ∀ (s : Shared) (H : Hp) (C : Addr) (cl : List (Str × Addr)) (fp : List Addr), PTs (X.blk s H sc (compEnvC sc cl C X.env) fp) ifs tt)
    (pk : ∀ (s : Shared) (H : Hp) (C : Addr) (cl : List (Str × Addr)) (fp : List Addr), PE (X.blk s H sc (compEnvC sc cl C X.env) fp) ke tk)
    (pv : ∀ (s : Shared) (H : Hp) (C : Addr) (cl : List (Str × Addr)) (fp : List Addr), PE (X.blk s H sc (compEnvC sc cl C X.env) fp) ve tv) (fs : ∀ x, foldedSetIterable it0 X.env x = pure x := by intro _; rfl) :
    PE X (.DictComp ke ve [⟨te, it0, ifs, 0⟩] sc pos) (tDcP o0 wi g tt tk tv (own.map (·.2))) := by
  refine ⟨fun pins s σ H Q I h => ?_⟩
  rw [arm_eval_DictComp]
  refine dcP_core ho calm hu nd I pi ok pg pt pk pv fs h fun D C s' m H' I' q hn f => ⟨m, hn, fun g' sb => ?_⟩
  obtain ⟨f0, f1, f2, f3, f4, f5⟩ := f
  exact ⟨.ref D, H', I'.turned (t' := s'.toks) (fun b o hb e => (sb.2 b hb).trans e) f0 f1 f3 f4 f5, rfl, q⟩
/-- over what is walked -/
theorem dcP_it {J : It} {n : Nat} {G : Hp → Prop} {Y : Nat → Hp → V → Hp → Prop} (w : Walk J n G Y) {o0 : HO} {g : TG} {tt : TT} {tk tv : TE} {vs : List Nat} {σ : L2.St} {H1 : Hp} {D : Addr} {Qd : Hp → Prop} (Pv : Nat → Hp → Prop) (h0 : Pv 0 (upd H1 D o0)) (hG : ∀ i H, i ≤ n → Pv i H → G H)
    (hs : ∀ i x H H', i < n → Pv i H → Y i H x H' → g x (wipe σ vs) H' fun σ2 H2 => wipe σ2 vs = wipe σ vs ∧ tt σ2 H2 fun b H3 =>
      if b = true then tk σ2 H3 fun y H4 => tv σ2 H4 fun z H5 => ∃ H6, DPut H5 D y z H6 ∧ Pv (i + 1) H6 else Pv (i + 1) H3) (hd : ∀ H, Pv n H → Qd H) :
    ∃ W : Nat → Nat → Hp → Prop, (∃ m, W 0 m (upd H1 D o0)) ∧ ∀ i m H, W i m H →
      (J.stop i H ∧ Qd H) ∨ (J.go i H ∧ ∃ Nx : Hp → Prop, (∀ H', Nx H' → ∃ m', m' < m ∧ W (i + 1) m' H') ∧ ∀ x H', J.yld i H x H' → g x (wipe σ vs) H' fun σ2 H2 => wipe σ2 vs = wipe σ vs ∧ tt σ2 H2 fun b H3 =>
        if b = true then tk σ2 H3 fun y H4 => tv σ2 H4 fun z H5 => ∃ H6, DPut H5 D y z H6 ∧ Nx H6 else Nx H3) := by
  refine ⟨fun i m H => (i ≤ n ∧ m = n - i) ∧ Pv i H, ⟨n, ⟨Nat.zero_le _, by simp⟩, h0⟩, ?_⟩
  rintro i m H ⟨⟨hi, rfl⟩, p⟩
  have q := hG i H hi p
  rcases Nat.lt_or_ge i n with lt | ge
  · exact .inr ⟨w.goes i H lt q, Pv (i + 1), fun H' p' => ⟨n - (i + 1), by omega, ⟨lt, rfl⟩, p'⟩, fun x H' y => hs i x H H' lt p (w.yields i H x H' lt q y)⟩
  · obtain rfl : i = n := Nat.le_antisymm hi ge
    exact .inl ⟨w.stops H q, hd H p⟩
end B5

/-! Kd: dicts that tell least numbers; dicts that are walked over. -/
namespace B5
open PySem L2
theorem putK_fst (kvs : List (Key × V)) (k : Key) (v : V) : (putK kvs k v).map (·.1) = if (kvs.any fun kv => decide (kv.1 = k)) = true then kvs.map (·.1) else kvs.map (·.1) ++ [k] := by
  unfold putK
  split
  · rw [List.map_map]
    refine List.map_congr_left fun q _ => ?_
    show (if q.1 = k then (q.1, v) else q).1 = q.1
    split <;> rfl
  · rw [List.map_append]
    rfl
theorem putK_nd {kvs : List (Key × V)} (h : (kvs.map (·.1)).Nodup) (k : Key) (v : V) : ((putK kvs k v).map (·.1)).Nodup := by
  rw [putK_fst]
  split
  · exact h
  · rename_i z
    refine List.nodup_append.mpr ⟨h, by simp, fun x hx y hy e => ?_⟩
    have : y = k := by simpa using hy
    subst this
    subst e
    obtain ⟨q, hq, eq⟩ := List.mem_map.mp hx
    exact z (List.any_eq_true.mpr ⟨q, hq, decide_eq_true eq⟩)
theorem putK_mem {kvs : List (Key × V)} {k : Key} {v : V} {q : Key × V} (h : q ∈ putK kvs k v) : q = (k, v) ∨ (q ∈ kvs ∧ q.1 ≠ k) := by
  unfold putK at h
  split at h
  · obtain ⟨r, hr, rfl⟩ := List.mem_map.mp h
    by_cases z : r.1 = k
    · rw [if_pos z, z]; exact .inl rfl
    · rw [if_neg z]; exact .inr ⟨hr, z⟩
  · rename_i z
    rcases List.mem_append.mp h with h | h
    · refine .inr ⟨h, fun e => z (List.any_eq_true.mpr ⟨q, h, decide_eq_true e⟩)⟩
    · exact .inl (by simpa using h)
theorem valV_mem {kvs : List (Key × V)} (nd : (kvs.map (·.1)).Nodup) {k : Key} {v : V} (h : (k, v) ∈ kvs) : valV kvs k = some v := by
  induction kvs with
  | nil => cases h
  | cons q r ih =>
    rw [List.map_cons, List.nodup_cons] at nd
    rcases List.mem_cons.mp h with e | h
    · subst e; exact valV_pos rfl
    · have ne : q.1 ≠ k := fun e => nd.1 (List.mem_map.mpr ⟨(k, v), h, e.symm⟩)
      have := ih nd.2 h
      unfold valV at this ⊢
      rw [List.find?_cons, decide_eq_false ne]
      exact this
theorem mem_valV {kvs : List (Key × V)} {k : Key} {v : V} (h : valV kvs k = some v) : (k, v) ∈ kvs := by
  unfold valV at h
  obtain ⟨q, hq, e⟩ := Option.map_eq_some_iff.mp h
  have m := List.mem_of_find?_eq_some hq
  have e2 : q.1 = k := of_decide_eq_true (List.find?_some (p := fun kv : Key × V => decide (kv.1 = k)) hq)
  obtain ⟨a, b⟩ := q
  cases e2
  cases e
  exact m
/-- the least numbers of E, by key -/
structure KD (kvs : List (Key × V)) (E : Int → Nat → Prop) : Prop where
  nd : (kvs.map (·.1)).Nodup
  mem : ∀ q ∈ kvs, ∃ (t : Int) (m : Nat), q = (Sum.inl t, V.int (m : Nat)) ∧ MinE (E t) m
  all : ∀ t m, E t m → ∃ v, valV kvs (Sum.inl t) = some v
theorem KD.nil {E : Int → Nat → Prop} (h : ∀ t m, ¬ E t m) : KD [] E := ⟨List.nodup_nil, fun _ h => (nomatch h), fun t m e => absurd e (h t m)⟩
theorem KD.get {kvs : List (Key × V)} {E : Int → Nat → Prop} (h : KD kvs E) {t : Int} {v : V} (e : valV kvs (Sum.inl t) = some v) : ∃ m : Nat, v = V.int (m : Nat) ∧ MinE (E t) m := by
  obtain ⟨t', m, e2, mm⟩ := h.mem _ (mem_valV e)
  cases e2
  exact ⟨m, rfl, mm⟩
theorem KD.has {kvs : List (Key × V)} {E : Int → Nat → Prop} (h : KD kvs E) {t : Int} {m : Nat} (e : MinE (E t) m) : valV kvs (Sum.inl t) = some (V.int (m : Nat)) := by
  obtain ⟨v, ev⟩ := h.all t m e.1
  obtain ⟨m', rfl, mm⟩ := h.get ev
  rw [ev, e.one mm]
theorem KD.none {kvs : List (Key × V)} {E : Int → Nat → Prop} (h : KD kvs E) {t : Int} (e : ∀ m, ¬ E t m) : valV kvs (Sum.inl t) = none := by
  cases ev : valV kvs (Sum.inl t) with
  | none => rfl
  | some v =>
    obtain ⟨m, _, mm⟩ := h.get ev
    exact absurd mm.1 (e m)
theorem KD.off {kvs : List (Key × V)} {E : Int → Nat → Prop} (h : KD kvs E) {t : Int} (e : valV kvs (Sum.inl t) = Option.none) : ∀ m, ¬ E t m := fun m z => by
  obtain ⟨v, ev⟩ := h.all t m z
  rw [e] at ev
  cases ev
theorem KD.put {kvs : List (Key × V)} {E E' : Int → Nat → Prop} (h : KD kvs E) {t : Int} {m : Nat} (e : MinE (E' t) m) (o : ∀ x, x ≠ t → ∀ k, E' x k ↔ E x k) : KD (putK kvs (Sum.inl t) (V.int (m : Nat))) E' := by
  have om : ∀ x, x ≠ t → ∀ k, MinE (E' x) k ↔ MinE (E x) k := fun x hx k => by
    unfold MinE
    rw [o x hx k]
    exact and_congr_right fun _ => forall_congr' fun m' => by rw [o x hx m']
  refine ⟨putK_nd h.nd _ _, fun q hq => ?_, fun x k ek => ?_⟩
  · rcases putK_mem hq with rfl | ⟨hq, ne⟩
    · exact ⟨t, m, rfl, e⟩
    · obtain ⟨x, k, rfl, mm⟩ := h.mem q hq
      refine ⟨x, k, rfl, (om x (fun z => ne (by rw [z])) k).mpr mm⟩
  · by_cases z : x = t
    · subst z
      exact ⟨_, by rw [valV_put, if_pos rfl]⟩
    · obtain ⟨v, ev⟩ := h.all x k ((o x z k).mp ek)
      exact ⟨v, by rw [valV_put, if_neg fun q => z (Sum.inl.inj q), ev]⟩
theorem KD.eq {kvs : List (Key × V)} {E E' : Int → Nat → Prop} (h : KD kvs E) (o : ∀ x k, E' x k ↔ E x k) : KD kvs E' := by
  have : E' = E := funext fun x => funext fun k => propext (o x k)
  rw [this]; exact h
theorem KD.to {kvs : List (Key × V)} {E E' : Int → Nat → Prop} (h : KD kvs E) (h1 : ∀ t m, MinE (E t) m → MinE (E' t) m) (h2 : ∀ t m, E' t m → ∃ m', E t m') : KD kvs E' :=
  ⟨h.nd, fun q hq => let ⟨t, m, e, mm⟩ := h.mem q hq; ⟨t, m, e, h1 t m mm⟩, fun t m e => let ⟨m', e'⟩ := h2 t m e; h.all t m' e'⟩
/-- keys below n: at most n -/
theorem KD.len {kvs : List (Key × V)} {E : Int → Nat → Prop} (h : KD kvs E) {n : Nat} (b : ∀ t m, E t m → 0 ≤ t ∧ t < (n : Int)) : kvs.length ≤ n := by
  have key : ∀ (l : List (Key × V)), (∀ q ∈ l, q ∈ kvs) → (l.map (·.1)).Nodup → ∃ ns : List Nat, ns.length = l.length ∧ ns.Nodup ∧ (∀ x ∈ ns, x < n) ∧ ∀ x ∈ ns, ∃ q ∈ l, q.1 = Sum.inl (x : Int) := by
    intro l
    induction l with
    | nil => intro _ _; exact ⟨[], rfl, List.nodup_nil, fun _ h => (nomatch h), fun _ h => (nomatch h)⟩
    | cons q l ih =>
      intro hl nd
      rw [List.map_cons, List.nodup_cons] at nd
      obtain ⟨ns, e1, e2, e3, e4⟩ := ih (fun r hr => hl r (.tail _ hr)) nd.2
      obtain ⟨t, m, eq, mm⟩ := h.mem q (hl q (.head _))
      obtain ⟨t0, t1⟩ := b t m mm.1
      refine ⟨t.toNat :: ns, by rw [List.length_cons, List.length_cons, e1], List.nodup_cons.mpr ⟨fun hx => ?_, e2⟩, fun x hx => ?_, fun x hx => ?_⟩
      · obtain ⟨r, hr, er⟩ := e4 _ hx
        refine nd.1 (List.mem_map.mpr ⟨r, hr, ?_⟩)
        rw [er, eq]
        show Sum.inl ((t.toNat : Nat) : Int) = Sum.inl t
        rw [Int.toNat_of_nonneg t0]
      · rcases List.mem_cons.mp hx with rfl | hx
        · omega
        · exact e3 x hx
      · rcases List.mem_cons.mp hx with rfl | hx
        · refine ⟨q, .head _, ?_⟩
          rw [eq, Int.toNat_of_nonneg t0]
        · obtain ⟨r, hr, er⟩ := e4 x hx
          exact ⟨r, .tail _ hr, er⟩
  obtain ⟨ns, e1, e2, e3, _⟩ := key kvs (fun _ h => h) h.nd
  have := nodup_below n ns e2 e3
  omega
/-! ### a dict that is walked over is locked -/
theorem lock_more {H : Hp} {d : Addr} {u : HO} {od : Obj} (hd : H d = some u) {H' : Hp} (m : ∀ b o, (upd H d (.frz od u)) b = some o → H' b = some o) : ∀ b o, H b = some o → (upd H' d u) b = some o := fun b o e => by
  by_cases z : b = d
  · subst z
    rw [hd] at e
    cases e
    exact upd_same
  · rw [upd_ne z]
    exact m b o (by rw [upd_ne z]; exact e)
end B5

/-! Kx: dicts of greatest numbers (Kd's, the other way round). -/
namespace B5
open PySem L2
def MaxE (E : Nat → Prop) (m : Nat) : Prop := E m ∧ ∀ m', E m' → m' ≤ m
theorem MaxE.one {E : Nat → Prop} {m m' : Nat} (h : MaxE E m) (h' : MaxE E m') : m = m' := Nat.le_antisymm (h'.2 _ h.1) (h.2 _ h'.1)
/-- the greatest numbers of E, by key -/
structure KX (kvs : List (Key × V)) (E : Int → Nat → Prop) : Prop where
  nd : (kvs.map (·.1)).Nodup
  mem : ∀ q ∈ kvs, ∃ (t : Int) (m : Nat), q = (Sum.inl t, V.int (m : Nat)) ∧ MaxE (E t) m
  all : ∀ t m, E t m → ∃ v, valV kvs (Sum.inl t) = some v
theorem KX.nil {E : Int → Nat → Prop} (h : ∀ t m, ¬ E t m) : KX [] E := ⟨List.nodup_nil, fun _ h => (nomatch h), fun t m e => absurd e (h t m)⟩
theorem KX.get {kvs : List (Key × V)} {E : Int → Nat → Prop} (h : KX kvs E) {t : Int} {v : V} (e : valV kvs (Sum.inl t) = some v) : ∃ m : Nat, v = V.int (m : Nat) ∧ MaxE (E t) m := by
  obtain ⟨t', m, e2, mm⟩ := h.mem _ (mem_valV e)
  cases e2
  exact ⟨m, rfl, mm⟩
theorem KX.has {kvs : List (Key × V)} {E : Int → Nat → Prop} (h : KX kvs E) {t : Int} {m : Nat} (e : MaxE (E t) m) : valV kvs (Sum.inl t) = some (V.int (m : Nat)) := by
  obtain ⟨v, ev⟩ := h.all t m e.1
  obtain ⟨m', rfl, mm⟩ := h.get ev
  rw [ev, e.one mm]
theorem KX.none {kvs : List (Key × V)} {E : Int → Nat → Prop} (h : KX kvs E) {t : Int} (e : ∀ m, ¬ E t m) : valV kvs (Sum.inl t) = none := by
  cases ev : valV kvs (Sum.inl t) with
  | none => rfl
  | some v =>
    obtain ⟨m, _, mm⟩ := h.get ev
    exact absurd mm.1 (e m)
theorem KX.off {kvs : List (Key × V)} {E : Int → Nat → Prop} (h : KX kvs E) {t : Int} (e : valV kvs (Sum.inl t) = Option.none) : ∀ m, ¬ E t m := fun m z => by
  obtain ⟨v, ev⟩ := h.all t m z
  rw [e] at ev
  cases ev
theorem KX.put {kvs : List (Key × V)} {E E' : Int → Nat → Prop} (h : KX kvs E) {t : Int} {m : Nat} (e : MaxE (E' t) m) (o : ∀ x, x ≠ t → ∀ k, E' x k ↔ E x k) : KX (putK kvs (Sum.inl t) (V.int (m : Nat))) E' := by
  have om : ∀ x, x ≠ t → ∀ k, MaxE (E' x) k ↔ MaxE (E x) k := fun x hx k => by
    unfold MaxE
    rw [o x hx k]
    exact and_congr_right fun _ => forall_congr' fun m' => by rw [o x hx m']
  refine ⟨putK_nd h.nd _ _, fun q hq => ?_, fun x k ek => ?_⟩
  · rcases putK_mem hq with rfl | ⟨hq, ne⟩
    · exact ⟨t, m, rfl, e⟩
    · obtain ⟨x, k, rfl, mm⟩ := h.mem q hq
      refine ⟨x, k, rfl, (om x (fun z => ne (by rw [z])) k).mpr mm⟩
  · by_cases z : x = t
    · subst z
      exact ⟨_, by rw [valV_put, if_pos rfl]⟩
    · obtain ⟨v, ev⟩ := h.all x k ((o x z k).mp ek)
      exact ⟨v, by rw [valV_put, if_neg fun q => z (Sum.inl.inj q), ev]⟩
theorem KX.eq {kvs : List (Key × V)} {E E' : Int → Nat → Prop} (h : KX kvs E) (o : ∀ x k, E' x k ↔ E x k) : KX kvs E' := by
  have : E' = E := funext fun x => funext fun k => propext (o x k)
  rw [this]; exact h
theorem KX.to {kvs : List (Key × V)} {E E' : Int → Nat → Prop} (h : KX kvs E) (h1 : ∀ t m, MaxE (E t) m → MaxE (E' t) m) (h2 : ∀ t m, E' t m → ∃ m', E t m') : KX kvs E' :=
  ⟨h.nd, fun q hq => let ⟨t, m, e, mm⟩ := h.mem q hq; ⟨t, m, e, h1 t m mm⟩, fun t m e => let ⟨m', e'⟩ := h2 t m e; h.all t m' e'⟩
/-- keys below n: at most n -/
theorem KX.len {kvs : List (Key × V)} {E : Int → Nat → Prop} (h : KX kvs E) {n : Nat} (b : ∀ t m, E t m → 0 ≤ t ∧ t < (n : Int)) : kvs.length ≤ n := by
  have key : ∀ (l : List (Key × V)), (∀ q ∈ l, q ∈ kvs) → (l.map (·.1)).Nodup → ∃ ns : List Nat, ns.length = l.length ∧ ns.Nodup ∧ (∀ x ∈ ns, x < n) ∧ ∀ x ∈ ns, ∃ q ∈ l, q.1 = Sum.inl (x : Int) := by
    intro l
    induction l with
    | nil => intro _ _; exact ⟨[], rfl, List.nodup_nil, fun _ h => (nomatch h), fun _ h => (nomatch h)⟩
    | cons q l ih =>
      intro hl nd
      rw [List.map_cons, List.nodup_cons] at nd
      obtain ⟨ns, e1, e2, e3, e4⟩ := ih (fun r hr => hl r (.tail _ hr)) nd.2
      obtain ⟨t, m, eq, mm⟩ := h.mem q (hl q (.head _))
      obtain ⟨t0, t1⟩ := b t m mm.1
      refine ⟨t.toNat :: ns, by rw [List.length_cons, List.length_cons, e1], List.nodup_cons.mpr ⟨fun hx => ?_, e2⟩, fun x hx => ?_, fun x hx => ?_⟩
      · obtain ⟨r, hr, er⟩ := e4 _ hx
        refine nd.1 (List.mem_map.mpr ⟨r, hr, ?_⟩)
        rw [er, eq]
        show Sum.inl ((t.toNat : Nat) : Int) = Sum.inl t
        rw [Int.toNat_of_nonneg t0]
      · rcases List.mem_cons.mp hx with rfl | hx
        · omega
        · exact e3 x hx
      · rcases List.mem_cons.mp hx with rfl | hx
        · refine ⟨q, .head _, ?_⟩
          rw [eq, Int.toNat_of_nonneg t0]
        · obtain ⟨r, hr, er⟩ := e4 x hx
          exact ⟨r, .tail _ hr, er⟩
  obtain ⟨ns, e1, e2, e3, _⟩ := key kvs (fun _ h => h) h.nd
  have := nodup_below n ns e2 e3
  omega
/-! ### a dict that is walked over is locked -/
end B5

/-! Gtn: the greatest number with a value, level by level through the states that are taken off. -/
namespace B5
open PySem L2
section
variable {n p : Nat} {step : Nat → Nat → Nat} {val : Nat → Int} {o : List Nat} {v : Int}
/-- words of so many digits to states that are taken off -/
def El (p : Nat) (step : Nat → Nat → Nat) (o : List Nat) (k : Nat) (t : Int) (m : Nat) : Prop := ∃ s : Nat, t = s ∧ s ∈ o ∧ Wd p step k s m
/-- an entry, and a digit below j at the i-th -/
def At (kvs : List (Key × V)) (i j s m d : Nat) : Prop := (∃ i', i' < i ∧ kvs[i']? = some (Sum.inl (s : Int), V.int (m : Nat))) ∨ (kvs[i]? = some (Sum.inl (s : Int), V.int (m : Nat)) ∧ d < j)
/-- the steps of a level that were made so far -/
def Es (p : Nat) (step : Nat → Nat → Nat) (o : List Nat) (k : Nat) (kvs : List (Key × V)) (i j : Nat) (t : Int) (v : Nat) : Prop := ∃ x : Nat, t = x ∧ x ∈ o ∧ ∃ s m d : Nat, At kvs i j s m d ∧ d < p ∧ step s d = x ∧ v = m + d * p ^ k
/-- the numbers found at levels below k -/
def Eb (p : Nat) (step : Nat → Nat → Nat) (val : Nat → Int) (v : Int) (o : List Nat) (k : Nat) (m : Nat) : Prop := (m = 0 ∧ val 0 = v) ∨ ∃ L s u d, L < k ∧ s ∈ o ∧ Wd p step L s u ∧ 0 < d ∧ d < p ∧ val (step s d) = v ∧ m = u + d * p ^ L
def Bp (p : Nat) (step : Nat → Nat → Nat) (val : Nat → Int) (v : Int) (o : List Nat) (k : Nat) (kvs : List (Key × V)) (i j : Nat) (m : Nat) : Prop := Eb p step val v o k m ∨ ∃ s u d, At kvs i j s u d ∧ 0 < d ∧ d < p ∧ val (step s d) = v ∧ m = u + d * p ^ k
def MaxO (E : Nat → Prop) (r : Option Nat) : Prop := (r = none ∧ ∀ m, ¬ E m) ∨ ∃ m, r = some m ∧ MaxE E m
theorem MaxO.eq {E E' : Nat → Prop} {r : Option Nat} (h : MaxO E r) (e : ∀ m, E' m ↔ E m) : MaxO E' r := by
  have : E' = E := funext fun m => propext (e m)
  rw [this]; exact h
/-- what is dominated changes nothing -/
theorem MaxE.dom {E E' : Nat → Prop} {m : Nat} (h : MaxE E m) (s : ∀ m, E m → E' m) (d : ∀ m, E' m → ∃ m', m ≤ m' ∧ E m') : MaxE E' m :=
  ⟨s _ h.1, fun m' e => let ⟨m2, l, e2⟩ := d m' e; Nat.le_trans l (h.2 m2 e2)⟩
theorem MaxO.dom {E E' : Nat → Prop} {r : Option Nat} (h : MaxO E r) (s : ∀ m, E m → E' m) (d : ∀ m, E' m → ∃ m', m ≤ m' ∧ E m') : MaxO E' r := by
  rcases h with ⟨e, no⟩ | ⟨m, e, mm⟩
  · exact .inl ⟨e, fun m z => let ⟨m', _, e'⟩ := d m z; no m' e'⟩
  · exact .inr ⟨m, e, mm.dom s d⟩
def addO : Option Nat → Nat → Nat
  | none, x => x
  | some m, x => max m x
/-- one more -/
theorem MaxO.add {E : Nat → Prop} {r : Option Nat} (h : MaxO E r) (x : Nat) : MaxO (fun m => E m ∨ m = x) (some (addO r x)) := by
  rcases h with ⟨rfl, no⟩ | ⟨m, rfl, mm⟩
  · exact .inr ⟨x, rfl, .inr rfl, fun m' e => e.elim (fun e => absurd e (no m')) fun e => by omega⟩
  · show MaxO _ (some (max m x))
    refine .inr ⟨max m x, rfl, ?_, fun m' e => ?_⟩
    · by_cases z : x ≤ m
      · rw [Nat.max_eq_left z]; exact .inl mm.1
      · rw [Nat.max_eq_right (by omega)]; exact .inr rfl
    · rcases e with e | e
      · have := mm.2 m' e
        omega
      · omega
theorem at_zero {kvs : List (Key × V)} {s m d : Nat} : ¬ At kvs 0 0 s m d := fun h => by
  rcases h with ⟨i, hi, _⟩ | ⟨_, hd⟩
  · exact absurd hi (Nat.not_lt_zero _)
  · exact absurd hd (Nat.not_lt_zero _)
theorem at_row {kvs : List (Key × V)} {i s m d : Nat} (hd : d < p) : At kvs (i + 1) 0 s m d ↔ At kvs i p s m d := by
  constructor
  · rintro (⟨i', hi, hk⟩ | ⟨_, z⟩)
    · by_cases z : i' = i
      · subst z; exact .inr ⟨hk, hd⟩
      · exact .inl ⟨i', by omega, hk⟩
    · exact absurd z (Nat.not_lt_zero _)
  · rintro (⟨i', hi, hk⟩ | ⟨hk, _⟩)
    · exact .inl ⟨i', by omega, hk⟩
    · exact .inl ⟨i, by omega, hk⟩
theorem at_step {kvs : List (Key × V)} {i j s m : Nat} (hi : kvs[i]? = some (Sum.inl (s : Int), V.int (m : Nat))) {s' m' d : Nat} : At kvs i (j + 1) s' m' d ↔ At kvs i j s' m' d ∨ (s' = s ∧ m' = m ∧ d = j) := by
  constructor
  · rintro (h | ⟨hk, hd⟩)
    · exact .inl (.inl h)
    · by_cases z : d = j
      · rw [hi] at hk
        have eq := Option.some.inj hk
        have a : (s : Int) = (s' : Int) := Sum.inl.inj (congrArg Prod.fst eq)
        have b : ((m : Nat) : Int) = ((m' : Nat) : Int) := V.int.inj (congrArg Prod.snd eq)
        exact .inr ⟨by omega, by omega, z⟩
      · exact .inl (.inr ⟨hk, by omega⟩)
  · rintro ((h | ⟨hk, hd⟩) | ⟨rfl, rfl, rfl⟩)
    · exact .inl h
    · exact .inr ⟨hk, by omega⟩
    · exact .inr ⟨hi, by omega⟩
/-- the entries of a level -/
theorem at_end {k : Nat} {kvs : List (Key × V)} (h : KX kvs (El p step o k)) {s m d : Nat} : At kvs kvs.length 0 s m d ↔ MaxE (El p step o k (s : Int)) m := by
  constructor
  · rintro (⟨i', hi, hk⟩ | ⟨_, z⟩)
    · obtain ⟨t', m2, eq, mm⟩ := h.mem _ (List.mem_of_getElem? hk)
      have a : (s : Int) = t' := Sum.inl.inj (congrArg Prod.fst eq)
      have b : ((m : Nat) : Int) = ((m2 : Nat) : Int) := V.int.inj (congrArg Prod.snd eq)
      obtain rfl : m = m2 := by omega
      rw [a]
      exact mm
    · exact absurd z (Nat.not_lt_zero _)
  · intro mm
    obtain ⟨i', hi⟩ := List.getElem?_of_mem (mem_valV (h.has mm))
    exact .inl ⟨i', (List.getElem?_eq_some_iff.mp hi).1, hi⟩
/-- the greatest of a level stands among its entries -/
theorem el_max {k : Nat} {kvs : List (Key × V)} (h : KX kvs (El p step o k)) {s u : Nat} (so : s ∈ o) (w : Wd p step k s u) : ∃ m, u ≤ m ∧ MaxE (El p step o k (s : Int)) m := by
  obtain ⟨x, ex⟩ := h.all (s : Int) u ⟨s, rfl, so, w⟩
  obtain ⟨m, _, mm⟩ := h.get ex
  exact ⟨m, mm.2 u ⟨s, rfl, so, w⟩, mm⟩
theorem el_wd {k s m : Nat} (h : El p step o k (s : Int) m) : s ∈ o ∧ Wd p step k s m := by
  obtain ⟨s', e, a, b⟩ := h
  obtain rfl : s = s' := by omega
  exact ⟨a, b⟩
theorem wd_rch {k s m : Nat} (h : Wd p step k s m) : Rch p step s := let ⟨w, _, g, e, _⟩ := h; ⟨w, g, e⟩
theorem es_end (cl : ∀ s d, s < n → d < p → step s d < n) (n0 : 0 < n) (T : Taken n (leadS p step) o) {k : Nat} {kvs ke : List (Key × V)} (h : KX kvs (El p step o k)) (he : KX ke (Es p step o k kvs kvs.length 0)) : KX ke (El p step o (k + 1)) := by
  have sub : ∀ t m, Es p step o k kvs kvs.length 0 t m → El p step o (k + 1) t m := fun t m ⟨x, e, xo, s, u, d, ha, hd, es, em⟩ => by
    have w := ((el_wd ((at_end h).mp ha).1).2).next hd
    rw [es, ← em] at w
    exact ⟨x, e, xo, w⟩
  have dom : ∀ t m, El p step o (k + 1) t m → ∃ m', m ≤ m' ∧ Es p step o k kvs kvs.length 0 t m' := fun t m ⟨x, e, xo, w⟩ => by
    obtain ⟨s, u, d, w1, hd, es, em⟩ := w.back
    have sn := (wd_rch w1).below cl n0
    obtain ⟨i, hi⟩ := List.getElem?_of_mem xo
    obtain ⟨k', _, ek⟩ := T.back i x hi s sn (by rw [← es]; exact List.mem_of_getElem? (leadS_at hd))
    obtain ⟨u', lu, mu⟩ := el_max h (List.mem_of_getElem? ek) w1
    exact ⟨u' + d * p ^ k, by omega, x, e, xo, s, u', d, (at_end h).mpr mu, hd, es, rfl⟩
  exact he.to (fun t m mm => mm.dom (sub t) (dom t)) fun t m e => let ⟨m', _, e'⟩ := dom t m e; ⟨m', e'⟩
theorem bp_end {k : Nat} {kvs : List (Key × V)} (h : KX kvs (El p step o k)) {r : Option Nat} (b : MaxO (Bp p step val v o k kvs kvs.length 0) r) : MaxO (Eb p step val v o (k + 1)) r := by
  refine b.dom (fun m e => ?_) fun m e => ?_
  · rcases e with (e | ⟨L, s, u, d, hL, r⟩) | ⟨s, u, d, ha, d0, hd, ev, em⟩
    · exact .inl e
    · exact .inr ⟨L, s, u, d, by omega, r⟩
    · obtain ⟨so, w⟩ := el_wd ((at_end h).mp ha).1
      exact .inr ⟨k, s, u, d, by omega, so, w, d0, hd, ev, em⟩
  · rcases e with e | ⟨L, s, u, d, hL, so, w, d0, hd, ev, em⟩
    · exact ⟨m, Nat.le_refl _, .inl (.inl e)⟩
    · by_cases z : L = k
      · subst z
        obtain ⟨u', lu, mu⟩ := el_max h so w
        exact ⟨u' + d * p ^ L, by omega, .inr ⟨s, u', d, (at_end h).mpr mu, d0, hd, ev, rfl⟩⟩
      · exact ⟨m, Nat.le_refl _, .inl (.inr ⟨L, s, u, d, by omega, so, w, d0, hd, ev, em⟩)⟩
/-- a level that is empty is the last -/
theorem el_none (cl : ∀ s d, s < n → d < p → step s d < n) (n0 : 0 < n) (T : Taken n (leadS p step) o) {k : Nat} (h : ∀ t m, ¬ El p step o k t m) : ∀ j t m, ¬ El p step o (k + j) t m := by
  intro j
  induction j with
  | zero => exact h
  | succ j ih =>
    rintro t m ⟨x, e, xo, w⟩
    obtain ⟨s, u, d, w1, hd, es, em⟩ := Wd.back (L := k + j) w
    have sn := (wd_rch w1).below cl n0
    obtain ⟨i, hi⟩ := List.getElem?_of_mem xo
    obtain ⟨k', _, ek⟩ := T.back i x hi s sn (by rw [← es]; exact List.mem_of_getElem? (leadS_at hd))
    exact ih (s : Int) u ⟨s, rfl, List.mem_of_getElem? ek, w1⟩
/-- levels are few -/
theorem el_few (cl : ∀ s d, s < n → d < p → step s d < n) (n0 : 0 < n) (T : Taken n (leadS p step) o) {k : Nat} {t : Int} {m : Nat} (h : El p step o k t m) : k < n := by
  obtain ⟨s, _, so, w, e1, g, e2, _⟩ := h
  obtain ⟨i, hi⟩ := List.getElem?_of_mem so
  rw [← e2] at hi
  have := taken_short cl n0 T w.length w i rfl g hi
  have li := (List.getElem?_eq_some_iff.mp hi).1
  have := nodup_below n o T.nd T.lt
  omega
/-- where no value comes from what is left, the greatest found is the greatest that tells it -/
theorem last_of (p0 : 0 < p) (cl : ∀ s d, s < n → d < p → step s d < n) (n0 : 0 < n) (T : Taken n (leadS p step) o) (st : ∀ s, Rch p step s → val s = val (step s 0)) (few : ∀ s d, Rch p step s → s ∉ o → 0 < d → d < p → val (step s d) ≠ v) {k : Nat} (h : ∀ t m, ¬ El p step o k t m)
    {r : Option Nat} (b : MaxO (Eb p step val v o k) r) : MaxO (Tell p step val v) r := by
  refine b.eq fun m => ?_
  constructor
  · rintro ⟨w, g, e, em⟩
    obtain ⟨w', g1, g2, g3, _, g5⟩ := strip st w.length w rfl g
    rcases g5 with rfl | ⟨u, d, rfl, nz⟩
    · exact .inl ⟨by rw [← em, ← g2]; rfl, by rw [← e, ← g3]; rfl⟩
    · obtain ⟨a, bd⟩ := Dg.snoc.mp g1
      rw [runW_app] at g3
      have ev : val (step (runW step 0 u) d) = v := g3.trans e
      have so : runW step 0 u ∈ o := by
        by_cases z : runW step 0 u ∈ o
        · exact z
        · exact absurd ev (few _ d ⟨u, a, rfl⟩ z (by omega) bd)
      have lk : u.length < k := by
        by_cases z : u.length < k
        · exact z
        · refine absurd ⟨_, rfl, so, u, ?_, a, rfl, rfl⟩ (el_none cl n0 T h (u.length - k) ((runW step 0 u : Nat) : Int) (numW p u))
          omega
      exact .inr ⟨u.length, _, numW p u, d, lk, so, ⟨u, rfl, a, rfl, rfl⟩, by omega, bd, ev, by rw [← em, ← g2, numW_snoc]⟩
  · rintro (⟨rfl, e⟩ | ⟨L, s, u, d, _, so, ⟨w, e1, g, e2, e3⟩, d0, hd, ev, em⟩)
    · exact ⟨[], fun _ h => (nomatch h), e, rfl⟩
    · exact ⟨w ++ [d], Dg.snoc.mpr ⟨g, hd⟩, by rw [runW_app, e2, ev], by rw [numW_snoc, e3, e1, em]⟩
end
end B5

namespace ZipG
open PySem L2 PySem.Spec PyProof.Rows
open PySem.AutoSeq1 (wpAny_loadPart')
/-! EnT: enumerate of a tuple -/
abbrev tIt (l : Addr) : Obj := { cls := .type "tuple_iterator", data := .fields #[.ref l, .int 0 0] }
abbrev enO (n : Addr) : Obj := { cls := .type "enumerate", data := .fields #[.none, .bool false, .ref n, rawInt 0, .none, .none] }
theorem meets_enT (l : Addr) (items : Array Value) (n : Nat) (dct : Option Addr) (sl : Array (Option Value)) :
    Meets (Builtin.«enumerate.__new__» ⟨[.type "enumerate", .ref l], []⟩) (fun _ R s => s.heap.get? l = some { cls := .type "tuple", dict := dct, data := .seq items n, slots := sl } ∧
      R (.ok (.ret (.ref (s.heap.push (tIt l)).objs.size))) { s with heap := (s.heap.push (tIt l)).push (enO s.heap.objs.size) }) := .of_wp fun prog w A R s h => by
  obtain ⟨hp, g, d, tk, os⟩ := s; obtain ⟨hl, h⟩ := h; have hsub := sub_enumerate
  have hT : Heap.IsTuple (Shared.heap ⟨hp, g, d, tk, os⟩) l items := ⟨_, hl, rfl, n, rfl⟩
  wp_walk using wpAny_loadPart' hl; refine wpAny_stack_any fun _ => wpAny_pure ?_; split
  · rename_i c _ _ _ _ _; cases (c == Value.type "enumerate") <;> (wp_walk using wpAny_loadPart' hl, wpAny_pyIter_tuple hT; exact ⟨_, rfl, h⟩)
  · (wp_walk using wpAny_loadPart' hl, wpAny_pyIter_tuple hT; exact ⟨_, rfl, h⟩)
theorem call_enT {prog : Program} {w : World} {A : Around} {E : Value → Shared → Prop} {s : Shared} {l : Addr} {items : Array Value} {Q : Value → Shared → Prop} (hL : s.heap.IsTuple l items)
    (h : ∀ g, IsEnum g (s.heap.objs.size + 1) s.heap.objs.size 0 .none → g.IsTupleIter s.heap.objs.size l 0 → (∀ b o, s.heap.get? b = some o → g.get? b = some o) → Q (.ref (s.heap.objs.size + 1)) { s with heap := g }) :
    wpAny (model prog w) A (call (.type "enumerate") [.ref l]) Q E s := by
  obtain ⟨⟨c, dct, dt, sl⟩, hl, hc, n, hd⟩ := hL
  obtain rfl : c = .type "tuple" := hc
  obtain rfl : dt = .seq items n := hd
  refine callType_new F.called_enumerate (by decide) (F.typeCall_enumerate_1 _) (F.newCall_enumerate_1 _) (fun obj => F.args_object_init_2 obj _) F.entry_enumerate_new (meets_enT l items n dct sl) ⟨hl, ?_⟩
  have hz : (s.heap.push (tIt l)).objs.size = s.heap.objs.size + 1 := Heap.size_push ..
  have he : IsEnum ((s.heap.push (tIt l)).push (enO s.heap.objs.size)) (s.heap.objs.size + 1) s.heap.objs.size 0 .none := by
    have e := Heap.get?_push_size (s.heap.push (tIt l)) (o := enO s.heap.objs.size) rfl
    rwa [hz] at e
  show _ ∧ _
  rw [hz]
  exact ⟨⟨_, he, rfl⟩, h _ he ⟨_, Heap.get?_push_of_some _ (Heap.get?_push_size _ rfl), rfl, rfl⟩ fun b o x => Heap.get?_push_of_some _ (Heap.get?_push_of_some _ x)⟩
def ItET (K : PySem.W.Frag) (a : Addr) : It :=
  ⟨fun i H => ∃ (xs : List V) (x : V), SqT K H a xs ∧ xs[i]? = some x, fun i H v H' => ∃ T x, v = .ref T ∧ H T = none ∧ H' = upd H T (.tup [.int (i : Nat), x]) ∧ ∀ xs, SqT K H a xs → xs[i]? = some x, fun i H => ∃ xs : List V, SqT K H a xs ∧ i = xs.length⟩
theorem turn_enT {P : Program} {w : World} {K : PySem.W.Frag} {elts : List Expr} {kk : Nat} {tpos : Pos} (a n : Addr) (low : Nat.lt a n) :
    Turn P w K (.Tuple elts kk tpos) (ItET K a) [Nat.succ n, n] (Nat.succ n) (fun i h => (∃ old, IsEnum h (Nat.succ n) n ((i : Nat) : Int) old) ∧ (Src.t a).it n i h) where
  mem := List.mem_cons_self ..
  obj := fun i h st b hb => by
    obtain ⟨⟨old, he⟩, hi⟩ := st
    rcases (show b = Nat.succ n ∨ b = n by simpa using hb) with q | q
    · rw [q]; exact ⟨_, he, fun v q => nomatch q⟩
    · rw [q]; exact src_obj hi
  keep := fun i h h' st k => ⟨⟨st.1.choose, k (Nat.succ n) (by simp) _ st.1.choose_spec⟩, src_it st.2 fun o q => k n (by simp) o q⟩
  item := by
    intro X hP hw hK hc i pins s σ H E I hf ⟨⟨old, he⟩, hit⟩ ⟨xs, x, hq, hx⟩
    subst hP hw hK
    have hel : Nat.succ n < s.heap.objs.size := Heap.lt_size he
    obtain ⟨its, rv, p, hz⟩ := I.tuple hq
    obtain ⟨u, hu, ru⟩ := rv.get hx
    have l2 : @Nat.lt a n := low
    have ne : a ≠ n := fun q => Nat.lt_irrefl n (by have := low; rw [q] at this; exact this)
    have D := Draws.tuple (prog := X.prog) (w := X.w) (A := X.A.in1) (I.ok.hd hc) n a ne its.toArray
    have lt : i < its.toArray.size := by
      have := (List.getElem?_eq_some_iff.mp hu).1
      rw [List.size_toArray]; exact this
    have na : a ≠ Nat.succ n := fun q => by have := low; rw [q] at this; exact Nat.lt_irrefl n (Nat.lt_of_succ_lt this)
    refine wpAny_pyNext_enum_itemD D he ⟨hit, p⟩ lt (nn (Nat.succ_ne_self n)) (by simp; exact na.symm) fun u' h' tk hu' ho hit' hT hsz hk => ?_
    obtain rfl : u' = u := by
      have e : its.toArray[i]? = some u' := hu'
      rw [List.getElem?_toArray, hu] at e
      exact (Option.some.inj e).symm
    refine ⟨_, rfl, wpAny_letOwnedTupleGo_enum (s := { s with heap := h', toks := tk + 1 }) ho fun h2 he' sb => ?_⟩
    have hT2 := (sb.2 _ (Nat.ne_of_gt hel)).trans hT
    have new : ObjOk X.prog X.w (upd H s.heap.objs.size (.tup [.int (i : Nat), x])) h2 s.heap.objs.size (.tup [.int (i : Nat), x]) :=
      ⟨by show 2 ≤ sizeLine; decide, [.int i tk, u'], .cons ⟨_, rfl⟩ (.cons ru .nil), ⟨_, hT2, rfl, _, rfl⟩⟩
    have I1 : Inv X pins σ (upd H s.heap.objs.size (.tup [.int (i : Nat), x])) { s with heap := h2, toks := tk + 1 } :=
      I.turnedNew (t' := tk + 1) (ch := [Nat.succ n, n]) (fun b ob hb q => (sb.2 b (fun z => hb (by simp [z]))).trans (hk b ob (fun z => hb (by simp [z])) (fun z => hb (by simp [z])) q)) hf (Nat.le_refl _) new
    refine ⟨.ref s.heap.objs.size, _, I1, rfl, ⟨_, x, rfl, I.hok.fresh (Nat.le_refl _), rfl, fun ys hy => by rw [I.tuple_inj hy hq]; exact hx⟩, ⟨⟨u', ?_⟩, src_it (S := .t a) hit'.1 fun o q => (sb.2 n (nn (Nat.ne_of_lt (Nat.lt_succ_self n)))).trans q⟩, fun b hb => ?_⟩
    · rw [show ((i + 1 : Nat) : Int) = (i : Int) + 1 by omega]
      exact he'
    · have lt : b < s.heap.objs.size := by
        rcases (show b = Nat.succ n ∨ b = n by simpa using hb) with q | q
        · rw [q]; exact hel
        · rw [q]; exact Nat.lt_of_succ_lt hel
      exact (upd_ne (Nat.ne_of_lt lt)).trans (hf b hb).1
  done := by
    intro X hP hw hK hc i pins s σ H E I hf ⟨⟨old, he⟩, hit⟩ ⟨xs, hq, hx⟩
    subst hP hw hK
    obtain ⟨f0, f1, f2, f3, f4, f5⟩ := hf n (by simp)
    obtain ⟨its, rv, p, hz⟩ := I.tuple hq
    have ne : a ≠ n := fun q => Nat.lt_irrefl n (by have := low; rw [q] at this; exact this)
    have D := Draws.tuple (prog := X.prog) (w := X.w) (A := X.A.in1) (I.ok.hd hc) n a ne its.toArray
    have e : i = its.toArray.size := by rw [List.size_toArray, ← rv.length]; exact hx
    subst e
    exact wpAny_pyNext_enum_endD D he ⟨hit, p⟩ fun g eb => ⟨rfl, I.turned (t' := s.toks) (fun b o hb q => eb b o hb q) f0 f1 f3 f4 f5⟩
  self := fun A i s Q E st h => wpAny_pyIter_enum st.1.choose_spec h
def iEnT (K : PySem.W.Frag) (ta : TA) : TI := fun σ H R => ta σ H fun vs H1 => ∃ a xs, vs = [.ref a] ∧ SqT K H1 a xs ∧ R (ItET K a) H1
theorem pi_enT {X : Cx} {e : Expr} {ta : TA} {p pos tpos : Pos} {elts : List Expr} {kk : Nat} (hg : Gl X "enumerate") (hm : X.mg "enumerate" = none) (ha : PA X [e] ta) (hs : starEach [e] X.env = [(false, eval e X.env)] := by rfl) :
    PI X (.Tuple elts kk tpos) (.Call (.Name "enumerate" p) [e] [] pos) (iEnT X.K ta) := by
  refine ⟨fun pins s σ H R I h => ?_⟩
  refine Call_ (ld_blt I hg hm boot_enumerate (PyProof.Rows.callWith_type1 (thn (ha.run pos pins s σ H _ I h) fun us s1 ⟨vs, H1, I1, r1, a, xs, ex, hq, q⟩ => ?_) hs rfl))
  subst ex
  obtain ⟨u, rfl, r⟩ := vals1 r1
  cases r
  obtain ⟨its, rv, pt, hz⟩ := I1.tuple hq
  have low : Nat.lt a s1.heap.objs.size := pt.lt
  refine call_enT pt fun g he hit hk => wpAny_pyIter_enum he ?_
  have I2 : Inv X pins σ H1 { s1 with heap := g } := I1.kept (t' := s1.toks) hk
  refine ⟨Nat.succ s1.heap.objs.size, [Nat.succ s1.heap.objs.size, s1.heap.objs.size], _, _, H1, rfl, I2, turn_enT a s1.heap.objs.size low, ⟨⟨.none, he⟩, hit⟩, fun b hb => ?_, q⟩
  have le : s1.heap.objs.size ≤ b := by
    rcases (show b = Nat.succ s1.heap.objs.size ∨ b = s1.heap.objs.size by simpa using hb) with z | z
    · rw [z]; exact Nat.le_succ _
    · rw [z]; exact Nat.le_refl _
  exact I1.fpOk le (I1.hok.fresh le)
theorem walk_enT {K : PySem.W.Frag} {a : Addr} {xs : List V} : Walk (ItET K a) xs.length (fun H => SqT K H a xs) (YPair (fun i => some (.int (i : Nat))) (fun i => xs[i]?)) where
  goes := fun i H hi h => ⟨xs, xs[i], h, List.getElem?_eq_getElem hi⟩
  stops := fun H h => ⟨xs, h, rfl⟩
  yields := fun i H v H' hi h ⟨T, x, e1, e2, e3, e4⟩ => ⟨T, _, x, e1, e2, e3, rfl, e4 xs h⟩
end ZipG

namespace Td
open PySem L2 PySem.Spec PyProof.Rows
/-! ### dict(list of pairs) whose keys are tuples -/
section
variable {κ : Type} [DecidableEq κ]
theorem atKey_off {xs : List (κ × Addr × Value)} {k : κ} (h : k ∉ xs.map (·.1)) : atKey xs k = none := by
  unfold atKey
  have : (xs.find? fun x => decide (x.1 = k)) = none := by
    rw [List.find?_eq_none]
    intro x hx e
    exact h (List.mem_map.mpr ⟨x, hx, of_decide_eq_true e⟩)
  rw [this]
  rfl
theorem storedAll_nodup : ∀ (ps acc : List (κ × Addr × Value)), ((acc ++ ps).map (·.1)).Nodup → storedAllH acc ps = acc ++ ps
  | [], acc, _ => by rw [List.append_nil]; rfl
  | p :: ps, acc, h => by
    have h1 : p.1 ∉ acc.map (·.1) := by
      rw [List.map_append, List.map_cons, List.nodup_append] at h
      intro z
      exact h.2.2 _ z _ (.head _) rfl
    show storedAllH (storedH acc p.1 p.2.1 p.2.2) ps = _
    rw [storedH_new (atKey_off h1)]
    have e : acc ++ p :: ps = (acc ++ [p]) ++ ps := by rw [List.append_assoc]; rfl
    rw [e] at h ⊢
    exact storedAll_nodup ps _ h
end
/-- one pair of the list: the tuple, its key, where the key stands, the value -/
structure It2 where
  p : Addr
  k : List Key
  b : Addr
  v : V
def rDictPT (K : PySem.W.Frag) : List V → Hp → VK → Prop := fun xs H Q => ∃ (a : Addr) (L : List It2), xs = [.ref a] ∧ SqL K H a (L.map fun e => V.ref e.p) ∧
  (∀ e ∈ L, SqT K H e.p [.ref e.b, e.v] ∧ H e.b = some (.tup (e.k.map kV))) ∧ (L.map (·.k)).Nodup ∧ ∀ d, H d = none → Q (.ref d) (upd H d (.dT (L.map fun e => (e.k, e.v))))
section
variable {X : Cx} {pins : List (Addr × Obj)} {σ : L2.St} {H : Hp} {s : Shared}
theorem pairs_at (I : Inv X pins σ H s) : ∀ (L : List It2), (∀ e ∈ L, SqT X.K H e.p [.ref e.b, e.v] ∧ H e.b = some (.tup (e.k.map kV))) →
    ∃ us : List Value, us.length = L.length ∧ KT H (L.map fun e => (e.k, e.v)) ((L.zip us).map fun z => (z.1.k, z.1.b, z.2)) ∧
      ∀ (j : Nat) (e : It2) (u : Value), L[j]? = some e → us[j]? = some u → IsTup s.heap e.p #[.ref e.b, u]
  | [], _ => ⟨[], rfl, .nil, fun j e u h => nomatch h⟩
  | e :: L, h => by
    obtain ⟨us, hl, kt, at_⟩ := pairs_at I L fun x hx => h x (.tail _ hx)
    obtain ⟨h1, h2⟩ := h e (.head _)
    obtain ⟨its, rv, ht, _⟩ := I.tuple h1
    obtain ⟨u, y, rfl, ru, ry⟩ := vals2 rv
    cases ru
    refine ⟨y :: us, by rw [List.length_cons, List.length_cons, hl], .cons ⟨rfl, h2, ry⟩ kt, fun j e' u' h3 h4 => ?_⟩
    cases j with
    | zero =>
      cases h3
      cases h4
      exact ht
    | succ j => exact at_ j e' u' h3 h4
theorem isTup_pair {h : Heap} {t : Addr} {k v : Value} (x : IsTup h t #[k, v]) : PairAt h t k v := .inl x
theorem call_dictPT (hc : X.calm = true) (hu : X.A.units + 8 < cLine) : CallR X (.type "dict") (rDictPT X.K) := by
  intro pins s σ H xs us Q I r h
  obtain ⟨a, L, rfl, hS, hL, nd, q⟩ := h
  rw [Vals.ref1 r]
  obtain ⟨its, rv, ⟨o, n, ho, hcl, hd, hdat⟩, hz⟩ := I.list hS
  have ei : its = L.map fun e => Value.ref e.p := by
    have : L.map (fun e => V.ref e.p) = (L.map (·.p)).map V.ref := by rw [List.map_map]; rfl
    rw [this] at rv
    rw [refs_at rv, List.map_map]
    rfl
  subst ei
  rw [List.length_map] at hz
  obtain ⟨ws, hl, kt, at_⟩ := pairs_at I L hL
  have lz : (L.zip ws).length = L.length := by rw [List.length_zip, hl, Nat.min_self]
  have zat : ∀ (j : Nat) (e : It2) (u : Value), (L.zip ws)[j]? = some (e, u) → L[j]? = some e ∧ ws[j]? = some u := by
    intro j e u z
    rw [List.getElem?_zip_eq_some] at z
    exact z
  refine call_dict_pairsH (knd := tupleKind (mixKind X.prog X.w)) (ps := (L.zip ws).map fun z => (z.1.k, z.1.b, z.2))
    (PairArg.list a (L.map fun e => Value.ref e.p).toArray (fun j => (L[j]?.map (·.p)).getD 0) ((L.zip ws).map fun z => (Value.ref z.1.b, z.2)))
    (I.ok.hd hc) (by show X.A.units + 1 + 1 < cLine; omega) ⟨⟨o, n, ho, hcl, hd, hdat⟩, ?_, ?_⟩ ⟨by rw [List.length_map, List.length_map], ?_⟩ ?_ (by rw [List.length_map, lz]; exact hz) ?_
  · rw [List.size_toArray, List.length_map, List.length_map, lz]
  · intro j k v hj
    rw [List.getElem?_map] at hj
    cases e : (L.zip ws)[j]? with
    | none => rw [e] at hj; cases hj
    | some z =>
      rw [e] at hj
      cases hj
      obtain ⟨h1, h2⟩ := zat j z.1 z.2 e
      refine ⟨?_, ?_⟩
      · rw [List.getElem?_toArray, List.getElem?_map, h1]
        show _ = some (Value.ref ((L[j]?.map (·.p)).getD 0))
        rw [h1]
        rfl
      · show PairAt s.heap ((L[j]?.map (·.p)).getD 0) _ _
        rw [h1]
        exact isTup_pair (at_ j _ _ h1 h2)
  · intro i key v hi
    have hi : ((L.zip ws).map fun z => (Value.ref z.1.b, z.2))[i]? = some (key, v) := hi
    rw [List.getElem?_map] at hi
    cases e : (L.zip ws)[i]? with
    | none => rw [e] at hi; cases hi
    | some z =>
      rw [e] at hi
      cases hi
      exact ⟨z.1.k, z.1.b, by rw [List.getElem?_map, e]; rfl, rfl⟩
  · intro h' hk x hx
    obtain ⟨z, hz1, rfl⟩ := List.mem_map.mp hx
    obtain ⟨j, hj⟩ := List.getElem?_of_mem hz1
    obtain ⟨h1, _⟩ := zat j z.1 z.2 hj
    have h2 := (hL z.1 (List.mem_of_getElem? h1)).2
    obtain ⟨o', its', n', h3, h4, h5, h6⟩ := key_of I.hok h2
    exact ⟨o', its', n', hk _ _ (Nat.ne_of_lt (Heap.lt_size h3)) (by simp) h3, h4, h5, h6⟩
  · intro h' tk hd' hk
    have ek : ((L.zip ws).map fun z => (z.1.k, z.1.b, z.2)).map (·.1) = L.map (·.k) := by
      rw [List.map_map]
      show (L.zip ws).map (fun z => z.1.k) = _
      rw [show (fun z : It2 × Value => z.1.k) = (fun e : It2 => e.k) ∘ Prod.fst from rfl, ← List.map_map, List.map_fst_zip (by omega)]
    rw [storedAll_nodup _ _ (by rw [List.nil_append, ek]; exact nd), List.nil_append] at hd'
    obtain ⟨o2, es, ep, g1, g2, g3, g4, g5, g6⟩ := hd'
    have hb : H s.heap.objs.size = none := I.hok.fresh (Nat.le_refl _)
    have hm : (s.heap.objs.size == sysModules) = false := beq_eq_false_iff_ne.mpr (Nat.ne_of_gt I.big)
    refine ⟨.ref s.heap.objs.size, upd H s.heap.objs.size (.dT (L.map fun e => (e.k, e.v))), I.laid (t' := tk) (fun b o e => hk b o (by simp) e) (Nat.le_refl _) ⟨by rw [List.length_map]; exact hz, hm, _, ?_, o2, es, ep, g1, g2, g3, g4, g6⟩, rfl, q _ hb⟩
    have keep : ∀ {l : List (List Key × V)} {m : List (List Key × Addr × Value)}, KT H l m → Paired (fun (p : List Key × V) (q : List Key × Addr × Value) => p.1 = q.1 ∧ (upd H s.heap.objs.size (.dT (L.map fun e => (e.k, e.v)))) q.2.1 = some (.tup (p.1.map kV)) ∧ RelV p.2 q.2.2) l m := by
      intro l m q
      induction q with
      | nil => exact .nil
      | cons hq t ih => exact .cons ⟨hq.1, by rw [upd_ne (ne_of_none hq.2.1 hb)]; exact hq.2.1, hq.2.2⟩ ih
    exact keep kt
end
end Td

namespace Td
open PySem L2 PySem.Spec PyProof.Rows
/-! ### {(..): v, ..}: a display whose keys are tuples -/
structure It1 where
  k : List Key
  b : Addr
  v : V
def tDispT (trs : List (TE × TE)) : TE := fun σ H Q => ∀ p, H p = none → tPairs trs σ (upd H p (.dT [])) fun ps H2 => H2 p = some (.dT []) ∧ ∃ L : List It1, ps = L.map (fun e => (V.ref e.b, e.v)) ∧ L.length ≤ 15 ∧
  (∀ e ∈ L, H2 e.b = some (.tup (e.k.map kV))) ∧ (L.map (·.k)).Nodup ∧ Q (.ref p) (upd H2 p (.dT (L.map fun e => (e.k, e.v))))
theorem carriesT {P : Program} {w : World} {H : Hp} {h : Heap} (ok : HOk P w H h) : ∀ {L : List It1} {ws : List (Value × Value)}, (∀ e ∈ L, H e.b = some (.tup (e.k.map kV))) → VV (L.map fun e => (V.ref e.b, e.v)) ws →
    ∃ ps : List (List Key × Addr × Value), CarriesH (tupleKind (mixKind P w)) h ws ps ∧ ps.map (·.1) = L.map (·.k) ∧
      Paired (fun (p : List Key × V) (q : List Key × Addr × Value) => p.1 = q.1 ∧ H q.2.1 = some (.tup (p.1.map kV)) ∧ RelV p.2 q.2.2) (L.map fun e => (e.k, e.v)) ps
  | [], _, _, r => by rw [List.map_nil] at r; cases r; exact ⟨[], trivial, rfl, .nil⟩
  | e :: L, _, hk, r => by
    rw [List.map_cons] at r
    cases r with
    | @cons a b as bs h1 t =>
      obtain ⟨ps, c, m, q⟩ := carriesT ok (fun x hx => hk x (.tail _ hx)) t
      obtain ⟨b1, b2⟩ := b
      obtain ⟨g1, g2⟩ := h1
      exact ⟨(e.k, e.b, b2) :: ps, ⟨g1, rfl, key_of ok (hk e (.head _)), c⟩, by rw [List.map_cons, List.map_cons, m], .cons ⟨rfl, hk e (.head _), g2⟩ q⟩
theorem pe_dispT {X : Cx} {pos : Pos} {keys : List (Option Expr)} {values : List Expr} {trs : List (TE × TE)} (hu : X.A.units + 8 < cLine) (h : PPs X pos keys values trs) (hall : keys.all (·.isSome) = true) (hl : keys.length = values.length) (h0 : keys ≠ [])
    (h15 : keys.length ≤ 15) : PE X (.Dict keys values pos) (tDispT trs) := by
  refine ⟨fun pins s σ H Q I q => ?_⟩
  have hn := I.hok.fresh (Nat.le_refl s.heap.objs.size)
  have I1 := I.laid (a := s.heap.objs.size) (o := .dT []) (h' := s.heap.push { cls := .type "dict", data := .dict #[] }) (t' := s.toks) (fun _ _ q => Heap.get?_push_of_some _ q) (Nat.le_refl _) (dt_empty s.heap I.big)
  have hz := pairTrees_length keys values X.env pos hall hl
  rw [arm_eval_Dict, zip_pairTrees keys values X.env pos hall hl, dictDisplay_pairs (pairTrees keys values X.env pos) (fun e => by rw [e] at hz; exact h0 (List.length_eq_zero_iff.mp hz.symm)) (by omega)]
  refine wpAny_bind (wpAny_standAt (wpAny_bind (wpAny_subDictH (knd := tupleKind (mixKind X.prog X.w)) (by show X.A.units < cLine; omega) (by omega) (thn (h.run pins _ σ _ _ I1 (q _ hn)) fun ws s2 ⟨ps, H2, I2, rel, e, L, ep, few, hk, nd, q2⟩ => ?_))))
  subst ep
  obtain ⟨rs, c, m, rk⟩ := carriesT (w := X.w) I2.hok hk rel
  obtain ⟨z, hd, xs0, kt0, dd⟩ := dt_of I2.hok e
  cases kt0
  refine ⟨rs, c, dd, fun h' tk dd' hs => wpAny_pure ⟨.ref s.heap.objs.size, _, ?_, rfl, q2⟩⟩
  rw [storedAll_nodup _ _ (by rw [List.nil_append, m]; exact nd), List.nil_append] at dd'
  obtain ⟨o2, es, ep, g1, g2, g3, g4, g5, g6⟩ := dd'
  refine d_write I2 (by rw [e]; exact True.intro) hs ⟨o2, g1⟩ ⟨by rw [List.length_map, sizeLine_eq]; omega, hd, rs, ?_, o2, es, ep, g1, g2, g3, g4, g6⟩
  have keep : ∀ {l : List (List Key × V)} {m : List (List Key × Addr × Value)}, Paired (fun (p : List Key × V) (q : List Key × Addr × Value) => p.1 = q.1 ∧ H2 q.2.1 = some (.tup (p.1.map kV)) ∧ RelV p.2 q.2.2) l m →
      Paired (fun (p : List Key × V) (q : List Key × Addr × Value) => p.1 = q.1 ∧ (upd H2 s.heap.objs.size (.dT (L.map fun e => (e.k, e.v)))) q.2.1 = some (.tup (p.1.map kV)) ∧ RelV p.2 q.2.2) l m := by
    intro l m q
    induction q with
    | nil => exact .nil
    | cons hq t ih => exact .cons ⟨hq.1, by rw [upd_ne (ne_of hq.2.1 e (by intro z; cases z))]; exact hq.2.1, hq.2.2⟩ ih
  exact keep rk
end Td

/-! gr: greatest_number -/
namespace K72
open PySem L2 Gd B5 ZipG
abbrev sGr : Stmt := top 18
abbrev NGr : List Str := ["moves", "worths", "value", "p", "marks", "best", "level", "power", "reached", "state", "number", "digit", "further", "told"]
theorem scGr : FnScope NGr ["moves", "worths", "value", "p"] (defScope sGr) := ⟨rfl, rfl, rfl, by decide +kernel, rfl, by decide +kernel, by decide +kernel⟩
theorem wy_congr {row row' : Nat → List Nat} {t : Nat} : ∀ {l : List Nat}, (∀ s ∈ l, row s = row' s) → Wy row l t = Wy row' l t
  | [], _ => rfl
  | a :: l, h => by
    show (row a).count t + Wy row l t = (row' a).count t + Wy row' l t
    rw [h a (.head _), wy_congr fun s hs => h s (.tail _ hs)]
theorem khn_congr {n : Nat} {row row' : Nat → List Nat} {o : List Nat} {j : Nat} (h : ∀ s, s < n → row s = row' s) (K : Khn n row o j 0) : Khn n row' o j 0 := by
  refine ⟨⟨K.tk.nd, K.tk.lt, fun i t e s hs ht => K.tk.back i t e s hs (by rw [h s hs]; exact ht)⟩, K.le, fun t ht => ?_⟩
  have := K.hit t ht
  rw [List.take_zero, List.count_nil, wy_congr fun s hs => h s (K.tk.lt s (List.mem_of_mem_take hs)), wy_congr (l := List.range n) fun s hs => h s (List.mem_range.mp hs)] at this
  rw [List.take_zero, List.count_nil]
  exact this
theorem Rws.lead {H : Hp} {lr : Addr} {ts : List Addr} {R : List (List Nat)} {p : Nat} (h : Rws H lr ts R p) {s : Nat} (hs : s < R.length) : rowR R s = leadS p (tab R) s := by
  have e : R[s]? = some (R[s]'hs) := List.getElem?_eq_getElem hs
  have er : rowR R s = R[s]'hs := by
    unfold rowR
    rw [List.getD_eq_getElem?_getD, e]
    rfl
  have l := h.len _ (List.getElem_mem hs)
  apply List.ext_getElem?
  intro d
  by_cases hd : d < p
  · rw [leadS_at hd]
    unfold tab
    show (rowR R s)[d]? = some ((rowR R s).getD d 0)
    rw [er]
    exact at_getD (by omega) 0
  · rw [er, List.getElem?_eq_none (by omega), List.getElem?_eq_none (by rw [leadS_len]; omega)]
theorem Rws.cl {H : Hp} {lr : Addr} {ts : List Addr} {R : List (List Nat)} {p : Nat} (h : Rws H lr ts R p) : ∀ s d, s < R.length → d < p → tab R s d < R.length := fun s d hs hd => by
  have e : R[s]? = some (R[s]'hs) := List.getElem?_eq_getElem hs
  have l := h.len _ (List.getElem_mem hs)
  refine h.lt _ (List.getElem_mem hs) _ ?_
  have : tab R s d = (R[s]'hs).getD d 0 := by
    unfold tab
    rw [List.getD_eq_getElem?_getD (l := R), e]
    rfl
  rw [this]
  exact List.mem_of_getElem? (at_getD (by omega) 0)
def spGr : Sp := fun vs H Q _ => ∃ (lr lw : Addr) (ts : List Addr) (R : List (List Nat)) (p : Nat) (ws : List Int) (v : Int), vs = [.ref lr, .ref lw, .int v, .int p] ∧ Rws H lr ts R p ∧ H lw = some (.lst (ws.map V.int)) ∧ ws.length = R.length ∧
  ∀ (H' : Hp) (r : Option Nat) (o : List Nat) (k : Nat), More H H' → Khn R.length (leadS p (tab R)) o o.length 0 → (∀ t m, ¬ El p (tab R) o k t m) → MaxO (Eb p (tab R) (valL ws) v o k) r → Q (oV r) H'
section
variable {P : Program} {w : World} {K : PySem.W.Frag} {mg : Str → Option Value} {base : Heap} {g1 f : Addr} {d1 fd : FuncData}
theorem ok_gr (F : Fun K "greatest_number" "greatest_number" sGr f fd) (B : Blt mg) (zEnum : mg "enumerate" = none) (zMax : mg "max" = none) (Em : Cl K mg "early_marks" sEm ["moves"] g1 d1) : FnOk P w K mg base CX0 2 f fd ["moves", "worths", "value", "p"] spGr := by
  have G1 : FnOk P w K mg base CX0 1 g1 d1 ["moves"] spEm := ok_em Em.fn B
  refine F.ok scGr (fun vs H Q E h => ?_) (fun cdv A outer s H vs Q E hr h => ?_)
  · obtain ⟨lr, lw, ts, R, p, ws, v, rfl, _⟩ := h
    rfl
  · obtain ⟨lr, lw, ts, R, p, ws, v, rfl, rw0, hlw, lws, q⟩ := h
    have hu := hu_of hr
    refine ⟨_, pss_cons (ps_set (i := 4) scGr.nd rfl (Or.inl rfl) (pe_call G1 hr rfl Em.g Em.k Em.b .nil pass0 (pa_cons (pv 0) pa_nil)))
      (Evl.pss_cut (ps_set (i := 5) scGr.nd rfl (Or.inl rfl) (pe_ifExp (pt_cmpR op_eq (pe_ix ix_list (pv 1) pe_int (fun _ _ => rfl)) (pv 2) (nomark _)) pe_int pe_non))
      (Evl.pss_cut (ps_set (i := 6) scGr.nd rfl (Or.inl rfl) (pe_ifExp (pt_val (pe_ix ix_list (pv 4) pe_int (fun _ _ => rfl))) (pe_disp (pps_cons pe_int pe_int pps_nil) rfl rfl (by simp) (by decide)) pe_dnewK))
      (pss_cons (ps_set (i := 7) scGr.nd rfl (Or.inl rfl) pe_int)
      (pss_cons (ps_while PassesOwn.never (pt_truth (pv 6) (by intro _; rfl))
        (pss_cons (ps_set (i := 8) scGr.nd rfl (Or.inl rfl) pe_dnewK)
        (Evl.pss_cut (ps_lock (ps_for PassesOwn.never rfl (pi_items (pv 6)) (pg_tup rfl (pgs_cons (pg_name (i := 9) scGr.nd rfl (Or.inl rfl)) (pgs_cons (pg_name (i := 10) scGr.nd rfl (Or.inl rfl)) pgs_nil)))
          (pss_one (ps_for PassesOwn.never rfl (pi_enT (by rfl) zEnum (pa_cons (pe_ix ix_list (pv 0) (pv 9) (fun _ _ => rfl)) pa_nil)) (pg_tup rfl (pgs_cons (pg_name (i := 11) scGr.nd rfl (Or.inl rfl)) (pgs_cons (pg_name (i := 12) scGr.nd rfl (Or.inl rfl)) pgs_nil)))
            (pss_cons (ps_set (i := 13) scGr.nd rfl (Or.inl rfl) (pe_op op_add (pv 10) (pe_op op_mul (pv 11) (pv 7))))
            (Evl.pss_cut (ps_if (PW.pt (pw_and (pt_cmpR op_ne (pv 11) pe_int (nomark _)) (pw_and1 (pt_cmpR op_eq (pe_ix ix_list (pv 1) (pv 12) (fun _ _ => rfl)) (pv 2) (nomark _)))))
              (pss_one (ps_set (i := 5) scGr.nd rfl (Or.inl rfl) (pe_ifExp (pt_cmpR op_isN (pv 5) pe_non (nomark _)) (pv 13) (pe_callB (call_max2 rfl) (by rfl) zMax (by decide +kernel) (pa_cons (pv 5) (pa_cons (pv 13) pa_nil)))))) pss_nil)
            (pss_one (ps_if (pt_val (pe_ix ix_list (pv 4) (pv 12) (fun _ _ => rfl)))
              (pss_one (ps_dput hu (pv 8) (pv 12) (pe_callB (call_max2 rfl) (by rfl) zMax (by decide +kernel) (pa_cons (pv 13) (pa_cons (pe_dget2 hu (pv 8) (pv 12) (pv 13) ⟨rfl, rfl, rfl, rfl⟩) pa_nil))) rfl)) pss_nil))))))))
        (pss_cons (ps_set (i := 6) scGr.nd rfl (Or.inl rfl) (pv 8))
        (pss_one (ps_set (i := 7) scGr.nd rfl (Or.inl rfl) (pe_op op_mul (pv 7) (pv 3))))))))
      (pss_one (ps_ret (pv 5))))))), ?_⟩
    obtain ⟨n, hn⟩ : ∃ n, n = R.length := ⟨_, rfl⟩
    obtain ⟨st, hst⟩ : ∃ st, st = tab R := ⟨_, rfl⟩
    have lts : ts.length = n := by rw [hn]; exact Paired.length rw0.rows
    have n0 : 0 < n := by rw [hn]; exact rw0.n0
    have few : n ≤ 100 := by rw [hn]; exact rw0.few
    have p2 := rw0.p2
    have p7 := rw0.p7
    have cl : ∀ s d, s < n → d < p → st s d < n := by rw [hn, hst]; exact rw0.cl
    refine ⟨_, rfl, lr, ts, R, rfl, rw0.at_, rw0.rows, rw0.n0, by have := rw0.few; omega, rw0.lt, rw0.came, fun H1 ml o m1 kml kh0 => ?_⟩
    have kh : Khn n (leadS p st) o o.length 0 := by
      rw [hn, hst]
      exact khn_congr (fun s hs => rw0.lead hs) kh0
    have rw1 := rw0.more m1
    have hlw1 := m1 _ _ hlw
    rw [← hn] at lws kml q
    rw [← hst] at q
    clear kh0
    -- the best so far
    refine ⟨fun σ' H' => ∃ r : Option Nat, σ' = [some (.ref lr), some (.ref lw), some (.int v), some (.int p), some (.ref ml), some (oV r), none, none, none, none, none, none, none, none] ∧ H' = H1 ∧ MaxO (Eb p st (valL ws) v o 0) r, ?_, ?_⟩
    · refine ⟨_, rfl, lw, _, ((0 : Nat) : Int), _, rfl, rfl, SqL.of hlw1, atI_nat (at_map (at_getD (by omega) 0)), _, rfl, rfl, _, rfl, ?_⟩
      rw [deI]
      by_cases z : ws.getD 0 0 = v
      · rw [decide_eq_true z]
        exact iteT ⟨some 0, rfl, rfl, .inr ⟨0, rfl, .inl ⟨rfl, z⟩, fun m' e => by
          rcases e with ⟨e, _⟩ | ⟨L, s, u, d, hL, _⟩
          · omega
          · exact absurd hL (Nat.not_lt_zero _)⟩⟩
      · rw [decide_eq_false z]
        exact iteF ⟨none, rfl, rfl, .inl ⟨rfl, fun m' e => by
          rcases e with ⟨_, e⟩ | ⟨L, s, u, d, hL, _⟩
          · exact z e
          · exact absurd hL (Nat.not_lt_zero _)⟩⟩
    rintro σ2 H2 ⟨r0, rfl, rfl, mo0⟩
    -- the first level
    have wd0 : ∀ s m, Wd p st 0 s m ↔ s = 0 ∧ m = 0 := fun s m => by
      constructor
      · rintro ⟨w, e, _, e2, e3⟩
        have : w = [] := List.length_eq_zero_iff.mp e
        subst this
        exact ⟨e2.symm, e3.symm⟩
      · rintro ⟨rfl, rfl⟩
        exact ⟨[], rfl, fun _ h => (nomatch h), rfl, rfl⟩
    refine ⟨fun σ' H' => ∃ (lv : Addr) (kr : List (Key × V)), σ' = [some (.ref lr), some (.ref lw), some (.int v), some (.int p), some (.ref ml), some (oV r0), some (.ref lv), none, none, none, none, none, none, none] ∧ More H2 H' ∧ H2 lv = none ∧ H' lv = some (.dK kr) ∧ KX kr (El p st o 0), ?_, ?_⟩
    · refine ⟨_, rfl, ml, _, ((0 : Nat) : Int), _, rfl, rfl, SqL.of kml, atI_nat (fnL_at n0), _, rfl, ?_⟩
      by_cases z : 0 ∈ o
      · rw [decide_eq_true z]
        refine iteT fun lv hlv => ⟨upd_same, [(Sum.inl (0 : Int), V.int (0 : Nat))], rfl, by show 1 ≤ 15; omega, ?_⟩
        rw [upd_upd]
        refine ⟨lv, [(Sum.inl (0 : Int), V.int (0 : Nat))], rfl, new_more hlv, hlv, upd_same, ⟨by simp, fun q hq => ?_, fun t m ⟨s, e, so, w⟩ => ?_⟩⟩
        · have : q = (Sum.inl (0 : Int), V.int (0 : Nat)) := by simpa using hq
          exact ⟨0, 0, this, ⟨0, rfl, z, (wd0 0 0).mpr ⟨rfl, rfl⟩⟩, fun m' ⟨s, e, so, w⟩ => by
            obtain ⟨_, e3⟩ := (wd0 s m').mp w
            omega⟩
        · obtain ⟨rfl, rfl⟩ := (wd0 s m).mp w
          subst e
          exact ⟨_, rfl⟩
      · rw [decide_eq_false z]
        refine iteF fun lv hlv => ⟨lv, [], rfl, new_more hlv, hlv, upd_same, KX.nil fun t m ⟨s, e, so, w⟩ => ?_⟩
        obtain ⟨rfl, _⟩ := (wd0 s m).mp w
        exact z so
    rintro σ3 H3 ⟨lv0, kr0, rfl, m23, nlv0, klv0, kx0⟩
    -- level by level
    refine ⟨fun m σ' H' => ∃ (k : Nat) (lv : Addr) (kr : List (Key × V)) (r : Option Nat) (z8 z9 z10 z11 z12 z13 : Option V), m = n - k ∧ k ≤ n ∧ σ' = [some (.ref lr), some (.ref lw), some (.int v), some (.int p), some (.ref ml), some (oV r), some (.ref lv), some (.int (p ^ k : Nat)), z8, z9, z10, z11, z12, z13] ∧
        H' lv = some (.dK kr) ∧ KX kr (El p st o k) ∧ H2 lv = none ∧ MaxO (Eb p st (valL ws) v o k) r ∧ More H2 H', ⟨n, 0, lv0, kr0, r0, none, none, none, none, none, none, rfl, Nat.zero_le _, rfl, klv0, kx0, nlv0, mo0, m23⟩, ?_⟩
    clear m23 klv0 kx0 nlv0 mo0
    rintro m σ' G ⟨k, lv, kr, r, z8, z9, z10, z11, z12, z13, rfl, hk, rfl, klv, kx, nlv, mo, mG⟩
    refine ⟨_, rfl, _, .inr (.inr ⟨kr, klv, rfl⟩), ?_⟩
    by_cases ek : kr = []
    · rw [ek] at kx ⊢
      have no : ∀ t m, ¬ El p st o k t m := fun t m h => kx.off (t := t) rfl m h
      exact iteF ⟨_, rfl, q G r o k (fun b o e => mG _ _ (m1 _ _ e)) kh no mo⟩
    have en : (!kr.isEmpty) = true := by
      cases kr with
      | nil => exact absurd rfl ek
      | cons _ _ => rfl
    rw [en]
    have kn : k < n := by
      cases hkr : kr with
      | nil => exact absurd hkr ek
      | cons a r =>
        obtain ⟨t', m', _, mm⟩ := kx.mem a (by rw [hkr]; exact .head _)
        exact el_few cl n0 kh.tk mm.1
    refine iteT ⟨fun σ' H' => ∃ (lv : Addr) (kr : List (Key × V)) (r : Option Nat) (z8 z9 z10 z11 z12 z13 : Option V), σ' = [some (.ref lr), some (.ref lw), some (.int v), some (.int p), some (.ref ml), some (oV r), some (.ref lv), some (.int (p ^ (k + 1) : Nat)), z8, z9, z10, z11, z12, z13] ∧
        H' lv = some (.dK kr) ∧ KX kr (El p st o (k + 1)) ∧ H2 lv = none ∧ MaxO (Eb p st (valL ws) v o (k + 1)) r ∧ More H2 H', fun σ' H' ⟨lv, kr, r, z8, z9, z10, z11, z12, z13, h⟩ => ⟨n - (k + 1), by omega, k + 1, lv, kr, r, z8, z9, z10, z11, z12, z13, rfl, kn, h⟩, ?_⟩
    refine fun re hre => ?_
    have mR := new_more (o := .dK []) hre
    have nre : H2 re = none := mG.off hre
    have lre : lv ≠ re := ne_of_none klv hre
    have klv1 := mR _ _ klv
    have kre1 : (upd G re (.dK [])) re = some (.dK []) := upd_same
    have mG1 : More H2 (upd G re (.dK [])) := fun b o e => mR _ _ (mG _ _ e)
    generalize upd G re (.dK []) = G1 at klv1 kre1 mG1 ⊢
    clear mR hre klv mG
    have rAt : ∀ {s : Nat}, s < n → ∃ b, ts[s]? = some b ∧ H2 b = some (.tup ((leadS p st s).map nV)) := fun {s} hs => by
      have et : ts[s]? = some (ts[s]'(by omega)) := List.getElem?_eq_getElem (by omega)
      obtain ⟨rr, er, kb⟩ := paired_at rw1.rows et
      have e : rowR R s = rr := by
        unfold rowR
        rw [List.getD_eq_getElem?_getD, er]
        rfl
      rw [hst, ← rw0.lead (by omega), e]
      exact ⟨_, et, kb⟩
    have esb : ∀ i j t m, Es p st o k kr i j t m → 0 ≤ t ∧ t < (n : Int) := fun i j t m ⟨x, e, xo, _⟩ => by
      have := kh.tk.lt x xo
      omega
    refine ⟨fun σ' H' => ∃ (ke : List (Key × V)) (r : Option Nat) (z9 z10 z11 z12 z13 : Option V), σ' = [some (.ref lr), some (.ref lw), some (.int v), some (.int p), some (.ref ml), some (oV r), some (.ref lv), some (.int (p ^ k : Nat)), some (.ref re), z9, z10, z11, z12, z13] ∧ H' re = some (.dK ke) ∧ KX ke (El p st o (k + 1)) ∧ MaxO (Eb p st (valL ws) v o (k + 1)) r ∧ More H2 H', ?_, ?_⟩
    · refine ⟨lv, .dK kr, klv1, True.intro, fun od => ?_⟩
      have kre2 : (upd G1 lv (.frz od (.dK kr))) re = some (.dK []) := (upd_ne lre.symm).trans kre1
      have m2 : More H2 (upd G1 lv (.frz od (.dK kr))) := More.at mG1 nlv
      have kz2 : (upd G1 lv (.frz od (.dK kr))) lv = some (.frz od (.dK kr)) := upd_same
      generalize upd G1 lv (.frz od (.dK kr)) = G2 at kre2 m2 kz2 ⊢
      refine ⟨_, rfl, lv, od, kr, rfl, kz2, for_it (walk_items (kvs := kr)) (fun i σ' H' => ∃ (z9 z10 z11 z12 z13 : Option V) (r : Option Nat) (ke : List (Key × V)), σ' = [some (.ref lr), some (.ref lw), some (.int v), some (.int p), some (.ref ml), some (oV r), some (.ref lv), some (.int (p ^ k : Nat)), some (.ref re), z9, z10, z11, z12, z13] ∧ H' lv = some (.frz od (.dK kr)) ∧ H' re = some (.dK ke) ∧ KX ke (Es p st o k kr i 0) ∧ MaxO (Bp p st (valL ws) v o k kr i 0) r ∧ More H2 H')
        ⟨z9, z10, z11, z12, z13, r, [], rfl, kz2, kre2, KX.nil (fun t m ⟨x, _, _, s, u, d, h, _⟩ => at_zero h), mo.eq (fun m => ⟨fun h => h.elim id fun ⟨s, u, d, h, _⟩ => absurd h at_zero, .inl⟩), m2⟩ (fun i σ' H' _ ⟨_, _, _, _, _, _, _, _, h, _⟩ => h) ?_ ?_⟩
      · rintro i x σ' G3 G4 hi ⟨z9, z10, z11, z12, z13, r, ke, rfl, kz, kre, kxe, mb, m⟩ ⟨T, u, y, rfl, nT, rfl, hu0, hy0⟩
        obtain ⟨qi, hqi⟩ : ∃ qi, kr[i]? = some qi := ⟨kr[i], List.getElem?_eq_getElem hi⟩
        have hu0 : (kr[i]?).map (fun kv => kV kv.1) = some u := hu0
        have hy0 : (kr[i]?).map Prod.snd = some y := hy0
        rw [hqi] at hu0 hy0
        obtain ⟨t', m', rfl, mm⟩ := kx.mem qi (List.mem_of_getElem? hqi)
        obtain ⟨s, rfl, so, wds⟩ := mm.1
        cases hu0
        cases hy0
        have sn := (wd_rch wds).below cl n0
        have mT := new_more (o := .tup [kV (Sum.inl ((s : Nat) : Int)), V.int ((m' : Nat) : Int)]) nT
        have kT : (upd G3 T (.tup [kV (Sum.inl ((s : Nat) : Int)), V.int ((m' : Nat) : Int)])) T = some (.tup [V.int ((s : Nat) : Int), V.int ((m' : Nat) : Int)]) := upd_same
        have kz := mT _ _ kz
        have kre := mT _ _ kre
        have m : More H2 (upd G3 T (.tup [kV (Sum.inl ((s : Nat) : Int)), V.int ((m' : Nat) : Int)])) := fun b o e => mT _ _ (m _ _ e)
        generalize upd G3 T (.tup [kV (Sum.inl ((s : Nat) : Int)), V.int ((m' : Nat) : Int)]) = G4 at kT kz kre m ⊢
        refine ⟨T, _, rfl, SqT.of kT, rfl, _, _, rfl, _, _, rfl, rfl, ?_⟩
        obtain ⟨b, hb, kb⟩ := rAt sn
        refine ⟨_, rfl, _, rfl, lr, _, ((s : Nat) : Int), _, rfl, rfl, SqL.of (m _ _ rw1.at_), atI_nat (at_map hb), b, (leadS p st s).map nV, rfl, SqT.of (m _ _ kb), for_it walk_enT (fun j σ' H' => ∃ (z11 z12 z13 : Option V) (r : Option Nat) (ke : List (Key × V)), σ' = [some (.ref lr), some (.ref lw), some (.int v), some (.int p), some (.ref ml), some (oV r), some (.ref lv), some (.int (p ^ k : Nat)), some (.ref re), some (.int s), some (.int m'), z11, z12, z13] ∧ H' lv = some (.frz od (.dK kr)) ∧ H' re = some (.dK ke) ∧ KX ke (Es p st o k kr i j) ∧ MaxO (Bp p st (valL ws) v o k kr i j) r ∧ More H2 H')
          ⟨z11, z12, z13, r, ke, rfl, kz, kre, kxe, mb, m⟩ (fun j σ' H' _ ⟨_, _, _, _, _, _, _, _, _, _, h⟩ => SqT.of (h _ _ kb)) ?_ ?_⟩
        · clear kz kre kxe mb m mT kT
          rintro j x σ' G5 G6 hj ⟨z11, z12, z13, r, ke, rfl, kz, kre, kxe, mb, m⟩ ⟨T2, u2, y2, rfl, nT2, rfl, hu2, hy2⟩
          cases hu2
          obtain ⟨x0, hx0, rfl⟩ := map_at hy2
          rw [List.length_map, leadS_len] at hj
          have ex0 : st s j = x0 := by
            rw [leadS_at hj] at hx0
            exact Option.some.inj hx0
          have xn : x0 < n := by rw [← ex0]; exact cl s j sn hj
          have mT := new_more (o := .tup [V.int ((j : Nat) : Int), nV x0]) nT2
          have kT : (upd G5 T2 (.tup [V.int ((j : Nat) : Int), nV x0])) T2 = some (.tup [V.int ((j : Nat) : Int), nV x0]) := upd_same
          have kz := mT _ _ kz
          have kre := mT _ _ kre
          have m : More H2 (upd G5 T2 (.tup [V.int ((j : Nat) : Int), nV x0])) := fun b o e => mT _ _ (m _ _ e)
          generalize upd G5 T2 (.tup [V.int ((j : Nat) : Int), nV x0]) = G6 at kT kz kre m ⊢
          refine ⟨T2, _, rfl, SqT.of kT, rfl, _, _, rfl, _, _, rfl, rfl, ?_⟩
          refine ⟨_, rfl, _, rfl, _, rfl, _, _, rfl, rfl, .inl ⟨by omega, by omega⟩, _, _, rfl, rfl, ?_⟩
          have et : ((m' : Nat) : Int) + ((j : Nat) : Int) * ((p ^ k : Nat) : Int) = ((m' + j * p ^ k : Nat) : Int) := by rw [Int.natCast_add, Int.natCast_mul]
          show gName 13 (V.int (((m' : Nat) : Int) + ((j : Nat) : Int) * ((p ^ k : Nat) : Int))) _ _ _
          rw [et]
          obtain ⟨told, htold⟩ : ∃ told, told = m' + j * p ^ k := ⟨_, rfl⟩
          rw [← htold]
          have bs : ∀ w, Bp p st (valL ws) v o k kr i (j + 1) w ↔ Bp p st (valL ws) v o k kr i j w ∨ (0 < j ∧ valL ws x0 = v ∧ w = told) := fun w => by
            constructor
            · rintro (e | ⟨s', u, d, h, d0, hd, ev, em⟩)
              · exact .inl (.inl e)
              · rcases (at_step hqi).mp h with h | ⟨rfl, rfl, rfl⟩
                · exact .inl (.inr ⟨s', u, d, h, d0, hd, ev, em⟩)
                · exact .inr ⟨d0, by rw [← ex0]; exact ev, by rw [em, htold]⟩
            · rintro ((e | ⟨s', u, d, h, r⟩) | ⟨d0, ev, em⟩)
              · exact .inl e
              · exact .inr ⟨s', u, d, (at_step hqi).mpr (.inl h), r⟩
              · exact .inr ⟨s, m', j, (at_step hqi).mpr (.inr ⟨rfl, rfl, rfl⟩), d0, hj, by rw [ex0]; exact ev, by rw [em, htold]⟩
          have es : ∀ t w, Es p st o k kr i (j + 1) t w ↔ Es p st o k kr i j t w ∨ (t = (x0 : Nat) ∧ x0 ∈ o ∧ w = told) := fun t w => by
            constructor
            · rintro ⟨x, e, xo, s', u, d, h, hd, e1, e2⟩
              rcases (at_step hqi).mp h with h | ⟨rfl, rfl, rfl⟩
              · exact .inl ⟨x, e, xo, s', u, d, h, hd, e1, e2⟩
              · rw [ex0] at e1
                subst e1
                exact .inr ⟨e, xo, by rw [e2, htold]⟩
            · rintro (⟨x, e, xo, s', u, d, h, r⟩ | ⟨e, xo, ew⟩)
              · exact ⟨x, e, xo, s', u, d, (at_step hqi).mpr (.inl h), r⟩
              · exact ⟨x0, e, xo, s, m', j, (at_step hqi).mpr (.inr ⟨rfl, rfl, rfl⟩), hj, ex0, by rw [ew, htold]⟩
          refine ⟨fun σ' H' => ∃ r : Option Nat, σ' = [some (.ref lr), some (.ref lw), some (.int v), some (.int p), some (.ref ml), some (oV r), some (.ref lv), some (.int (p ^ k : Nat)), some (.ref re), some (.int s), some (.int m'), some (.int (j : Nat)), some (nV x0), some (.int (told : Nat))] ∧ H' = G6 ∧ MaxO (Bp p st (valL ws) v o k kr i (j + 1)) r, ?_, ?_⟩
          · have same : ¬ (0 < j ∧ valL ws x0 = v) → MaxO (Bp p st (valL ws) v o k kr i (j + 1)) r := fun h => mb.eq fun w => by
              rw [bs]
              exact ⟨fun e => e.elim id fun ⟨a, b, _⟩ => absurd ⟨a, b⟩ h, .inl⟩
            refine ⟨_, rfl, rfl, _, rfl, ?_⟩
            rw [deI]
            by_cases z : j = 0
            · rw [decide_eq_true (by omega)]
              exact iteF ⟨r, rfl, rfl, same (by omega)⟩
            · rw [decide_eq_false (by omega)]
              refine iteT ⟨_, rfl, _, rfl, lw, _, ((x0 : Nat) : Int), _, rfl, rfl, SqL.of (m _ _ hlw1), atI_nat (at_map (at_getD (by omega) 0)), _, rfl, rfl, _, rfl, ?_⟩
              rw [deI]
              by_cases z2 : ws.getD x0 0 = v
              · rw [decide_eq_true z2]
                have add : ∀ r', r' = addO r told → MaxO (Bp p st (valL ws) v o k kr i (j + 1)) (some r') := fun r' e => by
                  rw [e]
                  refine (mb.add told).eq fun w => ?_
                  rw [bs]
                  exact ⟨fun h => h.elim .inl fun h => .inr h.2.2, fun h => h.elim .inl fun h => .inr ⟨by omega, z2, h⟩⟩
                refine iteT ⟨_, rfl, rfl, _, rfl, ?_⟩
                cases r with
                | none =>
                  rw [show decide (oV none = V.non) = true from rfl]
                  exact iteT ⟨_, rfl, some told, rfl, rfl, add _ rfl⟩
                | some mx =>
                  rw [show decide (oV (some mx) = V.non) = false from decide_eq_false (fun z : V.int _ = V.non => nomatch z)]
                  refine iteF ⟨_, rfl, _, rfl, _, _, rfl, ?_⟩
                  have e0 : (if ((told : Nat) : Int) > ((mx : Nat) : Int) then ((told : Nat) : Int) else ((mx : Nat) : Int)) = ((max mx told : Nat) : Int) := by split <;> omega
                  show gName 5 (V.int (if ((told : Nat) : Int) > ((mx : Nat) : Int) then ((told : Nat) : Int) else ((mx : Nat) : Int))) _ _ _
                  rw [e0]
                  exact ⟨some (max mx told), rfl, rfl, add _ rfl⟩
              · rw [decide_eq_false z2]
                exact iteF ⟨r, rfl, rfl, same fun h => z2 h.2⟩
          clear mb
          rintro σ' G7 ⟨r, rfl, rfl, mb⟩
          refine ⟨_, rfl, _, rfl, ml, _, ((x0 : Nat) : Int), _, rfl, rfl, SqL.of (m _ _ kml), atI_nat (fnL_at xn), _, rfl, ?_⟩
          by_cases xo : x0 ∈ o
          · rw [decide_eq_true xo]
            have fin : ∀ w : Nat, MaxE (Es p st o k kr i (j + 1) ((x0 : Nat) : Int)) w → ∃ (z11 z12 z13 : Option V) (r' : Option Nat) (ke' : List (Key × V)), [some (.ref lr), some (.ref lw), some (.int v), some (.int p), some (.ref ml), some (oV r), some (.ref lv), some (.int (p ^ k : Nat)), some (.ref re), some (.int s), some (.int m'), some (.int (j : Nat)), some (nV x0), some (.int (told : Nat))] = [some (.ref lr), some (.ref lw), some (.int v), some (.int p), some (.ref ml), some (oV r'), some (.ref lv), some (.int (p ^ k : Nat)), some (.ref re), some (.int s), some (.int m'), z11, z12, z13] ∧
                (upd G7 re (.dK (putK ke (Sum.inl ((x0 : Nat) : Int)) (V.int ((w : Nat) : Int))))) lv = some (.frz od (.dK kr)) ∧ (upd G7 re (.dK (putK ke (Sum.inl ((x0 : Nat) : Int)) (V.int ((w : Nat) : Int))))) re = some (.dK ke') ∧ KX ke' (Es p st o k kr i (j + 1)) ∧ MaxO (Bp p st (valL ws) v o k kr i (j + 1)) r' ∧ More H2 (upd G7 re (.dK (putK ke (Sum.inl ((x0 : Nat) : Int)) (V.int ((w : Nat) : Int))))) := fun w mw => by
              refine ⟨_, _, _, r, _, rfl, (upd_ne lre).trans kz, upd_same, kxe.put mw fun y hy x => ?_, mb, More.at m nre⟩
              rw [es]
              exact ⟨fun h => h.elim id fun ⟨e, _⟩ => absurd e hy, .inl⟩
            have le : ke.length < 1001 := by have := kxe.len (esb i j); omega
            refine iteT ⟨_, rfl, _, rfl, re, rfl, .inl ⟨ke, .inl kre⟩, _, rfl, _, rfl, _, DGet.k (k := Sum.inl ((x0 : Nat) : Int)) kre, ?_⟩
            cases ee : valV ke (Sum.inl ((x0 : Nat) : Int)) with
            | none =>
              have no := kxe.off ee
              refine ⟨_, _, rfl, ?_⟩
              have e0 : (if ((told : Nat) : Int) > ((told : Nat) : Int) then ((told : Nat) : Int) else ((told : Nat) : Int)) = ((told : Nat) : Int) := by split <;> rfl
              show _
              rw [e0]
              exact ⟨_, rfl, _, rfl, re, _, rfl, DPut.k (k := Sum.inl ((x0 : Nat) : Int)) kre (small1000 (by omega)), fin told ⟨(es _ _).mpr (.inr ⟨rfl, xo, rfl⟩), fun w hw => by
                rcases (es _ _).mp hw with h | ⟨_, _, h⟩
                · exact absurd h (no w)
                · omega⟩⟩
            | some x1 =>
              obtain ⟨m2, rfl, mm2⟩ := kxe.get ee
              refine ⟨_, _, rfl, ?_⟩
              have e0 : (if ((m2 : Nat) : Int) > ((told : Nat) : Int) then ((m2 : Nat) : Int) else ((told : Nat) : Int)) = ((max told m2 : Nat) : Int) := by split <;> omega
              show _
              rw [e0]
              exact ⟨_, rfl, _, rfl, re, _, rfl, DPut.k (k := Sum.inl ((x0 : Nat) : Int)) kre (small1000 (by omega)), fin (max told m2) ⟨by
                by_cases z : m2 ≤ told
                · rw [Nat.max_eq_left z]; exact (es _ _).mpr (.inr ⟨rfl, xo, rfl⟩)
                · rw [Nat.max_eq_right (by omega)]; exact (es _ _).mpr (.inl mm2.1), fun w hw => by
                rcases (es _ _).mp hw with h | ⟨_, _, h⟩
                · have := mm2.2 w h
                  omega
                · omega⟩⟩
          · rw [decide_eq_false xo]
            exact iteF ⟨_, _, _, r, ke, rfl, kz, kre, kxe.eq fun t w => by
              rw [es]
              exact ⟨fun h => h.elim id fun ⟨_, a, _⟩ => absurd a xo, .inl⟩, mb, m⟩
        · rintro σ' G5 ⟨z11, z12, z13, r, ke, rfl, kz, kre, kxe, mb, m⟩
          rw [List.length_map, leadS_len] at kxe mb
          refine ⟨_, _, _, _, _, r, ke, rfl, kz, kre, kxe.eq fun t w => ?_, mb.eq fun w => ?_, m⟩
          · exact ⟨fun ⟨x, e, xo, s', u, d, h, hd, e2⟩ => ⟨x, e, xo, s', u, d, (at_row hd).mp h, hd, e2⟩, fun ⟨x, e, xo, s', u, d, h, hd, e2⟩ => ⟨x, e, xo, s', u, d, (at_row hd).mpr h, hd, e2⟩⟩
          · exact ⟨fun h => h.elim .inl fun ⟨s', u, d, h, d0, hd, e⟩ => .inr ⟨s', u, d, (at_row hd).mp h, d0, hd, e⟩, fun h => h.elim .inl fun ⟨s', u, d, h, d0, hd, e⟩ => .inr ⟨s', u, d, (at_row hd).mpr h, d0, hd, e⟩⟩
      · rintro σ' G3 ⟨z9, z10, z11, z12, z13, r, ke, rfl, kz, kre, kxe, mb, m⟩
        exact ⟨kz, ke, r, _, _, _, _, _, rfl, (upd_ne lre.symm).trans kre, es_end cl n0 kh.tk kx kxe, bp_end kx mb, More.at m nlv⟩
    clear klv1 kre1 mG1 mo
    rintro σ' G2 ⟨ke, r, z9, z10, z11, z12, z13, rfl, kre, kxe, mb, mG⟩
    refine ⟨_, rfl, _, rfl, _, rfl, _, _, rfl, rfl, .inr ⟨by omega, by omega⟩, ?_⟩
    have epow : ((p ^ k : Nat) : Int) * ((p : Nat) : Int) = ((p ^ (k + 1) : Nat) : Int) := by rw [Nat.pow_succ, Int.natCast_mul]
    show gName 7 (V.int (((p ^ k : Nat) : Int) * ((p : Nat) : Int))) _ _ _
    rw [epow]
    exact ⟨re, ke, r, _, _, _, _, _, _, rfl, kre, kxe, nre, mb, mG⟩
end
end K72

/-! la: comes_again, last -/
namespace K72
open PySem L2 Gd B5 NdefX
abbrev sAg : Stmt := top 24
abbrev NAg : List Str := ["machine", "value", "moves", "worths"]
theorem scAg : FnScope NAg ["machine", "value"] (defScope sAg) := ⟨rfl, rfl, rfl, by decide +kernel, rfl, by decide +kernel, by decide +kernel⟩
abbrev sLa : Stmt := top 25
theorem scLa : FnScope NAg ["machine", "value"] (defScope sLa) := ⟨rfl, rfl, rfl, by decide +kernel, rfl, by decide +kernel, by decide +kernel⟩
/-- long numbers tell the value -/
def Endl (p : Nat) (step : Nat → Nat → Nat) (val : Nat → Int) (v : Int) (M : Nat) : Prop := ∃ (w : List Nat) (d : Nat), Dg p w ∧ M ≤ w.length ∧ w.length < 2 * M ∧ 0 < d ∧ d < p ∧ val (step (runW step 0 w) d) = v
/-- the met machine's words -/
theorem met_across {p : Nat} {dss : List (List Int)} {ws : List Int} (g : MGood p dss ws) : Across p (tab (metR p dss)) (valL ((metN p dss).map fun s => ws.getD s 0)) (stepT dss) (valL ws) 0 0 := by
  intro w hw
  have e := (met_I g).run w 0 0 (met_I g).first hw
  have lt := (List.getElem?_eq_some_iff.mp e).1
  show ((metN p dss).map fun s => ws.getD s 0).getD (runW (tab (metR p dss)) 0 w) 0 = ws.getD (runW (stepT dss) 0 w) 0
  have e2 : (metN p dss).getD (runW (tab (metR p dss)) 0 w) 0 = runW (stepT dss) 0 w := by
    rw [List.getD_eq_getElem?_getD, e]
    rfl
  rw [getD_map lt 0, e2]
theorem met_all {p : Nat} {dss : List (List Int)} {ws : List Int} (g : MGood p dss ws) {s : Nat} (hs : s < (metR p dss).length) : Rch p (tab (metR p dss)) s := by
  have MI := met_I g
  rw [MI.len] at hs
  obtain ⟨w, hw, e⟩ := met_rch (good_cl g) (List.length_pos_iff.mpr g.ne) (Nat.le_refl _) (metN p dss)[s] (List.getElem_mem hs)
  have e2 := MI.run w 0 0 MI.first hw
  rw [e] at e2
  have lt := (List.getElem?_eq_some_iff.mp e2).1
  have : runW (tab (metR p dss)) 0 w = s := (List.getElem?_inj lt MI.nd).mp (by rw [e2, List.getElem?_eq_getElem hs])
  exact ⟨w, hw, this⟩
theorem met_rws {H : Hp} {lr : Addr} {ts : List Addr} {p : Nat} {dss : List (List Int)} {ws : List Int} (g : MGood p dss ws) (few : dss.length ≤ 100) (h1 : H lr = some (.lst (ts.map V.ref))) (h2 : Paired (TupN H) ts (metR p dss)) : Rws H lr ts (metR p dss) p := by
  have MI := met_I g
  obtain ⟨p2, p7⟩ := isPr_small g.pr
  have fi := (metI_C MI).fine (f := fun s => ws.getD s 0)
  refine ⟨h1, h2, fi.ne, by have := fi.few; omega, by omega, by omega, fun r hr => (fi.rows r hr).1, fun r hr => (fi.rows r hr).2, fun t ht t0 => ?_⟩
  obtain ⟨w, hw, e⟩ := met_all g ht
  obtain ⟨u, d, rfl⟩ := snoc_of w fun z => by rw [z] at e; exact t0 e.symm
  obtain ⟨a, b⟩ := Dg.snoc.mp hw
  rw [runW_app] at e
  have lt : runW (tab (metR p dss)) 0 u < (metR p dss).length := by
    have e2 := MI.run u 0 0 MI.first a
    have := (List.getElem?_eq_some_iff.mp e2).1
    rw [MI.len]
    exact this
  refine ⟨_, lt, ?_⟩
  have er : (metR p dss)[runW (tab (metR p dss)) 0 u]? = some ((metR p dss)[runW (tab (metR p dss)) 0 u]'lt) := List.getElem?_eq_getElem lt
  have er2 : rowR (metR p dss) (runW (tab (metR p dss)) 0 u) = (metR p dss)[runW (tab (metR p dss)) 0 u]'lt := by
    unfold rowR
    rw [List.getD_eq_getElem?_getD, er]
    rfl
  have l := (fi.rows _ (List.getElem_mem lt)).1
  rw [← e]
  show (rowR (metR p dss) (runW (tab (metR p dss)) 0 u)).getD d 0 ∈ rowR (metR p dss) (runW (tab (metR p dss)) 0 u)
  rw [er2]
  exact List.mem_of_getElem? (at_getD (by omega) 0)
/-- what is left tells the value just if long numbers do -/
theorem endl_iff {H : Hp} {lr : Addr} {ts : List Addr} {p : Nat} {dss : List (List Int)} {ws : List Int} {v : Int} (g : MGood p dss ws) (R : Rws H lr ts (metR p dss) p) {o : List Nat} (kh : Khn (metR p dss).length (leadS p (tab (metR p dss))) o o.length 0) :
    (∃ s d, s < (metR p dss).length ∧ s ∉ o ∧ 0 < d ∧ d < p ∧ valL ((metN p dss).map fun s => ws.getD s 0) (tab (metR p dss) s d) = v) ↔ Endl p (stepT dss) (valL ws) v dss.length := by
  have MI := met_I g
  have A := met_across g
  have le : (metR p dss).length ≤ dss.length := ((metI_C MI).fine (f := fun s => ws.getD s 0)).few
  have tell : ∀ (w : List Nat) (d : Nat), Dg p w → d < p → valL ((metN p dss).map fun s => ws.getD s 0) (tab (metR p dss) (runW (tab (metR p dss)) 0 w) d) = valL ws (stepT dss (runW (stepT dss) 0 w) d) := fun w d hw hd => by
    have := A (w ++ [d]) (Dg.snoc.mpr ⟨hw, hd⟩)
    rw [runW_app, runW_app] at this
    exact this
  constructor
  · rintro ⟨s, d, hs, no, d0, hd, ev⟩
    obtain ⟨w, a, b, c, e⟩ := (left_iff R.cl R.n0 (fun s hs => met_all g hs) kh hs le).1 no
    exact ⟨w, d, c, a, b, d0, hd, by rw [← tell w d c hd, e]; exact ev⟩
  · rintro ⟨w, d, c, a, b, d0, hd, ev⟩
    have lt : runW (tab (metR p dss)) 0 w < (metR p dss).length := Rch.below R.cl R.n0 ⟨w, c, rfl⟩
    exact ⟨_, d, lt, (left_iff R.cl R.n0 (fun s hs => met_all g hs) kh lt (Nat.le_refl _)).2 w (by omega) c rfl, d0, hd, by rw [tell w d c hd]; exact ev⟩
theorem drop_iff {H : Hp} {lr : Addr} {ts : List Addr} {R : List (List Nat)} {p : Nat} (h : Rws H lr ts R p) {s : Nat} (hs : s < R.length) {f : Nat → Prop} : (∃ x, x ∈ (rowR R s).drop 1 ∧ f x) ↔ ∃ d, 0 < d ∧ d < p ∧ f (tab R s d) := by
  rw [h.lead hs]
  constructor
  · rintro ⟨x, hx, hf⟩
    obtain ⟨i, hi⟩ := List.getElem?_of_mem hx
    rw [List.getElem?_drop] at hi
    have lt := (List.getElem?_eq_some_iff.mp hi).1
    rw [leadS_len] at lt
    rw [leadS_at lt] at hi
    cases hi
    exact ⟨_, by omega, lt, hf⟩
  · rintro ⟨d, d0, hd, hf⟩
    refine ⟨_, List.mem_of_getElem? (i := d - 1) ?_, hf⟩
    rw [List.getElem?_drop, show 1 + (d - 1) = d by omega]
    exact leadS_at hd
def spAg (K : PySem.W.Frag) (C : Addr) (T : List NTab) : Sp := fun vs H Q _ => ∃ (a : Addr) (p : Nat) (dss : List (List Int)) (ws : List Int) (v : Int), vs = [.ref a, .int v] ∧ MAt K H C a p dss ws ∧ MGood p dss ws ∧ dss.length ≤ 100 ∧ TabsN T H ∧
  ∀ (H' : Hp) (b : Bool), LamX.ExtN H H' → TabsN T H' → (b = true ↔ Endl p (stepT dss) (valL ws) v dss.length) → Q (.bl b) H'
def spLa (K : PySem.W.Frag) (C : Addr) (T : List NTab) : Sp := fun vs H Q _ => ∃ (a : Addr) (p : Nat) (dss : List (List Int)) (ws : List Int) (v : Int), vs = [.ref a, .int v] ∧ MAt K H C a p dss ws ∧ MGood p dss ws ∧ dss.length ≤ 100 ∧ stdy dss ws = true ∧ TabsN T H ∧
  ∀ (H' : Hp) (r : Option Nat), LamX.ExtN H H' → TabsN T H' → ((Endl p (stepT dss) (valL ws) v dss.length ∧ r = none) ∨ (¬ Endl p (stepT dss) (valL ws) v dss.length ∧ MaxO (Tell p (stepT dss) (valL ws) v) r)) → Q (oV r) H'
section
variable {P : Program} {w : World} {K : PySem.W.Frag} {mg : Str → Option Value} {base : Heap}
variable {C gI gG gM f : Addr} {dI dG dM fd : FuncData} {T : List NTab}
theorem ok_ag (F : Fun K "comes_again" "comes_again" sAg f fd) (B : Blt mg) (Z : McC K mg C)
    (Ms : Cl K mg "met_states" sMs ["moves", "worths"] gM dM) (GM : FnOk P w K mg base CX0 4 gM dM ["moves", "worths"] (spMs K T))
    (Ie : Cl K mg "is_endless" sIe ["moves", "worths", "value"] gI dI) (GI : FnOk P w K mg base CX0 2 gI dI ["moves", "worths", "value"] spIe) :
    FnOk P w K mg base CX0 5 f fd ["machine", "value"] (spAg K C T) := by
  refine F.ok scAg (fun vs H Q E h => ?_) (fun cdv A outer s H vs Q E hr h => ?_)
  · obtain ⟨a, p, dss, ws, v, rfl, _⟩ := h
    rfl
  · obtain ⟨a, p, dss, ws, v, rfl, ma, g, few, tabs, q⟩ := h
    have hr2 : Room 2 _ := hr.mono (by decide)
    refine ⟨_, pss_cons (ps_asg (pe_call GM hr rfl Ms.g Ms.k Ms.b .nil pass0 (pa_cons (pe_fld (pv 0) rfl) (pa_cons (pe_fld (pv 0) rfl) pa_nil))) (pg_tup (by rfl) (pgs_cons (pg_name (i := 2) scAg.nd rfl (Or.inl rfl)) (pgs_cons (pg_name (i := 3) scAg.nd rfl (Or.inl rfl)) pgs_nil))))
      (pss_one (ps_ret (pe_call GI hr2 rfl Ie.g Ie.k Ie.b .nil pass0 (pa_cons (pv 2) (pa_cons (pv 3) (pa_cons (pv 1) pa_nil)))))), ?_⟩
    obtain ⟨dx, tm, tu, xs, h1, h2, h3, h4⟩ := id ma
    refine ⟨_, rfl, a, C, dx, _, _, rfl, h1, Z.ic.cl, Z.n2, rfl, _, rfl, a, C, dx, _, _, rfl, h1, Z.ic.cl, Z.n3, rfl, tm, tu, xs, p, dss, ws, rfl, .inr h2, h3, .inr h4, g, tabs, fun H1 t1 lr lw ts e1 tabs1 k1 k2 k3 k4 => ?_⟩
    refine ⟨t1, _, rfl, SqT.of k1, rfl, _, _, rfl, _, _, rfl, rfl, ?_⟩
    have k4 : H1 lw = some (.lst (((metN p dss).map fun s => ws.getD s 0).map V.int)) := by rw [k4, List.map_map]; rfl
    have rw1 := met_rws g few k2 k3
    have lws : ((metN p dss).map fun s => ws.getD s 0).length = (metR p dss).length := by rw [List.length_map, (met_I g).len]
    refine ⟨_, rfl, _, rfl, _, rfl, lr, lw, ts, metR p dss, p, _, v, rfl, rw1, k4, lws, fun H2 b o m2 kh hb => q H2 b (e1.trans (.of m2)) (tabs1.ext m2) ?_⟩
    rw [← endl_iff g rw1 (khn_congr (fun s hs => rw1.lead hs) kh), hb]
    constructor
    · rintro ⟨s, x, hs, no, hx, ev⟩
      obtain ⟨d, d0, hd, e⟩ := (drop_iff rw1 hs (f := fun x => ((metN p dss).map fun s => ws.getD s 0).getD x 0 = v)).mp ⟨x, hx, ev⟩
      exact ⟨s, d, hs, no, d0, hd, e⟩
    · rintro ⟨s, d, hs, no, d0, hd, e⟩
      obtain ⟨x, hx, ev⟩ := (drop_iff rw1 hs (f := fun x => ((metN p dss).map fun s => ws.getD s 0).getD x 0 = v)).mpr ⟨d, d0, hd, e⟩
      exact ⟨s, x, hs, no, hx, ev⟩
theorem ok_la (F : Fun K "last" "last" sLa f fd) (B : Blt mg) (Z : McC K mg C)
    (Ms : Cl K mg "met_states" sMs ["moves", "worths"] gM dM) (GM : FnOk P w K mg base CX0 4 gM dM ["moves", "worths"] (spMs K T))
    (Ie : Cl K mg "is_endless" sIe ["moves", "worths", "value"] gI dI) (GI : FnOk P w K mg base CX0 2 gI dI ["moves", "worths", "value"] spIe)
    (Gr : Cl K mg "greatest_number" sGr ["moves", "worths", "value", "p"] gG dG) (GG : FnOk P w K mg base CX0 2 gG dG ["moves", "worths", "value", "p"] spGr) :
    FnOk P w K mg base CX0 5 f fd ["machine", "value"] (spLa K C T) := by
  refine F.ok scLa (fun vs H Q E h => ?_) (fun cdv A outer s H vs Q E hr h => ?_)
  · obtain ⟨a, p, dss, ws, v, rfl, _⟩ := h
    rfl
  · obtain ⟨a, p, dss, ws, v, rfl, ma, g, few, sd, tabs, q⟩ := h
    have hr2 : Room 2 _ := hr.mono (by decide)
    obtain ⟨p2, p7⟩ := isPr_small g.pr
    refine ⟨_, pss_cons (ps_asg (pe_call GM hr rfl Ms.g Ms.k Ms.b .nil pass0 (pa_cons (pe_fld (pv 0) rfl) (pa_cons (pe_fld (pv 0) rfl) pa_nil))) (pg_tup (by rfl) (pgs_cons (pg_name (i := 2) scLa.nd rfl (Or.inl rfl)) (pgs_cons (pg_name (i := 3) scLa.nd rfl (Or.inl rfl)) pgs_nil))))
      (pss_cons (ps_if (pt_val (pe_call GI hr2 rfl Ie.g Ie.k Ie.b .nil pass0 (pa_cons (pv 2) (pa_cons (pv 3) (pa_cons (pv 1) pa_nil))))) (pss_one (ps_ret pe_non)) pss_nil)
      (pss_one (ps_ret (pe_call GG hr2 rfl Gr.g Gr.k Gr.b .nil pass0 (pa_cons (pv 2) (pa_cons (pv 3) (pa_cons (pv 1) (pa_cons (pe_fld (pv 0) rfl) pa_nil)))))))), ?_⟩
    obtain ⟨dx, tm, tu, xs, h1, h2, h3, h4⟩ := id ma
    refine ⟨_, rfl, a, C, dx, _, _, rfl, h1, Z.ic.cl, Z.n2, rfl, _, rfl, a, C, dx, _, _, rfl, h1, Z.ic.cl, Z.n3, rfl, tm, tu, xs, p, dss, ws, rfl, .inr h2, h3, .inr h4, g, tabs, fun H1 t1 lr lw ts e1 tabs1 k1 k2 k3 k4 => ?_⟩
    refine ⟨t1, _, rfl, SqT.of k1, rfl, _, _, rfl, _, _, rfl, rfl, ?_⟩
    have k4 : H1 lw = some (.lst (((metN p dss).map fun s => ws.getD s 0).map V.int)) := by rw [k4, List.map_map]; rfl
    have rw1 := met_rws g few k2 k3
    have lws : ((metN p dss).map fun s => ws.getD s 0).length = (metR p dss).length := by rw [List.length_map, (met_I g).len]
    refine ⟨_, rfl, _, rfl, _, rfl, lr, lw, ts, metR p dss, p, _, v, rfl, rw1, k4, lws, fun H2 b o m2 kh hb => ?_⟩
    have hb2 : b = true ↔ Endl p (stepT dss) (valL ws) v dss.length := by
      rw [← endl_iff g rw1 (khn_congr (fun s hs => rw1.lead hs) kh), hb]
      constructor
      · rintro ⟨s, x, hs, no, hx, ev⟩
        obtain ⟨d, d0, hd, e⟩ := (drop_iff rw1 hs (f := fun x => ((metN p dss).map fun s => ws.getD s 0).getD x 0 = v)).mp ⟨x, hx, ev⟩
        exact ⟨s, d, hs, no, d0, hd, e⟩
      · rintro ⟨s, d, hs, no, d0, hd, e⟩
        obtain ⟨x, hx, ev⟩ := (drop_iff rw1 hs (f := fun x => ((metN p dss).map fun s => ws.getD s 0).getD x 0 = v)).mpr ⟨d, d0, hd, e⟩
        exact ⟨s, x, hs, no, hx, ev⟩
    refine ⟨_, rfl, ?_⟩
    cases b with
    | true => exact iteT (q H2 none (e1.trans (.of m2)) (tabs1.ext m2) (.inl ⟨hb2.mp rfl, rfl⟩))
    | false =>
      have hE : ¬ Endl p (stepT dss) (valL ws) v dss.length := fun h => nomatch hb2.mpr h
      have h12 := m2 _ _ (e1 _ _ h1 (fun _ z => nomatch z))
      refine iteF ⟨_, rfl, _, rfl, _, rfl, _, rfl, a, C, dx, _, _, rfl, h12, Z.ic.cl, Z.n1, rfl, lr, lw, ts, metR p dss, p, _, v, rfl, rw1.more m2, m2 _ _ k4, lws, fun H3 r o k m3 kh3 no mo => ?_⟩
      refine q H3 r ((e1.trans (.of m2)).trans (.of m3)) ((tabs1.ext m2).ext m3) (.inr ⟨hE, ?_⟩)
      have A := met_across g
      have stM : ∀ s, Rch p (tab (metR p dss)) s → valL ((metN p dss).map fun s => ws.getD s 0) s = valL ((metN p dss).map fun s => ws.getD s 0) (tab (metR p dss) s 0) := fun s ⟨w, hw, e⟩ => by
        have a1 := A w hw
        have a2 := A (w ++ [0]) (Dg.snoc.mpr ⟨hw, by omega⟩)
        rw [runW_app, runW_app, e] at a2
        rw [e] at a1
        rw [a1, a2]
        exact (stdy_iff g.len).mp sd _ (Rch.below (good_cl g) (List.length_pos_iff.mpr g.ne) ⟨w, hw, rfl⟩)
      have L := last_of (v := v) (by omega) rw1.cl rw1.n0 kh3.tk stM (fun s d hs hno d0 hd ev => hE ((endl_iff g rw1 kh3).mp ⟨s, d, hs.below rw1.cl rw1.n0, hno, d0, hd, ev⟩)) no mo
      refine L.eq fun m => ?_
      constructor
      · rintro ⟨w, hw, e1, e2⟩
        exact ⟨w, hw, (A w hw).trans e1, e2⟩
      · rintro ⟨w, hw, e1, e2⟩
        exact ⟨w, hw, (A w hw).symm.trans e1, e2⟩
end
end K72

/-! Bsg: the greatest number of just so many digits (Bst's, the other way round). -/
namespace B5
section
variable {p N : Nat} {step : Nat → Nat → Nat} {A : Nat → Prop}
def BstG (p : Nat) (step : Nat → Nat → Nat) (A : Nat → Prop) (N : Nat) (r : Option Nat) : Prop := (r = none ∧ ∀ w, ¬ Cand p step A N w) ∨ ∃ w, r = some (numW p w) ∧ Cand p step A N w ∧ ∀ w', Cand p step A N w' → numW p w' ≤ numW p w
/-- i digits from above are chosen -/
structure ChosenG (p : Nat) (step : Nat → Nat → Nat) (A : Nat → Prop) (N i : Nat) (wd : List Nat) (Wi : Nat → Prop) : Prop where
  len : wd.length = i
  dg : Dg p wd
  top : wd = [] ∨ ∃ u d, wd = u ++ [d] ∧ d ≠ 0
  mem : ∀ s, (∃ w : List Nat, w.length = N - i ∧ Dg p w ∧ runW step 0 w = s) → (Wi s ↔ A (runW step s wd))
  some_ : 0 < i → ∃ s, Wi s ∧ ∃ w : List Nat, w.length = N - i ∧ Dg p w ∧ runW step 0 w = s
  least : ∀ w, Cand p step A N w → numW p (w.drop (N - i)) < numW p wd ∨ w.drop (N - i) = wd
theorem choseng_start : ChosenG p step A N 0 [] A where
  len := rfl
  dg := fun _ h => nomatch h
  top := .inl rfl
  mem := fun s _ => Iff.rfl
  some_ := fun h => absurd h (Nat.lt_irrefl 0)
  least := fun w h => .inr (List.drop_eq_nil_of_le (by rw [h.len]; omega))
/-- the next digit: the greatest that fits -/
theorem ChosenG.next {i d lo : Nat} {wd : List Nat} {Wi Wj : Nat → Prop} (c : ChosenG p step A N i wd Wi) (hi : i < N) (hlo : lo = if i = 0 then 1 else 0) (hd : d < p) (lod : lo ≤ d)
    (hW : ∀ s, (∃ w : List Nat, w.length = N - (i + 1) ∧ Dg p w ∧ runW step 0 w = s) → (Wj s ↔ Wi (step s d))) (ne : ∃ s, Wj s ∧ ∃ w : List Nat, w.length = N - (i + 1) ∧ Dg p w ∧ runW step 0 w = s)
    (no : ∀ e, d < e → e < p → ∀ s, (∃ w : List Nat, w.length = N - (i + 1) ∧ Dg p w ∧ runW step 0 w = s) → ¬ Wi (step s e)) : ChosenG p step A N (i + 1) (d :: wd) Wj where
  len := by rw [List.length_cons, c.len]
  dg := fun x hx => by
    rcases List.mem_cons.mp hx with rfl | hx
    · exact hd
    · exact c.dg x hx
  top := .inr (by
    rcases c.top with rfl | ⟨u, e, rfl, nz⟩
    · have : i = 0 := c.len.symm
      rw [if_pos this] at hlo
      exact ⟨[], d, rfl, by omega⟩
    · exact ⟨d :: u, e, rfl, nz⟩)
  mem := fun s hs => by
    rw [hW s hs]
    obtain ⟨w, e1, e2, rfl⟩ := hs
    exact c.mem _ ⟨w ++ [d], by rw [List.length_append, e1]; show N - (i + 1) + 1 = _; omega, Dg.snoc.mpr ⟨e2, hd⟩, runW_app⟩
  some_ := fun _ => ne
  least := fun w h => by
    obtain ⟨e, e1, e2, e3, e4⟩ := h.digit hi
    rw [e1]
    rcases c.least w h with lt | eq
    · exact .inl (numW_cons_lt e2 lt)
    · rw [eq]
      have le : e ≤ d := by
        by_cases z : e ≤ d
        · exact z
        · refine absurd ?_ (no e (by omega) e2 (runW step 0 (w.take (N - (i + 1)))) ⟨w.take (N - (i + 1)), by rw [List.length_take, h.len]; omega, fun x hx => h.dg x (List.mem_of_mem_take hx), rfl⟩)
          · have hm := c.mem (runW step 0 (w.take (N - i))) ⟨w.take (N - i), by rw [List.length_take, h.len]; omega, fun x hx => h.dg x (List.mem_of_mem_take hx), rfl⟩
            rw [e4, runW_app] at hm
            refine hm.mpr ?_
            have := h.leads
            rw [← List.take_append_drop (N - i) w, eq, e4, runW_cat, runW_app] at this
            exact this
      by_cases z : d = e
      · subst z; exact .inr rfl
      · refine .inl ?_
        show e + p * numW p wd < d + p * numW p wd
        omega
/-- no digit fits: there is none -/
theorem ChosenG.stuck {i lo : Nat} {wd : List Nat} {Wi : Nat → Prop} (c : ChosenG p step A N i wd Wi) (hi : i < N) (hlo : lo = if i = 0 then 1 else 0)
    (no : ∀ e, lo ≤ e → e < p → ∀ s, (∃ w : List Nat, w.length = N - (i + 1) ∧ Dg p w ∧ runW step 0 w = s) → ¬ Wi (step s e)) : ∀ w, ¬ Cand p step A N w := fun w h => by
  by_cases z : i = 0
  · subst z
    obtain ⟨e, e1, e2, e3, e4⟩ := h.digit hi
    refine no e (by rw [hlo, if_pos rfl]; have := e3 rfl; omega) e2 (runW step 0 (w.take (N - (0 + 1)))) ⟨w.take (N - (0 + 1)), by rw [List.length_take, h.len]; omega, fun x hx => h.dg x (List.mem_of_mem_take hx), rfl⟩ ?_
    have hm := c.mem (runW step 0 (w.take (N - 0))) ⟨w.take (N - 0), by rw [List.length_take, h.len]; omega, fun x hx => h.dg x (List.mem_of_mem_take hx), rfl⟩
    rw [e4, runW_app] at hm
    have ew : wd = [] := List.length_eq_zero_iff.mp c.len
    refine hm.mpr ?_
    rw [ew]
    have := h.leads
    rw [← List.take_append_drop (N - 0) w, List.drop_eq_nil_of_le (by rw [h.len]; omega), List.append_nil, e4, runW_app] at this
    exact this
  · obtain ⟨s, hs, w2, e1, e2, e3⟩ := c.some_ (by omega)
    obtain ⟨u, d, rfl⟩ := snoc_of w2 fun e => by rw [e] at e1; have e1 : 0 = N - i := e1; omega
    obtain ⟨g1, g2⟩ := Dg.snoc.mp e2
    rw [List.length_append] at e1
    have e1 : u.length + 1 = N - i := e1
    rw [runW_app] at e3
    refine no d (by rw [hlo, if_neg z]; omega) g2 (runW step 0 u) ⟨u, by omega, g1, rfl⟩ ?_
    rw [e3]
    exact hs
/-- all digits are chosen -/
theorem ChosenG.done {wd : List Nat} {Wi : Nat → Prop} (c : ChosenG p step A N N wd Wi) (n0 : 0 < N) : BstG p step A N (some (numW p wd)) := by
  obtain ⟨s, hs, w, e1, _, e3⟩ := c.some_ n0
  have : w = [] := List.length_eq_zero_iff.mp (by omega)
  subst this
  have e3 : 0 = s := e3
  subst e3
  refine .inr ⟨wd, rfl, ⟨c.len, c.dg, c.top, (c.mem 0 ⟨[], by show 0 = N - N; omega, fun _ h => (nomatch h), rfl⟩).mp hs⟩, fun w' h => ?_⟩
  rcases c.least w' h with lt | eq
  · rw [show N - N = 0 by omega, List.drop_zero] at lt
    omega
  · rw [show N - N = 0 by omega, List.drop_zero] at eq
    rw [eq]
    exact Nat.le_refl _
theorem bstg_zero {b : Bool} (h : b = true ↔ A 0) : BstG p step A 0 (if b = true then some 0 else none) := by
  by_cases z : b = true
  · rw [if_pos z]
    exact .inr ⟨[], rfl, ⟨rfl, fun _ h => (nomatch h), .inl rfl, h.mp z⟩, fun w' hw' => by
      have : w' = [] := List.length_eq_zero_iff.mp hw'.len
      rw [this]
      exact Nat.le_refl _⟩
  · rw [if_neg z]
    refine .inl ⟨rfl, fun w hw => z (h.mpr ?_)⟩
    have : w = [] := List.length_eq_zero_iff.mp hw.len
    have := hw.leads
    subst_vars
    exact this
end
end B5

/-! bsg: _law_best with its digits from the greatest on (bs has them from the least) -/
namespace K72
open PySem L2 Gd B5
/-- what the digits of a place have told, from the greatest on -/
def PlG (H : Hp) (p j : Nat) (layer wi : List Nat) (step : Nat → Nat → Nat) (z9 : V) (z13 : Option V) : Prop := (z9 = .non ∧ ∀ e, p ≤ e + j → e < p → ∀ s ∈ layer, step s e ∉ wi) ∨
  ∃ (d : Nat) (hl : Addr) (hs : List Nat), z9 = .int (d : Nat) ∧ z13 = some (.ref hl) ∧ H hl = some (.lst (hs.map nV)) ∧ p ≤ d + j ∧ d < p ∧ hs ≠ [] ∧ (∀ s, s ∈ hs ↔ s ∈ layer ∧ step s d ∈ wi) ∧ ∀ e, d < e → e < p → ∀ s ∈ layer, step s e ∉ wi
def spBsG (K : PySem.W.Frag) : Sp := fun vs H Q _ => ∃ (M L W : Addr) (rs : List V) (m p N : Nat) (dss : List (List Int)) (ws : List Int) (as : List Addr) (ls : List (List Nat)) (wt : List Nat), vs = [.ref M, .ref L, .ref W, .int N, .bl false] ∧ H M = some (.tup rs) ∧ Paired (TupI K H) rs dss ∧ MGood p dss ws ∧ dss.length ≤ 60 ∧
  H L = some (.lst (as.map V.ref)) ∧ Paired (LisN H) as ls ∧ ls.length = m + 1 ∧ (∀ i l, ls[i]? = some l → LayN p (stepT dss) i l) ∧ H W = some (.lst (wt.map nV)) ∧ N ≤ m ∧ m ≤ 130 ∧
  ∀ (H' : Hp) (r : Option Nat), More H H' → BstG p (stepT dss) (fun s => s ∈ wt) N r → Q (oV r) H'
section
variable {P : Program} {w : World} {K : PySem.W.Frag} {mg : Str → Option Value} {base : Heap} {g1 f : Addr} {d1 fd : FuncData}
theorem ok_bsg (F : Fun K "_law_best" "_law_best" sBs f fd) (B : Blt mg) (Nb : Cl K mg "_law_number" sNb ["_law_word", "_law_p"] g1 d1) : FnOk P w K mg base CX0 2 f fd ["_law_moves", "_law_layers_here", "_law_wanted", "_law_many", "_law_is_least"] (spBsG K) := by
  have G1 : FnOk P w K mg base CX0 1 g1 d1 ["_law_word", "_law_p"] (spNb K) := ok_nb Nb.fn
  refine F.ok scBs (fun vs H Q E h => ?_) (fun cdv A outer s H vs Q E hr h => ?_)
  · obtain ⟨M, L, W, rs, m, p, N, dss, ws, as, ls, wt, rfl, _⟩ := h
    rfl
  · obtain ⟨M, L, W, rs, m, p, N, dss, ws, as, ls, wt, rfl, hM, rows, g, few, hL, pls, lls, lay, hW, Nm, m60, q⟩ := h
    have hu64 := hr.units
    refine ⟨_, pss_cons (ps_par (i := 5) (j := 6) rfl scBs.nd rfl rfl (by decide) rfl rfl (pa_cons (pe_callB call_len_seq (by rfl) B.len_ PySem.boot_len (pa_cons (pe_ix ix_tup (pv 0) pe_int (fun _ _ => rfl)) pa_nil)) (pa_cons (pe_lst pa_nil) pa_nil)) (by rfl))
      (Evl.pss_cut (ps_for PassesOwn.never rfl (pi_range3 (by rfl) B.range_ (pa_cons (pe_op op_sub (pv 3) pe_int) (pa_cons (pe_un un_neg pe_int) (pa_cons (pe_un un_neg pe_int) pa_nil)))) (pg_name (i := 7) scBs.nd rfl (Or.inl rfl))
        (pss_cons (ps_set (i := 8) scBs.nd rfl (Or.inl rfl) (pe_listRg rfl (by rfl) B.list_ (prg_2 (by rfl) B.range_ (pe_callTy call_int1 (by rfl) B.int_ (by decide +kernel) (pa_cons (pe_cmpR op_eq (pv 7) (pe_op op_sub (pv 3) pe_int) (nomark _)) pa_nil)) (pv 5))))
        (pss_cons (ps_par (i := 9) (j := 10) rfl scBs.nd rfl rfl (by decide) rfl rfl (pa_cons pe_non (pa_cons (pe_ifExp (pt_val (pv 4)) (pv 8) (pe_revL (pv 8))) pa_nil)) (by rfl))
        (Evl.pss_cut (ps_for PassesOwn.never rfl (pi_list (pv 10)) (pg_name (i := 11) scBs.nd rfl (Or.inr rfl))
          (pss_cons (ps_setLc (i := 12) (own := [("_law_state", 14)]) (g := gName 14) rfl scBs.nd rfl rfl (sw_true rfl rfl rfl (by decide +kernel)) (pi_list (pe_ix ix_list (pv 1) (pv 7) (fun _ _ => rfl)))
              (blkOk_by (N := NBs) (sc := defScope sBs) (by decide +kernel)) (fun _ _ _ _ _ => pg_name (i := 14) scBs.nd rfl (Or.inl rfl))
              (fun _ _ _ _ _ => pts_one (pt_cmpR (r := rIn K false) op_in_seq (pe_ix (r := rIxT K) ix_tup (pe_ix (r := rIxT K) ix_tup (pv 0) (pv 14) (fun _ _ => rfl)) (pv 11) (fun _ _ => rfl)) (pv 2) rfl)) (fun _ _ _ _ _ => pv 14))
          (pss_one (ps_if (PW.pt (pw_and (pt_cmpR op_isN (pv 9) pe_non (nomark _)) (pw_and1 (pt_cmpR (op_neD hu64) (pv 12) (pe_lst pa_nil) (nomark _)))))
            (pss_one (ps_par (i := 9) (j := 13) rfl scBs.nd rfl rfl (by decide) rfl rfl (pa_cons (pv 11) (pa_cons (pv 12) pa_nil)) (by rfl))) pss_nil))))
        (pss_cons (ps_if (pt_cmpR op_isN (pv 9) pe_non (nomark _)) (pss_one (ps_ret pe_non)) pss_nil)
        (pss_one (ps_asg (pe_tup (pa_cons (pe_op op_cat (pe_lst (pa_cons (pv 9) pa_nil)) (pv 6)) (pa_cons (pv 13) pa_nil))) (pg_tup (by rfl) (pgs_cons (pg_name (i := 6) scBs.nd rfl (Or.inl rfl)) (pgs_cons (pg_name (i := 2) scBs.nd rfl (Or.inr rfl)) pgs_nil))))))))))
      (pss_one (ps_ret (pe_ifExp (PW.pt (pw_or (pt_cmpR op_gt (pv 3) pe_int (nomark _)) (pw_or1 (pt_cmpR op_in_seq pe_int (pv 2) rfl)))) (pe_call G1 hr rfl Nb.g Nb.k Nb.b .nil pass0 (pa_cons (pv 6) (pa_cons (pv 5) pa_nil))) pe_non)))), ?_⟩
    obtain ⟨n, hn⟩ : ∃ n, n = dss.length := ⟨_, rfl⟩
    have n0 : 0 < n := hn ▸ List.length_pos_iff.mpr g.ne
    obtain ⟨p2, p7⟩ := isPr_small g.pr
    obtain ⟨st, hst⟩ : ∃ st, st = stepT dss := ⟨_, rfl⟩
    rw [← hst] at lay q
    obtain ⟨b0, row0, hb0, sb0, _, lrow0, _⟩ := tup_row rows g (s := 0) (by omega)
    refine ⟨_, rfl, M, rs, ((0 : Nat) : Int), _, rfl, rfl, SqT.of hM, atI_nat hb0, b0, _, rfl, .inr sb0, by show 0 ≤ sizeLine; exact Nat.zero_le _, fun w0 hw0 => ⟨_, _, rfl, ?_⟩⟩
    have m1 := new_more (o := .lst []) hw0
    have kw0 : (upd H w0 (.lst [])) w0 = some (.lst (([] : List Nat).map nV)) := upd_same
    have hW1 := m1 _ _ hW
    generalize upd H w0 (.lst []) = H1 at m1 kw0 hW1 ⊢
    rw [show (((row0.map nV).length : Nat) : Int) = ((p : Nat) : Int) by rw [List.length_map, lrow0]]
    refine ⟨fun σ' H' => ∃ (z7 z8 z9 z10 z11 z12 z13 : Option V) (wl Wl : Addr) (wd wi : List Nat), σ' = [some (.ref M), some (.ref L), some (.ref Wl), some (.int N), some (.bl false), some (.int p), some (.ref wl), z7, z8, z9, z10, z11, z12, z13, none] ∧ H' wl = some (.lst (wd.map nV)) ∧ H' Wl = some (.lst (wi.map nV)) ∧ ChosenG p st (fun s => s ∈ wt) N N wd (fun s => s ∈ wi) ∧ More H H', ?_, ?_⟩
    · refine ⟨_, rfl, _, _, rfl, rfl, _, rfl, _, rfl, _, _, _, N, rfl, ?_, ?_⟩
      · have e : ((((N : Nat) : Int) - 1) - (-1)).toNat = N := by omega
        have := RgC.neg (i := ((N : Nat) : Int) - 1) (j := -1) (by omega) (by omega) (by decide) (by decide)
        rw [e] at this
        exact this
      refine for_rangeC (fun i σ' H' => ∃ (z7 z8 z9 z10 z11 z12 z13 : Option V) (wl Wl : Addr) (wd wi : List Nat), σ' = [some (.ref M), some (.ref L), some (.ref Wl), some (.int N), some (.bl false), some (.int p), some (.ref wl), z7, z8, z9, z10, z11, z12, z13, none] ∧ H' wl = some (.lst (wd.map nV)) ∧ H' Wl = some (.lst (wi.map nV)) ∧ ChosenG p st (fun s => s ∈ wt) N i wd (fun s => s ∈ wi) ∧ More H H')
        ⟨none, none, none, none, none, none, none, w0, W, [], wt, rfl, kw0, hW1, choseng_start, m1⟩ ?_ ?_
      · rintro i σ' G hi ⟨z7, z8, z9, z10, z11, z12, z13, wl, Wl, wd, wi, rfl, kw, kW, ch, mG⟩
        obtain ⟨pl, hpl⟩ : ∃ pl, pl = N - (i + 1) := ⟨_, rfl⟩
        rw [show ((N : Nat) : Int) - 1 + ((i : Nat) : Int) * (-1) = ((pl : Nat) : Int) by omega]
        refine ⟨_, rfl, _, rfl, _, _, rfl, rfl, rfl, .inr ⟨_, rfl, ?_⟩⟩
        rw [deI]
        obtain ⟨lo, hlo⟩ : ∃ lo, lo = if i = 0 then 1 else 0 := ⟨_, rfl⟩
        have elo : (if decide (((pl : Nat) : Int) = ((N : Nat) : Int) - 1) = true then (1 : Int) else 0) = ((lo : Nat) : Int) := by
          by_cases z : i = 0
          · rw [decide_eq_true (by omega), if_pos rfl, hlo, if_pos z]
            rfl
          · rw [decide_eq_false (by omega), if_neg (by decide), hlo, if_neg z]
            rfl
        rw [elo]
        have lo1 : lo ≤ 1 := by rw [hlo]; split <;> omega
        refine ⟨_, rfl, _, _, rfl, rfl, ⟨by omega, by omega, by omega, by omega⟩, fun dl hdl => ?_⟩
        obtain ⟨ds, hds⟩ : ∃ ds : List Nat, ds = (List.range (p - lo)).map fun x => lo + x := ⟨_, rfl⟩
        have erg : rgV ((lo : Nat) : Int) ((p : Nat) : Int) = ds.map nV := by
          unfold rgV
          rw [hds, List.map_map, show (((p : Nat) : Int) - ((lo : Nat) : Int)).toNat = p - lo by omega]
          refine List.map_congr_left fun x _ => ?_
          show V.int (((lo : Nat) : Int) + ((x : Nat) : Int)) = V.int (((lo + x : Nat) : Nat) : Int)
          rw [Int.natCast_add]
        rw [erg]
        have md := new_more (o := .lst (ds.map nV)) hdl
        have kd : (upd G dl (.lst (ds.map nV))) dl = some (.lst (ds.map nV)) := upd_same
        have kw1 := md _ _ kw
        have kW1 := md _ _ kW
        have mG1 : More H (upd G dl (.lst (ds.map nV))) := fun b o e => md _ _ (mG _ _ e)
        generalize upd G dl (.lst (ds.map nV)) = G1 at kd kw1 kW1 mG1 ⊢
        clear md kw kW mG hdl erg elo
        refine ⟨_, rfl, false, rfl, iteF ⟨_, rfl, dl, _, rfl, SqL.of kd, fun rl hrl => ⟨_, _, rfl, ?_⟩⟩⟩
        have mrl := new_more (o := .lst (ds.map nV).reverse) hrl
        have krl : (upd G1 rl (.lst (ds.map nV).reverse)) rl = some (.lst (ds.reverse.map nV)) := by rw [upd_same, List.map_reverse]
        have kw2 := mrl _ _ kw1
        have kW2 := mrl _ _ kW1
        have mG2 : More H (upd G1 rl (.lst (ds.map nV).reverse)) := fun b o e => mrl _ _ (mG1 _ _ e)
        generalize upd G1 rl (.lst (ds.map nV).reverse) = GX at krl kw2 kW2 mG2 ⊢
        clear mrl hrl kd kw1 kW1 mG1
        obtain ⟨al, hal⟩ : ∃ al, as[pl]? = some al := ⟨as[pl]'(by rw [Paired.length pls]; omega), List.getElem?_eq_getElem _⟩
        obtain ⟨layer, elay, kal⟩ := paired_at pls hal
        have kal : H al = some (.lst (layer.map nV)) := kal
        have lyr := lay pl layer elay
        have lb : ∀ s ∈ layer, s < n := fun s hs => by
          obtain ⟨w, _, hw, e⟩ := (lyr.mem s).mp hs
          have key : ∀ (w : List Nat) (s : Nat), s < n → Dg p w → runW st s w < n := by
            intro w
            induction w with
            | nil => intro s hs _; exact hs
            | cons d w ih => intro s hs g'; exact ih _ (by rw [hst, hn]; exact good_cl g s d (by omega) (g' d (.head _))) fun x hx => g' x (.tail _ hx)
          rw [← e]
          exact key w 0 n0 hw
        have ll : layer.length ≤ n := nodup_below n layer (List.Pairwise.imp (fun {a b} h e => by omega) lyr.asc) lb
        refine ⟨fun σ' H' => ∃ (z9 : V) (z11 z12 z13 : Option V), σ' = [some (.ref M), some (.ref L), some (.ref Wl), some (.int N), some (.bl false), some (.int p), some (.ref wl), some (.int pl), some (.ref dl), some z9, some (.ref rl), z11, z12, z13, none] ∧ More GX H' ∧ PlG H' p (p - lo) layer wi st z9 z13, ?_, ?_⟩
        · have lds : ds.length = p - lo := by rw [hds, List.length_map, List.length_range]
          refine ⟨_, rfl, rl, rfl, ⟨_, SqL.of krl⟩, for_list (K := K) (a := rl) (xs := ds.reverse.map nV) (fun j σ' H' => ∃ (z9 : V) (z11 z12 z13 : Option V), σ' = [some (.ref M), some (.ref L), some (.ref Wl), some (.int N), some (.bl false), some (.int p), some (.ref wl), some (.int pl), some (.ref dl), some z9, some (.ref rl), z11, z12, z13, none] ∧ More GX H' ∧ PlG H' p j layer wi st z9 z13)
            ⟨.non, z11, z12, z13, rfl, fun _ _ e => e, .inl ⟨rfl, fun e h1 h2 => absurd h1 (by omega)⟩⟩ (fun j σ' H' _ ⟨_, _, _, _, _, m, _⟩ => SqL.of (m _ _ krl)) ?_ ?_⟩
          · rintro j y σ' G2 hy ⟨z9, z11, z12, z13, rfl, m2, pli⟩
            obtain ⟨dj, hdj, rfl⟩ := map_at hy
            have jl := (List.getElem?_eq_some_iff.mp hdj).1
            rw [List.length_reverse, lds] at jl
            have edj : dj = p - 1 - j := by
              rw [List.getElem?_reverse (by omega), lds, hds, List.getElem?_map, List.getElem?_range (by omega)] at hdj
              have : lo + (p - lo - 1 - j) = dj := Option.some.inj hdj
              omega
            have djp : dj < p := by omega
            refine ⟨_, rfl, _, rfl, L, _, ((pl : Nat) : Int), _, rfl, rfl, SqL.of (m2 _ _ (mG2 _ _ hL)), atI_nat (at_map hal), al, rfl, ⟨_, SqL.of (m2 _ _ (mG2 _ _ kal))⟩, fun D hD => ?_⟩
            refine lc_it (H1 := G2) (D := D) (walk_list (xs := layer.map nV)) (fun k H' => H' D = some (.lst (((layer.take k).filter fun s => decide (st s dj ∈ wi)).map nV)) ∧ More G2 H') ⟨upd_same, new_more hD⟩ (fun k H' _ ⟨_, m⟩ => SqL.of (m _ _ (m2 _ _ (mG2 _ _ kal)))) ?_ ?_
            · rintro k v G3 G4 hk ⟨kD, m3⟩ ⟨rfl, hv⟩
              obtain ⟨s, hs, rfl⟩ := map_at hv
              have sn := lb s (List.mem_of_getElem? hs)
              have rows3 := paired_imp (fun v k (r : TupI K H v k) => r.more fun b o e => m3 _ _ (m2 _ _ (mG2 _ _ e))) rows
              obtain ⟨b, row, hb, sb, erow, lrow, brow⟩ := tup_row rows3 g (s := s) (by omega)
              have er : row[dj]? = some (st s dj) := by rw [erow, hst]; exact leadS_at djp
              refine ⟨rfl, _, rfl, _, rfl, M, rs, ((s : Nat) : Int), _, rfl, rfl, SqT.of (m3 _ _ (m2 _ _ (mG2 _ _ hM))), atI_nat hb, _, rfl, b, _, ((dj : Nat) : Int), _, rfl, rfl, sb, atI_nat (at_map er), _, rfl, Wl, _, rfl, .inl (SqL.of (m3 _ _ (m2 _ _ kW2))), rfl, flat_nat _, _, rfl, ?_⟩
              show (if (inV (nV (st s dj)) (wi.map nV)) = true then _ else _)
              rw [inV_nat, take_snoc hs, List.filter_append]
              refine ite2 (fun hz => ?_) (fun hz => ?_)
              · refine ⟨_, rfl, _, kD, ?_, ?_, More.at m3 hD⟩
                · rw [List.length_map]
                  have := List.length_filter_le (fun s => decide (st s dj ∈ wi)) (layer.take k)
                  rw [List.length_take] at this
                  exact small1000 (by omega)
                · rw [upd_same, List.map_append, show [s].filter (fun s => decide (st s dj ∈ wi)) = [s] by simp; exact of_decide_eq_true hz]
                  rfl
              · refine ⟨?_, m3⟩
                rw [show [s].filter (fun s => decide (st s dj ∈ wi)) = [] by simp; exact fun h => hz (decide_eq_true h), List.append_nil]
                exact kD
            rintro G3 ⟨kD, m3⟩
            rw [List.length_map, List.take_length] at kD
            obtain ⟨hs, hhs⟩ : ∃ hs, hs = layer.filter fun s => decide (st s dj ∈ wi) := ⟨_, rfl⟩
            rw [← hhs] at kD
            have hsm : ∀ s, s ∈ hs ↔ s ∈ layer ∧ st s dj ∈ wi := fun s => by rw [hhs, List.mem_filter]; exact and_congr_right fun _ => ⟨of_decide_eq_true, decide_eq_true⟩
            have m13 : More GX G3 := fun b o e => m3 _ _ (m2 _ _ e)
            refine ⟨_, rfl, rfl, _, rfl, ?_⟩
            rcases pli with ⟨rfl, ah⟩ | ⟨d, hl, hs', rfl, rfl, k13, d1, d2, ne, mm, ah⟩
            · rw [decide_eq_true rfl]
              refine iteT ⟨_, rfl, by show 0 ≤ sizeLine; exact Nat.zero_le _, fun L2 hL2 => ?_⟩
              have mL := new_more (o := .lst []) hL2
              refine ⟨_, _, dp_L (SqL.of (nat_L (mL _ _ kD))), dp_L (l := []) (SqL.of upd_same), shaped_L _, shaped_L [], _, rfl, ?_⟩
              rw [eqv_L]
              by_cases z : hs = []
              · rw [decide_eq_true (by rw [z]; rfl)]
                refine iteF ⟨_, _, _, _, rfl, fun b o e => mL _ _ (m13 _ _ e), .inl ⟨rfl, fun e h1 h2 s hs' hw => ?_⟩⟩
                by_cases z2 : e = dj
                · subst z2
                  have := (hsm s).mpr ⟨hs', hw⟩
                  rw [z] at this
                  cases this
                · exact ah e (by omega) h2 s hs' hw
              · have nz : (hs.map fun x => ((x : Nat) : Int)) ≠ [] := fun e => z (List.map_eq_nil_iff.mp e)
                rw [decide_eq_false nz]
                refine iteT ⟨_, rfl, _, rfl, _, _, rfl, _, _, _, _, rfl, fun b o e => mL _ _ (m13 _ _ e), .inr ⟨dj, D, hs, rfl, rfl, mL _ _ kD, by omega, by omega, z, hsm, fun e h1 h2 => ah e (by omega) h2⟩⟩
            · rw [decide_eq_false (fun z => by cases z)]
              exact iteF (iteF ⟨_, _, _, _, rfl, m13, .inr ⟨d, hl, hs', rfl, rfl, m3 _ _ k13, by omega, d2, ne, mm, ah⟩⟩)
          · rintro σ' G2 ⟨z9, z11, z12, z13, rfl, m2, pli⟩
            rw [List.length_map, List.length_reverse, lds] at pli
            exact ⟨z9, z11, z12, z13, rfl, m2, pli⟩
        rintro σ' G2 ⟨z9, z11, z12, z13, rfl, m2, pli⟩
        have m02 : More H G2 := fun b o e => m2 _ _ (mG2 _ _ e)
        refine ⟨_, rfl, rfl, _, rfl, ?_⟩
        rcases pli with ⟨rfl, ah⟩ | ⟨d, hl, hs, rfl, rfl, k13, d1, d2, ne, mm, ah⟩
        · rw [decide_eq_true rfl]
          exact iteT (q G2 none m02 (.inl ⟨rfl, ch.stuck hi hlo fun e h1 h2 s hs => ah e (by omega) h2 s ((lyr.mem s).mpr (by rw [hpl]; exact hs))⟩))
        · rw [decide_eq_false (fun z => by cases z)]
          refine iteF ⟨_, rfl, by show 1 ≤ sizeLine; decide, fun f1 hf1 => ?_⟩
          have mf := new_more (o := .lst [V.int ((d : Nat) : Int)]) hf1
          have lwd := ch.len
          refine ⟨_, rfl, f1, wl, _, _, rfl, rfl, upd_same, mf _ _ (m2 _ _ kw2), by rw [List.length_map]; show 1 + wd.length ≤ sizeLine; exact Nat.le_of_lt (small1000 (by omega)), fun w2 hw2 => ⟨_, rfl, by show 2 ≤ sizeLine; decide, fun t ht => ?_⟩⟩
          have mw := new_more (o := .lst ([V.int ((d : Nat) : Int)] ++ wd.map nV)) hw2
          have mt := new_more (o := .tup [.ref w2, .ref hl]) ht
          refine ⟨t, _, rfl, SqT.of upd_same, rfl, _, _, rfl, _, _, rfl, rfl, _, _, _, _, _, _, _, w2, hl, d :: wd, hs, rfl, mt _ _ upd_same, mt _ _ (mw _ _ (mf _ _ k13)), ?_, fun b o e => mt _ _ (mw _ _ (mf _ _ (m02 _ _ e)))⟩
          refine ch.next hi hlo (by omega) (by omega) (fun s hs' => ?_) ?_ fun e h1 h2 s hs' => ah e h1 h2 s ((lyr.mem s).mpr (by rw [hpl]; exact hs'))
          · rw [mm]
            exact ⟨fun h => h.2, fun h => ⟨(lyr.mem s).mpr (by rw [hpl]; exact hs'), h⟩⟩
          · cases hh : hs with
            | nil => exact absurd hh ne
            | cons x r =>
              have hx : x ∈ hs := by rw [hh]; exact .head _
              refine ⟨x, .head _, ?_⟩
              have := (lyr.mem x).mp ((mm x).mp hx).1
              rw [hpl] at this
              exact this
      · rintro σ' G ⟨z7, z8, z9, z10, z11, z12, z13, wl, Wl, wd, wi, rfl, kw, kW, ch, mG⟩
        exact ⟨z7, z8, z9, z10, z11, z12, z13, wl, Wl, wd, wi, rfl, kw, kW, ch, mG⟩
    rintro σ' G ⟨z7, z8, z9, z10, z11, z12, z13, wl, Wl, wd, wi, rfl, kw, kW, ch, mG⟩
    have lwd := ch.len
    refine ⟨_, rfl, _, _, rfl, rfl, _, rfl, ?_⟩
    by_cases nz : 0 < N
    · rw [show decide ((0 : Int) < ((N : Nat) : Int)) = true from decide_eq_true (by omega)]
      refine iteT (iteT ⟨_, rfl, _, rfl, wl, wd, p, rfl, SqL.of kw, by omega, by omega, fun H' m => ?_⟩)
      exact q H' (some (numW p wd)) (fun b o e => m _ _ (mG _ _ e)) (ch.done nz)
    · rw [show decide ((0 : Int) < ((N : Nat) : Int)) = false from decide_eq_false (by omega)]
      have N0 : N = 0 := by omega
      subst N0
      have ew : wd = [] := List.length_eq_zero_iff.mp lwd
      subst ew
      refine iteF ⟨_, rfl, Wl, _, rfl, .inl (SqL.of kW), rfl, flat_nat _, _, rfl, ?_⟩
      have hm : (0 ∈ wi) ↔ 0 ∈ wt := ch.mem 0 ⟨[], rfl, fun _ h => (nomatch h), rfl⟩
      have bz := bstg_zero (p := p) (step := st) (A := fun s => s ∈ wt) (b := decide (0 ∈ wi)) (by rw [← hm]; exact ⟨of_decide_eq_true, decide_eq_true⟩)
      show (if (inV (nV 0) (wi.map nV)) = true then _ else _)
      rw [inV_nat]
      by_cases z : 0 ∈ wi
      · rw [decide_eq_true z] at bz ⊢
        refine iteT ⟨_, rfl, _, rfl, wl, [], p, rfl, SqL.of kw, by omega, by simp, fun H' m => ?_⟩
        exact q H' (some 0) (fun b o e => m _ _ (mG _ _ e)) bz
      · rw [decide_eq_false z] at bz ⊢
        exact iteF (q G none mG bz)
end
end K72

/-! it: _law_is_there, whether a number of just so many digits is wanted -/
namespace K72
open PySem L2 Gd B5
abbrev sIt : Stmt := top 36
abbrev NIt : List Str := ["_law_moves", "_law_layers_here", "_law_wanted", "_law_size", "_law_state", "_law_other"]
theorem scIt : FnScope NIt ["_law_moves", "_law_layers_here", "_law_wanted", "_law_size"] (defScope sIt) := ⟨rfl, rfl, rfl, by decide +kernel, rfl, by decide +kernel, by decide +kernel⟩
def retL : Stmt → Expr
  | .Return (some (.Compare l _ _ _)) _ => l
  | _ => .Constant .none 0 ⟨0, 0, 0, 0⟩
def spIt (K : PySem.W.Frag) : Sp := fun vs H Q _ => ∃ (M L W : Addr) (rs : List V) (m p N : Nat) (dss : List (List Int)) (ws : List Int) (as : List Addr) (ls : List (List Nat)) (wt : List Nat), vs = [.ref M, .ref L, .ref W, .int N] ∧ H M = some (.tup rs) ∧ Paired (TupI K H) rs dss ∧ MGood p dss ws ∧ dss.length ≤ 60 ∧
  H L = some (.lst (as.map V.ref)) ∧ Paired (LisN H) as ls ∧ ls.length = m + 1 ∧ (∀ i l, ls[i]? = some l → LayN p (stepT dss) i l) ∧ H W = some (.lst (wt.map nV)) ∧ N ≤ m + 1 ∧ m ≤ 130 ∧
  ∀ (H' : Hp) (b : Bool), More H H' → (b = true ↔ ∃ w, Cand p (stepT dss) (fun s => s ∈ wt) N w) → Q (.bl b) H'
section
variable {P : Program} {w : World} {K : PySem.W.Frag} {mg : Str → Option Value} {base : Heap} {f : Addr} {fd : FuncData}
theorem ok_it (F : Fun K "_law_is_there" "_law_is_there" sIt f fd) (B : Blt mg) : FnOk P w K mg base CX0 1 f fd ["_law_moves", "_law_layers_here", "_law_wanted", "_law_size"] (spIt K) := by
  refine F.ok scIt (fun vs H Q E h => ?_) (fun cdv A outer s H vs Q E hr h => ?_)
  · obtain ⟨M, L, W, rs, m, p, N, dss, ws, as, ls, wt, rfl, _⟩ := h
    rfl
  · obtain ⟨M, L, W, rs, m, p, N, dss, ws, as, ls, wt, rfl, hM, rows, g, few, hL, pls, lls, lay, hW, Nm, m60, q⟩ := h
    have hu64 := hr.units
    refine ⟨_, pss_cons (ps_if (pt_cmpR op_eq (pv 3) pe_int (nomark _)) (pss_one (ps_ret (pe_cmpR op_in_seq pe_int (pv 2) rfl))) pss_nil)
      (pss_one (ps_ret (pe_cmpR (op_neD hu64) (pe_lc (own := [("_law_state", 4)]) (g := gName 4) rfl scIt.nd (pi_list (pe_ix ix_list (pv 1) (pe_op op_sub (pv 3) pe_int) (fun _ _ => rfl))) (blkOk_by (N := NIt) (sc := defScope sIt) (by decide +kernel)) (fun _ _ _ _ _ => pg_name (i := 4) scIt.nd rfl (Or.inl rfl))
          (fun _ _ _ _ _ => by exact pts_one (pt_cmpR (r := rNeD K) (op_neD hu64) (pe_lc (own := [("_law_other", 5)]) (g := gName 5) (wi := iTup K (tSl (rSlT K) (tOp (rIxT K) (tVar 0) (tVar 4)) (tPart (tC (V.int 1))) tNoPart)) rfl scIt.nd (by exact pi_tup (pe_slice (r := rSlT K) sl_tup (pe_ix (r := rIxT K) ix_tup (pv 0) (pv 4) (fun _ _ => rfl)) (po_some pe_int) po_none))
              (blkOk_by (N := NIt) (sc := relabel (lcSc (retL ((defBody sIt).getD 1 (.Pass ⟨0, 0, 0, 0⟩)))) (PyProof.Rows.envOfC "_law_is_there" (defScope sIt) 0 0 .none)) (by decide +kernel))
              (fun _ _ _ _ _ => pg_name (i := 5) scIt.nd rfl (Or.inl rfl))
              (fun _ _ _ _ _ => by exact pts_one (pt_cmpR (r := rIn K false) op_in_seq (pv 5) (pv 2) rfl)) (fun _ _ _ _ _ => by exact pe_int)) (pe_lst pa_nil) rfl))
          (fun _ _ _ _ _ => pe_int)) (pe_lst pa_nil) (nomark _)))), ?_⟩
    obtain ⟨p2, p7⟩ := isPr_small g.pr
    obtain ⟨st, hst⟩ : ∃ st, st = stepT dss := ⟨_, rfl⟩
    rw [← hst] at lay q
    refine ⟨_, rfl, rfl, _, rfl, ?_⟩
    rw [deI]
    by_cases z : N = 0
    · subst z
      rw [decide_eq_true (show (((0 : Nat) : Int)) = 0 from rfl)]
      refine iteT ⟨_, rfl, W, _, rfl, .inl (SqL.of hW), rfl, flat_nat _, q H _ (fun _ _ e => e) ?_⟩
      show (inV (nV 0) (wt.map nV)) = true ↔ _
      rw [inV_nat, decide_eq_true_iff]
      constructor
      · intro h
        exact ⟨[], rfl, fun _ h => (nomatch h), .inl rfl, h⟩
      · rintro ⟨w, c⟩
        have : w = [] := List.length_eq_zero_iff.mp c.len
        have l := c.leads
        rw [this] at l
        exact l
    rw [decide_eq_false (by omega)]
    obtain ⟨pl, rfl⟩ : ∃ pl, N = pl + 1 := ⟨N - 1, by omega⟩
    obtain ⟨al, hal⟩ : ∃ al, as[pl]? = some al := ⟨as[pl]'(by rw [Paired.length pls]; omega), List.getElem?_eq_getElem _⟩
    obtain ⟨layer, elay, kal⟩ := paired_at pls hal
    have kal : H al = some (.lst (layer.map nV)) := kal
    have lyr := lay pl layer elay
    have lb : ∀ s ∈ layer, s < dss.length := fun s hs => by
      obtain ⟨w, _, hw, e⟩ := (lyr.mem s).mp hs
      rw [hst] at e
      exact Rch.below (good_cl g) (List.length_pos_iff.mpr g.ne) ⟨w, hw, e⟩
    have ll : layer.length ≤ dss.length := nodup_below _ layer (List.Pairwise.imp (fun {a b} h e => by omega) lyr.asc) lb
    obtain ⟨fits, hfits⟩ : ∃ fits : Nat → Bool, fits = fun s => ((leadS p st s).drop 1).any fun x => decide (x ∈ wt) := ⟨_, rfl⟩
    have fit : ∀ s, fits s = true ↔ ∃ d, 0 < d ∧ d < p ∧ st s d ∈ wt := fun s => by
      rw [hfits]
      show ((leadS p st s).drop 1).any _ = true ↔ _
      rw [List.any_eq_true]
      constructor
      · rintro ⟨x, hx, hf⟩
        obtain ⟨i, hi⟩ := List.getElem?_of_mem hx
        rw [List.getElem?_drop] at hi
        have lt := (List.getElem?_eq_some_iff.mp hi).1
        rw [leadS_len] at lt
        rw [leadS_at lt] at hi
        cases hi
        exact ⟨_, by omega, lt, of_decide_eq_true hf⟩
      · rintro ⟨d, d0, hd, hf⟩
        refine ⟨_, List.mem_of_getElem? (i := d - 1) ?_, decide_eq_true hf⟩
        rw [List.getElem?_drop, show 1 + (d - 1) = d by omega]
        exact leadS_at hd
    refine iteF ⟨_, rfl, _, rfl, _, _, rfl, rfl, L, _, ((pl : Nat) : Int), _, rfl, by show V.int (((pl + 1 : Nat) : Int) - 1) = V.int ((pl : Nat) : Int); congr 1; omega, SqL.of hL, atI_nat (at_map hal), al, rfl, ⟨_, SqL.of kal⟩, fun D hD => ?_⟩
    refine lc_list (K := K) (a := al) (xs := layer.map nV) (fun k H' => H' D = some (.lst ((((layer.take k).filter fits).map fun _ => (1 : Int)).map V.int)) ∧ More H H') ⟨upd_same, new_more hD⟩ (fun k H' _ ⟨_, m⟩ => SqL.of (m _ _ kal)) ?_ ?_
    · rintro k y G hy ⟨kD, m⟩
      obtain ⟨s, hs, rfl⟩ := map_at hy
      have sn := lb s (List.mem_of_getElem? hs)
      obtain ⟨b, row, hb, sb, erow, lrow, brow⟩ := tup_row (paired_imp (fun v k (r : TupI K H v k) => r.more m) rows) g (s := s) sn
      rw [← hst] at erow
      have hc : ¬ (HT.sIx (row.map nV).length 0 (some 1) = 0 ∧ HT.sIx (row.map nV).length (row.map nV).length none = (row.map nV).length) := fun h => by
        have := h.1
        rw [List.length_map, lrow] at this
        simp [HT.sIx] at this
        omega
      refine ⟨rfl, _, rfl, _, rfl, M, rs, ((s : Nat) : Int), _, rfl, rfl, SqT.of (m _ _ hM), atI_nat hb, _, rfl, b, _, rfl, sb, hc, fun c hcc => ?_⟩
      rw [show ((1 : Int)) = ((1 : Nat) : Int) from rfl, cut_from (by rw [List.length_map]; omega), ← List.map_drop]
      have mc := new_more (o := .tup ((row.drop 1).map nV)) hcc
      have kc : (upd G c (.tup ((row.drop 1).map nV))) c = some (.tup ((row.drop 1).map nV)) := upd_same
      have kD1 := mc _ _ kD
      have m1 : More H (upd G c (.tup ((row.drop 1).map nV))) := fun b o e => mc _ _ (m _ _ e)
      generalize upd G c (.tup ((row.drop 1).map nV)) = G1 at kc kD1 m1 ⊢
      clear mc hcc
      refine ⟨c, rfl, ⟨_, SqT.of kc⟩, fun D2 hD2 => ?_⟩
      refine lc_it (H1 := G1) (D := D2) (walk_tup (K := K) (a := c) (xs := (row.drop 1).map nV)) (fun j H' => H' D2 = some (.lst (((((row.drop 1).take j).filter fun x => decide (x ∈ wt)).map fun _ => (1 : Int)).map V.int)) ∧ More G1 H') ⟨upd_same, new_more hD2⟩ (fun j H' _ ⟨_, m⟩ => SqT.of (m _ _ kc)) ?_ ?_
      · rintro j v G2 G3 hj ⟨kE, m2⟩ ⟨rfl, hv⟩
        obtain ⟨x, hx, rfl⟩ := map_at hv
        refine ⟨rfl, _, rfl, _, rfl, W, _, rfl, .inl (SqL.of (m2 _ _ (m1 _ _ hW))), rfl, flat_nat _, _, rfl, ?_⟩
        show (if (inV (nV x) (wt.map nV)) = true then _ else _)
        rw [inV_nat, take_snoc hx, List.filter_append]
        refine ite2 (fun hz => ?_) (fun hz => ?_)
        · refine ⟨_, kE, ?_, ?_, More.at m2 hD2⟩
          · rw [List.length_map, List.length_map]
            have := List.length_filter_le (fun x => decide (x ∈ wt)) ((row.drop 1).take j)
            rw [List.length_take, List.length_drop] at this
            exact small1000 (by omega)
          · rw [upd_same, show [x].filter (fun x => decide (x ∈ wt)) = [x] by simp; exact of_decide_eq_true hz, List.map_append, List.map_append]
            rfl
        · refine ⟨?_, m2⟩
          rw [show [x].filter (fun x => decide (x ∈ wt)) = [] by simp; exact fun h => hz (decide_eq_true h), List.append_nil]
          exact kE
      · rintro G2 ⟨kE, m2⟩
        rw [List.length_map, List.take_length] at kE
        refine ⟨by show 0 ≤ sizeLine; exact Nat.zero_le _, fun L2 hL2 => ?_⟩
        have mL := new_more (o := .lst []) hL2
        have m3 : More H (upd G2 L2 (.lst [])) := fun b o e => mL _ _ (m2 _ _ (m1 _ _ e))
        have kD3 := mL _ _ (m2 _ _ kD1)
        refine ⟨_, _, dp_L (SqL.of (mL _ _ kE)), dp_L (l := []) (SqL.of upd_same), shaped_L _, shaped_L [], _, rfl, ?_⟩
        rw [eqv_L, take_snoc hs, List.filter_append]
        have ef : fits s = !decide ((((row.drop 1).filter fun x => decide (x ∈ wt)).map fun _ => (1 : Int)) = []) := by
          rw [hfits, erow]
          show ((leadS p st s).drop 1).any _ = _
          cases hh : ((leadS p st s).drop 1).any fun x => decide (x ∈ wt) with
          | true =>
            obtain ⟨x, hx, hf⟩ := List.any_eq_true.mp hh
            rw [decide_eq_false fun z => ?_]
            · rfl
            · have := List.map_eq_nil_iff.mp z
              have hm : x ∈ ((leadS p st s).drop 1).filter fun x => decide (x ∈ wt) := List.mem_filter.mpr ⟨hx, hf⟩
              rw [this] at hm
              exact List.not_mem_nil hm
          | false =>
            rw [decide_eq_true ?_]
            · rfl
            · rw [List.map_eq_nil_iff, List.filter_eq_nil_iff]
              exact fun x hx hf => by
                have : (((leadS p st s).drop 1).any fun x => decide (x ∈ wt)) = true := List.any_eq_true.mpr ⟨x, hx, hf⟩
                rw [hh] at this
                cases this
        rw [← ef]
        cases hf : fits s with
        | true =>
          refine iteT ⟨_, kD3, ?_, ?_, More.at m3 hD⟩
          · rw [List.length_map, List.length_map]
            have := List.length_filter_le fits (layer.take k)
            rw [List.length_take] at this
            exact small1000 (by omega)
          · rw [upd_same, show [s].filter fits = [s] by simp; exact hf, List.map_append, List.map_append]
            rfl
        | false =>
          refine iteF ⟨?_, m3⟩
          rw [show [s].filter fits = [] by simp; exact hf, List.append_nil]
          exact kD3
    · rintro G ⟨kD, m⟩
      rw [List.length_map, List.take_length] at kD
      refine ⟨by show 0 ≤ sizeLine; exact Nat.zero_le _, fun L2 hL2 => ?_⟩
      have mL := new_more (o := .lst []) hL2
      refine ⟨_, _, dp_L (SqL.of (mL _ _ kD)), dp_L (l := []) (SqL.of upd_same), shaped_L _, shaped_L [], q _ _ (fun b o e => mL _ _ (m _ _ e)) ?_⟩
      rw [eqv_L]
      constructor
      · intro h
        cases hl : layer.filter fits with
        | nil => rw [hl] at h; exact nomatch h
        | cons s r =>
          obtain ⟨hs, hf⟩ := List.mem_filter.mp (show s ∈ layer.filter fits by rw [hl]; exact .head _)
          obtain ⟨d, d0, hd, e⟩ := (fit s).mp hf
          obtain ⟨w, e1, e2, e3⟩ := (lyr.mem s).mp hs
          refine ⟨w ++ [d], by rw [List.length_append, e1]; rfl, Dg.snoc.mpr ⟨e2, hd⟩, .inr ⟨w, d, rfl, by omega⟩, ?_⟩
          show runW st 0 (w ++ [d]) ∈ wt
          rw [runW_app, e3]
          exact e
      · rintro ⟨w, c⟩
        obtain ⟨u, d, rfl, nz⟩ : ∃ u d, w = u ++ [d] ∧ d ≠ 0 := c.top.resolve_left fun e => by
          have := c.len
          rw [e] at this
          exact absurd this (by show 0 ≠ _; omega)
        obtain ⟨e1, e2⟩ := Dg.snoc.mp c.dg
        have l := c.len
        rw [List.length_append] at l
        have l : u.length + 1 = pl + 1 := l
        have ld : runW st 0 (u ++ [d]) ∈ wt := c.leads
        rw [runW_app] at ld
        have hs : runW st 0 u ∈ layer := (lyr.mem _).mpr ⟨u, by omega, e1, rfl⟩
        have hm : runW st 0 u ∈ layer.filter fits := List.mem_filter.mpr ⟨hs, (fit _).mpr ⟨d, by omega, e2, ld⟩⟩
        rw [decide_eq_false fun z => ?_]
        · rfl
        · have := List.map_eq_nil_iff.mp z
          rw [this] at hm
          exact List.not_mem_nil hm
end
end K72

/-! few: _law_few, machines whose zeros lead back -/
namespace K72
open PySem L2 Gd B5
abbrev sFew : Stmt := top 34
abbrev NFew : List Str := ["_law_pen_here", "_law_p", "_law_many", "_law_moves", "_law_worths", "_law_state", "_law_digit", "_law_row"]
theorem scFew : FnScope NFew ["_law_pen_here", "_law_p"] (defScope sFew) := ⟨rfl, rfl, rfl, by decide +kernel, rfl, by decide +kernel, by decide +kernel⟩
def spFew (K : PySem.W.Frag) : Sp := fun vs H Q _ => ∃ (d c : Addr) (n : Int) (p : Nat), vs = [.ref d, .int p] ∧ Pen H d c n ∧ 0 ≤ n ∧ n < 800000000 ∧ isPr p = true ∧
  ∀ (H' : Hp) (t M W : Addr) (rs : List V) (dss : List (List Int)) (ws : List Int) (n' : Int), H' t = some (.tup [.ref M, .ref W]) → H' M = some (.tup rs) → Paired (TupI K H') rs dss → H' W = some (.tup (ws.map V.int)) →
    MGood p dss ws → stdy dss ws = true → dss.length ≤ 8 → Pen H' d c n' → n ≤ n' → n' ≤ n + 1000 → Off d H H' → Q (.ref t) H'
section
variable {P : Program} {w : World} {K : PySem.W.Frag} {mg : Str → Option Value} {base : Heap} {g1 g2 f : Addr} {d1 d2 fd : FuncData}
theorem ok_few (F : Fun K "_law_few" "_law_few" sFew f fd) (B : Blt mg) (Dr : Cl K mg "_law_draw" sDraw ["_law_pen_here", "_law_many"] g1 d1) (Pi : Cl K mg "_law_pick" sPick ["_law_pen_here", "_law_some"] g2 d2) :
    FnOk P w K mg base CX0 3 f fd ["_law_pen_here", "_law_p"] (spFew K) := by
  have G1 : FnOk P w K mg base CX0 1 g1 d1 ["_law_pen_here", "_law_many"] spDraw := ok_draw Dr.fn B.int_ B.len_
  have G2 : FnOk P w K mg base CX0 2 g2 d2 ["_law_pen_here", "_law_some"] (spPick K) := ok_pick Pi.fn Dr.fn Dr.b Dr.g B.int_ B.len_
  refine F.ok scFew (fun vs H Q E h => ?_) (fun cdv A outer s H vs Q E hr h => ?_)
  · obtain ⟨d, c, n, p, rfl, _⟩ := h
    rfl
  · obtain ⟨d, c, n, p, rfl, pen, n0, n1, pr, q⟩ := h
    have hr1 : Room 1 _ := hr.mono (by decide)
    have hr2 : Room 2 _ := hr.mono (by decide)
    refine ⟨_, pss_cons (ps_set (i := 2) scFew.nd rfl (Or.inr rfl) (pe_op op_add pe_int (pe_call G1 hr1 rfl Dr.g Dr.k Dr.b .nil pass0 (pa_cons (pv 0) (pa_cons pe_int pa_nil)))))
      (Evl.pss_cut (ps_setLc (i := 3) (own := [("_law_state", 5)]) (g := gName 5) (tt := tYes) rfl scFew.nd rfl rfl (sw_true rfl rfl rfl (by decide +kernel)) (pi_range1 (by rfl) B.range_ (pa_cons (pv 2) pa_nil))
          (blkOk_by (N := NFew) (sc := defScope sFew) (by decide +kernel)) (fun _ _ _ _ _ => pg_name (i := 5) scFew.nd rfl (Or.inr rfl)) (fun _ _ _ _ _ => pts_nil)
          (fun _ _ _ _ _ => by exact pe_op (r := rCat) op_cat (pe_lst (pa_cons (pv 5) pa_nil)) (pe_lc (own := [("_law_digit", 6)]) (g := gName 6) (tt := tYes) rfl scFew.nd (pi_range2 (by rfl) B.range_ (pa_cons pe_int (pa_cons (pv 1) pa_nil)))
            (blkOk_by (N := NFew) (sc := relabel (lcSc (asgV ((defBody sFew).getD 1 (.Pass ⟨0, 0, 0, 0⟩)))) (PyProof.Rows.envOfC "_law_few" (defScope sFew) 0 0 .none)) (by decide +kernel))
            (fun _ _ _ _ _ => pg_name (i := 6) scFew.nd rfl (Or.inl rfl)) (fun _ _ _ _ _ => pts_nil)
            (fun _ _ _ _ _ => pe_call G2 hr2 rfl Pi.g Pi.k Pi.b .nil pass0 (pa_cons (pv 0) (pa_cons (pe_lst (pa_cons (pv 2) (pa_cons (pe_op op_add (pv 5) pe_int) pa_nil))) pa_nil))))))
      (Evl.pss_cut (ps_set (i := 3) scFew.nd rfl (Or.inl rfl) (pe_op op_cat (pv 3) (pe_lst (pa_cons (pe_op op_rep (pe_lst (pa_cons (pv 2) pa_nil)) (pv 1)) pa_nil))))
      (Evl.pss_cut (ps_setLc (i := 4) (own := [("_law_state", 5)]) (g := gName 5) (tt := tYes) rfl scFew.nd rfl rfl (sw_true rfl rfl rfl (by decide +kernel)) (pi_range1 (by rfl) B.range_ (pa_cons (pv 2) pa_nil))
          (blkOk_by (N := NFew) (sc := defScope sFew) (by decide +kernel)) (fun _ _ _ _ _ => pg_name (i := 5) scFew.nd rfl (Or.inl rfl)) (fun _ _ _ _ _ => pts_nil)
          (fun _ _ _ _ _ => pe_call G1 hr1 rfl Dr.g Dr.k Dr.b .nil pass0 (pa_cons (pv 0) (pa_cons pe_int pa_nil))))
      (pss_one (ps_ret (pe_tup (pa_cons (pe_callTy call_tuple_of (by rfl) B.tup_ (by decide +kernel) (pa_cons (pe_lc (own := [("_law_row", 7)]) (g := gName 7) (tt := tYes) rfl scFew.nd (pi_list (pv 3))
          (blkOk_by (N := NFew) (sc := defScope sFew) (by decide +kernel)) (fun _ _ _ _ _ => pg_name (i := 7) scFew.nd rfl (Or.inl rfl)) (fun _ _ _ _ _ => pts_nil)
          (fun _ _ _ _ _ => pe_callTy (r := rTof K) (call_tof rfl) (by rfl) B.tup_ (by decide +kernel) (pa_cons (pv 7) pa_nil))) pa_nil))
        (pa_cons (pe_callTy call_tuple_of (by rfl) B.tup_ (by decide +kernel) (pa_cons (pe_op op_cat (pv 4) (pe_lst (pa_cons (pe_call G1 hr1 rfl Dr.g Dr.k Dr.b .nil pass0 (pa_cons (pv 0) (pa_cons pe_int pa_nil))) pa_nil))) pa_nil)) pa_nil)))))))), ?_⟩
    obtain ⟨p2, p7⟩ := isPr_small pr
    refine ⟨_, rfl, d, c, n, 4, rfl, pen, by decide, by decide, n0, by omega, fun r H1 r0 r1 dr => ?_⟩
    refine ⟨_, _, rfl, rfl, ?_⟩
    obtain ⟨k, ek, k2, k5⟩ : ∃ k : Nat, 2 + r = (k : Int) ∧ 2 ≤ k ∧ k ≤ 5 := ⟨(2 + r).toNat, by omega, by omega, by omega⟩
    show gName 2 (V.int (2 + r)) _ _ _
    rw [ek]
    obtain ⟨oc', hc0⟩ := pen.atc
    have hd1 := dr.pen.at
    refine ⟨fun σ' H' => ∃ D as dss, σ' = [some (.ref d), some (.int p), some (.int k), some (.ref D), none, none, none, none] ∧ SS H d c D as dss k (k + 1) p n (n + 1 + 7 * k) H' ∧ ∀ (t : Nat) (ds : List Int), dss[t]? = some ds → ds.getD 0 0 = (t : Int), ?_, ?_⟩
    · refine ⟨_, rfl, _, rfl, by omega, by omega, fun D hD => lc_range (lo := 0) (n := k) (fun i H' => ∃ as dss, SS H d c D as dss i (k + 1) p n (n + 1 + 7 * i) H' ∧ ∀ (t : Nat) (ds : List Int), dss[t]? = some ds → ds.getD 0 0 = (t : Int)) ⟨[], [], ?_, fun t ds h => by simp at h⟩ ?_ ?_⟩
      · refine ⟨⟨_, dr.pen.upd hD, by omega, by omega⟩, (Off.dr dr).trans (.of (new_more hD)), upd_same, (Off.dr dr).gone hd1 hD, List.nodup_nil, nofun, fun j a h => ?_, rfl, rfl, nofun⟩
        rw [List.getElem?_nil] at h
        cases h
      · rintro i H2 hi ⟨as, dss, s2, fst⟩
        have cD : c ≠ D := fun e => by rw [e, s2.nD] at hc0; cases hc0
        rw [Int.zero_add]
        refine ⟨rfl, _, rfl, by show 1 ≤ sizeLine; decide, fun l0 hl0 => ?_⟩
        have ml := new_more (o := .lst [V.int ((i : Nat) : Int)]) hl0
        have kl0 : (upd H2 l0 (.lst [V.int ((i : Nat) : Int)])) l0 = some (.lst [V.int ((i : Nat) : Int)]) := upd_same
        have s3 := s2.more ml
        have o23 : Off d H2 (upd H2 l0 (.lst [V.int ((i : Nat) : Int)])) := .of ml
        have ld : l0 ≠ d := fun e => by
          obtain ⟨kvs, h⟩ := s2.dne
          rw [e, h] at hl0
          cases hl0
        generalize upd H2 l0 (.lst [V.int ((i : Nat) : Int)]) = H3 at kl0 s3 o23 ⊢
        refine ⟨_, rfl, 1, ((p : Nat) : Int), rfl, ⟨by omega, by omega, by omega, by omega⟩, ?_⟩
        rw [show (((p : Nat) : Int) - 1).toNat = p - 1 from by omega]
        refine fun L hL => ?_
        have Ld : L ≠ d := fun e => by
          obtain ⟨kvs, h⟩ := s3.dne
          rw [e, h] at hL
          cases hL
        have Lc : L ≠ c := fun e => by
          obtain ⟨_, pn2, _⟩ := s3.pen
          obtain ⟨o, h⟩ := pn2.atc
          rw [e, h] at hL
          cases hL
        have lL : l0 ≠ L := ne_of_none kl0 hL
        refine lc_range (lo := 1) (n := p - 1) (fun j H' => ∃ ys : List Int, ys.length = j ∧ (∀ y ∈ ys, 0 ≤ y ∧ y < ((k + 1 : Nat) : Int)) ∧ H' L = some (.lst (ys.map V.int)) ∧ (∃ n', Pen H' d c n' ∧ n ≤ n' ∧ n' ≤ n + 1 + 7 * i + j) ∧ Off d H3 H')
          ⟨[], rfl, nofun, upd_same, (let ⟨n', pn, b1, b2⟩ := s3.pen; ⟨n', pn.upd hL, b1, by omega⟩), .of (new_more hL)⟩ ?_ ?_
        · rintro j H4 hj ⟨ys, e1, e2, e3, ⟨n', pn, b1, b2⟩, o4⟩
          refine ⟨rfl, _, rfl, _, rfl, _, rfl, _, _, rfl, rfl, by show 2 ≤ sizeLine; decide, fun Lp hLp => ?_⟩
          refine ⟨d, c, Lp, n', _, rfl, pn.upd hLp, upd_same, by show 0 < 2; decide, by show 2 ≤ 1000; decide, by omega, by omega, fun x H5 hx dr5 => ?_⟩
          obtain ⟨z, rfl, z0, z1⟩ : ∃ z : Int, x = .int z ∧ 0 ≤ z ∧ z < ((k + 1 : Nat) : Int) := by
            rcases List.mem_cons.mp hx with rfl | hx
            · exact ⟨_, rfl, by omega, by omega⟩
            rcases List.mem_cons.mp hx with rfl | hx
            · exact ⟨_, rfl, by omega, by omega⟩
            · exact (List.not_mem_nil hx).elim
          have o45 : Off d H4 H5 := (Off.of (new_more hLp)).trans (.dr dr5)
          refine ⟨_, o45 _ _ e3 Ld, by rw [List.length_map]; exact small1000 (by omega), ys ++ [z], by rw [List.length_append, e1]; rfl, ?_, by rw [upd_same, List.map_append]; rfl, ⟨_, dr5.pen.updA Ld Lc, by omega, by omega⟩, (o4.trans o45).at hL⟩
          intro y hy
          rcases List.mem_append.mp hy with hy | hy
          · exact e2 y hy
          · have : y = z := by simpa using hy
            omega
        · rintro H4 ⟨ys, e1, e2, e3, ⟨n', pn, b1, b2⟩, o4⟩
          have kl4 := o4 _ _ kl0 ld
          refine ⟨l0, L, _, _, rfl, rfl, kl4, e3, by rw [List.length_map, e1]; exact Nat.le_of_lt (small1000 (by show 1 + (p - 1) ≤ 1000; omega)), fun L2 hL2 => ?_⟩
          have m5 := new_more (o := .lst ([V.int ((i : Nat) : Int)] ++ ys.map V.int)) hL2
          have nL2 : H2 L2 = none := by
            cases e : H2 L2 with
            | none => rfl
            | some o =>
              by_cases z : L2 = d
              · obtain ⟨o1, h1⟩ := pn.at
                rw [z, h1] at hL2
                cases hL2
              · rw [o4 _ _ (o23 _ _ e z) z] at hL2
                cases hL2
          have s5 := s2.snoc (n2 := n + 1 + 7 * ((i + 1 : Nat) : Int)) (L := L2) (ys := ((i : Nat) : Int) :: ys) ((o23.trans o4).trans (.of m5)) ⟨n', pn.upd hL2, b1, by omega⟩ cD nL2 upd_same (by rw [List.length_cons, e1]; omega) (fun x hx => by
            rcases List.mem_cons.mp hx with e | e
            · omega
            · exact e2 x e)
          refine ⟨_, (s2.keep ((o23.trans o4).trans (.of m5)) ⟨n', pn.upd hL2, b1, Int.le_refl _⟩).hD, by rw [List.length_map, s2.la]; exact small1000 (by omega), as ++ [L2], dss ++ [((i : Nat) : Int) :: ys], ?_, fun t ds ht => ?_⟩
          · rw [List.map_append] at s5
            exact s5
          · by_cases z : t < dss.length
            · rw [List.getElem?_append_left z] at ht
              exact fst t ds ht
            · have lt := (List.getElem?_eq_some_iff.mp ht).1
              rw [List.length_append] at lt
              have lt : t < dss.length + 1 := lt
              obtain rfl : t = dss.length := by omega
              rw [List.getElem?_append_right (Nat.le_refl _), Nat.sub_self] at ht
              cases ht
              rw [s2.ld]
              rfl
      · rintro H2 ⟨as, dss, s2, fst⟩
        exact ⟨D, as, dss, rfl, s2, fst⟩
    rintro σ2 H2 ⟨D, as, dss, rfl, s2, fst⟩
    have kk : H1 = H1 := rfl
    -- a state more
    refine ⟨fun σ' H' => ∃ (D2 : Addr) (as : List Addr) (dss : List (List Int)), σ' = [some (.ref d), some (.int p), some (.int k), some (.ref D2), none, none, none, none] ∧ H' D2 = some (.lst (as.map V.ref)) ∧ Paired (fun (a : Addr) (ds : List Int) => H' a = some (.lst (ds.map V.int))) as dss ∧ dss.length = k + 1 ∧ (∀ ds ∈ dss, ds.length = p ∧ ∀ x ∈ ds, 0 ≤ x ∧ x < ((k + 1 : Nat) : Int)) ∧ (∀ (t : Nat) (ds : List Int), dss[t]? = some ds → ds.getD 0 0 = (t : Int)) ∧
      (∃ n', Pen H' d c n' ∧ n ≤ n' ∧ n' ≤ n + 100) ∧ Off d H H', ?_, ?_⟩
    · refine ⟨_, rfl, _, rfl, by show 1 ≤ sizeLine; decide, fun q0 hq0 => ?_⟩
      have m3 := new_more (o := .lst [V.int ((k : Nat) : Int)]) hq0
      have k3 : (upd H2 q0 (.lst [V.int ((k : Nat) : Int)])) q0 = some (.lst [V.int ((k : Nat) : Int)]) := upd_same
      generalize upd H2 q0 (.lst [V.int ((k : Nat) : Int)]) = H3 at m3 k3 ⊢
      refine ⟨_, rfl, q0, _, _, rfl, rfl, k3, by omega, by omega, by rw [sizeLine_eq, Int.toNat_natCast, List.length_singleton]; omega, fun q1 hq1 => ?_⟩
      have m4 := new_more (o := .lst (List.replicate ((p : Nat) : Int).toNat [V.int ((k : Nat) : Int)]).flatten) hq1
      have k4 : (upd H3 q1 (.lst (List.replicate ((p : Nat) : Int).toNat [V.int ((k : Nat) : Int)]).flatten)) q1 = some (.lst ((List.replicate p ((k : Nat) : Int)).map V.int)) := by
        rw [upd_same, Int.toNat_natCast, List.flatten_replicate_singleton, List.map_replicate]
      generalize upd H3 q1 (.lst (List.replicate ((p : Nat) : Int).toNat [V.int ((k : Nat) : Int)]).flatten) = H4 at m4 k4 ⊢
      refine ⟨by show 1 ≤ sizeLine; decide, fun q2 hq2 => ?_⟩
      have m5 := new_more (o := .lst [V.ref q1]) hq2
      have k5' : (upd H4 q2 (.lst [V.ref q1])) q2 = some (.lst [V.ref q1]) := upd_same
      have k4 := m5 _ _ k4
      have m25 : More H2 (upd H4 q2 (.lst [V.ref q1])) := fun b o e => m5 _ _ (m4 _ _ (m3 _ _ e))
      generalize upd H4 q2 (.lst [V.ref q1]) = H5 at k5' k4 m25 ⊢
      clear m3 m4 m5
      refine ⟨D, q2, _, _, rfl, rfl, m25 _ _ s2.hD, k5', by rw [List.length_map, s2.la]; exact Nat.le_of_lt (small1000 (by show k + 1 ≤ 1000; omega)), fun D2 hD2 => ?_⟩
      have m6 := new_more (o := .lst (as.map V.ref ++ [V.ref q1])) hD2
      have m26 : More H2 (upd H5 D2 (.lst (as.map V.ref ++ [V.ref q1]))) := fun b o e => m6 _ _ (m25 _ _ e)
      have s6 := s2.more m26
      refine ⟨D2, as ++ [q1], dss ++ [List.replicate p ((k : Nat) : Int)], rfl, by rw [upd_same, List.map_append]; rfl, paired_snoc (R := fun (a : Addr) (ds : List Int) => (upd H5 D2 (.lst (as.map V.ref ++ [V.ref q1]))) a = some (.lst (ds.map V.int))) (m6 _ _ k4) (paired_of (by rw [s2.la, s2.ld]) fun j x y hx hy => ?_), by rw [List.length_append, s2.ld]; rfl, fun ds hds => ?_, fun t ds ht => ?_, (let ⟨n', pn, b1, b2⟩ := s6.pen; ⟨n', pn, b1, by omega⟩), s6.off⟩
      · obtain ⟨ds, e, gg⟩ := s6.rows j x hx
        rw [hy] at e
        cases e
        exact gg
      · rcases List.mem_append.mp hds with h | h
        · exact s2.ok ds h
        · have : ds = List.replicate p ((k : Nat) : Int) := by simpa using h
          rw [this]
          exact ⟨by rw [List.length_replicate], fun x hx => by rw [(List.mem_replicate.mp hx).2]; omega⟩
      · by_cases z : t < dss.length
        · rw [List.getElem?_append_left z] at ht
          exact fst t ds ht
        · have lt := (List.getElem?_eq_some_iff.mp ht).1
          rw [List.length_append] at lt
          have lt : t < dss.length + 1 := lt
          obtain rfl : t = dss.length := by omega
          rw [List.getElem?_append_right (Nat.le_refl _), Nat.sub_self] at ht
          cases ht
          rw [s2.ld, List.getD_eq_getElem?_getD, List.getElem?_replicate, if_pos (by omega)]
          rfl
    clear s2 fst as dss
    rintro σ3 H3 ⟨D2, as, dss, rfl, kD, prs, ld, ok, fst, ⟨n3, pn3, c1, c2⟩, o3⟩
    obtain ⟨kvd, hd3⟩ := pn3.dk
    -- the worths
    refine ⟨fun σ' H' => ∃ (W : Addr) (ws : List Int), σ' = [some (.ref d), some (.int p), some (.int k), some (.ref D2), some (.ref W), none, none, none] ∧ H' W = some (.lst (ws.map V.int)) ∧ ws.length = k ∧ (∃ n', Pen H' d c n' ∧ n ≤ n' ∧ n' ≤ n + 200) ∧ Off d H3 H', ?_, ?_⟩
    · refine ⟨_, rfl, _, rfl, by omega, by omega, fun W hW => ?_⟩
      have Wd : W ≠ d := (ne_of_none hd3 hW).symm
      have Wc : W ≠ c := by
        obtain ⟨o, h⟩ := pn3.atc
        exact (ne_of_none h hW).symm
      refine lc_range (lo := 0) (n := k) (fun i H' => ∃ ws : List Int, ws.length = i ∧ H' W = some (.lst (ws.map V.int)) ∧ (∃ n', Pen H' d c n' ∧ n ≤ n' ∧ n' ≤ n + 100 + i) ∧ Off d H3 H') ⟨[], rfl, upd_same, ⟨n3, pn3.upd hW, c1, by omega⟩, .of (new_more hW)⟩ ?_ ?_
      · rintro i G hi ⟨ws, e1, e2, ⟨n', pn, b1, b2⟩, og⟩
        refine ⟨rfl, _, rfl, d, c, n', 3, rfl, pn, by decide, by decide, by omega, by omega, fun r G2 r0 r1 dr2 => ?_⟩
        exact ⟨_, (dr2.off W Wd).trans e2, by rw [List.length_map]; exact small1000 (by omega), ws ++ [r], by rw [List.length_append, e1]; rfl, by rw [upd_same, List.map_append]; rfl, ⟨_, dr2.pen.updA Wd Wc, by omega, by omega⟩, (og.trans (.dr dr2)).at hW⟩
      · rintro G ⟨ws, e1, e2, ⟨n', pn, b1, b2⟩, og⟩
        exact ⟨W, ws, rfl, e2, e1, ⟨n', pn, b1, by omega⟩, og⟩
    rintro σ4 H4 ⟨W, ws, rfl, kW, lw, ⟨n4, pn4, c3, c4⟩, o4⟩
    have nd : ∀ {b : Addr} {xs : List V}, H3 b = some (.lst xs) → b ≠ d := fun {b xs} h e => by
      rw [e, hd3] at h
      cases h
    have kD4 := o4 _ _ kD (nd kD)
    have prs4 := paired_imp (S := fun (a : Addr) (ds : List Int) => H4 a = some (.lst (ds.map V.int))) (fun a ds (e : H3 a = some (.lst (ds.map V.int))) => o4 _ _ e (nd e)) prs
    have las : as.length = k + 1 := by rw [Paired.length prs, ld]
    refine ⟨_, rfl, D2, rfl, ⟨_, SqL.of kD4⟩, fun E1 hE1 => lc_rel (n := 7) (D := E1) (H1 := H4) (walk_list (xs := as.map V.ref)) (fun i v H' => ∃ ds, dss[i]? = some ds ∧ TupI K H' v ds) (fun i v H' H'' m ⟨ds, e, t⟩ => ⟨ds, e, t.more m⟩) hE1
      (fun H' m => Same.seq m (SqL.of kD4)) (by rw [List.length_map, las]; omega) (fun _ => rfl) ?_ ?_⟩
    · intro i y H7 Q7 hy m7 m7' ⟨l0, hl0⟩ q7
      obtain ⟨a, ha, rfl⟩ := map_at hy
      obtain ⟨ds, hds, g⟩ := paired_at prs4 ha
      have g : H4 a = some (.lst (ds.map V.int)) := g
      refine ⟨_, rfl, a, ds.map V.int, rfl, .inl ⟨SqL.of (m7 _ _ g), fun l hl => q7 _ _ (new_more hl) ⟨ds, hds, l, rfl, SqT.of ?_⟩⟩⟩
      rw [del_ne (ne_of_none hl0 hl).symm, upd_same]
    · intro H7 G rs rl mG mH nG al hD7
      refine ⟨E1, rs, rfl, .inl ⟨SqL.of hD7, fun t1 ht1 => ?_⟩⟩
      have m8 := new_more (o := .tup rs) ht1
      have mG8 : More G (upd H7 t1 (.tup rs)) := fun b o e => m8 _ _ (mH _ _ e)
      have m48 : More H4 (upd H7 t1 (.tup rs)) := fun b o e => mG8 _ _ (mG _ _ e)
      have kt1 : (upd H7 t1 (.tup rs)) t1 = some (.tup rs) := upd_same
      generalize upd H7 t1 (.tup rs) = H8 at m8 mG8 m48 kt1 ⊢
      have pn8 : Pen H8 d c n4 := by
        obtain ⟨o1, h1⟩ := pn4.at
        obtain ⟨o2, h2⟩ := pn4.atc
        exact pn4.keep ((m48 _ _ h1).trans h1.symm) ((m48 _ _ h2).trans h2.symm)
      obtain ⟨kv8, hd8⟩ := pn8.dk
      have nd8 : ∀ {b : Addr} {o : HO}, H8 b = some o → (∀ kvs, o ≠ .dK kvs) → b ≠ d := fun {b o} h no e => by
        rw [e, hd8] at h
        exact no _ (Option.some.inj h).symm
      refine ⟨_, rfl, _, rfl, d, c, n4, 4, rfl, pn8, by decide, by decide, by omega, by omega, fun r H9 r0 r1 dr9 => ?_⟩
      have o89 : Off d H8 H9 := .dr dr9
      have kt9 := o89 _ _ kt1 (nd8 kt1 fun _ z => nomatch z)
      have kW9 := o89 _ _ (m48 _ _ kW) (nd8 (m48 _ _ kW) fun _ z => nomatch z)
      refine ⟨by show 1 ≤ sizeLine; decide, fun q3 hq3 => ?_⟩
      have mA := new_more (o := .lst [V.int r]) hq3
      have kq : (upd H9 q3 (.lst [V.int r])) q3 = some (.lst [V.int r]) := upd_same
      generalize upd H9 q3 (.lst [V.int r]) = HA at mA kq ⊢
      refine ⟨W, q3, _, _, rfl, rfl, mA _ _ kW9, kq, by rw [List.length_map, lw]; exact Nat.le_of_lt (small1000 (by show k + 1 ≤ 1000; omega)), fun W3 hW3 => ?_⟩
      have mB := new_more (o := .lst (ws.map V.int ++ [V.int r])) hW3
      have kW3 : (upd HA W3 (.lst (ws.map V.int ++ [V.int r]))) W3 = some (.lst ((ws ++ [r]).map V.int)) := by rw [upd_same, List.map_append]; rfl
      have m9B : More H9 (upd HA W3 (.lst (ws.map V.int ++ [V.int r]))) := fun b o e => mB _ _ (mA _ _ e)
      generalize upd HA W3 (.lst (ws.map V.int ++ [V.int r])) = HB at kW3 m9B ⊢
      refine ⟨W3, _, rfl, .inl ⟨SqL.of kW3, fun t2 ht2 => ⟨by show 2 ≤ sizeLine; decide, fun t ht => ?_⟩⟩⟩
      have mC := new_more (o := .tup ((ws ++ [r]).map V.int)) ht2
      have mD := new_more (o := .tup [.ref t1, .ref t2]) ht
      have m9D : More H9 (upd (upd HB t2 (.tup ((ws ++ [r]).map V.int))) t (.tup [.ref t1, .ref t2])) := fun b o e => mD _ _ (mC _ _ (m9B _ _ e))
      have good : MGood p dss (ws ++ [r]) := ⟨pr, fun e => by rw [e] at ld; exact absurd ld (by show 0 ≠ _; omega), fun ds hds => by
        obtain ⟨l, al⟩ := ok ds hds
        exact ⟨by rw [l], fun x hx => by rw [ld]; exact al x hx⟩, by rw [List.length_append, lw, ld]; rfl, by omega⟩
      have steady : stdy dss (ws ++ [r]) = true := (stdy_iff good.len).mpr fun i hi => by
        have e : stepT dss i 0 = i := by
          unfold stepT
          rw [List.getD_eq_getElem?_getD (l := dss), List.getElem?_eq_getElem hi]
          show ((dss[i]).getD 0 0).toNat = i
          rw [fst i _ (List.getElem?_eq_getElem hi)]
          omega
        rw [e]
      have pnD : Pen (upd (upd HB t2 (.tup ((ws ++ [r]).map V.int))) t (.tup [.ref t1, .ref t2])) d c (n4 + 1) := by
        obtain ⟨o1, h1⟩ := dr9.pen.at
        obtain ⟨o2, h2⟩ := dr9.pen.atc
        exact dr9.pen.keep ((m9D _ _ h1).trans h1.symm) ((m9D _ _ h2).trans h2.symm)
      refine q _ t t1 t2 rs dss (ws ++ [r]) (n4 + 1) upd_same (m9D _ _ kt9) (paired_of (by rw [rl, List.length_map, las, ld]) fun i x y hx hy => ?_) (mD _ _ upd_same) good steady (by omega) pnD (by omega) (by omega) ((((o3.trans o4).trans (.of m48)).trans o89).trans (.of m9D))
      obtain ⟨ds, e, ti⟩ := al i x hx
      rw [hy] at e
      cases e
      obtain ⟨b, eb, sb⟩ := ti.more mG8
      exact ⟨b, eb, sqT_more m9D (sqT_off hd8 (fun _ z => nomatch z) (fun _ _ z => nomatch z) o89 sb)⟩
end
end K72

/-! Bnd: machines that tell the number itself for numbers of a few digits: their states. -/
namespace B5
/-- the state behind a digit -/
def nxB (deep p : Nat) (s n : Int) (d : Nat) : List Int := if n = -1 then [(deep : Int), -1] else if s < deep then [s + 1, n + d * (if s = 0 then 1 else (p : Int))] else [s, if d = 0 then n else -1]
def leadB (deep p : Nat) : List Int → List (List Int)
  | [s, n] => (List.range p).map (nxB deep p s n)
  | _ => []
def OkB (deep p : Nat) (q : List Int) : Prop := ∃ s n : Int, q = [s, n] ∧ ((s = 0 ∧ n = 0) ∨ (s = 1 ∧ 0 ≤ n ∧ n < p) ∨ (s = 2 ∧ deep = 2 ∧ 0 ≤ n ∧ n < 49) ∨ (s = deep ∧ n = -1))
theorem nxB_ok {deep p : Nat} (hd : deep = 1 ∨ deep = 2) (hp : p = 2 ∨ p = 3 ∨ p = 5 ∨ p = 7) {s n : Int} (h : OkB deep p [s, n]) {d : Nat} (dp : d < p) : OkB deep p (nxB deep p s n d) := by
  obtain ⟨s', n', e, h⟩ := h
  simp only [List.cons.injEq, and_true] at e
  obtain ⟨rfl, rfl⟩ := e
  unfold nxB
  by_cases z : n = -1
  · rw [if_pos z]
    exact ⟨_, _, rfl, .inr (.inr (.inr ⟨rfl, rfl⟩))⟩
  rw [if_neg z]
  by_cases lt : s < deep
  · rw [if_pos lt]
    refine ⟨_, _, rfl, ?_⟩
    rcases h with ⟨rfl, rfl⟩ | ⟨rfl, h1, h2⟩ | ⟨rfl, h0, h1, h2⟩ | ⟨rfl, h⟩
    · rw [if_pos rfl]
      omega
    · rw [if_neg (by omega)]
      rcases hp with rfl | rfl | rfl | rfl <;> omega
    · omega
    · omega
  · rw [if_neg lt]
    refine ⟨_, _, rfl, ?_⟩
    by_cases d0 : d = 0
    · rw [if_pos d0]
      exact h
    · rw [if_neg d0]
      omega
theorem leadB_ok {deep p : Nat} (hd : deep = 1 ∨ deep = 2) (hp : p = 2 ∨ p = 3 ∨ p = 5 ∨ p = 7) : ∀ q, OkB deep p q → ∀ b ∈ leadB deep p q, OkB deep p b := by
  intro q h b hb
  obtain ⟨s, n, rfl, _⟩ := id h
  obtain ⟨d, hd', rfl⟩ := List.mem_map.mp hb
  exact nxB_ok hd hp h (List.mem_range.mp hd')
def codeB : List Int → Nat
  | [s, n] => if n = -1 then 57 else if s = 0 then 0 else if s = 1 then (1 + n).toNat else (8 + n).toNat
  | _ => 0
theorem codeB_lt {deep p : Nat} (p7 : p ≤ 7) {q : List Int} (h : OkB deep p q) : codeB q < 58 := by
  obtain ⟨s, n, rfl, h⟩ := h
  show (if n = -1 then 57 else if s = 0 then 0 else if s = 1 then (1 + n).toNat else (8 + n).toNat) < 58
  split
  · omega
  split
  · omega
  split <;> omega
theorem codeB_inj {deep p : Nat} (p7 : p ≤ 7) {q q' : List Int} (h : OkB deep p q) (h' : OkB deep p q') (e : codeB q = codeB q') : q = q' := by
  obtain ⟨s, n, rfl, h⟩ := h
  obtain ⟨s', n', rfl, h'⟩ := h'
  have c : ∀ s n : Int, (n = -1 ∧ codeB [s, n] = 57) ∨ (n ≠ -1 ∧ s = 0 ∧ codeB [s, n] = 0) ∨ (n ≠ -1 ∧ s = 1 ∧ codeB [s, n] = (1 + n).toNat) ∨ (n ≠ -1 ∧ s ≠ 0 ∧ s ≠ 1 ∧ codeB [s, n] = (8 + n).toNat) := by
    intro s n
    show (n = -1 ∧ (if n = -1 then 57 else if s = 0 then 0 else if s = 1 then (1 + n).toNat else (8 + n).toNat) = 57) ∨ (n ≠ -1 ∧ s = 0 ∧ (if n = -1 then 57 else if s = 0 then 0 else if s = 1 then (1 + n).toNat else (8 + n).toNat) = 0) ∨
      (n ≠ -1 ∧ s = 1 ∧ (if n = -1 then 57 else if s = 0 then 0 else if s = 1 then (1 + n).toNat else (8 + n).toNat) = (1 + n).toNat) ∨ (n ≠ -1 ∧ s ≠ 0 ∧ s ≠ 1 ∧ (if n = -1 then 57 else if s = 0 then 0 else if s = 1 then (1 + n).toNat else (8 + n).toNat) = (8 + n).toNat)
    by_cases a1 : n = -1
    · exact .inl ⟨a1, if_pos a1⟩
    by_cases a2 : s = 0
    · exact .inr (.inl ⟨a1, a2, by rw [if_neg a1, if_pos a2]⟩)
    by_cases a3 : s = 1
    · exact .inr (.inr (.inl ⟨a1, a3, by rw [if_neg a1, if_neg a2, if_pos a3]⟩))
    · exact .inr (.inr (.inr ⟨a1, a2, a3, by rw [if_neg a1, if_neg a2, if_neg a3]⟩))
  have c1 := c s n
  have c2 := c s' n'
  rw [e] at c1
  have : s = s' ∧ n = n' := by omega
  rw [this.1, this.2]
theorem bndB {deep p : Nat} (p7 : p ≤ 7) (l : List (List Int)) (nd : l.Nodup) (al : ∀ x ∈ l, OkB deep p x) : l.length ≤ 58 := by
  have h : (l.map codeB).Nodup := by
    unfold List.Nodup
    rw [List.pairwise_map]
    exact nd.imp_of_mem fun ha hb ne e => ne (codeB_inj p7 (al _ ha) (al _ hb) e)
  have := nodup_below 58 _ h fun x hx => by
    obtain ⟨q, hq, rfl⟩ := List.mem_map.mp hx
    exact codeB_lt p7 (al q hq)
  rwa [List.length_map] at this
theorem OkB.start (deep p : Nat) : OkB deep p [0, 0] := ⟨0, 0, rfl, .inl ⟨rfl, rfl⟩⟩
/-- a 0 keeps the number -/
theorem nxB_zero {deep p : Nat} {s n : Int} : (nxB deep p s n 0).getD 1 0 = n := by
  unfold nxB
  by_cases z : n = -1
  · rw [if_pos z, z]
    rfl
  rw [if_neg z]
  by_cases lt : s < deep
  · rw [if_pos lt]
    show n + ((0 : Nat) : Int) * _ = n
    rw [Int.ofNat_zero, Int.zero_mul, Int.add_zero]
  · rw [if_neg lt, if_pos rfl]
    rfl
theorem leadB_len {deep p : Nat} {s n : Int} : (leadB deep p [s, n]).length = p := by
  show ((List.range p).map (nxB deep p s n)).length = p
  rw [List.length_map, List.length_range]
theorem leadB_at {deep p : Nat} {s n : Int} {d : Nat} (h : d < p) : (leadB deep p [s, n])[d]? = some (nxB deep p s n d) := by
  show ((List.range p).map (nxB deep p s n))[d]? = _
  rw [List.getElem?_map, List.getElem?_range h]
  rfl
end B5

/-! bd: _law_bounded, machines that tell the number itself for numbers of a few digits -/
namespace K72
open PySem L2 Gd B5
abbrev sBd : Stmt := top 35
abbrev NBd : List Str := ["_law_pen_here", "_law_p", "_law_deep", "_law_names", "_law_moves", "_law_lap", "_law_size", "_law_number_here", "_law_row", "_law_digit", "_law_state"]
theorem scBd : FnScope NBd ["_law_pen_here", "_law_p"] (defScope sBd) := ⟨rfl, rfl, rfl, by decide +kernel, rfl, by decide +kernel, by decide +kernel⟩
def TupZ (H : Hp) (b : Addr) (k : List Int) : Prop := H b = some (.tup (k.map V.int))
theorem tupZ_rows {K : PySem.W.Frag} {H : Hp} : ∀ {as : List Addr} {l : List (List Int)}, Paired (TupZ H) as l → DpAll K H (as.map V.ref) (l.map dI)
  | _, _, .nil => .nil
  | _, _, .cons h t => .cons (dp_I (SqT.of h)) (tupZ_rows t)
theorem shaped_LR (l : List (List Int)) : SeqAt.shaped (.list (l.map dI)) = true := by
  unfold SeqAt.shaped
  have := dep_rows l
  have e : (PyData.list (l.map dI)).canLay0 = true := by simp only [PyData.canLay0, lay_rows]
  rw [e, Bool.true_and, decide_eq_true_eq]
  simp only [PyData.depth]
  omega
theorem any_dI (k : List Int) (l : List (List Int)) : ((l.map dI).any fun z => PyData.eqv z (dI k)) = decide (k ∈ l) := by
  induction l with
  | nil => rfl
  | cons x l ih =>
    rw [List.map_cons, List.any_cons, ih, eqv_I]
    by_cases e : x = k
    · subst e
      simp
    · have : ¬ k = x := fun z => e z.symm
      simp [e, this]
theorem units65 {A : Around} {k : Nat} (r : Room k A) : A.units + 65 < cLine := by have := r.un; omega
theorem tupN_I {K : PySem.W.Frag} {H : Hp} : ∀ {ts : List Addr} {rows : List (List Nat)}, Paired (TupN H) ts rows → Paired (TupI K H) (ts.map V.ref) (rows.map fun row => row.map fun x : Nat => (x : Int))
  | _, _, .nil => .nil
  | _, _, .cons h t => .cons ⟨_, rfl, SqT.of (by rw [List.map_map]; exact h)⟩ (tupN_I t)
/-- the walk's rows as a machine -/
theorem bd_good {deep p : Nat} (pr : isPr (p : Int) = true) {st : List (List Int)} {rows : List (List Nat)} (wi : WalkI (leadB deep p) (OkB deep p) [[0, 0]] st.length st rows) (few : st.length ≤ 58) :
    MGood p (rows.map fun row => row.map fun x : Nat => (x : Int)) (st.map fun q => (q.getD 1 0).fdiv 2) ∧ stdy (rows.map fun row => row.map fun x : Nat => (x : Int)) (st.map fun q => (q.getD 1 0).fdiv 2) = true := by
  have hrow : ∀ (i : Nat) (row : List Nat), rows[i]? = some row → row.length = p ∧ ∃ s n : Int, st[i]? = some [s, n] ∧ ∀ j, j < p → ∃ k, row[j]? = some k ∧ st[k]? = some (nxB deep p s n j) := fun i row e => by
    have lt := (List.getElem?_eq_some_iff.mp e).1
    rw [wi.len] at lt
    have ea : st[i]? = some st[i] := List.getElem?_eq_getElem lt
    obtain ⟨s, n, es, _⟩ := wi.all st[i] (List.mem_of_getElem? ea)
    rw [es] at ea
    have ok := wi.ok i _ row lt ea e
    refine ⟨by rw [ok.1, leadB_len], s, n, ea, fun j hj => ok.2 j _ (leadB_at hj)⟩
  have g : MGood p (rows.map fun row => row.map fun x : Nat => (x : Int)) (st.map fun q => (q.getD 1 0).fdiv 2) := by
    refine ⟨pr, fun e => ?_, fun ds hds => ?_, by rw [List.length_map, List.length_map, wi.len], by rw [List.length_map, wi.len]; omega⟩
    · have := wi.pre.length_le
      rw [← wi.len, ← List.length_map (f := fun row : List Nat => row.map fun x : Nat => (x : Int)), e] at this
      exact absurd this (by decide)
    · obtain ⟨row, hr, rfl⟩ := List.mem_map.mp hds
      obtain ⟨i, hi⟩ := List.mem_iff_getElem?.mp hr
      obtain ⟨l, s, n, _, al⟩ := hrow i row hi
      refine ⟨by rw [List.length_map, l], fun d hd => ?_⟩
      obtain ⟨x, hx, rfl⟩ := List.mem_map.mp hd
      obtain ⟨j, hj⟩ := List.mem_iff_getElem?.mp hx
      have lt := (List.getElem?_eq_some_iff.mp hj).1
      obtain ⟨k, e1, e2⟩ := al j (by omega)
      rw [hj] at e1
      cases e1
      have := (List.getElem?_eq_some_iff.mp e2).1
      rw [List.length_map, wi.len]
      omega
  refine ⟨g, (stdy_iff g.len).mpr fun i hi => ?_⟩
  rw [List.length_map] at hi
  have ei : rows[i]? = some rows[i] := List.getElem?_eq_getElem hi
  obtain ⟨l, s, n, e1, al⟩ := hrow i _ ei
  obtain ⟨p2, p7⟩ := isPr_small pr
  obtain ⟨k, e2, e3⟩ := al 0 (by omega)
  have e : stepT (rows.map fun row => row.map fun x : Nat => (x : Int)) i 0 = k := by
    unfold stepT
    rw [getD_of (at_map ei), getD_of (at_map e2)]
    rfl
  rw [e, getD_of (at_map e1), getD_of (at_map e3), nxB_zero]
  rfl
def spBd (K : PySem.W.Frag) : Sp := fun vs H Q _ => ∃ (d c : Addr) (n : Int) (p : Nat), vs = [.ref d, .int p] ∧ Pen H d c n ∧ 0 ≤ n ∧ n < 800000000 ∧ isPr p = true ∧
  ∀ (H' : Hp) (t M W : Addr) (rs : List V) (dss : List (List Int)) (ws : List Int) (n' : Int), H' t = some (.tup [.ref M, .ref W]) → H' M = some (.tup rs) → Paired (TupI K H') rs dss → H' W = some (.tup (ws.map V.int)) →
    MGood p dss ws → stdy dss ws = true → dss.length ≤ 58 → Pen H' d c n' → n ≤ n' → n' ≤ n + 1000 → Off d H H' → Q (.ref t) H'
section
variable {P : Program} {w : World} {K : PySem.W.Frag} {mg : Str → Option Value} {base : Heap} {g1 f : Addr} {d1 fd : FuncData}
theorem ok_bd (F : Fun K "_law_bounded" "_law_bounded" sBd f fd) (B : Blt mg) (Dr : Cl K mg "_law_draw" sDraw ["_law_pen_here", "_law_many"] g1 d1) :
    FnOk P w K mg base CX0 2 f fd ["_law_pen_here", "_law_p"] (spBd K) := by
  have G1 : FnOk P w K mg base CX0 1 g1 d1 ["_law_pen_here", "_law_many"] spDraw := ok_draw Dr.fn B.int_ B.len_
  refine F.ok scBd (fun vs H Q E h => ?_) (fun cdv A outer s H vs Q E hr h => ?_)
  · obtain ⟨d, c, n, p, rfl, _⟩ := h
    rfl
  · obtain ⟨d, c, n, p, rfl, pen, n0, n1, pr, q⟩ := h
    have hr1 : Room 1 _ := hr.mono (by decide)
    have hu65 := units65 hr
    refine ⟨_, pss_cons (ps_par3 (i := 2) (j := 3) (l := 4) rfl scBd.nd rfl rfl rfl (by decide) (by decide) (by decide) rfl rfl rfl (pa_cons (pe_op op_add pe_int (pe_call G1 hr1 rfl Dr.g Dr.k Dr.b .nil pass0 (pa_cons (pv 0) (pa_cons pe_int pa_nil))))
          (pa_cons (pe_lst (pa_cons (pe_tup (pa_cons pe_int (pa_cons pe_int pa_nil))) pa_nil)) (pa_cons (pe_lst pa_nil) pa_nil))) (by rfl))
      (Evl.pss_cut (ps_for PassesOwn.never rfl (pi_range1 (by rfl) B.range_ (pa_cons pe_int pa_nil)) (pg_name (i := 5) scBd.nd rfl (Or.inl rfl))
        (pss_cons (ps_if (pt_cmpR op_ge (pv 5) (pe_callB call_len_seq (by rfl) B.len_ PySem.boot_len (pa_cons (pv 3) pa_nil)) (nomark _)) (pss_one ps_break) pss_nil)
        (pss_cons (ps_asg (pe_ix ix_list (pv 3) (pv 5) (fun _ _ => rfl)) (pg_tup (by rfl) (pgs_cons (pg_name (i := 6) scBd.nd rfl (Or.inl rfl)) (pgs_cons (pg_name (i := 7) scBd.nd rfl (Or.inl rfl)) pgs_nil))))
        (pss_cons (ps_set (i := 8) scBd.nd rfl (Or.inl rfl) (pe_lst pa_nil))
        (pss_cons (ps_for PassesOwn.never rfl (pi_range1 (by rfl) B.range_ (pa_cons (pv 1) pa_nil)) (pg_name (i := 9) scBd.nd rfl (Or.inl rfl))
          (Evl.pss_cut (ps_set (i := 10) scBd.nd rfl (Or.inl rfl) (pe_ifExp (pt_cmpR op_lt (pv 6) (pv 2) (nomark _))
              (pe_tup (pa_cons (pe_op op_add (pv 6) pe_int) (pa_cons (pe_op op_add (pv 7) (pe_op op_mul (pv 9) (pe_ix ix_list (pe_lst (pa_cons pe_int (pa_cons (pv 1) pa_nil))) (pv 6) (fun _ _ => rfl)))) pa_nil)))
              (pe_tup (pa_cons (pv 6) (pa_cons (pe_ifExp (pt_cmpR op_eq (pv 9) pe_int (nomark _)) (pv 7) (pe_un un_neg pe_int)) pa_nil)))))
          (Evl.pss_cut (ps_set (i := 10) scBd.nd rfl (Or.inl rfl) (pe_ifExp (pt_cmpR op_eq (pv 7) (pe_un un_neg pe_int) (nomark _)) (pe_tup (pa_cons (pv 2) (pa_cons (pe_un un_neg pe_int) pa_nil))) (pv 10)))
          (Evl.pss_cut (ps_if (pt_cmpR (op_notInD hu65) (pv 10) (pv 3) (by rfl)) (pss_one (ps_expr (pe_bm PySem.F.plainAttrs_list PySem.F.slot_list_append PySem.F.type_list_append mt_append (pv 3) (pa_cons (pv 10) pa_nil)))) pss_nil)
          (pss_one (ps_expr (pe_bm PySem.F.plainAttrs_list PySem.F.slot_list_append PySem.F.type_list_append mt_append (pv 8) (pa_cons (pe_bm PySem.F.plainAttrs_list PySem.F.slot_list_index PySem.F.type_list_index (mt_indexD hu65) (pv 3) (pa_cons (pv 10) pa_nil)) pa_nil))))))))
        (pss_one (ps_expr (pe_bm PySem.F.plainAttrs_list PySem.F.slot_list_append PySem.F.type_list_append mt_append (pv 4) (pa_cons (pe_callTy call_tuple_of (by rfl) B.tup_ (by decide +kernel) (pa_cons (pv 8) pa_nil)) pa_nil)))))))))
      (pss_one (ps_ret (pe_tup (pa_cons (pe_callTy call_tuple_of (by rfl) B.tup_ (by decide +kernel) (pa_cons (pv 4) pa_nil)) (pa_cons (pe_callTy call_tuple_of (by rfl) B.tup_ (by decide +kernel) (pa_cons
          (pe_lc (own := [("_law_size", 6), ("_law_number_here", 7)]) (g := gTup K 2 (gCons (gName 6) (gCons (gName 7) gNil))) (tt := tYes) rfl scBd.nd (pi_list (pv 3)) (blkOk_by (N := NBd) (sc := defScope sBd) (by decide +kernel))
            (fun _ _ _ _ _ => pg_tup (by rfl) (pgs_cons (pg_name (i := 6) scBd.nd rfl (Or.inl rfl)) (pgs_cons (pg_name (i := 7) scBd.nd rfl (Or.inl rfl)) pgs_nil))) (fun _ _ _ _ _ => pts_nil)
            (fun _ _ _ _ _ => pe_op op_fdivN (pv 7) pe_int)) pa_nil)) pa_nil)))))), ?_⟩
    obtain ⟨p2, p7⟩ := isPr_small pr
    have hp : p = 2 ∨ p = 3 ∨ p = 5 ∨ p = 7 := by
      have z : (decide (2 = (p : Int)) || (decide (3 = (p : Int)) || (decide (5 = (p : Int)) || (decide (7 = (p : Int)) || false)))) = true := pr
      simp only [Bool.or_eq_true, decide_eq_true_eq, Bool.or_false] at z
      omega
    refine ⟨_, rfl, d, c, n, 2, rfl, pen, by decide, by decide, n0, by omega, fun r H1 r0 r1 dr => ?_⟩
    refine ⟨_, _, rfl, rfl, ?_⟩
    obtain ⟨deep, ek, hdp⟩ : ∃ k : Nat, 1 + r = (k : Int) ∧ (k = 1 ∨ k = 2) := ⟨(1 + r).toNat, by omega, by omega⟩
    have o01 : Off d H H1 := .dr dr
    have pn1 := dr.pen
    clear dr pen
    refine ⟨by show 2 ≤ sizeLine; decide, fun t0 ht0 => ⟨by show 1 ≤ sizeLine; decide, fun N hN => ⟨Nat.zero_le _, fun D hD => ⟨V.int (deep : Int), V.ref N, V.ref D, by rw [← ek], ?_⟩⟩⟩⟩
    have mt := new_more (o := .tup [V.int 0, V.int 0]) ht0
    have mN := new_more (o := .lst [V.ref t0]) hN
    have mD := new_more (o := .lst []) hD
    have k0 : (upd (upd (upd H1 t0 (.tup [V.int 0, V.int 0])) N (.lst [V.ref t0])) D (.lst [])) t0 = some (.tup [V.int 0, V.int 0]) := mD _ _ (mN _ _ upd_same)
    have kN : (upd (upd (upd H1 t0 (.tup [V.int 0, V.int 0])) N (.lst [V.ref t0])) D (.lst [])) N = some (.lst ([t0].map V.ref)) := mD _ _ upd_same
    have kD : (upd (upd (upd H1 t0 (.tup [V.int 0, V.int 0])) N (.lst [V.ref t0])) D (.lst [])) D = some (.lst (([] : List Addr).map V.ref)) := upd_same
    have m2 : More H1 (upd (upd (upd H1 t0 (.tup [V.int 0, V.int 0])) N (.lst [V.ref t0])) D (.lst [])) := fun b o e => mD _ _ (mN _ _ (mt _ _ e))
    have H1N : H1 N = none := mt.off hN
    have H1D : H1 D = none := (show More H1 _ from fun b o e => mN _ _ (mt _ _ e)).off hD
    have ND : N ≠ D := ne_of_none (show (upd (upd H1 t0 (.tup [V.int 0, V.int 0])) N (.lst [V.ref t0])) N = _ from upd_same) hD
    generalize upd (upd (upd H1 t0 (.tup [V.int 0, V.int 0])) N (.lst [V.ref t0])) D (.lst []) = H2 at k0 kN kD m2 ⊢
    clear mt mN mD ht0 hN hD
    clear r0 r1 ek
    have hlead : ∀ q, OkB deep p q → ∀ b ∈ leadB deep p q, OkB deep p b := leadB_ok hdp hp
    refine ⟨fun σ' H' => ∃ (z5 z6 z7 z8 z9 z10 : Option V) (st : List (List Int)) (rows : List (List Nat)) (as ts : List Addr), σ' = [some (.ref d), some (.int p), some (.int deep), some (.ref N), some (.ref D), z5, z6, z7, z8, z9, z10] ∧ H' N = some (.lst (as.map V.ref)) ∧ Paired (TupZ H') as st ∧ H' D = some (.lst (ts.map V.ref)) ∧ Paired (TupN H') ts rows ∧ More H1 H' ∧
        WalkI (leadB deep p) (OkB deep p) [[0, 0]] st.length st rows, ?_, ?_⟩
    · refine ⟨60, rfl, by decide, by decide, for_range (lo := 0) (n := 60) (fun i σ' H' => ∃ (z5 z6 z7 z8 z9 z10 : Option V) (st : List (List Int)) (rows : List (List Nat)) (as ts : List Addr), σ' = [some (.ref d), some (.int p), some (.int deep), some (.ref N), some (.ref D), z5, z6, z7, z8, z9, z10] ∧ H' N = some (.lst (as.map V.ref)) ∧ Paired (TupZ H') as st ∧ H' D = some (.lst (ts.map V.ref)) ∧ Paired (TupN H') ts rows ∧ More H1 H' ∧
        WalkI (leadB deep p) (OkB deep p) [[0, 0]] i st rows)
        ⟨none, none, none, none, none, none, [[0, 0]], [], [t0], [], rfl, kN, .cons k0 .nil, kD, .nil, m2, ⟨rfl, Nat.zero_le _, by simp, fun x hx => by
          have : x = [0, 0] := by simpa using hx
          rw [this]; exact OkB.start deep p, List.prefix_refl _, fun j _ _ hj => by omega⟩⟩ ?_ ?_⟩
      · rintro i σ' G hi ⟨z5, z6, z7, z8, z9, z10, st, rows, as, ts, rfl, kN5, prN, kD5, prD, m5, wi⟩
        rw [Int.zero_add]
        have las : as.length = st.length := Paired.length prN
        have lts : ts.length = i := by rw [Paired.length prD, wi.len]
        have lst := bndB (deep := deep) (p := p) (by omega) _ wi.nd wi.all
        refine ⟨_, rfl, _, rfl, N, _, rfl, .inl (SqL.of kN5), _, _, rfl, rfl, _, rfl, ite2 (fun hz => ?_) (fun hz => ?_)⟩
        · have hz := of_decide_eq_true hz
          rw [List.length_map, las] at hz
          have ei : i = st.length := by have := wi.le; omega
          subst ei
          exact ⟨_, _, _, _, _, _, st, rows, as, ts, rfl, kN5, prN, kD5, prD, m5, wi⟩
        have lt : i < st.length := by
          rcases Nat.lt_or_ge i st.length with z | z
          · exact z
          · exact absurd (decide_eq_true (by rw [List.length_map, las]; omega)) hz
        obtain ⟨a, ha⟩ : ∃ a, as[i]? = some a := ⟨as[i]'(by omega), List.getElem?_eq_getElem (by omega)⟩
        obtain ⟨qs, hqs, kq⟩ := paired_at prN ha
        have okq := wi.all qs (List.mem_of_getElem? hqs)
        obtain ⟨s, n, rfl, hq⟩ := id okq
        have kq : G a = some (.tup [V.int s, V.int n]) := kq
        refine ⟨_, rfl, _, rfl, N, _, _, _, rfl, rfl, SqL.of kN5, atI_nat (at_map ha), a, _, rfl, SqT.of kq, rfl, _, _, rfl, _, _, rfl, rfl, Nat.zero_le _, fun lr hlr => ?_⟩
        have m6 := new_more (o := .lst []) hlr
        have H1r : H1 lr = none := m5.off hlr
        have Nr : N ≠ lr := ne_of_none kN5 hlr
        have Dr' : D ≠ lr := ne_of_none kD5 hlr
        have kr6 : (upd G lr (.lst [])) lr = some (.lst (([] : List Nat).map nV)) := upd_same
        have kN6 := m6 _ _ kN5
        have kD6 := m6 _ _ kD5
        have prN6 := paired_imp (S := TupZ (upd G lr (.lst []))) (fun b k (e : TupZ G b k) => m6 _ _ e) prN
        have prD6 := paired_imp (S := TupN (upd G lr (.lst []))) (fun b k (e : TupN G b k) => m6 _ _ e) prD
        have m16 : More H1 (upd G lr (.lst [])) := fun b u e => m6 _ _ (m5 _ _ e)
        generalize upd G lr (.lst []) = G1 at kr6 kN6 kD6 prN6 prD6 m16 ⊢
        clear m6 kN5 kD5 prN prD m5 hlr kq
        refine ⟨_, rfl, _, rfl, by omega, by omega, for_range (lo := 0) (n := p) (fun j σ' H' => ∃ (z9 z10 : Option V) (as2 : List Addr), σ' = [some (.ref d), some (.int p), some (.int deep), some (.ref N), some (.ref D), some (.int i), some (.int s), some (.int n), some (.ref lr), z9, z10] ∧ H' N = some (.lst (as2.map V.ref)) ∧ Paired (TupZ H') as2 (noteAll st ((leadB deep p [s, n]).take j)).1 ∧
            H' D = some (.lst (ts.map V.ref)) ∧ Paired (TupN H') ts rows ∧ More H1 H' ∧ H' lr = some (.lst ((noteAll st ((leadB deep p [s, n]).take j)).2.map nV))) ⟨z9, z10, as, rfl, kN6, prN6, kD6, prD6, m16, kr6⟩ ?_ ?_⟩
        · rintro j σ' G2 hj ⟨z9', z10', as2, rfl, kN7, pr7, kD7, prD7, m7, kr7⟩
          rw [Int.zero_add]
          have tk := take_snoc (leadB_at (deep := deep) (s := s) (n := n) hj)
          have sn1 := noteAll_snoc (nxB deep p s n j) ((leadB deep p [s, n]).take j) st
          rw [← tk] at sn1
          have nj : (noteAll st ((leadB deep p [s, n]).take j)).1.Nodup := noteAll_nd _ wi.nd
          have okj : ∀ x ∈ (noteAll st ((leadB deep p [s, n]).take j)).1, OkB deep p x := fun x hx => by
            rcases noteAll_mem _ _ x hx with hx | hx
            · exact wi.all x hx
            · exact hlead _ okq x (List.mem_of_mem_take hx)
          have lj := bndB (by omega) _ nj okj
          have lr2 : (noteAll st ((leadB deep p [s, n]).take j)).2.length ≤ 7 := by
            rw [(noteAll_at _ st).1, List.length_take]
            omega
          rw [sn1]
          generalize noteAll st ((leadB deep p [s, n]).take j) = q0 at pr7 kr7 nj okj lj lr2 ⊢
          obtain ⟨st0, row0⟩ := q0
          have pr7 : Paired (TupZ G2) as2 st0 := pr7
          have kr7 : G2 lr = some (.lst (row0.map nV)) := kr7
          have nj : st0.Nodup := nj
          have lj : st0.length ≤ 58 := lj
          have lr2 : row0.length ≤ 7 := lr2
          clear okj
          refine ⟨fun σ' H' => ∃ t : Addr, σ' = [some (.ref d), some (.int p), some (.int deep), some (.ref N), some (.ref D), some (.int i), some (.int s), some (.int n), some (.ref lr), some (.int j), some (.ref t)] ∧ TupZ H' t (if s < deep then [s + 1, n + (j : Int) * (if s = 0 then 1 else (p : Int))] else [s, if j = 0 then n else -1]) ∧ More G2 H', ?_, ?_⟩
          · refine ⟨_, rfl, _, rfl, _, _, rfl, rfl, _, rfl, ite2 (fun hz => ?_) (fun hz => ?_)⟩
            · have hz := of_decide_eq_true hz
              obtain ⟨si, es, hv⟩ : ∃ si : Nat, s = (si : Int) ∧ [V.int 1, V.int (p : Int)][si]? = some (V.int (if s = 0 then 1 else (p : Int))) := by
                have hs : s = 0 ∨ s = 1 := by omega
                rcases hs with rfl | rfl
                · exact ⟨0, rfl, rfl⟩
                · exact ⟨1, rfl, by rw [if_neg (by decide)]; rfl⟩
              refine ⟨_, rfl, _, _, rfl, rfl, _, rfl, _, rfl, _, rfl, by show 2 ≤ sizeLine; decide, fun l hl => ?_⟩
              refine ⟨_, rfl, l, _, _, _, rfl, rfl, SqL.of upd_same, at_of es hv, _, _, rfl, rfl, .inl ⟨by omega, by omega⟩, _, _, rfl, rfl, by show 2 ≤ sizeLine; decide, fun t ht => ⟨t, rfl, ?_, fun b o e => new_more ht _ _ (new_more hl _ _ e)⟩⟩
              rw [if_pos hz]
              exact upd_same
            · have hz : ¬ s < deep := fun z => hz (decide_eq_true z)
              rw [if_neg hz]
              refine ⟨_, rfl, _, rfl, rfl, _, rfl, ite2 (fun h0 => ?_) (fun h0 => ?_)⟩
              · have h0 := of_decide_eq_true h0
                rw [V.int.injEq] at h0
                refine ⟨_, rfl, by show 2 ≤ sizeLine; decide, fun t ht => ⟨t, rfl, ?_, new_more ht⟩⟩
                rw [if_pos (by omega)]
                exact upd_same
              · refine ⟨_, rfl, by show 2 ≤ sizeLine; decide, fun t ht => ⟨t, rfl, ?_, new_more ht⟩⟩
                rw [if_neg fun z => h0 (decide_eq_true (by rw [z]; rfl))]
                exact upd_same
          rintro σ2 G3 ⟨t1, rfl, kt1, m3⟩
          refine ⟨fun σ' H' => ∃ t : Addr, σ' = [some (.ref d), some (.int p), some (.int deep), some (.ref N), some (.ref D), some (.int i), some (.int s), some (.int n), some (.ref lr), some (.int j), some (.ref t)] ∧ TupZ H' t (nxB deep p s n j) ∧ More G2 H', ?_, ?_⟩
          · refine ⟨_, rfl, _, rfl, rfl, _, rfl, ?_⟩
            rw [deI]
            refine ite2 (fun hz => ⟨_, rfl, _, rfl, by show 2 ≤ sizeLine; decide, fun t ht => ⟨t, rfl, ?_, fun b o e => new_more ht _ _ (m3 _ _ e)⟩⟩) (fun hz => ⟨_, rfl, t1, rfl, ?_, m3⟩)
            · unfold nxB
              rw [if_pos (of_decide_eq_true hz)]
              exact upd_same
            · unfold nxB
              rw [if_neg fun z => hz (decide_eq_true z)]
              exact kt1
          clear kt1 m3 G3
          rintro σ2 G3 ⟨t, rfl, kt, m3⟩
          have kN8 := m3 _ _ kN7
          have kD8 := m3 _ _ kD7
          have kr8 := m3 _ _ kr7
          have pr8 := paired_imp (S := TupZ G3) (fun b k (e : TupZ G2 b k) => m3 _ _ e) pr7
          have prD8 := paired_imp (S := TupN G3) (fun b k (e : TupN G2 b k) => m3 _ _ e) prD7
          have m8 : More H1 G3 := fun b o e => m3 _ _ (m7 _ _ e)
          clear kN7 kD7 kr7 pr7 prD7 m7 m3
          have las2 : as2.length = st0.length := Paired.length pr8
          generalize nxB deep p s n j = bq at kt ⊢
          refine ⟨fun σ' H' => ∃ as3 : List Addr, σ' = [some (.ref d), some (.int p), some (.int deep), some (.ref N), some (.ref D), some (.int i), some (.int s), some (.int n), some (.ref lr), some (.int j), some (.ref t)] ∧ H' N = some (.lst (as3.map V.ref)) ∧ Paired (TupZ H') as3 (note st0 bq).1 ∧
            H' D = some (.lst (ts.map V.ref)) ∧ Paired (TupN H') ts rows ∧ More H1 H' ∧ H' lr = some (.lst (row0.map nV)) ∧ TupZ H' t bq, ?_, ?_⟩
          · refine ⟨_, rfl, _, rfl, _, _, dp_I (SqT.of kt), .lst (SqL.of kN8) (tupZ_rows pr8), shaped_I _, shaped_LR _, _, rfl, ?_⟩
            rw [any_dI]
            cases e : ixOf st0 bq with
            | some i0 =>
              rw [decide_eq_true (List.mem_of_getElem? (ixOf_some e))]
              refine iteF ⟨as2, rfl, kN8, ?_, kD8, prD8, m8, kr8, kt⟩
              unfold note
              rw [e]
              exact pr8
            | none =>
              rw [decide_eq_false (ixOf_none e)]
              refine iteT ⟨_, rfl, .inl ⟨rfl, _, SqL.of kN8⟩, _, rfl, N, _, _, rfl, rfl, kN8, by rw [List.length_map]; exact small1000 (by omega), as2 ++ [t], rfl, by rw [upd_same, List.map_append]; rfl, ?_, ?_, ?_, More.at m8 H1N, ?_, (upd_ne (ne_of kt kN8 (fun z => by cases z))).trans kt⟩
              · unfold note
                rw [e]
                exact paired_snoc (R := TupZ _) ((upd_ne (ne_of kt kN8 (fun z => by cases z))).trans kt) (paired_imp (S := TupZ _) (fun b k (e : TupZ G3 b k) => (upd_ne (ne_of e kN8 (fun z => by cases z))).trans e) pr8)
              · exact (upd_ne ND.symm).trans kD8
              · exact paired_imp (S := TupN _) (fun b k (e : TupN G3 b k) => (upd_ne (ne_of e kN8 (fun z => by cases z))).trans e) prD8
              · exact (upd_ne Nr.symm).trans kr8
          clear kN8 kD8 kr8 pr8 prD8 m8 kt
          rintro σ2 G4 ⟨as3, rfl, kN9, pr9, kD9, prD9, m9, kr9, kt9⟩
          have nn := note_nd nj bq
          have ea := note_at st0 bq
          refine ⟨_, rfl, .inl ⟨rfl, _, SqL.of kr9⟩, _, rfl, .inl ⟨rfl, _, SqL.of kN9⟩, _, rfl, N, _, dI bq, (note st0 bq).1.map dI, (note st0 bq).2, dI bq, rfl, rfl, .lst (SqL.of kN9) (tupZ_rows pr9), dp_I (SqT.of kt9), shaped_LR _, shaped_I _, at_map ea, by rw [eqv_I]; exact decide_eq_true rfl, fun m z' hm hz' => ?_, lr, _, _, rfl, rfl, kr9, by rw [List.length_map]; exact small1000 (by omega), ?_⟩
          · obtain ⟨k', hk', rfl⟩ := map_at hz'
            rw [eqv_I]
            refine decide_eq_false fun z => ?_
            subst z
            have := ixOf_self nn hk'
            rw [ixOf_self nn ea] at this
            have := Option.some.inj this
            omega
          · refine ⟨_, _, as3, rfl, (upd_ne Nr).trans kN9, paired_imp (S := TupZ _) (fun b k (e : TupZ G4 b k) => (upd_ne (ne_of e kr9 (fun z => by cases z))).trans e) pr9, (upd_ne Dr').trans kD9, paired_imp (S := TupN _) (fun b k (e : TupN G4 b k) => (upd_ne (ne_of e kr9 (fun z => by cases z))).trans e) prD9, More.at m9 H1r, ?_⟩
            rw [upd_same, List.map_append]
            rfl
        · rintro σ' G2 ⟨z9', z10', as2, rfl, kN7, pr7, kD7, prD7, m7, kr7⟩
          have tl : (leadB deep p [s, n]).take p = leadB deep p [s, n] := List.take_of_length_le (by rw [leadB_len]; exact Nat.le_refl _)
          rw [tl] at pr7 kr7
          refine ⟨_, rfl, .inl ⟨rfl, _, SqL.of kD7⟩, _, rfl, lr, _, rfl, .inl ⟨SqL.of kr7, fun t ht => ?_⟩⟩
          have mt := new_more (o := .tup ((noteAll st (leadB deep p [s, n])).2.map nV)) ht
          have kt : (upd G2 t (.tup ((noteAll st (leadB deep p [s, n])).2.map nV))) t = some (.tup ((noteAll st (leadB deep p [s, n])).2.map nV)) := upd_same
          have kN8 := mt _ _ kN7
          have kD8 := mt _ _ kD7
          have pr8 := paired_imp (S := TupZ (upd G2 t (.tup ((noteAll st (leadB deep p [s, n])).2.map nV)))) (fun b k (e : TupZ G2 b k) => mt _ _ e) pr7
          have prD8 := paired_imp (S := TupN (upd G2 t (.tup ((noteAll st (leadB deep p [s, n])).2.map nV)))) (fun b k (e : TupN G2 b k) => mt _ _ e) prD7
          have m8 : More H1 (upd G2 t (.tup ((noteAll st (leadB deep p [s, n])).2.map nV))) := fun b o e => mt _ _ (m7 _ _ e)
          generalize upd G2 t (.tup ((noteAll st (leadB deep p [s, n])).2.map nV)) = G3 at kt kN8 kD8 pr8 prD8 m8 ⊢
          refine ⟨D, _, _, rfl, rfl, kD8, by rw [List.length_map]; exact small1000 (by omega), ?_⟩
          refine ⟨_, _, _, _, _, _, (noteAll st (leadB deep p [s, n])).1, rows ++ [(noteAll st (leadB deep p [s, n])).2], as2, ts ++ [t], rfl, (upd_ne ND).trans kN8, paired_imp (S := TupZ _) (fun b k (e : TupZ G3 b k) => (upd_ne (ne_of e kD8 (fun z => by cases z))).trans e) pr8, by rw [upd_same, List.map_append]; rfl, ?_, More.at m8 H1D, wi.step hlead hqs⟩
          exact paired_snoc (R := TupN _) ((upd_ne (ne_of kt kD8 (fun z => by cases z))).trans kt) (paired_imp (S := TupN _) (fun b k (e : TupN G3 b k) => (upd_ne (ne_of e kD8 (fun z => by cases z))).trans e) prD8)
      · rintro σ' G ⟨z5, z6, z7, z8, z9, z10, st, rows, as, ts, rfl, kN5, prN, kD5, prD, m5, wi⟩
        have := wi.le
        have := bndB (deep := deep) (p := p) (by omega) _ wi.nd wi.all
        omega
    · rintro σ' G ⟨z5, z6, z7, z8, z9, z10, st, rows, as, ts, rfl, kN5, prN, kD5, prD, m5, wi⟩
      have lst := bndB (deep := deep) (p := p) (by omega) _ wi.nd wi.all
      have las : as.length = st.length := Paired.length prN
      obtain ⟨good, steady⟩ := bd_good pr wi lst
      refine ⟨_, rfl, D, _, rfl, .inl ⟨SqL.of kD5, fun t1 ht1 => ?_⟩⟩
      have mt1 := new_more (o := .tup (ts.map V.ref)) ht1
      have kt1 : (upd G t1 (.tup (ts.map V.ref))) t1 = some (.tup (ts.map V.ref)) := upd_same
      have kN6 := mt1 _ _ kN5
      have pr6 := paired_imp (S := TupZ (upd G t1 (.tup (ts.map V.ref)))) (fun b k (e : TupZ G b k) => mt1 _ _ e) prN
      have prD6 := paired_imp (S := TupN (upd G t1 (.tup (ts.map V.ref)))) (fun b k (e : TupN G b k) => mt1 _ _ e) prD
      have m6 : More H1 (upd G t1 (.tup (ts.map V.ref))) := fun b u e => mt1 _ _ (m5 _ _ e)
      generalize upd G t1 (.tup (ts.map V.ref)) = G1 at kt1 kN6 pr6 prD6 m6 ⊢
      clear mt1 kN5 prN prD m5 kD5 ht1
      refine ⟨_, rfl, N, rfl, ⟨_, SqL.of kN6⟩, fun D2 hD2 => ?_⟩
      refine lc_pure (D := D2) (H1 := G1) (xs := as.map V.ref) (rs := st.map fun q => V.int ((q.getD 1 0).fdiv 2)) walk_list hD2 (fun H' m => SqL.of (m _ _ kN6)) (by rw [List.length_map, List.length_map, las]) (by rw [List.length_map]; omega) ?_ (fun y σ' H2 A B h ⟨a, xs, e1, e2, e3, v, r, e4, v2, r2, e5, e6, q⟩ => ⟨a, xs, e1, e2, e3, v, r, e4, v2, r2, e5, e6, h _ _ q⟩) ?_
      · intro i y v G3 Q3 hy hv m7 q3
        obtain ⟨a, ha, rfl⟩ := map_at hy
        obtain ⟨qs, hqs, kq⟩ := paired_at pr6 ha
        obtain ⟨qs', hqs', rfl⟩ := map_at hv
        rw [hqs] at hqs'
        cases hqs'
        obtain ⟨s, n, rfl, _⟩ := wi.all qs (List.mem_of_getElem? hqs)
        exact ⟨a, [V.int s, V.int n], rfl, SqT.of (m7 _ _ kq), rfl, _, _, rfl, _, _, rfl, rfl, rfl, _, rfl, _, _, rfl, rfl, ⟨by decide, by decide⟩, q3 _ fun _ _ e => e⟩
      · intro G2 kD2 m7
        refine ⟨D2, _, rfl, .inl ⟨SqL.of kD2, fun t2 ht2 => ⟨by show 2 ≤ sizeLine; decide, fun t ht => ?_⟩⟩⟩
        have mt2 := new_more (o := .tup (st.map fun q => V.int ((q.getD 1 0).fdiv 2))) ht2
        have mt3 := new_more (o := .tup [.ref t1, .ref t2]) ht
        have m8 : More G1 (upd (upd G2 t2 (.tup (st.map fun q => V.int ((q.getD 1 0).fdiv 2)))) t (.tup [.ref t1, .ref t2])) := fun b u e => mt3 _ _ (mt2 _ _ (m7 _ _ e))
        have m18 : More H1 (upd (upd G2 t2 (.tup (st.map fun q => V.int ((q.getD 1 0).fdiv 2)))) t (.tup [.ref t1, .ref t2])) := fun b u e => m8 _ _ (m6 _ _ e)
        have pnD : Pen (upd (upd G2 t2 (.tup (st.map fun q => V.int ((q.getD 1 0).fdiv 2)))) t (.tup [.ref t1, .ref t2])) d c (n + 1) := by
          obtain ⟨o1, h1⟩ := pn1.at
          obtain ⟨o2, h2⟩ := pn1.atc
          exact pn1.keep ((m18 _ _ h1).trans h1.symm) ((m18 _ _ h2).trans h2.symm)
        refine q _ t t1 t2 (ts.map V.ref) _ _ (n + 1) upd_same (m8 _ _ kt1) (tupN_I (paired_imp (S := TupN _) (fun b row (e : TupN G1 b row) => m8 _ _ e) prD6)) ?_ good steady (by rw [List.length_map, wi.len]; exact lst) pnD (by omega) (by omega) (o01.trans (.of m18))
        rw [List.map_map]
        exact mt3 _ _ upd_same
end
end K72

/-! mac: _law_machine, one of three kinds of machines -/
namespace K72
open PySem L2 Gd B5
abbrev sMac : Stmt := top 37
abbrev NMac : List Str := ["_law_pen_here", "_law_p", "_law_way"]
theorem scMac : FnScope NMac ["_law_pen_here", "_law_p"] (defScope sMac) := ⟨rfl, rfl, rfl, by decide +kernel, rfl, by decide +kernel, by decide +kernel⟩
def spMac (K : PySem.W.Frag) : Sp := fun vs H Q _ => ∃ (d c : Addr) (n : Int) (p : Nat), vs = [.ref d, .int p] ∧ Pen H d c n ∧ 0 ≤ n ∧ n < 700000000 ∧ isPr p = true ∧
  ∀ (H' : Hp) (t M W : Addr) (rs : List V) (dss : List (List Int)) (ws : List Int) (n' : Int), H' t = some (.tup [.ref M, .ref W]) → H' M = some (.tup rs) → Paired (TupI K H') rs dss → H' W = some (.tup (ws.map V.int)) →
    MGood p dss ws → stdy dss ws = true → dss.length ≤ 58 → Pen H' d c n' → n ≤ n' → n' ≤ n + 1001 → Off d H H' → Q (.ref t) H'
section
variable {P : Program} {w : World} {K : PySem.W.Frag} {mg : Str → Option Value} {base : Heap} {g1 g2 g3 g4 f : Addr} {d1 d2 d3 d4 fd : FuncData}
theorem ok_mac (F : Fun K "_law_machine" "_law_machine" sMac f fd) (B : Blt mg) (Dr : Cl K mg "_law_draw" sDraw ["_law_pen_here", "_law_many"] g1 d1)
    (St : Cl K mg "_law_steady" sSt ["_law_pen_here", "_law_p", "_law_most"] g2 d2) (G2 : FnOk P w K mg base CX0 3 g2 d2 ["_law_pen_here", "_law_p", "_law_most"] (spSt K))
    (Fw : Cl K mg "_law_few" sFew ["_law_pen_here", "_law_p"] g3 d3) (G3 : FnOk P w K mg base CX0 3 g3 d3 ["_law_pen_here", "_law_p"] (spFew K))
    (Bd : Cl K mg "_law_bounded" sBd ["_law_pen_here", "_law_p"] g4 d4) (G4 : FnOk P w K mg base CX0 2 g4 d4 ["_law_pen_here", "_law_p"] (spBd K)) :
    FnOk P w K mg base CX0 4 f fd ["_law_pen_here", "_law_p"] (spMac K) := by
  have G1 : FnOk P w K mg base CX0 1 g1 d1 ["_law_pen_here", "_law_many"] spDraw := ok_draw Dr.fn B.int_ B.len_
  refine F.ok scMac (fun vs H Q E h => ?_) (fun cdv A outer s H vs Q E hr h => ?_)
  · obtain ⟨d, c, n, p, rfl, _⟩ := h
    rfl
  · obtain ⟨d, c, n, p, rfl, pen, n0, n1, pr, q⟩ := h
    have hr1 : Room 1 _ := hr.mono (by decide)
    have hr2 : Room 2 _ := hr.mono (by decide)
    refine ⟨_, pss_cons (ps_set (i := 2) scMac.nd rfl (Or.inl rfl) (pe_call G1 hr1 rfl Dr.g Dr.k Dr.b .nil pass0 (pa_cons (pv 0) (pa_cons pe_int pa_nil))))
      (pss_cons (ps_if (pt_cmpR op_eq (pv 2) pe_int (nomark _)) (pss_one (ps_ret (pe_call G2 hr rfl St.g St.k St.b .nil pass0 (pa_cons (pv 0) (pa_cons (pv 1) (pa_cons pe_int pa_nil)))))) pss_nil)
      (pss_one (ps_ret (pe_ifExp (pt_cmpR op_eq (pv 2) pe_int (nomark _)) (pe_call G3 hr rfl Fw.g Fw.k Fw.b .nil pass0 (pa_cons (pv 0) (pa_cons (pv 1) pa_nil))) (pe_call G4 hr2 rfl Bd.g Bd.k Bd.b .nil pass0 (pa_cons (pv 0) (pa_cons (pv 1) pa_nil))))))), ?_⟩
    refine ⟨_, rfl, d, c, n, 3, rfl, pen, by decide, by decide, n0, by omega, fun r H1 r0 r1 dr => ?_⟩
    have o1 : Off d H H1 := .dr dr
    refine ⟨_, rfl, rfl, _, rfl, ite2 (fun hz => ?_) (fun hz => ?_)⟩
    · exact ⟨_, rfl, _, rfl, d, c, n + 1, p, 7, rfl, dr.pen, by omega, by omega, pr, by decide, by decide, fun H' t M W rs dss ws n' h1 h2 h3 h4 g st l pn b1 b2 o => q H' t M W rs dss ws n' h1 h2 h3 h4 g st (by omega) pn (by omega) (by omega) (o1.trans o)⟩
    · refine ⟨_, rfl, rfl, _, rfl, ite2 (fun hz => ?_) (fun hz => ?_)⟩
      · exact ⟨_, rfl, _, rfl, d, c, n + 1, p, rfl, dr.pen, by omega, by omega, pr, fun H' t M W rs dss ws n' h1 h2 h3 h4 g st l pn b1 b2 o => q H' t M W rs dss ws n' h1 h2 h3 h4 g st (by omega) pn (by omega) (by omega) (o1.trans o)⟩
      · exact ⟨_, rfl, _, rfl, d, c, n + 1, p, rfl, dr.pen, by omega, by omega, pr, fun H' t M W rs dss ws n' h1 h2 h3 h4 g st l pn b1 b2 o => q H' t M W rs dss ws n' h1 h2 h3 h4 g st (by omega) pn (by omega) (by omega) (o1.trans o)⟩
end
end K72

/-! Agn: by the numbers of digits below 2 n + 2 alone: whether a value comes again for ever, and the greatest number with it. -/
namespace B5
section
variable {n p : Nat} {step : Nat → Nat → Nat} {val : Nat → Int} {v : Int}
/-- a long word is cut to less than twice the states -/
theorem cut_long (cl : ∀ s d, s < n → d < p → step s d < n) (n0 : 0 < n) {w : List Nat} (g : Dg p w) (hw : n ≤ w.length) : ∃ u : List Nat, Dg p u ∧ n ≤ u.length ∧ u.length < 2 * n ∧ runW step 0 u = runW step 0 w := by
  have e := List.take_append_drop (w.length - n) w
  obtain ⟨a, la, ga, ea⟩ := rch_short cl n0 (s := runW step 0 (w.take (w.length - n))) ⟨_, fun x hx => g x (List.mem_of_mem_take hx), rfl⟩
  have ld : (w.drop (w.length - n)).length = n := by rw [List.length_drop]; omega
  refine ⟨a ++ w.drop (w.length - n), fun x hx => (List.mem_append.mp hx).elim (ga x) fun hx => g x (List.mem_of_mem_drop hx), by rw [List.length_append]; omega, by rw [List.length_append]; omega, ?_⟩
  rw [runW_cat, ea, ← runW_cat, e]
def Ends (n p : Nat) (step : Nat → Nat → Nat) (val : Nat → Int) (v : Int) : Prop := ∃ (w : List Nat) (d : Nat), Dg p w ∧ n ≤ w.length ∧ w.length < 2 * n ∧ 0 < d ∧ d < p ∧ val (step (runW step 0 w) d) = v
theorem ends_of (cl : ∀ s d, s < n → d < p → step s d < n) (n0 : 0 < n) {N : Nat} {w : List Nat} (c : Cand p step (fun s => val s = v) N w) (h : n < N) : Ends n p step val v := by
  obtain ⟨l, g, t, e⟩ := c
  rcases t with rfl | ⟨u, d, rfl, nz⟩
  · exact absurd l (by show 0 ≠ N; omega)
  rw [List.length_append] at l
  have l : u.length + 1 = N := l
  obtain ⟨g1, g2⟩ := Dg.snoc.mp g
  obtain ⟨u', a, b, c, q⟩ := cut_long cl n0 g1 (by omega)
  refine ⟨u', d, a, b, c, by omega, g2, ?_⟩
  have e : val (runW step 0 (u ++ [d])) = v := e
  rw [runW_app] at e
  rw [q]
  exact e
theorem ends_cand (h : Ends n p step val v) : ∃ N, n < N ∧ N < 2 * n + 2 ∧ ∃ w, Cand p step (fun s => val s = v) N w := by
  obtain ⟨w, d, g, a, b, d0, hd, e⟩ := h
  exact ⟨w.length + 1, by omega, by omega, w ++ [d], by rw [List.length_append]; rfl, Dg.snoc.mpr ⟨g, hd⟩, .inr ⟨w, d, rfl, by omega⟩, by show val _ = v; rw [runW_app]; exact e⟩
/-- any number with the value has a word without zeros at its top -/
theorem tell_cand (st : ∀ s, Rch p step s → val s = val (step s 0)) {m : Nat} (h : Tell p step val v m) : ∃ w, Cand p step (fun s => val s = v) w.length w ∧ numW p w = m := by
  obtain ⟨w, g, e, rfl⟩ := h
  obtain ⟨w', a, b, c, _, t⟩ := strip st w.length w rfl g
  exact ⟨w', ⟨rfl, a, t, by show val _ = v; rw [c, e]⟩, b⟩
theorem cand_tell {N : Nat} {w : List Nat} (c : Cand p step (fun s => val s = v) N w) : Tell p step val v (numW p w) := ⟨w, c.dg, c.leads, rfl⟩
/-- no size: nothing tells the value -/
theorem sizes_none (cl : ∀ s d, s < n → d < p → step s d < n) (n0 : 0 < n) (st : ∀ s, Rch p step s → val s = val (step s 0)) (no : ∀ N, N < 2 * n + 2 → ¬ ∃ w, Cand p step (fun s => val s = v) N w) :
    ¬ Ends n p step val v ∧ MaxO (Tell p step val v) none := by
  have ne : ¬ Ends n p step val v := fun h => by
    obtain ⟨N, _, lt, c⟩ := ends_cand h
    exact no N lt c
  refine ⟨ne, .inl ⟨rfl, fun m h => ?_⟩⟩
  obtain ⟨w, c, _⟩ := tell_cand st h
  by_cases z : w.length < 2 * n + 2
  · exact no _ z ⟨w, c⟩
  · exact ne (ends_of cl n0 c (by omega))
/-- the greatest size tells -/
theorem sizes_last (p0 : 0 < p) (cl : ∀ s d, s < n → d < p → step s d < n) (n0 : 0 < n) (st : ∀ s, Rch p step s → val s = val (step s 0)) {N : Nat} (lt : N < 2 * n + 2) (hc : ∃ w, Cand p step (fun s => val s = v) N w)
    (top : ∀ M, M < 2 * n + 2 → (∃ w, Cand p step (fun s => val s = v) M w) → M ≤ N) :
    (n < N ↔ Ends n p step val v) ∧ (N ≤ n → ∀ r, BstG p step (fun s => val s = v) N r → MaxO (Tell p step val v) r) := by
  have one : n < N ↔ Ends n p step val v := by
    constructor
    · intro h
      obtain ⟨w, c⟩ := hc
      exact ends_of cl n0 c h
    · intro h
      obtain ⟨M, a, b, c⟩ := ends_cand h
      have := top M b c
      omega
  refine ⟨one, fun le r b => ?_⟩
  obtain ⟨w0, c0⟩ := hc
  rcases b with ⟨_, no⟩ | ⟨w, e, c, best⟩
  · exact absurd c0 (no w0)
  refine .inr ⟨numW p w, e, cand_tell c, fun m h => ?_⟩
  obtain ⟨u, cu, rfl⟩ := tell_cand st h
  have lu : u.length ≤ N := by
    by_cases z : u.length < 2 * n + 2
    · exact top _ z ⟨u, cu⟩
    · have := one.mpr (ends_of cl n0 cu (by omega))
      omega
  by_cases z : u.length = N
  · rw [z] at cu
    exact best u cu
  · have h1 := numW_lt p0 u cu.dg
    rcases c.top with rfl | ⟨x, d, rfl, nz⟩
    · have := c.len
      exact absurd this (by show 0 ≠ N; omega)
    · have h2 := top_ge (p := p) (u := x) nz
      have l := c.len
      rw [List.length_append] at l
      have l : x.length + 1 = N := l
      have h3 : p ^ u.length ≤ p ^ x.length := Nat.pow_le_pow_right p0 (by omega)
      omega
theorem BstG.congr {A B : Nat → Prop} {N : Nat} {r : Option Nat} (h : ∀ s, Rch p step s → (A s ↔ B s)) (b : BstG p step A N r) : BstG p step B N r := by
  rcases b with ⟨e, no⟩ | ⟨w, e, c, most⟩
  · exact .inl ⟨e, fun w c => no w (c.imp fun s hs => (h s hs).mpr)⟩
  · exact .inr ⟨w, e, c.imp fun s hs => (h s hs).mp, fun w' c' => most w' (c'.imp fun s hs => (h s hs).mpr)⟩
end
end B5

/-! SetT: set of a tuple of ints. -/
namespace L2
open PySem PySem.Spec PyProof.Rows
/-- set(t), t a tuple of ints -/
def rSetTi (K : PySem.W.Frag) (w : World) : List V → Hp → VK → Prop := fun vs H Q => ∃ (a : Addr) (ns : List Int), vs = [V.ref a] ∧ SqT K H a (ns.map V.int) ∧ ns.length ≤ 1000 ∧
  ∀ (p : Addr) (n : Nat), H p = none → (∀ l : List Int, (∀ x ∈ ns, x ∈ l) → n ≤ l.length) → Q (.ref p) (upd H p (SetO w p (fun j => decide (j ∈ ns)) n))
theorem cr_setTi {X : Cx} (hc : X.calm = true) : CallR X (.type "set") (rSetTi X.K X.w) := by
  intro pins s σ H vs us Q I r h
  obtain ⟨a, ns, rfl, hs, few, q⟩ := h
  rw [Vals.ref1 r]
  obtain ⟨its, rv, pt, hz⟩ := I.tuple hs
  refine call_set_tupI ns (I.ok.hd hc) (show s.heap.IsTuple a its.toArray from pt) (ints_of_vals rv) (by unfold scanBound; omega) fun g tk c R le k => ?_
  exact ⟨.ref s.heap.objs.size, _, I.laid (t' := tk) (o := SetO X.w s.heap.objs.size (fun j => decide (j ∈ ns)) c) k (Nat.le_refl _) (setO_new R), rfl, q _ _ (I.hok.fresh (Nat.le_refl _)) fun l hl => setR_le R hl⟩
end L2

/-! ReprB: repr of a bool. -/
namespace L2
open PySem PySem.Spec PyProof.Rows
def rReprB : List V → Hp → VK → Prop := fun xs H Q => ∃ b : Bool, xs = [.bl b] ∧ Q (.str (if b then "True" else "False")) H
theorem cr_reprB {X : Cx} : CallR X (.builtin "repr") rReprB := by
  intro pins s σ H xs us Q I r h
  obtain ⟨b, rfl, q⟩ := h
  cases r with
  | cons r rr =>
    cases rr
    cases r
    exact PySem.P.repr_of_bool ⟨.str _, H, I.tok _, ⟨_, rfl⟩, q⟩
end L2

namespace K72
open PySem L2 Gd B5 NdefX
abbrev sLaw : Stmt := top 38
abbrev NLaw : List Str := ["_law_script", "_law_pen_here", "_law_p", "_law_moves", "_law_worths", "_law_machine_here", "_law_many", "_law_layers_here", "_law_values", "_law_value", "_law_wanted", "_law_sizes", "_law_again", "_law_due", "_law_state", "_law_size"]
def spLaw (K : PySem.W.Frag) (P0 : Addr) : Sp := fun vs H Q _ => ∃ (a : Addr) (ns : List Int), vs = [.ref a] ∧ SqL K H a (ns.map V.int) ∧ H P0 = some (.tbl #[]) ∧ ∀ H', Q (.bl true) H'
theorem scLaw : FnScope NLaw ["_law_script"] (defScope sLaw) := ⟨rfl, rfl, rfl, by decide +kernel, rfl, by decide +kernel, by decide +kernel⟩
abbrev TT (P0 : Addr) : List NTab := [(P0, fun _ _ => qGb)]
theorem tabsN_off {T : List NTab} {H H' : Hp} {d : Addr} {kvs : List (Key × V)} (t : TabsN T H) (of : Off d H H') (hd : H d = some (.dK kvs)) : TabsN T H' := fun p hp => by
  obtain ⟨ps, h1, h2, h3⟩ := t p hp
  refine ⟨ps, of _ _ h1 (fun e => by rw [e, hd] at h1; cases h1), h2, fun pos cv hc => ?_⟩
  obtain ⟨c, e1, e2⟩ := h3 pos cv hc
  refine ⟨c, e1, of _ _ e2 (fun e => ?_)⟩
  rw [e, hd] at e2
  have e3 := Option.some.inj e2
  unfold LamX.CodeO at e3
  cases e3
theorem PlT.ext {K : PySem.W.Frag} {H H' : Hp} {M W : Addr} {rs : List V} {p : Nat} {dss : List (List Int)} {ws : List Int} (h : PlT K H M W rs p dss ws) (e : LamX.ExtN H H') : PlT K H' M W rs p dss ws :=
  ⟨e _ _ h.hM (fun _ z => nomatch z), pairT_ext e h.rows, e _ _ h.hW (fun _ z => nomatch z), h.good, h.few⟩
theorem mat_ext {K : PySem.W.Frag} {H H' : Hp} {C a : Addr} {p : Int} {dss : List (List Int)} {ws : List Int} (e : LamX.ExtN H H') (h : MAt K H C a p dss ws) : MAt K H' C a p dss ws :=
  let ⟨dx, t, u, xs, h1, h2, h3, h4⟩ := h; ⟨dx, t, u, xs, e _ _ h1 (fun _ z => nomatch z), sqT_ext e h2, pairT_ext e h3, sqT_ext e h4⟩
theorem PlT.sq {K : PySem.W.Frag} {H : Hp} {M W : Addr} {rs : List V} {p : Nat} {dss : List (List Int)} {ws : List Int} (h : PlT K H M W rs p dss ws) : Paired (fun x ds => ∃ b, x = V.ref b ∧ Sq K H b (ds.map V.int)) rs dss :=
  paired_imp (fun _ _ ⟨b, e, s⟩ => ⟨b, e, .inr s⟩) h.rows
theorem pick_pr {x : V} (h : x ∈ [V.int 2, .int 3, .int 5, .int 7]) : ∃ p : Nat, x = .int p ∧ isPr p = true := by
  have : x = .int 2 ∨ x = .int 3 ∨ x = .int 5 ∨ x = .int 7 := by simpa using h
  rcases this with rfl | rfl | rfl | rfl
  · exact ⟨2, rfl, by decide⟩
  · exact ⟨3, rfl, by decide⟩
  · exact ⟨5, rfl, by decide⟩
  · exact ⟨7, rfl, by decide⟩
/-- what the law holds while it goes through its values -/
structure Lw (K : PySem.W.Frag) (T : List NTab) (C : Addr) (H : Hp) (M W a L : Addr) (rs : List V) (p : Nat) (dss : List (List Int)) (ws : List Int) (as : List Addr) (ls : List (List Nat)) : Prop where
  tab : TabsN T H
  pl : PlT K H M W rs p dss ws
  mat : MAt K H C a p dss ws
  hL : H L = some (.lst (as.map V.ref))
  pas : Paired (LisN H) as ls
theorem Lw.ext {K : PySem.W.Frag} {T : List NTab} {C : Addr} {H H' : Hp} {M W a L : Addr} {rs : List V} {p : Nat} {dss : List (List Int)} {ws : List Int} {as : List Addr} {ls : List (List Nat)} (h : Lw K T C H M W a L rs p dss ws as ls) (e : LamX.ExtN H H') (tb : TabsN T H') : Lw K T C H' M W a L rs p dss ws as ls :=
  ⟨tb, h.pl.ext e, mat_ext e h.mat, e _ _ h.hL (fun _ z => nomatch z), paired_imp (fun b l (q : LisN H b l) => e _ _ q (fun _ z => nomatch z)) h.pas⟩
theorem Lw.more {K : PySem.W.Frag} {T : List NTab} {C : Addr} {H H' : Hp} {M W a L : Addr} {rs : List V} {p : Nat} {dss : List (List Int)} {ws : List Int} {as : List Addr} {ls : List (List Nat)} (h : Lw K T C H M W a L rs p dss ws as ls) (m : More H H') : Lw K T C H' M W a L rs p dss ws as ls := h.ext (.of m) (h.tab.ext m)
theorem Lw.off {K : PySem.W.Frag} {T : List NTab} {C : Addr} {H H' : Hp} {M W a L d : Addr} {rs : List V} {p : Nat} {dss : List (List Int)} {ws : List Int} {as : List Addr} {ls : List (List Nat)} {kvs : List (Key × V)} (h : Lw K T C H M W a L rs p dss ws as ls) (o : Off d H H') (hd : H d = some (.dK kvs)) : Lw K T C H' M W a L rs p dss ws as ls := by
  have st : ∀ b u, H b = some u → (∀ kvs, u ≠ .dK kvs) → H' b = some u := fun b u e no => o b u e fun z => by rw [z, hd] at e; exact no _ (Option.some.inj e).symm
  have sq : ∀ {b xs}, SqT K H b xs → SqT K H' b xs := fun {b xs} s => sqT_off hd (fun _ z => nomatch z) (fun _ _ z => nomatch z) o s
  obtain ⟨dx, t, u, xs, h1, h2, h3, h4⟩ := h.mat
  exact ⟨tabsN_off h.tab o hd, ⟨st _ _ h.pl.hM (fun _ z => nomatch z), paired_imp (fun _ _ ⟨b, e, s⟩ => ⟨b, e, sq s⟩) h.pl.rows, st _ _ h.pl.hW (fun _ z => nomatch z), h.pl.good, h.pl.few⟩,
    ⟨dx, t, u, xs, st _ _ h1 (fun _ z => nomatch z), sq h2, paired_imp (fun _ _ ⟨b, e, s⟩ => ⟨b, e, sq s⟩) h3, sq h4⟩, st _ _ h.hL (fun _ z => nomatch z), paired_imp (fun b l (q : LisN H b l) => st _ _ q (fun _ z => nomatch z)) h.pas⟩
/-- the greatest one is one alone -/
theorem maxO_one {E : Nat → Prop} {r r' : Option Nat} (h : MaxO E r) (h' : MaxO E r') : r = r' := by
  rcases h with ⟨rfl, no⟩ | ⟨m, rfl, mm⟩
  · rcases h' with ⟨rfl, _⟩ | ⟨m', rfl, mm'⟩
    · rfl
    · exact absurd mm'.1 (no m')
  · rcases h' with ⟨rfl, no⟩ | ⟨m', rfl, mm'⟩
    · exact absurd mm.1 (no m)
    · have := mm.2 _ mm'.1
      have := mm'.2 _ mm.1
      have : m = m' := by omega
      rw [this]
section
variable {P : Program} {w : World} {K : PySem.W.Frag} {mg : Str → Option Value} {base : Heap}
theorem ok_law {f P0 : Addr} {kV doc pm ct oc cdv : Value} {an od : Option Addr} {osl : Array (Option Value)} {g0 g1 g2 g3 g4 g5 g6 g7 g8 gI C CN CR CU : Addr} {d0 d1 d2 d3 d4 d5 d6 d7 d8 dI' : FuncData}
    (lk : K.lookup f = some ⟨oc, od, .func (PySem.W.fnOf "law" "law" (defArgs sLaw) (defBody sLaw) (defScope sLaw) .none kV doc pm an cdv ct), osl⟩)
    (hcd : PySem.W.codeIn K cdv "law" = true) (B : Blt mg) (Z : McC K mg C) (zSorted : mg "sorted" = none) (zSet : mg "set" = none)
    (M : Mk K C gI) (bI : Binds K dI' ["self", "p", "moves", "worths"] []) (GI : FnOk P w K mg base (L2.CX P w) 5 gI dI' ["self", "p", "moves", "worths"] (spMI K C CN CR CU))
    (Pe : Cl K mg "_law_pen" sPen ["_law_script"] g0 d0) (Dr : Cl K mg "_law_draw" sDraw ["_law_pen_here", "_law_many"] g1 d1) (Pi : Cl K mg "_law_pick" sPick ["_law_pen_here", "_law_some"] g2 d2)
    (Mc : Cl K mg "_law_machine" sMac ["_law_pen_here", "_law_p"] g3 d3) (G3 : FnOk P w K mg base CX0 4 g3 d3 ["_law_pen_here", "_law_p"] (spMac K))
    (La : Cl K mg "_law_layers" sLay ["_law_moves", "_law_many"] g4 d4) (G4 : FnOk P w K mg base CX0 1 g4 d4 ["_law_moves", "_law_many"] (spLay K))
    (It : Cl K mg "_law_is_there" sIt ["_law_moves", "_law_layers_here", "_law_wanted", "_law_size"] g5 d5) (G5 : FnOk P w K mg base CX0 1 g5 d5 ["_law_moves", "_law_layers_here", "_law_wanted", "_law_size"] (spIt K))
    (Be : Cl K mg "_law_best" sBs ["_law_moves", "_law_layers_here", "_law_wanted", "_law_many", "_law_is_least"] g6 d6) (G6 : FnOk P w K mg base CX0 2 g6 d6 ["_law_moves", "_law_layers_here", "_law_wanted", "_law_many", "_law_is_least"] (spBsG K))
    (Ag : Cl K mg "comes_again" sAg ["machine", "value"] g7 d7) (G7 : FnOk P w K mg base CX0 5 g7 d7 ["machine", "value"] (spAg K C (TT P0)))
    (Ls : Cl K mg "last" sLa ["machine", "value"] g8 d8) (G8 : FnOk P w K mg base CX0 5 g8 d8 ["machine", "value"] (spLa K C (TT P0))) :
    FnG P w K mg base CX0 7 f (PySem.W.fnOf "law" "law" (defArgs sLaw) (defBody sLaw) (defScope sLaw) .none kV doc pm an cdv ct) ["_law_script"] (spLaw K P0) := by
  have G0 : FnOk P w K mg base CX0 1 g0 d0 ["_law_script"] (spPen K) := ok_pen Pe.fn B.int_ B.list_
  have G1 : FnOk P w K mg base CX0 1 g1 d1 ["_law_pen_here", "_law_many"] spDraw := ok_draw Dr.fn B.int_ B.len_
  have G2 : FnOk P w K mg base CX0 2 g2 d2 ["_law_pen_here", "_law_some"] (spPick K) := ok_pick Pi.fn Dr.fn Dr.b Dr.g B.int_ B.len_
  refine fnG_of lk hcd scLaw (fun vs H Q E h => ?_) (fun A outer s H vs Q E hgd hr h => ?_)
  · obtain ⟨a, ns, rfl, _⟩ := h
    rfl
  · obtain ⟨sa, ns, rfl, hS, hP0, fin⟩ := h
    have hr1 : Room 1 _ := hr.mono (by decide)
    have hr2 : Room 2 _ := hr.mono (by decide)
    have hr4 : Room 4 _ := hr.mono (by decide)
    have hr5 : Room 5 _ := hr.mono (by decide)
    have hr6 : Room 6 _ := hr.mono (by decide)
    have hu64 := hr.units
    suffices hh : ∃ t, PSs (cxOf CX0 P w K mg base NLaw "law" (defScope sLaw) f cdv A outer s H E).nox (defBody sLaw) t ∧ t { nx := fun _ H' => Q .non H', rt := Q } (L2.start NLaw [.ref sa]) H by
      obtain ⟨t, d, q⟩ := hh
      exact ⟨t, d.nox, q⟩
    refine ⟨_, Evl.pss_cut (ps_set (i := 1) scLaw.nd rfl (Or.inl rfl) (pe_call G0 hr1 rfl Pe.g Pe.k Pe.b .nil pass0 (pa_cons (pv 0) pa_nil)))
      (Evl.pss_cut (ps_set (i := 2) scLaw.nd rfl (Or.inl rfl) (pe_call G2 hr2 rfl Pi.g Pi.k Pi.b .nil pass0 (pa_cons (pv 1) (pa_cons (pe_lst (pa_cons pe_int (pa_cons pe_int (pa_cons pe_int (pa_cons pe_int pa_nil))))) pa_nil))))
      (Evl.pss_cut (ps_asg (pe_call G3 hr4 rfl Mc.g Mc.k Mc.b .nil pass0 (pa_cons (pv 1) (pa_cons (pv 2) pa_nil))) (pg_tup (by rfl) (pgs_cons (pg_name (i := 3) scLaw.nd rfl (Or.inr rfl)) (pgs_cons (pg_name (i := 4) scLaw.nd rfl (Or.inr rfl)) pgs_nil))))
      (Evl.pss_cut (ps_par (i := 5) (j := 6) rfl scLaw.nd rfl rfl (by decide) rfl rfl (pa_cons (pe_make M GI hr6 rfl Z.g bI .nil (passes_call LamX.takes0 (fun _ _ _ _ h => h)) (pa_cons (pv 2) (pa_cons (pv 3) (pa_cons (pv 4) pa_nil)))) (pa_cons (pe_callB call_len_seq (by rfl) B.len_ PySem.boot_len (pa_cons (pv 3) pa_nil)) pa_nil)) (by rfl))
      (Evl.pss_cut (ps_asg (pe_tup (pa_cons (pe_call G4 hr1 rfl La.g La.k La.b .nil pass0 (pa_cons (pv 3) (pa_cons (pe_op op_add (pe_op op_mul pe_int (pv 6)) pe_int) pa_nil)))
            (pa_cons (pe_callB (cr_sortedSet rfl) (by rfl) zSorted (by decide +kernel) (pa_cons (pe_callTy (cr_setTi rfl) (by rfl) zSet (by decide +kernel) (pa_cons (pv 4) pa_nil)) pa_nil)) pa_nil)))
          (pg_tup (by rfl) (pgs_cons (pg_name (i := 7) scLaw.nd rfl (Or.inr rfl)) (pgs_cons (pg_name (i := 8) scLaw.nd rfl (Or.inl rfl)) pgs_nil))))
      (Evl.pss_cut (ps_for PassesOwn.never rfl (pi_list (pe_lst (pa_cons (pe_call G2 hr2 rfl Pi.g Pi.k Pi.b .nil pass0 (pa_cons (pv 1) (pa_cons (pv 8) pa_nil))) (pa_cons (pe_call G2 hr2 rfl Pi.g Pi.k Pi.b .nil pass0 (pa_cons (pv 1) (pa_cons (pv 8) pa_nil)))
            (pa_cons (pe_ix ix_tup (pv 4) pe_int (fun _ _ => rfl)) (pa_cons (pe_call G2 hr2 rfl Pi.g Pi.k Pi.b .nil pass0 (pa_cons (pv 1) (pa_cons (pe_lst (pa_cons pe_int (pa_cons pe_int (pa_cons (pe_un un_neg pe_int) pa_nil)))) pa_nil))) pa_nil)))))) (pg_name (i := 9) scLaw.nd rfl (Or.inr rfl))
        (Evl.pss_cut (ps_set (i := 10) scLaw.nd rfl (Or.inr rfl) (pe_lc (own := [("_law_state", 14)]) (g := gName 14) rfl scLaw.nd (pi_range1 (by rfl) B.range_ (pa_cons (pv 6) pa_nil))
            (blkOk_by (N := NLaw) (sc := defScope sLaw) (by decide +kernel)) (fun _ _ _ _ _ => pg_name (i := 14) scLaw.nd rfl (Or.inl rfl))
            (fun _ _ _ _ _ => pts_one (pt_cmpR (r := rEq) op_eq (pe_ix (r := rIxT K) ix_tup (pv 4) (pv 14) (fun _ _ => rfl)) (pv 9) rfl)) (fun _ _ _ _ _ => pv 14)))
        (Evl.pss_cut (ps_setLc (i := 11) (own := [("_law_size", 15)]) (g := gName 15) rfl scLaw.nd rfl rfl (sw_true rfl rfl rfl (by decide +kernel)) (pi_range1 (by rfl) B.range_ (pa_cons (pe_op op_add (pe_op op_mul pe_int (pv 6)) pe_int) pa_nil))
            (blkOk_by (N := NLaw) (sc := defScope sLaw) (by decide +kernel)) (fun _ _ _ _ _ => pg_name (i := 15) scLaw.nd rfl (Or.inl rfl))
            (fun _ _ _ _ _ => pts_one (pt_val (pe_call G5 hr1 rfl It.g It.k It.b .nil pass0 (pa_cons (pv 3) (pa_cons (pv 7) (pa_cons (pv 10) (pa_cons (pv 15) pa_nil))))))) (fun _ _ _ _ _ => pv 15))
        (Evl.pss_cut (ps_set (i := 12) scLaw.nd rfl (Or.inl rfl) (pe_and (pe_cmpR (op_neD hu64) (pv 11) (pe_lst pa_nil) (nomark _)) (pe_one (pe_cmpR op_gt (pe_ix ix_list (pv 11) (pe_un un_neg pe_int) (fun _ _ => rfl)) (pv 6) (nomark _)))))
        (pss_cons (ps_set (i := 13) scLaw.nd rfl (Or.inl rfl) pe_non)
        (Evl.pss_cut (ps_if (PW.pt (pw_and (pt_cmpR (op_neD hu64) (pv 11) (pe_lst pa_nil) (nomark _)) (pw_and1 (pt_not (pt_val (pv 12))))))
          (pss_one (ps_set (i := 13) scLaw.nd rfl (Or.inl rfl) (pe_call G6 hr2 rfl Be.g Be.k Be.b .nil pass0 (pa_cons (pv 3) (pa_cons (pv 7) (pa_cons (pv 10) (pa_cons (pe_ix ix_list (pv 11) (pe_un un_neg pe_int) (fun _ _ => rfl)) (pa_cons pe_bl pa_nil)))))))) pss_nil)
        (pss_one (ps_if (PW.pt (pw_or (pt_cmpR op_ne (pe_callB cr_reprB (by rfl) B.repr_ (by decide +kernel) (pa_cons (pe_call G7 hr5 rfl Ag.g Ag.k Ag.b .nil pass0 (pa_cons (pv 5) (pa_cons (pv 9) pa_nil))) pa_nil)) (pe_callB cr_reprB (by rfl) B.repr_ (by decide +kernel) (pa_cons (pv 12) pa_nil)) (nomark _))
            (pw_or1 (pt_cmpR op_ne (pe_call G8 hr5 rfl Ls.g Ls.k Ls.b .nil pass0 (pa_cons (pv 5) (pa_cons (pv 9) pa_nil))) (pv 13) (nomark _))))) (pss_one (ps_ret pe_bl)) pss_nil))))))))
      (pss_one (ps_ret pe_bl))))))), ?_⟩
    -- the pen, the base, the machine
    refine ⟨fun σ' H' => ∃ d cc, σ' = [some (.ref sa), some (.ref d), none, none, none, none, none, none, none, none, none, none, none, none, none, none] ∧ Pen H' d cc 0 ∧ TabsN (TT P0) H', ?_, ?_⟩
    · refine ⟨_, rfl, sa, ns, rfl, hS, fun H1 d cc pen fr nd => ⟨d, cc, rfl, pen, fun pq hpq => ?_⟩⟩
      obtain rfl | hpq := List.mem_cons.mp hpq
      · exact TabN.nil (fr _ _ hP0)
      · exact (List.not_mem_nil hpq).elim
    clear hS hP0
    rintro σ0 H0 ⟨d, cc, rfl, pen0, tab0⟩
    refine ⟨fun σ' H' => ∃ p : Nat, σ' = [some (.ref sa), some (.ref d), some (.int p), none, none, none, none, none, none, none, none, none, none, none, none, none] ∧ isPr p = true ∧ Pen H' d cc 1 ∧ TabsN (TT P0) H', ?_, ?_⟩
    · refine ⟨_, rfl, by show 4 ≤ sizeLine; decide, fun L hL => ?_⟩
      have m := new_more (o := .lst [V.int 2, .int 3, .int 5, .int 7]) hL
      obtain ⟨kvs, hd⟩ := (pen0.upd (o := .lst [V.int 2, .int 3, .int 5, .int 7]) hL).dk
      refine ⟨d, cc, L, 0, _, rfl, pen0.upd hL, upd_same, by show 0 < 4; decide, by show 4 ≤ 1000; decide, by decide, by decide, fun x H' hx dr => ?_⟩
      obtain ⟨p, rfl, pr⟩ := pick_pr hx
      exact ⟨p, rfl, pr, dr.pen, tabsN_off (tab0.ext m) (.dr dr) hd⟩
    clear pen0 tab0
    rintro σ1 H1 ⟨p, rfl, pr, pen1, tab1⟩
    obtain ⟨p2, p7⟩ := isPr_small pr
    refine ⟨fun σ' H' => ∃ (M' W : Addr) (rs : List V) (dss : List (List Int)) (ws : List Int) (n : Int), σ' = [some (.ref sa), some (.ref d), some (.int p), some (.ref M'), some (.ref W), none, none, none, none, none, none, none, none, none, none, none] ∧ Pen H' d cc n ∧ 1 ≤ n ∧ n ≤ 1002 ∧ TabsN (TT P0) H' ∧ PlT K H' M' W rs p dss ws ∧ dss.length ≤ 58 ∧ stdy dss ws = true, ?_, ?_⟩
    · obtain ⟨kvs, hd⟩ := pen1.dk
      refine ⟨_, rfl, _, rfl, d, cc, 1, p, rfl, pen1, by decide, by decide, pr, fun H' t M' W rs dss ws n' ht hM hp hW g st few pen' a1 a2 of => ?_⟩
      exact ⟨t, _, rfl, SqT.of ht, rfl, _, _, rfl, _, _, rfl, rfl, M', W, rs, dss, ws, n', rfl, pen', a1, by omega, tabsN_off tab1 of hd, ⟨hM, hp, hW, g, by omega⟩, few, st⟩
    clear pen1 tab1
    rintro σ2 H2 ⟨M', W, rs, dss, ws, n, rfl, pen2, n1, n2, tab2, pl2, few, sd⟩
    have g := pl2.good
    have dp : 0 < dss.length := List.length_pos_iff.mpr g.ne
    have rl : rs.length = dss.length := Paired.length pl2.rows
    have lws : ws.length = dss.length := g.len
    refine ⟨fun σ' H' => ∃ a, σ' = [some (.ref sa), some (.ref d), some (.int p), some (.ref M'), some (.ref W), some (.ref a), some (.int (dss.length : Nat)), none, none, none, none, none, none, none, none, none] ∧ More H2 H' ∧ MAt K H' C a p dss ws, ?_, ?_⟩
    · refine ⟨_, rfl, _, rfl, _, rfl, fun x dx hx hdx ne => ?_⟩
      have m4 : More H2 (upd (upd H2 dx (.own x)) x (.ins C dx [])) := fun b o e => by
        rw [upd_ne (ne_of_none e hx), upd_ne (ne_of_none e hdx)]
        exact e
      have pl4 := pl2.more m4
      refine ⟨x, dx, _, _, _, rfl, upd_same, .inr ⟨(p : Int), dss, ws, mk_ok g sd (.inr (SqT.of pl4.hM)) pl4.sq (.inr (SqT.of pl4.hW)), fun H5 of5 ma5 => ⟨rfl, ?_⟩⟩⟩
      have m25 : More H2 H5 := fun b o e => of5 _ _ (m4 _ _ e) (ne_of_none e hx)
      refine ⟨_, rfl, M', rs, rfl, .inr (SqT.of (m25 _ _ pl2.hM)), ?_⟩
      rw [rl]
      exact ⟨_, _, rfl, x, rfl, m25, ma5⟩
    rintro σ3 H3 ⟨a, rfl, m23, ma3⟩
    have pl3 := pl2.more m23
    have tab3 := tab2.ext m23
    have pen3 : Pen H3 d cc n := by
      obtain ⟨o1, h1⟩ := pen2.at
      obtain ⟨o2, h2⟩ := pen2.atc
      exact pen2.keep ((m23 _ _ h1).trans h1.symm) ((m23 _ _ h2).trans h2.symm)
    clear pl2 tab2 pen2 m23
    -- the layers, the values
    refine ⟨fun σ' H' => ∃ (L U : Addr) (as : List Addr) (ls : List (List Nat)) (us : List Int), σ' = [some (.ref sa), some (.ref d), some (.int p), some (.ref M'), some (.ref W), some (.ref a), some (.int (dss.length : Nat)), some (.ref L), some (.ref U), none, none, none, none, none, none, none] ∧ More H3 H' ∧ H' L = some (.lst (as.map V.ref)) ∧ Paired (LisN H') as ls ∧ ls.length = 2 * dss.length + 1 + 1 ∧ (∀ i l, ls[i]? = some l → LayN p (stepT dss) i l) ∧ H' U = some (.lst (us.map V.int)) ∧ 0 < us.length ∧ us.length ≤ 58, ?_, ?_⟩
    · refine ⟨_, rfl, _, rfl, _, _, rfl, rfl, .inl ⟨by decide, by decide⟩, _, _, rfl, rfl, M', rs, 2 * dss.length + 1, p, dss, ws, ?_, pl3.hM, pl3.rows, g, by omega, by omega, fun H4 L as ls m4 kL pas lls lay => ?_⟩
      · have : 2 * ((dss.length : Nat) : Int) + 1 = ((2 * dss.length + 1 : Nat) : Int) := by omega
        rw [← this]
        rfl
      have kW4 := m4 _ _ pl3.hW
      refine ⟨_, rfl, W, ws, rfl, SqT.of kW4, by omega, fun ps cnt hps hcnt => ?_⟩
      have hc := hcnt ws fun x hx => hx
      refine ⟨ps, _, cnt, rfl, upd_same, by omega, fun us U asc mem len hU => ?_⟩
      have mps := new_more (o := SetO (cxOf CX0 P w K mg base NLaw "law" (defScope sLaw) f cdv A outer s H E).nox.w ps (fun j => decide (j ∈ ws)) cnt) hps
      have mU := new_more (o := .lst (us.map V.int)) hU
      have kU : (upd (upd H4 ps (SetO (cxOf CX0 P w K mg base NLaw "law" (defScope sLaw) f cdv A outer s H E).nox.w ps (fun j => decide (j ∈ ws)) cnt)) U (.lst (us.map V.int))) U = some (.lst (us.map V.int)) := upd_same
      have m46 : More H4 (upd (upd H4 ps (SetO (cxOf CX0 P w K mg base NLaw "law" (defScope sLaw) f cdv A outer s H E).nox.w ps (fun j => decide (j ∈ ws)) cnt)) U (.lst (us.map V.int))) := fun b o e => mU _ _ (mps _ _ e)
      generalize upd (upd H4 ps (SetO (cxOf CX0 P w K mg base NLaw "law" (defScope sLaw) f cdv A outer s H E).nox.w ps (fun j => decide (j ∈ ws)) cnt)) U (.lst (us.map V.int)) = H6 at kU m46 ⊢
      refine ⟨by show 2 ≤ sizeLine; decide, fun t ht => ?_⟩
      have mt := new_more (o := .tup [V.ref L, V.ref U]) ht
      have m47 : More H4 (upd H6 t (.tup [V.ref L, V.ref U])) := fun b o e => mt _ _ (m46 _ _ e)
      refine ⟨t, _, rfl, SqT.of upd_same, rfl, _, _, rfl, _, _, rfl, rfl, L, U, as, ls, us, rfl, fun b o e => m47 _ _ (m4 _ _ e), m47 _ _ kL, paired_imp (fun b l (q : LisN H4 b l) => m47 _ _ q) pas, lls, lay, mt _ _ kU, ?_, by omega⟩
      have h0 : ws.getD 0 0 ∈ us := by
        rw [mem, decide_eq_true_iff]
        exact List.mem_of_getElem? (at_getD (by omega) 0)
      exact List.length_pos_of_mem h0
    rintro σ4 H4 ⟨L, U, as, ls, us, rfl, m34, kL, pas, lls, lay, kU, us0, us9⟩
    have lw4 : Lw K (TT P0) C H4 M' W a L rs p dss ws as ls := ⟨tab3.ext m34, pl3.more m34, ma3.more m34, kL, pas⟩
    have pen4 : Pen H4 d cc n := by
      obtain ⟨o1, h1⟩ := pen3.at
      obtain ⟨o2, h2⟩ := pen3.atc
      exact pen3.keep ((m34 _ _ h1).trans h1.symm) ((m34 _ _ h2).trans h2.symm)
    clear pl3 tab3 pen3 m34 ma3 kL pas
    obtain ⟨kvs, hd⟩ := pen4.dk
    have Ud : U ≠ d := fun e => by rw [e, hd] at kU; cases kU
    have inI : ∀ {x : V} {us : List Int}, x ∈ us.map V.int → ∃ v, x = .int v := fun {x us} hx => by
      obtain ⟨v, _, rfl⟩ := List.mem_map.mp hx
      exact ⟨v, rfl⟩
    -- through the values
    refine ⟨fun σ' H' => True, ?_, ?_⟩
    · refine ⟨_, rfl, _, rfl, d, cc, U, n, _, rfl, pen4, kU, by rw [List.length_map]; exact us0, by rw [List.length_map]; omega, by omega, by omega, fun x1 H5 hx1 dr5 => ?_⟩
      obtain ⟨v1, rfl⟩ := inI hx1
      have o5 : Off d H4 H5 := .dr dr5
      have pen5 := dr5.pen
      refine ⟨_, rfl, _, rfl, d, cc, U, n + 1, _, rfl, pen5, o5 _ _ kU Ud, by rw [List.length_map]; exact us0, by rw [List.length_map]; omega, by omega, by omega, fun x2 H6 hx2 dr6 => ?_⟩
      obtain ⟨v2, rfl⟩ := inI hx2
      have o6 : Off d H4 H6 := o5.trans (.dr dr6)
      have pen6 := dr6.pen
      have lw6 := lw4.off o6 hd
      refine ⟨_, rfl, W, _, 0, _, rfl, rfl, SqT.of lw6.pl.hW, atI_nat (j := 0) (at_map (at_getD (by omega) 0)), ?_⟩
      refine ⟨_, rfl, _, rfl, by show 3 ≤ sizeLine; decide, fun L3 hL3 => ?_⟩
      have m7 := new_more (o := .lst [V.int 1, .int 99, .int (-1)]) hL3
      refine ⟨d, cc, L3, n + 1 + 1, _, rfl, pen6.upd hL3, upd_same, by show 0 < 3; decide, by show 3 ≤ 1000; decide, by omega, by omega, fun x4 H8 hx4 dr8 => ?_⟩
      obtain ⟨v4, rfl⟩ : ∃ v, x4 = .int v := by
        have : x4 = .int 1 ∨ x4 = .int 99 ∨ x4 = .int (-1) := by simpa using hx4
        rcases this with rfl | rfl | rfl <;> exact ⟨_, rfl⟩
      have o8 : Off d H4 H8 := o6.trans ((Off.of m7).trans (.dr dr8))
      refine ⟨by show 4 ≤ sizeLine; decide, fun Lv hLv => ?_⟩
      have m9 := new_more (o := .lst [V.int v1, .int v2, .int (ws.getD 0 0), .int v4]) hLv
      have lw9 := (lw4.off o8 hd).more m9
      have kv : (upd H8 Lv (.lst [V.int v1, .int v2, .int (ws.getD 0 0), .int v4])) Lv = some (.lst ([v1, v2, ws.getD 0 0, v4].map V.int)) := upd_same
      generalize upd H8 Lv (.lst [V.int v1, .int v2, .int (ws.getD 0 0), .int v4]) = H9 at kv lw9 ⊢
      generalize [v1, v2, ws.getD 0 0, v4] = vals at kv
      clear lw4 pen4 pen5 pen6 lw6 o5 o6 o8 m7 m9 hx1 hx2 hx4 dr5 dr6 dr8 hLv hL3 kU hd Ud
      refine ⟨Lv, rfl, ⟨_, SqL.of kv⟩, for_list (K := K) (a := Lv) (xs := vals.map V.int) (fun i σ' H' => ∃ (z9 z10 z11 z12 z13 : Option V), σ' = [some (.ref sa), some (.ref d), some (.int p), some (.ref M'), some (.ref W), some (.ref a), some (.int (dss.length : Nat)), some (.ref L), some (.ref U), z9, z10, z11, z12, z13, none, none] ∧ Lw K (TT P0) C H' M' W a L rs p dss ws as ls ∧ H' Lv = some (.lst (vals.map V.int)))
        ⟨none, none, none, none, none, rfl, lw9, kv⟩ (fun i σ' H' _ ⟨_, _, _, _, _, _, _, h⟩ => SqL.of h) ?_ (fun _ _ _ => trivial)⟩
      rintro i y σ' G hy ⟨z9, z10, z11, z12, z13, rfl, lwG, kvG⟩
      obtain ⟨v, hv, rfl⟩ := map_at hy
      -- the states wanted
      refine ⟨fun σ' H' => ∃ (Wn : Addr) (wt : List Nat), σ' = [some (.ref sa), some (.ref d), some (.int p), some (.ref M'), some (.ref W), some (.ref a), some (.int (dss.length : Nat)), some (.ref L), some (.ref U), some (.int v), some (.ref Wn), z11, z12, z13, none, none] ∧ More G H' ∧ H' Wn = some (.lst (wt.map nV)) ∧ ∀ s, s ∈ wt ↔ s < dss.length ∧ valL ws s = v, ?_, ?_⟩
      · refine ⟨_, rfl, _, rfl, by omega, by omega, fun E2 hE2 => lc_range (lo := 0) (n := dss.length) (fun k H' => H' E2 = some (.lst (((List.range k).filter fun s => decide (valL ws s = v)).map nV)) ∧ More G H') ⟨upd_same, new_more hE2⟩ ?_ ?_⟩
        · rintro k G2 hk ⟨kE, m⟩
          rw [Int.zero_add]
          refine ⟨rfl, _, rfl, _, rfl, W, _, ((k : Nat) : Int), _, rfl, rfl, SqT.of (m _ _ lwG.pl.hW), atI_nat (at_map (at_getD (by omega) 0)), _, rfl, rfl, _, rfl, ?_⟩
          rw [deI, List.range_succ, List.filter_append]
          refine ite2 (fun hz => ?_) (fun hz => ?_)
          · refine ⟨_, rfl, _, kE, ?_, ?_, More.at m hE2⟩
            · rw [List.length_map]
              have := List.length_filter_le (fun s => decide (valL ws s = v)) (List.range k)
              rw [List.length_range] at this
              exact small1000 (by omega)
            · rw [upd_same, show [k].filter (fun s => decide (valL ws s = v)) = [k] by simp; exact of_decide_eq_true hz, List.map_append]
              rfl
          · rw [show [k].filter (fun s => decide (valL ws s = v)) = [] by simp; exact fun z => hz (decide_eq_true z), List.append_nil]
            exact ⟨kE, m⟩
        · rintro G2 ⟨kE, m⟩
          refine ⟨E2, _, rfl, m, kE, fun s => ?_⟩
          rw [List.mem_filter, List.mem_range, decide_eq_true_iff]
      rintro σ5 G1 ⟨Wn, wt, rfl, mG1, kWn, hwt⟩
      have lw1 := lwG.more mG1
      have kv1 := mG1 _ _ kvG
      clear lwG kvG mG1
      have cl := good_cl g
      have iff1 : ∀ {N : Nat}, (∃ w, Cand p (stepT dss) (fun s => s ∈ wt) N w) ↔ ∃ w, Cand p (stepT dss) (fun s => valL ws s = v) N w := fun {N} =>
        ⟨fun ⟨w, c⟩ => ⟨w, c.imp fun s _ h => ((hwt s).mp h).2⟩, fun ⟨w, c⟩ => ⟨w, c.imp fun s hs h => (hwt s).mpr ⟨hs.below cl dp, h⟩⟩⟩
      -- the sizes
      refine ⟨fun σ' H' => ∃ (Z : Addr) (sz : List Nat), σ' = [some (.ref sa), some (.ref d), some (.int p), some (.ref M'), some (.ref W), some (.ref a), some (.int (dss.length : Nat)), some (.ref L), some (.ref U), some (.int v), some (.ref Wn), some (.ref Z), z12, z13, none, none] ∧ More G1 H' ∧ H' Z = some (.lst (sz.map nV)) ∧ sz.Pairwise (· < ·) ∧ ∀ N, N ∈ sz ↔ N < 2 * dss.length + 2 ∧ ∃ w, Cand p (stepT dss) (fun s => valL ws s = v) N w, ?_, ?_⟩
      · have e2 : 2 * ((dss.length : Nat) : Int) + 2 = ((2 * dss.length + 2 : Nat) : Int) := by omega
        refine ⟨_, rfl, _, _, rfl, rfl, .inl ⟨by decide, by decide⟩, _, _, rfl, rfl, _, rfl, ?_⟩
        show _ ∧ _ ∧ _
        rw [e2]
        refine ⟨by omega, by omega, fun E3 hE3 => lc_range (lo := 0) (n := 2 * dss.length + 2) (fun k H' => ∃ sz : List Nat, H' E3 = some (.lst (sz.map nV)) ∧ sz.length ≤ k ∧ sz.Pairwise (· < ·) ∧ (∀ N, N ∈ sz ↔ N < k ∧ ∃ w, Cand p (stepT dss) (fun s => valL ws s = v) N w) ∧ More G1 H') ⟨[], upd_same, Nat.le_refl _, .nil, fun N => by simp, new_more hE3⟩ ?_ ?_⟩
        · rintro k G2 hk ⟨sz, kE, lz, asc, mem, m⟩
          rw [Int.zero_add]
          have lw2 := lw1.more m
          refine ⟨rfl, _, rfl, _, rfl, _, rfl, _, rfl, M', L, Wn, rs, 2 * dss.length + 1, p, k, dss, ws, as, ls, wt, rfl, lw2.pl.hM, lw2.pl.rows, g, by omega, lw2.hL, lw2.pas, lls, lay, m _ _ kWn, by omega, by omega, fun G3 b m3 hb => ⟨_, rfl, ?_⟩⟩
          rw [iff1] at hb
          refine ite2 (fun hz => ?_) (fun hz => ?_)
          · refine ⟨_, rfl, _, m3 _ _ kE, by rw [List.length_map]; exact small1000 (by omega), sz ++ [k], by rw [upd_same, List.map_append]; rfl, by rw [List.length_append]; show sz.length + 1 ≤ _; omega, ?_, fun N => ?_, More.at (fun b o e => m3 _ _ (m _ _ e)) hE3⟩
            · refine List.pairwise_append.mpr ⟨asc, List.pairwise_singleton .., fun x hx y hy => ?_⟩
              have : y = k := by simpa using hy
              have := ((mem x).mp hx).1
              omega
            · rw [List.mem_append, mem]
              constructor
              · rintro (⟨h1, h2⟩ | h)
                · exact ⟨by omega, h2⟩
                · have : N = k := by simpa using h
                  subst this
                  exact ⟨by omega, hb.mp hz⟩
              · rintro ⟨h1, h2⟩
                by_cases q : N = k
                · exact .inr (by simp [q])
                · exact .inl ⟨by omega, h2⟩
          · refine ⟨sz, m3 _ _ kE, by omega, asc, fun N => ?_, fun b o e => m3 _ _ (m _ _ e)⟩
            rw [mem]
            constructor
            · rintro ⟨h1, h2⟩
              exact ⟨by omega, h2⟩
            · rintro ⟨h1, h2⟩
              by_cases q : N = k
              · subst q
                exact absurd (hb.mpr h2) hz
              · exact ⟨by omega, h2⟩
        · rintro G2 ⟨sz, kE, _, asc, mem, m⟩
          exact ⟨E3, sz, rfl, m, kE, asc, mem⟩
      rintro σ6 G2 ⟨Z, sz, rfl, m12, kZ, asc, mem⟩
      have lw2 := lw1.more m12
      have kv2 := m12 _ _ kv1
      have kWn2 := m12 _ _ kWn
      clear lw1 kv1 m12 kWn
      have st : ∀ s, Rch p (stepT dss) s → valL ws s = valL ws (stepT dss s 0) := fun s hs => (stdy_iff g.len).mp sd s (hs.below cl dp)
      have key : (sz = [] ∧ ¬ Ends dss.length p (stepT dss) (valL ws) v ∧ MaxO (Tell p (stepT dss) (valL ws) v) none) ∨
          ∃ l N, sz = l ++ [N] ∧ N < 2 * dss.length + 2 ∧ (dss.length < N ↔ Ends dss.length p (stepT dss) (valL ws) v) ∧ (N ≤ dss.length → ∀ r, BstG p (stepT dss) (fun s => valL ws s = v) N r → MaxO (Tell p (stepT dss) (valL ws) v) r) := by
        by_cases z : sz = []
        · subst z
          exact .inl ⟨rfl, sizes_none cl dp st fun N lt c => List.not_mem_nil ((mem N).mpr ⟨lt, c⟩)⟩
        · obtain ⟨l, N, rfl⟩ : ∃ l N, sz = l ++ [N] := ⟨sz.dropLast, sz.getLast z, (List.dropLast_concat_getLast z).symm⟩
          obtain ⟨lt, c⟩ := (mem N).mp (by simp)
          obtain ⟨h1, h2⟩ := sizes_last (by omega) cl dp st lt c fun M hM cM => by
            rcases List.mem_append.mp ((mem M).mpr ⟨hM, cM⟩) with h | h
            · exact Nat.le_of_lt ((List.pairwise_append.mp asc).2.2 M h N (by simp))
            · have : M = N := by simpa using h
              omega
          exact .inr ⟨l, N, rfl, lt, h1, h2⟩
      -- again
      refine ⟨fun σ' H' => ∃ ag : Bool, σ' = [some (.ref sa), some (.ref d), some (.int p), some (.ref M'), some (.ref W), some (.ref a), some (.int (dss.length : Nat)), some (.ref L), some (.ref U), some (.int v), some (.ref Wn), some (.ref Z), some (.bl ag), z13, none, none] ∧ More G2 H' ∧ (ag = true ↔ Ends dss.length p (stepT dss) (valL ws) v), ?_, ?_⟩
      · refine ⟨_, rfl, Nat.zero_le _, fun E4 hE4 => ?_⟩
        have m4 := new_more (o := .lst []) hE4
        have kZ4 := m4 _ _ kZ
        refine ⟨_, _, dp_L (SqL.of (nat_L kZ4)), dp_L (l := []) (SqL.of upd_same), shaped_L _, shaped_L [], ?_⟩
        rw [eqv_L]
        rcases key with ⟨rfl, ne, _⟩ | ⟨l, N, rfl, lt, h1, _⟩
        · refine ⟨false, rfl, iteF ⟨false, rfl, m4, ?_⟩⟩
          exact ⟨fun h => (nomatch h), fun h => absurd h ne⟩
        · refine ⟨true, ?_, iteT ⟨_, rfl, _, rfl, Z, _, _, _, rfl, rfl, SqL.of kZ4, (by rw [List.map_append]; exact atI_last _ _), _, rfl, _, _, rfl, rfl, _, rfl, m4, ?_⟩⟩
          · rw [decide_eq_false (fun z => by simp at z)]
            rfl
          · rw [← h1, decide_eq_true_iff]
            omega
      rintro σ7 G3 ⟨ag, rfl, m23, hag⟩
      have lw3 := lw2.more m23
      have kv3 := m23 _ _ kv2
      have kWn3 := m23 _ _ kWn2
      have kZ3 := m23 _ _ kZ
      clear lw2 kv2 kWn2 kZ m23
      -- what is due
      refine ⟨fun σ' H' => ∃ r : Option Nat, σ' = [some (.ref sa), some (.ref d), some (.int p), some (.ref M'), some (.ref W), some (.ref a), some (.int (dss.length : Nat)), some (.ref L), some (.ref U), some (.int v), some (.ref Wn), some (.ref Z), some (.bl ag), (oV r), none, none] ∧ More G3 H' ∧ ((Ends dss.length p (stepT dss) (valL ws) v ∧ r = none) ∨ (¬ Ends dss.length p (stepT dss) (valL ws) v ∧ MaxO (Tell p (stepT dss) (valL ws) v) r)), ?_, ?_⟩
      · refine ⟨_, rfl, Nat.zero_le _, fun E4 hE4 => ?_⟩
        have m4 := new_more (o := .lst []) hE4
        have kZ4 := m4 _ _ kZ3
        refine ⟨_, _, dp_L (SqL.of (nat_L kZ4)), dp_L (l := []) (SqL.of upd_same), shaped_L _, shaped_L [], ?_⟩
        rw [eqv_L]
        rcases key with ⟨rfl, ne, mx⟩ | ⟨l, N, rfl, lt, h1, h2⟩
        · exact ⟨false, rfl, iteF (iteF ⟨none, rfl, m4, .inr ⟨ne, mx⟩⟩)⟩
        · refine ⟨true, by rw [decide_eq_false (fun z => by simp at z)]; rfl, iteT ⟨_, rfl, _, rfl, ?_⟩⟩
          cases ag with
          | true => exact iteF ⟨none, rfl, m4, .inl ⟨hag.mp rfl, rfl⟩⟩
          | false =>
            have ne : ¬ Ends dss.length p (stepT dss) (valL ws) v := fun h => by cases hag.mpr h
            have le : N ≤ dss.length := Nat.le_of_not_lt fun h => ne (h1.mp h)
            have lw4 := lw3.more m4
            refine iteT ⟨_, rfl, _, rfl, _, rfl, _, rfl, _, rfl, Z, _, _, _, rfl, rfl, SqL.of kZ4, (by rw [List.map_append]; exact atI_last _ _), M', L, Wn, rs, 2 * dss.length + 1, p, N, dss, ws, as, ls, wt, rfl, lw4.pl.hM, lw4.pl.rows, g, by omega, lw4.hL, lw4.pas, lls, lay, m4 _ _ kWn3, by omega, by omega, fun H5 r m5 b => ⟨r, rfl, fun b o e => m5 _ _ (m4 _ _ e), .inr ⟨ne, h2 le r (b.congr fun s hs => ?_)⟩⟩⟩
            rw [hwt]
            exact ⟨fun h => h.2, fun h => ⟨hs.below cl dp, h⟩⟩
      rintro σ8 G4 ⟨r, rfl, m34, hr'⟩
      have lw4 := lw3.more m34
      have kv4 := m34 _ _ kv3
      clear lw3 kv3 m34 kWn3 kZ3
      -- the program's answers
      refine ⟨_, rfl, _, rfl, a, p, dss, ws, v, rfl, lw4.mat, g, by omega, lw4.tab, fun G5 b e5 tab5 hb => ?_⟩
      have lw5 := lw4.ext e5 tab5
      have kv5 := e5 _ _ kv4 (fun _ z => nomatch z)
      have eb : b = ag := by
        rw [Bool.eq_iff_iff]
        exact hb.trans hag.symm
      subst eb
      refine ⟨b, rfl, _, rfl, b, rfl, rfl, _, rfl, ?_⟩
      rw [decide_eq_true rfl]
      refine iteF ⟨_, rfl, _, rfl, a, p, dss, ws, v, rfl, lw5.mat, g, by omega, sd, lw5.tab, fun G6 r' e6 tab6 hr6 => ?_⟩
      have er : r' = r := by
        rcases hr6 with ⟨h1, rfl⟩ | ⟨h1, h2⟩
        · rcases hr' with ⟨_, rfl⟩ | ⟨h3, _⟩
          · rfl
          · exact absurd h1 h3
        · rcases hr' with ⟨h3, _⟩ | ⟨_, h4⟩
          · exact absurd h3 h1
          · exact maxO_one h2 h4
      subst er
      refine ⟨_, rfl, by cases r' <;> rfl, _, rfl, ?_⟩
      rw [decide_eq_true rfl]
      exact iteF ⟨_, _, _, _, _, rfl, lw5.ext e6 tab6, e6 _ _ kv5 (fun _ z => nomatch z)⟩
    · rintro σ' H' _
      exact fin _
end
end K72

namespace K72
open PySem L2 Gd B5
/-! ### what the top has written -/
structure ErIn (K : PySem.W.Frag) (x : Str) (C : Addr) : Prop where
  aC : PySem.W.nsIn K mainGlobals x = some (some (.ref C))
  kC : PySem.W.keepIn K (.ref C) = true
  ga : PySem.W.findIn K (.ref C) "__getattribute__" = some (some (.builtin "BaseException.__getattribute__"))
  gg : PySem.W.findIn K (.ref C) "__getattr__" = some none
  be : PySem.W.subIn K (.ref C) (.type "BaseException") = some true
  hd : PySem.W.hasDictIn K C = true
structure IniIn (K : PySem.W.Frag) (q : Str) (st : Stmt) (C fI : Addr) (oc kV dc pm cd ct : Value) (od an : Option Addr) (sl : Array (Option Value)) (nm q' : Str) (N : Addr) (bs : List Value) (ce : Addr) (sn : List Str) (sub : List Value) (ab : Bool) (col : Option Bool) (dd : Option Addr) (m0 m1 m2 m3 m5 : Option Value) : Prop where
  xL : K.lookup C = some (excClassObj nm q' C N bs [.ref ce, .type "ValueError", .type "Exception", .type "BaseException", .type "object"] true sn sub ab col dd m0 m1 m2 m3 m5 "ValueError.__new__")
  sa : PySem.W.findIn K (.ref C) "__setattr__" = some (some (.builtin "object.__setattr__"))
  tC : PySem.W.typeIn K (.ref C) = some (.type "type")
  iC : PySem.W.findIn K (.ref C) "__init__" = some (some (.ref fI))
  tI : PySem.W.typeIn K (.ref fI) = some (.type "function")
  lI : K.lookup fI = some ⟨oc, od, .func (PySem.W.fnOf "__init__" q (defArgs st) (defBody st) (defScope st) .none kV dc pm an cd ct), sl⟩
  cI : PySem.W.codeIn K cd q = true
  kI : PySem.W.keepIn K (.ref fI) = true
theorem er_of {K : PySem.W.Frag} {h : Heap} {mg : Str → Option Value} (X : K.In h) (G : h.Ns mainGlobals mg) {x q : Str} {st : Stmt} {fs : List Str} {C fI : Addr} {oc kV dc pm cd ct : Value} {od an : Option Addr} {sl : Array (Option Value)} {nm q' : Str} {N : Addr} {bs : List Value} {ce : Addr} {sn : List Str} {sub : List Value} {ab : Bool} {col : Option Bool} {dd : Option Addr} {m0 m1 m2 m3 m5 : Option Value}
    (E : ErIn K x C) (I : IniIn K q st C fI oc kV dc pm cd ct od an sl nm q' N bs ce sn sub ab col dd m0 m1 m2 m3 m5) (no : ∀ g ∈ fs, PySem.W.findIn K (.ref C) g = some none)
    (b : ∀ (kV doc pm : Value) (an : Option Addr) (cdv ct : Value) (us : List Value), us.length = (("self" : Str) :: fs).length → bindArgs (PySem.W.fnOf "__init__" q (defArgs st) (defBody st) (defScope st) .none kV doc pm an cdv ct) ⟨us, []⟩ = pure ((("self" : Str) :: fs).zip us)) :
    Er K mg x q C fI fs st (PySem.W.fnOf "__init__" q (defArgs st) (defBody st) (defScope st) .none kV dc pm an cd ct) := by
  have F := fun_mk (st := st) I.lI I.cI I.kI
  exact ⟨⟨⟨nm, q', N, bs, _, sn, sub, ab, col, dd, m0, m1, m2, m3, m5, I.xL, by show PySem.HandSPX.refsVE [.type "ValueError", .type "Exception", .type "BaseException", .type "object"] = true; decide +kernel⟩, I.sa, E.be, I.tC, E.kC⟩, I.iC, I.tI, F, F.binds b, no, PySem.W.mg_of X G E.aC⟩
theorem all_mk {l : PySem.W.OpenLaw} {w : World} {K : PySem.W.Frag} {h : Heap} {mg : Str → Option Value} {fa gLaw CN CR CU C D ce c Pt : Addr} (X : K.In h) (G : h.Ns mainGlobals mg) (hfa : mg "law" = some (.ref fa))
    {i0 : Addr} {oc0 kV0 dc0 pm0 cd0 ct0 : Value} {od0 an0 : Option Addr} {sl0 : Array (Option Value)} {nm0 q0 : Str} {N0 : Addr} {bs0 : List Value} {sn0 : List Str} {sub0 : List Value} {ab0 : Bool} {col0 : Option Bool} {dd0 : Option Addr} {m00 m10 m20 m30 m50 : Option Value}
    {i1 : Addr} {oc1 kV1 dc1 pm1 cd1 ct1 : Value} {od1 an1 : Option Addr} {sl1 : Array (Option Value)} {nm1 q1 : Str} {N1 : Addr} {bs1 : List Value} {sn1 : List Str} {sub1 : List Value} {ab1 : Bool} {col1 : Option Bool} {dd1 : Option Addr} {m01 m11 m21 m31 m51 : Option Value}
    {i2 : Addr} {oc2 kV2 dc2 pm2 cd2 ct2 : Value} {od2 an2 : Option Addr} {sl2 : Array (Option Value)} {nm2 q2 : Str} {N2 : Addr} {bs2 : List Value} {sn2 : List Str} {sub2 : List Value} {ab2 : Bool} {col2 : Option Bool} {dd2 : Option Addr} {m02 m12 m22 m32 m52 : Option Value}
    {gf0 : Addr} {oodf0 oanf0 : Option Addr} {oslf0 : Array (Option Value)} {oocf0 okVf0 odcf0 opmf0 ocdf0 octf0 : Value}
    {gf1 : Addr} {oodf1 oanf1 : Option Addr} {oslf1 : Array (Option Value)} {oocf1 okVf1 odcf1 opmf1 ocdf1 octf1 : Value}
    {gf2 : Addr} {oodf2 oanf2 : Option Addr} {oslf2 : Array (Option Value)} {oocf2 okVf2 odcf2 opmf2 ocdf2 octf2 : Value}
    {gf3 : Addr} {oodf3 oanf3 : Option Addr} {oslf3 : Array (Option Value)} {oocf3 okVf3 odcf3 opmf3 ocdf3 octf3 : Value}
    {gf4 : Addr} {oodf4 oanf4 : Option Addr} {oslf4 : Array (Option Value)} {oocf4 okVf4 odcf4 opmf4 ocdf4 octf4 : Value}
    {gf5 : Addr} {oodf5 oanf5 : Option Addr} {oslf5 : Array (Option Value)} {oocf5 okVf5 odcf5 opmf5 ocdf5 octf5 : Value}
    {gf6 : Addr} {oodf6 oanf6 : Option Addr} {oslf6 : Array (Option Value)} {oocf6 okVf6 odcf6 opmf6 ocdf6 octf6 : Value}
    {gf7 : Addr} {oodf7 oanf7 : Option Addr} {oslf7 : Array (Option Value)} {oocf7 okVf7 odcf7 opmf7  octf7 : Value}
    {gf8 : Addr} {oodf8 oanf8 : Option Addr} {oslf8 : Array (Option Value)} {oocf8 okVf8 odcf8 opmf8 ocdf8 octf8 : Value}
    {gf9 : Addr} {oodf9 oanf9 : Option Addr} {oslf9 : Array (Option Value)} {oocf9 okVf9 odcf9 opmf9 ocdf9 octf9 : Value}
    {gf10 : Addr} {oodf10 oanf10 : Option Addr} {oslf10 : Array (Option Value)} {oocf10 okVf10 odcf10 opmf10 ocdf10 octf10 : Value}
    {gf11 : Addr} {oodf11 oanf11 : Option Addr} {oslf11 : Array (Option Value)} {oocf11 okVf11 odcf11 opmf11 ocdf11 octf11 : Value}
    {gf12 : Addr} {oodf12 oanf12 : Option Addr} {oslf12 : Array (Option Value)} {oocf12 okVf12 odcf12 opmf12 ocdf12 octf12 : Value}
    {gf13 : Addr} {oodf13 oanf13 : Option Addr} {oslf13 : Array (Option Value)} {oocf13 okVf13 odcf13 opmf13 ocdf13 octf13 : Value}
    {gf14 : Addr} {oodf14 oanf14 : Option Addr} {oslf14 : Array (Option Value)} {oocf14 okVf14 odcf14 opmf14 ocdf14 octf14 : Value}
    {gf15 : Addr} {oodf15 oanf15 : Option Addr} {oslf15 : Array (Option Value)} {oocf15 okVf15 odcf15 opmf15 ocdf15 octf15 : Value}
    {gf16 : Addr} {oodf16 oanf16 : Option Addr} {oslf16 : Array (Option Value)} {oocf16 okVf16 odcf16 opmf16 ocdf16 octf16 : Value}
    {gf17 : Addr} {oodf17 oanf17 : Option Addr} {oslf17 : Array (Option Value)} {oocf17 okVf17 odcf17 opmf17 ocdf17 octf17 : Value}
    {gf18 : Addr} {oodf18 oanf18 : Option Addr} {oslf18 : Array (Option Value)} {oocf18 okVf18 odcf18 opmf18 ocdf18 octf18 : Value}
    {gf19 : Addr} {oodf19 oanf19 : Option Addr} {oslf19 : Array (Option Value)} {oocf19 okVf19 odcf19 opmf19 ocdf19 octf19 : Value}
    {gf20 : Addr} {oodf20 oanf20 : Option Addr} {oslf20 : Array (Option Value)} {oocf20 okVf20 odcf20 opmf20 ocdf20 octf20 : Value}
    {gf21 : Addr} {oodf21 oanf21 : Option Addr} {oslf21 : Array (Option Value)} {oocf21 okVf21 odcf21 opmf21 ocdf21 octf21 : Value}
    {gf22 : Addr} {oodf22 oanf22 : Option Addr} {oslf22 : Array (Option Value)} {oocf22 okVf22 odcf22 opmf22 ocdf22 octf22 : Value}
    {gf23 : Addr} {oodf23 oanf23 : Option Addr} {oslf23 : Array (Option Value)} {oocf23 okVf23 odcf23 opmf23 ocdf23 octf23 : Value}
    {gf24 : Addr} {oodf24 oanf24 : Option Addr} {oslf24 : Array (Option Value)} {oocf24 okVf24 odcf24 opmf24 ocdf24 octf24 : Value}
    {gm0_0 : Addr} {oodm0_0 oanm0_0 : Option Addr} {oslm0_0 : Array (Option Value)} {oocm0_0 okVm0_0 odcm0_0 opmm0_0 ocdm0_0 octm0_0 : Value}
    {oodF oanF : Option Addr} {oslF : Array (Option Value)} {oocF okVF odcF opmF ocdF octF : Value}
    (e0 : ErIn K "BadNumber" CN)
    (j0 : IniIn K "BadNumber.__init__" sBadNumber CN i0 oc0 kV0 dc0 pm0 cd0 ct0 od0 an0 sl0 nm0 q0 N0 bs0 ce sn0 sub0 ab0 col0 dd0 m00 m10 m20 m30 m50)
    (n0_0 : PySem.W.findIn K (.ref CN) "what" = some none)
    (n0_1 : PySem.W.findIn K (.ref CN) "number" = some none)
    (e1 : ErIn K "BadRow" CR)
    (j1 : IniIn K "BadRow.__init__" sBadRow CR i1 oc1 kV1 dc1 pm1 cd1 ct1 od1 an1 sl1 nm1 q1 N1 bs1 ce sn1 sub1 ab1 col1 dd1 m01 m11 m21 m31 m51)
    (n1_0 : PySem.W.findIn K (.ref CR) "row" = some none)
    (e2 : ErIn K "Unlike" CU)
    (j2 : IniIn K "Unlike.__init__" sUnlike CU i2 oc2 kV2 dc2 pm2 cd2 ct2 od2 an2 sl2 nm2 q2 N2 bs2 ce sn2 sub2 ab2 col2 dd2 m02 m12 m22 m32 m52)
    (n2_0 : PySem.W.findIn K (.ref CU) "what" = some none)
    (aC0 : PySem.W.nsIn K mainGlobals "Machine" = some (some (.ref C)))
    (pg0 : PySem.W.plainGet K C Str.empty = true)
    (hd0 : PySem.W.hasDictIn K C = true)
    (po0 : PySem.W.plainOver K C = true)
    (sa0 : PySem.W.findIn K (.ref C) "__setattr__" = some (some (.builtin "object.__setattr__")))
    (ha0 : PySem.W.findIn K (.ref C) "__class__" = some (some (.builtin "object.__class__")))
    (hn0 : PySem.W.specialIn K (.builtin "object.__class__") "__get__" = some (some (.builtin "getset_descriptor.__get__")))
    (ht0 : PySem.W.takesIn K (.builtin "object.__class__") = some true)
    (hm0 : PySem.W.mroIn K C (.type "object") = some true)
    (me0 : PySem.W.kitOne K (.ref C) (.ref C) = some true)
    (at0_0 : PySem.W.findIn K (.ref C) "p" = some none)
    (at0_1 : PySem.W.findIn K (.ref C) "moves" = some none)
    (at0_2 : PySem.W.findIn K (.ref C) "worths" = some none)
    (at0_3 : PySem.W.findIn K (.ref C) "size" = some none)
    (no0_int : PySem.W.kitOne K (.type "int") (.ref C) = some false)
    (no0_bool : PySem.W.kitOne K (.type "bool") (.ref C) = some false)
    (no0_NoneType : PySem.W.kitOne K (.type "NoneType") (.ref C) = some false)
    (no0_str : PySem.W.kitOne K (.type "str") (.ref C) = some false)
    (no0_list : PySem.W.kitOne K (.type "list") (.ref C) = some false)
    (no0_tuple : PySem.W.kitOne K (.type "tuple") (.ref C) = some false)
    (no0_dict : PySem.W.kitOne K (.type "dict") (.ref C) = some false)
    (ni0 : PySem.W.kitOne K (.ref C) (.type "int") = some false)
    (mk0 : PySem.W.makesIn K C = true)
    (kp0 : PySem.W.keepIn K (.ref C) = true)
    (af0 : PySem.W.nsIn K mainGlobals "is_integer" = some (some (.ref gf0)))
    (lf0 : K.lookup gf0 = some ⟨oocf0, oodf0, .func (PySem.W.fnOf "is_integer" "is_integer" (defArgs sIsI) (defBody sIsI) (defScope sIsI) .none okVf0 odcf0 opmf0 oanf0 ocdf0 octf0), oslf0⟩)
    (cf0 : PySem.W.codeIn K ocdf0 "is_integer" = true)
    (kf0 : PySem.W.keepIn K (.ref gf0) = true)
    (af1 : PySem.W.nsIn K mainGlobals "is_integers" = some (some (.ref gf1)))
    (lf1 : K.lookup gf1 = some ⟨oocf1, oodf1, .func (PySem.W.fnOf "is_integers" "is_integers" (defArgs sIsIs) (defBody sIsIs) (defScope sIsIs) .none okVf1 odcf1 opmf1 oanf1 ocdf1 octf1), oslf1⟩)
    (cf1 : PySem.W.codeIn K ocdf1 "is_integers" = true)
    (kf1 : PySem.W.keepIn K (.ref gf1) = true)
    (af2 : PySem.W.nsIn K mainGlobals "is_row" = some (some (.ref gf2)))
    (lf2 : K.lookup gf2 = some ⟨oocf2, oodf2, .func (PySem.W.fnOf "is_row" "is_row" (defArgs sRow) (defBody sRow) (defScope sRow) .none okVf2 odcf2 opmf2 oanf2 ocdf2 octf2), oslf2⟩)
    (cf2 : PySem.W.codeIn K ocdf2 "is_row" = true)
    (kf2 : PySem.W.keepIn K (.ref gf2) = true)
    (af3 : PySem.W.nsIn K mainGlobals "check_prime" = some (some (.ref gf3)))
    (lf3 : K.lookup gf3 = some ⟨oocf3, oodf3, .func (PySem.W.fnOf "check_prime" "check_prime" (defArgs sCP) (defBody sCP) (defScope sCP) .none okVf3 odcf3 opmf3 oanf3 ocdf3 octf3), oslf3⟩)
    (cf3 : PySem.W.codeIn K ocdf3 "check_prime" = true)
    (kf3 : PySem.W.keepIn K (.ref gf3) = true)
    (af4 : PySem.W.nsIn K mainGlobals "check_machine" = some (some (.ref gf4)))
    (lf4 : K.lookup gf4 = some ⟨oocf4, oodf4, .func (PySem.W.fnOf "check_machine" "check_machine" (defArgs sCM) (defBody sCM) (defScope sCM) .none okVf4 odcf4 opmf4 oanf4 ocdf4 octf4), oslf4⟩)
    (cf4 : PySem.W.codeIn K ocdf4 "check_machine" = true)
    (kf4 : PySem.W.keepIn K (.ref gf4) = true)
    (af5 : PySem.W.nsIn K mainGlobals "explored_from" = some (some (.ref gf5)))
    (lf5 : K.lookup gf5 = some ⟨oocf5, oodf5, .func (PySem.W.fnOf "explored_from" "explored_from" (defArgs sXf) (defBody sXf) (defScope sXf) .none okVf5 odcf5 opmf5 oanf5 ocdf5 octf5), oslf5⟩)
    (cf5 : PySem.W.codeIn K ocdf5 "explored_from" = true)
    (kf5 : PySem.W.keepIn K (.ref gf5) = true)
    (af6 : PySem.W.nsIn K mainGlobals "explored" = some (some (.ref gf6)))
    (lf6 : K.lookup gf6 = some ⟨oocf6, oodf6, .func (PySem.W.fnOf "explored" "explored" (defArgs sXp) (defBody sXp) (defScope sXp) .none okVf6 odcf6 opmf6 oanf6 ocdf6 octf6), oslf6⟩)
    (cf6 : PySem.W.codeIn K ocdf6 "explored" = true)
    (kf6 : PySem.W.keepIn K (.ref gf6) = true)
    (af7 : PySem.W.nsIn K mainGlobals "going_by" = some (some (.ref gf7)))
    (lf7 : K.lookup gf7 = some ⟨oocf7, oodf7, .func (PySem.W.fnOf "going_by" "going_by" (defArgs sGb) (defBody sGb) (defScope sGb) .none okVf7 odcf7 opmf7 oanf7 (.ref c) octf7), oslf7⟩)
    (cf7 : PySem.W.codeIn K (.ref c) "going_by" = true)
    (kf7 : PySem.W.keepIn K (.ref gf7) = true)
    (af8 : PySem.W.nsIn K mainGlobals "met_states" = some (some (.ref gf8)))
    (lf8 : K.lookup gf8 = some ⟨oocf8, oodf8, .func (PySem.W.fnOf "met_states" "met_states" (defArgs sMs) (defBody sMs) (defScope sMs) .none okVf8 odcf8 opmf8 oanf8 ocdf8 octf8), oslf8⟩)
    (cf8 : PySem.W.codeIn K ocdf8 "met_states" = true)
    (kf8 : PySem.W.keepIn K (.ref gf8) = true)
    (af9 : PySem.W.nsIn K mainGlobals "early_marks" = some (some (.ref gf9)))
    (lf9 : K.lookup gf9 = some ⟨oocf9, oodf9, .func (PySem.W.fnOf "early_marks" "early_marks" (defArgs sEm) (defBody sEm) (defScope sEm) .none okVf9 odcf9 opmf9 oanf9 ocdf9 octf9), oslf9⟩)
    (cf9 : PySem.W.codeIn K ocdf9 "early_marks" = true)
    (kf9 : PySem.W.keepIn K (.ref gf9) = true)
    (af10 : PySem.W.nsIn K mainGlobals "is_endless" = some (some (.ref gf10)))
    (lf10 : K.lookup gf10 = some ⟨oocf10, oodf10, .func (PySem.W.fnOf "is_endless" "is_endless" (defArgs sIe) (defBody sIe) (defScope sIe) .none okVf10 odcf10 opmf10 oanf10 ocdf10 octf10), oslf10⟩)
    (cf10 : PySem.W.codeIn K ocdf10 "is_endless" = true)
    (kf10 : PySem.W.keepIn K (.ref gf10) = true)
    (af11 : PySem.W.nsIn K mainGlobals "greatest_number" = some (some (.ref gf11)))
    (lf11 : K.lookup gf11 = some ⟨oocf11, oodf11, .func (PySem.W.fnOf "greatest_number" "greatest_number" (defArgs sGr) (defBody sGr) (defScope sGr) .none okVf11 odcf11 opmf11 oanf11 ocdf11 octf11), oslf11⟩)
    (cf11 : PySem.W.codeIn K ocdf11 "greatest_number" = true)
    (kf11 : PySem.W.keepIn K (.ref gf11) = true)
    (af12 : PySem.W.nsIn K mainGlobals "comes_again" = some (some (.ref gf12)))
    (lf12 : K.lookup gf12 = some ⟨oocf12, oodf12, .func (PySem.W.fnOf "comes_again" "comes_again" (defArgs sAg) (defBody sAg) (defScope sAg) .none okVf12 odcf12 opmf12 oanf12 ocdf12 octf12), oslf12⟩)
    (cf12 : PySem.W.codeIn K ocdf12 "comes_again" = true)
    (kf12 : PySem.W.keepIn K (.ref gf12) = true)
    (af13 : PySem.W.nsIn K mainGlobals "last" = some (some (.ref gf13)))
    (lf13 : K.lookup gf13 = some ⟨oocf13, oodf13, .func (PySem.W.fnOf "last" "last" (defArgs sLa) (defBody sLa) (defScope sLa) .none okVf13 odcf13 opmf13 oanf13 ocdf13 octf13), oslf13⟩)
    (cf13 : PySem.W.codeIn K ocdf13 "last" = true)
    (kf13 : PySem.W.keepIn K (.ref gf13) = true)
    (af14 : PySem.W.nsIn K mainGlobals "_law_pen" = some (some (.ref gf14)))
    (lf14 : K.lookup gf14 = some ⟨oocf14, oodf14, .func (PySem.W.fnOf "_law_pen" "_law_pen" (defArgs sPen) (defBody sPen) (defScope sPen) .none okVf14 odcf14 opmf14 oanf14 ocdf14 octf14), oslf14⟩)
    (cf14 : PySem.W.codeIn K ocdf14 "_law_pen" = true)
    (kf14 : PySem.W.keepIn K (.ref gf14) = true)
    (af15 : PySem.W.nsIn K mainGlobals "_law_draw" = some (some (.ref gf15)))
    (lf15 : K.lookup gf15 = some ⟨oocf15, oodf15, .func (PySem.W.fnOf "_law_draw" "_law_draw" (defArgs sDraw) (defBody sDraw) (defScope sDraw) .none okVf15 odcf15 opmf15 oanf15 ocdf15 octf15), oslf15⟩)
    (cf15 : PySem.W.codeIn K ocdf15 "_law_draw" = true)
    (kf15 : PySem.W.keepIn K (.ref gf15) = true)
    (af16 : PySem.W.nsIn K mainGlobals "_law_pick" = some (some (.ref gf16)))
    (lf16 : K.lookup gf16 = some ⟨oocf16, oodf16, .func (PySem.W.fnOf "_law_pick" "_law_pick" (defArgs sPick) (defBody sPick) (defScope sPick) .none okVf16 odcf16 opmf16 oanf16 ocdf16 octf16), oslf16⟩)
    (cf16 : PySem.W.codeIn K ocdf16 "_law_pick" = true)
    (kf16 : PySem.W.keepIn K (.ref gf16) = true)
    (af17 : PySem.W.nsIn K mainGlobals "_law_steady" = some (some (.ref gf17)))
    (lf17 : K.lookup gf17 = some ⟨oocf17, oodf17, .func (PySem.W.fnOf "_law_steady" "_law_steady" (defArgs sSt) (defBody sSt) (defScope sSt) .none okVf17 odcf17 opmf17 oanf17 ocdf17 octf17), oslf17⟩)
    (cf17 : PySem.W.codeIn K ocdf17 "_law_steady" = true)
    (kf17 : PySem.W.keepIn K (.ref gf17) = true)
    (af18 : PySem.W.nsIn K mainGlobals "_law_few" = some (some (.ref gf18)))
    (lf18 : K.lookup gf18 = some ⟨oocf18, oodf18, .func (PySem.W.fnOf "_law_few" "_law_few" (defArgs sFew) (defBody sFew) (defScope sFew) .none okVf18 odcf18 opmf18 oanf18 ocdf18 octf18), oslf18⟩)
    (cf18 : PySem.W.codeIn K ocdf18 "_law_few" = true)
    (kf18 : PySem.W.keepIn K (.ref gf18) = true)
    (af19 : PySem.W.nsIn K mainGlobals "_law_bounded" = some (some (.ref gf19)))
    (lf19 : K.lookup gf19 = some ⟨oocf19, oodf19, .func (PySem.W.fnOf "_law_bounded" "_law_bounded" (defArgs sBd) (defBody sBd) (defScope sBd) .none okVf19 odcf19 opmf19 oanf19 ocdf19 octf19), oslf19⟩)
    (cf19 : PySem.W.codeIn K ocdf19 "_law_bounded" = true)
    (kf19 : PySem.W.keepIn K (.ref gf19) = true)
    (af20 : PySem.W.nsIn K mainGlobals "_law_machine" = some (some (.ref gf20)))
    (lf20 : K.lookup gf20 = some ⟨oocf20, oodf20, .func (PySem.W.fnOf "_law_machine" "_law_machine" (defArgs sMac) (defBody sMac) (defScope sMac) .none okVf20 odcf20 opmf20 oanf20 ocdf20 octf20), oslf20⟩)
    (cf20 : PySem.W.codeIn K ocdf20 "_law_machine" = true)
    (kf20 : PySem.W.keepIn K (.ref gf20) = true)
    (af21 : PySem.W.nsIn K mainGlobals "_law_number" = some (some (.ref gf21)))
    (lf21 : K.lookup gf21 = some ⟨oocf21, oodf21, .func (PySem.W.fnOf "_law_number" "_law_number" (defArgs sNb) (defBody sNb) (defScope sNb) .none okVf21 odcf21 opmf21 oanf21 ocdf21 octf21), oslf21⟩)
    (cf21 : PySem.W.codeIn K ocdf21 "_law_number" = true)
    (kf21 : PySem.W.keepIn K (.ref gf21) = true)
    (af22 : PySem.W.nsIn K mainGlobals "_law_layers" = some (some (.ref gf22)))
    (lf22 : K.lookup gf22 = some ⟨oocf22, oodf22, .func (PySem.W.fnOf "_law_layers" "_law_layers" (defArgs sLay) (defBody sLay) (defScope sLay) .none okVf22 odcf22 opmf22 oanf22 ocdf22 octf22), oslf22⟩)
    (cf22 : PySem.W.codeIn K ocdf22 "_law_layers" = true)
    (kf22 : PySem.W.keepIn K (.ref gf22) = true)
    (af23 : PySem.W.nsIn K mainGlobals "_law_best" = some (some (.ref gf23)))
    (lf23 : K.lookup gf23 = some ⟨oocf23, oodf23, .func (PySem.W.fnOf "_law_best" "_law_best" (defArgs sBs) (defBody sBs) (defScope sBs) .none okVf23 odcf23 opmf23 oanf23 ocdf23 octf23), oslf23⟩)
    (cf23 : PySem.W.codeIn K ocdf23 "_law_best" = true)
    (kf23 : PySem.W.keepIn K (.ref gf23) = true)
    (af24 : PySem.W.nsIn K mainGlobals "_law_is_there" = some (some (.ref gf24)))
    (lf24 : K.lookup gf24 = some ⟨oocf24, oodf24, .func (PySem.W.fnOf "_law_is_there" "_law_is_there" (defArgs sIt) (defBody sIt) (defScope sIt) .none okVf24 odcf24 opmf24 oanf24 ocdf24 octf24), oslf24⟩)
    (cf24 : PySem.W.codeIn K ocdf24 "_law_is_there" = true)
    (kf24 : PySem.W.keepIn K (.ref gf24) = true)
    (fcm0_0 : PySem.W.findIn K (.ref C) "__init__" = some (some (.ref gm0_0)))
    (fnm0_0 : PySem.W.isFn K (.ref gm0_0) = true)
    (lm0_0 : K.lookup gm0_0 = some ⟨oocm0_0, oodm0_0, .func (PySem.W.fnOf "__init__" "Machine.__init__" (defArgs sMI) (defBody sMI) (defScope sMI) .none okVm0_0 odcm0_0 opmm0_0 oanm0_0 ocdm0_0 octm0_0), oslm0_0⟩)
    (cm0_0 : PySem.W.codeIn K ocdm0_0 "Machine.__init__" = true)
    (km0_0 : PySem.W.keepIn K (.ref gm0_0) = true)
    (aF : PySem.W.nsIn K mainGlobals "law" = some (some (.ref gLaw)))
    (lF : K.lookup gLaw = some ⟨oocF, oodF, .func (PySem.W.fnOf "law" "law" (defArgs sLaw) (defBody sLaw) (defScope sLaw) .none okVF odcF opmF oanF ocdF octF), oslF⟩)
    (cF : PySem.W.codeIn K ocdF "law" = true)
    (nP0 : K.lookup Pt = none)
    (hP0 : PySem.W.codeHdIn K c Pt = true)
    (ac0 : PySem.W.nsIn K mainGlobals "PRIMES" = some (some (.ref D)))
    (kc0 : tupI K (.ref D) = some [2, 3, 5, 7])
    (z_int : PySem.W.nsIn K mainGlobals "int" = some none)
    (z_bool : PySem.W.nsIn K mainGlobals "bool" = some none)
    (z_tuple : PySem.W.nsIn K mainGlobals "tuple" = some none)
    (z_len : PySem.W.nsIn K mainGlobals "len" = some none)
    (z_list : PySem.W.nsIn K mainGlobals "list" = some none)
    (z_range : PySem.W.nsIn K mainGlobals "range" = some none)
    (z_isinstance : PySem.W.nsIn K mainGlobals "isinstance" = some none)
    (z_repr : PySem.W.nsIn K mainGlobals "repr" = some none)
    (z_all : PySem.W.nsIn K mainGlobals "all" = some none)
    (z_divmod : PySem.W.nsIn K mainGlobals "divmod" = some none)
    (z_reversed : PySem.W.nsIn K mainGlobals "reversed" = some none)
    (z_any : PySem.W.nsIn K mainGlobals "any" = some none)
    (z_zip : PySem.W.nsIn K mainGlobals "zip" = some none)
    (z_min : PySem.W.nsIn K mainGlobals "min" = some none)
    (z_max : PySem.W.nsIn K mainGlobals "max" = some none)
    (z_enumerate : PySem.W.nsIn K mainGlobals "enumerate" = some none)
    (z_sorted : PySem.W.nsIn K mainGlobals "sorted" = some none)
    (z_set : PySem.W.nsIn K mainGlobals "set" = some none)
    : (∀ p ∈ [(c, Pt)], K.lookup p.2 = none ∧ PySem.W.codeHdIn K p.1 p.2 = true) ∧ ∃ fd : FuncData, (∀ (s : Shared) (u : Value), BindsTo s fd ⟨[u], []⟩ [("_law_script", u)]) ∧
      ∀ base : Heap, K.In base → base.Ns mainGlobals mg → (∀ p ∈ [(c, Pt)], LamX.TabB base mg p.1 p.2) → FnG l.prog w K mg base CX0 7 fa fd ["_law_script"] (spLaw K Pt) := by
  have e := hfa.symm.trans (PySem.W.mg_of X G aF)
  cases e
  refine ⟨fun p hp => ?_, PySem.W.fnOf "law" "law" (defArgs sLaw) (defBody sLaw) (defScope sLaw) .none okVF odcF opmF oanF ocdF octF, fun s v => .of_eq rfl, fun base _ _ TB => ?_⟩
  · obtain rfl | hp := List.mem_cons.mp hp
    · exact ⟨nP0, hP0⟩
    · exact (List.not_mem_nil hp).elim
  have Ff0 := fun_mk (st := sIsI) lf0 cf0 kf0
  have E_is_integer : Cl K mg "is_integer" sIsI ["value"] gf0 _ := ⟨Ff0, Ff0.binds (ps := ["value"]) (fun _ _ _ _ _ _ us hl => match us, hl with | [_], _ => rfl), PySem.W.mg_of X G af0⟩
  have Ff1 := fun_mk (st := sIsIs) lf1 cf1 kf1
  have E_is_integers : Cl K mg "is_integers" sIsIs ["value"] gf1 _ := ⟨Ff1, Ff1.binds (ps := ["value"]) (fun _ _ _ _ _ _ us hl => match us, hl with | [_], _ => rfl), PySem.W.mg_of X G af1⟩
  have Ff2 := fun_mk (st := sRow) lf2 cf2 kf2
  have E_is_row : Cl K mg "is_row" sRow ["value", "width"] gf2 _ := ⟨Ff2, Ff2.binds (ps := ["value", "width"]) (fun _ _ _ _ _ _ us hl => match us, hl with | [_, _], _ => rfl), PySem.W.mg_of X G af2⟩
  have Ff3 := fun_mk (st := sCP) lf3 cf3 kf3
  have E_check_prime : Cl K mg "check_prime" sCP ["p"] gf3 _ := ⟨Ff3, Ff3.binds (ps := ["p"]) (fun _ _ _ _ _ _ us hl => match us, hl with | [_], _ => rfl), PySem.W.mg_of X G af3⟩
  have Ff4 := fun_mk (st := sCM) lf4 cf4 kf4
  have E_check_machine : Cl K mg "check_machine" sCM ["p", "moves", "worths"] gf4 _ := ⟨Ff4, Ff4.binds (ps := ["p", "moves", "worths"]) (fun _ _ _ _ _ _ us hl => match us, hl with | [_, _, _], _ => rfl), PySem.W.mg_of X G af4⟩
  have Ff5 := fun_mk (st := sXf) lf5 cf5 kf5
  have E_explored_from : Cl K mg "explored_from" sXf ["starts", "lead", "many", "most"] gf5 _ := ⟨Ff5, Ff5.binds (ps := ["starts", "lead", "many", "most"]) (fun _ _ _ _ _ _ us hl => match us, hl with | [_, _, _, _], _ => rfl), PySem.W.mg_of X G af5⟩
  have Ff6 := fun_mk (st := sXp) lf6 cf6 kf6
  have E_explored : Cl K mg "explored" sXp ["start", "lead", "many", "most"] gf6 _ := ⟨Ff6, Ff6.binds (ps := ["start", "lead", "many", "most"]) (fun _ _ _ _ _ _ us hl => match us, hl with | [_, _, _, _], _ => rfl), PySem.W.mg_of X G af6⟩
  have Ff7 := fun_mk (st := sGb) lf7 cf7 kf7
  have E_going_by : Cl K mg "going_by" sGb ["moves"] gf7 _ := ⟨Ff7, Ff7.binds (ps := ["moves"]) (fun _ _ _ _ _ _ us hl => match us, hl with | [_], _ => rfl), PySem.W.mg_of X G af7⟩
  have Ff8 := fun_mk (st := sMs) lf8 cf8 kf8
  have E_met_states : Cl K mg "met_states" sMs ["moves", "worths"] gf8 _ := ⟨Ff8, Ff8.binds (ps := ["moves", "worths"]) (fun _ _ _ _ _ _ us hl => match us, hl with | [_, _], _ => rfl), PySem.W.mg_of X G af8⟩
  have Ff9 := fun_mk (st := sEm) lf9 cf9 kf9
  have E_early_marks : Cl K mg "early_marks" sEm ["moves"] gf9 _ := ⟨Ff9, Ff9.binds (ps := ["moves"]) (fun _ _ _ _ _ _ us hl => match us, hl with | [_], _ => rfl), PySem.W.mg_of X G af9⟩
  have Ff10 := fun_mk (st := sIe) lf10 cf10 kf10
  have E_is_endless : Cl K mg "is_endless" sIe ["moves", "worths", "value"] gf10 _ := ⟨Ff10, Ff10.binds (ps := ["moves", "worths", "value"]) (fun _ _ _ _ _ _ us hl => match us, hl with | [_, _, _], _ => rfl), PySem.W.mg_of X G af10⟩
  have Ff11 := fun_mk (st := sGr) lf11 cf11 kf11
  have E_greatest_number : Cl K mg "greatest_number" sGr ["moves", "worths", "value", "p"] gf11 _ := ⟨Ff11, Ff11.binds (ps := ["moves", "worths", "value", "p"]) (fun _ _ _ _ _ _ us hl => match us, hl with | [_, _, _, _], _ => rfl), PySem.W.mg_of X G af11⟩
  have Ff12 := fun_mk (st := sAg) lf12 cf12 kf12
  have E_comes_again : Cl K mg "comes_again" sAg ["machine", "value"] gf12 _ := ⟨Ff12, Ff12.binds (ps := ["machine", "value"]) (fun _ _ _ _ _ _ us hl => match us, hl with | [_, _], _ => rfl), PySem.W.mg_of X G af12⟩
  have Ff13 := fun_mk (st := sLa) lf13 cf13 kf13
  have E_last : Cl K mg "last" sLa ["machine", "value"] gf13 _ := ⟨Ff13, Ff13.binds (ps := ["machine", "value"]) (fun _ _ _ _ _ _ us hl => match us, hl with | [_, _], _ => rfl), PySem.W.mg_of X G af13⟩
  have Ff14 := fun_mk (st := sPen) lf14 cf14 kf14
  have E__law_pen : Cl K mg "_law_pen" sPen ["_law_script"] gf14 _ := ⟨Ff14, Ff14.binds (ps := ["_law_script"]) (fun _ _ _ _ _ _ us hl => match us, hl with | [_], _ => rfl), PySem.W.mg_of X G af14⟩
  have Ff15 := fun_mk (st := sDraw) lf15 cf15 kf15
  have E__law_draw : Cl K mg "_law_draw" sDraw ["_law_pen_here", "_law_many"] gf15 _ := ⟨Ff15, Ff15.binds (ps := ["_law_pen_here", "_law_many"]) (fun _ _ _ _ _ _ us hl => match us, hl with | [_, _], _ => rfl), PySem.W.mg_of X G af15⟩
  have Ff16 := fun_mk (st := sPick) lf16 cf16 kf16
  have E__law_pick : Cl K mg "_law_pick" sPick ["_law_pen_here", "_law_some"] gf16 _ := ⟨Ff16, Ff16.binds (ps := ["_law_pen_here", "_law_some"]) (fun _ _ _ _ _ _ us hl => match us, hl with | [_, _], _ => rfl), PySem.W.mg_of X G af16⟩
  have Ff17 := fun_mk (st := sSt) lf17 cf17 kf17
  have E__law_steady : Cl K mg "_law_steady" sSt ["_law_pen_here", "_law_p", "_law_most"] gf17 _ := ⟨Ff17, Ff17.binds (ps := ["_law_pen_here", "_law_p", "_law_most"]) (fun _ _ _ _ _ _ us hl => match us, hl with | [_, _, _], _ => rfl), PySem.W.mg_of X G af17⟩
  have Ff18 := fun_mk (st := sFew) lf18 cf18 kf18
  have E__law_few : Cl K mg "_law_few" sFew ["_law_pen_here", "_law_p"] gf18 _ := ⟨Ff18, Ff18.binds (ps := ["_law_pen_here", "_law_p"]) (fun _ _ _ _ _ _ us hl => match us, hl with | [_, _], _ => rfl), PySem.W.mg_of X G af18⟩
  have Ff19 := fun_mk (st := sBd) lf19 cf19 kf19
  have E__law_bounded : Cl K mg "_law_bounded" sBd ["_law_pen_here", "_law_p"] gf19 _ := ⟨Ff19, Ff19.binds (ps := ["_law_pen_here", "_law_p"]) (fun _ _ _ _ _ _ us hl => match us, hl with | [_, _], _ => rfl), PySem.W.mg_of X G af19⟩
  have Ff20 := fun_mk (st := sMac) lf20 cf20 kf20
  have E__law_machine : Cl K mg "_law_machine" sMac ["_law_pen_here", "_law_p"] gf20 _ := ⟨Ff20, Ff20.binds (ps := ["_law_pen_here", "_law_p"]) (fun _ _ _ _ _ _ us hl => match us, hl with | [_, _], _ => rfl), PySem.W.mg_of X G af20⟩
  have Ff21 := fun_mk (st := sNb) lf21 cf21 kf21
  have E__law_number : Cl K mg "_law_number" sNb ["_law_word", "_law_p"] gf21 _ := ⟨Ff21, Ff21.binds (ps := ["_law_word", "_law_p"]) (fun _ _ _ _ _ _ us hl => match us, hl with | [_, _], _ => rfl), PySem.W.mg_of X G af21⟩
  have Ff22 := fun_mk (st := sLay) lf22 cf22 kf22
  have E__law_layers : Cl K mg "_law_layers" sLay ["_law_moves", "_law_many"] gf22 _ := ⟨Ff22, Ff22.binds (ps := ["_law_moves", "_law_many"]) (fun _ _ _ _ _ _ us hl => match us, hl with | [_, _], _ => rfl), PySem.W.mg_of X G af22⟩
  have Ff23 := fun_mk (st := sBs) lf23 cf23 kf23
  have E__law_best : Cl K mg "_law_best" sBs ["_law_moves", "_law_layers_here", "_law_wanted", "_law_many", "_law_is_least"] gf23 _ := ⟨Ff23, Ff23.binds (ps := ["_law_moves", "_law_layers_here", "_law_wanted", "_law_many", "_law_is_least"]) (fun _ _ _ _ _ _ us hl => match us, hl with | [_, _, _, _, _], _ => rfl), PySem.W.mg_of X G af23⟩
  have Ff24 := fun_mk (st := sIt) lf24 cf24 kf24
  have E__law_is_there : Cl K mg "_law_is_there" sIt ["_law_moves", "_law_layers_here", "_law_wanted", "_law_size"] gf24 _ := ⟨Ff24, Ff24.binds (ps := ["_law_moves", "_law_layers_here", "_law_wanted", "_law_size"]) (fun _ _ _ _ _ _ us hl => match us, hl with | [_, _, _, _], _ => rfl), PySem.W.mg_of X G af24⟩
  have Fm0_0 := fun_mk (st := sMI) lm0_0 cm0_0 km0_0
  have B_Machine___init__ := Fm0_0.binds (ps := ["self", "p", "moves", "worths"]) (fun _ _ _ _ _ _ us hl => match us, hl with | [_, _, _, _], _ => rfl)
  have L_Machine : Cls K C := ⟨pg0, hd0, po0, sa0⟩
  have GC_Machine := PySem.W.mg_of X G aC0
  have C_Machine : C8.InsC K C := ⟨L_Machine, ha0, hn0, ht0, hm0, me0⟩
  have M_Machine_init : Meth K C "__init__" gm0_0 := ⟨fcm0_0, fnm0_0, km0_0⟩
  have K_Machine : Mk K C gm0_0 := ⟨mk0, fcm0_0, fnm0_0, kp0⟩
  have R_BadNumber := er_of (x := "BadNumber") (fs := ["what", "number"]) X G e0 j0 (fun g hg => by
    rcases List.mem_cons.mp hg with rfl | hg
    · exact n0_0
    rcases List.mem_cons.mp hg with rfl | hg
    · exact n0_1
    exact (List.not_mem_nil hg).elim) (fun _ _ _ _ _ _ us hl => match us, hl with | [_, _, _], _ => rfl)
  have R_BadRow := er_of (x := "BadRow") (fs := ["row"]) X G e1 j1 (fun g hg => by
    rcases List.mem_cons.mp hg with rfl | hg
    · exact n1_0
    exact (List.not_mem_nil hg).elim) (fun _ _ _ _ _ _ us hl => match us, hl with | [_, _], _ => rfl)
  have R_Unlike := er_of (x := "Unlike") (fs := ["what"]) X G e2 j2 (fun g hg => by
    rcases List.mem_cons.mp hg with rfl | hg
    · exact n2_0
    exact (List.not_mem_nil hg).elim) (fun _ _ _ _ _ _ us hl => match us, hl with | [_, _], _ => rfl)
  have A_PRIMES := PySem.W.mg_of X G ac0
  have Z_int := PySem.W.mg_none_of X G z_int
  have Z_bool := PySem.W.mg_none_of X G z_bool
  have Z_tuple := PySem.W.mg_none_of X G z_tuple
  have Z_len := PySem.W.mg_none_of X G z_len
  have Z_list := PySem.W.mg_none_of X G z_list
  have Z_range := PySem.W.mg_none_of X G z_range
  have Z_isinstance := PySem.W.mg_none_of X G z_isinstance
  have Z_repr := PySem.W.mg_none_of X G z_repr
  have Z_all := PySem.W.mg_none_of X G z_all
  have Z_divmod := PySem.W.mg_none_of X G z_divmod
  have Z_reversed := PySem.W.mg_none_of X G z_reversed
  have Z_any := PySem.W.mg_none_of X G z_any
  have Z_zip := PySem.W.mg_none_of X G z_zip
  have Z_min := PySem.W.mg_none_of X G z_min
  have Z_max := PySem.W.mg_none_of X G z_max
  have Z_enumerate := PySem.W.mg_none_of X G z_enumerate
  have Z_sorted := PySem.W.mg_none_of X G z_sorted
  have Z_set := PySem.W.mg_none_of X G z_set
  have BB : Blt mg := ⟨Z_int, Z_bool, Z_tuple, Z_len, Z_list, Z_range, Z_isinstance, Z_repr, Z_all, Z_divmod, Z_reversed⟩
  have ZZ : McC K mg C := ⟨C_Machine, at0_0, at0_1, at0_2, at0_3, GC_Machine, fun n hn => by
    unfold offOwn at hn
    obtain rfl | hn := List.mem_cons.mp hn
    · exact no0_int
    obtain rfl | hn := List.mem_cons.mp hn
    · exact no0_bool
    obtain rfl | hn := List.mem_cons.mp hn
    · exact no0_NoneType
    obtain rfl | hn := List.mem_cons.mp hn
    · exact no0_str
    obtain rfl | hn := List.mem_cons.mp hn
    · exact no0_list
    obtain rfl | hn := List.mem_cons.mp hn
    · exact no0_tuple
    obtain rfl | hn := List.mem_cons.mp hn
    · exact no0_dict
    exact (List.not_mem_nil hn).elim⟩
  have GCM := ok_cm (P := l.prog) (w := w) (mg := mg) (base := base) E_check_machine.fn BB Z_any Z_zip E_is_integer E_is_integers E_is_row E_check_prime R_BadNumber R_BadRow R_Unlike A_PRIMES kc0
  have GMI := ok_mi (P := l.prog) (w := w) (mg := mg) (base := base) Fm0_0 BB E_check_machine ZZ GCM
  have GXP := ok_xp (P := l.prog) (w := w) (mg := mg) (base := base) E_explored.fn BB Z_enumerate E_explored_from
  have GGB := ok_gb (P := l.prog) (w := w) (mg := mg) (base := base) (T := TT Pt) lf7 cf7 (TB _ (.head _)) (.head _) (fun p hp e => by
    obtain rfl | hp := List.mem_cons.mp hp
    · rfl
    · exact (List.not_mem_nil hp).elim)
  have GMS := ok_ms (P := l.prog) (w := w) (mg := mg) (base := base) (T := TT Pt) E_met_states.fn BB E_explored GXP E_going_by.k E_going_by.g E_going_by.b GGB
  have GIE := ok_ie (P := l.prog) (w := w) (mg := mg) (base := base) E_is_endless.fn BB Z_any Z_zip E_early_marks
  have GGR := ok_gr (P := l.prog) (w := w) (mg := mg) (base := base) E_greatest_number.fn BB Z_enumerate Z_max E_early_marks
  have GAG := ok_ag (P := l.prog) (w := w) (mg := mg) (base := base) (T := TT Pt) E_comes_again.fn BB ZZ E_met_states GMS E_is_endless GIE
  have GLA := ok_la (P := l.prog) (w := w) (mg := mg) (base := base) (T := TT Pt) E_last.fn BB ZZ E_met_states GMS E_is_endless GIE E_greatest_number GGR
  have GST := ok_st (P := l.prog) (w := w) (mg := mg) (base := base) E__law_steady.fn BB Z_min E__law_draw E__law_pick
  have GFW := ok_few (P := l.prog) (w := w) (mg := mg) (base := base) E__law_few.fn BB E__law_draw E__law_pick
  have GBD := ok_bd (P := l.prog) (w := w) (mg := mg) (base := base) E__law_bounded.fn BB E__law_draw
  have GMC := ok_mac (P := l.prog) (w := w) (mg := mg) (base := base) E__law_machine.fn BB E__law_draw E__law_steady GST E__law_few GFW E__law_bounded GBD
  have GLY := ok_lay (P := l.prog) (w := w) (mg := mg) (base := base) E__law_layers.fn BB Z_sorted Z_set
  have GIT := ok_it (P := l.prog) (w := w) (mg := mg) (base := base) E__law_is_there.fn BB
  have GBS := ok_bsg (P := l.prog) (w := w) (mg := mg) (base := base) E__law_best.fn BB E__law_number
  exact ok_law (P0 := Pt) lF cF BB ZZ Z_sorted Z_set K_Machine B_Machine___init__ GMI E__law_pen E__law_draw E__law_pick E__law_machine GMC E__law_layers GLY E__law_is_there GIT E__law_best GBS E_comes_again GAG E_last GLA
theorem walk {l : PySem.W.OpenLaw} {q : Program} {loose : List Str} {XP : (Str → Option Value) → Heap → Prop} {YP : World → Heap → Prop} {d : DefRec} {K : Params → PySem.W.Frag} {c Pt : Addr} (hn : l.most = some 63) (hdf : d.params.defaults = [])
    (hY : ∀ (w : World) (h : Heap), YP w h → (K w.params).In h) (hT : ∀ (w : World) (h : Heap), YP w h → ∀ p ∈ [(c, Pt)], h.get? p.2 = some { cls := .none, data := .fields #[] })
    (F : ∀ (w : World) (mg : Str → Option Value) (fa : Addr) (h : Heap), (K w.params).In h → h.Ns mainGlobals mg → mg d.name = some (.ref fa) →
      (∀ p ∈ [(c, Pt)], (K w.params).lookup p.2 = none ∧ PySem.W.codeHdIn (K w.params) p.1 p.2 = true) ∧
      ∃ fd : FuncData, (∀ (s : Shared) (u : Value), BindsTo s fd ⟨[u], []⟩ [("_law_script", u)]) ∧ ∀ base : Heap, (K w.params).In base → base.Ns mainGlobals mg → (∀ p ∈ [(c, Pt)], LamX.TabB base mg p.1 p.2) → FnG l.prog w (K w.params) mg base CX0 7 fa fd ["_law_script"] (spLaw (K w.params) Pt)) :
    PySem.W.WalkO q loose XP YP l.row.toRowW d [] (fun f vs => PySem.call f vs) :=
  walkT (n := 63) (k := 7) (x := "_law_script") (cs := [(c, Pt)]) (sp := fun w => spLaw (K w.params) Pt) hn (by decide) hdf ⟨rfl, by decide, by decide⟩ hY hT F (fun _ _ a ns _ hP hS => ⟨a, ns, rfl, hS, hP _ (.head _), fun _ => rfl⟩)
end K72

open PySem PySem.W PyProof.Rows
set_option maxRecDepth 100000 in
set_option maxHeartbeats 0 in
theorem PySem.Challenge.cw_restcounts_k72_whole_values_again_and_la_holds : PySem.Challenge.rw_restcounts_k72_whole_values_again_and_la.Holds := by
  w_on; o_law; k_head; (case hw => w_witness2)
  k_fill
  refine' K72.walk (l := PySem.Challenge.rw_restcounts_k72_whole_values_again_and_la) (c := ?c) (Pt := 154) rfl rfl (fun w h Y => PySem.W.km_in_of Y) (fun w h Y p hp => ?T) ?F
  case F =>
    intro w mg fa h KX G hmg
    refine' K72.all_mk KX G hmg  ?e0 ?j0 ?n0_0 ?n0_1 ?e1 ?j1 ?n1_0 ?e2 ?j2 ?n2_0 ?aC0 ?pg0 ?hd0 ?po0 ?sa0 ?ha0 ?hn0 ?ht0 ?hm0 ?me0 ?at0_0 ?at0_1 ?at0_2 ?at0_3 ?no0_int ?no0_bool ?no0_NoneType ?no0_str ?no0_list ?no0_tuple ?no0_dict ?ni0 ?mk0 ?kp0 ?af0 ?lf0 ?cf0 ?kf0 ?af1 ?lf1 ?cf1 ?kf1 ?af2 ?lf2 ?cf2 ?kf2 ?af3 ?lf3 ?cf3 ?kf3 ?af4 ?lf4 ?cf4 ?kf4 ?af5 ?lf5 ?cf5 ?kf5 ?af6 ?lf6 ?cf6 ?kf6 ?af7 ?lf7 ?cf7 ?kf7 ?af8 ?lf8 ?cf8 ?kf8 ?af9 ?lf9 ?cf9 ?kf9 ?af10 ?lf10 ?cf10 ?kf10 ?af11 ?lf11 ?cf11 ?kf11 ?af12 ?lf12 ?cf12 ?kf12 ?af13 ?lf13 ?cf13 ?kf13 ?af14 ?lf14 ?cf14 ?kf14 ?af15 ?lf15 ?cf15 ?kf15 ?af16 ?lf16 ?cf16 ?kf16 ?af17 ?lf17 ?cf17 ?kf17 ?af18 ?lf18 ?cf18 ?kf18 ?af19 ?lf19 ?cf19 ?kf19 ?af20 ?lf20 ?cf20 ?kf20 ?af21 ?lf21 ?cf21 ?kf21 ?af22 ?lf22 ?cf22 ?kf22 ?af23 ?lf23 ?cf23 ?kf23 ?af24 ?lf24 ?cf24 ?kf24 ?fcm0_0 ?fnm0_0 ?lm0_0 ?cm0_0 ?km0_0 ?aF ?lF ?cF ?nP0 ?hP0 ?ac0 ?kc0 ?z_int ?z_bool ?z_tuple ?z_len ?z_list ?z_range ?z_isinstance ?z_repr ?z_all ?z_divmod ?z_reversed ?z_any ?z_zip ?z_min ?z_max ?z_enumerate ?z_sorted ?z_set
    (case e0 => (refine' K72.ErIn.mk ?_ ?_ ?_ ?_ ?_ ?_ <;> try k_is))
    (case j0 => (refine' K72.IniIn.mk ?_ ?_ ?_ ?_ ?_ ?_ ?_ ?_ <;> try k_is))
    (case n0_0 => k_is)
    (case n0_1 => k_is)
    (case e1 => (refine' K72.ErIn.mk ?_ ?_ ?_ ?_ ?_ ?_ <;> try k_is))
    (case j1 => (refine' K72.IniIn.mk ?_ ?_ ?_ ?_ ?_ ?_ ?_ ?_ <;> try k_is))
    (case n1_0 => k_is)
    (case e2 => (refine' K72.ErIn.mk ?_ ?_ ?_ ?_ ?_ ?_ <;> try k_is))
    (case j2 => (refine' K72.IniIn.mk ?_ ?_ ?_ ?_ ?_ ?_ ?_ ?_ <;> try k_is))
    (case n2_0 => k_is)
    (case aC0 => k_is)
    (case pg0 => k_is)
    (case hd0 => k_is)
    (case po0 => k_is)
    (case sa0 => k_is)
    (case ha0 => k_is)
    (case hn0 => k_is)
    (case ht0 => k_is)
    (case hm0 => k_is)
    (case me0 => (first | kernel_rfl | k_is | kit_is | decide +kernel))
    (case at0_0 => k_is)
    (case at0_1 => k_is)
    (case at0_2 => k_is)
    (case at0_3 => k_is)
    (case no0_int => (first | kernel_rfl | k_is | kit_is | decide +kernel))
    (case no0_bool => (first | kernel_rfl | k_is | kit_is | decide +kernel))
    (case no0_NoneType => (first | kernel_rfl | k_is | kit_is | decide +kernel))
    (case no0_str => (first | kernel_rfl | k_is | kit_is | decide +kernel))
    (case no0_list => (first | kernel_rfl | k_is | kit_is | decide +kernel))
    (case no0_tuple => (first | kernel_rfl | k_is | kit_is | decide +kernel))
    (case no0_dict => (first | kernel_rfl | k_is | kit_is | decide +kernel))
    (case ni0 => (first | kernel_rfl | k_is | kit_is | decide +kernel))
    (case mk0 => k_is)
    (case kp0 => k_is)
    (case af0 => k_is)
    (case lf0 => k_is)
    (case cf0 => k_is)
    (case kf0 => k_is)
    (case af1 => k_is)
    (case lf1 => k_is)
    (case cf1 => k_is)
    (case kf1 => k_is)
    (case af2 => k_is)
    (case lf2 => k_is)
    (case cf2 => k_is)
    (case kf2 => k_is)
    (case af3 => k_is)
    (case lf3 => k_is)
    (case cf3 => k_is)
    (case kf3 => k_is)
    (case af4 => k_is)
    (case lf4 => k_is)
    (case cf4 => k_is)
    (case kf4 => k_is)
    (case af5 => k_is)
    (case lf5 => k_is)
    (case cf5 => k_is)
    (case kf5 => k_is)
    (case af6 => k_is)
    (case lf6 => k_is)
    (case cf6 => k_is)
    (case kf6 => k_is)
    (case af7 => k_is)
    (case lf7 => k_is)
    (case cf7 => k_is)
    (case kf7 => k_is)
    (case af8 => k_is)
    (case lf8 => k_is)
    (case cf8 => k_is)
    (case kf8 => k_is)
    (case af9 => k_is)
    (case lf9 => k_is)
    (case cf9 => k_is)
    (case kf9 => k_is)
    (case af10 => k_is)
    (case lf10 => k_is)
    (case cf10 => k_is)
    (case kf10 => k_is)
    (case af11 => k_is)
    (case lf11 => k_is)
    (case cf11 => k_is)
    (case kf11 => k_is)
    (case af12 => k_is)
    (case lf12 => k_is)
    (case cf12 => k_is)
    (case kf12 => k_is)
    (case af13 => k_is)
    (case lf13 => k_is)
    (case cf13 => k_is)
    (case kf13 => k_is)
    (case af14 => k_is)
    (case lf14 => k_is)
    (case cf14 => k_is)
    (case kf14 => k_is)
    (case af15 => k_is)
    (case lf15 => k_is)
    (case cf15 => k_is)
    (case kf15 => k_is)
    (case af16 => k_is)
    (case lf16 => k_is)
    (case cf16 => k_is)
    (case kf16 => k_is)
    (case af17 => k_is)
    (case lf17 => k_is)
    (case cf17 => k_is)
    (case kf17 => k_is)
    (case af18 => k_is)
    (case lf18 => k_is)
    (case cf18 => k_is)
    (case kf18 => k_is)
    (case af19 => k_is)
    (case lf19 => k_is)
    (case cf19 => k_is)
    (case kf19 => k_is)
    (case af20 => k_is)
    (case lf20 => k_is)
    (case cf20 => k_is)
    (case kf20 => k_is)
    (case af21 => k_is)
    (case lf21 => k_is)
    (case cf21 => k_is)
    (case kf21 => k_is)
    (case af22 => k_is)
    (case lf22 => k_is)
    (case cf22 => k_is)
    (case kf22 => k_is)
    (case af23 => k_is)
    (case lf23 => k_is)
    (case cf23 => k_is)
    (case kf23 => k_is)
    (case af24 => k_is)
    (case lf24 => k_is)
    (case cf24 => k_is)
    (case kf24 => k_is)
    (case fcm0_0 => k_is)
    (case fnm0_0 => k_is)
    (case lm0_0 => k_is)
    (case cm0_0 => k_is)
    (case km0_0 => k_is)
    (case aF => k_is)
    (case lF => k_is)
    (case cF => k_is)
    (case nP0 => (first | kernel_rfl | k_is | kit_is | decide +kernel))
    (case hP0 => (first | kernel_rfl | k_is | kit_is | decide +kernel))
    (case ac0 => k_is)
    (case kc0 => (first | kernel_rfl | k_is | kit_is | decide +kernel))
    (case z_int => k_is)
    (case z_bool => k_is)
    (case z_tuple => k_is)
    (case z_len => k_is)
    (case z_list => k_is)
    (case z_range => k_is)
    (case z_isinstance => k_is)
    (case z_repr => k_is)
    (case z_all => k_is)
    (case z_divmod => k_is)
    (case z_reversed => k_is)
    (case z_any => k_is)
    (case z_zip => k_is)
    (case z_min => k_is)
    (case z_max => k_is)
    (case z_enumerate => k_is)
    (case z_sorted => k_is)
    (case z_set => k_is)
  case T =>
    obtain z | hp := List.mem_cons.mp hp
    · rw [z]
      exact PySem.W.km_tabs_of Y _ (by decide)
    · exact (List.not_mem_nil hp).elim

