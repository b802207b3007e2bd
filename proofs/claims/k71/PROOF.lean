import PyProof.Rows.All
import Wide.All
import OpenK.AllK
import Wide.FinOn
import HandS.ForMost
import HandS.ExcInit
import HandS.ExcField
import HandS.ExcOwn
import HandS.IsInst
import KE.KExcIs
import HandS.Exc
import HandS.Lambda
import HandS.EndTab
import KE.KNestM
import HandS.Wide
import HandS.Evl
import HandS.Walk
import HandS.WordsExc
import HandS.Rev
import HandS.Zip
import KE.GoesMore
import KE.GoesZip
import PyProof.P3Eq
import KE.KOpsOwn
import HandS.OwnEq
import HandS.SlotsOwn
import HandS.More
import HandS.Codes
import HandS.WordsList
import HandS.NestedK
import HandS.Words
import HandS.DictComp
import HandS.Conv
import HandS.Dict
import KE.KStar
import HandS.Star
import HandS.TupLen
import HandS.SetKeys
import HandS.SetFor
import HandS.Strs
import HandS.Style
import HandS.Iter
import PyProof.EnumMake
import KE.KDictPairs
import HandS.SortKw
import KE.KDictDisplayH
import KE.SortData
import HandS.SortInts
import HandS.TupMul
import PyProof.NeKinds
import HandS.TupAny
import PySem.Challenge.RW_restcounts_k71_whole_values_that_come
set_option Elab.async false
set_option linter.all false
set_option maxRecDepth 100000
set_option maxHeartbeats 4000000
/-! Gd: defs whose promise leans on there being no repr under way around them; calls of such; a law's end over such. -/
namespace Gd
open PySem PySem.Spec PyProof.Rows L2

/-- a promise kept wherever no guard stands around -/
structure FnG (P : Program) (w : World) (K : PySem.W.Frag) (mg : Str → Option Value) (base : Heap)
    (CX : CXT) (k : Nat) (f : Addr) (fd : FuncData) (ps : List Str) (sp : Sp) : Prop where
  len : ∀ vs H Q E, sp vs H Q E → vs.length = ps.length
  go : ∀ (A : Around) (outer : List Env) (s : Shared) (H : Hp) (args : Args) (us : List Value) (vs : List V) (Q : VK) (E : XK),
    A.guards = some [] → Room k A → Env0 P w K mg base A outer s H →
    BindsTo s fd args (ps.zip us) → Vals vs us → sp vs H Q E →
    codeAny (model P w) A (.call (.ref f) args) (CR CX outer P w H s Q E) s

section
variable {P : Program} {w : World} {K : PySem.W.Frag} {mg : Str → Option Value} {base : Heap} {CX : CXT}

theorem FnG.ofOk {k : Nat} {f : Addr} {fd : FuncData} {ps : List Str} {sp : Sp}
    (F : FnOk P w K mg base CX k f fd ps sp) : FnG P w K mg base CX k f fd ps sp where
  len := F.len
  go := fun A outer s H args us vs Q E _ => F.run A outer s H args us vs Q E

/-- a def by its body, where the guards are none -/
theorem fnG_of {k : Nat} {f : Addr} {name qual : Str} {params : Arguments} {body : List Stmt} {scope : Scope}
    {dV kV doc pm cdv ct oc : Value} {an od : Option Addr} {osl : Array (Option Value)} {N ps : List Str} {sp : Sp}
    (lk : K.lookup f = some ⟨oc, od, .func (PySem.W.fnOf name qual params body scope dV kV doc pm an cdv ct), osl⟩)
    (hcd : PySem.W.codeIn K cdv qual = true) (S : FnScope N ps scope)
    (len : ∀ vs H Q E, sp vs H Q E → vs.length = ps.length)
    (B : ∀ (A : Around) (outer : List Env) (s : Shared) (H : Hp) (vs : List V) (Q : VK) (E : XK),
      A.guards = some [] → Room k (A.deeper (envOfC qual scope s.heap.objs.size f cdv)) → sp vs H Q E →
      ∃ t, PSs (cxOf CX P w K mg base N qual scope f cdv A outer s H E) body t ∧
        t { nx := fun _ H' => Q .non H', rt := Q } (start N vs) H) :
    FnG P w K mg base CX (k + 1) f (PySem.W.fnOf name qual params body scope dV kV doc pm an cdv ct) ps sp where
  len := len
  go := by
    intro A outer s H args us vs Q E hgd room env0 hbind rel hs
    have hlen := len _ _ _ _ hs
    have old : ∀ b o, base.get? b = some o → s.heap.get? b = some o := fun b o h => (env0.bs b o h).1
    have kin := env0.mod.kin.keeps old
    have nolim := env0.mod.nolimit.keeps old
    refine codeAny_call_function room.depth (kin _ _ lk) rfl S.co S.gen rfl
      (PySem.W.codeRec_of kin hcd) (hbind _ _ _ _ ?_)
    refine wpAny_newFunctionEnv_cells S.kind ?kinds fun env he s1 inC => ?_
    case kinds =>
      rintro ⟨n, v⟩ hm
      have hn := S.par n (List.of_mem_zip hm).1
      exact hn.imp (fun q => q) fun q => ⟨q, PySem.W.cellsFrom_some _ _ _ (.inl q)⟩
    subst he
    refine ⟨nolim.keeps inC.toInCall.keep, codeAny_func ?_⟩
    have ⟨t, derived, reading⟩ := B A outer s H vs Q E hgd (room.deeper _) hs
    have inv0 := inv_start (CX := CX) (E := E) S room.hd env0 hlen rel inC
    refine wpAny_mono (derived.run [] s1 (start N vs) H _ inv0 reading) ?_ fun _ _ he => he
    intro fl s' hfl
    match fl, hfl with
    | .ret _, ⟨v, _, H', J, rv, q⟩ => exact ⟨v, H', J.os, J.bare, J.base, J.hok, rv, q⟩
    | .next, ⟨_, H', J, q⟩ => exact ⟨V.non, H', J.os, J.bare, J.base, J.hok, rfl, q⟩
    | .brk, ⟨_, _, _, q⟩ => exact q.elim
    | .cont, ⟨_, _, _, q⟩ => exact q.elim

/-- for a def of the text that no exception leaves -/
theorem okG {x qual : Str} {st : Stmt} {f : Addr} {fd : FuncData} {N ps : List Str} {k : Nat} {sp : Sp}
    (F : Fun K x qual st f fd) (S : FnScope N ps (defScope st)) (len : ∀ vs H Q E, sp vs H Q E → vs.length = ps.length)
    (B : ∀ (cdv : Value) (A : Around) (outer : List Env) (s : Shared) (H : Hp) (vs : List V) (Q : VK) (E : XK),
      A.guards = some [] → Room k (A.deeper (envOfC qual (defScope st) s.heap.objs.size f cdv)) → sp vs H Q E →
      ∃ t, PSs (cxOf CX0 P w K mg base N qual (defScope st) f cdv A outer s H E).nox (defBody st) t ∧
        t { nx := fun _ H' => Q .non H', rt := Q } (start N vs) H) : FnG P w K mg base CX0 (k + 1) f fd ps sp := by
  have ⟨oc, od, kV, doc, pm, an, cdv, ct, osl, e, lk, hcd⟩ := F.ex
  subst e
  refine fnG_of lk hcd S len ?_
  intro A outer s H vs Q E hgd room hs
  have ⟨t, d, q⟩ := B cdv A outer s H vs Q E hgd room hs
  exact ⟨t, d.nox, q⟩
end

section
variable {X : Cx} {CX : CXT} {k : Nat} {f : Addr} {fd : FuncData} {ps : List Str} {sp : Sp} {dvs : List V} {ds : List Value} {E : XK}
/-- the call of such a def -/
theorem run_fnG {pins : List (Addr × Obj)} {σ : L2.St} {H : Hp} {s : Shared} {Q : VK} {us : List Value} {vs : List V}
    (F : FnG X.prog X.w X.K X.mg X.base CX k f fd ps sp) (hgd : X.A.guards = some []) (room : Room k X.A)
    (hb : Binds X.K fd ps ds) (hd : Vals dvs ds) (hx : Passes CX X E) (I : Inv X pins σ H s) (r : Vals vs us)
    (h : sp (vs ++ dvs) H Q E) : wpAny (model X.prog X.w) X.A (call (.ref f) us) (EP X pins σ Q) X.xe s := by
  have rr := r.append hd
  have hlen := F.len _ _ _ _ h
  rw [rr.length] at hlen
  have c := F.go X.A X.stack s H ⟨us, []⟩ (us ++ ds) (vs ++ dvs) Q E hgd room I.env0 (hb s us I.kIn hlen) rr h
  refine wpAny_call (codeAny_mono c ?_)
  intro res s' hres
  match res, hres with
  | .error e, he => exact hx pins σ H s e s' I he
  | .ok (.ret u), he => exact I.after he
  | .ok .next, he => exact he.elim
  | .ok .brk, he => exact he.elim
  | .ok .cont, he => exact he.elim

theorem pe_callG {x : Str} {p pos : Pos} {e : Expr} {es : List Expr} {t : TA}
    (F : FnG X.prog X.w X.K X.mg X.base CX k f fd ps sp) (hgd : X.A.guards = some []) (hr : Room k X.A) (hg : Gl X x)
    (hm : X.mg x = some (.ref f)) (hk : PySem.W.keepIn X.K (.ref f) = true) (hb : Binds X.K fd ps ds) (hd : Vals dvs ds)
    (hx : Passes CX X E) (ha : PA X (e :: es) t) (hdb : (x == ("__debug__" : Str)) = false := by decide)
    (he : starEach (e :: es) X.env = (false, eval e X.env) :: starEach es X.env := by rfl)
    (hpl : (backTo pos (starEach es X.env)).any (·.1) = false := by rfl) :
    PE X (.Call (.Name x p) (e :: es) [] pos) (tCall sp dvs E t) where
  run := by
    intro pins s σ H Q I h
    refine wpAny_Call_Name_kw (ld_glob I hg hm ?_ hdb)
    refine PySem.W.callWith_K (h₀ := X.base) I.ok.mod.kin hk ?_ he hpl
    refine thn (ha.run pos pins s σ H _ I h) ?_
    rintro us s1 ⟨vs, H1, I1, rel, q⟩
    exact ⟨I1.kIn, run_fnG F hgd hr hb hd hx I1 rel q⟩
end

/-! ### repr of data -/
mutual
theorem dp_nodict {K : PySem.W.Frag} {H : Hp} : ∀ (d : PyData) (v : V), Dp K H v d → d.hasDict = false
  | .none, _, _ => by simp only [PyData.hasDict]
  | .bool _, _, _ => by simp only [PyData.hasDict]
  | .int _, _, _ => by simp only [PyData.hasDict]
  | .str _, _, _ => by simp only [PyData.hasDict]
  | .list ds, _, h => by
    cases h with
    | lst _ ha => simp only [PyData.hasDict]; exact dpAll_nodict ds _ ha
  | .tuple ds, _, h => by
    cases h with
    | tup _ ha => simp only [PyData.hasDict]; exact dpAll_nodict ds _ ha
  | .dict _, _, h => by cases h
theorem dpAll_nodict {K : PySem.W.Frag} {H : Hp} : ∀ (ds : List PyData) (vs : List V), DpAll K H vs ds → PyData.hasDictAll ds = false
  | [], _, _ => by simp only [PyData.hasDictAll]
  | d :: ds, _, h => by
    cases h with
    | cons a b => simp only [PyData.hasDictAll, dp_nodict d _ a, dpAll_nodict ds _ b, Bool.or_self]
end

/-- repr(x) of data without dicts -/
def rRepr (K : PySem.W.Frag) : List V → Hp → VK → Prop := fun xs H Q => ∃ x d, xs = [x] ∧ Dp K H x d ∧
  d.showable = true ∧ d.depth ≤ 60 ∧ d.shown.length ≤ sizeLine ∧ Q (.str d.shown) H
theorem call_repr {X : Cx} (hgd : X.A.guards = some []) (hu : X.A.units + 64 < cLine) : CallR X (.builtin "repr") (rRepr X.K) := by
  intro pins s σ H xs us Q I rel h
  obtain ⟨x, d, rfl, dp, sh, hd, hz, q⟩ := h
  cases rel with
  | cons rx rt =>
    cases rt
    rename_i u
    obtain ⟨as, rd⟩ := Dp.reads I d x u dp rx
    have nod := dp_nodict d x dp
    cases dp with
    | non =>
      cases rx
      exact PySem.P.repr_of_none ⟨.str _, H, I.tok _, ⟨_, rfl⟩, q⟩
    | bl b =>
      cases rx
      exact PySem.P.repr_of_bool ⟨.str _, H, I.tok _, ⟨_, rfl⟩, q⟩
    | int i =>
      obtain ⟨t, rfl⟩ := rx
      exact PySem.P.repr_of_int (by simpa [PyData.showable] using sh) ⟨.str _, H, I.tok _, ⟨_, rfl⟩, q⟩
    | str z =>
      obtain ⟨t, rfl⟩ := rx
      exact PySem.P.repr_of_str ⟨.str _, H, I.tok _, ⟨_, rfl⟩, q⟩ (by simpa only [PyData.shown] using hz)
    | lst _ _ =>
      cases rx
      exact repr_of_reads' rd sh (PySem.PyData.noDict_hsm nod) hgd (by omega) (fun _ _ e => e) (fun h' t tk k => ⟨.str _, H, I.kept k, ⟨_, rfl⟩, q⟩) hz
    | tup _ _ =>
      cases rx
      exact repr_of_reads' rd sh (PySem.PyData.noDict_hsm nod) hgd (by omega) (fun _ _ e => e) (fun h' t tk k => ⟨.str _, H, I.kept k, ⟨_, rfl⟩, q⟩) hz
end Gd

/-! Ex: errors of own classes as values: made, their fields read, asked for their class. -/
namespace Gd
open PySem PySem.Spec PyProof.Rows L2

/-- what isinstance and the fields ask of such a class -/
structure ErC (K : PySem.W.Frag) (C : Addr) : Prop where
  ga : PySem.W.findIn K (.ref C) "__getattribute__" = some (some (.builtin "BaseException.__getattribute__"))
  gg : PySem.W.findIn K (.ref C) "__getattr__" = some none
  be : PySem.W.subIn K (.ref C) (.type "BaseException") = some true
  hd : PySem.W.hasDictIn K C = true
  ci : PySem.W.isClsIn K C = true
  cc : PySem.W.findIn K (.ref C) "__class__" = some (some (.builtin "object.__class__"))
  cg : PySem.W.specialIn K (.builtin "object.__class__") "__get__" = some (some (.builtin "getset_descriptor.__get__"))
  ct : PySem.W.takesIn K (.builtin "object.__class__") = some true
  om : PySem.W.mroIn K C (.type "object") = some true

section
variable {X : Cx} {CX : CXT} {pins : List (Addr × Obj)} {σ : L2.St} {H : Hp} {s : Shared}

/-- an error of the class at C stands at a, its fields fs (the last stored first) -/
def ErA (H : Hp) (a C : Addr) (fs : List (Str × V)) : Prop :=
  (H a = some (exo a C none) ∧ fs = []) ∨ ∃ d, H a = some (exo a C (some d)) ∧ H d = some (exd d fs)

/-- such an error, as the library's rules see it -/
theorem inst_of {a C : Addr} {fs : List (Str × V)} (I : Inv X pins σ H s) (e : ErA H a C fs) :
    ∃ ox od, PySem.W.InstAt s.heap a ox C od ∧ ∀ n v, fs.lookup n = some v →
      ∃ u o, od = some o ∧ PySem.W.lookIn n o = some (some u) ∧ RelV v u := by
  obtain ⟨e, rfl⟩ | ⟨d, e, ed⟩ := e
  · obtain ⟨t, ho⟩ := exo_at I.hok e
    exact ⟨_, none, ⟨ho, rfl, rfl, trivial⟩, fun n v z => by cases z⟩
  · obtain ⟨t, ho⟩ := exo_at I.hok e
    obtain ⟨mA, hns, rel⟩ := exd_at I.hok ed
    obtain ⟨od, hod, look⟩ := lookIn_ns hns
    refine ⟨_, some od, ⟨ho, rfl, rfl, hod⟩, fun n v z => ?_⟩
    have rn := rel n
    rw [z] at rn
    cases q : mA n with
    | none => rw [q] at rn; exact rn.elim
    | some u =>
      rw [q] at rn
      exact ⟨u, od, rfl, by rw [look, q], rn⟩

/-- isinstance(e, c) -/
def rIsEr (K : PySem.W.Frag) : List V → Hp → VK → Prop := fun xs H Q => ∃ (a C : Addr) (fs : List (Str × V)) (c : V) (u : Value) (b : Bool),
  xs = [.ref a, c] ∧ ErA H a C fs ∧ ErC K C ∧ ClsV c u ∧ PySem.W.kitOne K (.ref C) u = some b ∧ Q (.bl b) H
theorem call_isEr : CallR X (.builtin "isinstance") (rIsEr X.K) := by
  intro pins s σ H xs us Q I rel h
  obtain ⟨a, C, fs, c, u, b, rfl, ea, T, kc, kit, q⟩ := h
  obtain ⟨u1, u2, rfl, r1, r2⟩ := vals2 rel
  cases (show u1 = Value.ref a from r1)
  have e2 := kc.eq r2
  subst e2
  obtain ⟨ox, od, J, _⟩ := inst_of I ea
  have Z := PySem.W.kitx_exc (x := a) (ox := ox) (od := od) (K := X.K) T.ci T.ga T.gg T.be T.cc T.cg T.ct T.om
  exact PySem.W.kia_one Z I.kIn J kit (fun z => nomatch z) fun tk => ⟨.bl b, H, I.tok tk, rfl, q⟩

/-- e.f -/
def tErF (K : PySem.W.Frag) (f : Str) (te : TE) : TE := fun σ H Q => te σ H fun x H1 => ∃ (a C : Addr) (fs : List (Str × V)) (v : V),
  x = .ref a ∧ ErA H1 a C fs ∧ ErC K C ∧ PySem.W.findIn K (.ref C) f = some none ∧ fs.lookup f = some v ∧ Q v H1
theorem pe_erF {e : Expr} {te : TE} {pos : Pos} {f : Str} (he : PE X e te)
    (hb : attributeBase e f X.env (eval e X.env) = eval e X.env := by rfl) : PE X (.Attribute e f pos) (tErF X.K f te) where
  run := by
    intro pins s σ H Q I h
    refine attr_of hb (thn (he.run pins s σ H _ I h) ?_)
    rintro u s1 ⟨x, H1, I1, rx, a, C, fs, v, ex, ea, T, no, l, q⟩
    subst ex
    cases (show u = Value.ref a from rx)
    obtain ⟨ox, od, J, g⟩ := inst_of I1 ea
    obtain ⟨u, o, rfl, lk, ru⟩ := g f v l
    exact HandSPX.exc_get I1.kIn J T.ga T.gg T.be (PySem.W.findObj_own T.hd no rfl lk) (handed_of ru) ⟨v, H1, I1.tok _, ru, q⟩

/-- C(), an error class without an __init__ of its own -/
def tEr0 (C : Addr) : TE := fun _ H Q => ∀ a, H a = none → Q (.ref a) (upd H a (exo a C none))
theorem pe_er0 {C : Addr} {bmB : List Value} {B newId initId : String} {x : Str} {p pos : Pos} (F : ExcBaseFacts B newId initId bmB)
    (q : PySem.W.excIn X.K C bmB newId = true) (gC : X.mg x = some (.ref C)) (kC : PySem.W.keepIn X.K (.ref C) = true) (hg : Gl X x)
    (hdb : (x == ("__debug__" : Str)) = false := by decide) : PE X (.Call (.Name x p) [] [] pos) (tEr0 C) where
  run := by
    intro pins s σ H Q I h
    refine wpAny_Call_Name_kw (ld_glob I hg gC ?_ hdb)
    refine PySem.W.callWith_K0 I.kIn kC ?_
    obtain ⟨bm, N, nm, qn, bs, hdct, sn, sub, ab, col, dd, k0, k1, k2, k3, k5, mN, hC, hN, hni, T⟩ := exc_obj I.kIn q
    obtain ⟨hp, g, d, t, os⟩ := s
    refine wpAny_call_exc_subT F T hC hN hni ?_ (by show 0 ≤ sizeLine; exact Nat.zero_le _)
    intro h' a hm
    have fresh : H a = none := I.hok.gone hm.new
    obtain ⟨t0, ht, _, _⟩ := hm.there
    have lay : ObjOk X.prog X.w (upd H a (exo a C none)) h' a (exo a C none) := exo_ok ht
    refine ⟨.ref a, _, I.un (t' := t) ?_ ?_, rfl, h a fresh⟩
    · exact {
        keep := fun b u z _ _ _ => hm.keeps b u z
        slot := fun b u z _ _ _ => ⟨u.slots, hm.keeps b u z⟩
        free := fun b u z n _ => by rw [upd_ne (fun e => by rw [e] at z; have := hm.new; rw [this] at z; cases z)]; exact n
        there := fun b u z _ => ⟨u, hm.keeps b u z⟩
        tups := fun b xs z => by rw [upd_ne (ne_of_none z fresh)]; exact z
        frzs := fun b o u z => by rw [upd_ne (ne_of_none z fresh)]; exact z
        tbls := fun b ps z => ⟨#[], by rw [upd_ne (ne_of_none z fresh), z]; simp⟩ }
    · intro b u z
      by_cases e : b = a
      · subst e
        rw [upd_same] at z
        cases z
        exact lay
      · rw [upd_ne e] at z
        exact (I.hok b u z).stay (fun c v _ y => hm.keeps c v y) (fun c y => by rw [upd_ne (ne_of_none y fresh)]; exact y)
          fun c xs y => by rw [upd_ne (ne_of_none y fresh)]; exact y

/-- C(e, ..), C's own __init__ keeping sp -/
def tErI (C : Addr) (sp : Sp) (ta : TA) : TE := fun σ H Q => ta σ H fun vs H1 => vs.length ≤ 1000 ∧ ∀ a, H1 a = none →
  sp (.ref a :: vs) (upd H1 a (exo a C none)) (fun v H2 => v = .non ∧ Q (.ref a) H2) (fun _ _ _ => False)
theorem pe_erI {x : Str} {C fI : Addr} {k : Nat} {fd : FuncData} {ps : List Str} {sp : Sp} {e : Expr} {es : List Expr} {ta : TA} {p pos : Pos}
    (T : OexC X.K C) (iC : PySem.W.findIn X.K (.ref C) "__init__" = some (some (.ref fI))) (tI : PySem.W.typeIn X.K (.ref fI) = some (.type "function"))
    (F1 : FnOk X.prog X.w X.K X.mg X.base CX k fI fd ps sp) (hr : Room (k + 1) X.A) (hb : Binds X.K fd ps [])
    (hx : Passes CX X (fun _ _ _ => False)) (hg : Gl X x) (hm : X.mg x = some (.ref C)) (ha : PA X (e :: es) ta)
    (hdb : (x == ("__debug__" : Str)) = false := by decide)
    (he : starEach (e :: es) X.env = (false, eval e X.env) :: starEach es X.env := by rfl)
    (hpl : (backTo pos (starEach es X.env)).any (·.1) = false := by rfl) :
    PE X (.Call (.Name x p) (e :: es) [] pos) (tErI C sp ta) where
  run := by
    intro pins s σ H Q I h
    obtain ⟨nm, q, N, bs, bm, sn, sub, ab, col, dd, k0, k1, k2, k3, k5, hC, hbm⟩ := T.cls
    refine wpAny_Call_Name_kw (ld_glob I hg hm ?_ hdb)
    refine PySem.W.callWith_K (h₀ := X.base) I.ok.mod.kin T.kC (thn (ha.run pos pins s σ H _ I h) ?_) he hpl
    rintro us s1 ⟨vs, H1, I1, rel, few, next⟩
    refine ⟨I1.kIn, ?_⟩
    show wpAny _ _ (call (.ref C) us) _ _ _
    obtain ⟨hp, g, dr, tk, os⟩ := s1
    have above : hp.objs.size ≤ hp.objs.size + 1 := Nat.le_succ _
    have call := next (hp.objs.size + 1) (I1.hok.fresh above)
    have kept : ∀ b o, hp.get? b = some o → ((hp.push (PySem.W.kdv_tup us)).push (PySem.HandSPX.excO C hp.objs.size)).get? b = some o :=
      fun b o z => Heap.get?_push_of_some _ (Heap.get?_push_of_some _ z)
    have there : ((hp.push (PySem.W.kdv_tup us)).push (PySem.HandSPX.excO C hp.objs.size)).get? (hp.objs.size + 1) = some (PySem.HandSPX.excO C hp.objs.size) := by heap_get
    have I2 := I1.laid (t' := tk) (o := exo (hp.objs.size + 1) C none) kept above (exo_ok there)
    have rel2 : Vals (V.ref (hp.objs.size + 1) :: vs) (Value.ref (hp.objs.size + 1) :: us) := .cons rfl rel
    have len2 : (Value.ref (hp.objs.size + 1) :: us ++ []).length = ps.length := by
      rw [List.append_nil, ← rel2.length]
      exact F1.len _ _ _ _ call
    have usz : us.length ≤ sizeLine := by
      have := Paired.length rel
      rw [sizeLine_eq]
      omega
    have bound := hb _ (Value.ref (hp.objs.size + 1) :: us) I2.kIn len2
    rw [List.append_nil] at bound
    refine wpAny_call (PySem.HandSPX.call_own F.excBase_ValueError (fun Y => PySem.HandSPX.refsVE_contains Y bm hbm) (I1.kIn _ _ hC)
      (PySem.W.looks_findIn I1.kIn iC) (fun self => PySem.W.bind_fn I1.kIn self tI) usz ?_)
    refine codeAny_mono (F1.run _ X.stack _ _ ⟨Value.ref (hp.objs.size + 1) :: us, []⟩ _ _ _ (fun _ _ _ => False) (hr.make C us [])
      (I2.env0.make C us []) bound rel2 call) ?_
    intro r s' hr'
    match r, hr' with
    | .error er, z => exact hx pins σ _ _ er s' I2 z
    | .ok (.ret u), z =>
      obtain ⟨v, H2, I3, rv, ev, q2⟩ := I2.after z
      subst ev
      exact ⟨rv, ⟨V.ref (hp.objs.size + 1), H2, I3, rfl, q2⟩⟩
    | .ok .next, z => exact z.elim
    | .ok .brk, z => exact z.elim
    | .ok .cont, z => exact z.elim
end
end Gd

/-! Ge: the end of a law row over a def of the kind FnG. -/
namespace Gd
open PySem PySem.Spec PyProof.Rows L2

/-- what the law's call finds: an abstract heap that tracks the script at most, a base without it -/
structure Entry (P : Program) (w : World) (K : PySem.W.Frag) (mg : Str → Option Value) (s : Shared) (a : Addr) (ns : List Int)
    (H : Hp) (base : Heap) : Prop where
  only : Only H
  script : SqL K H a (ns.map V.int)
  kin : K.In base
  glob : base.Ns mainGlobals mg
  env : Env0 P w K mg base callerA [] s H
  old : ∀ (H' : Hp) (s' : Shared), Un [] [] H H' s.heap s'.heap → HOk P w H' s'.heap → PySem.OldK s.heap s'.heap

section
variable {P : Program} {w : World} {K : PySem.W.Frag} {mg mb : Str → Option Value} {s : Shared} {a : Addr} {vs : List Value} {ns : List Int}
theorem entry_of {H : Hp} (kin : K.In s.heap) (hns : s.heap.Ns mainGlobals mg) (hb : s.heap.Ns builtinsNs mb)
    (hbb : ∀ x : Str, x ≠ "__name__" → mb x = bootBuiltins x) (hlim : s.heap.NoLimit) (hg : s.gens = #[])
    (ha : s.heap.get? a = some { cls := .type "list", data := .seq vs.toArray })
    (o1 : Only H) (o2 : SqL K H a (ns.map V.int)) (o3 : HOk P w H s.heap) (o4 : ∀ b, H b ≠ none → b = a)
    (o5 : H a ≠ none → K.lookup a = none) : ∃ base, Entry P w K mg s a ns H base := by
  -- whatever isn't the script's own object is in the base
  have stays : ∀ {b : Addr} {o : Obj}, s.heap.get? b = some o → (b = a → H b = none) → (hidT s.heap H).get? b = some o := by
    intro b o e h
    refine hidT_get e ?_
    by_cases z : b = a
    · exact h z
    · exact Classical.byContradiction fun q => z (o4 b q)
  have ns_in : ∀ {b : Addr} {m : Str → Option Value}, s.heap.Ns b m → (hidT s.heap H).Ns b m := by
    rintro b m ⟨o, es, ep, e, d, r⟩
    refine ⟨o, es, ep, stays e fun z => ?_, d, r⟩
    rw [z, ha] at e
    rw [← Option.some.inj e] at d
    cases d
  have kin' : K.In (hidT s.heap H) := by
    intro b o e
    refine stays (kin b o e) fun z => Classical.byContradiction fun q => ?_
    rw [z] at q e
    rw [o5 q] at e
    cases e
  obtain ⟨mc, l1, l2⟩ := hlim
  refine ⟨hidT s.heap H, o1, o2, kin', ns_in hns, ?_, ?_⟩
  · refine ⟨rfl, ⟨kin', ns_in hns, ⟨mb, ns_in hb, hbb⟩, ⟨mc, ns_in l1, l2⟩⟩, fun b o e => of_hidT e, Nat.le_of_eq (hidT_size _ _), trivial, ?_, o3, .of_eq hg⟩
    intro b hm
    exact (List.not_mem_nil hm).elim
  · intro H' s' un ok'
    refine PySem.OldK.of_keep fun b o e => ?_
    cases q : H b with
    | none => exact un.keep b o e q List.not_mem_nil List.not_mem_nil
    | some u =>
      obtain z | ⟨ob, xs, z⟩ := o1 b
      · rw [q] at z
        cases z
      · obtain ⟨was, _⟩ := o3 b _ z
        obtain ⟨still, _⟩ := ok' b _ (un.frzs b ob _ z)
        rw [e] at was
        rw [Option.some.inj was]
        exact still

theorem entry_is (kin : K.In s.heap) (hns : s.heap.Ns mainGlobals mg) (hb : s.heap.Ns builtinsNs mb)
    (hbb : ∀ x : Str, x ≠ "__name__" → mb x = bootBuiltins x) (hlim : s.heap.NoLimit) (hg : s.gens = #[])
    (ha : s.heap.get? a = some { cls := .type "list", data := .seq vs.toArray })
    (hi : IntsAre vs ns) (hl : ns.length ≤ sizeLine) : ∃ H base, Entry P w K mg s a ns H base := by
  have rv := vals_ints hi
  have ln := hi.length
  cases hk : K.lookup a with
  | some o =>
    have e := kin a o hk
    rw [ha] at e
    cases e
    have sq : SqL K (fun _ => none) a (ns.map V.int) :=
      .inr ⟨_, vs.toArray, _, hk, rfl, rfl, rfl, by rw [List.size_toArray, ln]; exact hl, by simpa using rv⟩
    obtain ⟨base, E⟩ := entry_of (P := P) (w := w) kin hns hb hbb hlim hg ha (fun _ => .inl rfl) sq
      (fun b u z => by cases (show (none : Option HO) = some u from z)) (fun b z => absurd rfl z) fun z => absurd rfl z
    exact ⟨_, base, E⟩
  | none =>
    let H : Hp := fun b => if b = a then some (.frz { cls := .type "list", data := .seq vs.toArray } (.lst (ns.map V.int))) else none
    have at_a : H a = some (.frz { cls := .type "list", data := .seq vs.toArray } (.lst (ns.map V.int))) := if_pos rfl
    have off_a : ∀ {b}, b ≠ a → H b = none := fun z => if_neg z
    have ok : HOk P w H s.heap := by
      intro b u z
      by_cases q : b = a
      · subst q
        rw [at_a] at z
        cases z
        exact ⟨ha, by rw [List.length_map]; exact hl, vs, _, rv, ha⟩
      · rw [off_a q] at z
        cases z
    have on : Only H := by
      intro b
      by_cases q : b = a
      · subst q
        exact .inr ⟨_, _, at_a⟩
      · exact .inl (off_a q)
    obtain ⟨base, E⟩ := entry_of (P := P) (w := w) kin hns hb hbb hlim hg ha on (.inl (.inr ⟨_, at_a⟩)) ok
      (fun b z => Classical.byContradiction fun q => z (off_a q)) fun _ => hk
    exact ⟨H, base, E⟩
end

theorem walkG {l : PySem.W.OpenLaw} {n k : Nat} {q : Program} {loose : List Str} {XP : (Str → Option Value) → Heap → Prop}
    {YP : World → Heap → Prop} {d : DefRec} {K : Params → PySem.W.Frag} {sp : World → Sp} {x : Str}
    (hn : l.most = some n) (hn2 : n ≤ sizeLine) (hdf : d.params.defaults = []) (hr : Room k callerA)
    (hY : ∀ (w : World) (h : Heap), YP w h → (K w.params).In h)
    (F : ∀ (w : World) (mg : Str → Option Value) (fa : Addr) (h : Heap), (K w.params).In h → h.Ns mainGlobals mg → mg d.name = some (.ref fa) →
      ∃ fd : FuncData, (∀ (s : Shared) (u : Value), BindsTo s fd ⟨[u], []⟩ [(x, u)]) ∧
        ∀ base : Heap, (K w.params).In base → base.Ns mainGlobals mg → FnG l.prog w (K w.params) mg base CX0 k fa fd [x] (sp w))
    (hsp : ∀ (w : World) (H : Hp) (a : Addr) (ns : List Int), ns.length ≤ n → Only H → SqL (K w.params) H a (ns.map V.int) →
      sp w [.ref a] H (fun v _ => v = .bl true) fun _ _ _ => False) :
    PySem.W.WalkO q loose XP YP l.row.toRowW d [] (fun f vs => PySem.call f vs) := by
  refine Att.attach_call hn hdf ?_
  intro w s₀ s₁ mg mb fa o pm cd doc a vs ns G Y ho hd hcd hmg hobj hints hlen hgens
  have kin := hY w _ Y
  obtain ⟨fd, binds, all⟩ := F w mg fa _ kin G.T.g hmg
  obtain ⟨H, base, E⟩ := entry_is (P := l.prog) (w := w) kin G.T.g G.T.b G.T.builtins G.T.nolimit hgens hobj hints (Nat.le_trans hlen hn2)
  have run := (all base E.kin E.glob).go callerA [] s₁ H ⟨[.ref a], []⟩ [.ref a] [.ref a] _ _ rfl hr E.env (binds s₁ (.ref a)) (.cons rfl .nil)
    (hsp w H a ns hlen E.only E.script)
  refine codeAny_mono run ?_
  intro res s' hres
  match res, hres with
  | .ok (.ret u), ⟨v, H', os, bare, un, ok', rel, e⟩ =>
    subst e
    cases (show u = Value.bool true from rel)
    exact ⟨rfl, E.old H' s' un ok', os, bare⟩
end Gd

/-! Gr: repr of data, lists and tuples and dicts within one another. -/
namespace Gd
open PySem PySem.Spec PyProof.Rows L2
def kD : Key → PyData
  | .inl i => .int i
  | .inr x => .str x
mutual
/-- v is the data d, at the abstract heap -/
inductive Dq (K : PySem.W.Frag) (H : Hp) : V → PyData → Prop
  | non : Dq K H .non .none
  | bl (b : Bool) : Dq K H (.bl b) (.bool b)
  | int (i : Int) : Dq K H (.int i) (.int i)
  | str (x : Str) : Dq K H (.str x) (.str x)
  | lst {a : Addr} {xs : List V} {ds : List PyData} : SqL K H a xs → DqAll K H xs ds → Dq K H (.ref a) (.list ds)
  | tup {a : Addr} {xs : List V} {ds : List PyData} : SqT K H a xs → DqAll K H xs ds → Dq K H (.ref a) (.tuple ds)
  | dct {a : Addr} {kvs : List (Key × V)} {ds : List (PyData × PyData)} : Rd H a (.dK kvs) → DqKv K H kvs ds → Dq K H (.ref a) (.dict ds)
inductive DqAll (K : PySem.W.Frag) (H : Hp) : List V → List PyData → Prop
  | nil : DqAll K H [] []
  | cons {v : V} {vs : List V} {d : PyData} {ds : List PyData} : Dq K H v d → DqAll K H vs ds → DqAll K H (v :: vs) (d :: ds)
inductive DqKv (K : PySem.W.Frag) (H : Hp) : List (Key × V) → List (PyData × PyData) → Prop
  | nil : DqKv K H [] []
  | cons {k : Key} {v : V} {vs : List (Key × V)} {d : PyData} {ds : List (PyData × PyData)} : Dq K H v d → DqKv K H vs ds → DqKv K H ((k, v) :: vs) ((kD k, d) :: ds)
end

theorem ram_nil {h : Heap} {n : Nat} : ReadAtMost h n [] := fun b hb => (List.not_mem_nil hb).elim
/-- a value's own repr, and what it reads -/
structure Rp (prog : Program) (w : World) (h : Heap) (u : Value) (d : PyData) : Prop where
  reads : ∃ as, Reads h u d as
  repr : d.showable = true → d.shown.length ≤ sizeLine → ∃ bs, ReadAtMost h d.depth bs ∧ ReprK prog w bs h d.depth u d.shown
structure RpAll (prog : Program) (w : World) (h : Heap) (us : List Value) (ds : List PyData) : Prop where
  reads : ∃ as, ReadsAll h us ds as
  repr : PyData.showableAll ds = true → (∀ t ∈ PyData.shownAll ds, t.length ≤ sizeLine) →
    ∃ bs, ReadAtMost h (PyData.depthAll ds) bs ∧ ReprAllK prog w bs h (PyData.depthAll ds) us (PyData.shownAll ds)
section
variable {prog : Program} {w : World} {h : Heap}
theorem RpAll.nil : RpAll prog w h [] [] := ⟨⟨_, .nil⟩, fun _ _ => ⟨[], ram_nil, by simp only [PyData.shownAll]; exact .nil⟩⟩
theorem RpAll.cons {u : Value} {d : PyData} {us : List Value} {ds : List PyData} (a : Rp prog w h u d) (b : RpAll prog w h us ds) : RpAll prog w h (u :: us) (d :: ds) where
  reads := by
    obtain ⟨as, r⟩ := a.reads
    obtain ⟨bs, rs⟩ := b.reads
    exact ⟨_, .cons r rs⟩
  repr := by
    intro hs hz
    obtain ⟨s1, s2⟩ : d.showable = true ∧ PyData.showableAll ds = true := by simpa [PyData.showableAll] using hs
    obtain ⟨b1, m1, k1⟩ := a.repr s1 (hz _ (by simp only [PyData.shownAll]; exact List.mem_cons_self ..))
    obtain ⟨b2, m2, k2⟩ := b.repr s2 fun t ht => hz t (by simp only [PyData.shownAll]; exact List.mem_cons_of_mem _ ht)
    refine ⟨b1 ++ b2, ?_, ?_⟩
    · simp only [PyData.depthAll]
      exact (m1.mono (Nat.le_max_left _ _)).append (m2.mono (Nat.le_max_right _ _))
    · simp only [PyData.depthAll, PyData.shownAll]
      have sub1 : ∀ c ∈ b1, c ∈ b1 ++ b2 := fun c hc => List.mem_append_left _ hc
      have sub2 : ∀ c ∈ b2, c ∈ b1 ++ b2 := fun c hc => List.mem_append_right _ hc
      exact .cons ((k1.more sub1).level_le (Nat.le_max_left _ _)) (k2.more_le sub2 (Nat.le_max_right _ _))
theorem Rp.list {a : Addr} {o : Obj} {us : List Value} {n : Nat} {ds : List PyData} (ho : h.get? a = some o) (hc : o.cls = .type "list") (hd : o.data = .seq us.toArray n) (all : RpAll prog w h us ds) : Rp prog w h (.ref a) (.list ds) := by
  obtain ⟨as, rs⟩ := all.reads
  have r : Reads h (.ref a) (.list ds) _ := .list ho hc hd rs
  refine ⟨⟨_, r⟩, fun hs hz => ?_⟩
  have hz' : (listText (PyData.shownAll ds)).length ≤ sizeLine := by simpa only [PyData.shown] using hz
  obtain ⟨bs, m, k⟩ := all.repr (by simpa [PyData.showable] using hs) fun t ht => Nat.le_trans (listText_mem_le ht) hz'
  have deep : PyData.depthAll ds < PyData.depth (.list ds) := by simp only [PyData.depth]; omega
  have off : a ∉ bs := not_mem_of_deeper r deep m
  refine ⟨a :: bs, ReadAtMost.cons r (Nat.le_of_lt deep) m, ?_⟩
  simp only [PyData.depth, PyData.shown]
  cases us with
  | nil =>
    cases rs
    simp only [PyData.shownAll, listText_nil]
    exact ReprK.listEmpty ho hc hd
  | cons u us => exact ReprK.list ho hc hd off (by simpa using k.length_eq) fun i y e => k.item i y (by simpa using e)
theorem Rp.tuple {a : Addr} {o : Obj} {us : List Value} {n : Nat} {ds : List PyData} (ho : h.get? a = some o) (hc : o.cls = .type "tuple") (hd : o.data = .seq us.toArray n) (all : RpAll prog w h us ds) : Rp prog w h (.ref a) (.tuple ds) := by
  obtain ⟨as, rs⟩ := all.reads
  have r : Reads h (.ref a) (.tuple ds) _ := .tuple ho hc hd rs
  refine ⟨⟨_, r⟩, fun hs hz => ?_⟩
  have hz' : (tupleText (PyData.shownAll ds)).length ≤ sizeLine := by simpa only [PyData.shown] using hz
  obtain ⟨bs, m, k⟩ := all.repr (by simpa [PyData.showable] using hs) fun t ht => Nat.le_trans (tupleText_mem_le ht) hz'
  have deep : PyData.depthAll ds < PyData.depth (.tuple ds) := by simp only [PyData.depth]; omega
  refine ⟨a :: bs, ReadAtMost.cons r (Nat.le_of_lt deep) m, ?_⟩
  simp only [PyData.depth, PyData.shown]
  exact ReprK.tuple ho hc hd (not_mem_of_deeper r deep m) k
theorem Rp.dict {a : Addr} {o : Obj} {es : Array DictEntry} {n : Nat} {ds : List (PyData × PyData)} (ho : h.get? a = some o) (hc : o.cls = .type "dict") (hd : o.data = .dict es n) (low : (a == sysModules) = false)
    (ks : RpAll prog w h (es.toList.map (·.key)) (ds.map (·.1))) (vs : RpAll prog w h (es.toList.map (·.val)) (ds.map (·.2))) : Rp prog w h (.ref a) (.dict ds) := by
  obtain ⟨as, r1⟩ := ks.reads
  obtain ⟨bs, r2⟩ := vs.reads
  have r : Reads h (.ref a) (.dict ds) _ := .dict ho hc hd r1 r2
  refine ⟨⟨_, r⟩, fun hs hz => ?_⟩
  have hz' : (dictText (PyData.shownKv ds)).length ≤ sizeLine := by simpa only [PyData.shown] using hz
  obtain ⟨s1, s2⟩ := PyData.showableKv_split ds (by simpa [PyData.showable] using hs)
  obtain ⟨b1, m1, k1⟩ := ks.repr s1 fun t ht => by
    obtain ⟨p, hp, hl⟩ := PyData.shownKv_key_le ds t ht
    exact Nat.le_trans hl (Nat.le_trans (dictText_mem_le hp) hz')
  obtain ⟨b2, m2, k2⟩ := vs.repr s2 fun t ht => by
    obtain ⟨p, hp, hl⟩ := PyData.shownKv_val_le ds t ht
    exact Nat.le_trans hl (Nat.le_trans (dictText_mem_le hp) hz')
  have deep : PyData.depthKv ds < PyData.depth (.dict ds) := by simp only [PyData.depth]; omega
  have m := (m1.mono (PyData.depthAll_keys_le ds)).append (m2.mono (PyData.depthAll_vals_le ds))
  refine ⟨a :: (b1 ++ b2), ReadAtMost.cons r (Nat.le_of_lt deep) m, ?_⟩
  simp only [PyData.depth, PyData.shown, PyData.shownKv_eq]
  have sub1 : ∀ c ∈ b1, c ∈ b1 ++ b2 := fun c hc => List.mem_append_left _ hc
  have sub2 : ∀ c ∈ b2, c ∈ b1 ++ b2 := fun c hc => List.mem_append_right _ hc
  exact ReprK.dict ho hc hd low (not_mem_of_deeper r deep m) (ReprEntriesK.of_two es.toList _ _ (k1.more_le sub1 (PyData.depthAll_keys_le ds)) (k2.more_le sub2 (PyData.depthAll_vals_le ds)))
theorem Rp.int (i : Int) (t : Tok) : Rp prog w h (.int i t) (.int i) :=
  ⟨⟨_, .int i t⟩, fun hs _ => ⟨[], ram_nil, by simp only [PyData.shown]; exact .of_is (ReprIs.int t (by simpa [PyData.showable] using hs)) _ _ _⟩⟩
theorem Rp.str (x : Str) (t : Tok) : Rp prog w h (.str x t) (.str x) :=
  ⟨⟨_, .str x t⟩, fun _ hz => ⟨[], ram_nil, by simp only [PyData.shown]; exact .of_is (ReprIs.str x t (by simpa only [PyData.shown] using hz)) _ _ _⟩⟩
theorem Rp.bool (b : Bool) : Rp prog w h (.bool b) (.bool b) :=
  ⟨⟨_, .bool b⟩, fun _ _ => ⟨[], ram_nil, by simp only [PyData.shown]; exact .of_is (ReprIs.bool b) _ _ _⟩⟩
theorem Rp.none : Rp prog w h .none .none :=
  ⟨⟨_, .none⟩, fun _ _ => ⟨[], ram_nil, by simp only [PyData.shown]; exact .of_is ReprIs.none _ _ _⟩⟩
end
section
variable {X : Cx} {pins : List (Addr × Obj)} {σ : L2.St} {H : Hp} {s : Shared}
theorem key_rp {prog : Program} {w : World} {h : Heap} {k : Key} {u : Value} (e : keyIs k u = true) : Rp prog w h u (kD k) := by
  rcases keyIs_shape e with ⟨i, t, rfl, rfl⟩ | ⟨x, t, rfl, rfl⟩
  · exact Rp.int i t
  · exact Rp.str x t
mutual
theorem Dq.rp (I : Inv X pins σ H s) : ∀ (d : PyData) (v : V) (u : Value), Dq X.K H v d → RelV v u → Rp X.prog X.w s.heap u d
  | .none, _, _, h, r => by cases h; cases r; exact Rp.none
  | .bool b, _, _, h, r => by cases h; cases r; exact Rp.bool b
  | .int i, _, _, h, r => by cases h; obtain ⟨t, rfl⟩ := r; exact Rp.int i t
  | .str x, _, _, h, r => by cases h; obtain ⟨t, rfl⟩ := r; exact Rp.str x t
  | .list ds, _, _, h, r => by
    cases h with
    | lst hs ha =>
      cases r
      obtain ⟨its, rv, ⟨o, n, ho, hc, _, hd⟩, _⟩ := I.list hs
      exact Rp.list ho hc hd (DqAll.rp I ds _ its ha rv)
  | .tuple ds, _, _, h, r => by
    cases h with
    | tup hs ha =>
      cases r
      obtain ⟨its, rv, ⟨o, ho, hc, n, hd⟩, _⟩ := I.tuple hs
      exact Rp.tuple ho hc hd (DqAll.rp I ds _ its ha rv)
  | .dict ds, _, _, h, r => by
    cases h with
    | dct hs ha =>
      cases r
      obtain ⟨_, low, vs, kv, o, es, ep, ho, hx, hd, _, hp, _⟩ := dk_rd I.hok hs
      obtain ⟨k1, k2⟩ := DqKv.rp I ds _ vs es.toList ha kv hp
      exact Rp.dict ho hx.1 hd low k1 k2
theorem DqAll.rp (I : Inv X pins σ H s) : ∀ (ds : List PyData) (vs : List V) (us : List Value), DqAll X.K H vs ds → Vals vs us → RpAll X.prog X.w s.heap us ds
  | [], _, _, h, r => by cases h; cases r; exact RpAll.nil
  | d :: ds, _, _, h, r => by
    cases h with
    | cons h1 h2 =>
      cases r with
      | cons r1 r2 => exact RpAll.cons (Dq.rp I d _ _ h1 r1) (DqAll.rp I ds _ _ h2 r2)
theorem DqKv.rp (I : Inv X pins σ H s) : ∀ (ds : List (PyData × PyData)) (kvs : List (Key × V)) (vs : List (Key × Value)) (es : List DictEntry), DqKv X.K H kvs ds → KV kvs vs → Pairs (mixKind X.prog X.w) es vs →
    RpAll X.prog X.w s.heap (es.map (·.key)) (ds.map (·.1)) ∧ RpAll X.prog X.w s.heap (es.map (·.val)) (ds.map (·.2))
  | [], _, _, _, h, r, p => by cases h; cases r; cases p; exact ⟨RpAll.nil, RpAll.nil⟩
  | (dk, d) :: ds, _, _, _, h, r, p => by
    cases h with
    | cons h1 h2 =>
      cases r with
      | cons r1 r2 =>
        obtain ⟨r0, r1⟩ := r1
        cases p with
        | cons hk hv ht =>
          obtain ⟨a, b⟩ := DqKv.rp I ds _ _ _ h2 r2 ht
          simp only at r0 r1
          subst r0
          exact ⟨RpAll.cons (key_rp hk) a, RpAll.cons (Dq.rp I d _ _ h1 (by rw [← hv] at r1; exact r1)) b⟩
end
end
/-- repr(x) of data -/
def rReprQ (K : PySem.W.Frag) : List V → Hp → VK → Prop := fun xs H Q => ∃ x d, xs = [x] ∧ Dq K H x d ∧
  d.showable = true ∧ d.depth ≤ 60 ∧ d.shown.length ≤ sizeLine ∧ Q (.str d.shown) H
theorem call_reprQ {X : Cx} (hgd : X.A.guards = some []) (hu : X.A.units + 64 < cLine) : CallR X (.builtin "repr") (rReprQ X.K) := by
  intro pins s σ H xs us Q I rel h
  obtain ⟨x, d, rfl, dq, sh, hd, hz, q⟩ := h
  cases rel with
  | cons rx rt =>
    cases rt
    rename_i u
    cases dq with
    | non =>
      cases rx
      exact PySem.P.repr_of_none ⟨.str _, H, I.tok _, ⟨_, rfl⟩, q⟩
    | bl b =>
      cases rx
      exact PySem.P.repr_of_bool ⟨.str _, H, I.tok _, ⟨_, rfl⟩, q⟩
    | int i =>
      obtain ⟨t, rfl⟩ := rx
      exact PySem.P.repr_of_int (by simpa [PyData.showable] using sh) ⟨.str _, H, I.tok _, ⟨_, rfl⟩, q⟩
    | str z =>
      obtain ⟨t, rfl⟩ := rx
      exact PySem.P.repr_of_str ⟨.str _, H, I.tok _, ⟨_, rfl⟩, q⟩ (by simpa only [PyData.shown] using hz)
    | lst hs ha =>
      cases rx
      rename_i a zs ds
      obtain ⟨its, rv, ⟨o, n, ho, hc, _, hdt⟩, _⟩ := I.list hs
      have all := DqAll.rp I ds _ its ha rv
      obtain ⟨as, rs⟩ := all.reads
      have r : Reads s.heap (.ref a) (.list ds) _ := .list ho hc hdt rs
      have hz' : (listText (PyData.shownAll ds)).length ≤ sizeLine := by simpa only [PyData.shown] using hz
      obtain ⟨bs, m, k⟩ := all.repr (by simpa [PyData.showable] using sh) fun t ht => Nat.le_trans (listText_mem_le ht) hz'
      have deep : PyData.depthAll ds < PyData.depth (.list ds) := by simp only [PyData.depth]; omega
      refine call_repr_slot (by omega) ⟨o, ho, hc⟩ F.slot_list_repr.toG ?_
      cases its with
      | nil =>
        cases rs
        refine call_list_repr_empty ⟨o, ho, hc⟩ ho hdt ?_
        exact ⟨_, _, rfl, .str _, H, I.tok _, ⟨_, rfl⟩, by simpa only [PyData.shown, PyData.shownAll, listText_nil] using q⟩
      | cons u0 us0 =>
        refine call_list_reprK ho hc hdt (not_mem_of_deeper r deep m) (by simpa using k.length_eq) (fun i y e => k.item i y (by simpa using e)) hgd (fun b _ => Clear.nil b) (by show X.A.units + 1 + _ < cLine; omega) (fun _ _ e => e) (fun h' t tk kk => ?_) hz'
        exact ⟨_, _, rfl, .str _, H, I.kept kk, ⟨_, rfl⟩, by simpa only [PyData.shown] using q⟩
    | tup hs ha =>
      cases rx
      rename_i a zs ds
      obtain ⟨its, rv, ⟨o, ho, hc, n, hdt⟩, _⟩ := I.tuple hs
      have all := DqAll.rp I ds _ its ha rv
      obtain ⟨as, rs⟩ := all.reads
      have r : Reads s.heap (.ref a) (.tuple ds) _ := .tuple ho hc hdt rs
      have hz' : (tupleText (PyData.shownAll ds)).length ≤ sizeLine := by simpa only [PyData.shown] using hz
      obtain ⟨bs, m, k⟩ := all.repr (by simpa [PyData.showable] using sh) fun t ht => Nat.le_trans (tupleText_mem_le ht) hz'
      have deep : PyData.depthAll ds < PyData.depth (.tuple ds) := by simp only [PyData.depth]; omega
      refine call_repr_slot (by omega) ⟨o, ho, hc⟩ F.slot_tuple_repr ?_
      refine call_tuple_reprK ho hc hdt (not_mem_of_deeper r deep m) k hgd (fun b _ => Clear.nil b) (by show X.A.units + 1 + _ < cLine; omega) (fun _ _ e => e) (fun h' t tk kk => ?_) hz'
      exact ⟨_, _, rfl, .str _, H, I.kept kk, ⟨_, rfl⟩, by simpa only [PyData.shown] using q⟩
    | dct hs ha =>
      cases rx
      rename_i a kvs ds
      obtain ⟨_, low, vs, kv, o, es, ep, ho, hx, hdt, _, hp, _⟩ := dk_rd I.hok hs
      obtain ⟨ks, vals⟩ := DqKv.rp I ds _ vs es.toList ha kv hp
      obtain ⟨as, r1⟩ := ks.reads
      obtain ⟨bs, r2⟩ := vals.reads
      have r : Reads s.heap (.ref a) (.dict ds) _ := .dict ho hx.1 hdt r1 r2
      have hz' : (dictText (PyData.shownKv ds)).length ≤ sizeLine := by simpa only [PyData.shown] using hz
      obtain ⟨s1, s2⟩ := PyData.showableKv_split ds (by simpa [PyData.showable] using sh)
      obtain ⟨b1, m1, k1⟩ := ks.repr s1 fun t ht => by
        obtain ⟨p, hp, hl⟩ := PyData.shownKv_key_le ds t ht
        exact Nat.le_trans hl (Nat.le_trans (dictText_mem_le hp) hz')
      obtain ⟨b2, m2, k2⟩ := vals.repr s2 fun t ht => by
        obtain ⟨p, hp, hl⟩ := PyData.shownKv_val_le ds t ht
        exact Nat.le_trans hl (Nat.le_trans (dictText_mem_le hp) hz')
      have deep : PyData.depthKv ds < PyData.depth (.dict ds) := by simp only [PyData.depth]; omega
      have m := (m1.mono (PyData.depthAll_keys_le ds)).append (m2.mono (PyData.depthAll_vals_le ds))
      have sub1 : ∀ c ∈ b1, c ∈ b1 ++ b2 := fun c hc => List.mem_append_left _ hc
      have sub2 : ∀ c ∈ b2, c ∈ b1 ++ b2 := fun c hc => List.mem_append_right _ hc
      refine call_repr_slot (by omega) ⟨o, ho, hx.1⟩ F.slot_dict_repr ?_
      refine call_dict_reprK ho hx.1 hdt low (not_mem_of_deeper r deep m) (ReprEntriesK.of_two es.toList _ _ (k1.more_le sub1 (PyData.depthAll_keys_le ds)) (k2.more_le sub2 (PyData.depthAll_vals_le ds)))
        hgd (fun b _ => Clear.nil b) (by show X.A.units + 1 + _ < cLine; omega) (fun _ _ e => e) (fun h' t tk kk => ?_) (by rw [← PyData.shownKv_eq]; exact hz')
      exact ⟨_, _, rfl, .str _, H, I.kept kk, ⟨_, rfl⟩, by simpa only [PyData.shown, PyData.shownKv_eq] using q⟩
end Gd

/-! Lw: several clauses `except .. as n`; the end of a law row that makes lambdas, where no guard stands around. -/
namespace Gd
open PySem PySem.Spec PyProof.Rows L2

/-! ### several clauses, each with the name at slot i -/
abbrev Clause := Value × (Addr → Value → Option Addr → TS)
/-- behind the suite the name is gone -/
def offE (i : Nat) (D : Ends) : Ends :=
  { nx := fun σ H => D.nx (σ.set i none) H, rt := D.rt, bk := fun σ H => D.bk (σ.set i none) H, ct := fun σ H => D.ct (σ.set i none) H }
def wAll (K : PySem.W.Frag) (n i : Nat) (W : WX) (D : Ends) : List Clause → WX
  | [] => W
  | (c, ts) :: r => fun cls d σ H => ∃ b, PySem.W.exmOne K cls c = some b ∧
      (b = true → σ.length = n → ∀ a, H a = none → ts a cls d (offE i D) (σ.set i (some (.ref a))) H) ∧ (b = false → wAll K n i W D r cls d σ H)
inductive Clauses (X : Cx) (n : Str) : List ExceptHandler → List Clause → Prop
  | nil : Clauses X n [] []
  | cons {x : Str} {c : Value} {ts : Addr → Value → Option Addr → TS} {st : Stmt} {sts : List Stmt} {p1 p2 : Pos}
      {hds : List ExceptHandler} {l : List Clause} (nm : Names X x c)
      (su : ∀ (a : Addr) (oe : Obj) (cls : Value) (d : Option Addr) (pn : List (Addr × Obj)), Zc cls d oe →
        (∃ vs, oe.data = .fields vs) → PSs (X.suite a ((a, oe) :: pn)) (st :: sts) (ts a cls d))
      (rest : Clauses X n hds l) : Clauses X n (.ExceptHandler (some (.Name x p1)) (some n) (st :: sts) p2 :: hds) ((c, ts) :: l)

section
variable {X : Cx} {n : Str} {i : Nat} {body : List Stmt} {h₀ : ExceptHandler} {hds : List ExceptHandler} {l : List Clause} {pos : Pos} {tb : WX → TS} {W : WX}
theorem ps_tryAll (stk : X.stack = X.env :: X.outer) (frm : X.env.frame = some X.env.locals) (nd : X.N.Nodup) (at_ : X.N[i]? = some n)
    (loc : X.env.kindOf n = some .local) (tk : Takes X W)
    (hb : ∀ (V : WX) (pn : List (Addr × Obj)) (xe : Value → Shared → Prop), Takes (X.tr pn xe) V → PassesOwn (model X.prog X.w) X.A X.env xe →
      PSs (X.tr pn xe) body (tb V)) (hh : Clauses X n (h₀ :: hds) l) :
    PS X (.Try body (h₀ :: hds) [] [] pos) (fun D σ H => tb (wAll X.K X.N.length i W D l) D σ H) where
  run := by
    intro pins s σ H D I h
    have ok := I.ok
    have frames : X.A.frames = some (X.env :: X.outer) := by rw [ok.frames, stk]
    have isLoc : Loc X.env.scope n := .inl loc
    refine wpAny_Try_except (wpAny_mono ((hb (wAll X.K X.N.length i W D l) (X.pn ++ pins)
      (fun e s₁ => wpAny (model X.prog X.w) X.A (noteFrame e X.env)
        (fun _ s₂ => wpAny (model X.prog X.w) X.A (setFlight e none)
          (fun _ s₃ => wpAny (model X.prog X.w) X.A (handleBy e X.env (h₀ :: hds)) (SP X pins D) X.xe s₃) X.xe s₂) X.xe s₁)
      ?caught PassesOwn.looking).run [] s σ H D (I.toTry _) h) ?through fun _ _ z => z)
    case through =>
      intro f s1 q
      match f, q with
      | .next, ⟨σ', H', J, q⟩ => exact wpAny_execs_nil ⟨σ', H', J.ofTry ok, q⟩
      | .brk, ⟨σ', H', J, q⟩ => exact ⟨σ', H', J.ofTry ok, q⟩
      | .cont, ⟨σ', H', J, q⟩ => exact ⟨σ', H', J.ofTry ok, q⟩
      | .ret u, ⟨v, σ', H', J, r, q⟩ => exact ⟨v, σ', H', J.ofTry ok, r, q⟩
    case caught =>
      rintro u s' ⟨a, B, sI, pins', σ', H', cls, d, rfl, J0, nb, up, sky, na, os, ag, w⟩
      have J : Inv X pins σ' H' sI := J0.ofTry ok
      have sk : Sky B (X.env :: X.outer) a (Zc cls d) X.env.locals s'.heap := stk ▸ sky
      show wpAny (model X.prog X.w) X.A (noteFrame (.ref a) X.env) _ _ _
      refine Sky.land Zc.steady frames frm sk ?_
      intro hp fl up2
      have landed : Inv X pins σ' H' { s' with heap := hp } := J.landed nb fl.1 (up.trans up2) os ag
      obtain ⟨ob, vs, atA, zc, dat⟩ := fl.there
      have noFrame : a ∉ frs (X.env :: X.outer) := by
        intro hm
        obtain ⟨_, o', e', no⟩ := fl.2.2.1.mem hm
        rw [atA] at e'
        cases e'
        exact no _ dat
      have neL : a ≠ X.env.locals := fun z => noFrame (List.mem_filterMap.mpr ⟨X.env, List.mem_cons_self, by rw [frm, z]⟩)
      have neF : a ∉ X.fs := by
        intro hm
        obtain ⟨e, he, q⟩ := List.mem_filterMap.mp hm
        exact noFrame (List.mem_filterMap.mpr ⟨e, List.mem_cons_of_mem _ he, q⟩)
      have inSuite := landed.suite atA dat na neL neF
      have go : ∀ {hs : List ExceptHandler} {ls : List Clause}, Clauses X n hs ls → wAll X.K X.N.length i W D ls cls d σ' H' →
          wpAny (model X.prog X.w) X.A (handleBy (.ref a) X.env hs) (SP X pins D) X.xe { s' with heap := hp } := by
        intro hs ls k
        induction k with
        | nil =>
          intro w
          refine wpAny_handleBy_nil ?_
          obtain ⟨_, _, _, oe, vs2, T, oT, ts', he, hz, hd, h1, _⟩ := id fl
          unfold PySem.passOn
          refine wpAny_bind (wpAny_field he hd h1 ?_)
          have ref : ¬ ((Value.ref T == Value.none) = true) := by simp
          rw [if_neg ref]
          have fin : wpAny (model X.prog X.w) X.A (setFlight (.ref a) X.env.frame)
              (fun _ s4 => wpAny (model X.prog X.w) X.A (throw (.ref a) : Sem Flow) (SP X pins D) X.xe s4) X.xe { s' with heap := hp } := by
            rw [frm]
            refine HandSPX.setFlight_upZ fl fun h4 hh4 up4 => wpAny_throw (tk _ _ ?_)
            exact ⟨a, B, sI, pins, σ', H', cls, d, rfl, J, nb, (up.trans up2).trans up4, .inr (.inr (stk ▸ hh4)), na, os, ag, w⟩
          first
            | exact wpAny_bind (wpAny_pure (wpAny_bind fin))
            | exact wpAny_bind fin
        | @cons x c ts st sts p1 p2 hds2 l2 nm su rest ih =>
          rintro ⟨b, hb1, yes, no⟩
          refine wpAny_handleBy_cons (codeAny_handlers_test ?_) (fun q => by cases q)
          have typ : PySem.W.Looks (model X.prog X.w) hp (typeOf (.ref a)) cls :=
            fun A Q E s k q => wpAny_typeOf_ref (k _ _ atA) (by rw [zc.1]; exact q)
          have fits := PySem.W.exm_one (M := model X.prog X.w) (landed.kIn) typ hb1
          have named : ∀ {Q : Value → Shared → Prop} {E : Value → Shared → Prop}, Q c { s' with heap := hp } →
              wpAny (model X.prog X.w) (X.A.mark (some (.ref a))) (eval (.Name x p1) X.env) Q E { s' with heap := hp } := by
            intro Q E q
            obtain ⟨hg, dbg, hm | ⟨hm, hv, hn⟩⟩ := nm
            · exact ld_glob (X := X.suite a ((a, ob) :: (X.pn ++ pins))) inSuite hg hm q dbg
            · exact ld_blt (X := X.suite a ((a, ob) :: (X.pn ++ pins))) inSuite hg hm hv q hn dbg
          refine named (fits.here ?_)
          cases b with
          | false =>
            show wpAny _ X.A (handleBy (.ref a) X.env hds2) _ _ _
            exact ih (no rfl)
          | true =>
            refine codeAny_handlers_suite_as (HandSPX.lands_againZ fl ?_)
            intro h4 fl4 up4
            have land4 : Inv X pins σ' H' { s' with heap := h4 } := J.landed nb fl4.1 ((up.trans up2).trans up4) os ag
            obtain ⟨ob4, vs4, at4, z4, d4⟩ := fl4.there
            have in4 := land4.suite at4 d4 na neL neF
            refine store_ok (X := X.suite a ((a, ob4) :: (X.pn ++ pins))) (v := .ref a) in4 nd at_ isLoc rfl ?_ (.inr loc)
            intro s5 S5
            refine wpAny_mono ((su a ob4 cls d (X.pn ++ pins) z4 ⟨_, d4⟩).run [] s5 _ H' _ S5 (yes rfl J.len a na)) ?_ fun _ _ z => z.elim
            intro f s6 q
            have over : ∀ {σ6 : L2.St} {H6 : Hp} {Q : Shared → Prop}, Inv (X.suite a ((a, ob4) :: (X.pn ++ pins))) [] σ6 H6 s6 →
                (∀ s7, Inv X pins (σ6.set i none) H6 s7 → Q s7) →
                wpAny (model X.prog X.w) X.A (do bindName X.env n .none; unbindBehindTheSuite X.env n p2) (fun _ s7 => Q s7) X.xe s6 :=
              fun S q => gone_ok (S.unsuite ok) nd at_ loc q
            match f, q with
            | .next, ⟨σ6, H6, S6, q6⟩ => exact over S6 fun s7 J7 => ⟨_, _, J7, q6⟩
            | .brk, ⟨σ6, H6, S6, q6⟩ => exact over S6 fun s7 J7 => ⟨_, _, J7, q6⟩
            | .cont, ⟨σ6, H6, S6, q6⟩ => exact over S6 fun s7 J7 => ⟨_, _, J7, q6⟩
            | .ret u, ⟨v6, σ6, H6, S6, r6, q6⟩ => exact over S6 fun s7 J7 => ⟨_, _, _, J7, r6, q6⟩
      exact go hh w
end

/-! ### the law's end, the tables of its makers' code objects tracked -/
open LamX in
/-- what the law's call finds -/
structure EntryT (P : Program) (w : World) (K : PySem.W.Frag) (mg : Str → Option Value) (s : Shared) (a : Addr) (ns : List Int)
    (cs : List (Addr × Addr)) (H : Hp) (base : Heap) : Prop where
  tabs : ∀ p ∈ cs, H p.2 = some (.tbl #[])
  script : SqL K H a (ns.map V.int)
  kin : K.In base
  glob : base.Ns mainGlobals mg
  env : Env0 P w K mg base callerA [] s H
  bs : ∀ p ∈ cs, TabB base mg p.1 p.2
  old : ∀ (H' : Hp) (s' : Shared), Un [] [] H H' s.heap s'.heap → HOk P w H' s'.heap → PySem.OldK s.heap s'.heap

section
variable {P : Program} {w : World} {K : PySem.W.Frag} {mg mb : Str → Option Value} {s : Shared} {a : Addr} {vs : List Value} {ns : List Int} {cs : List (Addr × Addr)}
open LamX in
theorem entryT_of {H : Hp} (kin : K.In s.heap) (hns : s.heap.Ns mainGlobals mg) (hb : s.heap.Ns builtinsNs mb)
    (hbb : ∀ x : Str, x ≠ "__name__" → mb x = bootBuiltins x) (hlim : s.heap.NoLimit) (hg : s.gens = #[])
    (bmain : ∃ (bm : Addr) (ob : Obj), mg "__builtins__" = some (.ref bm) ∧ bm ≠ builtinsNs ∧ s.heap.get? bm = some ob ∧
      ob.cls = .type "module" ∧ ob.dict = some builtinsNs ∧ ob.data = .plain)
    (tabs : ∀ p ∈ cs, s.heap.get? p.2 = some { cls := .none, data := .fields #[] }) (noK : ∀ p ∈ cs, K.lookup p.2 = none)
    (heads : ∀ p ∈ cs, PySem.W.CodeHd s.heap p.1 p.2)
    (ha : s.heap.get? a = some { cls := .type "list", data := .seq vs.toArray })
    (o0 : ∀ p ∈ cs, H p.2 = some (.tbl #[])) (o1 : ∀ b, H b = none ∨ (∃ p ∈ cs, p.2 = b) ∨ ∃ o xs, H b = some (.frz o (.lst xs)))
    (o2 : SqL K H a (ns.map V.int)) (o3 : HOk P w H s.heap) (o4 : ∀ b, H b ≠ none → b = a ∨ ∃ p ∈ cs, p.2 = b)
    (o5 : H a ≠ none → K.lookup a = none) : ∃ base, EntryT P w K mg s a ns cs H base := by
  -- an object that is neither a sequence nor an empty record is in the base
  have stays : ∀ {b : Addr} {o : Obj}, s.heap.get? b = some o → (b = a → H b = none) → o.data ≠ .fields #[] → (hidT s.heap H).get? b = some o := by
    intro b o e h no
    refine hidT_get e (Classical.byContradiction fun q => ?_)
    obtain z | ⟨p, hp, z⟩ := o4 b q
    · exact q (h z)
    · have t := tabs p hp
      rw [z, e] at t
      rw [Option.some.inj t] at no
      exact no rfl
  have other : ∀ {b : Addr} {o : Obj}, s.heap.get? b = some o → (∀ xs n, o.data ≠ .seq xs n) → o.data ≠ .fields #[] → (hidT s.heap H).get? b = some o := by
    intro b o e nos nof
    refine stays e (fun z => ?_) nof
    rw [z, ha] at e
    rw [← Option.some.inj e] at nos
    exact (nos _ _ rfl).elim
  have ns_in : ∀ {b : Addr} {m : Str → Option Value}, s.heap.Ns b m → (hidT s.heap H).Ns b m := by
    rintro b m ⟨o, es, ep, e, d, r⟩
    refine ⟨o, es, ep, other e (fun xs n z => ?_) (fun z => ?_), d, r⟩
    · rw [d] at z
      cases z
    · rw [d] at z
      cases z
  have kin' : K.In (hidT s.heap H) := by
    intro b o e
    refine hidT_get (kin b o e) (Classical.byContradiction fun q => ?_)
    obtain z | ⟨p, hp, z⟩ := o4 b q
    · rw [z] at q e
      rw [o5 q] at e
      cases e
    · rw [← z, noK p hp] at e
      cases e
  have noPlain : ∀ {o : Obj}, o.data = .plain → (∀ xs n, o.data ≠ .seq xs n) ∧ o.data ≠ .fields #[] := by
    intro o d
    rw [d]
    refine ⟨fun xs n z => ?_, fun z => ?_⟩ <;> cases z
  obtain ⟨mc, l1, l2⟩ := hlim
  refine ⟨hidT s.heap H, o0, o2, kin', ns_in hns, ?_, ?_, ?_⟩
  · refine ⟨rfl, ⟨kin', ns_in hns, ⟨mb, ns_in hb, hbb⟩, ⟨mc, ns_in l1, l2⟩⟩, fun b o e => of_hidT e, Nat.le_of_eq (hidT_size _ _), trivial, ?_, o3, .of_eq hg⟩
    intro b hm
    exact (List.not_mem_nil hm).elim
  · intro p hp
    refine ⟨?_, ?_, ?_⟩
    · obtain ⟨o, us, file, tf, flags, tg, inF, text, tt, e1, r1, r2, r3, rest⟩ := heads p hp
      refine ⟨o, us, file, tf, flags, tg, inF, text, tt, other e1 (fun xs n z => ?_) (fun z => ?_), r1, r2, r3, rest⟩
      · rw [r2] at z
        cases z
      · rw [r2] at z
        cases z
        simp at r3
    · obtain ⟨bm, ob, b1, b2, b3, b4, b5, b6⟩ := bmain
      refine ⟨bm, ob, b1, b2, fun z => ?_, fun z => ?_, other b3 (noPlain b6).1 (noPlain b6).2, b4, b5, b6⟩
      · obtain ⟨o, es, ep, e, d, _⟩ := hns
        rw [z, e] at b3
        rw [← Option.some.inj b3, d] at b6
        cases b6
      · rw [z, tabs p hp] at b3
        rw [← Option.some.inj b3] at b6
        cases b6
    · intro z
      obtain ⟨o, es, ep, e, d, _⟩ := hns
      rw [z, tabs p hp] at e
      rw [← Option.some.inj e] at d
      cases d
  · intro H' s' un ok'
    have grown : ∀ p ∈ cs, ∃ more : Array Value, s'.heap.get? p.2 = some { cls := .none, data := .fields more } := by
      intro p hp
      obtain ⟨more, z⟩ := un.tbls p.2 #[] (o0 p hp)
      exact ⟨_, ok' p.2 _ z⟩
    have key : ∀ b o, (∀ p ∈ cs, p.2 ≠ b) → s.heap.get? b = some o → s'.heap.get? b = some o := by
      intro b o nb e
      cases q : H b with
      | none => exact un.keep b o e q List.not_mem_nil List.not_mem_nil
      | some u =>
        obtain z | ⟨p, hp, z⟩ | ⟨ob, xs, z⟩ := o1 b
        · rw [q] at z
          cases z
        · exact (nb p hp z).elim
        · obtain ⟨was, _⟩ := o3 b _ z
          obtain ⟨still, _⟩ := ok' b _ (un.frzs b ob _ z)
          rw [e] at was
          rw [Option.some.inj was]
          exact still
    refine ⟨fun b o e => ?_, fun b o e => ?_⟩
    · by_cases hb' : ∃ p ∈ cs, p.2 = b
      · obtain ⟨p, hp, rfl⟩ := hb'
        obtain ⟨more, hm⟩ := grown p hp
        have t := tabs p hp
        rw [e] at t
        rw [Option.some.inj t]
        exact .inr (.inl ⟨((heads p hp).tab (tabs p hp)).isCodeTable, rfl, #[], more, rfl, by rw [Array.empty_append]; exact hm⟩)
      · exact .inl (key b o (fun p hp z => hb' ⟨p, hp, z⟩) e)
    · by_cases hb' : ∃ p ∈ cs, p.2 = b
      · obtain ⟨p, hp, rfl⟩ := hb'
        obtain ⟨more, hm⟩ := grown p hp
        exact ⟨_, hm⟩
      · exact ⟨o, key b o (fun p hp z => hb' ⟨p, hp, z⟩) e⟩

open LamX in
theorem entryT_is (kin : K.In s.heap) (hns : s.heap.Ns mainGlobals mg) (hb : s.heap.Ns builtinsNs mb)
    (hbb : ∀ x : Str, x ≠ "__name__" → mb x = bootBuiltins x) (hlim : s.heap.NoLimit) (hg : s.gens = #[])
    (bmain : ∃ (bm : Addr) (ob : Obj), mg "__builtins__" = some (.ref bm) ∧ bm ≠ builtinsNs ∧ s.heap.get? bm = some ob ∧
      ob.cls = .type "module" ∧ ob.dict = some builtinsNs ∧ ob.data = .plain)
    (tabs : ∀ p ∈ cs, s.heap.get? p.2 = some { cls := .none, data := .fields #[] }) (noK : ∀ p ∈ cs, K.lookup p.2 = none)
    (heads : ∀ p ∈ cs, PySem.W.CodeHd s.heap p.1 p.2)
    (ha : s.heap.get? a = some { cls := .type "list", data := .seq vs.toArray })
    (hi : IntsAre vs ns) (hl : ns.length ≤ sizeLine) : ∃ H base, EntryT P w K mg s a ns cs H base := by
  have rv := vals_ints hi
  have ln := hi.length
  have noT : ¬ ∃ p ∈ cs, p.2 = a := by
    rintro ⟨p, hp, z⟩
    have t := tabs p hp
    rw [z, ha] at t
    have d := congrArg Obj.data (Option.some.inj t)
    cases d
  let T : Hp := fun b => if ∃ p ∈ cs, p.2 = b then some (.tbl #[]) else none
  have T_in : ∀ {b}, (∃ p ∈ cs, p.2 = b) → T b = some (.tbl #[]) := fun z => if_pos z
  have T_off : ∀ {b}, (¬ ∃ p ∈ cs, p.2 = b) → T b = none := fun z => if_neg z
  have okT : ∀ (H : Hp) b u, T b = some u → ObjOk P w H s.heap b u := by
    intro H b u z
    by_cases q : ∃ p ∈ cs, p.2 = b
    · rw [T_in q] at z
      cases z
      obtain ⟨p, hp, rfl⟩ := q
      exact tabs p hp
    · rw [T_off q] at z
      cases z
  cases hk : K.lookup a with
  | some o =>
    have e := kin a o hk
    rw [ha] at e
    cases e
    have sq : SqL K T a (ns.map V.int) :=
      .inr ⟨_, vs.toArray, _, hk, rfl, rfl, rfl, by rw [List.size_toArray, ln]; exact hl, by simpa using rv⟩
    obtain ⟨base, E⟩ := entryT_of (P := P) (w := w) (H := T) kin hns hb hbb hlim hg bmain tabs noK heads ha (fun p hp => T_in ⟨p, hp, rfl⟩)
      (fun b => by
        by_cases q : ∃ p ∈ cs, p.2 = b
        · exact .inr (.inl q)
        · exact .inl (T_off q)) sq (fun b u z => okT T b u z)
      (fun b z => by
        by_cases q : ∃ p ∈ cs, p.2 = b
        · exact .inr q
        · exact (z (T_off q)).elim) fun z => (z (T_off noT)).elim
    exact ⟨_, base, E⟩
  | none =>
    let H : Hp := fun b => if b = a then some (.frz { cls := .type "list", data := .seq vs.toArray } (.lst (ns.map V.int))) else T b
    have at_a : H a = some (.frz { cls := .type "list", data := .seq vs.toArray } (.lst (ns.map V.int))) := if_pos rfl
    have off_a : ∀ {b}, b ≠ a → H b = T b := fun z => if_neg z
    have H_in : ∀ p ∈ cs, H p.2 = some (.tbl #[]) := by
      intro p hp
      rw [off_a fun z => noT ⟨p, hp, z⟩]
      exact T_in ⟨p, hp, rfl⟩
    have ok : HOk P w H s.heap := by
      intro b u z
      by_cases q : b = a
      · subst q
        rw [at_a] at z
        cases z
        exact ⟨ha, by rw [List.length_map]; exact hl, vs, _, rv, ha⟩
      · rw [off_a q] at z
        exact okT H b u z
    obtain ⟨base, E⟩ := entryT_of (P := P) (w := w) (H := H) kin hns hb hbb hlim hg bmain tabs noK heads ha H_in
      (fun b => by
        by_cases q : b = a
        · subst q
          exact .inr (.inr ⟨_, _, at_a⟩)
        · by_cases r : ∃ p ∈ cs, p.2 = b
          · exact .inr (.inl r)
          · exact .inl ((off_a q).trans (T_off r))) (.inl (.inr ⟨_, at_a⟩)) ok
      (fun b z => by
        by_cases q : b = a
        · exact .inl q
        · rw [off_a q] at z
          by_cases r : ∃ p ∈ cs, p.2 = b
          · exact .inr r
          · exact (z (T_off r)).elim) fun _ => hk
    exact ⟨H, base, E⟩
end

open LamX in
theorem walkT {l : PySem.W.OpenLaw} {n k : Nat} {q : Program} {loose : List Str} {XP : (Str → Option Value) → Heap → Prop}
    {YP : World → Heap → Prop} {d : DefRec} {K : Params → PySem.W.Frag} {cs : List (Addr × Addr)} {sp : World → Sp} {x : Str}
    (hn : l.most = some n) (hn2 : n ≤ sizeLine) (hdf : d.params.defaults = []) (hr : Room k callerA)
    (hY : ∀ (w : World) (h : Heap), YP w h → (K w.params).In h)
    (hT : ∀ (w : World) (h : Heap), YP w h → ∀ p ∈ cs, h.get? p.2 = some { cls := .none, data := .fields #[] })
    (F : ∀ (w : World) (mg : Str → Option Value) (fa : Addr) (h : Heap), (K w.params).In h → h.Ns mainGlobals mg → mg d.name = some (.ref fa) →
      (∀ p ∈ cs, (K w.params).lookup p.2 = none ∧ PySem.W.codeHdIn (K w.params) p.1 p.2 = true) ∧
      ∃ fd : FuncData, (∀ (s : Shared) (u : Value), BindsTo s fd ⟨[u], []⟩ [(x, u)]) ∧
        ∀ base : Heap, (K w.params).In base → base.Ns mainGlobals mg → (∀ p ∈ cs, TabB base mg p.1 p.2) →
          FnG l.prog w (K w.params) mg base CX0 k fa fd [x] (sp w))
    (hsp : ∀ (w : World) (H : Hp) (a : Addr) (ns : List Int), ns.length ≤ n → (∀ p ∈ cs, H p.2 = some (.tbl #[])) → SqL (K w.params) H a (ns.map V.int) →
      sp w [.ref a] H (fun v _ => v = .bl true) fun _ _ _ => False) :
    PySem.W.WalkO q loose XP YP l.row.toRowW d [] (fun f vs => PySem.call f vs) := by
  refine Att.attach_call hn hdf ?_
  intro w s₀ s₁ mg mb fa o pm cd doc a vs ns G Y ho hd hcd hmg hobj hints hlen hgens
  have kin := hY w _ Y
  obtain ⟨heads, fd, binds, all⟩ := F w mg fa _ kin G.T.g hmg
  obtain ⟨H, base, E⟩ := entryT_is (P := l.prog) (w := w) kin G.T.g G.T.b G.T.builtins G.T.nolimit hgens G.T.bmain (hT w _ Y)
    (fun p hp => (heads p hp).1) (fun p hp => PySem.W.codeHd_of_K kin (heads p hp).2) hobj hints (Nat.le_trans hlen hn2)
  have run := (all base E.kin E.glob E.bs).go callerA [] s₁ H ⟨[.ref a], []⟩ [.ref a] [.ref a] _ _ rfl hr E.env (binds s₁ (.ref a)) (.cons rfl .nil)
    (hsp w H a ns hlen E.tabs E.script)
  refine codeAny_mono run ?_
  intro res s' hres
  match res, hres with
  | .ok (.ret u), ⟨v, H', os, bare, un, ok', rel, e⟩ =>
    subst e
    cases (show u = Value.bool true from rel)
    exact ⟨rfl, E.old H' s' un ok', os, bare⟩

/-! ### a lambda's body: what a callee raises leaves it -/
open LamX in
theorem takesLam {X : Cx} {A : Around} {outer : List Env} {s : Shared} {H : Hp} {E : XK} {scope : Scope} {f c : Addr} :
    Passes (L2.CX X.prog X.w) (lamCx X A outer s H E scope f c) E :=
  passes_call (takes_of (X := lamCx X A outer s H E scope f c) (E := E) rfl rfl rfl rfl) fun _ _ _ _ h => h

/-! ### a written dict of ints: each value a tuple of ints -/
def keyI : Value → Option Int
  | .int i _ => some i
  | _ => none
def allI : List Value → Option (List Int)
  | [] => some []
  | v :: r => match keyI v, allI r with
    | some i, some is => some (i :: is)
    | _, _ => none
/-- the ints of the tuple of the written part at a -/
def tupI (K : PySem.W.Frag) : Value → Option (List Int)
  | .ref a => match K.lookup a with
    | some ⟨.type "tuple", none, .seq us _, _⟩ => allI us.toList
    | _ => none
  | _ => none
def rowsI (K : PySem.W.Frag) : List DictEntry → Option (List (Int × List Int))
  | [] => some []
  | e :: r => match keyI e.key, tupI K e.val, rowsI K r with
    | some i, some t, some l => if e.hash = hashInt i then some ((i, t) :: l) else none
    | _, _, _ => none
def dictI (K : PySem.W.Frag) (d : Addr) : Option (List (Int × List Int)) :=
  match K.lookup d with
  | some ⟨.type "dict", none, .dict es _, sl⟩ => if sl.isEmpty && !(d == sysModules) then rowsI K es.toList else none
  | _ => none

theorem keyI_some {v : Value} {i : Int} (h : keyI v = some i) : ∃ t, v = .int i t := by
  cases v <;> simp_all [keyI]
theorem allI_some : ∀ {us : List Value} {is : List Int}, allI us = some is → Vals (is.map V.int) us := by
  intro us
  induction us with
  | nil =>
    intro is h
    cases h
    exact .nil
  | cons v r ih =>
    intro is h
    unfold allI at h
    split at h
    · rename_i i l e1 e2
      cases h
      obtain ⟨t, rfl⟩ := keyI_some e1
      exact .cons ⟨t, rfl⟩ (ih e2)
    · cases h

theorem tupI_some {K : PySem.W.Frag} {v : Value} {is : List Int} (h : tupI K v = some is) :
    ∃ a us n sl, v = .ref a ∧ K.lookup a = some ⟨.type "tuple", none, .seq us n, sl⟩ ∧ Vals (is.map V.int) us.toList := by
  unfold tupI at h
  split at h
  · rename_i a
    split at h
    · rename_i us n sl e
      exact ⟨a, us, n, sl, rfl, e, allI_some h⟩
    · cases h
  · cases h

theorem rowsI_all {K : PySem.W.Frag} : ∀ {es : List DictEntry} {rows : List (Int × List Int)}, rowsI K es = some rows →
    (∀ e ∈ es, ∃ k t, e.key = .int k t ∧ e.hash = hashInt k) ∧
    (∀ k, rows.lookup k = none → (es.find? fun e => Value.isInt k e.key) = none) ∧
    ∀ k is, rows.lookup k = some is → ∃ e, (es.find? fun e => Value.isInt k e.key) = some e ∧ tupI K e.val = some is := by
  intro es
  induction es with
  | nil =>
    intro rows h
    cases h
    exact ⟨fun e he => (List.not_mem_nil he).elim, fun _ _ => rfl, fun k is z => by cases z⟩
  | cons e r ih =>
    intro rows h
    unfold rowsI at h
    split at h
    · rename_i i t l e1 e2 e3
      split at h
      · rename_i hh
        cases h
        obtain ⟨tk, ek⟩ := keyI_some e1
        obtain ⟨h1, h2, h3⟩ := ih e3
        have test : ∀ k, Value.isInt k e.key = decide (i = k) := by
          intro k
          rw [ek]
          show (i == k) = decide (i = k)
          by_cases q : i = k
          · subst q
            rw [beq_self_eq_true, decide_eq_true rfl]
          · rw [beq_eq_false_iff_ne.mpr q, decide_eq_false q]
        refine ⟨fun x hx => ?_, fun k z => ?_, fun k is z => ?_⟩
        · obtain rfl | hx := List.mem_cons.mp hx
          · exact ⟨i, tk, ek, hh⟩
          · exact h1 x hx
        · rw [List.lookup_cons] at z
          rw [List.find?_cons, test]
          by_cases q : k = i
          · subst q
            rw [beq_self_eq_true] at z
            cases z
          · rw [show (k == i) = false from beq_eq_false_iff_ne.mpr q] at z
            rw [show decide (i = k) = false from decide_eq_false fun y => q y.symm]
            exact h2 k z
        · rw [List.lookup_cons] at z
          rw [List.find?_cons, test]
          by_cases q : k = i
          · subst q
            rw [beq_self_eq_true] at z
            cases z
            rw [show decide (k = k) = true from decide_eq_true rfl]
            exact ⟨e, rfl, e2⟩
          · rw [show (k == i) = false from beq_eq_false_iff_ne.mpr q] at z
            rw [show decide (i = k) = false from decide_eq_false fun y => q y.symm]
            exact h3 k is z
      · cases h
    · cases h

/-- what such a dict tells, as the library's dict rules want it -/
theorem dictI_map {K : PySem.W.Frag} {prog : Program} {w : World} {h : Heap} {d : Addr} {rows : List (Int × List Int)} (kin : K.In h)
    (e : dictI K d = some rows) : (d == sysModules) = false ∧ ∃ f : Int → Option Value, h.MapOf (PySem.intKind prog w) d f ∧
      (∀ k, rows.lookup k = none → f k = none) ∧ ∀ k is, rows.lookup k = some is → ∃ v, f k = some v ∧ tupI K v = some is := by
  unfold dictI at e
  split at e
  · rename_i es n sl hl
    split at e
    · rename_i hc
      rw [Bool.and_eq_true] at hc
      obtain ⟨c1, c2⟩ := hc
      obtain ⟨h1, h2, h3⟩ := rowsI_all e
      have c1 : sl = #[] := Array.isEmpty_iff.mp c1
      subst c1
      have same : ∀ k, findBy Value.isInt es k = ((es.toList.find? fun e => Value.isInt k e.key).map (·.val)) := by
        intro k
        obtain ⟨l⟩ := es
        unfold findBy
        rw [List.find?_toArray]
      refine ⟨by simpa using c2, fun k => findBy Value.isInt es k, ⟨_, es, n, kin _ _ hl, ⟨rfl, rfl, rfl⟩, rfl, fun x hx => ?_, fun k => rfl⟩, fun k z => ?_, fun k is z => ?_⟩
      · obtain ⟨k, t, ek, eh⟩ := h1 x (Array.mem_toList_iff.mpr hx)
        exact ⟨k, by rw [ek]; simp [PySem.intKind, Value.isInt], eh⟩
      · show findBy Value.isInt es k = none
        rw [same, h2 k z]
        rfl
      · obtain ⟨x, e1, e2⟩ := h3 k is z
        exact ⟨x.val, by show findBy Value.isInt es k = _; rw [same, e1]; rfl, e2⟩
    · cases e
  · cases e

section
variable {X : Cx}
/-- k not in d, of such a dict -/
def rNotInI (K : PySem.W.Frag) : R2 := fun x y H Q => ∃ (k : Int) (d : Addr) (rows : List (Int × List Int)),
  x = .int k ∧ y = .ref d ∧ dictI K d = some rows ∧ Q (.bl (!(rows.lookup k).isSome)) H
theorem op_notInI : OpR X (compareOp .NotIn) (rNotInI X.K) := by
  intro pins s σ H x y v u Q I rx ry h
  obtain ⟨k, d, rows, rfl, rfl, e, q⟩ := h
  obtain ⟨t, rfl⟩ := rx
  cases (show u = Value.ref d from ry)
  obtain ⟨low, f, hm, f1, f2⟩ := dictI_map (prog := X.prog) (w := X.w) I.kIn e
  refine wpAny_notIn_of (intKind_is X.prog X.w k t) low hm ?_
  have fe : (f k).isSome = (rows.lookup k).isSome := by
    cases z : rows.lookup k with
    | none =>
      rw [f1 k z]
      rfl
    | some is =>
      obtain ⟨v, e1, _⟩ := f2 k is z
      rw [e1]
      rfl
  rw [fe]
  exact ⟨.bl _, H, I.tok _, rfl, q⟩
/-- d[k]: the tuple that stands there -/
def rIxI (K : PySem.W.Frag) : R2 := fun x y H Q => ∃ (k : Int) (d : Addr) (rows : List (Int × List Int)) (is : List Int),
  x = .ref d ∧ y = .int k ∧ dictI K d = some rows ∧ rows.lookup k = some is ∧ is.length ≤ 1000 ∧ ∀ a, SqT K H a (is.map V.int) → Q (.ref a) H
theorem ix_int : IxR X (rIxI X.K) := by
  intro value slice pins s σ H x y v u Q I rx ry h hs
  obtain ⟨k, d, rows, is, rfl, rfl, e, l, few, q⟩ := h
  cases (show v = Value.ref d from rx)
  obtain ⟨t, rfl⟩ := ry
  obtain ⟨low, f, hm, f1, f2⟩ := dictI_map (prog := X.prog) (w := X.w) I.kIn e
  obtain ⟨v, e1, e2⟩ := f2 k is l
  obtain ⟨a, us, n, sl, rfl, ha, rv⟩ := tupI_some e2
  have size : us.size ≤ sizeLine := by
    have z := Paired.length rv
    rw [List.length_map] at z
    have z2 : us.toList.length = us.size := Array.length_toList
    rw [sizeLine_eq]
    omega
  refine tail_any hm.typeIs slot_dict_getitem.lookup (wpAny_getItem_of (intKind_is X.prog X.w k t) hm e1 ⟨.ref a, H, I.tok _, rfl, q a ?_⟩) hs
  exact .inr ⟨_, us, n, ha, rfl, rfl, size, rv⟩
end
end Gd

/-! Bs: what all laws share: the pen, kinds of values, rows, errors, digits (no statement of any text is named). -/
namespace B5
open PySem L2 Gd
variable {P : Program} {w : World} {K : PySem.W.Frag} {mg : Str → Option Value} {base : Heap}
/-! ### the law's pen: where drawn numbers come from -/
abbrev kC : Key := Sum.inr "cells"
abbrev kA : Key := Sum.inr "at"
abbrev kG : Key := Sum.inr "digits"
abbrev kN : Key := Sum.inr "count"
abbrev kF : Key := Sum.inr "fold"
theorem kne : (kA = kC) = False ∧ (kG = kC) = False ∧ (kN = kC) = False ∧ (kF = kC) = False ∧ (kC = kA) = False ∧ (kG = kA) = False ∧ (kN = kA) = False ∧ (kF = kA) = False ∧
    (kC = kG) = False ∧ (kA = kG) = False ∧ (kN = kG) = False ∧ (kF = kG) = False ∧ (kC = kN) = False ∧ (kA = kN) = False ∧ (kG = kN) = False ∧ (kF = kN) = False ∧
    (kC = kF) = False ∧ (kA = kF) = False ∧ (kG = kF) = False ∧ (kN = kF) = False := by
  refine ⟨?_, ?_, ?_, ?_, ?_, ?_, ?_, ?_, ?_, ?_, ?_, ?_, ?_, ?_, ?_, ?_, ?_, ?_, ?_, ?_⟩ <;> exact eq_false (by decide +kernel)
theorem putK_same {kvs : List (Key × V)} {k : Key} {v x : V} (h : valV kvs k = some x) : (putK kvs k v).length = kvs.length := by
  have e := valV_any k kvs
  rw [h, Option.isSome_some] at e
  unfold putK
  rw [if_pos e, List.length_map]
theorem dg {H : Hp} {a : Addr} {kvs : List (Key × V)} (k : Key) {v : V} (hd : H a = some (.dK kvs)) (h : valV kvs k = some v) : DGet H a (kV k) (some v) := h ▸ DGet.k hd
theorem five {n : Nat} (h : n ≤ 5) : n < sizeLine := small1000 (by omega)
theorem put_in {kvs : List (Key × V)} (k j : Key) (v : V) {x : V} (h : valV kvs j = some x) (ne : (j = k) = False) : valV (putK kvs k v) j = some x := by
  rw [valV_put, if_neg (by rw [ne]; exact id)]
  exact h
theorem put_at {kvs : List (Key × V)} (k : Key) (v : V) : valV (putK kvs k v) k = some v := by
  rw [valV_put, if_pos rfl]
/-- the pen at d, its cells at c; n draws were made -/
def Pen (H : Hp) (d c : Addr) (n : Int) : Prop := ∃ (kvs : List (Key × V)) (cs : List Int) (p g f : Int), H d = some (.dK kvs) ∧ H c = some (.lst (cs.map V.int)) ∧
  kvs.length ≤ 5 ∧ valV kvs kC = some (.ref c) ∧ valV kvs kA = some (.int p) ∧ valV kvs kG = some (.int g) ∧ valV kvs kN = some (.int n) ∧ valV kvs kF = some (.int f) ∧
  (0 ≤ p ∧ 0 ≤ g) ∧ (0 ≤ f ∧ f < 2147483648)
theorem Pen.ne {H : Hp} {d c : Addr} {n : Int} (h : Pen H d c n) : c ≠ d := by
  obtain ⟨kvs, cs, p, g, f, h1, h2, _⟩ := h
  exact ne_of h2 h1 (by intro z; cases z)
theorem Pen.keep {H H' : Hp} {d c : Addr} {n : Int} (h : Pen H d c n) (e1 : H' d = H d) (e2 : H' c = H c) : Pen H' d c n := by
  obtain ⟨kvs, cs, p, g, f, h1, h2, r⟩ := h
  exact ⟨kvs, cs, p, g, f, e1.trans h1, e2.trans h2, r⟩
theorem Pen.at {H : Hp} {d c : Addr} {n : Int} (h : Pen H d c n) : ∃ o, H d = some o := let ⟨_, _, _, _, _, h1, _⟩ := h; ⟨_, h1⟩
theorem Pen.atc {H : Hp} {d c : Addr} {n : Int} (h : Pen H d c n) : ∃ o, H c = some o := let ⟨_, _, _, _, _, _, h2, _⟩ := h; ⟨_, h2⟩
/-- new objects do not touch the pen -/
theorem Pen.upd {H : Hp} {d c p : Addr} {n : Int} {o : HO} (h : Pen H d c n) (hp : H p = none) : Pen (upd H p o) d c n := by
  obtain ⟨o1, h1⟩ := h.at
  obtain ⟨o2, h2⟩ := h.atc
  exact h.keep (upd_ne (ne_of_none h1 hp)) (upd_ne (ne_of_none h2 hp))
/-- what a draw leaves -/
structure Drawn (H H' : Hp) (d c : Addr) (n : Int) : Prop where
  pen : Pen H' d c n
  off : ∀ b, b ≠ d → H' b = H b
theorem Drawn.trans {H H1 H2 : Hp} {d c : Addr} {n m : Int} (a : Drawn H H1 d c n) (b : Drawn H1 H2 d c m) : Drawn H H2 d c m := ⟨b.pen, fun x hx => (b.off x hx).trans (a.off x hx)⟩
/-- one step: a number of the pen is put anew -/
theorem pen_put {H : Hp} {d c : Addr} {kvs : List (Key × V)} {k : Key} {v x : V} (hd : H d = some (.dK kvs)) (l : kvs.length ≤ 5) (h : valV kvs k = some x) :
    (upd H d (.dK (putK kvs k v))) d = some (.dK (putK kvs k v)) ∧ (putK kvs k v).length ≤ 5 := ⟨upd_same, by rw [putK_same h]; exact l⟩

def spDraw : Sp := fun vs H Q _ => ∃ (d c : Addr) (n m : Int), vs = [.ref d, .int m] ∧ Pen H d c n ∧ 0 < m ∧ m ≤ 1000000000000000000000 ∧ 0 ≤ n ∧ n < 1000000000 ∧
  ∀ (r : Int) (H' : Hp), 0 ≤ r → r < m → Drawn H H' d c (n + 1) → Q (.int r) H'
def spPen (K : PySem.W.Frag) : Sp := fun vs H Q _ => ∃ (a : Addr) (ns : List Int), vs = [.ref a] ∧ SqL K H a (ns.map V.int) ∧
  ∀ (H' : Hp) (d c : Addr), Pen H' d c 0 → (∀ b o, H b = some o → H' b = some o) → H d = none → Q (.ref d) H'
def spPick (K : PySem.W.Frag) : Sp := fun vs H Q _ => ∃ (d c a : Addr) (n : Int) (xs : List V), vs = [.ref d, .ref a] ∧ Pen H d c n ∧ H a = some (.lst xs) ∧ 0 < xs.length ∧ xs.length ≤ 1000 ∧ 0 ≤ n ∧ n < 1000000000 ∧
  ∀ (x : V) (H' : Hp), x ∈ xs → Drawn H H' d c (n + 1) → Q x H'
def spLarge : Sp := fun vs H Q _ => ∃ (d c : Addr) (n : Int), vs = [.ref d] ∧ Pen H d c n ∧ 0 ≤ n ∧ n < 900000000 ∧
  ∀ (r n' : Int) (H' : Hp), 0 ≤ r → r < 10 ^ 57 → n ≤ n' → n' ≤ n + 30 → Pen H' d c n' → (∀ b o, H b = some o → b ≠ d → H' b = some o) → Q (.int r) H'
/-! ### the errors -/
/-- what an __init__ that keeps its arguments as fields does -/
def spIni (C : Addr) (fs : List Str) : Sp := fun vs H Q _ => ∃ (a : Addr) (ys : List V), vs = .ref a :: ys ∧ ys.length = fs.length ∧ H a = some (exo a C none) ∧
  ∀ (H' : Hp) (dx : Addr), H dx = none → dx ≠ a → (∀ b, b ≠ a → b ≠ dx → H' b = H b) → H' a = some (exo a C (some dx)) → H' dx = some (exd dx (fs.zip ys).reverse) → Q .non H'
/-! ### kinds of values -/
def offInt : List String := ["bool", "NoneType", "str", "list", "tuple", "dict"]
theorem off_int : ∀ n ∈ offInt, kitB n "int" = some (decide (n = "bool")) ∧ kitB n "bool" = some (decide (n = "bool")) := by decide +kernel
theorem on_int : kitB "int" "int" = some true ∧ kitB "int" "bool" = some false := by decide +kernel
/-- no int at all, or a bool -/
def NoInt (K : PySem.W.Frag) (H : Hp) (x : V) : Prop := ∃ n, n ∈ offInt ∧ TyX K H x (.type n)
theorem tyMore {K : PySem.W.Frag} {H H' : Hp} {x : V} {n : String} (e : ∀ b o, H b = some o → H' b = some o) (t : TyX K H x (.type n)) : TyX K H' x (.type n) := by
  cases t with
  | base t =>
    refine .base ?_
    cases t with
    | non => exact .non
    | bl b => exact .bl b
    | int i => exact .int i
    | str z => exact .str z
    | flt z => exact .flt z
    | lst h => exact .lst (e _ _ h)
    | frz h => exact .frz (e _ _ h)
    | tup h => exact .tup (e _ _ h)
    | dK h => exact .dK (e _ _ h)
    | dT h => exact .dT (e _ _ h)
  | byt b => exact .byt b
  | set h => exact .set (e _ _ h)
  | kList h c => exact .kList h c
  | kTuple h c => exact .kTuple h c
  | kDict h c => exact .kDict h c
  | fTuple h => exact .fTuple (e _ _ h)
  | fDict h => exact .fDict (e _ _ h)
theorem NoInt.more {K : PySem.W.Frag} {H H' : Hp} {x : V} (e : ∀ b o, H b = some o → H' b = some o) (h : NoInt K H x) : NoInt K H' x :=
  let ⟨n, m, t⟩ := h; ⟨n, m, tyMore e t⟩
def spIsI (K : PySem.W.Frag) : Sp := fun vs H Q _ => ∃ x, vs = [x] ∧ ((∃ i, x = .int i ∧ Q (.bl true) H) ∨ (NoInt K H x ∧ Q (.bl false) H) ∨ ∃ t, TyX K H x t ∧ PySem.W.kitOne K t (.type "int") = some false ∧ Q (.bl false) H)
theorem pi_or {X : Cx} {tg it : Expr} {u v : TI} (a : PI X tg it u) (b : PI X tg it v) : PI X tg it (fun σ H R => u σ H R ∨ v σ H R) where
  run := by
    rintro pins s σ H R I (h | h)
    · exact a.run pins s σ H R I h
    · exact b.run pins s σ H R I h
theorem sqT_more {K : PySem.W.Frag} {H H' : Hp} {a : Addr} {xs : List V} (e : ∀ b o, H b = some o → H' b = some o) : SqT K H a xs → SqT K H' a xs
  | .inl (.inl h) => .inl (.inl (e _ _ h))
  | .inl (.inr ⟨o, h⟩) => .inl (.inr ⟨o, e _ _ h⟩)
  | .inr h => .inr h
/-- a list or a tuple of xs -/
def Sq (K : PySem.W.Frag) (H : Hp) (a : Addr) (xs : List V) : Prop := SqL K H a xs ∨ SqT K H a xs
theorem Sq.more {K : PySem.W.Frag} {H H' : Hp} {a : Addr} {xs : List V} (e : ∀ b o, H b = some o → H' b = some o) : Sq K H a xs → Sq K H' a xs
  | .inl h => .inl (Same.seq e h)
  | .inr h => .inr (sqT_more e h)
/-! ### errors of the program -/
structure Er (K : PySem.W.Frag) (mg : Str → Option Value) (x q : Str) (C fI : Addr) (fs : List Str) (st : Stmt) (fd : FuncData) : Prop where
  T : OexC K C
  iC : PySem.W.findIn K (.ref C) "__init__" = some (some (.ref fI))
  tI : PySem.W.typeIn K (.ref fI) = some (.type "function")
  fn : Fun K "__init__" q st fI fd
  b : Binds K fd ("self" :: fs) []
  no : ∀ g ∈ fs, PySem.W.findIn K (.ref C) g = some none
  g : mg x = some (.ref C)
theorem mk_ini {C : Addr} {fs : List Str} {vs : List V} {H1 : Hp} {Q : XK} (hl : vs.length = fs.length) (h9 : vs.length ≤ 900)
    (h : ∀ d, H1 d = none → Q (.ref C) (some d) (upd H1 d (.xd (fs.zip vs).reverse))) : vs.length ≤ 1000 ∧ ∀ a, H1 a = none →
      spIni C fs (.ref a :: (vs ++ [])) (upd H1 a (exo a C none)) (fun v H2 => v = .non ∧ ∃ (d : Addr) (fs' : List (Str × V)), H2 a = some (exo a C (some d)) ∧
        H2 d = some (exd d fs') ∧ H1 d = none ∧ Q (.ref C) (some d) (upd (del H2 a) d (.xd fs'))) (fun _ _ _ => False) := by
  refine ⟨by omega, fun a ha => ⟨a, vs, by rw [List.append_nil], hl, upd_same, fun H' dx hdx ne off e1 e2 => ⟨rfl, dx, _, e1, e2, ?_, ?_⟩⟩⟩
  · rw [upd_ne ne] at hdx
    exact hdx
  · rw [upd_ne ne] at hdx
    have same : upd (del H' a) dx (.xd (fs.zip vs).reverse) = upd H1 dx (.xd (fs.zip vs).reverse) := by
      funext b
      by_cases q : b = dx
      · subst q
        rw [upd_same, upd_same]
      · rw [upd_ne q, upd_ne q]
        by_cases z : b = a
        · subst z
          rw [del_same, ha]
        · rw [del_ne z, off b z q, upd_ne z]
    rw [same]
    exact h dx hdx
def RRow (CR : Addr) (x : V) (H : Hp) (E : XK) : Prop := ∀ d, H d = none → E (.ref CR) (some d) (upd H d (.xd [("row", x)]))
/-- a def of the text -/
structure Cl (K : PySem.W.Frag) (mg : Str → Option Value) (x : Str) (st : Stmt) (ps : List Str) (f : Addr) (fd : FuncData) : Prop where
  fn : Fun K x x st f fd
  b : Binds K fd ps []
  g : mg x = some (.ref f)
theorem Cl.k {x : Str} {st : Stmt} {ps : List Str} {f : Addr} {fd : FuncData} (h : Cl K mg x st ps f fd) : PySem.W.keepIn K (.ref f) = true := h.fn.kp
structure Blt (mg : Str → Option Value) : Prop where
  int_ : mg "int" = none
  bool_ : mg "bool" = none
  tup_ : mg "tuple" = none
  len_ : mg "len" = none
  list_ : mg "list" = none
  range_ : mg "range" = none
  isi_ : mg "isinstance" = none
  repr_ : mg "repr" = none
  all_ : mg "all" = none
  divmod_ : mg "divmod" = none
  rev_ : mg "reversed" = none
abbrev More (H H' : Hp) : Prop := ∀ b o, H b = some o → H' b = some o
theorem More.new {H H' : Hp} {p : Addr} {o : HO} (m : More H H') (hp : H' p = none) : More H (upd H' p o) := fun b u e => by
  rw [upd_ne (ne_of_none (m b u e) hp)]
  exact m b u e
theorem More.at {H H' : Hp} {p : Addr} {o : HO} (m : More H H') (hp : H p = none) : More H (upd H' p o) := fun b u e => by
  rw [upd_ne (ne_of_none e hp)]
  exact m b u e
theorem More.off {H H' : Hp} {p : Addr} (m : More H H') (hp : H' p = none) : H p = none := by
  cases e : H p with
  | none => rfl
  | some o =>
    rw [m p o e] at hp
    cases hp
/-! ### sequences of integers -/
def isI : V → Bool
  | .int _ => true
  | _ => false
theorem noInt_isI {K : PySem.W.Frag} {H : Hp} {y : V} (h : NoInt K H y) : isI y = false := by
  obtain ⟨n, hn, t⟩ := h
  cases y with
  | int i =>
    cases t with
    | base t =>
      cases t
      exact absurd hn (by decide)
  | _ => rfl
theorem tyL {K : PySem.W.Frag} {H : Hp} {a : Addr} {xs : List V} : SqL K H a xs → TyX K H (.ref a) (.type "list")
  | .inl (.inl h) => .base (.lst h)
  | .inl (.inr ⟨o, h⟩) => .base (.frz h)
  | .inr ⟨o, its, n, h, c, _⟩ => .kList h c
theorem tyT {K : PySem.W.Frag} {H : Hp} {a : Addr} {xs : List V} : SqT K H a xs → TyX K H (.ref a) (.type "tuple")
  | .inl (.inl h) => .base (.tup h)
  | .inl (.inr ⟨o, h⟩) => .fTuple h
  | .inr ⟨o, its, n, h, c, _⟩ => .kTuple h c
def noSeq : List String := ["int", "bool", "NoneType", "str", "dict"]
theorem seq_no : ∀ n ∈ noSeq, kitB n "tuple" = some false ∧ kitB n "list" = some false := by decide +kernel
theorem seq_yes : kitB "tuple" "tuple" = some true ∧ kitB "list" "tuple" = some false ∧ kitB "list" "list" = some true := by decide +kernel
def spIsIs (K : PySem.W.Frag) : Sp := fun vs H Q _ => ∃ x, vs = [x] ∧
  ((∃ n, n ∈ noSeq ∧ TyX K H x (.type n) ∧ ∀ H', More H H' → Q (.bl false) H') ∨
    ∃ a xs, x = .ref a ∧ Sq K H a xs ∧ xs.length ≤ 1000 ∧ (∀ y ∈ xs, (∃ i, y = .int i) ∨ NoInt K H y) ∧ ∀ H', More H H' → Q (.bl (xs.all isI)) H')
theorem take_snoc {α : Type} {l : List α} {i : Nat} {x : α} (h : l[i]? = some x) : l.take (i + 1) = l.take i ++ [x] := by
  rw [List.take_succ, h]
  rfl
/-! ### terms of a sum -/
def NoSq (K : PySem.W.Frag) (H : Hp) (x : V) : Prop := ∃ n, n ∈ noSeq ∧ TyX K H x (.type n)
theorem NoSq.more {K : PySem.W.Frag} {H H' : Hp} {x : V} (e : ∀ b o, H b = some o → H' b = some o) (h : NoSq K H x) : NoSq K H' x := let ⟨n, m, t⟩ := h; ⟨n, m, tyMore e t⟩
def Its (K : PySem.W.Frag) (H : Hp) (ys : List V) : Prop := ys.length ≤ 1000 ∧ ∀ y ∈ ys, (∃ i, y = .int i) ∨ NoInt K H y
theorem Its.more {K : PySem.W.Frag} {H H' : Hp} {ys : List V} (e : ∀ b o, H b = some o → H' b = some o) (h : Its K H ys) : Its K H' ys := ⟨h.1, fun y hy => (h.2 y hy).imp id fun z => z.more e⟩
theorem Its.ints {K : PySem.W.Frag} {H : Hp} {ds : List Int} (h : ds.length ≤ 1000) : Its K H (ds.map V.int) := ⟨by rw [List.length_map]; exact h, fun y hy => by
  obtain ⟨d, _, rfl⟩ := List.mem_map.mp hy
  exact .inl ⟨d, rfl⟩⟩
def spRow (K : PySem.W.Frag) : Sp := fun vs H Q _ => ∃ (x : V) (n : Int), vs = [x, .int n] ∧
  ((NoSq K H x ∧ ∀ H', More H H' → Q (.bl false) H') ∨ ∃ a xs, x = .ref a ∧ Sq K H a xs ∧ Its K H xs ∧ ∀ H', More H H' → Q (.bl (xs.all isI && decide (((xs.length : Nat) : Int) = n))) H')
theorem deI {i j : Int} : decide (V.int i = V.int j) = decide (i = j) := by simp only [V.int.injEq]
theorem ix_any {K : PySem.W.Frag} {H : Hp} {a : Addr} {xs : List V} {j : Nat} {i : Int} {v : V} {Q : VK} (s : Sq K H a xs) (e : i = (j : Int)) (h : xs[j]? = some v) (q : Q v H) : rIx K (.ref a) (.int i) H Q := by
  obtain s | s := s
  · exact .inl ⟨a, xs, i, v, rfl, rfl, s, at_of e h, q⟩
  · exact .inr (.inl ⟨a, xs, i, v, rfl, rfl, s, at_of e h, q⟩)
theorem isI_all (ds : List Int) : (ds.map V.int).all isI = true := by
  rw [List.all_map, List.all_eq_true]
  intro d _
  rfl
theorem sq_len {K : PySem.W.Frag} {H : Hp} {a : Addr} {xs : List V} (s : Sq K H a xs) : SqL K H a xs ∨ SqT K H a xs := s
/-! ### words of digits -/
/-- the digits of n to the base p, the low one first -/
def dgs (p : Nat) (n : Nat) : List Int := if h : n = 0 ∨ p < 2 then [] else ((n % p : Nat) : Int) :: dgs p (n / p)
termination_by n
decreasing_by exact Nat.div_lt_self (by omega) (by omega)
theorem dgs_zero {p : Nat} : dgs p 0 = [] := by
  rw [dgs, dif_pos (.inl rfl)]
theorem dgs_pos {p n : Nat} (h : 0 < n) (hp : 2 ≤ p) : dgs p n = ((n % p : Nat) : Int) :: dgs p (n / p) := by
  rw [dgs, dif_neg (by omega)]
theorem dgs_len {p : Nat} (hp : 2 ≤ p) : ∀ (k n : Nat), n < 2 ^ k → (dgs p n).length ≤ k
  | 0, n, h => by
    have e : n = 0 := by simpa using h
    rw [e, dgs_zero]
    exact Nat.le_refl _
  | k + 1, n, h => by
    by_cases z : n = 0
    · rw [z, dgs_zero]
      exact Nat.zero_le _
    · rw [dgs_pos (by omega) hp]
      have h2 : n / p < 2 ^ k := by
        refine Nat.lt_of_le_of_lt (Nat.div_le_div_left hp (by decide)) ?_
        rw [Nat.pow_succ] at h
        omega
      have := dgs_len hp k _ h2
      simp only [List.length_cons]
      omega
theorem dgs_are {p : Nat} (hp : 2 ≤ p) : ∀ (k n : Nat), n ≤ k → ∀ d ∈ dgs p n, 0 ≤ d ∧ d < (p : Int)
  | 0, n, h, d, hd => by
    have e : n = 0 := by omega
    rw [e, dgs_zero] at hd
    cases hd
  | k + 1, n, h, d, hd => by
    by_cases z : n = 0
    · rw [z, dgs_zero] at hd
      cases hd
    · rw [dgs_pos (by omega) hp] at hd
      rcases List.mem_cons.mp hd with rfl | hd
      · have := Nat.mod_lt n (show p > 0 by omega)
        omega
      · exact dgs_are hp k _ (by have := Nat.div_lt_self (show 0 < n by omega) (show 1 < p by omega); omega) d hd
/-- the number that a word tells -/
def val (p : Int) : List Int → Int
  | [] => 0
  | d :: r => val p r * p + d
theorem val_dgs {p : Nat} (hp : 2 ≤ p) : ∀ (k n : Nat), n ≤ k → val p (dgs p n) = n
  | 0, n, h => by
    have e : n = 0 := by omega
    rw [e, dgs_zero]
    rfl
  | k + 1, n, h => by
    by_cases z : n = 0
    · rw [z, dgs_zero]
      rfl
    · rw [dgs_pos (by omega) hp]
      have lt := Nat.div_lt_self (show 0 < n by omega) (show 1 < p by omega)
      show val p (dgs p (n / p)) * p + ((n % p : Nat) : Int) = n
      rw [val_dgs hp k _ (by omega)]
      have := Nat.div_add_mod n p
      rw [Nat.mul_comm] at this
      omega
theorem val_zeros {p : Int} : ∀ (l : List Int) (k : Nat), val p (l ++ List.replicate k 0) = val p l
  | [], 0 => rfl
  | [], k + 1 => by
    have ih := val_zeros (p := p) [] k
    rw [List.nil_append] at ih ⊢
    show val p (List.replicate k 0) * p + 0 = 0
    rw [ih]
    show (0 : Int) * p + 0 = 0
    rw [Int.zero_mul]
    rfl
  | d :: l, k => by
    show val p (l ++ List.replicate k 0) * p + d = val p l * p + d
    rw [val_zeros l k]
theorem val_drop {p : Int} {l : List Int} {i : Nat} {d : Int} (h : l[i]? = some d) : val p (l.drop i) = val p (l.drop (i + 1)) * p + d := by
  have hi : i < l.length := by
    rcases Nat.lt_or_ge i l.length with z | z
    · exact z
    · rw [List.getElem?_eq_none z] at h
      cases h
  rw [List.drop_eq_getElem_cons hi]
  have e : l[i] = d := by
    rw [List.getElem?_eq_getElem hi] at h
    exact Option.some.inj h
  rw [e]
  rfl
/-- BadNumber(what, x) is raised -/
def RNum (CN : Addr) (what : Str) (x : V) (H : Hp) (E : XK) : Prop := ∀ d, H d = none → E (.ref CN) (some d) (upd H d (.xd [("number", x), ("what", .str what)]))
def isPr (p : Int) : Bool := inV (.int p) ([2, 3, 5, 7].map V.int)
def BadP (K : PySem.W.Frag) (H : Hp) (x : V) : Prop := (∃ m, x = .int m ∧ isPr m = false) ∨ NoInt K H x
def spCP (K : PySem.W.Frag) (CN : Addr) : Sp := fun vs H Q E => ∃ x, vs = [x] ∧
  ((∃ m, x = .int m ∧ isPr m = true ∧ Q .non H) ∨ (BadP K H x ∧ RNum CN "p" x H E))
theorem isPr_small {p : Int} (h : isPr p = true) : 2 ≤ p ∧ p ≤ 7 := by
  have z : (decide (2 = p) || (decide (3 = p) || (decide (5 = p) || (decide (7 = p) || false)))) = true := h
  simp only [Bool.or_eq_true, decide_eq_true_eq, Bool.or_false] at z
  omega
def spDg (K : PySem.W.Frag) (CN : Addr) : Sp := fun vs H Q E => ∃ x y, vs = [x, y] ∧
  ((∃ n p : Nat, x = .int n ∧ y = .int p ∧ isPr p = true ∧ n < 2 ^ 400 ∧ ∀ H' a, More H H' → H a = none → H' a = some (.tup ((dgs p n).map V.int)) → Q (.ref a) H') ∨
    (((∃ i, x = .int i ∧ i < 0) ∨ NoInt K H x) ∧ RNum CN "n" x H E) ∨
    ∃ n : Int, x = .int n ∧ 0 ≤ n ∧ BadP K H y ∧ RNum CN "p" y H E)
end B5

namespace K71
open PySem L2 Gd B5
def top (i : Nat) : Stmt := PySem.Challenge.pw_restcounts_k71_whole_values_that_come.main.body.getD i (.Pass ⟨0, 0, 0, 0⟩)
abbrev sPen : Stmt := top 29
abbrev sDraw : Stmt := top 30
abbrev sPick : Stmt := top 31
section
variable {P : Program} {w : World} {K : PySem.W.Frag} {mg : Str → Option Value} {base : Heap}
theorem scDraw : FnScope ["_law_pen_here", "_law_many", "_law_cell", "_law_digit", "_law_mixed"] ["_law_pen_here", "_law_many"] (defScope sDraw) := ⟨rfl, rfl, rfl, by decide +kernel, rfl, by decide +kernel, by decide +kernel⟩
theorem ok_draw {f : Addr} {fd : FuncData} (F : Fun K "_law_draw" "_law_draw" sDraw f fd) (mInt : mg "int" = none) (mLen : mg "len" = none) : FnOk P w K mg base CX0 1 f fd ["_law_pen_here", "_law_many"] spDraw := by
  refine F.ok scDraw (fun vs H Q E h => ?_) (fun cdv A outer s H vs Q E hr h => ?_)
  · obtain ⟨d, c, n, m, rfl, _⟩ := h
    rfl
  · obtain ⟨d, c, n, m, rfl, pen, m0, m1, n0, n1, k⟩ := h
    have hu := hu_of hr
    have ne := pen.ne
    obtain ⟨kvs, cs, p, g, f, hd, hc, hl, vC, vA, vG, vN, vF, ⟨p0, g0⟩, f0, f1⟩ := pen
    refine ⟨_, pss_cons (ps_dput hu (pv 0) pe_str (pe_op op_add (pe_dget hu (pv 0) pe_str (fun _ _ => rfl)) pe_int) rfl)
      (Evl.pss_cut (ps_if (PW.pt (pw_and (pt_cmpR op_eq (pe_dget hu (pv 0) pe_str (fun _ _ => rfl)) pe_int (nomark _))
            (pw_and1 (pt_cmpR op_lt (pe_dget hu (pv 0) pe_str (fun _ _ => rfl)) (pe_callB call_len_seq (by rfl) mLen PySem.boot_len (pa_cons (pe_dget hu (pv 0) pe_str (fun _ _ => rfl)) pa_nil)) (nomark _)))))
          (pss_cons (ps_set (i := 2) scDraw.nd rfl (Or.inl rfl) (pe_ix ix_list (pe_dget hu (pv 0) pe_str (fun _ _ => rfl)) (pe_dget hu (pv 0) pe_str (fun _ _ => rfl)) (fun _ _ => rfl)))
          (pss_cons (ps_dput hu (pv 0) pe_str (pe_op op_add (pe_dget hu (pv 0) pe_str (fun _ _ => rfl)) pe_int) rfl)
          (pss_one (ps_if (pt_cmpR op_ge (pv 2) (pe_op op_pow pe_int pe_int) (nomark _))
            (pss_one (ps_dput hu (pv 0) pe_str (pe_op op_sub (pv 2) (pe_op op_pow pe_int pe_int)) rfl))
            (pss_one (ps_dput hu (pv 0) pe_str (pe_op op_mod (pe_callTy call_int1 (by rfl) mInt (by decide +kernel) (pa_cons (pe_op op_add (pe_op op_mul (pe_dget hu (pv 0) pe_str (fun _ _ => rfl)) pe_int) (pv 2)) pa_nil)) pe_int) rfl))))))
          pss_nil)
      (pss_cons (ps_if (pt_cmpR op_gt (pe_dget hu (pv 0) pe_str (fun _ _ => rfl)) pe_int (nomark _))
          (pss_cons (ps_set (i := 3) scDraw.nd rfl (Or.inl rfl) (pe_op op_mod (pe_callTy call_int1 (by rfl) mInt (by decide +kernel) (pa_cons (pe_dget hu (pv 0) pe_str (fun _ _ => rfl)) pa_nil)) (pv 1)))
          (pss_cons (ps_dput hu (pv 0) pe_str (pe_op op_fdivW (pe_dget hu (pv 0) pe_str (fun _ _ => rfl)) (pv 1)) rfl)
          (pss_one (ps_ret (pv 3)))))
          pss_nil)
      (pss_cons (ps_set (i := 4) scDraw.nd rfl (Or.inl rfl) (pe_op op_add (pe_op op_add (pe_dget hu (pv 0) pe_str (fun _ _ => rfl)) (pe_op op_mul (pe_dget hu (pv 0) pe_str (fun _ _ => rfl)) pe_int)) pe_int))
      (pss_one (ps_ret (pe_op op_mod (pe_op op_fdiv (pe_callTy call_int1 (by rfl) mInt (by decide +kernel) (pa_cons (pe_op op_mod (pe_op op_pow (pv 4) pe_int) pe_int) pa_nil)) pe_int) (pv 1))))))), ?_⟩
    -- pen['count'] = pen['count'] + 1
    obtain ⟨ac, gc, nc, fc, ca, ga, na, fa, cg, ag, ng, fg, cn, an, gn, fn, cf, af, gf, nf⟩ := kne
    have l1 : (putK kvs kN (V.int (n + 1))).length ≤ 5 := by rw [putK_same vN]; exact hl
    have vC1 := put_in kN kC (V.int (n + 1)) vC cn
    have vA1 := put_in kN kA (V.int (n + 1)) vA an
    have vG1 := put_in kN kG (V.int (n + 1)) vG gn
    have vF1 := put_in kN kF (V.int (n + 1)) vF fn
    have vN1 : valV (putK kvs kN (V.int (n + 1))) kN = some (V.int (n + 1)) := put_at kN _
    refine ⟨_, rfl, d, _, rfl, dg kN hd vN, _, _, rfl, rfl, _, rfl, d, _, rfl, DPut.k (k := kN) hd (five hl), ?_⟩
    have hc1 : ∀ o, (L2.upd H d o) c = some (.lst (cs.map V.int)) := fun o => by rw [upd_ne ne]; exact hc
    generalize putK kvs kN (V.int (n + 1)) = kvs1 at *
    clear vC vA vG vN vF
    -- behind the if: a heap that differs at the pen alone
    refine ⟨fun σ' H' => ∃ (kvs : List (Key × V)) (p g f : Int) (z : Option V), σ' = [some (.ref d), some (.int m), z, none, none] ∧ H' d = some (.dK kvs) ∧ (∀ b, b ≠ d → H' b = H b) ∧
      kvs.length ≤ 5 ∧ valV kvs kC = some (.ref c) ∧ valV kvs kA = some (.int p) ∧ valV kvs kG = some (.int g) ∧ valV kvs kN = some (.int (n + 1)) ∧ valV kvs kF = some (.int f) ∧
      (0 ≤ p ∧ 0 ≤ g) ∧ (0 ≤ f ∧ f < 2147483648), ?_, ?_⟩
    · have mid : ∀ (z : Option V) (kvs2 : List (Key × V)) (H2 : Hp) (p g f : Int), H2 d = some (.dK kvs2) → (∀ b, b ≠ d → H2 b = H b) → kvs2.length ≤ 5 → valV kvs2 kC = some (.ref c) → valV kvs2 kA = some (.int p) →
          valV kvs2 kG = some (.int g) → valV kvs2 kN = some (.int (n + 1)) → valV kvs2 kF = some (.int f) → (0 ≤ p ∧ 0 ≤ g) → (0 ≤ f ∧ f < 2147483648) →
          ∃ (kvs : List (Key × V)) (p g f : Int) (z' : Option V), [some (V.ref d), some (V.int m), z, none, none] = [some (V.ref d), some (V.int m), z', none, none] ∧ H2 d = some (.dK kvs) ∧ (∀ b, b ≠ d → H2 b = H b) ∧
            kvs.length ≤ 5 ∧ valV kvs kC = some (.ref c) ∧ valV kvs kA = some (.int p) ∧ valV kvs kG = some (.int g) ∧ valV kvs kN = some (.int (n + 1)) ∧ valV kvs kF = some (.int f) ∧ (0 ≤ p ∧ 0 ≤ g) ∧ (0 ≤ f ∧ f < 2147483648) :=
        fun z kvs2 H2 p g f a1 a2 a3 a4 a5 a6 a7 a8 a9 a10 => ⟨kvs2, p, g, f, z, rfl, a1, a2, a3, a4, a5, a6, a7, a8, a9, a10⟩
      have off : ∀ o b, b ≠ d → (L2.upd H d o) b = H b := fun o b hb => upd_ne hb
      refine ⟨_, rfl, d, _, rfl, dg kG upd_same vG1, rfl, _, rfl, ite2 (fun _ => ?_) (fun _ => ?_)⟩
      · refine ⟨_, rfl, d, _, rfl, dg kA upd_same vA1, _, rfl, d, _, rfl, dg kC upd_same vC1, c, _, rfl, .inl (SqL.of (hc1 _)), _, _, rfl, rfl, _, rfl, ite2 (fun hlt => ?_) (fun _ => ?_)⟩
        · have hlt := of_decide_eq_true hlt
          rw [List.length_map] at hlt
          have hp : p.toNat < cs.length := by omega
          have hat : (cs.map V.int)[p.toNat]? = some (V.int cs[p.toNat]) := by rw [List.getElem?_map, List.getElem?_eq_getElem hp]; rfl
          refine ⟨_, rfl, d, _, rfl, dg kC upd_same vC1, _, rfl, d, _, rfl, dg kA upd_same vA1, c, _, _, _, rfl, rfl, SqL.of (hc1 _), at_of (by omega) hat, ?_⟩
          generalize cs[p.toNat] = x
          -- pen['at'] = pen['at'] + 1
          have l2 : (putK kvs1 kA (V.int (p + 1))).length ≤ 5 := by rw [putK_same vA1]; exact l1
          have vC2 := put_in kA kC (V.int (p + 1)) vC1 ca
          have vG2 := put_in kA kG (V.int (p + 1)) vG1 ga
          have vF2 := put_in kA kF (V.int (p + 1)) vF1 fa
          have vN2 := put_in kA kN (V.int (p + 1)) vN1 na
          have vA2 : valV (putK kvs1 kA (V.int (p + 1))) kA = some (V.int (p + 1)) := put_at kA _
          refine ⟨_, rfl, d, _, rfl, dg kA upd_same vA1, _, _, rfl, rfl, _, rfl, d, _, rfl, DPut.k (k := kA) upd_same (five l1), ?_⟩
          rw [upd_upd]
          generalize putK kvs1 kA (V.int (p + 1)) = kvs2 at *
          refine ⟨_, rfl, _, _, rfl, rfl, ⟨by decide, by decide, by decide⟩, _, _, rfl, rfl, _, rfl, ite2 (fun hge => ?_) (fun _ => ?_)⟩
          · have hge := of_decide_eq_true hge
            refine ⟨_, rfl, _, _, rfl, rfl, ⟨by decide, by decide, by decide⟩, _, _, rfl, rfl, _, rfl, d, _, rfl, DPut.k (k := kG) upd_same (five l2), ?_⟩
            rw [upd_upd]
            have e10 : (10 : Int) ^ (18 : Int).toNat = 1000000000000000000 := by decide
            exact mid _ _ _ (p + 1) _ f upd_same (off _) (by rw [putK_same vG2]; exact l2) (put_in kG kC _ vC2 cg) (put_in kG kA _ vA2 ag) (put_at kG _) (put_in kG kN _ vN2 ng) (put_in kG kF _ vF2 fg) ⟨by omega, by omega⟩ ⟨f0, f1⟩
          · refine ⟨_, rfl, d, _, rfl, dg kF upd_same vF2, _, _, rfl, rfl, .inl ⟨by omega, by omega⟩, _, rfl, _, _, rfl, rfl, .inl ⟨_, rfl, _, _, rfl, rfl, (by show (0 : Int) < 2147483587; decide), _, rfl, d, _, rfl, DPut.k (k := kF) upd_same (five l2), ?_⟩⟩
            rw [upd_upd]
            exact mid _ _ _ (p + 1) g _ upd_same (off _) (by rw [putK_same vF2]; exact l2) (put_in kF kC _ vC2 cf) (put_in kF kA _ vA2 af) (put_in kF kG _ vG2 gf) (put_in kF kN _ vN2 nf) (put_at kF _) ⟨by omega, by omega⟩ ⟨by omega, by omega⟩
        · exact mid _ _ _ p g f upd_same (off _) l1 vC1 vA1 vG1 vN1 vF1 ⟨p0, g0⟩ ⟨f0, f1⟩
      · refine iteF ?_
        exact mid _ _ _ p g f upd_same (off _) l1 vC1 vA1 vG1 vN1 vF1 ⟨p0, g0⟩ ⟨f0, f1⟩
    · clear vC1 vA1 vG1 vF1 vN1 l1 hc1 p0 g0 f0 f1 hl hd
      rintro σ' H2 ⟨kvs2, p2, g2, f2, z, rfl, hd2, off, l2, vC2, vA2, vG2, vN2, vF2, ⟨p0, g0⟩, f0, f1⟩
      have hc2 : H2 c = some (.lst (cs.map V.int)) := (off c ne).trans hc
      have m80 : m.natAbs < 2 ^ 80 := by
        have e : (2 ^ 80 : Nat) = 1208925819614629174706176 := by decide
        omega
      refine ⟨_, rfl, d, _, rfl, dg kG hd2 vG2, _, _, rfl, rfl, _, rfl, ite2 (fun hgt => ?_) (fun _ => ?_)⟩
      · refine ⟨_, rfl, d, _, rfl, dg kG hd2 vG2, .inl ⟨_, rfl, _, rfl, _, _, rfl, rfl, m0, ?_⟩⟩
        refine ⟨_, rfl, d, _, rfl, dg kG hd2 vG2, _, rfl, _, _, rfl, rfl, wide_div m0 m80 (by decide) (by decide), _, rfl, d, _, rfl, DPut.k (k := kG) hd2 (five l2), _, rfl, ?_⟩
        have q0 : 0 ≤ g2 / m := Int.ediv_nonneg g0 (by omega)
        refine k _ _ (Int.emod_nonneg _ (by omega)) (Int.emod_lt_of_pos _ m0) ⟨⟨_, cs, p2, g2 / m, f2, upd_same, by rw [upd_ne ne]; exact hc2, by rw [putK_same vG2]; exact l2, put_in kG kC _ vC2 cg, put_in kG kA _ vA2 ag, put_at kG _, put_in kG kN _ vN2 ng, put_in kG kF _ vF2 fg, ⟨p0, q0⟩, f0, f1⟩, fun b hb => by rw [upd_ne hb]; exact off b hb⟩
      · refine ⟨_, rfl, d, _, rfl, dg kF hd2 vF2, _, rfl, d, _, rfl, dg kN hd2 vN2, _, _, rfl, rfl, .inr ⟨by decide, by decide⟩, _, _, rfl, rfl, _, _, rfl, rfl, ?_⟩
        refine ⟨_, rfl, _, _, rfl, rfl, ⟨by decide, by decide, by omega⟩, _, _, rfl, rfl, (by show (0 : Int) < 2305843009213693951; decide), .inl ⟨_, rfl, _, _, rfl, rfl, ⟨by decide, by decide⟩, _, rfl, _, _, rfl, rfl, m0, ?_⟩⟩
        exact k _ _ (Int.emod_nonneg _ (by omega)) (Int.emod_lt_of_pos _ m0) ⟨⟨kvs2, cs, p2, g2, f2, hd2, hc2, l2, vC2, vA2, vG2, vN2, vF2, ⟨p0, g0⟩, f0, f1⟩, off⟩

theorem scPen : FnScope ["_law_script", "_law_fold", "_law_cell"] ["_law_script"] (defScope sPen) := ⟨rfl, rfl, rfl, by decide +kernel, rfl, by decide +kernel, by decide +kernel⟩
theorem ok_pen {f : Addr} {fd : FuncData} (F : Fun K "_law_pen" "_law_pen" sPen f fd) (mInt : mg "int" = none) (mLst : mg "list" = none) : FnOk P w K mg base CX0 1 f fd ["_law_script"] (spPen K) := by
  refine F.ok scPen (fun vs H Q E h => ?_) (fun cdv A outer s H vs Q E hr h => ?_)
  · obtain ⟨a, ns, rfl, _⟩ := h
    rfl
  · obtain ⟨a, ns, rfl, hS, k⟩ := h
    refine ⟨_, pss_cons (ps_set (i := 1) scPen.nd rfl (Or.inl rfl) pe_int)
      (pss_cons (ps_for PassesOwn.never rfl (pi_list (pv 0)) (pg_name (i := 2) scPen.nd rfl (Or.inl rfl))
        (pss_one (ps_set (i := 1) scPen.nd rfl (Or.inl rfl) (pe_op op_mod (pe_callTy call_int1 (by rfl) mInt (by decide +kernel) (pa_cons (pe_op op_add (pe_op op_mul (pv 1) pe_int) (pv 2)) pa_nil)) pe_int))))
      (pss_one (ps_ret (pe_disp (pps_cons pe_str (pe_callTy call_list_of (by rfl) mLst (by decide +kernel) (pa_cons (pv 0) pa_nil))
        (pps_cons pe_str pe_int (pps_cons pe_str pe_int (pps_cons pe_str pe_int (pps_cons pe_str (pv 1) pps_nil))))) rfl rfl (by simp) (by decide))))), ?_⟩
    refine ⟨_, rfl, a, rfl, ⟨_, hS⟩, for_list (K := K) (a := a) (xs := ns.map V.int) (fun _ σ H2 => ∃ (f : Int) (v : Option V), σ = [some (.ref a), some (.int f), v] ∧ H2 = H ∧ 0 ≤ f ∧ f < 1000000007)
      ⟨0, none, rfl, rfl, by decide, by decide⟩ (fun i σ H2 _ ⟨_, _, _, e, _⟩ => e ▸ hS) ?_ ?_⟩
    · rintro i y σ H2 hi ⟨f, v, rfl, rfl, f0, f1⟩
      obtain ⟨z, rfl⟩ : ∃ z, y = V.int z := by
        rw [List.getElem?_map] at hi
        cases e : ns[i]? with
        | none => rw [e] at hi; cases hi
        | some z => rw [e] at hi; exact ⟨z, (Option.some.inj hi).symm⟩
      refine ⟨_, rfl, _, _, rfl, rfl, .inl ⟨by omega, by omega⟩, _, rfl, _, _, rfl, rfl, .inl ⟨_, rfl, _, _, rfl, rfl, (by show (0 : Int) < 1000000007; decide), ?_⟩⟩
      exact ⟨_, _, rfl, rfl, Int.emod_nonneg _ (by decide), Int.emod_lt_of_pos _ (by decide)⟩
    · rintro σ H2 ⟨f, v, rfl, rfl, f0, f1⟩
      intro d hd
      have hS1 : SqL K (L2.upd H2 d (.dK [])) a (ns.map V.int) := Same.seq (fun b o e => by rw [upd_ne (ne_of_none e hd)]; exact e) hS
      refine ⟨_, rfl, a, _, rfl, .inl hS1, fun c hc => ?_⟩
      have ncd : c ≠ d := fun e => by
        rw [e, upd_same] at hc
        cases hc
      have hc0 : H2 c = none := by rw [upd_ne ncd] at hc; exact hc
      refine ⟨_, rfl, by rw [upd_ne ncd.symm, upd_same], [(kC, .ref c), (kA, .int 0), (kG, .int 0), (kN, .int 0), (kF, .int f)], rfl, (by show 5 ≤ 15; decide), ?_⟩
      have lm := length_mergeK [(kC, V.ref c), (kA, .int 0), (kG, .int 0), (kN, .int 0), (kF, .int f)] []
      obtain ⟨ac, gc, nc, fc, ca, ga, na, fa, cg, ag, ng, fg, cn, an, gn, fn, cf, af, gf, nf⟩ := kne
      have em : mergeK [] [(kC, V.ref c), (kA, .int 0), (kG, .int 0), (kN, .int 0), (kF, .int f)] = putK (putK (putK (putK (putK [] kC (.ref c)) kA (.int 0)) kG (.int 0)) kN (.int 0)) kF (.int f) := rfl
      have v1 : valV (mergeK [] [(kC, V.ref c), (kA, .int 0), (kG, .int 0), (kN, .int 0), (kF, .int f)]) kC = some (.ref c) := by
        rw [em]; exact put_in _ _ _ (put_in _ _ _ (put_in _ _ _ (put_in _ _ _ (put_at _ _) ca) cg) cn) cf
      have v2 : valV (mergeK [] [(kC, V.ref c), (kA, .int 0), (kG, .int 0), (kN, .int 0), (kF, .int f)]) kA = some (.int 0) := by
        rw [em]; exact put_in _ _ _ (put_in _ _ _ (put_in _ _ _ (put_at _ _) ag) an) af
      have v3 : valV (mergeK [] [(kC, V.ref c), (kA, .int 0), (kG, .int 0), (kN, .int 0), (kF, .int f)]) kG = some (.int 0) := by
        rw [em]; exact put_in _ _ _ (put_in _ _ _ (put_at _ _) gn) gf
      have v4 : valV (mergeK [] [(kC, V.ref c), (kA, .int 0), (kG, .int 0), (kN, .int 0), (kF, .int f)]) kN = some (.int 0) := by
        rw [em]; exact put_in _ _ _ (put_at _ _) nf
      have v5 : valV (mergeK [] [(kC, V.ref c), (kA, .int 0), (kG, .int 0), (kN, .int 0), (kF, .int f)]) kF = some (.int f) := by
        rw [em]; exact put_at _ _
      have l5 : (mergeK [] [(kC, V.ref c), (kA, .int 0), (kG, .int 0), (kN, .int 0), (kF, .int f)]).length ≤ 5 := lm
      refine k _ d c ⟨_, ns, 0, 0, f, upd_same, by rw [upd_ne ncd, upd_same], l5, v1, v2, v3, v4, v5, by decide, f0, by omega⟩ (fun b o e => ?_) hd
      rw [upd_ne (ne_of_none e hd), upd_ne (ne_of_none e hc0), upd_ne (ne_of_none e hd)]
      exact e
theorem scPick : FnScope ["_law_pen_here", "_law_some"] ["_law_pen_here", "_law_some"] (defScope sPick) := ⟨rfl, rfl, rfl, by decide +kernel, rfl, by decide +kernel, by decide +kernel⟩
theorem ok_pick {f fD : Addr} {fd fdD : FuncData} (F : Fun K "_law_pick" "_law_pick" sPick f fd) (FD : Fun K "_law_draw" "_law_draw" sDraw fD fdD) (bD : Binds K fdD ["_law_pen_here", "_law_many"] []) (mD : mg "_law_draw" = some (.ref fD))
    (mInt : mg "int" = none) (mLen : mg "len" = none) : FnOk P w K mg base CX0 2 f fd ["_law_pen_here", "_law_some"] (spPick K) := by
  have GD : FnOk P w K mg base CX0 1 fD fdD ["_law_pen_here", "_law_many"] spDraw := ok_draw FD mInt mLen
  refine F.ok scPick (fun vs H Q E h => ?_) (fun cdv A outer s H vs Q E hr h => ?_)
  · obtain ⟨d, c, a, n, xs, rfl, _⟩ := h
    rfl
  · obtain ⟨d, c, a, n, xs, rfl, pen, ha, x0, x1, n0, n1, k⟩ := h
    refine ⟨_, pss_one (ps_ret (pe_ix ix_list (pv 1) (pe_call GD hr rfl mD FD.kp bD .nil pass0 (pa_cons (pv 0) (pa_cons (pe_callB call_len_seq (by rfl) mLen PySem.boot_len (pa_cons (pv 1) pa_nil)) pa_nil))) (fun _ _ => rfl))), ?_⟩
    refine ⟨_, rfl, _, rfl, _, rfl, a, _, rfl, .inl (SqL.of ha), d, c, n, _, rfl, pen, by omega, by omega, n0, n1, fun r H' r0 r1 dr => ?_⟩
    have nda : a ≠ d := fun e => by
      obtain ⟨kvs, cs, p, g, f, h1, _⟩ := pen
      rw [e, h1] at ha
      cases ha
    have hr : r.toNat < xs.length := by omega
    refine ⟨a, _, _, _, rfl, rfl, SqL.of ((dr.off a nda).trans ha), at_of (j := r.toNat) (by omega) (List.getElem?_eq_getElem hr), ?_⟩
    exact k _ _ (List.getElem_mem hr) dr
end
end K71

namespace K71
open PySem L2 Gd B5
section
variable {P : Program} {w : World} {K : PySem.W.Frag} {mg : Str → Option Value} {base : Heap}
abbrev sBadNumber : Stmt := inClass (top 2) 0
theorem scBadNumber : FnScope ["self", "what", "number"] ["self", "what", "number"] (defScope sBadNumber) := ⟨rfl, rfl, rfl, by decide +kernel, rfl, by decide +kernel, by decide +kernel⟩
theorem okBadNumber {f C : Addr} {fd : FuncData} (F : Fun K "__init__" "BadNumber.__init__" sBadNumber f fd) (T : OexC K C) (no : ∀ g ∈ (["what", "number"] : List Str), PySem.W.findIn K (.ref C) g = some none) : FnOk P w K mg base CX0 1 f fd ["self", "what", "number"] (spIni C ["what", "number"]) := by
  refine F.ok scBadNumber (fun vs H Q E h => ?_) (fun cdv A outer s H vs Q E hr h => ?_)
  · obtain ⟨a, ys, rfl, hl, _⟩ := h
    show ys.length + 1 = _
    rw [hl]
    rfl
  · obtain ⟨a, ys, rfl, hl, ha, k⟩ := h
    match ys, hl with
    | [y0, y1], _ =>
    refine ⟨_, pss_cons (ps_ost (pv 0) (pv 1)) (pss_one (ps_ost (pv 0) (pv 2))), ?_⟩
    refine ⟨_, rfl, _, rfl, a, C, rfl, T, no _ (.head _), .inl ⟨ha, fun dx hdx ne => ?_⟩⟩
    refine ⟨_, rfl, _, rfl, a, C, rfl, T, no _ (.tail _ (.head _)), .inr ⟨dx, _, upd_same, by rw [upd_ne ne, upd_same], by show 1 ≤ 900; decide, ?_⟩⟩
    refine k _ dx hdx ne (fun b hb hd => ?_) ?_ ?_
    · rw [upd_ne hd, upd_ne hb, upd_ne hd]
    · rw [upd_ne ne.symm, upd_same]
    · exact upd_same
abbrev sBadRow : Stmt := inClass (top 3) 0
theorem scBadRow : FnScope ["self", "row"] ["self", "row"] (defScope sBadRow) := ⟨rfl, rfl, rfl, by decide +kernel, rfl, by decide +kernel, by decide +kernel⟩
theorem okBadRow {f C : Addr} {fd : FuncData} (F : Fun K "__init__" "BadRow.__init__" sBadRow f fd) (T : OexC K C) (no : ∀ g ∈ (["row"] : List Str), PySem.W.findIn K (.ref C) g = some none) : FnOk P w K mg base CX0 1 f fd ["self", "row"] (spIni C ["row"]) := by
  refine F.ok scBadRow (fun vs H Q E h => ?_) (fun cdv A outer s H vs Q E hr h => ?_)
  · obtain ⟨a, ys, rfl, hl, _⟩ := h
    show ys.length + 1 = _
    rw [hl]
    rfl
  · obtain ⟨a, ys, rfl, hl, ha, k⟩ := h
    match ys, hl with
    | [y0], _ =>
    refine ⟨_, pss_one (ps_ost (pv 0) (pv 1)), ?_⟩
    refine ⟨_, rfl, _, rfl, a, C, rfl, T, no _ (.head _), .inl ⟨ha, fun dx hdx ne => ?_⟩⟩
    refine k _ dx hdx ne (fun b hb hd => ?_) ?_ ?_
    · rw [upd_ne hb, upd_ne hd]
    · exact upd_same
    · rw [upd_ne ne, upd_same]; rfl
abbrev sUnlike : Stmt := inClass (top 4) 0
theorem scUnlike : FnScope ["self", "what"] ["self", "what"] (defScope sUnlike) := ⟨rfl, rfl, rfl, by decide +kernel, rfl, by decide +kernel, by decide +kernel⟩
theorem okUnlike {f C : Addr} {fd : FuncData} (F : Fun K "__init__" "Unlike.__init__" sUnlike f fd) (T : OexC K C) (no : ∀ g ∈ (["what"] : List Str), PySem.W.findIn K (.ref C) g = some none) : FnOk P w K mg base CX0 1 f fd ["self", "what"] (spIni C ["what"]) := by
  refine F.ok scUnlike (fun vs H Q E h => ?_) (fun cdv A outer s H vs Q E hr h => ?_)
  · obtain ⟨a, ys, rfl, hl, _⟩ := h
    show ys.length + 1 = _
    rw [hl]
    rfl
  · obtain ⟨a, ys, rfl, hl, ha, k⟩ := h
    match ys, hl with
    | [y0], _ =>
    refine ⟨_, pss_one (ps_ost (pv 0) (pv 1)), ?_⟩
    refine ⟨_, rfl, _, rfl, a, C, rfl, T, no _ (.head _), .inl ⟨ha, fun dx hdx ne => ?_⟩⟩
    refine k _ dx hdx ne (fun b hb hd => ?_) ?_ ?_
    · rw [upd_ne hb, upd_ne hd]
    · exact upd_same
    · rw [upd_ne ne, upd_same]; rfl
end
end K71

namespace K71
open PySem L2 Gd B5
section
variable {P : Program} {w : World} {K : PySem.W.Frag} {mg : Str → Option Value} {base : Heap}
abbrev sIsI : Stmt := top 6
theorem scIsI : FnScope ["value"] ["value"] (defScope sIsI) := ⟨rfl, rfl, rfl, by decide +kernel, rfl, by decide +kernel, by decide +kernel⟩
theorem ok_isI {f : Addr} {fd : FuncData} (F : Fun K "is_integer" "is_integer" sIsI f fd) (mIsi : mg "isinstance" = none) (mInt : mg "int" = none) (mBool : mg "bool" = none) : FnOk P w K mg base CX0 1 f fd ["value"] (spIsI K) := by
  refine F.ok scIsI (fun vs H Q E h => ?_) (fun cdv A outer s H vs Q E hr h => ?_)
  · obtain ⟨x, rfl, _⟩ := h
    rfl
  · obtain ⟨x, rfl, h⟩ := h
    refine ⟨_, pss_one (ps_ret (pe_and (pe_callB call_isi (by rfl) mIsi (by decide +kernel) (pa_cons (pv 0) (pa_cons (pe_bltn (v := .ty "int") rfl mInt (by decide +kernel) rfl) pa_nil)))
      (pe_one (pe_not (pe_callB call_isi (by rfl) mIsi (by decide +kernel) (pa_cons (pv 0) (pa_cons (pe_bltn (v := .ty "bool") rfl mBool (by decide +kernel) rfl) pa_nil))))))), ?_⟩
    obtain ⟨i, rfl, q⟩ | ⟨⟨n, hn, t⟩, q⟩ | ⟨t, ty, kt, q⟩ := h
    · refine ⟨_, rfl, _, _, _, _, _, rfl, .ty "int", .base (.int i), kit_ty on_int.1, _, rfl, iteT ?_⟩
      exact ⟨_, rfl, _, _, _, _, _, rfl, .ty "bool", .base (.int i), kit_ty on_int.2, _, rfl, q⟩
    · obtain ⟨k1, k2⟩ := off_int n hn
      refine ⟨_, rfl, _, _, _, _, _, rfl, .ty "int", t, kit_ty k1, _, rfl, ite2 (fun z => ?_) (fun z => q)⟩
      refine ⟨_, rfl, _, _, _, _, _, rfl, .ty "bool", t, kit_ty k2, _, rfl, ?_⟩
      rw [z]
      exact q
    · exact ⟨_, rfl, _, _, _, _, _, rfl, .ty "int", ty, kt, _, rfl, iteF q⟩
end
section
variable {P : Program} {w : World} {K : PySem.W.Frag} {mg : Str → Option Value} {base : Heap}
end
section
variable {P : Program} {w : World} {K : PySem.W.Frag} {mg : Str → Option Value} {base : Heap}
variable {fI f : Addr} {fdI fd : FuncData}
abbrev sIsIs : Stmt := top 7
theorem scIsIs : FnScope ["value", "item"] ["value"] (defScope sIsIs) := ⟨rfl, rfl, rfl, by decide +kernel, rfl, by decide +kernel, by decide +kernel⟩
theorem ok_isIs (F : Fun K "is_integers" "is_integers" sIsIs f fd) (B : Blt mg) (I : Cl K mg "is_integer" sIsI ["value"] fI fdI) :
    FnOk P w K mg base CX0 2 f fd ["value"] (spIsIs K) := by
  have GI : FnOk P w K mg base CX0 1 fI fdI ["value"] (spIsI K) := ok_isI I.fn B.isi_ B.int_ B.bool_
  refine F.ok scIsIs (fun vs H Q E h => ?_) (fun cdv A outer s H vs Q E hr h => ?_)
  · obtain ⟨x, rfl, _⟩ := h
    rfl
  · obtain ⟨x, rfl, h⟩ := h
    refine ⟨_, pss_one (ps_ret (pe_and (pe_callB call_isiT (by rfl) B.isi_ (by decide +kernel) (pa_cons (pv 0) (pa_cons (pe_tup (pa_cons (pe_bltn (v := .ty "tuple") rfl B.tup_ (by decide +kernel) rfl)
        (pa_cons (pe_bltn (v := .ty "list") rfl B.list_ (by decide +kernel) rfl) pa_nil))) pa_nil)))
      (pe_one (pe_callB (cr_all rfl) (by rfl) B.all_ (by decide +kernel) (pa_cons (pe_lc (own := [("item", 1)]) (g := gName 1) (tt := tYes) rfl scIsIs.nd (pi_or (pi_list (pv 0)) (pi_tup (pv 0)))
        (blkOk_by (N := ["value", "item"]) (sc := defScope sIsIs) (by decide +kernel))
        (fun _ _ _ _ _ => pg_name (i := 1) scIsIs.nd rfl (Or.inl rfl)) (fun _ _ _ _ _ => pts_nil)
        (fun _ _ _ _ _ => pe_call GI hr rfl I.g I.k I.b .nil pass0 (pa_cons (pv 1) pa_nil))) pa_nil))))), ?_⟩
    refine ⟨_, rfl, (by show 2 ≤ sizeLine; decide), fun t ht => ?_⟩
    have m1 : More H (upd H t (.tup [.ty "tuple", .ty "list"])) := More.new (fun _ _ e => e) ht
    obtain ⟨n, hn, ty, q⟩ | ⟨a, xs, rfl, sq, few, all, q⟩ := h
    · obtain ⟨k1, k2⟩ := seq_no n hn
      refine ⟨_, t, _, _, _, false, rfl, upd_same, .cons (.ty "tuple") (.cons (.ty "list") .nil), tyMore m1 ty, kitAny_cons (kit_ty k1) (fun _ => kitAny_cons (kit_ty k2) (fun _ => kitAny_nil) (fun z => nomatch z)) (fun z => nomatch z), _, rfl, iteF ?_⟩
      exact q _ m1
    · have yes : ∃ n, TyX K H (.ref a) (.type n) ∧ PySem.W.kitAny K (.type n) [.type "tuple", .type "list"] = some true := by
        obtain h | h := sq
        · exact ⟨_, tyL h, kitAny_cons (kit_ty seq_yes.2.1) (fun _ => kitAny_cons (kit_ty seq_yes.2.2) (fun z => nomatch z) (fun _ => rfl)) (fun z => nomatch z)⟩
        · exact ⟨_, tyT h, kitAny_cons (kit_ty seq_yes.1) (fun z => nomatch z) (fun _ => rfl)⟩
      obtain ⟨n, ty, ka⟩ := yes
      refine ⟨_, t, _, _, _, true, rfl, upd_same, .cons (.ty "tuple") (.cons (.ty "list") .nil), tyMore m1 ty, ka, _, rfl, iteT ?_⟩
      have sq1 := Sq.more m1 sq
      generalize upd H t (.tup [.ty "tuple", .ty "list"]) = H1 at m1 sq1 ⊢
      have body : ∀ (J : It) (G : Hp → Prop), Walk J xs.length G (YAt xs) → (∀ H', More H1 H' → G H') → ∀ L, H1 L = none → _ :=
        fun J G wk hG L hL => lc_it (w := wk) (vs := [1]) (g := gName 1) (tt := tYes) (σ := [some (.ref a), none]) (D := L) (H1 := H1)
          (te := tCall (spIsI K) [] (fun _ _ _ => False) (tCons (tVar 1) tNil))
          (Qd := fun H' => ∃ (b : Addr) (bs : List Bool), [V.ref L] = [V.ref b] ∧ SqL K H' b (bs.map V.bl) ∧ Q (.bl (bs.all id)) H')
          (fun i H' => H' L = some (.lst ((xs.take i).map fun y => V.bl (isI y))) ∧ More H1 H') ⟨upd_same, More.new (fun _ _ e => e) hL⟩ (fun i H' _ h => hG H' h.2)
          (fun i y H2 H3 hi ⟨e1, m2⟩ ⟨eH, hy⟩ => by
            subst eH
            have la : ((xs.take i).map fun y => V.bl (isI y)).length < sizeLine := by
              rw [List.length_map, List.length_take]
              exact small1000 (by omega)
            have fin : ∀ b, isI y = b → ∃ acc, H3 L = some (.lst acc) ∧ acc.length < sizeLine ∧ (upd H3 L (.lst (acc ++ [V.bl b]))) L = some (.lst ((xs.take (i + 1)).map fun y => V.bl (isI y))) ∧ More H1 (upd H3 L (.lst (acc ++ [V.bl b]))) := by
              intro b hb
              refine ⟨_, e1, la, ?_, m2.at hL⟩
              rw [upd_same, take_snoc hy, List.map_append, List.map_cons, List.map_nil, hb]
            refine ⟨rfl, _, rfl, y, rfl, ?_⟩
            obtain ⟨z, rfl⟩ | no := all y (List.mem_of_getElem? hy)
            · exact .inl ⟨z, rfl, fin _ rfl⟩
            · exact .inr (.inl ⟨no.more fun b o e => m2 b o (m1 b o e), fin _ (noInt_isI no)⟩))
          (fun H' ⟨e1, m2⟩ => by
            rw [List.take_length] at e1
            refine ⟨L, xs.map isI, rfl, SqL.of (by rw [List.map_map]; exact e1), ?_⟩
            have : ((xs.map isI).all id) = xs.all isI := by rw [List.all_map]; rfl
            rw [this]
            exact q _ fun b o e => m2 b o (m1 b o e))
      obtain h | h := sq1
      · exact .inl ⟨_, rfl, a, rfl, ⟨xs, h⟩, body _ _ walk_list fun H' m => Same.seq m h⟩
      · exact .inr ⟨_, rfl, a, rfl, ⟨xs, h⟩, body _ _ walk_tup fun H' m => sqT_more m h⟩
end
end K71

namespace K71
open PySem L2 Gd B5
section
variable {P : Program} {w : World} {K : PySem.W.Frag} {mg : Str → Option Value} {base : Heap}
variable {fI fS f : Addr} {fdI fdS fd : FuncData}
abbrev sRow : Stmt := top 8
theorem scRow : FnScope ["value", "width"] ["value", "width"] (defScope sRow) := ⟨rfl, rfl, rfl, by decide +kernel, rfl, by decide +kernel, by decide +kernel⟩
theorem ok_row (F : Fun K "is_row" "is_row" sRow f fd) (B : Blt mg) (I : Cl K mg "is_integer" sIsI ["value"] fI fdI) (S : Cl K mg "is_integers" sIsIs ["value"] fS fdS) :
    FnOk P w K mg base CX0 3 f fd ["value", "width"] (spRow K) := by
  have GS : FnOk P w K mg base CX0 2 fS fdS ["value"] (spIsIs K) := ok_isIs S.fn B I
  refine F.ok scRow (fun vs H Q E h => ?_) (fun cdv A outer s H vs Q E hr h => ?_)
  · obtain ⟨x, n, rfl, _⟩ := h
    rfl
  · obtain ⟨x, n, rfl, h⟩ := h
    refine ⟨_, pss_one (ps_ret (pe_and (pe_call GS hr rfl S.g S.k S.b .nil pass0 (pa_cons (pv 0) pa_nil))
      (pe_one (pe_cmpR op_eq (pe_callB call_len_seq (by rfl) B.len_ PySem.boot_len (pa_cons (pv 0) pa_nil)) (pv 1) (nomark _))))), ?_⟩
    obtain ⟨⟨m, hm, t⟩, q⟩ | ⟨a, xs, rfl, s, i, q⟩ := h
    · exact ⟨_, rfl, x, rfl, .inl ⟨m, hm, t, fun H' mo => ⟨_, rfl, iteF (q H' mo)⟩⟩⟩
    · refine ⟨_, rfl, _, rfl, .inr ⟨a, xs, rfl, s, i.1, i.2, fun H' mo => ⟨_, rfl, ?_⟩⟩⟩
      have q := q H' mo
      cases e : xs.all isI with
      | false =>
        rw [e] at q
        exact iteF q
      | true =>
        rw [e] at q
        exact iteT ⟨_, rfl, a, _, rfl, s.more mo, _, rfl, rfl, by rw [deI]; exact q⟩
end
end K71

namespace K71
open PySem L2 Gd B5
section
variable {P : Program} {w : World} {K : PySem.W.Frag} {mg : Str → Option Value} {base : Heap}
variable {fN CN fI fC f : Addr} {fdN fdI fdC fd : FuncData} {D : Addr}
abbrev sCP : Stmt := top 11
theorem scCP : FnScope ["p"] ["p"] (defScope sCP) := ⟨rfl, rfl, rfl, by decide +kernel, rfl, by decide +kernel, by decide +kernel⟩
abbrev sDg : Stmt := top 12
theorem scDg : FnScope ["n", "p", "found", "digit"] ["n", "p"] (defScope sDg) := ⟨rfl, rfl, rfl, by decide +kernel, rfl, by decide +kernel, by decide +kernel⟩
theorem ok_cp (F : Fun K "check_prime" "check_prime" sCP f fd) (B : Blt mg) (I : Cl K mg "is_integer" sIsI ["value"] fI fdI)
    (N : Er K mg "BadNumber" "BadNumber.__init__" CN fN ["what", "number"] sBadNumber fdN) (gD : mg "PRIMES" = some (.ref D)) (dD : tupI K (.ref D) = some [2, 3, 5, 7]) :
    FnOk P w K mg base (L2.CX P w) 3 f fd ["p"] (spCP K CN) := by
  have GI : FnOk P w K mg base CX0 1 fI fdI ["value"] (spIsI K) := ok_isI I.fn B.isi_ B.int_ B.bool_
  have GN : FnOk P w K mg base CX0 1 fN fdN ["self", "what", "number"] (spIni CN ["what", "number"]) := okBadNumber N.fn N.T N.no
  refine F.okX scCP (fun vs H Q E h => ?_) (fun cdv A outer s H vs Q E hr h => ?_)
  · obtain ⟨x, rfl, _⟩ := h
    rfl
  · obtain ⟨x, rfl, h⟩ := h
    have hT : SqT K H D ([2, 3, 5, 7].map V.int) := by
      obtain ⟨a, us, n, sl, ea, hk, rv⟩ := tupI_some dD
      cases ea
      refine .inr ⟨_, us, n, hk, rfl, rfl, ?_, rv⟩
      have z := Paired.length rv
      have z2 : us.toList.length = us.size := Array.length_toList
      rw [← z2, ← z, sizeLine_eq]
      show 4 ≤ 16777216
      decide
    refine ⟨_, pss_one (ps_if (PW.pt (pw_or (pt_not (pt_val (pe_call GI (hr.mono (by decide)) rfl I.g I.k I.b .nil pass0 (pa_cons (pv 0) pa_nil))))
          (pw_or1 (pt_cmpR op_notIn_seq (pv 0) (pe_glob (v := .ref D) rfl gD rfl) (by rfl)))))
        (pss_one (ps_raise rfl (takes_of rfl rfl rfl rfl) (pmk_oex N.T N.iC N.tI GN hr N.b .nil pass0 rfl N.g (pa_cons pe_str (pa_cons (pv 0) pa_nil))))) pss_nil), ?_⟩
    obtain ⟨m, rfl, l, q⟩ | ⟨⟨m, rfl, l⟩ | bad, q⟩ := h
    · refine ⟨_, rfl, _, rfl, .inl ⟨m, rfl, _, rfl, iteF ⟨_, rfl, D, _, rfl, .inr hT, rfl, rfl, _, rfl, ?_⟩⟩⟩
      rw [if_pos rfl, show inV (V.int m) ([2, 3, 5, 7].map V.int) = true from l]
      exact iteF q
    · refine ⟨_, rfl, _, rfl, .inl ⟨m, rfl, _, rfl, iteF ⟨_, rfl, D, _, rfl, .inr hT, rfl, rfl, _, rfl, ?_⟩⟩⟩
      rw [if_pos rfl, show inV (V.int m) ([2, 3, 5, 7].map V.int) = false from l]
      exact iteT ⟨_, rfl, mk_ini rfl (by show 2 ≤ 900; decide) q⟩
    · exact ⟨_, rfl, _, rfl, .inr (.inl ⟨bad, _, rfl, iteT (iteT ⟨_, rfl, mk_ini rfl (by show 2 ≤ 900; decide) q⟩)⟩)⟩
theorem ok_dg (F : Fun K "digits" "digits" sDg f fd) (B : Blt mg) (I : Cl K mg "is_integer" sIsI ["value"] fI fdI) (C : Cl K mg "check_prime" sCP ["p"] fC fdC)
    (N : Er K mg "BadNumber" "BadNumber.__init__" CN fN ["what", "number"] sBadNumber fdN) (gD : mg "PRIMES" = some (.ref D)) (dD : tupI K (.ref D) = some [2, 3, 5, 7]) :
    FnOk P w K mg base (L2.CX P w) 4 f fd ["n", "p"] (spDg K CN) := by
  have GI : FnOk P w K mg base CX0 1 fI fdI ["value"] (spIsI K) := ok_isI I.fn B.isi_ B.int_ B.bool_
  have GN : FnOk P w K mg base CX0 1 fN fdN ["self", "what", "number"] (spIni CN ["what", "number"]) := okBadNumber N.fn N.T N.no
  have GC : FnOk P w K mg base (L2.CX P w) 3 fC fdC ["p"] (spCP K CN) := ok_cp C.fn B I N gD dD
  refine F.okX scDg (fun vs H Q E h => ?_) (fun cdv A outer s H vs Q E hr h => ?_)
  · obtain ⟨x, y, rfl, _⟩ := h
    rfl
  · obtain ⟨x, y, rfl, h⟩ := h
    refine ⟨_, pss_cons (ps_if (PW.pt (pw_or (pt_not (pt_val (pe_call GI (hr.mono (by decide)) rfl I.g I.k I.b .nil pass0 (pa_cons (pv 0) pa_nil))))
          (pw_or1 (pt_cmpR op_lt (pv 0) pe_int (nomark _)))))
        (pss_one (ps_raise rfl (takes_of rfl rfl rfl rfl) (pmk_oex N.T N.iC N.tI GN (hr.mono (by decide)) N.b .nil pass0 rfl N.g (pa_cons pe_str (pa_cons (pv 0) pa_nil))))) pss_nil)
      (pss_cons (ps_expr (pe_call GC hr rfl C.g C.k C.b .nil (passes_call (takes_of rfl rfl rfl rfl) (fun _ _ _ _ h => h)) (pa_cons (pv 1) pa_nil)))
      (pss_cons (ps_set (i := 2) scDg.nd rfl (Or.inl rfl) (pe_lst pa_nil))
      (pss_cons (ps_while (passes_of rfl) (pt_cmpR op_gt (pv 0) pe_int (nomark _))
        (pss_cons (ps_asg (pe_callB call_divmod (by rfl) B.divmod_ (by decide +kernel) (pa_cons (pv 0) (pa_cons (pv 1) pa_nil)))
            (pg_tup (by rfl) (pgs_cons (pg_name (i := 0) scDg.nd rfl (Or.inl rfl)) (pgs_cons (pg_name (i := 3) scDg.nd rfl (Or.inl rfl)) pgs_nil))))
          (pss_one (ps_expr (pe_bm PySem.F.plainAttrs_list PySem.F.slot_list_append PySem.F.type_list_append mt_append (pv 2) (pa_cons (pv 3) pa_nil))))))
      (pss_one (ps_ret (pe_callTy call_tuple_of (by rfl) B.tup_ (by decide +kernel) (pa_cons (pv 2) pa_nil))))))), ?_⟩
    obtain ⟨n, p, rfl, rfl, pr, big, q⟩ | ⟨⟨i, rfl, neg⟩ | bad, q⟩ | ⟨n, rfl, n0, bad, q⟩ := h
    · obtain ⟨p2, p7⟩ := isPr_small pr
      refine ⟨_, rfl, _, rfl, .inl ⟨_, rfl, _, rfl, iteF ⟨_, rfl, _, _, rfl, rfl, _, rfl, ?_⟩⟩⟩
      rw [show decide ((n : Int) < 0) = false from decide_eq_false (by omega)]
      refine iteF ⟨_, rfl, _, rfl, .inl ⟨_, rfl, pr, ?_⟩⟩
      refine ⟨(by show 0 ≤ sizeLine; exact Nat.zero_le _), fun l hl => ?_⟩
      refine while_by (fun σ H2 => ∃ (m : Nat) (acc : List Int) (z : Option V), σ = [some (.int m), some (.int p), some (.ref l), z] ∧ H2 l = some (.lst (acc.map V.int)) ∧
          More H H2 ∧ acc ++ dgs p m = dgs p n) (fun σ _ => match σ with | some (.int m) :: _ => m.toNat | _ => 0)
        ⟨n, [], none, rfl, upd_same, More.new (fun _ _ e => e) hl, rfl⟩ ?_ ?_
      · rintro σ H2 ⟨m, acc, z, rfl, hl2, mo, eq⟩
        refine ⟨_, rfl, _, _, rfl, rfl, _, rfl, ite2 (fun hm => ?_) (fun hm => ?_)⟩
        · have hm : (0 : Int) < m := of_decide_eq_true hm
          have m0 : 0 < m := by omega
          refine ⟨_, rfl, _, rfl, _, _, rfl, ⟨by omega, by omega⟩, fun t ht => ?_⟩
          have lt : l ≠ t := ne_of_none hl2 ht
          have hl3 : (upd H2 t (.tup [.int ((m : Int) / p), .int ((m : Int) % p)])) l = some (.lst (acc.map V.int)) := by rw [upd_ne lt]; exact hl2
          refine ⟨t, _, rfl, SqT.of upd_same, rfl, _, _, rfl, _, _, rfl, rfl, ?_⟩
          have short : acc.length < sizeLine := by
            have e := congrArg List.length eq
            rw [List.length_append] at e
            have := dgs_len (show 2 ≤ p by omega) 400 n big
            exact small1000 (by omega)
          refine ⟨_, rfl, .inl ⟨rfl, _, SqL.of hl3⟩, _, rfl, l, _, _, rfl, rfl, hl3, by rw [List.length_map]; exact short, ?_⟩
          refine ⟨⟨m / p, acc ++ [((m % p : Nat) : Int)], _, rfl, ?_, ?_, ?_⟩, ?_⟩
          · rw [upd_same, List.map_append]
            rfl
          · refine More.at (More.new mo ht) (More.off ?_ hl)
            exact fun b o e => e
          · rw [List.append_assoc, List.singleton_append, ← dgs_pos m0 (by omega)]
            exact eq
          · show ((m / p : Nat) : Int).toNat < (m : Int).toNat
            have := Nat.div_lt_self m0 (show 1 < p by omega)
            omega
        · have hm : ¬ ((0 : Int) < m) := fun z => hm (decide_eq_true z)
          have m0 : m = 0 := by omega
          rw [m0, dgs_zero, List.append_nil] at eq
          rw [eq] at hl2
          refine ⟨_, rfl, l, _, rfl, .inl ⟨SqL.of hl2, fun t ht => ?_⟩⟩
          exact q _ t (More.new mo ht) (More.off mo ht) upd_same
      · rintro σ H2 Q1 Q2 f ⟨v, e, x, y, e1, e2, c, e3, q2⟩
        exact ⟨v, e, x, y, e1, e2, c, e3, f _ _ q2⟩
    · refine ⟨_, rfl, _, rfl, .inl ⟨i, rfl, _, rfl, iteF ⟨_, rfl, _, _, rfl, rfl, _, rfl, ?_⟩⟩⟩
      rw [show decide (i < 0) = true from decide_eq_true neg]
      exact iteT ⟨_, rfl, mk_ini rfl (by show 2 ≤ 900; decide) q⟩
    · exact ⟨_, rfl, _, rfl, .inr (.inl ⟨bad, _, rfl, iteT (iteT ⟨_, rfl, mk_ini rfl (by show 2 ≤ 900; decide) q⟩)⟩)⟩
    · refine ⟨_, rfl, _, rfl, .inl ⟨n, rfl, _, rfl, iteF ⟨_, rfl, _, _, rfl, rfl, _, rfl, ?_⟩⟩⟩
      rw [show decide (n < 0) = false from decide_eq_false (by omega)]
      exact iteF ⟨_, rfl, _, rfl, .inr ⟨bad, q⟩⟩
end
end K71

namespace ZipG
open PySem L2 PySem.Spec PyProof.Rows
/-! zip of any two of: a list, a tuple, a text -/
inductive Src where
  | l (a : Addr)
  | t (a : Addr)
  | s (z : Str)
def Src.v : Src → V
  | .l a => .ref a
  | .t a => .ref a
  | .s z => .str z
/-- its items as they stand -/
def Src.has (K : PySem.W.Frag) : Src → List V → Hp → Prop
  | .l a, xs, H => SqL K H a xs
  | .t a, xs, H => SqT K H a xs
  | .s z, xs, _ => xs = z.cps.toList.map fun c => V.str ⟨#[c]⟩
def Src.it : Src → Addr → Nat → Heap → Prop
  | .l a, it, i, h => h.IsListIter it a i
  | .t a, it, i, h => h.IsTupleIter it a i
  | .s z, it, i, h => ∃ t, h.IsStrIter it (strIterType z) z t i
def Src.low (n : Nat) : Src → Prop
  | .l a => a < n
  | .t a => a < n
  | .s _ => True
def ItG (K : PySem.W.Frag) (S1 S2 : Src) : It :=
  ⟨fun i H => ∃ xs ys, S1.has K xs H ∧ S2.has K ys H ∧ i < xs.length ∧ i < ys.length,
    fun i H v H' => ∃ T x y, v = .ref T ∧ H T = none ∧ H' = upd H T (.tup [x, y]) ∧ (∀ xs, S1.has K xs H → xs[i]? = some x) ∧ ∀ ys, S2.has K ys H → ys[i]? = some y,
    fun i H => ∃ xs ys : List V, S1.has K xs H ∧ S2.has K ys H ∧ i ≤ xs.length ∧ i ≤ ys.length ∧ (i = xs.length ∨ i = ys.length)⟩
theorem vals_back : ∀ {xs : List V} {us : List Value} {i : Nat} {u : Value}, Vals xs us → us[i]? = some u → ∃ x, xs[i]? = some x ∧ RelV x u
  | _, _, _, _, .nil, e => by simp at e
  | _, _, 0, _, .cons r _, e => by simp at e; subst e; exact ⟨_, rfl, r⟩
  | _, _, i + 1, u, .cons _ t, e => by
    rw [List.getElem?_cons_succ] at e
    obtain ⟨x, h1, h2⟩ := vals_back t e
    exact ⟨x, by rw [List.getElem?_cons_succ]; exact h1, h2⟩
section
variable {X : Cx} {pins : List (Addr × Obj)} {σ : L2.St} {H : Hp} {s : Shared} {A : Around}
theorem src_draw (hh : A.handled = none) (S : Src) (I : Inv X pins σ H s) {it i n : Nat} {xs : List V} (st : S.it it i s.heap) (low : S.low n) (hit : n ≤ it) (h : S.has X.K xs H) :
    ∃ (fp : List Addr) (P : Nat → Value → Prop) (St : Nat → Heap → Prop), Draws X.prog X.w A it fp xs.length P St ∧ St i s.heap ∧ (∀ j h', St j h' → S.it it j h') ∧ it ∈ fp ∧ (∀ b ∈ fp, b = it ∨ b < n) ∧ ∀ j u, P j u → ∃ x, xs[j]? = some x ∧ RelV x u := by
  cases S with
  | l a =>
    obtain ⟨its, rv, p, _⟩ := I.list h
    have hl := rv.length
    have e : its.toArray.size = xs.length := by rw [List.size_toArray, hl]
    have low : a < n := low
    refine ⟨_, _, _, e ▸ Draws.list hh it a (Nat.ne_of_lt (Nat.lt_of_lt_of_le low hit)) its.toArray, ⟨st, p.isList⟩, fun j h' z => z.1, by simp, fun b hb => ?_, fun j u hu => ?_⟩
    · have hb : b = it ∨ b = a := by simpa using hb
      rcases hb with rfl | rfl
      · exact .inl rfl
      · exact .inr low
    · have hu : its[j]? = some u := by simpa using hu
      exact vals_back rv hu
  | t a =>
    obtain ⟨its, rv, p, _⟩ := I.tuple h
    have hl := rv.length
    have e : its.toArray.size = xs.length := by rw [List.size_toArray, hl]
    have low : a < n := low
    refine ⟨_, _, _, e ▸ Draws.tuple hh it a (Nat.ne_of_lt (Nat.lt_of_lt_of_le low hit)) its.toArray, ⟨st, p⟩, fun j h' z => z.1, by simp, fun b hb => ?_, fun j u hu => ?_⟩
    · have hb : b = it ∨ b = a := by simpa using hb
      rcases hb with rfl | rfl
      · exact .inl rfl
      · exact .inr low
    · have hu : its[j]? = some u := by simpa using hu
      exact vals_back rv hu
  | s z =>
    obtain ⟨t, st⟩ := st
    have h : xs = z.cps.toList.map fun c => V.str ⟨#[c]⟩ := h
    subst h
    have e : z.cps.size = (z.cps.toList.map fun c => V.str ⟨#[c]⟩).length := by simp
    refine ⟨_, _, _, e ▸ Draws.text hh it z t, st, fun j h' z => ⟨t, z⟩, by simp, fun b hb => .inl (by simpa using hb), fun j u hu => ?_⟩
    obtain ⟨c, u', hc, rfl⟩ := hu
    refine ⟨.str ⟨#[c]⟩, ?_, u', rfl⟩
    rw [List.getElem?_map, Array.getElem?_toList, hc]
    rfl
theorem src_it {S : Src} {it i : Nat} {h h' : Heap} (st : S.it it i h) (k : ∀ o, h.get? it = some o → h'.get? it = some o) : S.it it i h' := by
  cases S with
  | l a => exact Heap.IsListIter.at st k
  | t a => exact Heap.IsTupleIter.at st k
  | s z =>
    obtain ⟨t, o, e, r⟩ := st
    exact ⟨t, o, k _ e, r⟩
theorem src_obj {S : Src} {it i : Nat} {h : Heap} (st : S.it it i h) : ∃ o, h.get? it = some o ∧ ∀ v, o.data ≠ .cell v := by
  cases S with
  | l a => obtain ⟨o, e, _, d⟩ := st; exact ⟨o, e, fun v q => by rw [d] at q; cases q⟩
  | t a => obtain ⟨o, e, _, d⟩ := st; exact ⟨o, e, fun v q => by rw [d] at q; cases q⟩
  | s z => obtain ⟨t, o, e, _, d⟩ := st; exact ⟨o, e, fun v q => by rw [d] at q; cases q⟩
theorem has_inj {S : Src} (I : Inv X pins σ H s) {xs ys : List V} (h1 : S.has X.K xs H) (h2 : S.has X.K ys H) : xs = ys := by
  cases S with
  | l a => exact I.list_inj h1 h2
  | t a => exact I.tuple_inj h1 h2
  | s z => exact h1.trans h2.symm
theorem nn {a b : Nat} (h : a ≠ b) : @Ne Addr a b := h
theorem ee {a b : Addr} (h : a = b) : @Eq Nat a b := h
abbrev fpG (n : Nat) : List Addr := [n + 4, n + 2, n + 3, n, n + 1]
theorem turn_zipG {P : Program} {w : World} {K : PySem.W.Frag} {elts : List Expr} {kk : Nat} {tpos : Pos} {n : Nat} {S1 S2 : Src} (l1 : S1.low n) (l2 : S2.low n) :
    Turn P w K (.Tuple elts kk tpos) (ItG K S1 S2) (fpG n) (n + 4) (fun i h => IsZip h (n + 4) (n + 2) (n + 3) .none ∧ IsTupOf2 h (n + 2) (.ref n) (.ref (n + 1)) ∧ (∃ x y, IsTupOf2 h (n + 3) x y) ∧ S1.it n i h ∧ S2.it (n + 1) i h) where
  mem := by simp
  obj := fun i h st c hc => by
    obtain ⟨hz, hTI, ⟨x, y, hTO⟩, h1, h2⟩ := st
    have e' : c = n + 4 ∨ c = n + 2 ∨ c = n + 3 ∨ c = n ∨ c = n + 1 := by simpa using hc
    rcases e' with q | q | q | q | q
    · rw [q]; exact ⟨_, hz, fun v q => nomatch q⟩
    · rw [q]; exact ⟨_, hTI, fun v q => nomatch q⟩
    · rw [q]; exact ⟨_, hTO, fun v q => nomatch q⟩
    · rw [q]; exact src_obj h1
    · rw [q]; exact src_obj h2
  keep := fun i h h' st k => by
    obtain ⟨hz, hTI, ⟨x, y, hTO⟩, h1, h2⟩ := st
    exact ⟨k _ (by simp) _ hz, k _ (by simp) _ hTI, ⟨x, y, k _ (by simp) _ hTO⟩, src_it h1 fun o q => k n (by simp) o q, src_it h2 fun o q => k (n + 1) (by simp) o q⟩
  item := by
    intro X hP hw hK hc i pins s σ H E I hf st hg
    subst hP hw hK
    obtain ⟨hz, hTI, ⟨x0, y0, hTO⟩, h1, h2⟩ := st
    obtain ⟨xs, ys, hx, hy, lx, ly⟩ := hg
    have hh : X.A.in1.handled = none := I.ok.hd hc
    obtain ⟨fp1, P1, St1, D1, s1, back1, m1, f1, r1⟩ := src_draw hh S1 I h1 l1 (Nat.le_refl _) hx
    obtain ⟨fp2, P2, St2, D2, s2, back2, m2, f2, r2⟩ := src_draw hh S2 I h2 l2 (Nat.le_succ _) hy
    have no1 : ∀ c : Nat, n < c → c ∉ fp1 := fun c hc hm => by
      rcases f1 c hm with e | e
      · have := ee e
        omega
      · have e : (c : Nat) < n := e
        omega
    have no2 : ∀ c : Nat, n ≤ c → c ≠ n + 1 → c ∉ fp2 := fun c hc hn hm => by
      rcases f2 c hm with e | e
      · exact hn e
      · have e : (c : Nat) < n := e
        omega
    have S : ZipSep2 (n + 4) (n + 2) (n + 3) n (n + 1) fp1 fp2 := ⟨nn (by omega), nn (by omega), nn (by omega), nn (by omega), m1, no1 (n + 4) (by omega), no1 (n + 3) (by omega), nn (by omega), m2, no2 (n + 4) (by omega) (by omega), no2 (n + 3) (by omega) (by omega), no2 n (by omega) (by omega), no1 (n + 1) (by omega)⟩
    have hzl : n + 4 < s.heap.objs.size := Heap.lt_size hz
    refine wpAny_pyNext_zipD2_item S D1 D2 hz hTI hTO s1 s2 lx ly fun u u2 h' tk p1 p2 z' TO' h1' h2' hT hsz hk => ?_
    obtain ⟨x, ex, ru⟩ := r1 _ _ p1
    obtain ⟨y, ey, ru2⟩ := r2 _ _ p2
    refine ⟨_, rfl, wpAny_letOwnedTupleGo_zip (s := { s with heap := h', toks := tk }) z' fun h'' z'' sb => ?_⟩
    have hT2 : h''.get? s.heap.objs.size = some { cls := .type "tuple", data := .seq #[u, u2] } := (sb.2 _ (Nat.ne_of_gt hzl)).trans hT
    have new : ObjOk X.prog X.w (upd H s.heap.objs.size (.tup [x, y])) h'' s.heap.objs.size (.tup [x, y]) :=
      ⟨by show 2 ≤ sizeLine; decide, [u, u2], .cons ru (.cons ru2 .nil), ⟨_, hT2, rfl, _, rfl⟩⟩
    have I1 : Inv X pins σ (upd H s.heap.objs.size (.tup [x, y])) { s with heap := h'', toks := tk } :=
      I.turnedNew (t' := tk) (ch := fpG n) (fun c o hb q => (sb.2 c (fun q' => hb (by simp [q']))).trans (hk c o (fun q' => hb (by simp [q'])) (fun q' => hb (by simp [q'])) (fun q' => hb (by simp [q'])) (fun q' => hb (by simp [q'])) q)) hf (Nat.le_refl _) new
    refine ⟨.ref s.heap.objs.size, _, I1, rfl, ⟨_, x, y, rfl, I.hok.fresh (Nat.le_refl _), rfl, fun l hl => by rw [has_inj I hl hx]; exact ex, fun l hl => by rw [has_inj I hl hy]; exact ey⟩, ⟨z'', ?_, ⟨u, u2, ?_⟩, ?_, ?_⟩, fun c hcm => ?_⟩
    · exact (sb.2 _ (nn (by omega))).trans (hk _ _ (nn (by omega)) (nn (by omega)) (nn (by omega)) (nn (by omega)) hTI)
    · exact (sb.2 _ (nn (by omega))).trans TO'
    · exact src_it (back1 _ _ h1') fun o q => (sb.2 _ (nn (by omega))).trans q
    · exact src_it (back2 _ _ h2') fun o q => (sb.2 _ (nn (by omega))).trans q
    · have hlt : c < s.heap.objs.size := by
        have e' : @Eq Nat c (n + 4) ∨ @Eq Nat c (n + 2) ∨ @Eq Nat c (n + 3) ∨ @Eq Nat c n ∨ @Eq Nat c (n + 1) := by simpa using hcm
        have go : ∀ k : Nat, k ≤ 4 → @Eq Nat c (n + k) → c < s.heap.objs.size := fun k hk e => Nat.lt_of_le_of_lt (Nat.le_trans (Nat.le_of_eq e) (Nat.add_le_add_left hk n)) hzl
        rcases e' with e | e | e | e | e
        · exact go 4 (by decide) e
        · exact go 2 (by decide) e
        · exact go 3 (by decide) e
        · exact go 0 (by decide) e
        · exact go 1 (by decide) e
      rw [upd_ne (Nat.ne_of_lt hlt)]
      exact (hf c hcm).1
  done := by
    intro X hP hw hK hc i pins s σ H E I hf st hg
    subst hP hw hK
    obtain ⟨hz, hTI, ⟨x0, y0, hTO⟩, h1, h2⟩ := st
    obtain ⟨xs, ys, hx, hy, lx, ly, he⟩ := hg
    have hh : X.A.in1.handled = none := I.ok.hd hc
    obtain ⟨fp1, P1, St1, D1, s1, back1, m1, f1, r1⟩ := src_draw hh S1 I h1 l1 (Nat.le_refl _) hx
    obtain ⟨fp2, P2, St2, D2, s2, back2, m2, f2, r2⟩ := src_draw hh S2 I h2 l2 (Nat.le_succ _) hy
    have no1 : ∀ c : Nat, n < c → c ∉ fp1 := fun c hc hm => by
      rcases f1 c hm with e | e
      · have := ee e
        omega
      · have e : (c : Nat) < n := e
        omega
    have no2 : ∀ c : Nat, n ≤ c → c ≠ n + 1 → c ∉ fp2 := fun c hc hn hm => by
      rcases f2 c hm with e | e
      · exact hn e
      · have e : (c : Nat) < n := e
        omega
    have S : ZipSep2 (n + 4) (n + 2) (n + 3) n (n + 1) fp1 fp2 := ⟨nn (by omega), nn (by omega), nn (by omega), nn (by omega), m1, no1 (n + 4) (by omega), no1 (n + 3) (by omega), nn (by omega), m2, no2 (n + 4) (by omega) (by omega), no2 (n + 3) (by omega) (by omega), no2 n (by omega) (by omega), no1 (n + 1) (by omega)⟩
    exact wpAny_pyNext_zipD2_end S D1 D2 hz hTI hTO s1 s2 lx ly he fun h' tk hk => ⟨rfl, I.turnedL (t' := tk) (ch := fpG n) (fun c o hb q =>
      hk c o (fun q' => hb (by simp [q'])) (fun q' => hb (by simp [q'])) (fun q' => hb (by simp [q'])) (fun q' => hb (by simp [q'])) q) hf⟩
  self := fun A i s Q E st h => wpAny_pyIter_zip st.1 h
def iZipG (K : PySem.W.Frag) (ta : TA) : TI := fun σ H R => ta σ H fun vs H1 => ∃ (S1 S2 : Src) (xs ys : List V), vs = [S1.v, S2.v] ∧ S1.has K xs H1 ∧ S2.has K ys H1 ∧ R (ItG K S1 S2) H1
theorem src_begin (S : Src) (I : Inv X pins σ H s) {xs : List V} {u : Value} (h : S.has X.K xs H) (r : RelV S.v u) :
    ∃ (o : Obj) (Hp0 : Heap → Prop), Begins u o Hp0 ∧ Hp0 s.heap ∧ S.low s.heap.objs.size ∧ ∀ (h' : Heap) (it : Addr), h'.get? it = some o → S.it it 0 h' := by
  cases S with
  | l a =>
    obtain ⟨its, rv, p, _⟩ := I.list h
    cases r
    exact ⟨_, _, begins_list a its.toArray, p.isList, p.lt, fun h' it e => ⟨_, e, rfl, rfl⟩⟩
  | t a =>
    obtain ⟨its, rv, p, _⟩ := I.tuple h
    cases r
    exact ⟨_, _, begins_tuple a its.toArray, p, p.lt, fun h' it e => ⟨_, e, rfl, rfl⟩⟩
  | s z =>
    obtain ⟨t, rfl⟩ := r
    exact ⟨_, _, begins_text z t, trivial, trivial, fun h' it e => ⟨t, _, e, rfl, rfl⟩⟩
theorem pi_zipG {X : Cx} {e e2 : Expr} {ta : TA} {p pos tpos : Pos} {elts : List Expr} {kk : Nat} (hg : Gl X "zip") (hm : X.mg "zip" = none) (ha : PA X [e, e2] ta)
    (hs : starEach [e, e2] X.env = (false, eval e X.env) :: starEach [e2] X.env := by rfl) (hpl : (backTo pos (starEach [e2] X.env)).any (·.1) = false := by rfl) :
    PI X (.Tuple elts kk tpos) (.Call (.Name "zip" p) [e, e2] [] pos) (iZipG X.K ta) := by
  refine ⟨fun pins s σ H R I h => ?_⟩
  refine Call_ (ld_blt I hg hm PyProof.Rows.boot_zip (PyProof.Rows.callWith_type1 (thn (ha.run pos pins s σ H _ I h) fun us s1 ⟨vs, H1, I1, r1, q1⟩ => ?_) hs hpl))
  obtain ⟨S1, S2, xs, ys, ex, hx, hy, q⟩ := q1
  subst ex
  cases r1 with
  | cons r rr =>
    cases rr with
    | cons r' rr =>
      cases rr
      obtain ⟨o1, G1, B1, g1, low1, b1⟩ := src_begin S1 I1 hx r
      obtain ⟨o2, G2, B2, g2, low2, b2⟩ := src_begin S2 I1 hy r'
      have fresh5 : ∀ c, c ∈ fpG s1.heap.objs.size → FpOk X pins H1 c := fun c hcm => by
        have e' : @Eq Nat c (s1.heap.objs.size + 4) ∨ @Eq Nat c (s1.heap.objs.size + 2) ∨ @Eq Nat c (s1.heap.objs.size + 3) ∨ @Eq Nat c s1.heap.objs.size ∨ @Eq Nat c (s1.heap.objs.size + 1) := by simpa using hcm
        have go : ∀ k : Nat, @Eq Nat c (s1.heap.objs.size + k) → s1.heap.objs.size ≤ c := fun k e => Nat.le_trans (Nat.le_add_right _ k) (Nat.le_of_eq e.symm)
        have hle : s1.heap.objs.size ≤ c := by
          rcases e' with e | e | e | e | e
          · exact go 4 e
          · exact go 2 e
          · exact go 3 e
          · exact go 0 e
          · exact go 1 e
        exact I1.fpOk hle (I1.hok.fresh hle)
      refine zip_begins2 B1 B2 g1 g2 fun h' hz hTI hTO h1 h2 hsz hk => wpAny_pyIter_zip hz ?_
      have I2 : Inv X pins σ H1 { s1 with heap := h' } := I1.kept (t' := s1.toks) hk
      exact ⟨s1.heap.objs.size + 4, fpG s1.heap.objs.size, _, _, H1, rfl, I2, turn_zipG low1 low2, ⟨hz, hTI, ⟨_, _, hTO⟩, b1 _ _ h1, b2 _ _ h2⟩, fresh5, q⟩
theorem walk_zipG {K : PySem.W.Frag} {S1 S2 : Src} {xs ys : List V} {n : Nat} (hn : n = min xs.length ys.length) : Walk (ItG K S1 S2) n (fun H => S1.has K xs H ∧ S2.has K ys H) (YPair (fun i => xs[i]?) (fun i => ys[i]?)) where
  goes := fun i H hi h => ⟨xs, ys, h.1, h.2, by omega, by omega⟩
  stops := fun H h => ⟨xs, ys, h.1, h.2, by omega, by omega, by omega⟩
  yields := fun i H v H' hi h ⟨T, x, y, e1, e2, e3, e4, e5⟩ => ⟨T, x, y, e1, e2, e3, e4 xs h.1, e5 ys h.2⟩
end
end ZipG

/-! Sqs: lists and tuples alike as what is walked; comprehensions whose items leave what stands. -/
namespace B5
open PySem PySem.Spec PyProof.Rows L2 Gd
/-- what stands at a stands there still -/
def Kept (a : Addr) (H H' : Hp) : Prop := ∀ o, H a = some o → H' a = some o
theorem Kept.sqL {K : PySem.W.Frag} {H H' : Hp} {a : Addr} {xs : List V} (e : Kept a H H') : SqL K H a xs → SqL K H' a xs
  | .inl (.inl h) => .inl (.inl (e _ h))
  | .inl (.inr ⟨o, h⟩) => .inl (.inr ⟨o, e _ h⟩)
  | .inr h => .inr h
theorem Kept.sqT {K : PySem.W.Frag} {H H' : Hp} {a : Addr} {xs : List V} (e : Kept a H H') : SqT K H a xs → SqT K H' a xs
  | .inl (.inl h) => .inl (.inl (e _ h))
  | .inl (.inr ⟨o, h⟩) => .inl (.inr ⟨o, e _ h⟩)
  | .inr h => .inr h
theorem Kept.sq {K : PySem.W.Frag} {H H' : Hp} {a : Addr} {xs : List V} (e : Kept a H H') : Sq K H a xs → Sq K H' a xs
  | .inl h => .inl (e.sqL h)
  | .inr h => .inr (e.sqT h)
theorem Kept.of {a : Addr} {H H' : Hp} (m : More H H') : Kept a H H' := fun o h => m a o h
/-- a list or a tuple is walked -/
def iSq (K : PySem.W.Frag) (te : TE) : TI := fun σ H R => te σ H fun v H1 => ∃ a xs, v = .ref a ∧ Sq K H1 a xs ∧
  ∀ (J : It) (Z : Hp → Prop), Walk J xs.length Z (YAt xs) → (∀ H', Kept a H1 H' → Z H') → R J H1
theorem pi_sq {X : Cx} {K : PySem.W.Frag} {tg e : Expr} {te : TE} (hK : X.K = K) (h : PE X e te) : PI X tg e (iSq K te) := by
  subst hK
  refine ⟨fun pins s σ H R I q => ?_⟩
  refine thn (h.run pins s σ H _ I q) fun v s1 ⟨x, H1, I1, r1, q1⟩ => ?_
  obtain ⟨a, xs, e, hq, q⟩ := q1
  subst e
  cases r1
  rcases hq with hq | hq
  · obtain ⟨its, rv, p, hz⟩ := I1.list hq
    refine wpAny_pyIter_list p.isList ?_
    refine ⟨s1.heap.objs.size, [s1.heap.objs.size], _, _, H1, rfl, I1.kept (t' := s1.toks) fun b o e => Heap.get?_push_of_some _ e, turn_list a _, ⟨_, Heap.get?_push_size _ rfl, rfl, rfl⟩, fun b hb => ?_, q _ _ walk_list fun H' k => k.sqL hq⟩
    have e : b = s1.heap.objs.size := by simpa using hb
    subst e
    exact I1.fpOk (Nat.le_refl _) (I1.hok.fresh (Nat.le_refl _))
  · obtain ⟨its, rv, p, hz⟩ := I1.tuple hq
    refine wpAny_pyIter_tuple (show s1.heap.IsTuple a its.toArray from p) ?_
    refine ⟨s1.heap.objs.size, [s1.heap.objs.size], _, _, H1, rfl, I1.kept (t' := s1.toks) fun b o e => Heap.get?_push_of_some _ e, turn_tuple a _, ⟨_, Heap.get?_push_size _ rfl, rfl, rfl⟩, fun b hb => ?_, q _ _ walk_tup fun H' k => k.sqT hq⟩
    have e : b = s1.heap.objs.size := by simpa using hb
    subst e
    exact I1.fpOk (Nat.le_refl _) (I1.hok.fresh (Nat.le_refl _))
/-- a comprehension without tests over it: each item's value is known, what stands ahead stays -/
theorem lc_pure {J : It} {Z : Hp → Prop} {xs rs : List V} (w : Walk J xs.length Z (YAt xs)) {g : TG} {te : TE} {vs : List Nat} {σ : L2.St} {H1 : Hp} {D : Addr} {Qd : Hp → Prop}
    (hD : H1 D = none) (hZ : ∀ H', More H1 H' → Z H') (hl : rs.length = xs.length) (few : xs.length ≤ 16777215)
    (el : ∀ (i : Nat) (y v : V) (H2 : Hp) (Q : VK), xs[i]? = some y → rs[i]? = some v → More H1 H2 → (∀ H3, More H2 H3 → Q v H3) → g y (wipe σ vs) H2 fun σ2 H3 => wipe σ2 vs = wipe σ vs ∧ te σ2 H3 Q)
    (mo : ∀ y σ' H2 (A B : L2.St → Hp → Prop), (∀ σ2 H3, A σ2 H3 → B σ2 H3) → g y σ' H2 A → g y σ' H2 B)
    (hd : ∀ H', H' D = some (.lst rs) → More H1 H' → Qd H') :
    ∃ W : Nat → Nat → Hp → Prop, (∃ m, W 0 m (upd H1 D (.lst []))) ∧ ∀ i m H, W i m H →
    (J.stop i H ∧ Qd H) ∨ (J.go i H ∧ ∃ Nx : Hp → Prop, (∀ H', Nx H' → ∃ m', m' < m ∧ W (i + 1) m' H') ∧ ∀ x H', J.yld i H x H' → g x (wipe σ vs) H' fun σ2 H2 => wipe σ2 vs = wipe σ vs ∧ tYes σ2 H2 fun b H3 =>
      if b = true then te σ2 H3 fun y H4 => ∃ acc, H4 D = some (.lst acc) ∧ acc.length < sizeLine ∧ Nx (upd H4 D (.lst (acc ++ [y]))) else Nx H3) := by
  refine lc_it (H1 := H1) (D := D) (Qd := Qd) w (fun i H' => H' D = some (.lst (rs.take i)) ∧ More H1 H') ⟨upd_same, More.new (fun _ _ e => e) hD⟩ (fun i H' _ h => hZ H' h.2) ?_ ?_
  · rintro i y H2 H3 hi ⟨h2, m2⟩ ⟨rfl, hy⟩
    have hv : rs[i]? = some rs[i] := List.getElem?_eq_getElem (by omega)
    refine mo _ _ _ _ _ (fun σ2 H4 q => q) (el i y rs[i] H3 (fun y H4 => ∃ acc, H4 D = some (.lst acc) ∧ acc.length < sizeLine ∧ (upd H4 D (.lst (acc ++ [y]))) D = some (.lst (rs.take (i + 1))) ∧ More H1 (upd H4 D (.lst (acc ++ [y])))) hy hv m2 fun H4 m4 => ⟨_, m4 _ _ h2, ?_, ?_, ?_⟩)
    · rw [List.length_take, sizeLine_eq]
      omega
    · rw [upd_same, take_snoc hv]
    · exact More.at (fun b o e => m4 b o (m2 b o e)) hD
  · rintro H' ⟨e, m⟩
    rw [← hl, List.take_length] at e
    exact hd H' e m
/-- the same for one name as the target -/
theorem lc_name {J : It} {Z : Hp → Prop} {xs rs : List V} (w : Walk J xs.length Z (YAt xs)) {n : Nat} {te : TE} {vs : List Nat} {σ : L2.St} {H1 : Hp} {D : Addr} {Qd : Hp → Prop}
    (hD : H1 D = none) (hZ : ∀ H', More H1 H' → Z H') (hl : rs.length = xs.length) (few : xs.length ≤ 16777215)
    (hw : ∀ y, wipe ((wipe σ vs).set n (some y)) vs = wipe σ vs)
    (el : ∀ (i : Nat) (y v : V) (H2 : Hp) (Q : VK), xs[i]? = some y → rs[i]? = some v → More H1 H2 → (∀ H3, More H2 H3 → Q v H3) → te ((wipe σ vs).set n (some y)) H2 Q)
    (hd : ∀ H', H' D = some (.lst rs) → More H1 H' → Qd H') :
    ∃ W : Nat → Nat → Hp → Prop, (∃ m, W 0 m (upd H1 D (.lst []))) ∧ ∀ i m H, W i m H →
    (J.stop i H ∧ Qd H) ∨ (J.go i H ∧ ∃ Nx : Hp → Prop, (∀ H', Nx H' → ∃ m', m' < m ∧ W (i + 1) m' H') ∧ ∀ x H', J.yld i H x H' → gName n x (wipe σ vs) H' fun σ2 H2 => wipe σ2 vs = wipe σ vs ∧ tYes σ2 H2 fun b H3 =>
      if b = true then te σ2 H3 fun y H4 => ∃ acc, H4 D = some (.lst acc) ∧ acc.length < sizeLine ∧ Nx (upd H4 D (.lst (acc ++ [y]))) else Nx H3) :=
  lc_pure w hD hZ hl few (fun i y v H2 Q h1 h2 m h3 => ⟨hw y, el i y v H2 Q h1 h2 m h3⟩) (fun _ _ _ _ _ h q => h _ _ q) hd
end B5

/-! Dat: rows of ints and tuples of such as data; pairs of lists; comprehensions that make objects. -/
namespace B5
open PySem L2 Gd
theorem paired_at {α β : Type} {R : α → β → Prop} : ∀ {xs : List α} {l : List β}, Paired R xs l → ∀ {i : Nat} {y : α}, xs[i]? = some y → ∃ e, l[i]? = some e ∧ R y e
  | _, _, .nil, i, y, h => by rw [List.getElem?_nil] at h; cases h
  | _, _, .cons h t, 0, y, e => by cases e; exact ⟨_, rfl, h⟩
  | _, _, .cons h t, i + 1, y, e => by
    rw [List.getElem?_cons_succ] at e
    obtain ⟨z, h1, h2⟩ := paired_at t e
    exact ⟨z, by rw [List.getElem?_cons_succ]; exact h1, h2⟩
theorem paired_back {α β : Type} {R : α → β → Prop} : ∀ {xs : List α} {l : List β}, Paired R xs l → ∀ e ∈ l, ∃ y ∈ xs, R y e
  | _, _, .nil, e, h => nomatch h
  | _, _, .cons h t, e, he => by
    rcases List.mem_cons.mp he with rfl | he
    · exact ⟨_, .head _, h⟩
    · obtain ⟨y, hy, r⟩ := paired_back t e he
      exact ⟨y, .tail _ hy, r⟩
theorem paired_imp {α β : Type} {R S : α → β → Prop} (h : ∀ x y, R x y → S x y) : ∀ {xs : List α} {l : List β}, Paired R xs l → Paired S xs l
  | _, _, .nil => .nil
  | _, _, .cons a t => .cons (h _ _ a) (paired_imp h t)
theorem paired_snoc {α β : Type} {R : α → β → Prop} {x : α} {y : β} (h : R x y) : ∀ {xs : List α} {l : List β}, Paired R xs l → Paired R (xs ++ [x]) (l ++ [y])
  | _, _, .nil => .cons h .nil
  | _, _, .cons a t => .cons a (paired_snoc h t)
/-- by places -/
theorem paired_of {α β : Type} {R : α → β → Prop} : ∀ {xs : List α} {l : List β}, xs.length = l.length → (∀ (i : Nat) x y, xs[i]? = some x → l[i]? = some y → R x y) → Paired R xs l
  | [], [], _, _ => .nil
  | [], _ :: _, h, _ => by cases h
  | _ :: _, [], h, _ => by cases h
  | x :: xs, y :: l, h, e => .cons (e 0 x y rfl rfl) (paired_of (Nat.succ.inj h) fun i a b ha hb => e (i + 1) a b ha hb)
theorem map_at {α β : Type} {f : α → β} {l : List α} {i : Nat} {v : β} (h : (l.map f)[i]? = some v) : ∃ d, l[i]? = some d ∧ v = f d := by
  rw [List.getElem?_map] at h
  cases e : l[i]? with
  | none => rw [e] at h; cases h
  | some d => rw [e] at h; exact ⟨d, rfl, (Option.some.inj h).symm⟩
theorem at_map {α β : Type} {f : α → β} {l : List α} {i : Nat} {d : α} (h : l[i]? = some d) : (l.map f)[i]? = some (f d) := by
  rw [List.getElem?_map, h]
  rfl
theorem at_getD {α : Type} {l : List α} {i : Nat} (h : i < l.length) (d : α) : l[i]? = some (l.getD i d) := by
  rw [List.getD_eq_getElem?_getD, List.getElem?_eq_getElem h]
  rfl
theorem getD_of {α : Type} {l : List α} {i : Nat} {x : α} (h : l[i]? = some x) (d : α) : l.getD i d = x := by
  rw [List.getD_eq_getElem?_getD, h]
  rfl
/-! ### data -/
def dI (k : List Int) : PyData := .tuple (k.map .int)
def dR (l : List (List Int)) : PyData := .tuple (l.map dI)
theorem lay_ints : ∀ k : List Int, PyData.canLayAll0 (k.map .int) = true
  | [] => by simp [PyData.canLayAll0]
  | x :: k => by
    rw [List.map_cons]
    simp only [PyData.canLayAll0, PyData.canLay0, lay_ints k, Bool.and_self]
theorem lay_rows : ∀ l : List (List Int), PyData.canLayAll0 (l.map dI) = true
  | [] => by simp [PyData.canLayAll0]
  | e :: l => by
    rw [List.map_cons]
    simp only [PyData.canLayAll0, dI, PyData.canLay0, lay_ints, lay_rows l, Bool.and_self]
theorem dep_ints : ∀ k : List Int, PyData.depthAll (k.map .int) = 0
  | [] => by simp [PyData.depthAll]
  | x :: k => by
    rw [List.map_cons]
    simp [PyData.depthAll, PyData.depth, dep_ints k]
theorem dep_rows : ∀ l : List (List Int), PyData.depthAll (l.map dI) ≤ 1
  | [] => by simp [PyData.depthAll]
  | e :: l => by
    have := dep_rows l
    rw [List.map_cons]
    simp only [PyData.depthAll, dI, PyData.depth, dep_ints]
    omega
theorem shaped_I (k : List Int) : SeqAt.shaped (dI k) = true := by
  unfold SeqAt.shaped dI
  simp only [PyData.canLay0, lay_ints, PyData.depth, dep_ints]
  decide
theorem shaped_R (l : List (List Int)) : SeqAt.shaped (dR l) = true := by
  unfold SeqAt.shaped
  have := dep_rows l
  have e : (dR l).canLay0 = true := by unfold dR; simp only [PyData.canLay0, lay_rows]
  rw [e, Bool.true_and, decide_eq_true_eq]
  unfold dR
  simp only [PyData.depth]
  omega
theorem eqvAll_ints : ∀ a b : List Int, PyData.eqvAll (a.map .int) (b.map .int) = decide (a = b)
  | [], [] => by simp [PyData.eqvAll]
  | [], _ :: _ => by simp [PyData.eqvAll]
  | _ :: _, [] => by simp [PyData.eqvAll]
  | x :: a, y :: b => by
    rw [List.map_cons, List.map_cons]
    simp only [PyData.eqvAll, PyData.eqv, eqvAll_ints a b, List.cons.injEq]
    by_cases e : x = y <;> by_cases f : a = b <;> simp [e, f]
theorem eqv_I (a b : List Int) : PyData.eqv (dI a) (dI b) = decide (a = b) := by
  unfold dI
  simp only [PyData.eqv, eqvAll_ints]
theorem eqvAll_rows : ∀ a b : List (List Int), PyData.eqvAll (a.map dI) (b.map dI) = decide (a = b)
  | [], [] => by simp [PyData.eqvAll]
  | [], _ :: _ => by simp [PyData.eqvAll]
  | _ :: _, [] => by simp [PyData.eqvAll]
  | x :: a, y :: b => by
    rw [List.map_cons, List.map_cons]
    simp only [PyData.eqvAll, eqv_I, eqvAll_rows a b, List.cons.injEq]
    by_cases e : x = y <;> by_cases f : a = b <;> simp [e, f]
theorem eqv_R (a b : List (List Int)) : PyData.eqv (dR a) (dR b) = decide (a = b) := by
  unfold dR
  simp only [PyData.eqv, eqvAll_rows]
theorem dp_ints {K : PySem.W.Frag} {H : Hp} : ∀ k : List Int, DpAll K H (k.map V.int) (k.map .int)
  | [] => .nil
  | x :: k => .cons (.int x) (dp_ints k)
theorem dp_I {K : PySem.W.Frag} {H : Hp} {t : Addr} {k : List Int} (h : SqT K H t (k.map V.int)) : Dp K H (.ref t) (dI k) := .tup h (dp_ints k)
/-- x is a tuple of the ints k -/
def TupI (K : PySem.W.Frag) (H : Hp) (x : V) (k : List Int) : Prop := ∃ b, x = .ref b ∧ SqT K H b (k.map V.int)
theorem TupI.more {K : PySem.W.Frag} {H H' : Hp} {x : V} {k : List Int} (m : More H H') (h : TupI K H x k) : TupI K H' x k := let ⟨b, e, s⟩ := h; ⟨b, e, sqT_more m s⟩
theorem dp_rows {K : PySem.W.Frag} {H : Hp} : ∀ {xs : List V} {l : List (List Int)}, Paired (TupI K H) xs l → DpAll K H xs (l.map dI)
  | _, _, .nil => .nil
  | _, _, .cons ⟨b, e, s⟩ t => by subst e; exact .cons (dp_I s) (dp_rows t)
theorem dp_R {K : PySem.W.Frag} {H : Hp} {t : Addr} {xs : List V} {l : List (List Int)} (h : SqT K H t xs) (r : Paired (TupI K H) xs l) : Dp K H (.ref t) (dR l) := .tup h (dp_rows r)
def rTof (K : PySem.W.Frag) : List V → Hp → VK → Prop := fun xs H Q => ∃ p ys, xs = [.ref p] ∧ ((SqL K H p ys ∧ ∀ l, H l = none → Q (.ref l) (upd H l (.tup ys))) ∨ (SqT K H p ys ∧ Q (.ref p) H))
theorem call_tof {X : Cx} {K : PySem.W.Frag} (hK : X.K = K) : CallR X (.type "tuple") (rTof K) := by
  subst hK
  exact call_tuple_of
def rLof (K : PySem.W.Frag) : List V → Hp → VK → Prop := fun xs H Q => ∃ p ys, xs = [.ref p] ∧ (SqL K H p ys ∨ SqT K H p ys) ∧ ∀ l, H l = none → Q (.ref l) (upd H l (.lst ys))
theorem call_lof {X : Cx} {K : PySem.W.Frag} (hK : X.K = K) : CallR X (.type "list") (rLof K) := by
  subst hK
  exact call_list_of
/-! ### comprehensions whose items are new objects -/
theorem lc_rel {J : It} {Z : Hp → Prop} {xs : List V} (w : Walk J xs.length Z (YAt xs)) {n : Nat} {te : TE} {vs : List Nat} {σ : L2.St} {H1 : Hp} {D : Addr} {Qd : Hp → Prop} (R : Nat → V → Hp → Prop)
    (mono : ∀ i v H H', More H H' → R i v H → R i v H') (hD : H1 D = none) (hZ : ∀ H', More H1 H' → Z H') (few : xs.length ≤ 16777215)
    (hw : ∀ y, wipe ((wipe σ vs).set n (some y)) vs = wipe σ vs)
    (el : ∀ (i : Nat) (y : V) (H2 : Hp) (Q : VK), xs[i]? = some y → More H1 H2 → More H1 (del H2 D) → (∃ l, H2 D = some (.lst l)) → (∀ v H3, More H2 H3 → R i v (del H3 D) → Q v H3) → te ((wipe σ vs).set n (some y)) H2 Q)
    (hd : ∀ H' G rs, rs.length = xs.length → More H1 G → More G H' → G D = none → (∀ (i : Nat) v, rs[i]? = some v → R i v G) → H' D = some (.lst rs) → Qd H') :
    ∃ W : Nat → Nat → Hp → Prop, (∃ m, W 0 m (upd H1 D (.lst []))) ∧ ∀ i m H, W i m H →
    (J.stop i H ∧ Qd H) ∨ (J.go i H ∧ ∃ Nx : Hp → Prop, (∀ H', Nx H' → ∃ m', m' < m ∧ W (i + 1) m' H') ∧ ∀ x H', J.yld i H x H' → gName n x (wipe σ vs) H' fun σ2 H2 => wipe σ2 vs = wipe σ vs ∧ tYes σ2 H2 fun b H3 =>
      if b = true then te σ2 H3 fun y H4 => ∃ acc, H4 D = some (.lst acc) ∧ acc.length < sizeLine ∧ Nx (upd H4 D (.lst (acc ++ [y]))) else Nx H3) := by
  have dm : ∀ {H H' : Hp}, More H H' → More (del H D) (del H' D) := fun {H H'} m b o e => by
    by_cases z : b = D
    · rw [z, del_same] at e
      cases e
    · rw [del_ne z] at e ⊢
      exact m b o e
  have d1 : ∀ {H : Hp}, More H1 H → More H1 (del H D) := fun {H} m b o e => by
    rw [del_ne (ne_of_none e hD)]
    exact m b o e
  have dd : ∀ {H : Hp} {o : HO}, del (upd H D o) D = del H D := fun {H o} => by
    funext b
    by_cases z : b = D
    · rw [z, del_same, del_same]
    · rw [del_ne z, del_ne z, upd_ne z]
  refine lc_it (H1 := H1) (D := D) (Qd := Qd) w (fun i H' => ∃ rs, rs.length = i ∧ H' D = some (.lst rs) ∧ More H1 H' ∧ ∀ (j : Nat) v, rs[j]? = some v → R j v (del H' D))
    ⟨[], rfl, upd_same, More.new (fun _ _ e => e) hD, fun j v e => by rw [List.getElem?_nil] at e; cases e⟩ (fun i H' _ h => hZ H' h.choose_spec.2.2.1) ?_ ?_
  · rintro i y H2 H3 hi ⟨rs, rl, h2, m2, al⟩ ⟨rfl, hy⟩
    refine ⟨hw y, el i y H3 (fun v H4 => ∃ acc, H4 D = some (.lst acc) ∧ acc.length < sizeLine ∧ ∃ rs, rs.length = i + 1 ∧ (upd H4 D (.lst (acc ++ [v]))) D = some (.lst rs) ∧ More H1 (upd H4 D (.lst (acc ++ [v]))) ∧ ∀ (j : Nat) x, rs[j]? = some x → R j x (del (upd H4 D (.lst (acc ++ [v]))) D)) hy m2 (d1 m2) ⟨_, h2⟩ fun v H4 m4 r => ?_⟩
    refine ⟨rs, m4 _ _ h2, by rw [sizeLine_eq]; omega, rs ++ [v], by rw [List.length_append, rl]; rfl, upd_same, More.at (fun b o e => m4 b o (m2 b o e)) hD, fun j x hx => ?_⟩
    rw [dd]
    by_cases z : j < rs.length
    · rw [List.getElem?_append_left z] at hx
      exact mono _ _ _ _ (dm m4) (al j x hx)
    · have lt : j < rs.length + 1 := by
        have := (List.getElem?_eq_some_iff.mp hx).1
        rw [List.length_append] at this
        exact this
      have ej : j = rs.length := by omega
      subst ej
      rw [List.getElem?_append_right (Nat.le_refl _), Nat.sub_self] at hx
      cases hx
      rw [rl]
      exact r
  · rintro H' ⟨rs, rl, h2, m2, al⟩
    refine hd H' (del H' D) rs rl (d1 m2) (fun b o e => ?_) del_same al h2
    by_cases z : b = D
    · rw [z, del_same] at e
      cases e
    · rw [del_ne z] at e
      exact e
end B5

namespace L2
open PySem PySem.Spec PyProof.Rows
/-! ### x == y, x != y by an own __eq__ of the class of x -/
section
variable {X : Cx} {CX : CXT} {C f : Addr} {fd : FuncData} {ps : List Str} {sp : Sp} {n : Nat} {E : XK}
def OthT (K : PySem.W.Frag) (H : Hp) (C : Addr) (y : V) (t : Value) : Prop := TyX K H y t ∨ ∃ b dy gs, y = .ref b ∧ H b = some (.ins C dy gs) ∧ t = .ref C
def rOwnE (K : PySem.W.Frag) (C : Addr) (sp : Sp) (E : XK) : R2 := fun x y H Q => ∃ a dx fs t, x = .ref a ∧ H a = some (.ins C dx fs) ∧ OthT K H C y t ∧ PySem.W.notFirst K C t = true ∧ sp [x, y] H Q E
theorem oth_looks {pins : List (Addr × Obj)} {σ : L2.St} {H : Hp} {s : Shared} {y : V} {u t : Value} (I : Inv X pins σ H s) (ry : RelV y u) (o : OthT X.K H C y t) : PySem.W.Looks (model X.prog X.w) s.heap (typeOf u) t := by
  obtain ty | ⟨b, dy, gs, rfl, hb, rfl⟩ := o
  · obtain ⟨P, k, p, _⟩ := kit_of I ry ty
    exact k.ty _ _ I.kIn p
  · cases ry
    obtain ⟨mB, J, _⟩ := ins_get I.hok hb
    obtain ⟨od, J, _⟩ := J.look
    exact J.type
theorem rc_own {op : CmpOp} (hs : PySem.W.findIn X.K (.ref C) (cmpInfo op).2.1 = some (some (.ref f))) (hf : PySem.W.isFn X.K (.ref f) = true) (F : FnR X.prog X.w X.K X.mg X.base CX n f sp)
    (hr : Room n X.A) (hx : Passes CX X E) : OpR X (fun a b => richCompare op a b) (rOwnE X.K C sp E) := by
  intro pins s σ H x y v u Q I rx ry h
  obtain ⟨a, dx, fs, t, rfl, ha, o, hn, q⟩ := h
  cases (show v = Value.ref a from rx)
  obtain ⟨mA, J, _⟩ := ins_get I.hok ha
  obtain ⟨od, J, _⟩ := J.look
  obtain ⟨m, hF⟩ := I.fr
  refine PySem.W.cmp_K (op := op) (tb := t) hr.units0 hF I.ok.mod.kin J (oth_looks I ry o) hn hs hf ?_
  refine wpAny_mono (wpAny_call (run_fnR (us := [.ref a, u]) (vs := [.ref a, y]) F hr hx I (.cons rfl (.cons ry .nil)) q)) (fun w s' z => ?_) fun _ _ x => x
  obtain ⟨z', H', I', rz, qz⟩ := z
  exact SlX.cmpback rz ⟨z', H', I', rz, qz⟩
theorem op_eqOwn (hs : PySem.W.findIn X.K (.ref C) "__eq__" = some (some (.ref f))) (hf : PySem.W.isFn X.K (.ref f) = true) (F : FnOk X.prog X.w X.K X.mg X.base CX n f fd ps sp) (hb : Binds X.K fd ps [])
    (hr : Room n X.A) (hx : Passes CX X E) : OpR X (compareOp .Eq) (rOwnE X.K C sp E) := by
  intro pins s σ H x y v u Q I rx ry h
  have F2 := F.raw (sp := sp) hb .nil
  obtain ⟨a, dx, fs, t, e1, ha, o, hn, q⟩ := h
  exact rc_own (op := .Eq) hs hf F2 hr hx pins s σ H x y v u Q I rx ry ⟨a, dx, fs, t, e1, ha, o, hn, by show sp ([x, y] ++ []) H Q E; rw [List.append_nil]; exact q⟩
end
end L2

/-! Mc: what is asked of a machine. -/
namespace B5
open PySem L2 Gd
/-- a right row of states -/
structure GRow (K : PySem.W.Frag) (H : Hp) (p : Int) (many : Nat) (x : V) (ds : List Int) : Prop where
  ex : ∃ b, x = .ref b ∧ Sq K H b (ds.map V.int)
  len : ((ds.length : Nat) : Int) = p
  ok : ∀ d ∈ ds, 0 ≤ d ∧ d < (many : Int)
theorem GRow.more {K : PySem.W.Frag} {H H' : Hp} {p : Int} {many : Nat} {x : V} {ds : List Int} (m : More H H') (h : GRow K H p many x ds) : GRow K H' p many x ds :=
  ⟨let ⟨b, e, s⟩ := h.ex; ⟨b, e, s.more m⟩, h.len, h.ok⟩
/-- no row of states -/
def NRow (K : PySem.W.Frag) (H : Hp) (p : Int) (many : Nat) (x : V) : Prop := NoSq K H x ∨ ∃ b ys, x = .ref b ∧ Sq K H b ys ∧ Its K H ys ∧
  (ys.all isI = false ∨ ((ys.length : Nat) : Int) ≠ p ∨ ∃ ds : List Int, ys = ds.map V.int ∧ ((ds.length : Nat) : Int) = p ∧ ∃ d ∈ ds, ¬ (0 ≤ d ∧ d < (many : Int)))
theorem NRow.more {K : PySem.W.Frag} {H H' : Hp} {p : Int} {many : Nat} {x : V} (m : More H H') (h : NRow K H p many x) : NRow K H' p many x := by
  obtain h | ⟨b, ys, e, s, i, h⟩ := h
  · exact .inl (h.more m)
  · exact .inr ⟨b, ys, e, s.more m, i.more m, h⟩
/-- no row of so many ints -/
def NWor (K : PySem.W.Frag) (H : Hp) (many : Nat) (x : V) : Prop := NoSq K H x ∨ ∃ b ys, x = .ref b ∧ Sq K H b ys ∧ Its K H ys ∧ (ys.all isI = false ∨ ys.length ≠ many)
theorem NWor.more {K : PySem.W.Frag} {H H' : Hp} {many : Nat} {x : V} (m : More H H') (h : NWor K H many x) : NWor K H' many x := by
  obtain h | ⟨b, ys, e, s, i, h⟩ := h
  · exact .inl (h.more m)
  · exact .inr ⟨b, ys, e, s.more m, i.more m, h⟩
def inD (p : Int) : V → Bool
  | .int d => decide (0 ≤ d ∧ d < p)
  | _ => false
theorem inD_all {p : Int} {ds : List Int} (h : ∀ d ∈ ds, 0 ≤ d ∧ d < p) : (ds.map V.int).all (inD p) = true := by
  rw [List.all_map, List.all_eq_true]
  intro d hd
  exact decide_eq_true (h d hd)
open ZipG in
theorem Sq.src {K : PySem.W.Frag} {H : Hp} {a : Addr} {xs : List V} (h : Sq K H a xs) : ∃ S : Src, S.v = .ref a ∧ ∀ H', Kept a H H' → S.has K xs H' := by
  rcases h with h | h
  · exact ⟨.l a, rfl, fun H' k => k.sqL h⟩
  · exact ⟨.t a, rfl, fun H' k => k.sqT h⟩
theorem any_not {α β : Type} (f : α → β → Bool) : ∀ (l : List α) (m : List β), (List.zipWith (fun a b => !f a b) l m).any id = !(List.zipWith f l m).all id
  | [], _ => by simp
  | _ :: _, [] => by simp
  | a :: l, b :: m => by
    rw [List.zipWith_cons_cons, List.zipWith_cons_cons, List.any_cons, List.all_cons, any_not f l m]
    cases f a b <;> simp
theorem zip_at {α β γ : Type} {f : α → β → γ} {l : List α} {m : List β} {i : Nat} {a : α} {b : β} (h1 : l[i]? = some a) (h2 : m[i]? = some b) : (List.zipWith f l m)[i]? = some (f a b) := by
  rw [List.getElem?_zipWith, h1, h2]
/-- a zero changes no worth -/
def stdy (dss : List (List Int)) (ws : List Int) : Bool := (List.zipWith (fun ds (w : Int) => decide (w = ws.getD (ds.getD 0 0).toNat 0)) dss ws).all id
def RUn (CU : Addr) (what : Str) (H : Hp) (E : XK) : Prop := ∀ d, H d = none → E (.ref CU) (some d) (upd H d (.xd [("what", .str what)]))
def spCM0 (K : PySem.W.Frag) (CN CR CU : Addr) : Sp := fun vs H Q E => ∃ x y z, vs = [x, y, z] ∧ ((BadP K H x ∧ RNum CN "p" x H E) ∨
  ∃ (p : Int) (a : Addr) (xs : List V), x = .int p ∧ isPr p = true ∧ y = .ref a ∧ Sq K H a xs ∧ xs.length ≤ 1000 ∧
    ((xs = [] ∧ RNum CN "states" (.int 0) H E) ∨
    (xs ≠ [] ∧ ∃ (i : Nat) (x0 : V), xs[i]? = some x0 ∧ NRow K H p xs.length x0 ∧ (∀ j y, j < i → xs[j]? = some y → ∃ ds, GRow K H p xs.length y ds) ∧ ∀ H', More H H' → RRow CR x0 H' E) ∨
    (xs ≠ [] ∧ ∃ dss : List (List Int), Paired (GRow K H p xs.length) xs dss ∧
      ((NWor K H xs.length z ∧ ∀ H', More H H' → RRow CR z H' E) ∨
      ∃ (b : Addr) (ws : List Int), z = .ref b ∧ Sq K H b (ws.map V.int) ∧ ws.length = xs.length ∧
        ((stdy dss ws = false ∧ ∀ H', More H H' → RUn CU "zeros" H' E) ∨ (stdy dss ws = true ∧ ∀ H', More H H' → Q .non H'))))))
/-- at a stands the machine of these moves and worths -/
def MAt (K : PySem.W.Frag) (H : Hp) (C a : Addr) (p : Int) (dss : List (List Int)) (ws : List Int) : Prop := ∃ (dx t u : Addr) (xs : List V), H a = some (.ins C dx [("p", .int p), ("moves", .ref t), ("worths", .ref u), ("size", .int (dss.length : Nat))]) ∧
  SqT K H t xs ∧ Paired (TupI K H) xs dss ∧ SqT K H u (ws.map V.int)
theorem MAt.more {K : PySem.W.Frag} {H H' : Hp} {C a : Addr} {p : Int} {dss : List (List Int)} {ws : List Int} (m : More H H') (h : MAt K H C a p dss ws) : MAt K H' C a p dss ws :=
  let ⟨dx, t, u, xs, h1, h2, h3, h4⟩ := h; ⟨dx, t, u, xs, m _ _ h1, sqT_more m h2, paired_imp (fun _ _ r => r.more m) h3, sqT_more m h4⟩
/-- all but what stands at a stays -/
def Off (a : Addr) (H H' : Hp) : Prop := ∀ b o, H b = some o → b ≠ a → H' b = some o
theorem Off.refl {a : Addr} {H : Hp} : Off a H H := fun _ _ e _ => e
theorem Off.trans {a : Addr} {H H1 H2 : Hp} (x : Off a H H1) (y : Off a H1 H2) : Off a H H2 := fun b o e n => y b o (x b o e n) n
theorem Off.of {a : Addr} {H H' : Hp} (m : More H H') : Off a H H' := fun b o e _ => m b o e
theorem Off.upd {a : Addr} {H : Hp} {o : HO} : Off a H (upd H a o) := fun b u e n => by
  rw [upd_ne n]
  exact e
theorem Off.dr {d c : Addr} {n : Int} {H H' : Hp} (h : Drawn H H' d c n) : Off d H H' := fun b o e nb => (h.off b nb).trans e
theorem new_more {H : Hp} {p : Addr} {o : HO} (hp : H p = none) : More H (upd H p o) := More.new (fun _ _ e => e) hp
/-- where an instance or a dict stands, no list or tuple does -/
theorem sqL_off {K : PySem.W.Frag} {a b : Addr} {H H' : Hp} {xs : List V} {o : HO} (ha : H a = some o) (no : ∀ xs, o ≠ .lst xs) (nf : ∀ u v, o ≠ .frz u v) (m : Off a H H') : SqL K H b xs → SqL K H' b xs
  | .inl (.inl h) => .inl (.inl (m _ _ h fun e => by rw [e, ha] at h; exact no _ (Option.some.inj h)))
  | .inl (.inr ⟨u, h⟩) => .inl (.inr ⟨u, m _ _ h fun e => by rw [e, ha] at h; exact nf _ _ (Option.some.inj h)⟩)
  | .inr h => .inr h
theorem sqT_off {K : PySem.W.Frag} {a b : Addr} {H H' : Hp} {xs : List V} {o : HO} (ha : H a = some o) (no : ∀ xs, o ≠ .tup xs) (nf : ∀ u v, o ≠ .frz u v) (m : Off a H H') : SqT K H b xs → SqT K H' b xs
  | .inl (.inl h) => .inl (.inl (m _ _ h fun e => by rw [e, ha] at h; exact no _ (Option.some.inj h)))
  | .inl (.inr ⟨u, h⟩) => .inl (.inr ⟨u, m _ _ h fun e => by rw [e, ha] at h; exact nf _ _ (Option.some.inj h)⟩)
  | .inr h => .inr h
theorem sq_ins {K : PySem.W.Frag} {a b C dx : Addr} {H H' : Hp} {xs : List V} {fs : List (Str × V)} (ha : H a = some (.ins C dx fs)) (m : Off a H H') : Sq K H b xs → Sq K H' b xs
  | .inl h => .inl (sqL_off ha (fun _ e => nomatch e) (fun _ _ e => nomatch e) m h)
  | .inr h => .inr (sqT_off ha (fun _ e => nomatch e) (fun _ _ e => nomatch e) m h)
theorem Off.gone {a b : Addr} {H H' : Hp} (m : Off a H H') (ha : ∃ o, H' a = some o) (h : H' b = none) : H b = none := by
  cases e : H b with
  | none => rfl
  | some o =>
    by_cases z : b = a
    · obtain ⟨u, hu⟩ := ha
      rw [z, hu] at h
      cases h
    · rw [m _ _ e z] at h
      cases h
theorem Off.at {a b : Addr} {H H' : Hp} {o : HO} (m : Off a H H') (h : H b = none) : Off a H (L2.upd H' b o) := fun c u e n => by
  rw [upd_ne (ne_of_none e h)]
  exact m c u e n
theorem Pen.updA {H : Hp} {d c b : Addr} {n : Int} {o : HO} (h : Pen H d c n) (h1 : b ≠ d) (h2 : b ≠ c) : Pen (L2.upd H b o) d c n := h.keep (upd_ne h1.symm) (upd_ne h2.symm)
theorem putK_le (kvs : List (Key × V)) (k : Key) (v : V) : (putK kvs k v).length ≤ kvs.length + 1 := by
  unfold putK
  split
  · rw [List.length_map]
    omega
  · rw [List.length_append]
    exact Nat.le_refl _
/-- all is right for a machine -/
structure MOk (K : PySem.W.Frag) (H : Hp) (x y z : V) (p : Int) (dss : List (List Int)) (ws : List Int) : Prop where
  x_ : x = .int p
  pr : isPr p = true
  y_ : ∃ a xs, y = .ref a ∧ Sq K H a xs ∧ xs.length ≤ 1000 ∧ xs ≠ [] ∧ Paired (GRow K H p xs.length) xs dss
  z_ : ∃ b, z = .ref b ∧ Sq K H b (ws.map V.int)
  len : ws.length = dss.length
  st : stdy dss ws = true
/-- what is no machine, and the error for it -/
def BadM (K : PySem.W.Frag) (CN CR CU : Addr) (x y z : V) (H : Hp) (E : XK) : Prop := (BadP K H x ∧ RNum CN "p" x H E) ∨
  ∃ (p : Int) (a : Addr) (xs : List V), x = .int p ∧ isPr p = true ∧ y = .ref a ∧ Sq K H a xs ∧ xs.length ≤ 1000 ∧
    ((xs = [] ∧ RNum CN "states" (.int 0) H E) ∨
    (xs ≠ [] ∧ ∃ (i : Nat) (x0 : V), xs[i]? = some x0 ∧ NRow K H p xs.length x0 ∧ (∀ j y, j < i → xs[j]? = some y → ∃ ds, GRow K H p xs.length y ds) ∧ ∀ H', More H H' → RRow CR x0 H' E) ∨
    (xs ≠ [] ∧ ∃ dss : List (List Int), Paired (GRow K H p xs.length) xs dss ∧
      ((NWor K H xs.length z ∧ ∀ H', More H H' → RRow CR z H' E) ∨
      ∃ (b : Addr) (ws : List Int), z = .ref b ∧ Sq K H b (ws.map V.int) ∧ ws.length = xs.length ∧ stdy dss ws = false ∧ ∀ H', More H H' → RUn CU "zeros" H' E)))
def spCM (K : PySem.W.Frag) (CN CR CU : Addr) : Sp := fun vs H Q E => ∃ x y z, vs = [x, y, z] ∧ (BadM K CN CR CU x y z H E ∨ ∃ p dss ws, MOk K H x y z p dss ws ∧ ∀ H', More H H' → Q .non H')
theorem spCM.to0 {K : PySem.W.Frag} {CN CR CU : Addr} {vs : List V} {H : Hp} {Q : VK} {E : XK} (h : spCM K CN CR CU vs H Q E) : spCM0 K CN CR CU vs H Q E := by
  obtain ⟨x, y, z, e, c | ⟨p, dss, ws, ⟨e1, pr, ⟨ay, xs, e2, sq, few, ne, hp⟩, ⟨az, e3, sw⟩, lw, st⟩, q⟩⟩ := h
  · refine ⟨x, y, z, e, ?_⟩
    obtain c | ⟨p, a, xs, e1, e2, e3, e4, e5, c⟩ := c
    · exact .inl c
    refine .inr ⟨p, a, xs, e1, e2, e3, e4, e5, ?_⟩
    obtain c | c | ⟨c1, dss, c2, c⟩ := c
    · exact .inl c
    · exact .inr (.inl c)
    refine .inr (.inr ⟨c1, dss, c2, ?_⟩)
    obtain c | ⟨b, ws, c3, c4, c5, c⟩ := c
    · exact .inl c
    · exact .inr ⟨b, ws, c3, c4, c5, .inl c⟩
  · exact ⟨x, y, z, e, .inr ⟨p, ay, xs, e1, pr, e2, sq, few, .inr (.inr ⟨ne, dss, hp, .inr ⟨az, ws, e3, sw, by rw [lw, ← Paired.length hp], .inr ⟨st, q⟩⟩⟩)⟩⟩
def spMI (K : PySem.W.Frag) (C CN CR CU : Addr) : Sp := fun vs H Q E => ∃ a dx x y z, vs = [.ref a, x, y, z] ∧ H a = some (.ins C dx []) ∧ (BadM K CN CR CU x y z H E ∨
  ∃ p dss ws, MOk K H x y z p dss ws ∧ ∀ H', Off a H H' → MAt K H' C a p dss ws → Q .non H')
/-- the kinds of values that are no object of a class of one's own -/
def offOwn : List String := ["int", "bool", "NoneType", "str", "list", "tuple", "dict"]
/-- what is asked of the class -/
structure McC (K : PySem.W.Frag) (mg : Str → Option Value) (C : Addr) : Prop where
  ic : C8.InsC K C
  n1 : NoAttr K C "p"
  n2 : NoAttr K C "moves"
  n3 : NoAttr K C "worths"
  n4 : NoAttr K C "size"
  g : mg "Machine" = some (.ref C)
  no : ∀ n ∈ offOwn, PySem.W.kitOne K (.type n) (.ref C) = some false
theorem MAt.ty {K : PySem.W.Frag} {mg : Str → Option Value} {C a : Addr} (Z : McC K mg C) {H : Hp} {p : Int} {dss : List (List Int)} {ws : List Int} (h : MAt K H C a p dss ws) : TyX K H (.ref a) (.ref C) := by
  obtain ⟨dx, t, u, xs, h1, _⟩ := h
  exact .base (.ins h1 Z.ic.cl Z.ic.ha Z.ic.hn Z.ic.htk Z.ic.hm)
def spMEq (K : PySem.W.Frag) (C : Addr) : Sp := fun vs H Q _ => ∃ a y p dss ws, vs = [.ref a, y] ∧ MAt K H C a p dss ws ∧
  ((∃ n ∈ offOwn, TyX K H y (.type n) ∧ Q (.bl false) H) ∨ ∃ b p2 dss2 ws2, y = .ref b ∧ MAt K H C b p2 dss2 ws2 ∧ Q (.bl (decide (p = p2 ∧ dss = dss2 ∧ ws = ws2))) H)
/-- right rows of states, a worth for each -/
structure MGood (p : Int) (dss : List (List Int)) (ws : List Int) : Prop where
  pr : isPr p = true
  ne : dss ≠ []
  rows : ∀ ds ∈ dss, ((ds.length : Nat) : Int) = p ∧ ∀ d ∈ ds, 0 ≤ d ∧ d < (dss.length : Int)
  len : ws.length = dss.length
  few : dss.length ≤ 1000
/-- the state behind a digit -/
def stepM (dss : List (List Int)) (s : Nat) (d : Int) : Nat := ((dss.getD s []).getD d.toNat 0).toNat
def runM (dss : List (List Int)) (word : List Int) : Nat := word.foldl (stepM dss) 0
theorem MGood.step {p : Int} {dss : List (List Int)} {ws : List Int} (g : MGood p dss ws) {s : Nat} (hs : s < dss.length) {d : Int} (d0 : 0 ≤ d) (d1 : d < p) :
    ∃ ds, dss[s]? = some ds ∧ ds[d.toNat]? = some ((stepM dss s d : Nat) : Int) ∧ stepM dss s d < dss.length := by
  have e := at_getD hs []
  have hm : dss.getD s [] ∈ dss := List.mem_of_getElem? e
  obtain ⟨l, r⟩ := g.rows _ hm
  have lt : d.toNat < (dss.getD s []).length := by omega
  have e2 := at_getD lt 0
  obtain ⟨r0, r1⟩ := r _ (List.mem_of_getElem? e2)
  refine ⟨_, e, ?_, ?_⟩
  · rw [e2]
    unfold stepM
    rw [Int.toNat_of_nonneg r0]
  · unfold stepM
    omega
theorem MGood.run {p : Int} {dss : List (List Int)} {ws : List Int} (g : MGood p dss ws) : ∀ (l : List Int) (s : Nat), s < dss.length → (∀ d ∈ l, 0 ≤ d ∧ d < p) → l.foldl (stepM dss) s < dss.length
  | [], s, hs, _ => hs
  | d :: l, s, hs, h => by
    obtain ⟨_, _, _, lt⟩ := g.step hs (h d (.head _)).1 (h d (.head _)).2
    exact g.run l _ lt fun x hx => h x (.tail _ hx)
def spMAt (K : PySem.W.Frag) (C CN : Addr) : Sp := fun vs H Q E => ∃ a x p dss ws, vs = [.ref a, x] ∧ MAt K H C a p dss ws ∧ MGood p dss ws ∧
  ((∃ n : Nat, x = .int n ∧ n < 2 ^ 400 ∧ ∀ H', More H H' → Q (.int (ws.getD (runM dss (dgs p.toNat n)) 0)) H') ∨ (((∃ i, x = .int i ∧ i < 0) ∨ NoInt K H x) ∧ RNum CN "n" x H E))
def spLd : Sp := fun vs H Q _ => ∃ n p : Nat, vs = [.int n, .int p] ∧ isPr p = true ∧ n < 2 ^ 400 ∧
  ∀ H' l, More H H' → H l = none → H' l = some (.lst ((dgs p n).map V.int)) → Q (.ref l) H'
/-- the state behind a word, told by the law -/
def spLs (K : PySem.W.Frag) : Sp := fun vs H Q _ => ∃ (M L : Addr) (rs : List V) (p : Int) (dss : List (List Int)) (ws l : List Int), vs = [.ref M, .ref L] ∧ SqT K H M rs ∧ Paired (TupI K H) rs dss ∧ MGood p dss ws ∧ SqL K H L (l.map V.int) ∧ (∀ d ∈ l, 0 ≤ d ∧ d < p) ∧ Q (.int (runM dss l : Nat)) H
def spIm (K : PySem.W.Frag) (C : Addr) : Sp := fun vs H Q _ => ∃ (a M W : Addr) (rs : List V) (p : Int) (dss : List (List Int)) (ws : List Int), vs = [.ref a, .int p, .ref M, .ref W] ∧ MAt K H C a p dss ws ∧ SqT K H M rs ∧ Paired (TupI K H) rs dss ∧ SqT K H W (ws.map V.int) ∧ ∀ H', More H H' → Q (.bl true) H'
/-- what the clauses and the fields ask of the three classes -/
structure Cau3 (K : PySem.W.Frag) (CN CR CU : Addr) : Prop where
  nn : PySem.W.exmOne K (.ref CN) (.ref CN) = some true
  rn : PySem.W.exmOne K (.ref CR) (.ref CN) = some false
  rr : PySem.W.exmOne K (.ref CR) (.ref CR) = some true
  un : PySem.W.exmOne K (.ref CU) (.ref CN) = some false
  ur : PySem.W.exmOne K (.ref CU) (.ref CR) = some false
  uu : PySem.W.exmOne K (.ref CU) (.ref CU) = some true
  xn : XfC K CN
  xr : XfC K CR
  xu : XfC K CU
/-- the list that tells an error -/
def ERef3 (CN CR CU : Addr) (Q : VK) : XK := fun cls d H =>
  (cls = .ref CN ∧ ∃ (dd : Addr) (what x : V), d = some dd ∧ H dd = some (.xd [("number", x), ("what", what)]) ∧ ∀ l, H l = none → Q (.ref l) (upd H l (.lst [.str "number", what, x]))) ∨
  (cls = .ref CR ∧ ∃ (dd : Addr) (x : V), d = some dd ∧ H dd = some (.xd [("row", x)]) ∧ ∀ l, H l = none → Q (.ref l) (upd H l (.lst [.str "row", x]))) ∨
  (cls = .ref CU ∧ ∃ (dd : Addr) (x : V), d = some dd ∧ H dd = some (.xd [("what", x)]) ∧ ∀ l, H l = none → Q (.ref l) (upd H l (.lst [.str "unlike", x])))
def TRef3 (CN CR CU : Addr) : (XK → Hp → VK → Prop) → Hp → VK → Prop := fun tl H Q => tl (ERef3 CN CR CU Q) H fun _ H' => ([] : List V).length ≤ sizeLine ∧ ∀ l, H' l = none → Q (.ref l) (upd H' l (.lst []))
end B5

namespace K71
open PySem L2 Gd B5 ZipG
section
variable {P : Program} {w : World} {K : PySem.W.Frag} {mg : Str → Option Value} {base : Heap}
variable {fN CN fR CR fU CU fI fS fW fC f : Addr} {fdN fdR fdU fdI fdS fdW fdC fd : FuncData} {D : Addr}
abbrev sCM : Stmt := top 24
abbrev NCM : List Str := ["p", "moves", "worths", "many", "row", "state", "worth"]
theorem scCM : FnScope NCM ["p", "moves", "worths"] (defScope sCM) := ⟨rfl, rfl, rfl, by decide +kernel, rfl, by decide +kernel, by decide +kernel⟩
theorem ok_cm (F : Fun K "check_machine" "check_machine" sCM f fd) (B : Blt mg) (zAny : mg "any" = none) (zZip : mg "zip" = none) (I : Cl K mg "is_integer" sIsI ["value"] fI fdI) (S : Cl K mg "is_integers" sIsIs ["value"] fS fdS)
    (W : Cl K mg "is_row" sRow ["value", "width"] fW fdW) (C : Cl K mg "check_prime" sCP ["p"] fC fdC)
    (N : Er K mg "BadNumber" "BadNumber.__init__" CN fN ["what", "number"] sBadNumber fdN) (R : Er K mg "BadRow" "BadRow.__init__" CR fR ["row"] sBadRow fdR) (U : Er K mg "Unlike" "Unlike.__init__" CU fU ["what"] sUnlike fdU)
    (gD : mg "PRIMES" = some (.ref D)) (dD : tupI K (.ref D) = some [2, 3, 5, 7]) :
    FnOk P w K mg base (L2.CX P w) 4 f fd ["p", "moves", "worths"] (spCM K CN CR CU) := by
  have GN : FnOk P w K mg base CX0 1 fN fdN ["self", "what", "number"] (spIni CN ["what", "number"]) := okBadNumber N.fn N.T N.no
  have GR : FnOk P w K mg base CX0 1 fR fdR ["self", "row"] (spIni CR ["row"]) := okBadRow R.fn R.T R.no
  have GU : FnOk P w K mg base CX0 1 fU fdU ["self", "what"] (spIni CU ["what"]) := okUnlike U.fn U.T U.no
  have GC : FnOk P w K mg base (L2.CX P w) 3 fC fdC ["p"] (spCP K CN) := ok_cp C.fn B I N gD dD
  have GW : FnOk P w K mg base CX0 3 fW fdW ["value", "width"] (spRow K) := ok_row W.fn B I S
  refine F.okX scCM (fun vs H Q E h => ?_) (fun cdv A outer s H vs Q E hr h => ?_)
  · obtain ⟨x, y, z, rfl, _⟩ := h
    rfl
  · replace h := h.to0
    obtain ⟨x, y, z, rfl, h⟩ := h
    have hr2 : Room 2 _ := hr.mono (by decide)
    refine ⟨_, pss_cons (ps_expr (pe_call GC hr rfl C.g C.k C.b .nil (passes_call (takes_of rfl rfl rfl rfl) (fun _ _ _ _ h => h)) (pa_cons (pv 0) pa_nil)))
      (pss_cons (ps_if (pt_not (pt_truth (pv 1) (by intro _; rfl)))
        (pss_one (ps_raise rfl (takes_of rfl rfl rfl rfl) (pmk_oex N.T N.iC N.tI GN hr2 N.b .nil pass0 rfl N.g (pa_cons pe_str (pa_cons pe_int pa_nil))))) pss_nil)
      (pss_cons (ps_set (i := 3) scCM.nd rfl (Or.inr rfl) (pe_callB call_len_seq (by rfl) B.len_ PySem.boot_len (pa_cons (pv 1) pa_nil)))
      (Evl.pss_cut (ps_for (passes_of rfl) rfl (pi_sq (K := K) rfl (pv 1)) (pg_name (i := 4) scCM.nd rfl (Or.inl rfl))
        (pss_one (ps_if (PW.pt (pw_or (pt_not (pt_val (pe_call GW hr rfl W.g W.k W.b .nil pass0 (pa_cons (pv 4) (pa_cons (pv 0) pa_nil)))))
          (pw_or1 (pt_not (pt_val (pe_callB (cr_all rfl) (by rfl) B.all_ (by decide +kernel) (pa_cons (pe_lc (own := [("state", 5)]) (g := gName 5) (tt := tYes) rfl scCM.nd (pi_sq (K := K) rfl (pv 4))
            (blkOk_by (N := NCM) (sc := defScope sCM) (by decide +kernel))
            (fun _ _ _ _ _ => pg_name (i := 5) scCM.nd rfl (Or.inl rfl)) (fun _ _ _ _ _ => pts_nil)
            (fun _ _ _ _ _ => pe_chain op_le op_lt pe_int (pv 5) (pv 3))) pa_nil)))))))
          (pss_one (ps_raise rfl (takes_of rfl rfl rfl rfl) (pmk_oex R.T R.iC R.tI GR hr2 R.b .nil pass0 rfl R.g (pa_cons (pv 4) pa_nil)))) pss_nil)))
      (pss_cons (ps_if (pt_not (pt_val (pe_call GW hr rfl W.g W.k W.b .nil pass0 (pa_cons (pv 2) (pa_cons (pv 3) pa_nil)))))
        (pss_one (ps_raise rfl (takes_of rfl rfl rfl rfl) (pmk_oex R.T R.iC R.tI GR hr2 R.b .nil pass0 rfl R.g (pa_cons (pv 2) pa_nil)))) pss_nil)
      (pss_one (ps_if (pt_val (pe_callB (cr_any rfl) (by rfl) zAny (by decide +kernel) (pa_cons (pe_lc (own := [("worth", 6), ("row", 4)]) (g := gTup K 2 (gCons (gName 6) (gCons (gName 4) gNil))) (tt := tYes) rfl scCM.nd
            (pi_zipG (by rfl) zZip (pa_cons (pv 2) (pa_cons (pv 1) pa_nil)))
            (blkOk_by (N := NCM) (sc := defScope sCM) (by decide +kernel))
            (fun _ _ _ _ _ => pg_tup rfl (pgs_cons (pg_name (i := 6) scCM.nd rfl (Or.inl rfl)) (pgs_cons (pg_name (i := 4) scCM.nd rfl (Or.inl rfl)) pgs_nil))) (fun _ _ _ _ _ => pts_nil)
            (fun _ _ _ _ _ => pe_cmpR op_ne (pv 6) (pe_ix (r := rIx K) ix_seq (pv 2) (pe_ix (r := rIx K) ix_seq (pv 4) pe_int (fun _ _ => rfl)) (fun _ _ => rfl)) (nomark _))) pa_nil)))
        (pss_one (ps_raise rfl (takes_of rfl rfl rfl rfl) (pmk_oex U.T U.iC U.tI GU hr2 U.b .nil pass0 rfl U.g (pa_cons pe_str pa_nil)))) pss_nil)))))), ?_⟩
    obtain ⟨bad, q⟩ | ⟨p, a, xs, rfl, pr, rfl, sq, few, h⟩ := h
    · exact ⟨_, rfl, _, rfl, .inr ⟨bad, q⟩⟩
    refine ⟨_, rfl, _, rfl, .inl ⟨_, rfl, pr, ?_⟩⟩
    have tru : ∀ k, k = !xs.isEmpty → TruV K (.ref a) H k := fun k e => by
      rcases sq with s | s
      · exact .inl ⟨xs, s, e⟩
      · exact .inr (.inl ⟨xs, s, e⟩)
    -- the test over all states of a row
    have comp : ∀ (b : Addr) (ds : List Int) (J : It) (Z : Hp → Prop) (wk : Walk J (ds.map V.int).length Z (YAt (ds.map V.int))) (H1 : Hp) (hZ : ∀ H', Kept b H1 H' → Z H') (few2 : ds.length ≤ 1000) (D' : Addr) (hD : H1 D' = none) (Zq : Hp → Prop)
        (hq : ∀ H', (∃ bs : List Bool, H' D' = some (.lst (bs.map V.bl)) ∧ bs.all id = (ds.map V.int).all (inD xs.length)) → More H1 H' → Zq H'), _ :=
      fun b ds J Z wk H1 hZ few2 D' hD Zq hq => lc_name (n := 5) (te := tChain (rI0 fun i j => .bl (decide (i ≤ j))) (rI0 fun i j => .bl (decide (i < j))) (tC (.int 0)) (tVar 5) (tVar 3)) (vs := [5])
        (σ := [some (.int p), some (.ref a), some z, some (.int (xs.length : Nat)), some (.ref b), none, none]) (D := D') (rs := (ds.map V.int).map fun y => V.bl (inD xs.length y))
        (Qd := Zq) wk hD (fun H' m => hZ H' (.of m)) (by rw [List.length_map]) (by rw [List.length_map]; omega) (fun _ => rfl)
        (fun i y v H2 Q hy hv m2 q => by
          rw [List.getElem?_map] at hy
          cases e : ds[i]? with
          | none => rw [e] at hy; cases hy
          | some d =>
            rw [e] at hy
            cases hy
            rw [List.getElem?_map, List.getElem?_map, e] at hv
            cases hv
            refine ⟨_, rfl, _, _, rfl, rfl, _, rfl, ite2 (fun h => ⟨_, rfl, _, _, rfl, rfl, ?_⟩) (fun h => ?_)⟩
            · have h := of_decide_eq_true h
              have : decide (d < (xs.length : Int)) = inD xs.length (V.int d) := by
                show _ = decide (0 ≤ d ∧ d < (xs.length : Int))
                rw [decide_eq_decide]
                exact ⟨fun q => ⟨h, q⟩, fun q => q.2⟩
              show Q (V.bl (decide (d < (xs.length : Int)))) H2
              rw [this]
              exact q _ fun _ _ e => e
            · have : false = inD xs.length (V.int d) := by
                show _ = decide (0 ≤ d ∧ d < (xs.length : Int))
                rw [decide_eq_false fun q => h (decide_eq_true q.1)]
              show Q (V.bl false) H2
              rw [this]
              exact q _ fun _ _ e => e)
        (fun H' hl m => hq H' ⟨(ds.map V.int).map (inD xs.length), by rw [List.map_map]; exact hl, by rw [List.all_map]; rfl⟩ m)
    have its : ∀ {y : V} {ds : List Int} {H' : Hp}, GRow K H' p xs.length y ds → ds.length ≤ 1000 := fun {y ds H'} g => by
      have := g.len
      have := (isPr_small pr).2
      omega
    obtain ⟨rfl, q⟩ | ⟨ne, i0, x0, hx0, no, before, q⟩ | ⟨ne, dss, hp, h⟩ := h
    · exact ⟨_, rfl, _, tru _ rfl, iteT (mk_ini rfl (by show 2 ≤ 900; decide) q)⟩
    all_goals
      have e0 : xs.isEmpty = false := by cases xs with | nil => exact absurd rfl ne | cons _ _ => rfl
      refine ⟨_, rfl, _, tru _ rfl, ?_⟩
      rw [e0]
      refine iteF ⟨_, rfl, a, _, rfl, sq, ?_⟩
    · -- a wrong row
      refine ⟨fun _ _ => False, ?_, fun _ _ h => h.elim⟩
      refine ⟨_, rfl, a, xs, rfl, sq, fun J Z wk hZ => for_it wk (fun i σ' H' => i ≤ i0 ∧ ∃ z4, σ' = [some (.int p), some (.ref a), some z, some (.int (xs.length : Nat)), z4, none, none] ∧ More H H')
        ⟨Nat.zero_le _, none, rfl, fun _ _ e => e⟩ (fun i σ' H' _ ⟨_, _, _, m⟩ => hZ H' (.of m)) ?_ (fun σ' H' ⟨h, _⟩ => ?_)⟩
      · rintro i y σ2 H2 H3 hi ⟨le, z4, rfl, m2⟩ ⟨rfl, hy⟩
        by_cases e : i = i0
        · subst e
          rw [hx0] at hy
          cases hy
          obtain no | ⟨b, ys, rfl, sb, it, no⟩ := no.more m2
          · exact ⟨_, rfl, _, rfl, _, _, rfl, .inl ⟨no, fun H' m => ⟨_, rfl, iteT (iteT ⟨_, rfl, mk_ini rfl (by show 1 ≤ 900; decide) (q H' fun b o q => m b o (m2 b o q))⟩)⟩⟩⟩
          · refine ⟨_, rfl, _, rfl, _, _, rfl, .inr ⟨b, ys, rfl, sb, it, fun H' m => ⟨_, rfl, ?_⟩⟩⟩
            cases eb : (ys.all isI && decide (((ys.length : Nat) : Int) = p)) with
            | false => exact iteT (iteT ⟨_, rfl, mk_ini rfl (by show 1 ≤ 900; decide) (q H' fun b o q => m b o (m2 b o q))⟩)
            | true =>
              rw [Bool.and_eq_true, decide_eq_true_eq] at eb
              obtain no | no | ⟨ds, rfl, ld, d, hd, nd⟩ := no
              · rw [no] at eb; cases eb.1
              · exact absurd eb.2 no
              · refine iteF ⟨_, rfl, b, _, rfl, sb.more m, fun J2 Z2 wk2 hZ2 D' hD => comp b ds J2 Z2 wk2 H' hZ2 (by have := (isPr_small pr).2; omega) D' hD _ (fun H5 ⟨bs, h5, eb2⟩ m5 => ⟨D', bs, rfl, SqL.of h5, _, rfl, ?_⟩)⟩
                have : (ds.map V.int).all (inD xs.length) = false := by
                  rw [List.all_eq_false]
                  refine ⟨_, List.mem_map.mpr ⟨d, hd, rfl⟩, ?_⟩
                  show ¬ decide (0 ≤ d ∧ d < (xs.length : Int)) = true
                  rw [decide_eq_false nd]
                  exact Bool.false_ne_true
                rw [eb2, this]
                exact iteT ⟨_, rfl, mk_ini rfl (by show 1 ≤ 900; decide) (q H5 fun b o q => m5 b o (m b o (m2 b o q)))⟩
        · obtain ⟨ds, g⟩ := before i y (by omega) hy
          obtain ⟨b, rfl, sb⟩ := (g.more m2).ex
          refine ⟨_, rfl, _, rfl, _, _, rfl, .inr ⟨b, _, rfl, sb, Its.ints (its g), fun H' m => ⟨_, rfl, ?_⟩⟩⟩
          have yes : ((ds.map V.int).all isI && decide ((((ds.map V.int).length : Nat) : Int) = p)) = true := by
            rw [isI_all, List.length_map, Bool.true_and]
            exact decide_eq_true g.len
          rw [yes]
          refine iteF ⟨_, rfl, b, _, rfl, sb.more m, fun J2 Z2 wk2 hZ2 D' hD => comp b ds J2 Z2 wk2 H' hZ2 (its g) D' hD _ (fun H5 ⟨bs, h5, eb2⟩ m5 => ⟨D', bs, rfl, SqL.of h5, _, rfl, ?_⟩)⟩
          rw [eb2, inD_all g.ok]
          exact iteF ⟨by omega, _, rfl, fun b o q => m5 b o (m b o (m2 b o q))⟩
      · have := (List.getElem?_eq_some_iff.mp hx0).1
        omega
    · -- all rows are right
      refine ⟨fun σ' H' => ∃ z4, σ' = [some (.int p), some (.ref a), some z, some (.int (xs.length : Nat)), z4, none, none] ∧ More H H', ?_, ?_⟩
      · refine ⟨_, rfl, a, xs, rfl, sq, fun J Z wk hZ => for_it wk (fun i σ' H' => ∃ z4, σ' = [some (.int p), some (.ref a), some z, some (.int (xs.length : Nat)), z4, none, none] ∧ More H H')
          ⟨none, rfl, fun _ _ e => e⟩ (fun i σ' H' _ ⟨_, _, m⟩ => hZ H' (.of m)) ?_ (fun σ' H' h => h)⟩
        rintro i y σ2 H2 H3 hi ⟨z4, rfl, m2⟩ ⟨rfl, hy⟩
        · obtain ⟨ds, _, g⟩ := paired_at hp hy
          obtain ⟨b, rfl, sb⟩ := (g.more m2).ex
          refine ⟨_, rfl, _, rfl, _, _, rfl, .inr ⟨b, _, rfl, sb, Its.ints (its g), fun H' m => ⟨_, rfl, ?_⟩⟩⟩
          have yes : ((ds.map V.int).all isI && decide ((((ds.map V.int).length : Nat) : Int) = p)) = true := by
            rw [isI_all, List.length_map, Bool.true_and]
            exact decide_eq_true g.len
          rw [yes]
          refine iteF ⟨_, rfl, b, _, rfl, sb.more m, fun J2 Z2 wk2 hZ2 D' hD => comp b ds J2 Z2 wk2 H' hZ2 (its g) D' hD _ (fun H5 ⟨bs, h5, eb2⟩ m5 => ⟨D', bs, rfl, SqL.of h5, _, rfl, ?_⟩)⟩
          rw [eb2, inD_all g.ok]
          exact iteF ⟨_, rfl, fun b o q => m5 b o (m b o (m2 b o q))⟩
      · rintro σ2 H2 ⟨z4, rfl, m2⟩
        obtain ⟨no, q⟩ | ⟨b, ws, rfl, sw, lw, h⟩ := h
        · obtain no | ⟨b, ys, rfl, sb, it, no⟩ := no.more m2
          · exact ⟨_, rfl, _, rfl, _, _, rfl, .inl ⟨no, fun H' m => ⟨_, rfl, iteT ⟨_, rfl, mk_ini rfl (by show 1 ≤ 900; decide) (q H' fun b o q => m b o (m2 b o q))⟩⟩⟩⟩
          · refine ⟨_, rfl, _, rfl, _, _, rfl, .inr ⟨b, ys, rfl, sb, it, fun H' m => ⟨_, rfl, ?_⟩⟩⟩
            have eb : (ys.all isI && decide (((ys.length : Nat) : Int) = (xs.length : Nat))) = false := by
              obtain no | no := no
              · rw [no, Bool.false_and]
              · rw [decide_eq_false (by omega), Bool.and_false]
            rw [eb]
            exact iteT ⟨_, rfl, mk_ini rfl (by show 1 ≤ 900; decide) (q H' fun b o q => m b o (m2 b o q))⟩
        · refine ⟨_, rfl, _, rfl, _, _, rfl, .inr ⟨b, _, rfl, sw.more m2, Its.ints (by omega), fun H3 m3 => ⟨_, rfl, ?_⟩⟩⟩
          have yes : ((ws.map V.int).all isI && decide ((((ws.map V.int).length : Nat) : Int) = (xs.length : Nat))) = true := by
            rw [isI_all, List.length_map, Bool.true_and]
            exact decide_eq_true (by omega)
          rw [yes]
          have m23 : More H H3 := fun b o q => m3 b o (m2 b o q)
          obtain ⟨S1, e1, h1⟩ := (sw.more m23).src
          obtain ⟨S2, e2, h2⟩ := (sq.more m23).src
          have dl : xs.length = dss.length := Paired.length hp
          refine iteF ⟨_, rfl, _, rfl, S1, S2, ws.map V.int, xs, by rw [e1, e2], h1 _ (fun o z => z), h2 _ (fun o z => z), fun D' hD => ?_⟩
          refine lc_it (H1 := H3) (D := D') (walk_zipG (n := xs.length) (by rw [List.length_map]; omega)) (fun i H' => H' D' = some (.lst (((List.zipWith (fun ds (w : Int) => !decide (w = ws.getD (ds.getD 0 0).toNat 0)) dss ws).take i).map V.bl)) ∧ More H3 H')
            ⟨upd_same, More.new (fun _ _ e => e) hD⟩ (fun i H' _ hh => ⟨h1 _ (.of hh.2), h2 _ (.of hh.2)⟩) ?_ ?_
          · rintro i v H4 H5 hi ⟨k4, m4⟩ ⟨T, u, y, rfl, nT, rfl, hu, hy⟩
            obtain ⟨ds, hds, g⟩ := paired_at hp hy
            obtain ⟨w0, hw, rfl⟩ := map_at hu
            have m5 : More H3 (upd H4 T (.tup [.int w0, y])) := More.new m4 nT
            have nTD : D' ≠ T := ne_of_none k4 nT
            have k5 : (upd H4 T (.tup [.int w0, y])) D' = _ := (upd_ne nTD).trans k4
            obtain ⟨b', rfl, sb⟩ := (g.more (fun b o q => m5 b o (m23 b o q))).ex
            have l0 : 0 < ds.length := by have := g.len; have := (isPr_small pr).1; omega
            have d0 : (ds.map V.int)[0]? = some (.int (ds.getD 0 0)) := at_map (at_getD l0 0)
            have ok0 := g.ok (ds.getD 0 0) (by rw [List.getD_eq_getElem?_getD, List.getElem?_eq_getElem l0]; exact List.getElem_mem l0)
            have lt : (ds.getD 0 0).toNat < ws.length := by omega
            have w1 : (ws.map V.int)[(ds.getD 0 0).toNat]? = some (.int (ws.getD (ds.getD 0 0).toNat 0)) := at_map (at_getD lt 0)
            refine ⟨T, _, rfl, SqT.of upd_same, rfl, _, _, rfl, _, _, rfl, rfl, rfl, ?_⟩
            refine ⟨_, rfl, _, rfl, _, rfl, ix_any sb rfl (j := 0) d0 (ix_any (sw.more (fun b o q => m5 b o (m23 b o q))) (by omega) w1 ⟨rfl, ?_⟩)⟩
            have zb := zip_at (f := fun ds (w : Int) => !decide (w = ws.getD (ds.getD 0 0).toNat 0)) hds hw
            refine ⟨_, k5, ?_, ?_, More.at m5 hD⟩
            · rw [List.length_map, List.length_take, sizeLine_eq]
              omega
            · rw [upd_same, take_snoc zb, List.map_append, deI]
              rfl
          · rintro H4 ⟨k4, m4⟩
            have len : (List.zipWith (fun ds (w : Int) => !decide (w = ws.getD (ds.getD 0 0).toNat 0)) dss ws).length = xs.length := by
              rw [List.length_zipWith]
              omega
            rw [← len, List.take_length] at k4
            refine ⟨D', _, rfl, SqL.of k4, _, rfl, ?_⟩
            rw [any_not]
            obtain ⟨no, q⟩ | ⟨ok, q⟩ := h
            · rw [show (List.zipWith (fun ds (w : Int) => decide (w = ws.getD (ds.getD 0 0).toNat 0)) dss ws).all id = false from no]
              exact iteT (mk_ini rfl (by show 1 ≤ 900; decide) (q H4 fun b o q => m4 b o (m23 b o q)))
            · rw [show (List.zipWith (fun ds (w : Int) => decide (w = ws.getD (ds.getD 0 0).toNat 0)) dss ws).all id = true from ok]
              exact iteF (q H4 fun b o q => m4 b o (m23 b o q))
end
end K71

namespace K71
open PySem L2 Gd B5
section
variable {P : Program} {w : World} {K : PySem.W.Frag} {mg : Str → Option Value} {base : Heap}
variable {CN CR CU C fM f : Addr} {fdM fd : FuncData}
abbrev sMI : Stmt := inClass (top 23) 0
abbrev NMI : List Str := ["self", "p", "moves", "worths", "row"]
theorem scMI : FnScope NMI ["self", "p", "moves", "worths"] (defScope sMI) := ⟨rfl, rfl, rfl, by decide +kernel, rfl, by decide +kernel, by decide +kernel⟩
theorem ok_mi (F : Fun K "__init__" "Machine.__init__" sMI f fd) (B : Blt mg) (M : Cl K mg "check_machine" sCM ["p", "moves", "worths"] fM fdM) (Z : McC K mg C)
    (GM : FnOk P w K mg base (L2.CX P w) 4 fM fdM ["p", "moves", "worths"] (spCM K CN CR CU)) : FnOk P w K mg base (L2.CX P w) 5 f fd ["self", "p", "moves", "worths"] (spMI K C CN CR CU) := by
  refine F.okX scMI (fun vs H Q E h => ?_) (fun cdv A outer s H vs Q E hr h => ?_)
  · obtain ⟨a, dx, x, y, z, rfl, _⟩ := h
    rfl
  · obtain ⟨a, dx, x, y, z, rfl, ha, h⟩ := h
    refine ⟨_, pss_cons (ps_expr (pe_call GM hr rfl M.g M.k M.b .nil (passes_call (takes_of rfl rfl rfl rfl) (fun _ _ _ _ h => h)) (pa_cons (pv 1) (pa_cons (pv 2) (pa_cons (pv 3) pa_nil)))))
      (pss_cons (ps_fld (pv 0) (pv 1) rfl)
      (pss_cons (ps_fld (pv 0) (pe_callTy call_tuple_of (by rfl) B.tup_ (by decide +kernel) (pa_cons (pe_lc (own := [("row", 4)]) (g := gName 4) (tt := tYes) rfl scMI.nd (pi_sq (K := K) rfl (pv 2))
          (blkOk_by (N := NMI) (sc := defScope sMI) (by decide +kernel)) (fun _ _ _ _ _ => pg_name (i := 4) scMI.nd rfl (Or.inl rfl)) (fun _ _ _ _ _ => pts_nil)
          (fun _ _ _ _ _ => pe_callTy (r := rTof K) (call_tof rfl) (by rfl) B.tup_ (by decide +kernel) (pa_cons (pv 4) pa_nil))) pa_nil)) rfl)
      (pss_cons (ps_fld (pv 0) (pe_callTy call_tuple_of (by rfl) B.tup_ (by decide +kernel) (pa_cons (pv 3) pa_nil)) rfl)
      (pss_one (ps_fld (pv 0) (pe_callB call_len_seq (by rfl) B.len_ PySem.boot_len (pa_cons (pe_fld (pv 0) rfl) pa_nil)) rfl))))), ?_⟩
    obtain h | ⟨p, dss, ws, ok, q⟩ := h
    · exact ⟨_, rfl, _, rfl, _, rfl, _, _, _, rfl, .inl h⟩
    refine ⟨_, rfl, _, rfl, _, rfl, _, _, _, rfl, .inr ⟨p, dss, ws, ok, fun H1 m1 => ?_⟩⟩
    obtain ⟨rfl, pr, ⟨ay, xs, rfl, sq, few, ne, hp⟩, ⟨az, rfl, sw⟩, lw, st⟩ := ok
    have dl : xs.length = dss.length := Paired.length hp
    have ha1 := m1 _ _ ha
    refine ⟨_, rfl, _, rfl, a, C, dx, _, rfl, ha1, Z.ic.cl, Z.n1, by show 0 < 1000; decide, ?_⟩
    have o2 : Off a H1 (upd H1 a (.ins C dx (putF "p" (.int p) []))) := Off.upd
    have sq2 := sq_ins ha1 o2 (sq.more m1)
    have ha2 : (upd H1 a (.ins C dx (putF "p" (.int p) []))) a = some (.ins C dx [("p", .int p)]) := upd_same
    generalize upd H1 a (.ins C dx (putF "p" (.int p) [])) = H2 at o2 sq2 ha2 ⊢
    refine ⟨_, rfl, ay, xs, rfl, sq2, fun J W wk hZ D hD => ?_⟩
    refine lc_rel (n := 4) (D := D) (H1 := H2) wk (fun i v H' => ∃ ds, dss[i]? = some ds ∧ TupI K H' v ds) (fun i v H' H'' m ⟨ds, e, t⟩ => ⟨ds, e, t.more m⟩) hD (fun H' m => hZ H' (.of m)) (by omega) (fun _ => rfl) ?_ ?_
    · intro i yv H3 Q3 hy m3 m3' ⟨l0, hl0⟩ q3
      obtain ⟨ds, hds, g⟩ := paired_at hp hy
      obtain ⟨b, rfl, sb⟩ := g.ex
      refine ⟨_, rfl, b, ds.map V.int, rfl, ?_⟩
      rcases sq_ins ha1 o2 (sb.more m1) with s | s
      · refine .inl ⟨Same.seq m3 s, fun l hl => q3 _ _ (new_more hl) ⟨ds, hds, l, rfl, SqT.of ?_⟩⟩
        rw [del_ne (ne_of_none hl0 hl).symm, upd_same]
      · exact .inr ⟨sqT_more m3 s, q3 _ _ (fun _ _ e => e) ⟨ds, hds, b, rfl, sqT_more m3' s⟩⟩
    · intro H3 G rs rl mG mH nG al hD3
      refine ⟨D, rs, rfl, .inl ⟨SqL.of hD3, fun t ht => ?_⟩⟩
      have m3 : More H2 (upd H3 t (.tup rs)) := fun b o e => new_more ht _ _ (mH _ _ (mG _ _ e))
      have pr3 : Paired (TupI K (upd H3 t (.tup rs))) rs dss := paired_of (by omega) fun i x y hx hy => by
        obtain ⟨ds, e, ti⟩ := al i x hx
        rw [hy] at e
        cases e
        exact ti.more fun b o e => new_more ht _ _ (mH _ _ e)
      have t3 : (upd H3 t (.tup rs)) t = some (.tup rs) := upd_same
      have nat : a ≠ t := ne_of_none (mH _ _ (mG _ _ ha2)) ht
      generalize upd H3 t (.tup rs) = H4 at m3 pr3 t3 ⊢
      have ha4 := m3 _ _ ha2
      refine ⟨_, rfl, a, C, dx, _, rfl, ha4, Z.ic.cl, Z.n2, by show 1 < 1000; decide, ?_⟩
      have o5 : Off a H4 (upd H4 a (.ins C dx (putF "moves" (.ref t) [("p", .int p)]))) := Off.upd
      have ha5 : (upd H4 a (.ins C dx (putF "moves" (.ref t) [("p", .int p)]))) a = some (.ins C dx [("p", .int p), ("moves", .ref t)]) := upd_same
      generalize upd H4 a (.ins C dx (putF "moves" (.ref t) [("p", .int p)])) = H5 at o5 ha5 ⊢
      have t5 := o5 _ _ t3 nat.symm
      have pr5 : Paired (TupI K H5) rs dss := paired_imp (fun x y ⟨b, e, s⟩ => ⟨b, e, sqT_off ha4 (fun _ e => nomatch e) (fun _ _ e => nomatch e) o5 s⟩) pr3
      have sw5 : Sq K H5 az (ws.map V.int) := sq_ins ha4 o5 ((sq_ins ha1 o2 (sw.more m1)).more m3)
      have o05 : Off a H H5 := fun b o e n => o5 _ _ (m3 _ _ (o2 _ _ (m1 _ _ e) n)) n
      -- the worths
      have fin : ∀ (u : Addr) (H6 : Hp), More H5 H6 → SqT K H6 u (ws.map V.int) → MAt K (upd (upd H6 a (.ins C dx (putF "worths" (.ref u) [("p", .int p), ("moves", .ref t)]))) a (.ins C dx [("p", .int p), ("moves", .ref t), ("worths", .ref u), ("size", .int (rs.length : Nat))])) C a p dss ws := by
        intro u H6 m6 su
        rw [upd_upd]
        have ha6 := m6 _ _ ha5
        have o7 : Off a H6 (upd H6 a (.ins C dx [("p", .int p), ("moves", .ref t), ("worths", .ref u), ("size", .int (rs.length : Nat))])) := Off.upd
        refine ⟨dx, t, u, rs, ?_, SqT.of (o7 _ _ (m6 _ _ t5) nat.symm), paired_imp (fun x y ⟨b, e, s⟩ => ⟨b, e, sqT_off ha6 (fun _ e => nomatch e) (fun _ _ e => nomatch e) o7 (sqT_more m6 s)⟩) pr5, sqT_off ha6 (fun _ e => nomatch e) (fun _ _ e => nomatch e) o7 su⟩
        rw [upd_same, rl, dl]
      have last : ∀ (u : Addr) (H6 : Hp), More H5 H6 → SqT K H6 u (ws.map V.int) → Q .non (upd (upd H6 a (.ins C dx (putF "worths" (.ref u) [("p", .int p), ("moves", .ref t)]))) a (.ins C dx [("p", .int p), ("moves", .ref t), ("worths", .ref u), ("size", .int (rs.length : Nat))])) := by
        intro u H6 m6 su
        refine q _ (fun b o e n => ?_) (fin u H6 m6 su)
        rw [upd_ne n, upd_ne n]
        exact m6 _ _ (o05 _ _ e n)
      have store : ∀ (u : Addr) (H6 : Hp), More H5 H6 → SqT K H6 u (ws.map V.int) → ∃ p' C' dx' fs, V.ref a = .ref p' ∧ H6 p' = some (.ins C' dx' fs) ∧ True := fun u H6 m6 _ => ⟨_, _, _, _, rfl, m6 _ _ ha5, trivial⟩
      have ht7 : ∀ (u : Addr) (H6 : Hp), More H5 H6 → SqT K (upd H6 a (.ins C dx (putF "worths" (.ref u) [("p", .int p), ("moves", .ref t)]))) t rs := fun u H6 m6 => SqT.of (by rw [upd_ne nat.symm]; exact m6 _ _ t5)
      rcases sw5 with s | s
      · refine ⟨_, rfl, az, ws.map V.int, rfl, .inl ⟨s, fun u hu => ?_⟩⟩
        have m6 := new_more (o := .tup (ws.map V.int)) hu
        have su : SqT K (upd H5 u (.tup (ws.map V.int))) u (ws.map V.int) := SqT.of upd_same
        generalize upd H5 u (.tup (ws.map V.int)) = H6 at m6 su ⊢
        refine ⟨_, rfl, a, C, dx, _, rfl, m6 _ _ ha5, Z.ic.cl, Z.n3, by show 2 < 1000; decide, ?_⟩
        exact ⟨_, rfl, a, C, dx, _, _, rfl, upd_same, Z.ic.cl, Z.n2, rfl, t, _, rfl, .inr (ht7 u H6 m6), _, rfl, a, C, dx, _, rfl, upd_same, Z.ic.cl, Z.n4, by show 3 < 1000; decide, last u H6 m6 su⟩
      · refine ⟨_, rfl, az, ws.map V.int, rfl, .inr ⟨s, ?_⟩⟩
        refine ⟨_, rfl, a, C, dx, _, rfl, ha5, Z.ic.cl, Z.n3, by show 2 < 1000; decide, ?_⟩
        exact ⟨_, rfl, a, C, dx, _, _, rfl, upd_same, Z.ic.cl, Z.n2, rfl, t, _, rfl, .inr (ht7 az H5 (fun _ _ e => e)), _, rfl, a, C, dx, _, rfl, upd_same, Z.ic.cl, Z.n4, by show 3 < 1000; decide, last az H5 (fun _ _ e => e) s⟩
end
end K71

namespace K71
open PySem L2 Gd B5
section
variable {P : Program} {w : World} {K : PySem.W.Frag} {mg : Str → Option Value} {base : Heap}
variable {CN C fI fN fD f : Addr} {fdI fdN fdD fd : FuncData}
abbrev sME : Stmt := inClass (top 23) 1
abbrev sMA : Stmt := inClass (top 23) 2
theorem scME : FnScope ["self", "other"] ["self", "other"] (defScope sME) := ⟨rfl, rfl, rfl, by decide +kernel, rfl, by decide +kernel, by decide +kernel⟩
theorem scMA : FnScope ["self", "n", "state", "digit"] ["self", "n"] (defScope sMA) := ⟨rfl, rfl, rfl, by decide +kernel, rfl, by decide +kernel, by decide +kernel⟩
theorem ok_me (F : Fun K "__eq__" "Machine.__eq__" sME f fd) (B : Blt mg) (Z : McC K mg C) : FnOk P w K mg base CX0 1 f fd ["self", "other"] (spMEq K C) := by
  refine F.ok scME (fun vs H Q E h => ?_) (fun cdv A outer s H vs Q E hr h => ?_)
  · obtain ⟨a, y, p, dss, ws, rfl, _⟩ := h
    rfl
  · obtain ⟨a, y, p, dss, ws, rfl, ⟨dx, t, u, xs, h1, h2, h3, h4⟩, h⟩ := h
    have hu64 := hr.units
    refine ⟨_, pss_one (ps_ret (pe_and (pe_callB call_isi (by rfl) B.isi_ (by decide +kernel) (pa_cons (pv 1) (pa_cons (pe_glob (v := .ref C) rfl Z.g rfl) pa_nil)))
      (pe_and (pe_cmpR op_eq (pe_fld (pv 0) rfl) (pe_fld (pv 1) rfl) (nomark _))
      (pe_and (pe_cmpR (op_eqD hu64) (pe_fld (pv 0) rfl) (pe_fld (pv 1) rfl) (nomark _))
      (pe_one (pe_cmpR (op_eqD hu64) (pe_fld (pv 0) rfl) (pe_fld (pv 1) rfl) (nomark _))))))), ?_⟩
    obtain ⟨n, hn, ty, q⟩ | ⟨b, p2, dss2, ws2, rfl, mb, q⟩ := h
    · exact ⟨_, rfl, y, .ref C, _, _, _, rfl, .own C, ty, Z.no n hn, _, rfl, iteF q⟩
    · have ty := mb.ty Z
      obtain ⟨dx2, t2, u2, xs2, k1, k2, k3, k4⟩ := mb
      refine ⟨_, rfl, _, .ref C, _, _, _, rfl, .own C, ty, Z.ic.me, _, rfl, iteT ?_⟩
      refine ⟨_, rfl, a, C, dx, _, _, rfl, h1, Z.ic.cl, Z.n1, rfl, _, rfl, b, C, dx2, _, _, rfl, k1, Z.ic.cl, Z.n1, rfl, rfl, _, rfl, ?_⟩
      rw [deI]
      by_cases e1 : p = p2
      · rw [decide_eq_true e1]
        refine iteT ⟨_, rfl, a, C, dx, _, _, rfl, h1, Z.ic.cl, Z.n2, rfl, _, rfl, b, C, dx2, _, _, rfl, k1, Z.ic.cl, Z.n2, rfl, _, _, dp_R h2 h3, dp_R k2 k3, shaped_R _, shaped_R _, _, rfl, ?_⟩
        rw [eqv_R]
        by_cases e2 : dss = dss2
        · rw [decide_eq_true e2]
          refine iteT ⟨_, rfl, a, C, dx, _, _, rfl, h1, Z.ic.cl, Z.n3, rfl, _, rfl, b, C, dx2, _, _, rfl, k1, Z.ic.cl, Z.n3, rfl, _, _, dp_I h4, dp_I k4, shaped_I _, shaped_I _, ?_⟩
          rw [eqv_I]
          have : decide (ws = ws2) = decide (p = p2 ∧ dss = dss2 ∧ ws = ws2) := by
            rw [decide_eq_decide]
            exact ⟨fun z => ⟨e1, e2, z⟩, fun z => z.2.2⟩
          rw [this]
          exact q
        · rw [decide_eq_false e2]
          rw [decide_eq_false fun z => e2 z.2.1] at q
          exact iteF q
      · rw [decide_eq_false e1]
        rw [decide_eq_false fun z => e1 z.1] at q
        exact iteF q
theorem ok_ma (F : Fun K "at" "Machine.at" sMA f fd) (B : Blt mg) (Z : McC K mg C) (I : Cl K mg "is_integer" sIsI ["value"] fI fdI) (Dg : Cl K mg "digits" sDg ["n", "p"] fD fdD)
    (N : Er K mg "BadNumber" "BadNumber.__init__" CN fN ["what", "number"] sBadNumber fdN) (GD : FnOk P w K mg base (L2.CX P w) 4 fD fdD ["n", "p"] (spDg K CN)) : FnOk P w K mg base (L2.CX P w) 5 f fd ["self", "n"] (spMAt K C CN) := by
  have GI : FnOk P w K mg base CX0 1 fI fdI ["value"] (spIsI K) := ok_isI I.fn B.isi_ B.int_ B.bool_
  have GN : FnOk P w K mg base CX0 1 fN fdN ["self", "what", "number"] (spIni CN ["what", "number"]) := okBadNumber N.fn N.T N.no
  refine F.okX scMA (fun vs H Q E h => ?_) (fun cdv A outer s H vs Q E hr h => ?_)
  · obtain ⟨a, x, p, dss, ws, rfl, _⟩ := h
    rfl
  · obtain ⟨a, x, p, dss, ws, rfl, ma, g, h⟩ := h
    have hr1 : Room 1 _ := hr.mono (by decide)
    have hr2 : Room 2 _ := hr.mono (by decide)
    refine ⟨_, pss_cons (ps_if (PW.pt (pw_or (pt_not (pt_val (pe_call GI hr1 rfl I.g I.k I.b .nil pass0 (pa_cons (pv 1) pa_nil))))
          (pw_or1 (pt_cmpR op_lt (pv 1) pe_int (nomark _)))))
        (pss_one (ps_raise rfl (takes_of rfl rfl rfl rfl) (pmk_oex N.T N.iC N.tI GN hr2 N.b .nil pass0 rfl N.g (pa_cons pe_str (pa_cons (pv 1) pa_nil))))) pss_nil)
      (pss_cons (ps_set (i := 2) scMA.nd rfl (Or.inl rfl) pe_int)
      (pss_cons (ps_for (passes_of rfl) rfl (pi_sq (K := K) rfl (pe_call GD hr rfl Dg.g Dg.k Dg.b .nil (passes_call (takes_of rfl rfl rfl rfl) (fun _ _ _ _ h => h)) (pa_cons (pv 1) (pa_cons (pe_fld (pv 0) rfl) pa_nil)))) (pg_name (i := 3) scMA.nd rfl (Or.inl rfl))
        (pss_one (ps_set (i := 2) scMA.nd rfl (Or.inl rfl) (pe_ix ix_seq (pe_ix ix_seq (pe_fld (pv 0) rfl) (pv 2) (fun _ _ => rfl)) (pv 3) (fun _ _ => rfl)))))
      (pss_one (ps_ret (pe_ix ix_seq (pe_fld (pv 0) rfl) (pv 2) (fun _ _ => rfl)))))), ?_⟩
    obtain ⟨n, rfl, big, q⟩ | ⟨⟨i, rfl, neg⟩ | bad, q⟩ := h
    · obtain ⟨p2, p7⟩ := isPr_small g.pr
      obtain ⟨dx, t, u, xs, h1, h2, h3, h4⟩ := id ma
      refine ⟨_, rfl, _, rfl, .inl ⟨_, rfl, _, rfl, iteF ⟨_, rfl, _, _, rfl, rfl, _, rfl, ?_⟩⟩⟩
      rw [show decide ((n : Int) < 0) = false from decide_eq_false (by omega)]
      refine iteF ?_
      have ep : p = (p.toNat : Int) := by omega
      refine ⟨_, rfl, _, rfl, a, C, dx, _, _, rfl, h1, Z.ic.cl, Z.n1, rfl, _, _, rfl, .inl ⟨n, p.toNat, rfl, by rw [← ep], by rw [← ep]; exact g.pr, big, fun H1 tD m1 nD hD => ?_⟩⟩
      refine ⟨tD, _, rfl, .inr (SqT.of hD), fun J W wk hZ => ?_⟩
      have dl : xs.length = dss.length := Paired.length h3
      have digs : ∀ d ∈ dgs p.toNat n, 0 ≤ d ∧ d < p := fun d hd => by
        have := dgs_are (p := p.toNat) (by omega) n n (Nat.le_refl _) d hd
        omega
      have d0 : 0 < dss.length := List.length_pos_iff.mpr g.ne
      refine for_it wk (fun i σ' H' => ∃ z3, σ' = [some (.ref a), some (.int n), some (.int ((((dgs p.toNat n).take i).foldl (stepM dss) 0 : Nat) : Int)), z3] ∧ More H1 H') ⟨none, rfl, fun _ _ e => e⟩ (fun i σ' H' _ ⟨_, _, m⟩ => hZ H' (.of m)) ?_ ?_
      · rintro i y σ2 H2 H3 hi ⟨z3, rfl, m2⟩ ⟨rfl, hy⟩
        obtain ⟨d, hd, rfl⟩ := map_at hy
        obtain ⟨dd0, dd1⟩ := digs d (List.mem_of_getElem? hd)
        have m3 : More H H3 := fun b o e => m2 b o (m1 b o e)
        have lt := g.run ((dgs p.toNat n).take i) 0 d0 fun x hx => digs x (List.mem_of_mem_take hx)
        obtain ⟨ds, e1, e2, e3⟩ := g.step lt dd0 dd1
        obtain ⟨ds', e4, b, e5, sb⟩ : ∃ ds', dss[((dgs p.toNat n).take i).foldl (stepM dss) 0]? = some ds' ∧ TupI K H (xs.getD (((dgs p.toNat n).take i).foldl (stepM dss) 0) .non) ds' := paired_at h3 (at_getD (by omega) _)
        rw [e1] at e4
        cases e4
        refine ⟨_, rfl, a, C, dx, _, _, rfl, m3 _ _ h1, Z.ic.cl, Z.n2, rfl, _, rfl, ix_any (.inr (sqT_more m3 h2)) rfl (at_getD (by omega) .non) ?_⟩
        refine ⟨_, rfl, ?_⟩
        rw [e5]
        refine ix_any (j := d.toNat) (.inr (sqT_more m3 sb)) (by omega) (at_map e2) ⟨some (.int d), ?_, m2⟩
        rw [take_snoc hd, List.foldl_append]
        rfl
      · rintro σ2 H2 ⟨z3, rfl, m2⟩
        rw [List.length_map, List.take_length]
        have m3 : More H H2 := fun b o e => m2 b o (m1 b o e)
        have lt := g.run (dgs p.toNat n) 0 d0 digs
        exact ⟨_, rfl, a, C, dx, _, _, rfl, m3 _ _ h1, Z.ic.cl, Z.n3, rfl, _, rfl, ix_any (.inr (sqT_more m3 h4)) rfl (at_map (at_getD (by rw [g.len]; exact lt) 0)) (q _ m3)⟩
    · refine ⟨_, rfl, _, rfl, .inl ⟨i, rfl, _, rfl, iteF ⟨_, rfl, _, _, rfl, rfl, _, rfl, ?_⟩⟩⟩
      rw [show decide (i < 0) = true from decide_eq_true neg]
      exact iteT ⟨_, rfl, mk_ini rfl (by show 2 ≤ 900; decide) q⟩
    · exact ⟨_, rfl, _, rfl, .inr (.inl ⟨bad, _, rfl, iteT (iteT ⟨_, rfl, mk_ini rfl (by show 2 ≤ 900; decide) q⟩)⟩)⟩
end
end K71

/-! Ring: a function on the numbers below n, followed; the ring to which it leads. -/
namespace Ring
def it (f : Nat → Nat) : Nat → Nat → Nat
  | 0, x => x
  | k + 1, x => f (it f k x)
theorem it_in (f : Nat → Nat) : ∀ (k x : Nat), it f k (f x) = it f (k + 1) x
  | 0, _ => rfl
  | k + 1, x => by
    show f (it f k (f x)) = f (it f (k + 1) x)
    rw [it_in f k x]
theorem it_add (f : Nat → Nat) : ∀ (a b x : Nat), it f (a + b) x = it f a (it f b x)
  | 0, b, x => by rw [Nat.zero_add]; rfl
  | a + 1, b, x => by
    rw [Nat.add_right_comm]
    show f (it f (a + b) x) = f (it f a (it f b x))
    rw [it_add f a b x]
theorem it_lt {f : Nat → Nat} {n : Nat} (h : ∀ x, x < n → f x < n) : ∀ (k x : Nat), x < n → it f k x < n
  | 0, _, hx => hx
  | k + 1, x, hx => h _ (it_lt h k x hx)
theorem nodup_few : ∀ (n : Nat) (l : List Nat), l.Nodup → (∀ x ∈ l, x < n) → l.length ≤ n
  | 0, [], _, _ => Nat.le_refl _
  | 0, x :: _, _, h => absurd (h x (.head _)) (Nat.not_lt_zero _)
  | n + 1, l, nd, h => by
    have h1 := nodup_few n (l.erase n) (nd.erase n) fun x hx => by
      have hm := List.mem_of_mem_erase hx
      have := h x hm
      have : x ≠ n := fun e => by
        subst e
        exact (List.Nodup.not_mem_erase nd) hx
      omega
    by_cases m : n ∈ l
    · have := List.length_erase_of_mem m
      omega
    · rw [List.erase_of_not_mem m] at h1
      omega
/-- two turns meet -/
theorem meet {f : Nat → Nat} {n : Nat} (h : ∀ x, x < n → f x < n) {x : Nat} (hx : x < n) : ∃ i j, i < j ∧ j ≤ n ∧ it f i x = it f j x := by
  apply Classical.byContradiction
  intro no
  have nd : ((List.range (n + 1)).map fun k => it f k x).Nodup := by
    rw [List.nodup_iff_pairwise_ne, List.pairwise_map]
    refine List.Pairwise.imp_of_mem ?_ (List.pairwise_lt_range (n := n + 1))
    intro a b ha hb lt e
    exact no ⟨a, b, lt, by have := List.mem_range.mp hb; omega, e⟩
  have := nodup_few n _ nd fun y hy => by
    obtain ⟨k, _, rfl⟩ := List.mem_map.mp hy
    exact it_lt h k x hx
  rw [List.length_map, List.length_range] at this
  omega
/-- behind n turns one is on a ring of at most n -/
theorem back {f : Nat → Nat} {n : Nat} (h : ∀ x, x < n → f x < n) {x : Nat} (hx : x < n) : ∃ k, 1 ≤ k ∧ k ≤ n ∧ it f k (it f n x) = it f n x := by
  obtain ⟨i, j, lt, le, e⟩ := meet h hx
  refine ⟨j - i, by omega, by omega, ?_⟩
  have e1 : it f n x = it f (n - j) (it f j x) := by rw [← it_add]; congr 1; omega
  have e2 : it f n x = it f (n - i) (it f i x) := by rw [← it_add]; congr 1; omega
  have e3 : it f (j - i) (it f (n - j) (it f j x)) = it f (n - i) (it f j x) := by rw [← it_add]; congr 1; omega
  rw [e1, e3]
  refine Eq.trans ?_ e1
  rw [← e]
  exact e2.symm
/-- what the laps round the ring have found -/
structure Lap (f : Nat → Nat) (x j : Nat) (ring : List Nat) (at_ : Nat) : Prop where
  here : x ∈ ring
  all : ∀ y ∈ ring, ∃ i, y = it f i x
  ends : (at_ = x ∧ ∀ y ∈ ring, f y ∈ ring) ∨ (at_ = it f (j + 1) x ∧ (∀ i, 1 ≤ i → i ≤ j → it f i x ≠ x) ∧ ∀ y ∈ ring, f y ∈ ring ∨ f y = at_)
theorem Lap.start (f : Nat → Nat) (x : Nat) : Lap f x 0 [x] (f x) where
  here := .head _
  all := fun y hy => ⟨0, by simpa [it] using hy⟩
  ends := .inr ⟨rfl, fun i h1 h2 => by omega, fun y hy => by
    have e : y = x := by simpa using hy
    rw [e]
    exact .inr rfl⟩
theorem Lap.stay {f : Nat → Nat} {x j : Nat} {ring : List Nat} (l : Lap f x j ring x) : Lap f x (j + 1) ring x where
  here := l.here
  all := l.all
  ends := .inl ⟨rfl, by
    obtain ⟨_, h⟩ | ⟨e, no, h⟩ := l.ends
    · exact h
    · intro y hy
      obtain h | h := h y hy
      · exact h
      · rw [h]
        exact l.here⟩
theorem Lap.go {f : Nat → Nat} {x j a : Nat} {ring : List Nat} (l : Lap f x j ring a) (ne : a ≠ x) : Lap f x (j + 1) (ring ++ [a]) (f a) := by
  obtain ⟨e, _⟩ | ⟨e, no, h⟩ := l.ends
  · exact absurd e ne
  refine ⟨List.mem_append.mpr (.inl l.here), fun y hy => ?_, .inr ⟨by rw [e]; rfl, fun i h1 h2 => ?_, fun y hy => ?_⟩⟩
  · rcases List.mem_append.mp hy with hy | hy
    · exact l.all y hy
    · have : y = a := by simpa using hy
      exact ⟨j + 1, this.trans e⟩
  · by_cases z : i = j + 1
    · rw [z, ← e]
      exact ne
    · exact no i h1 (by omega)
  · rcases List.mem_append.mp hy with hy | hy
    · obtain h | h := h y hy
      · exact .inl (List.mem_append.mpr (.inl h))
      · exact .inl (List.mem_append.mpr (.inr (by rw [h]; exact .head _)))
    · have : y = a := by simpa using hy
      rw [this]
      exact .inr rfl
/-- the ring is found -/
theorem Lap.done {f : Nat → Nat} {x j a k : Nat} {ring : List Nat} (l : Lap f x j ring a) (k1 : 1 ≤ k) (kj : k ≤ j) (e : it f k x = x) : ∀ i, it f i x ∈ ring := by
  have cl : ∀ y ∈ ring, f y ∈ ring := by
    obtain ⟨_, h⟩ | ⟨_, no, _⟩ := l.ends
    · exact h
    · exact absurd e (no k k1 kj)
  intro i
  induction i with
  | zero => exact l.here
  | succ i ih => exact cl _ ih
/-- m is the least number of the ring to which x leads -/
def Low (f : Nat → Nat) (n x m : Nat) : Prop := (∃ i, m = it f i (it f n x)) ∧ ∀ i, m ≤ it f i (it f n x)
theorem Low.one {f : Nat → Nat} {n x m m' : Nat} (a : Low f n x m) (b : Low f n x m') : m = m' := by
  obtain ⟨⟨i, rfl⟩, h⟩ := a
  obtain ⟨⟨j, rfl⟩, h'⟩ := b
  exact Nat.le_antisymm (h j) (h' i)
theorem Low.next {f : Nat → Nat} {n x m : Nat} (h : ∀ x, x < n → f x < n) (hx : x < n) (l : Low f n x m) : Low f n (f x) m := by
  obtain ⟨⟨i, e⟩, al⟩ := l
  obtain ⟨k, k1, _, ek⟩ := back h hx
  have z : ∀ i, it f i (it f n (f x)) = it f (i + 1) (it f n x) := fun i => by
    rw [it_in, ← it_in f i (it f n x)]
    rfl
  have round : ∀ i, it f (i + k) (it f n x) = it f i (it f n x) := fun i => by rw [it_add, ek]
  refine ⟨⟨i + (k - 1), ?_⟩, fun i => ?_⟩
  · rw [z, show i + (k - 1) + 1 = i + k by omega, round]
    exact e
  · rw [z]
    exact al _
theorem Lap.low {f : Nat → Nat} {n x a : Nat} {ring : List Nat} (h : ∀ x, x < n → f x < n) (hx : x < n) (l : Lap f (it f n x) n ring a) {m : Nat} (hm : m ∈ ring) (al : ∀ y ∈ ring, m ≤ y) : Low f n x m := by
  obtain ⟨k, k1, kn, ek⟩ := back h hx
  exact ⟨l.all m hm, fun i => al _ (l.done k1 kn ek i)⟩
theorem least_of {P : Nat → Prop} : ∀ k, P k → ∃ m, P m ∧ ∀ j, P j → m ≤ j := by
  intro k
  induction k using Nat.strongRecOn with
  | ind k ih =>
    intro h
    by_cases z : ∃ j, j < k ∧ P j
    · obtain ⟨j, lt, pj⟩ := z
      exact ih j lt pj
    · exact ⟨k, h, fun j pj => Nat.le_of_not_lt fun lt => z ⟨j, lt, pj⟩⟩
theorem Low.ex (f : Nat → Nat) (n x : Nat) : ∃ m, Low f n x m := by
  obtain ⟨m, h, al⟩ := least_of (P := fun y => ∃ i, y = it f i (it f n x)) _ ⟨0, rfl⟩
  exact ⟨m, h, fun i => al _ ⟨i, rfl⟩⟩
end Ring

namespace K71
open PySem L2 Gd B5
/-- the lists of the states' rows at D -/
structure SS (H0 : Hp) (d c D : Addr) (as : List Addr) (dss : List (List Int)) (i m p : Nat) (n0 n1 : Int) (H : Hp) : Prop where
  pen : ∃ n, Pen H d c n ∧ n0 ≤ n ∧ n ≤ n1
  off : Off d H0 H
  hD : H D = some (.lst (as.map V.ref))
  nD : H0 D = none
  nd : as.Nodup
  new : ∀ a ∈ as, H0 a = none ∧ a ≠ D
  rows : ∀ (j : Nat) a, as[j]? = some a → ∃ ds, dss[j]? = some ds ∧ H a = some (.lst (ds.map V.int))
  la : as.length = i
  ld : dss.length = i
  ok : ∀ ds ∈ dss, ds.length = p ∧ ∀ x ∈ ds, 0 ≤ x ∧ x < (m : Int)
theorem SS.dne {H0 H : Hp} {d c D : Addr} {as : List Addr} {dss : List (List Int)} {i m p : Nat} {n0 n1 : Int} (s : SS H0 d c D as dss i m p n0 n1 H) : ∃ kvs, H d = some (.dK kvs) := let ⟨_, ⟨kvs, _, _, _, _, h, _⟩, _⟩ := s.pen; ⟨kvs, h⟩
/-- what leaves all but the pen's dict as it is -/
theorem SS.keep {H0 H H' : Hp} {d c D : Addr} {as : List Addr} {dss : List (List Int)} {i m p : Nat} {n0 n1 n2 : Int} (s : SS H0 d c D as dss i m p n0 n1 H) (m1 : Off d H H') (pen : ∃ n, Pen H' d c n ∧ n0 ≤ n ∧ n ≤ n2) : SS H0 d c D as dss i m p n0 n2 H' where
  pen := pen
  off := s.off.trans m1
  hD := m1 _ _ s.hD fun e => by
    obtain ⟨kvs, h⟩ := s.dne
    have := s.hD
    rw [e, h] at this
    cases this
  nD := s.nD
  nd := s.nd
  new := s.new
  rows := fun j a h => by
    obtain ⟨ds, e, g⟩ := s.rows j a h
    refine ⟨ds, e, m1 _ _ g fun z => ?_⟩
    obtain ⟨kvs, h⟩ := s.dne
    rw [z, h] at g
    cases g
  la := s.la
  ld := s.ld
  ok := s.ok
theorem SS.more {H0 H H' : Hp} {d c D : Addr} {as : List Addr} {dss : List (List Int)} {i m p : Nat} {n0 n1 : Int} (s : SS H0 d c D as dss i m p n0 n1 H) (m1 : More H H') : SS H0 d c D as dss i m p n0 n1 H' :=
  s.keep (.of m1) (let ⟨n, pn, a, b⟩ := s.pen; let ⟨o1, h1⟩ := pn.at; let ⟨o2, h2⟩ := pn.atc; ⟨n, pn.keep ((m1 _ _ h1).trans h1.symm) ((m1 _ _ h2).trans h2.symm), a, b⟩)
theorem SS.snoc {H0 H H' : Hp} {d c D L : Addr} {as : List Addr} {dss : List (List Int)} {i m p : Nat} {n0 n1 n2 : Int} {ys : List Int} (s : SS H0 d c D as dss i m p n0 n1 H) (m1 : Off d H H') (pen : ∃ n, Pen H' d c n ∧ n0 ≤ n ∧ n ≤ n2) (hc : c ≠ D) (nL : H L = none)
    (hL : H' L = some (.lst (ys.map V.int))) (l : ys.length = p) (al : ∀ x ∈ ys, 0 ≤ x ∧ x < (m : Int)) : SS H0 d c D (as ++ [L]) (dss ++ [ys]) (i + 1) m p n0 n2 (L2.upd H' D (.lst ((as ++ [L]).map V.ref))) := by
  have s' := s.keep m1 pen
  obtain ⟨n, pn, b1, b2⟩ := pen
  have dD : D ≠ d := fun e => by
    obtain ⟨kvs, h⟩ := s'.dne
    have := s'.hD
    rw [e, h] at this
    cases this
  have LD : L ≠ D := fun e => by rw [e, s.hD] at nL; cases nL
  have Lnew : L ∉ as := fun hm => by
    obtain ⟨j, hj, e⟩ := List.getElem_of_mem hm
    obtain ⟨ds, _, g⟩ := s.rows j L (by rw [List.getElem?_eq_getElem hj, e])
    rw [nL] at g
    cases g
  refine ⟨⟨n, pn.updA dD hc.symm, b1, b2⟩, s'.off.at s.nD, upd_same, s.nD, ?_, ?_, ?_, ?_, ?_, ?_⟩
  · rw [List.nodup_append]
    refine ⟨s.nd, by simp, fun a ha b hb e => ?_⟩
    have : b = L := by simpa using hb
    rw [e, this] at ha
    exact Lnew ha
  · intro a ha
    rcases List.mem_append.mp ha with ha | ha
    · exact s.new a ha
    · have : a = L := by simpa using ha
      rw [this]
      exact ⟨s.off.gone (let ⟨kvs, h⟩ := s.dne; ⟨_, h⟩) nL, LD⟩
  · intro j a h
    by_cases z : j < as.length
    · rw [List.getElem?_append_left z] at h
      obtain ⟨ds, e, g⟩ := s'.rows j a h
      refine ⟨ds, by rw [List.getElem?_append_left (by rw [s.ld, ← s.la]; exact z)]; exact e, ?_⟩
      rw [upd_ne (s.new a (List.mem_of_getElem? h)).2]
      exact g
    · have lt := (List.getElem?_eq_some_iff.mp h).1
      rw [List.length_append] at lt
      have lt : j < as.length + 1 := lt
      have ej : j = as.length := by omega
      rw [ej, List.getElem?_append_right (Nat.le_refl _), Nat.sub_self] at h
      cases h
      refine ⟨ys, ?_, ?_⟩
      · rw [ej, show as.length = dss.length by rw [s.la, s.ld], List.getElem?_append_right (Nat.le_refl _), Nat.sub_self]
        rfl
      · rw [upd_ne LD]
        exact hL
  · rw [List.length_append, s.la]; rfl
  · rw [List.length_append, s.ld]; rfl
  · intro ds hds
    rcases List.mem_append.mp hds with hds | hds
    · exact s.ok ds hds
    · have : ds = ys := by simpa using hds
      rw [this]
      exact ⟨l, al⟩
theorem SS.put {H0 H : Hp} {d c D a : Addr} {as : List Addr} {dss : List (List Int)} {i m p j : Nat} {n0 n1 : Int} {ys : List Int} (s : SS H0 d c D as dss i m p n0 n1 H) (hc : ∃ o, H0 c = some o) (ha : as[j]? = some a)
    (l : ys.length = p) (al : ∀ x ∈ ys, 0 ≤ x ∧ x < (m : Int)) : SS H0 d c D as (dss.set j ys) i m p n0 n1 (L2.upd H a (.lst (ys.map V.int))) := by
  obtain ⟨n, pn, b1, b2⟩ := s.pen
  have hm := List.mem_of_getElem? ha
  obtain ⟨na, aD⟩ := s.new a hm
  have ad : a ≠ d := fun e => by
    obtain ⟨ds, _, g⟩ := s.rows j a ha
    obtain ⟨kvs, h⟩ := s.dne
    rw [e, h] at g
    cases g
  have ac : a ≠ c := fun e => by
    obtain ⟨o, h⟩ := hc
    rw [e, h] at na
    cases na
  refine ⟨⟨n, pn.updA ad ac, b1, b2⟩, s.off.at na, by rw [upd_ne aD.symm]; exact s.hD, s.nD, s.nd, s.new, ?_, s.la, by rw [List.length_set, s.ld], ?_⟩
  · intro t b h
    by_cases e : t = j
    · subst e
      rw [ha] at h
      cases h
      refine ⟨ys, ?_, upd_same⟩
      rw [List.getElem?_set_self (by rw [s.ld, ← s.la]; exact (List.getElem?_eq_some_iff.mp ha).1)]
    · obtain ⟨ds, e1, g⟩ := s.rows t b h
      refine ⟨ds, by rw [List.getElem?_set_ne (Ne.symm e)]; exact e1, ?_⟩
      rw [upd_ne fun z => ?_]
      · exact g
      · subst z
        obtain ⟨h1, h2⟩ := List.getElem?_eq_some_iff.mp h
        obtain ⟨h3, h4⟩ := List.getElem?_eq_some_iff.mp ha
        exact e ((List.getElem_inj s.nd).mp (h2.trans h4.symm))
  · intro ds hds
    rcases List.mem_or_eq_of_mem_set hds with h | h
    · exact s.ok ds h
    · rw [h]
      exact ⟨l, al⟩
/-- the state behind a zero -/
def zf (dss : List (List Int)) (s : Nat) : Nat := ((dss.getD s []).getD 0 0).toNat
theorem SS.zero {H0 H : Hp} {d c D : Addr} {as : List Addr} {dss : List (List Int)} {i m p : Nat} {n0 n1 : Int} (s : SS H0 d c D as dss i m p n0 n1 H) (hp : 0 < p) {x : Nat} (hx : x < i) : ∃ a ds, as[x]? = some a ∧ dss[x]? = some ds ∧ H a = some (.lst (ds.map V.int)) ∧ (ds.map V.int)[0]? = some (.int (zf dss x : Nat)) ∧ zf dss x < m := by
  have ha := at_getD (l := as) (i := x) (by rw [s.la]; exact hx) 0
  obtain ⟨ds, e, g⟩ := s.rows _ _ ha
  obtain ⟨l, al⟩ := s.ok ds (List.mem_of_getElem? e)
  have e0 := at_getD (l := ds) (i := 0) (by omega) 0
  obtain ⟨r0, r1⟩ := al _ (List.mem_of_getElem? e0)
  have ez : zf dss x = (ds.getD 0 0).toNat := by
    unfold zf
    rw [getD_of e]
  refine ⟨_, ds, ha, e, g, ?_, by rw [ez]; omega⟩
  rw [ez, Int.toNat_of_nonneg r0]
  exact at_map e0
/-- the worths and the kinds of the first i states -/
structure WS (H0 : Hp) (d c w k : Addr) (n : Int) (mm : Nat) (f : Nat → Nat) (b i : Nat) (ws : List Int) (kvs : List (Key × V)) (H : Hp) : Prop where
  off : Off d H0 H
  pen : ∃ n', Pen H d c n' ∧ n ≤ n' ∧ n' ≤ n + 300 + b
  hw : H w = some (.lst (ws.map V.int))
  hk : H k = some (.dK kvs)
  nw : H0 w = none
  nk : H0 k = none
  len : ws.length = mm
  few : kvs.length ≤ b
  vals : ∀ s, s < i → ∀ lo, Ring.Low f mm s lo → valV kvs (Sum.inl (lo : Int)) = some (.int (ws.getD s 0))
  whole : ∀ q v, valV kvs q = some v → ∃ z, v = .int z ∧ z ≠ 77
  n77 : ∀ x ∈ ws, x ≠ 77
def spSt (K : PySem.W.Frag) : Sp := fun vs H Q _ => ∃ (d c : Addr) (n : Int) (p m : Nat), vs = [.ref d, .int p, .int m] ∧ Pen H d c n ∧ 0 ≤ n ∧ n < 800000000 ∧ isPr p = true ∧ 1 ≤ m ∧ m ≤ 20 ∧
  ∀ (H' : Hp) (t M W : Addr) (rs : List V) (dss : List (List Int)) (ws : List Int) (n' : Int), H' t = some (.tup [.ref M, .ref W]) → H' M = some (.tup rs) → Paired (TupI K H') rs dss → H' W = some (.tup (ws.map V.int)) →
    MGood p dss ws → stdy dss ws = true → (∀ x ∈ ws, x ≠ 77) → dss.length ≤ m → Pen H' d c n' → n ≤ n' → n' ≤ n + 1000 → Off d H H' → Q (.ref t) H'
def lcSc : Expr → Scope
  | .ListComp _ _ sc _ => sc
  | _ => { kind := .function, names := [], isGenerator := false, isCoroutine := false }
def asgV : Stmt → Expr
  | .Assign _ v _ => v
  | s => .Constant .none 0 ⟨0, 0, 0, 0⟩
section
variable {P : Program} {w : World} {K : PySem.W.Frag} {mg : Str → Option Value} {base : Heap}
variable {g1 g2 f : Addr} {d1 d2 fd : FuncData}
abbrev sSt : Stmt := top 34
abbrev NSt : List Str := ["_law_pen_here", "_law_p", "_law_most", "_law_many", "_law_state", "_law_moves", "_law_worths", "_law_kinds", "_law_there", "_law_lap", "_law_ring", "_law_at", "_law_digit", "_law_row"]
theorem scSt : FnScope NSt ["_law_pen_here", "_law_p", "_law_most"] (defScope sSt) := ⟨rfl, rfl, rfl, by decide +kernel, rfl, by decide +kernel, by decide +kernel⟩
theorem ok_st (F : Fun K "_law_steady" "_law_steady" sSt f fd) (B : Blt mg) (zMin : mg "min" = none) (Dr : Cl K mg "_law_draw" sDraw ["_law_pen_here", "_law_many"] g1 d1) (Pi : Cl K mg "_law_pick" sPick ["_law_pen_here", "_law_some"] g2 d2) :
    FnOk P w K mg base CX0 3 f fd ["_law_pen_here", "_law_p", "_law_most"] (spSt K) := by
  have G1 : FnOk P w K mg base CX0 1 g1 d1 ["_law_pen_here", "_law_many"] spDraw := ok_draw Dr.fn B.int_ B.len_
  have G2 : FnOk P w K mg base CX0 2 g2 d2 ["_law_pen_here", "_law_some"] (spPick K) := ok_pick Pi.fn Dr.fn Dr.b Dr.g B.int_ B.len_
  refine F.ok scSt (fun vs H Q E h => ?_) (fun cdv A outer s H vs Q E hr h => ?_)
  · obtain ⟨d, c, n, p, m, rfl, _⟩ := h
    rfl
  · obtain ⟨d, c, n, p, m, rfl, pen, n0, n1, pr, m1, m9, q⟩ := h
    have hr1 : Room 1 _ := hr.mono (by decide)
    have hu := hu_of hr
    obtain ⟨p2, p7⟩ := isPr_small pr
    refine ⟨_, pss_cons (ps_set (i := 3) scSt.nd rfl (Or.inr rfl) (pe_op op_add pe_int (pe_call G1 hr1 rfl Dr.g Dr.k Dr.b .nil pass0 (pa_cons (pv 0) (pa_cons (pv 2) pa_nil)))))
      (Evl.pss_cut (ps_setLc (i := 5) (own := [("_law_state", 4)]) (g := gName 4) (tt := tYes) rfl scSt.nd rfl rfl (sw_true rfl rfl rfl (by decide +kernel)) (pi_range1 (by rfl) B.range_ (pa_cons (pv 3) pa_nil))
          (blkOk_by (N := NSt) (sc := defScope sSt) (by decide +kernel)) (fun _ _ _ _ _ => pg_name (i := 4) scSt.nd rfl (Or.inl rfl)) (fun _ _ _ _ _ => pts_nil)
          (fun _ _ _ _ _ => by exact (pe_lc (own := [("_law_digit", 12)]) (g := gName 12) (tt := tYes) rfl scSt.nd (pi_range1 (by rfl) B.range_ (pa_cons (pv 1) pa_nil))
            (blkOk_by (N := NSt) (sc := relabel (lcSc (asgV ((defBody sSt).getD 1 (.Pass ⟨0, 0, 0, 0⟩)))) (PyProof.Rows.envOfC "_law_steady" (defScope sSt) 0 0 .none)) (by decide +kernel))
            (fun _ _ _ _ _ => pg_name (i := 12) scSt.nd rfl (Or.inl rfl)) (fun _ _ _ _ _ => pts_nil)
            (fun _ _ _ _ _ => pe_call G1 hr1 rfl Dr.g Dr.k Dr.b .nil pass0 (pa_cons (pv 0) (pa_cons (pv 3) pa_nil))))))
      (Evl.pss_cut (ps_for PassesOwn.never rfl (pi_range1 (by rfl) B.range_ (pa_cons (pv 3) pa_nil)) (pg_name (i := 4) scSt.nd rfl (Or.inl rfl))
        (pss_one (ps_if (pt_cmpR op_eq (pe_call G1 hr1 rfl Dr.g Dr.k Dr.b .nil pass0 (pa_cons (pv 0) (pa_cons pe_int pa_nil))) pe_int (nomark _))
          (pss_one (ps_asg (pv 4) (pg_sub (pe_ix ix_list (pv 5) (pv 4) (fun _ _ => rfl)) pe_int set_list))) pss_nil)))
      (pss_cons (ps_par (i := 6) (j := 7) rfl scSt.nd rfl rfl (by decide) rfl rfl (pa_cons (pe_op op_rep (pe_lst (pa_cons pe_int pa_nil)) (pv 3)) (pa_cons pe_dnewK pa_nil)) (by rfl))
      (Evl.pss_cut (ps_for PassesOwn.never rfl (pi_range1 (by rfl) B.range_ (pa_cons (pv 3) pa_nil)) (pg_name (i := 4) scSt.nd rfl (Or.inl rfl))
        (pss_cons (ps_set (i := 8) scSt.nd rfl (Or.inl rfl) (pv 4))
        (Evl.pss_cut (ps_for PassesOwn.never rfl (pi_range1 (by rfl) B.range_ (pa_cons (pv 3) pa_nil)) (pg_name (i := 9) scSt.nd rfl (Or.inl rfl))
          (pss_one (ps_set (i := 8) scSt.nd rfl (Or.inl rfl) (pe_ix ix_list (pe_ix ix_list (pv 5) (pv 8) (fun _ _ => rfl)) pe_int (fun _ _ => rfl)))))
        (pss_cons (ps_par (i := 10) (j := 11) rfl scSt.nd rfl rfl (by decide) rfl rfl (pa_cons (pe_lst (pa_cons (pv 8) pa_nil)) (pa_cons (pe_ix ix_list (pe_ix ix_list (pv 5) (pv 8) (fun _ _ => rfl)) pe_int (fun _ _ => rfl)) pa_nil)) (by rfl))
        (Evl.pss_cut (ps_for PassesOwn.never rfl (pi_range1 (by rfl) B.range_ (pa_cons (pv 3) pa_nil)) (pg_name (i := 9) scSt.nd rfl (Or.inl rfl))
          (pss_one (ps_if (pt_cmpR op_ne (pv 11) (pv 8) (nomark _))
            (pss_one (ps_par (i := 10) (j := 11) rfl scSt.nd rfl rfl (by decide) rfl rfl (pa_cons (pe_op op_cat (pv 10) (pe_lst (pa_cons (pv 11) pa_nil))) (pa_cons (pe_ix ix_list (pe_ix ix_list (pv 5) (pv 11) (fun _ _ => rfl)) pe_int (fun _ _ => rfl)) pa_nil)) (by rfl))) pss_nil)))
        (Evl.pss_cut (ps_if (pt_cmp (pc_dnotin hu (pe_callB (cr_min rfl) (by rfl) zMin (by decide +kernel) (pa_cons (pv 10) pa_nil)) (pv 7)))
          (pss_one (ps_dput hu (pv 7) (pe_callB (cr_min rfl) (by rfl) zMin (by decide +kernel) (pa_cons (pv 10) pa_nil)) (pe_call G2 hr rfl Pi.g Pi.k Pi.b .nil pass0 (pa_cons (pv 0)
            (pa_cons (pe_lst (pa_cons pe_int (pa_cons pe_int (pa_cons pe_int (pa_cons pe_int (pa_cons (pe_un un_neg pe_int) (pa_cons (pe_op op_pow pe_int pe_int) pa_nil))))))) pa_nil))) rfl)) pss_nil)
        (pss_one (ps_asg (pe_dget hu (pv 7) (pe_callB (cr_min rfl) (by rfl) zMin (by decide +kernel) (pa_cons (pv 10) pa_nil)) (fun _ _ => rfl)) (pg_sub (pv 6) (pv 4) set_list)))))))))
      (pss_one (ps_ret (pe_tup (pa_cons (pe_callTy call_tuple_of (by rfl) B.tup_ (by decide +kernel) (pa_cons (pe_lc (own := [("_law_row", 13)]) (g := gName 13) (tt := tYes) rfl scSt.nd (pi_list (pv 5))
          (blkOk_by (N := NSt) (sc := defScope sSt) (by decide +kernel)) (fun _ _ _ _ _ => pg_name (i := 13) scSt.nd rfl (Or.inl rfl)) (fun _ _ _ _ _ => pts_nil)
          (fun _ _ _ _ _ => pe_callTy (r := rTof K) (call_tof rfl) (by rfl) B.tup_ (by decide +kernel) (pa_cons (pv 13) pa_nil))) pa_nil))
        (pa_cons (pe_callTy call_tuple_of (by rfl) B.tup_ (by decide +kernel) (pa_cons (pv 6) pa_nil)) pa_nil))))))))), ?_⟩
    refine ⟨_, rfl, _, rfl, d, c, n, m, rfl, pen, by omega, by omega, n0, by omega, fun r H1 r0 r1 dr => ?_⟩
    refine ⟨_, _, rfl, rfl, ?_⟩
    obtain ⟨mm, em, mm1, mm9⟩ : ∃ mm : Nat, 1 + r = (mm : Int) ∧ 1 ≤ mm ∧ mm ≤ m := ⟨(1 + r).toNat, by omega, by omega, by omega⟩
    show gName 3 (V.int (1 + r)) _ _ _
    rw [em]
    obtain ⟨oc', hc0⟩ := pen.atc
    have hd1 := dr.pen.at
    refine ⟨fun σ' H' => ∃ D as dss, σ' = [some (.ref d), some (.int p), some (.int m), some (.int mm), none, some (.ref D), none, none, none, none, none, none, none, none] ∧ SS H d c D as dss mm mm p n (n + 1 + 7 * mm) H', ?_, ?_⟩
    · refine ⟨_, rfl, _, rfl, by omega, by omega, fun D hD => lc_range (lo := 0) (n := mm) (fun i H' => ∃ as dss, SS H d c D as dss i mm p n (n + 1 + 7 * i) H') ⟨[], [], ?_⟩ ?_ ?_⟩
      · refine ⟨⟨_, dr.pen.upd hD, by omega, by omega⟩, (Off.dr dr).trans (.of (new_more hD)), upd_same, (Off.dr dr).gone hd1 hD, List.nodup_nil, nofun, fun j a h => ?_, rfl, rfl, nofun⟩
        rw [List.getElem?_nil] at h
        cases h
      · rintro i H2 hi ⟨as, dss, s2⟩
        have cD : c ≠ D := fun e => by rw [e, s2.nD] at hc0; cases hc0
        refine ⟨rfl, _, rfl, _, rfl, by omega, by omega, fun L hL => lc_range (lo := 0) (n := p) (fun j H' => ∃ ys : List Int, ys.length = j ∧ (∀ y ∈ ys, 0 ≤ y ∧ y < (mm : Int)) ∧ H' L = some (.lst (ys.map V.int)) ∧ (∃ n', Pen H' d c n' ∧ n ≤ n' ∧ n' ≤ n + 1 + 7 * i + j) ∧ Off d H2 H')
          ⟨[], rfl, nofun, upd_same, ?_, .of (new_more hL)⟩ ?_ ?_⟩
        · obtain ⟨n', pn, b1, b2⟩ := s2.pen
          exact ⟨n', pn.upd hL, b1, by omega⟩
        · rintro j H3 hj ⟨ys, e1, e2, e3, ⟨n', pn, b1, b2⟩, o3⟩
          refine ⟨rfl, _, rfl, _, rfl, d, c, n', mm, rfl, pn, by omega, by omega, by omega, by omega, fun r H4 r0 r1 dr4 => ?_⟩
          have Ld : L ≠ d := fun e => by
            obtain ⟨kvs, h⟩ := s2.dne
            rw [e, h] at hL
            cases hL
          have Lc : L ≠ c := fun e => by
            obtain ⟨_, pn2, _⟩ := s2.pen
            obtain ⟨o, h⟩ := pn2.atc
            rw [e, h] at hL
            cases hL
          refine ⟨_, (dr4.off L Ld).trans e3, by rw [List.length_map]; exact small1000 (by omega), ys ++ [r], by rw [List.length_append, e1]; rfl, ?_, ?_, ⟨_, dr4.pen.updA Ld Lc, by omega, by omega⟩, (o3.trans (.dr dr4)).at hL⟩
          · intro y hy
            rcases List.mem_append.mp hy with hy | hy
            · exact e2 y hy
            · have : y = r := by simpa using hy
              omega
          · rw [upd_same, List.map_append]
            rfl
        · rintro H3 ⟨ys, e1, e2, e3, ⟨n', pn, b1, b2⟩, o3⟩
          have s3 := s2.snoc (n2 := n + 1 + 7 * ((i + 1 : Nat) : Int)) o3 ⟨n', pn, b1, by omega⟩ cD hL e3 e1 e2
          refine ⟨_, (s2.keep o3 ⟨n', pn, b1, b2⟩).hD, by rw [List.length_map, s2.la]; exact small1000 (by omega), as ++ [L], dss ++ [ys], ?_⟩
          rw [List.map_append] at s3
          exact s3
      · rintro H2 ⟨as, dss, s2⟩
        exact ⟨D, as, dss, rfl, s2⟩
    clear hd1 dr
    rintro σ1 H2 ⟨D, as, dss0, rfl, s2⟩
    -- zeros that lead back
    refine ⟨fun σ' H' => ∃ dss z4, σ' = [some (.ref d), some (.int p), some (.int m), some (.int mm), z4, some (.ref D), none, none, none, none, none, none, none, none] ∧ SS H d c D as dss mm mm p n (n + 1 + 7 * mm + mm) H', ?_, ?_⟩
    · refine ⟨_, rfl, _, rfl, by omega, by omega, for_range (lo := 0) (n := mm) (fun i σ' H' => ∃ dss z4, σ' = [some (.ref d), some (.int p), some (.int m), some (.int mm), z4, some (.ref D), none, none, none, none, none, none, none, none] ∧ SS H d c D as dss mm mm p n (n + 1 + 7 * mm + i) H')
        ⟨dss0, none, rfl, s2.keep .refl (let ⟨n', a, b, e⟩ := s2.pen; ⟨n', a, b, by omega⟩)⟩ ?_ (fun σ' H' h => h)⟩
      rintro i σ2 H3 hi ⟨dss, z4, rfl, s3⟩
      rw [Int.zero_add]
      obtain ⟨n', pn, b1, b2⟩ := s3.pen
      refine ⟨_, rfl, d, c, n', 2, rfl, pn, by decide, by decide, by omega, by omega, fun r H4 r0 r1 dr4 => ?_⟩
      have s4 := s3.keep (n2 := n + 1 + 7 * mm + ((i + 1 : Nat) : Int)) (.dr dr4) ⟨_, dr4.pen, by omega, by omega⟩
      refine ⟨rfl, _, rfl, ite2 (fun _ => ?_) (fun _ => ⟨dss, _, rfl, s4⟩)⟩
      obtain ⟨a, ds, ha, hds, hHa, h0, _⟩ := s4.zero (by omega) hi
      obtain ⟨l, al⟩ := s4.ok ds (List.mem_of_getElem? hds)
      have s5 := s4.put (ys := ds.set 0 (i : Int)) ⟨_, hc0⟩ ha (by rw [List.length_set, l]) (fun x hx => by
        rcases List.mem_or_eq_of_mem_set hx with hx | hx
        · exact al x hx
        · omega)
      rw [List.map_set] at s5
      exact ⟨_, rfl, _, rfl, _, rfl, D, _, _, _, rfl, rfl, SqL.of s4.hD, atI_nat (at_map ha), a, _, 0, 0, rfl, rfl, hHa, (show L2.ixN _ ((0 : Nat) : Int) = some 0 from Evl.ixN_nat (by rw [List.length_map]; omega)), _, _, rfl, s5⟩
    clear s2
    rintro σ2 H3 ⟨dss, z4, rfl, s3⟩
    -- the worths
    refine ⟨by show 1 ≤ sizeLine; decide, fun o1 ho1 => ?_⟩
    have m31 := new_more (o := .lst [V.int 0]) ho1
    refine ⟨_, rfl, o1, _, _, rfl, rfl, upd_same, by omega, by omega, ?_, fun w1 hw1 => ?_⟩
    · rw [sizeLine_eq, Int.toNat_natCast, List.length_singleton]
      omega
    have m32 : More H3 (upd (upd H3 o1 (.lst [V.int 0])) w1 (.lst (List.replicate (mm : Int).toNat [V.int 0]).flatten)) := fun b o e => new_more hw1 _ _ (m31 _ _ e)
    have hW : (upd (upd H3 o1 (.lst [V.int 0])) w1 (.lst (List.replicate (mm : Int).toNat [V.int 0]).flatten)) w1 = some (.lst ((List.replicate mm (0 : Int)).map V.int)) := by
      rw [upd_same, Int.toNat_natCast]
      rw [List.flatten_replicate_singleton, List.map_replicate]
    have nw1 : H3 w1 = none := m31.off hw1
    generalize upd (upd H3 o1 (.lst [V.int 0])) w1 (.lst (List.replicate (mm : Int).toNat [V.int 0]).flatten) = H4 at m32 hW ⊢
    intro k1 hk1
    refine ⟨_, _, rfl, ?_⟩
    have nk1 : H3 k1 = none := m32.off hk1
    have hW5 := new_more (o := .dK []) hk1 _ _ hW
    have hk5 : (upd H4 k1 (.dK [])) k1 = some (.dK []) := upd_same
    have o35 : Off d H3 (upd H4 k1 (.dK [])) := .of fun b o e => new_more hk1 _ _ (m32 _ _ e)
    have pen5 : ∃ n', Pen (upd H4 k1 (.dK [])) d c n' ∧ n ≤ n' ∧ n' ≤ n + 300 := by
      obtain ⟨n', pn, b1, b2⟩ := (s3.more fun b o e => new_more hk1 _ _ (m32 _ _ e)).pen
      exact ⟨n', pn, b1, by omega⟩
    have wk : w1 ≠ k1 := ne_of_none hW hk1
    generalize upd H4 k1 (.dK []) = H5 at hW5 hk5 o35 pen5 ⊢
    clear hW m32 m31
    -- states' worths
    have fl : ∀ x, x < mm → zf dss x < mm := fun x hx => let ⟨_, _, _, _, _, _, z⟩ := s3.zero (by omega) hx; z
    refine ⟨fun σ' H' => ∃ ws kvs z4 z8 z9 z10 z11, σ' = [some (.ref d), some (.int p), some (.int m), some (.int mm), z4, some (.ref D), some (.ref w1), some (.ref k1), z8, z9, z10, z11, none, none] ∧ WS H3 d c w1 k1 n mm (zf dss) mm mm ws kvs H', ?_, ?_⟩
    · refine ⟨_, rfl, _, rfl, by omega, by omega, for_range (lo := 0) (n := mm) (fun i σ' H' => ∃ ws kvs z4 z8 z9 z10 z11, σ' = [some (.ref d), some (.int p), some (.int m), some (.int mm), z4, some (.ref D), some (.ref w1), some (.ref k1), z8, z9, z10, z11, none, none] ∧ WS H3 d c w1 k1 n mm (zf dss) i i ws kvs H')
        ⟨_, _, _, _, _, _, _, rfl, ⟨o35, let ⟨n', a, b, e⟩ := pen5; ⟨n', a, b, by omega⟩, hW5, hk5, nw1, nk1, by rw [List.length_replicate], Nat.zero_le _, fun s hs => absurd hs (Nat.not_lt_zero _), fun q v h => (by cases h), fun x hx => by rw [(List.mem_replicate.mp hx).2]; decide⟩⟩ ?_ (fun σ' H' h => h)⟩
      rintro i σ3 H6 hi ⟨ws, kvs, z4, z8, z9, z10, z11, rfl, s6⟩
      rw [Int.zero_add]
      have s36 := s3.keep s6.off (n2 := n + 300 + i) s6.pen
      refine ⟨_, rfl, fun σ' H' => ∃ z9, σ' = [some (.ref d), some (.int p), some (.int m), some (.int mm), some (.int i), some (.ref D), some (.ref w1), some (.ref k1), some (.int (Ring.it (zf dss) mm i : Nat)), z9, z10, z11, none, none] ∧ H' = H6, ?_, ?_⟩
      · refine ⟨_, rfl, _, rfl, by omega, by omega, for_range (lo := 0) (n := mm) (fun j σ' H' => ∃ z9, σ' = [some (.ref d), some (.int p), some (.int m), some (.int mm), some (.int i), some (.ref D), some (.ref w1), some (.ref k1), some (.int (Ring.it (zf dss) j i : Nat)), z9, z10, z11, none, none] ∧ H' = H6) ⟨_, rfl, rfl⟩ ?_ (fun σ' H' h => h)⟩
        rintro j σ4 H7 hj ⟨z9, rfl, rfl⟩
        obtain ⟨a, ds, ha, hds, hHa, h0, lt⟩ := s36.zero (by omega) (Ring.it_lt fl j i hi)
        exact ⟨_, rfl, _, rfl, D, _, _, _, rfl, rfl, SqL.of s36.hD, atI_nat (at_map ha), a, _, 0, _, rfl, rfl, SqL.of hHa, atI_nat (j := 0) h0, _, rfl, rfl⟩
      rintro σ4 H7 ⟨z9, rfl, rfl⟩
      have x0 := Ring.it_lt fl mm i hi
      refine ⟨_, rfl, by show 1 ≤ sizeLine; decide, fun ρ hρ => ?_⟩
      have m7 := new_more (o := .lst [V.int (Ring.it (zf dss) mm i : Nat)]) hρ
      have hρ8 : (upd H7 ρ (.lst [V.int (Ring.it (zf dss) mm i : Nat)])) ρ = some (.lst ([Ring.it (zf dss) mm i].map fun y : Nat => V.int y)) := upd_same
      generalize upd H7 ρ (.lst [V.int (Ring.it (zf dss) mm i : Nat)]) = H8 at m7 hρ8 ⊢
      obtain ⟨a, ds, ha, hds, hHa, h0, lt⟩ := (s36.more m7).zero (by omega) x0
      refine ⟨_, rfl, _, rfl, D, _, _, _, rfl, rfl, SqL.of (s36.more m7).hD, atI_nat (at_map ha), a, _, 0, _, rfl, rfl, SqL.of hHa, atI_nat (j := 0) h0, _, _, rfl, ?_⟩
      clear ha hds hHa h0
      -- round the ring
      refine ⟨fun σ' H' => ∃ ring a z9 ρ, σ' = [some (.ref d), some (.int p), some (.int m), some (.int mm), some (.int i), some (.ref D), some (.ref w1), some (.ref k1), some (.int (Ring.it (zf dss) mm i : Nat)), z9, some (.ref ρ), some (.int (a : Nat)), none, none] ∧ Ring.Lap (zf dss) (Ring.it (zf dss) mm i) mm ring a ∧ H' ρ = some (.lst (ring.map fun y : Nat => V.int y)) ∧ ring.length ≤ mm + 1 ∧ More H7 H', ?_, ?_⟩
      · refine ⟨_, rfl, _, rfl, by omega, by omega, for_range (lo := 0) (n := mm) (fun j σ' H' => ∃ ring a z9 ρ, σ' = [some (.ref d), some (.int p), some (.int m), some (.int mm), some (.int i), some (.ref D), some (.ref w1), some (.ref k1), some (.int (Ring.it (zf dss) mm i : Nat)), z9, some (.ref ρ), some (.int (a : Nat)), none, none] ∧ Ring.Lap (zf dss) (Ring.it (zf dss) mm i) j ring a ∧ H' ρ = some (.lst (ring.map fun y : Nat => V.int y)) ∧ ring.length ≤ j + 1 ∧ a < mm ∧ More H7 H')
          ⟨_, _, _, _, rfl, Ring.Lap.start _ _, hρ8, Nat.le_refl _, lt, m7⟩ ?_ (fun σ' H' ⟨ring, a, z9, ρ, h1, h2, h3, h4, _, h5⟩ => ⟨ring, a, z9, ρ, h1, h2, h3, h4, h5⟩)⟩
        rintro j σ5 H9 hj ⟨ring, a, z9, ρ, rfl, lap, hρ9, rl, alt, m9⟩
        refine ⟨_, rfl, _, rfl, rfl, _, rfl, ?_⟩
        rw [deI]
        by_cases e : a = Ring.it (zf dss) mm i
        · rw [decide_eq_true (by rw [e])]
          subst e
          exact iteF ⟨ring, _, _, ρ, rfl, lap.stay, hρ9, by omega, alt, m9⟩
        · rw [decide_eq_false (by omega)]
          refine iteT ⟨_, rfl, _, rfl, by show 1 ≤ sizeLine; decide, fun q1 hq1 => ?_⟩
          have m10 := new_more (o := .lst [V.int (a : Nat)]) hq1
          refine ⟨ρ, q1, _, _, rfl, rfl, m10 _ _ hρ9, upd_same, by rw [List.length_map, sizeLine_eq]; show ring.length + 1 ≤ _; omega, fun ρ2 hρ2 => ?_⟩
          have m11 := new_more (o := .lst ((ring.map fun y : Nat => V.int y) ++ [V.int (a : Nat)])) hρ2
          have m12 : More H7 (upd (upd H9 q1 (.lst [V.int (a : Nat)])) ρ2 (.lst ((ring.map fun y : Nat => V.int y) ++ [V.int (a : Nat)]))) := fun b o e => m11 _ _ (m10 _ _ (m9 _ _ e))
          have h12 : (upd (upd H9 q1 (.lst [V.int (a : Nat)])) ρ2 (.lst ((ring.map fun y : Nat => V.int y) ++ [V.int (a : Nat)]))) ρ2 = some (.lst ((ring ++ [a]).map fun y : Nat => V.int y)) := by
            rw [upd_same, List.map_append]
            rfl
          generalize upd (upd H9 q1 (.lst [V.int (a : Nat)])) ρ2 (.lst ((ring.map fun y : Nat => V.int y) ++ [V.int (a : Nat)])) = H12 at m12 h12 ⊢
          obtain ⟨b, ds, hb, hds, hHb, h0, lt⟩ := (s36.more m12).zero (by omega) alt
          exact ⟨_, rfl, _, rfl, D, _, _, _, rfl, rfl, SqL.of (s36.more m12).hD, atI_nat (at_map hb), b, _, 0, _, rfl, rfl, SqL.of hHb, atI_nat (j := 0) h0, _, _, rfl, ring ++ [a], _, _, ρ2, rfl, lap.go e, h12, by rw [List.length_append]; show ring.length + 1 ≤ _; omega, lt, m12⟩
      rintro σ5 H9 ⟨ring, a9, z9, ρ, rfl, lap, hρ9, rl, m9⟩
      -- the least one
      have ring0 : 0 < (ring.map fun y : Nat => (y : Int)).length := by
        rw [List.length_map]
        exact List.length_pos_of_mem lap.here
      have least : ∀ mn : Int, mn ∈ (ring.map fun y : Nat => (y : Int)) → (∀ y, y ∈ (ring.map fun y : Nat => (y : Int)) → mn ≤ y) → ∃ lo : Nat, mn = lo ∧ Ring.Low (zf dss) mm i lo := by
        intro mn hm al
        obtain ⟨lo, hlo, rfl⟩ := List.mem_map.mp hm
        refine ⟨lo, rfl, lap.low fl hi hlo fun y hy => ?_⟩
        have := al _ (List.mem_map.mpr ⟨y, hy, rfl⟩)
        omega
      have sqρ : ∀ {H' : Hp}, H' ρ = some (.lst (ring.map fun y : Nat => V.int y)) → SqL K H' ρ ((ring.map fun y : Nat => (y : Int)).map V.int) := fun {H'} h => SqL.of (by rw [List.map_map]; exact h)
      have s9 : WS H3 d c w1 k1 n mm (zf dss) i i ws kvs H9 := ⟨s6.off.trans (.of m9), let ⟨n', pn, b1, b2⟩ := s6.pen; let ⟨o1, h1⟩ := pn.at; let ⟨o2, h2⟩ := pn.atc; ⟨n', pn.keep ((m9 _ _ h1).trans h1.symm) ((m9 _ _ h2).trans h2.symm), b1, b2⟩, m9 _ _ s6.hw, m9 _ _ s6.hk, s6.nw, s6.nk, s6.len, s6.few, s6.vals, s6.whole, s6.n77⟩
      have ρd : ρ ≠ d := fun e => by
        obtain ⟨_, pn, _⟩ := s9.pen
        obtain ⟨o, h⟩ := pn.at
        obtain ⟨kvs', _, _, _, _, h, _⟩ := pn
        rw [e, h] at hρ9
        cases hρ9
      have ρk : ρ ≠ k1 := ne_of hρ9 s9.hk (by intro z; cases z)
      have kd : k1 ≠ d := fun e => by
        obtain ⟨_, pn, _⟩ := s3.pen
        obtain ⟨o, h⟩ := pn.at
        rw [← e, nk1] at h
        cases h
      have wd : w1 ≠ d := fun e => by
        obtain ⟨_, pn, _⟩ := s3.pen
        obtain ⟨o, h⟩ := pn.at
        rw [← e, nw1] at h
        cases h
      have kc : k1 ≠ c := fun e => by
        obtain ⟨_, pn, _⟩ := s3.pen
        obtain ⟨o, h⟩ := pn.atc
        rw [← e, nk1] at h
        cases h
      have wc : w1 ≠ c := fun e => by
        obtain ⟨_, pn, _⟩ := s3.pen
        obtain ⟨o, h⟩ := pn.atc
        rw [← e, nw1] at h
        cases h
      refine ⟨fun σ' H' => ∃ kvs', σ' = [some (.ref d), some (.int p), some (.int m), some (.int mm), some (.int i), some (.ref D), some (.ref w1), some (.ref k1), some (.int (Ring.it (zf dss) mm i : Nat)), z9, some (.ref ρ), some (.int (a9 : Nat)), none, none] ∧ H' ρ = some (.lst (ring.map fun y : Nat => V.int y)) ∧ WS H3 d c w1 k1 n mm (zf dss) (i + 1) i ws kvs' H' ∧ ∀ lo, Ring.Low (zf dss) mm i lo → ∃ z, valV kvs' (Sum.inl (lo : Int)) = some (.int z) ∧ z ≠ 77, ?_, ?_⟩
      · refine ⟨_, rfl, ρ, _, rfl, sqρ hρ9, ring0, fun mn hm al => ⟨_, rfl, k1, _, rfl, DGet.k (k := Sum.inl mn) s9.hk, _, rfl, ?_⟩⟩
        obtain ⟨lo, rfl, low⟩ := least mn hm al
        cases ev : valV kvs (Sum.inl (lo : Int)) with
        | some v =>
          obtain ⟨z, rfl, z7⟩ := s9.whole _ _ ev
          refine iteF ⟨kvs, rfl, hρ9, ⟨s9.off, let ⟨n', a, b, e⟩ := s9.pen; ⟨n', a, b, by omega⟩, s9.hw, s9.hk, s9.nw, s9.nk, s9.len, Nat.le_succ_of_le s9.few, s9.vals, s9.whole, s9.n77⟩, fun lo' l' => ?_⟩
          rw [l'.one low]
          exact ⟨z, ev, z7⟩
        | none =>
          obtain ⟨n', pn, b1, b2⟩ := s9.pen
          refine iteT ⟨_, rfl, _, rfl, _, _, rfl, rfl, ⟨by decide, by decide, by decide⟩, by show 6 ≤ sizeLine; decide, fun L hL => ?_⟩
          refine ⟨d, c, L, n', _, rfl, pn.upd hL, upd_same, by show 0 < 6; decide, by show 6 ≤ 1000; decide, by omega, by omega, fun x H10 hx dr => ?_⟩
          obtain ⟨z, rfl, z7⟩ : ∃ z, x = .int z ∧ z ≠ 77 := by
            rcases List.mem_cons.mp hx with rfl | hx
            · exact ⟨_, rfl, by decide +kernel⟩
            rcases List.mem_cons.mp hx with rfl | hx
            · exact ⟨_, rfl, by decide +kernel⟩
            rcases List.mem_cons.mp hx with rfl | hx
            · exact ⟨_, rfl, by decide +kernel⟩
            rcases List.mem_cons.mp hx with rfl | hx
            · exact ⟨_, rfl, by decide +kernel⟩
            rcases List.mem_cons.mp hx with rfl | hx
            · exact ⟨_, rfl, by decide +kernel⟩
            rcases List.mem_cons.mp hx with rfl | hx
            · exact ⟨_, rfl, by decide +kernel⟩
            · exact (List.not_mem_nil hx).elim
          have o10 : Off d H9 H10 := (Off.of (new_more hL)).trans (.dr dr)
          have hρ10 := o10 _ _ hρ9 ρd
          have hk10 := o10 _ _ s9.hk kd
          refine ⟨_, rfl, _, rfl, ρ, _, rfl, sqρ hρ10, ring0, fun mn2 hm2 al2 => ⟨k1, _, rfl, DPut.k (k := Sum.inl mn2) hk10 (small1000 (by have := s9.few; omega)), ?_⟩⟩
          obtain ⟨lo2, rfl, low2⟩ := least mn2 hm2 al2
          have : lo2 = lo := low2.one low
          subst this
          refine ⟨_, rfl, by rw [upd_ne ρk]; exact hρ10, ⟨(s9.off.trans o10).at nk1, ⟨_, dr.pen.updA kd kc, by omega, by omega⟩, by rw [upd_ne wk]; exact o10 _ _ s9.hw wd, upd_same, nw1, nk1, s9.len, ?_, ?_, ?_, s9.n77⟩, fun lo' l' => ?_⟩
          · have := putK_le kvs (Sum.inl (lo2 : Int)) (V.int z)
            have := s9.few
            omega
          · intro s hs lo' l'
            have v := s9.vals s hs lo' l'
            rw [valV_put, if_neg fun e => ?_]
            · exact v
            · rw [e, ev] at v
              cases v
          · intro q v hv
            rw [valV_put] at hv
            by_cases e : q = Sum.inl (lo2 : Int)
            · rw [if_pos e] at hv
              cases hv
              exact ⟨_, rfl, z7⟩
            · rw [if_neg e] at hv
              exact s9.whole _ _ hv
          · rw [l'.one low2]
            exact ⟨z, by rw [valV_put, if_pos rfl], z7⟩
      rintro σ6 H10 ⟨kvs', rfl, hρ10, s10, has⟩
      refine ⟨_, rfl, _, rfl, ρ, _, rfl, sqρ hρ10, ring0, fun mn hm al => ?_⟩
      obtain ⟨lo, rfl, low⟩ := least mn hm al
      obtain ⟨z, hz, z7⟩ := has lo low
      refine ⟨k1, .int z, rfl, dg (Sum.inl (lo : Int)) s10.hk hz, _, rfl, _, rfl, w1, _, i, i, rfl, rfl, s10.hw, Evl.ixN_nat (by rw [List.length_map, s10.len]; exact hi), ?_⟩
      obtain ⟨n', pn, b1, b2⟩ := s10.pen
      refine ⟨ws.set i z, kvs', _, _, _, _, _, rfl, ⟨s10.off.at nw1, ⟨n', pn.updA wd wc, b1, b2⟩, ?_, by rw [upd_ne wk.symm]; exact s10.hk, nw1, nk1, by rw [List.length_set]; exact s10.len, s10.few, ?_, s10.whole, fun x hx => (List.mem_or_eq_of_mem_set hx).elim (s10.n77 x) fun e => by rw [e]; exact z7⟩⟩
      · rw [upd_same, List.map_set]
      · intro s hs lo' l'
        by_cases e : s = i
        · subst e
          rw [l'.one low, hz, getD_of (List.getElem?_set_self (by rw [s10.len]; exact hi))]
        · rw [s10.vals s (by omega) lo' l', List.getD_eq_getElem?_getD, List.getD_eq_getElem?_getD, List.getElem?_set_ne (Ne.symm e)]
    rintro σ3 H6 ⟨ws, kvs, z4, z8, z9, z10, z11, rfl, s6⟩
    have s36 := s3.keep s6.off (n2 := n + 300 + mm) s6.pen
    have steady : stdy dss ws = true := by
      unfold stdy
      rw [List.all_eq_true]
      intro b hb
      obtain ⟨x, hx⟩ := List.getElem?_of_mem hb
      rw [List.getElem?_zipWith] at hx
      cases e1 : dss[x]? with
      | none => rw [e1] at hx; cases hx
      | some ds =>
        cases e2 : ws[x]? with
        | none => rw [e1, e2] at hx; cases hx
        | some w0 =>
          rw [e1, e2] at hx
          cases hx
          have lx : x < mm := by
            have := (List.getElem?_eq_some_iff.mp e2).1
            rw [s6.len] at this
            exact this
          obtain ⟨lo, low⟩ := Ring.Low.ex (zf dss) mm x
          have v1 := s6.vals x lx lo low
          have v2 := s6.vals (zf dss x) (fl x lx) lo (low.next fl lx)
          rw [v1] at v2
          have e3 := V.int.inj (Option.some.inj v2)
          rw [getD_of e2] at e3
          refine decide_eq_true ?_
          rw [e3]
          congr 1
          unfold zf
          rw [getD_of e1]
    have good : MGood p dss ws := ⟨pr, fun e => by have := s3.ld; rw [e, List.length_nil] at this; omega, fun ds hds => by
      obtain ⟨l, al⟩ := s3.ok ds hds
      exact ⟨by rw [l], fun x hx => by rw [s3.ld]; exact al x hx⟩, by rw [s6.len, s3.ld], by rw [s3.ld]; omega⟩
    have d6 : ∃ o, H6 d = some o := let ⟨_, pn, _⟩ := s6.pen; pn.at
    refine ⟨_, rfl, D, rfl, ⟨_, SqL.of s36.hD⟩, fun D2 hD2 => lc_rel (n := 13) (D := D2) (H1 := H6) (walk_list (xs := as.map V.ref)) (fun i v H' => ∃ ds, dss[i]? = some ds ∧ TupI K H' v ds) (fun i v H' H'' m ⟨ds, e, t⟩ => ⟨ds, e, t.more m⟩) hD2
      (fun H' m => Same.seq m (SqL.of s36.hD)) (by rw [List.length_map, s3.la]; omega) (fun _ => rfl) ?_ ?_⟩
    · intro i y H7 Q7 hy m7 m7' ⟨l0, hl0⟩ q7
      obtain ⟨a, ha, rfl⟩ := map_at hy
      obtain ⟨ds, hds, g⟩ := s36.rows i a ha
      refine ⟨_, rfl, a, ds.map V.int, rfl, .inl ⟨SqL.of (m7 _ _ g), fun l hl => q7 _ _ (new_more hl) ⟨ds, hds, l, rfl, SqT.of ?_⟩⟩⟩
      rw [del_ne (ne_of_none hl0 hl).symm, upd_same]
    · intro H7 G rs rl mG mH nG al hD7
      refine ⟨D2, rs, rfl, .inl ⟨SqL.of hD7, fun t1 ht1 => ?_⟩⟩
      have m8 : More H6 (upd H7 t1 (.tup rs)) := fun b o e => new_more ht1 _ _ (mH _ _ (mG _ _ e))
      refine ⟨_, rfl, w1, ws.map V.int, rfl, .inl ⟨SqL.of (m8 _ _ s6.hw), fun t2 ht2 => ⟨by show 2 ≤ sizeLine; decide, fun t ht => ?_⟩⟩⟩
      have m9 := new_more (o := .tup (ws.map V.int)) ht2
      have m10 := new_more (o := .tup [.ref t1, .ref t2]) ht
      have m11 : More H6 (upd (upd (upd H7 t1 (.tup rs)) t2 (.tup (ws.map V.int))) t (.tup [.ref t1, .ref t2])) := fun b o e => m10 _ _ (m9 _ _ (m8 _ _ e))
      obtain ⟨n', pn, b1, b2⟩ := s6.pen
      obtain ⟨o1, h1⟩ := pn.at
      obtain ⟨o2, h2⟩ := pn.atc
      refine q _ t t1 t2 rs dss ws n' upd_same (m10 _ _ (m9 _ _ upd_same)) (paired_of (by rw [rl, List.length_map, s3.la, s3.ld]) fun i x y hx hy => ?_) (m10 _ _ upd_same) good steady s6.n77 (by rw [s3.ld]; exact mm9)
        (pn.keep ((m11 _ _ h1).trans h1.symm) ((m11 _ _ h2).trans h2.symm)) b1 (by omega) ((s3.off.trans s6.off).trans (.of m11))
      obtain ⟨ds, e, ti⟩ := al i x hx
      rw [hy] at e
      cases e
      exact ti.more fun b o e => m10 _ _ (m9 _ _ (new_more ht1 _ _ (mH _ _ e)))
end
end K71

/-! Bfs: states met in order, named by what is met; two namings of the same give the same rows. -/
namespace B5
/-- the place of a name in a list -/
def ixOf {α : Type} [DecidableEq α] : List α → α → Option Nat
  | [], _ => none
  | x :: l, a => if x = a then some 0 else (ixOf l a).map (· + 1)
/-- one name more: its place, and the list with it -/
def note {α : Type} [DecidableEq α] (st : List α) (a : α) : List α × Nat :=
  match ixOf st a with
  | some i => (st, i)
  | none => (st ++ [a], st.length)
/-- a row of names in turn -/
def noteAll {α : Type} [DecidableEq α] : List α → List α → List α × List Nat
  | st, [] => (st, [])
  | st, a :: as => let q := note st a; let r := noteAll q.1 as; (r.1, q.2 :: r.2)
/-- the walk over all names that are met -/
def walkB {α : Type} [DecidableEq α] (lead : α → List α) : Nat → Nat → List α → List (List Nat) → List α × List (List Nat)
  | 0, _, st, rows => (st, rows)
  | k + 1, i, st, rows => match st[i]? with
    | none => (st, rows)
    | some a => let q := noteAll st (lead a); walkB lead k (i + 1) q.1 (rows ++ [q.2])
inductive Par {α β : Type} (R : α → β → Prop) : List α → List β → Prop
  | nil : Par R [] []
  | cons {a b l m} : R a b → Par R l m → Par R (a :: l) (b :: m)
theorem Par.len {α β : Type} {R : α → β → Prop} {l : List α} {m : List β} (h : Par R l m) : l.length = m.length := by
  induction h with
  | nil => rfl
  | cons _ _ ih => rw [List.length_cons, List.length_cons, ih]
theorem Par.app {α β : Type} {R : α → β → Prop} {l l' : List α} {m m' : List β} (h : Par R l m) (g : Par R l' m') : Par R (l ++ l') (m ++ m') := by
  induction h with
  | nil => exact g
  | cons r _ ih => exact .cons r ih
theorem Par.at {α β : Type} {R : α → β → Prop} {l : List α} {m : List β} (h : Par R l m) : ∀ (i : Nat), (l[i]? = none ∧ m[i]? = none) ∨ ∃ a b, l[i]? = some a ∧ m[i]? = some b ∧ R a b := by
  induction h with
  | nil => exact fun i => .inl ⟨by simp, by simp⟩
  | cons r _ ih =>
    intro i
    cases i with
    | zero => exact .inr ⟨_, _, rfl, rfl, r⟩
    | succ i => simpa using ih i
section
variable {α β : Type} [DecidableEq α] [DecidableEq β] {R : α → β → Prop}
/-- R names one to one -/
def One (R : α → β → Prop) : Prop := ∀ a b a' b', R a b → R a' b' → (a = a' ↔ b = b')
theorem ixOf_par (o : One R) {l : List α} {m : List β} (h : Par R l m) {a : α} {b : β} (r : R a b) : ixOf l a = ixOf m b := by
  induction h with
  | nil => rfl
  | @cons x y l m q _ ih =>
    unfold ixOf
    by_cases e : x = a
    · rw [if_pos e, if_pos ((o _ _ _ _ q r).mp e)]
    · rw [if_neg e, if_neg fun z => e ((o _ _ _ _ q r).mpr z), ih]
theorem note_par (o : One R) {l : List α} {m : List β} (h : Par R l m) {a : α} {b : β} (r : R a b) : Par R (note l a).1 (note m b).1 ∧ (note l a).2 = (note m b).2 := by
  unfold note
  rw [ixOf_par o h r]
  cases ixOf m b with
  | some i => exact ⟨h, rfl⟩
  | none => exact ⟨h.app (.cons r .nil), h.len⟩
theorem noteAll_par (o : One R) {as : List α} {bs : List β} (g : Par R as bs) : ∀ {l : List α} {m : List β}, Par R l m → Par R (noteAll l as).1 (noteAll m bs).1 ∧ (noteAll l as).2 = (noteAll m bs).2 := by
  induction g with
  | nil => exact fun h => ⟨h, rfl⟩
  | cons r _ ih =>
    intro l m h
    obtain ⟨h1, h2⟩ := note_par o h r
    obtain ⟨h3, h4⟩ := ih h1
    refine ⟨h3, ?_⟩
    show (note l _).2 :: (noteAll (note l _).1 _).2 = (note m _).2 :: (noteAll (note m _).1 _).2
    rw [h2, h4]
/-- two namings of the same give the same rows -/
theorem walkB_par (o : One R) {f : α → List α} {g : β → List β} (fg : ∀ a b, R a b → Par R (f a) (g b)) : ∀ (k i : Nat) {l : List α} {m : List β} (rows : List (List Nat)), Par R l m →
    Par R (walkB f k i l rows).1 (walkB g k i m rows).1 ∧ (walkB f k i l rows).2 = (walkB g k i m rows).2
  | 0, _, _, _, _, h => ⟨h, rfl⟩
  | k + 1, i, l, m, rows, h => by
    unfold walkB
    rcases h.at i with ⟨e1, e2⟩ | ⟨a, b, e1, e2, r⟩
    · rw [e1, e2]
      exact ⟨h, rfl⟩
    · rw [e1, e2]
      obtain ⟨h1, h2⟩ := noteAll_par o (fg a b r) h
      have := walkB_par o fg k (i + 1) (rows ++ [(noteAll l (f a)).2]) h1
      simp only []
      rw [h2] at this ⊢
      exact this
end
section
variable {α : Type} [DecidableEq α]
theorem ixOf_some {a : α} : ∀ {l : List α} {i : Nat}, ixOf l a = some i → l[i]? = some a
  | [], _, h => by cases h
  | x :: l, i, h => by
    unfold ixOf at h
    by_cases e : x = a
    · rw [if_pos e] at h
      cases h
      rw [e]
      rfl
    · rw [if_neg e] at h
      cases q : ixOf l a with
      | none => rw [q] at h; cases h
      | some j =>
        rw [q] at h
        cases h
        show l[j]? = some a
        exact ixOf_some q
theorem ixOf_none {a : α} : ∀ {l : List α}, ixOf l a = none → a ∉ l
  | [], _ => by simp
  | x :: l, h => by
    unfold ixOf at h
    by_cases e : x = a
    · rw [if_pos e] at h
      cases h
    · rw [if_neg e] at h
      cases q : ixOf l a with
      | none =>
        intro z
        rcases List.mem_cons.mp z with z | z
        · exact e z.symm
        · exact ixOf_none q z
      | some j => rw [q] at h; cases h
theorem ixOf_self {l : List α} (nd : l.Nodup) {i : Nat} {a : α} (h : l[i]? = some a) : ixOf l a = some i := by
  cases q : ixOf l a with
  | none => exact absurd (List.mem_of_getElem? h) (ixOf_none q)
  | some j =>
    have hj := ixOf_some q
    obtain ⟨h1, h2⟩ := List.getElem?_eq_some_iff.mp h
    obtain ⟨h3, h4⟩ := List.getElem?_eq_some_iff.mp hj
    rw [(List.getElem_inj nd).mp (h4.trans h2.symm)]
/-- what a list that grows keeps -/
theorem note_pre (st : List α) (a : α) : st <+: (note st a).1 := by
  unfold note
  cases ixOf st a with
  | some i => exact List.prefix_refl _
  | none => exact List.prefix_append _ _
theorem note_nd {st : List α} (nd : st.Nodup) (a : α) : (note st a).1.Nodup := by
  unfold note
  cases q : ixOf st a with
  | some i => exact nd
  | none =>
    show (st ++ [a]).Nodup
    rw [List.nodup_append]
    refine ⟨nd, by simp, fun x hx y hy e => ?_⟩
    have : y = a := by simpa using hy
    rw [e, this] at hx
    exact ixOf_none q hx
theorem note_at (st : List α) (a : α) : (note st a).1[(note st a).2]? = some a := by
  unfold note
  cases q : ixOf st a with
  | some i => exact ixOf_some q
  | none => show (st ++ [a])[st.length]? = some a; simp
theorem noteAll_pre : ∀ (as st : List α), st <+: (noteAll st as).1
  | [], st => List.prefix_refl _
  | a :: as, st => (note_pre st a).trans (noteAll_pre as _)
theorem noteAll_nd : ∀ (as : List α) {st : List α}, st.Nodup → (noteAll st as).1.Nodup
  | [], _, nd => nd
  | a :: as, _, nd => noteAll_nd as (note_nd nd a)
theorem pre_at {l m : List α} (h : l <+: m) {i : Nat} {a : α} (e : l[i]? = some a) : m[i]? = some a := by
  obtain ⟨t, rfl⟩ := h
  rw [List.getElem?_append_left (List.getElem?_eq_some_iff.mp e).1]
  exact e
/-- a row tells the places of its names -/
theorem noteAll_at : ∀ (as st : List α), (noteAll st as).2.length = as.length ∧ ∀ (j : Nat) (a : α) (i : Nat), as[j]? = some a → (noteAll st as).2[j]? = some i → (noteAll st as).1[i]? = some a
  | [], st => ⟨rfl, fun j a i h _ => by simp at h⟩
  | x :: as, st => by
    obtain ⟨h1, h2⟩ := noteAll_at as (note st x).1
    refine ⟨by show (_ :: _).length = _; rw [List.length_cons, List.length_cons, h1], fun j a i e1 e2 => ?_⟩
    cases j with
    | zero =>
      cases e1
      cases e2
      exact pre_at (noteAll_pre as _) (note_at st x)
    | succ j => exact h2 j a i e1 e2
/-- every name of a noted row is in the list -/
theorem note_mem (st : List α) (a : α) : ∀ x ∈ (note st a).1, x ∈ st ∨ x = a := by
  unfold note
  cases ixOf st a with
  | some i => exact fun x h => .inl h
  | none =>
    intro x h
    rcases List.mem_append.mp h with h | h
    · exact .inl h
    · exact .inr (by simpa using h)
theorem noteAll_mem : ∀ (as st : List α), ∀ x ∈ (noteAll st as).1, x ∈ st ∨ x ∈ as
  | [], _ => fun x h => .inl h
  | a :: as, st => fun x h => by
    rcases noteAll_mem as _ x h with h | h
    · rcases note_mem st a x h with h | h
      · exact .inl h
      · exact .inr (by rw [h]; exact .head _)
    · exact .inr (.tail _ h)
end
end B5

/-! Bfs2: the walk ends closed. -/
namespace B5
variable {α : Type} [DecidableEq α]
theorem ixOf_app {k : α} (x : α) : ∀ (l : List α), ixOf (l ++ [k]) x = match ixOf l x with
    | some t => some t
    | none => if k = x then some l.length else none
  | [] => by
    show (if k = x then some 0 else (ixOf [] x).map _) = if k = x then some 0 else none
    rfl
  | y :: l => by
    show (if y = x then some 0 else (ixOf (l ++ [k]) x).map (· + 1)) = match (if y = x then some 0 else (ixOf l x).map (· + 1)) with
      | some t => some t
      | none => if k = x then some (y :: l).length else none
    by_cases z : y = x
    · rw [if_pos z]
      rw [if_pos z]
    · rw [if_neg z, if_neg z, ixOf_app x l]
      cases ixOf l x with
      | some t => rfl
      | none =>
        by_cases q : k = x
        · simp [q]
        · simp [q]
/-- the rows tell where the names lead -/
def RowOk (lead : α → List α) (st : List α) (a : α) (row : List Nat) : Prop := row.length = (lead a).length ∧ ∀ (j : Nat) (b : α), (lead a)[j]? = some b → ∃ k, row[j]? = some k ∧ st[k]? = some b
theorem RowOk.pre {lead : α → List α} {st st' : List α} {a : α} {row : List Nat} (h : RowOk lead st a row) (p : st <+: st') : RowOk lead st' a row :=
  ⟨h.1, fun j b e => let ⟨k, e1, e2⟩ := h.2 j b e; ⟨k, e1, pre_at p e2⟩⟩
structure WalkI (lead : α → List α) (P : α → Prop) (st0 : List α) (i : Nat) (st : List α) (rows : List (List Nat)) : Prop where
  len : rows.length = i
  le : i ≤ st.length
  nd : st.Nodup
  all : ∀ x ∈ st, P x
  pre : st0 <+: st
  ok : ∀ (j : Nat) (a : α) (row : List Nat), j < i → st[j]? = some a → rows[j]? = some row → RowOk lead st a row
theorem WalkI.step {lead : α → List α} {P : α → Prop} (cl : ∀ a, P a → ∀ b ∈ lead a, P b) {st0 : List α} {i : Nat} {st : List α} {rows : List (List Nat)} (h : WalkI lead P st0 i st rows) {a : α} (e : st[i]? = some a) :
    WalkI lead P st0 (i + 1) (noteAll st (lead a)).1 (rows ++ [(noteAll st (lead a)).2]) := by
  have p := noteAll_pre (lead a) st
  have lt := (List.getElem?_eq_some_iff.mp e).1
  have pl := p.length_le
  refine ⟨by rw [List.length_append, h.len]; rfl, by omega, noteAll_nd _ h.nd, fun x hx => ?_, h.pre.trans p, fun j b row hj e1 e2 => ?_⟩
  · rcases noteAll_mem _ _ x hx with hx | hx
    · exact h.all x hx
    · exact cl a (h.all a (List.mem_of_getElem? e)) x hx
  · by_cases z : j < i
    · rw [List.getElem?_append_left (by rw [h.len]; exact z)] at e2
      obtain ⟨b', eb⟩ : ∃ b', st[j]? = some b' := ⟨st[j], List.getElem?_eq_getElem (by omega)⟩
      have := pre_at p eb
      rw [e1] at this
      cases this
      exact (h.ok j b row z eb e2).pre p
    · have ej : j = i := by omega
      subst ej
      have := pre_at p e
      rw [e1] at this
      cases this
      rw [List.getElem?_append_right (by rw [h.len]; exact Nat.le_refl _), h.len, Nat.sub_self] at e2
      cases e2
      obtain ⟨h1, h2⟩ := noteAll_at (lead a) st
      refine ⟨h1, fun t b' eb => ?_⟩
      have lt2 := (List.getElem?_eq_some_iff.mp eb).1
      have ek : (noteAll st (lead a)).2[t]? = some ((noteAll st (lead a)).2[t]'(by omega)) := List.getElem?_eq_getElem (by omega)
      exact ⟨_, ek, h2 t b' _ eb ek⟩
/-- with room enough the walk ends closed -/
theorem walkB_end {lead : α → List α} {P : α → Prop} (cl : ∀ a, P a → ∀ b ∈ lead a, P b) {N : Nat} (bnd : ∀ l : List α, l.Nodup → (∀ x ∈ l, P x) → l.length ≤ N) {st0 : List α} : ∀ (k i : Nat) {st : List α} {rows : List (List Nat)},
    WalkI lead P st0 i st rows → N < i + k → ∃ m, WalkI lead P st0 m (walkB lead k i st rows).1 (walkB lead k i st rows).2 ∧ m = (walkB lead k i st rows).1.length
  | 0, i, st, rows, h, hk => by
    have := bnd st h.nd h.all
    have := h.le
    omega
  | k + 1, i, st, rows, h, hk => by
    unfold walkB
    cases e : st[i]? with
    | none =>
      have := List.getElem?_eq_none_iff.mp e
      have := h.le
      exact ⟨i, h, by show i = st.length; omega⟩
    | some a => exact walkB_end cl bnd k (i + 1) (h.step cl e) (by omega)
/-- the walk from one name -/
def walkFrom (lead : α → List α) (N : Nat) (a : α) : List α × List (List Nat) := walkB lead (N + 1) 0 [a] []
theorem walkFrom_end {lead : α → List α} {P : α → Prop} (cl : ∀ a, P a → ∀ b ∈ lead a, P b) {N : Nat} (bnd : ∀ l : List α, l.Nodup → (∀ x ∈ l, P x) → l.length ≤ N) {a : α} (ha : P a) :
    WalkI lead P [a] (walkFrom lead N a).1.length (walkFrom lead N a).1 (walkFrom lead N a).2 := by
  obtain ⟨m, h, e⟩ := walkB_end (st0 := [a]) cl bnd (N + 1) 0 (st := [a]) (rows := []) ⟨rfl, Nat.zero_le _, by simp, fun x hx => by
    have : x = a := by simpa using hx
    rw [this]; exact ha, List.prefix_refl _, fun j _ _ hj => by omega⟩ (by omega)
  rw [e] at h
  exact h
/-- names below n, each once: at most n -/
theorem nodup_below : ∀ (n : Nat) (l : List Nat), l.Nodup → (∀ x ∈ l, x < n) → l.length ≤ n
  | 0, l, _, h => by
    cases l with
    | nil => exact Nat.le_refl _
    | cons x l => exact absurd (h x (.head _)) (Nat.not_lt_zero x)
  | n + 1, l, nd, h => by
    have ih := nodup_below n (l.erase n) (nd.erase n) fun x hx => by
      have h1 := h x (List.mem_of_mem_erase hx)
      have : x ≠ n := fun e => by
        rw [e] at hx
        exact (nd.not_mem_erase) hx
      omega
    have := List.length_erase_of_mem (a := n) (l := l)
    by_cases z : n ∈ l
    · have := this z
      omega
    · have e := List.erase_of_not_mem (a := n) (l := l) z
      rw [e] at ih
      omega
/-- more room changes nothing once the walk has ended -/
theorem walkB_more {lead : α → List α} : ∀ (k i : Nat) (st : List α) (rows : List (List Nat)), (walkB lead k i st rows).1.length < i + k → ∀ k', k ≤ k' → walkB lead k' i st rows = walkB lead k i st rows
  | 0, i, st, rows, h, k', _ => by
    have h : st.length < i + 0 := h
    cases k' with
    | zero => rfl
    | succ k' =>
      unfold walkB
      rw [List.getElem?_eq_none (by omega)]
  | k + 1, i, st, rows, h, k', hk => by
    obtain ⟨k', rfl⟩ : ∃ j, k' = j + 1 := ⟨k' - 1, by omega⟩
    unfold walkB at h ⊢
    cases e : st[i]? with
    | none => rfl
    | some a =>
      rw [e] at h
      exact walkB_more k (i + 1) _ _ (by simp only [] at h; omega) k' (by omega)
end B5

/-! Moore: the coarsest partition of states that a step keeps and that tells the worths. -/
namespace B5
/-- the first of its class -/
def Rep (c : Nat → Nat) (s : Nat) : Prop := ∀ t, t < s → c t ≠ c s
instance (c : Nat → Nat) (s : Nat) : Decidable (Rep c s) := inferInstanceAs (Decidable (∀ t, t < s → c t ≠ c s))
/-- how many classes there are among the first n -/
def cnt (c : Nat → Nat) (n : Nat) : Nat := (List.range n).countP fun s => decide (Rep c s)
/-- c' tells apart what c tells apart, among the first n -/
def Fin1 (c' c : Nat → Nat) (n : Nat) : Prop := ∀ s t, s < n → t < n → c' s = c' t → c s = c t
def Same1 (c' c : Nat → Nat) (n : Nat) : Prop := ∀ s t, s < n → t < n → (c' s = c' t ↔ c s = c t)
theorem Rep.fin {c' c : Nat → Nat} {n s : Nat} (f : Fin1 c' c n) (h : s < n) (r : Rep c s) : Rep c' s := fun t lt e => r t lt (f t s (by omega) h e)
theorem countP_le {α : Type} {p q : α → Bool} : ∀ {l : List α}, (∀ x ∈ l, p x = true → q x = true) → l.countP p ≤ l.countP q
  | [], _ => Nat.le_refl _
  | x :: l, h => by
    have ih := countP_le (l := l) fun y hy => h y (.tail _ hy)
    have hx := h x (.head _)
    rw [List.countP_cons, List.countP_cons]
    cases e : p x with
    | true => rw [hx e]; omega
    | false => cases q x <;> simp <;> omega
theorem countP_eq {α : Type} {p q : α → Bool} : ∀ {l : List α}, (∀ x ∈ l, p x = true → q x = true) → l.countP q ≤ l.countP p → ∀ x ∈ l, q x = true → p x = true
  | [], _, _, x, hx, _ => nomatch hx
  | x :: l, h, le, y, hy, qy => by
    have h' := fun y hy => h y (.tail _ hy)
    have l1 := countP_le (l := l) h'
    have hx := h x (.head _)
    rw [List.countP_cons, List.countP_cons] at le
    cases e : p x with
    | true =>
      rw [e, hx e] at le
      rcases List.mem_cons.mp hy with rfl | hy
      · exact e
      · exact countP_eq (l := l) h' (by simpa using le) y hy qy
    | false =>
      cases e2 : q x with
      | true => rw [e, e2] at le; simp at le; omega
      | false =>
        rw [e, e2] at le
        rcases List.mem_cons.mp hy with rfl | hy
        · rw [e2] at qy; cases qy
        · exact countP_eq (l := l) h' (by simpa using le) y hy qy
theorem cnt_le {c' c : Nat → Nat} {n : Nat} (f : Fin1 c' c n) : cnt c n ≤ cnt c' n := countP_le fun s hs h => decide_eq_true (Rep.fin f (List.mem_range.mp hs) (of_decide_eq_true h))
theorem cnt_max (c : Nat → Nat) (n : Nat) : cnt c n ≤ n := by
  have := List.countP_le_length (p := fun s => decide (Rep c s)) (l := List.range n)
  rw [List.length_range] at this
  exact this
theorem cnt_pos (c : Nat → Nat) {n : Nat} (h : 0 < n) : 0 < cnt c n := List.countP_pos_iff.mpr ⟨0, List.mem_range.mpr h, decide_eq_true fun t lt => absurd lt (Nat.not_lt_zero t)⟩
/-- every state has a first of its class -/
theorem rep_of (c : Nat → Nat) : ∀ (k s : Nat), s ≤ k → ∃ r, r ≤ s ∧ Rep c r ∧ c r = c s
  | 0, s, h => ⟨s, Nat.le_refl _, fun t lt => by omega, rfl⟩
  | k + 1, s, h => by
    by_cases z : Rep c s
    · exact ⟨s, Nat.le_refl _, z, rfl⟩
    · have : ∃ t, t < s ∧ c t = c s := by
        refine Classical.byContradiction fun q => z fun t lt e => q ⟨t, lt, e⟩
      obtain ⟨t, lt, e⟩ := this
      obtain ⟨r, h1, h2, h3⟩ := rep_of c k t (by omega)
      exact ⟨r, by omega, h2, h3.trans e⟩
theorem rep_one' {c : Nat → Nat} {s t : Nat} (a : Rep c s) (b : Rep c t) (e : c s = c t) : s = t := by
  rcases Nat.lt_trichotomy s t with h | h | h
  · exact absurd e (b s h)
  · exact h
  · exact absurd e.symm (a t h)
/-- as many classes: the same partition -/
theorem same_of_cnt {c' c : Nat → Nat} {n : Nat} (f : Fin1 c' c n) (h : cnt c' n ≤ cnt c n) : Same1 c' c n := fun s t hs ht => by
  refine ⟨f s t hs ht, fun e => ?_⟩
  have all := countP_eq (p := fun s => decide (Rep c s)) (q := fun s => decide (Rep c' s)) (l := List.range n) (fun s hs h => decide_eq_true (Rep.fin f (List.mem_range.mp hs) (of_decide_eq_true h))) h
  have back : ∀ r, r < n → Rep c' r → Rep c r := fun r hr h => of_decide_eq_true (all r (List.mem_range.mpr hr) (decide_eq_true h))
  obtain ⟨s0, l1, r1, e1⟩ := rep_of c' s s (Nat.le_refl _)
  obtain ⟨t0, l2, r2, e2⟩ := rep_of c' t t (Nat.le_refl _)
  have k1 := f s0 s (by omega) hs e1
  have k2 := f t0 t (by omega) ht e2
  have := rep_one' (back s0 (by omega) r1) (back t0 (by omega) r2) (k1.trans (e.trans k2.symm))
  rw [← e1, ← e2, this]
theorem Same1.symm {c' c : Nat → Nat} {n : Nat} (h : Same1 c' c n) : Same1 c c' n := fun s t hs ht => (h s t hs ht).symm
theorem Same1.trans {a b c : Nat → Nat} {n : Nat} (x : Same1 a b n) (y : Same1 b c n) : Same1 a c n := fun s t hs ht => (x s t hs ht).trans (y s t hs ht)
/-! ### steps and words -/
section
variable {n p : Nat} {step : Nat → Nat → Nat} {val : Nat → Int}
def runW (step : Nat → Nat → Nat) (s : Nat) (w : List Nat) : Nat := w.foldl step s
/-- no word tells s from t -/
def Alike1 (p : Nat) (step : Nat → Nat → Nat) (val : Nat → Int) (s t : Nat) : Prop := ∀ w : List Nat, (∀ d ∈ w, d < p) → val (runW step s w) = val (runW step t w)
theorem Alike1.next {s t d : Nat} (h : Alike1 p step val s t) (hd : d < p) : Alike1 p step val (step s d) (step t d) := fun w hw => h (d :: w) fun e he => by
  rcases List.mem_cons.mp he with rfl | he
  · exact hd
  · exact hw e he
theorem Alike1.now {s t : Nat} (h : Alike1 p step val s t) : val s = val t := h [] fun _ h => nomatch h
/-- a partition that steps keep and that tells the worths -/
structure Stab (n p : Nat) (step : Nat → Nat → Nat) (val : Nat → Int) (c : Nat → Nat) : Prop where
  keep : ∀ s t, s < n → t < n → c s = c t → ∀ d, d < p → c (step s d) = c (step t d)
  tell : ∀ s t, s < n → t < n → c s = c t → val s = val t
/-- a partition that tells no more than words do -/
def Coarse (n p : Nat) (step : Nat → Nat → Nat) (val : Nat → Int) (c : Nat → Nat) : Prop := ∀ s t, s < n → t < n → Alike1 p step val s t → c s = c t
theorem Stab.alike {c : Nat → Nat} (cl : ∀ s d, s < n → d < p → step s d < n) (h : Stab n p step val c) : ∀ (w : List Nat) (s t : Nat), s < n → t < n → c s = c t → (∀ d ∈ w, d < p) → val (runW step s w) = val (runW step t w)
  | [], s, t, hs, ht, e, _ => h.tell s t hs ht e
  | d :: w, s, t, hs, ht, e, hw => Stab.alike cl h w _ _ (cl s d hs (hw d (.head _))) (cl t d ht (hw d (.head _))) (h.keep s t hs ht e d (hw d (.head _))) fun x hx => hw x (.tail _ hx)
/-- such a partition is that of the words -/
theorem moore {c : Nat → Nat} (cl : ∀ s d, s < n → d < p → step s d < n) (h : Stab n p step val c) (k : Coarse n p step val c) {s t : Nat} (hs : s < n) (ht : t < n) : c s = c t ↔ Alike1 p step val s t :=
  ⟨fun e w hw => Stab.alike cl h w s t hs ht e hw, k s t hs ht⟩
/-- one lap: what stands together and leads together stands together -/
def Lap (n p : Nat) (step : Nat → Nat → Nat) (c c' : Nat → Nat) : Prop := ∀ s t, s < n → t < n → (c' s = c' t ↔ c s = c t ∧ ∀ d, d < p → c (step s d) = c (step t d))
theorem Lap.fin {c c' : Nat → Nat} (l : Lap n p step c c') : Fin1 c' c n := fun s t hs ht e => ((l s t hs ht).mp e).1
theorem Lap.coarse {c c' : Nat → Nat} (cl : ∀ s d, s < n → d < p → step s d < n) (l : Lap n p step c c') (k : Coarse n p step val c) : Coarse n p step val c' := fun s t hs ht a =>
  (l s t hs ht).mpr ⟨k s t hs ht a, fun d hd => k _ _ (cl s d hs hd) (cl t d ht hd) (a.next hd)⟩
/-- n laps behind a partition that tells the worths it is stable -/
theorem laps_stab (cl : ∀ s d, s < n → d < p → step s d < n) (n0 : 0 < n) (c : Nat → Nat → Nat) (tell : ∀ s t, s < n → t < n → c 0 s = c 0 t → val s = val t) {m : Nat} (hm : n ≤ m) (laps : ∀ k, k < m → Lap n p step (c k) (c (k + 1))) : Stab n p step val (c m) := by
  have tells : ∀ k, k ≤ m → ∀ s t, s < n → t < n → c k s = c k t → val s = val t := by
    intro k
    induction k with
    | zero => exact fun _ => tell
    | succ k ih => exact fun hk s t hs ht e => ih (by omega) s t hs ht ((laps k (by omega)).fin s t hs ht e)
  -- a lap that tells no more
  have still : ∃ k, k < n ∧ cnt (c (k + 1)) n ≤ cnt (c k) n := by
    refine Classical.byContradiction fun q => ?_
    have grow : ∀ k, k ≤ n → k + 1 ≤ cnt (c k) n := by
      intro k
      induction k with
      | zero => exact fun _ => cnt_pos _ n0
      | succ k ih =>
        intro hk
        have h1 := ih (by omega)
        have h2 : ¬ cnt (c (k + 1)) n ≤ cnt (c k) n := fun z => q ⟨k, by omega, z⟩
        omega
    have := grow n (Nat.le_refl _)
    have := cnt_max (c n) n
    omega
  obtain ⟨k, hk, le⟩ := still
  have s0 := same_of_cnt (laps k (by omega)).fin le
  -- from there on each lap is the same
  have on : ∀ j, k + j ≤ m → Same1 (c (k + j)) (c k) n := by
    intro j
    induction j with
    | zero => exact fun _ s t _ _ => Iff.rfl
    | succ j ih =>
      intro hj
      have h1 := ih (by omega)
      intro s t hs ht
      refine (laps (k + j) (by omega) s t hs ht).trans ?_
      rw [h1 s t hs ht]
      refine ⟨fun h => h.1, fun e => ⟨e, fun d hd => ?_⟩⟩
      rw [h1 _ _ (cl s d hs hd) (cl t d ht hd)]
      exact (((laps k (by omega)) s t hs ht).mp ((s0 s t hs ht).mpr e)).2 d hd
  have e := on (m - k) (by omega)
  rw [show k + (m - k) = m by omega] at e
  refine ⟨fun s t hs ht q d hd => ?_, tells m (Nat.le_refl _)⟩
  rw [e _ _ (cl s d hs hd) (cl t d ht hd)]
  exact (((laps k (by omega)) s t hs ht).mp ((s0 s t hs ht).mpr ((e s t hs ht).mp q))).2 d hd
/-- one column: what stands together and is led by it together stands together -/
def Col (n : Nat) (f : Nat → Nat) (c c' : Nat → Nat) : Prop := ∀ s t, s < n → t < n → (c' s = c' t ↔ c s = c t ∧ c (f s) = c (f t))
theorem Col.fin {f c c' : Nat → Nat} (l : Col n f c c') : Fin1 c' c n := fun s t hs ht e => ((l s t hs ht).mp e).1
/-- a column that adds no class is kept -/
theorem Col.still {f c c' : Nat → Nat} (l : Col n f c c') (h : cnt c' n ≤ cnt c n) : Same1 c' c n ∧ ∀ s t, s < n → t < n → c s = c t → c (f s) = c (f t) := by
  have e := same_of_cnt l.fin h
  exact ⟨e, fun s t hs ht q => ((l s t hs ht).mp ((e s t hs ht).mpr q)).2⟩
end
end B5

/-! Least: the states that are met, the classes among them, and the classes at once: the same least machine. -/
namespace B5
def tab (rows : List (List Nat)) (i d : Nat) : Nat := (rows.getD i []).getD d 0
def leadS (p : Nat) (step : Nat → Nat → Nat) (s : Nat) : List Nat := (List.range p).map (step s)
theorem leadS_at {p : Nat} {step : Nat → Nat → Nat} {s d : Nat} (h : d < p) : (leadS p step s)[d]? = some (step s d) := by
  unfold leadS
  rw [List.getElem?_map, List.getElem?_range h]
  rfl
theorem leadS_len {p : Nat} {step : Nat → Nat → Nat} {s : Nat} : (leadS p step s).length = p := by
  unfold leadS
  rw [List.length_map, List.length_range]
theorem leadS_mem {p : Nat} {step : Nat → Nat → Nat} {s b : Nat} (h : b ∈ leadS p step s) : ∃ d, d < p ∧ b = step s d := by
  unfold leadS at h
  obtain ⟨d, hd, e⟩ := List.mem_map.mp h
  exact ⟨d, List.mem_range.mp hd, e.symm⟩
/-- what is met, and where it leads -/
structure MetI (n p : Nat) (step : Nat → Nat → Nat) (s0 : Nat) (met : List Nat) (rows : List (List Nat)) : Prop where
  len : rows.length = met.length
  first : met[0]? = some s0
  nd : met.Nodup
  all : ∀ s ∈ met, s < n
  row : ∀ (i : Nat) (r : List Nat), rows[i]? = some r → r.length = p
  led : ∀ (i s d : Nat), met[i]? = some s → d < p → tab rows i d < met.length ∧ met[tab rows i d]? = some (step s d)
theorem met_of {n p N : Nat} {step : Nat → Nat → Nat} (cl : ∀ s d, s < n → d < p → step s d < n) {s0 : Nat} (h0 : s0 < n) (hN : n ≤ N) :
    MetI n p step s0 (walkFrom (leadS p step) N s0).1 (walkFrom (leadS p step) N s0).2 := by
  have h := walkFrom_end (lead := leadS p step) (P := fun s => s < n) (fun a ha b hb => by
    obtain ⟨d, hd, rfl⟩ := leadS_mem hb
    exact cl a d ha hd) (N := N) (fun l nd al => Nat.le_trans (nodup_below n l nd al) hN) h0
  generalize walkFrom (leadS p step) N s0 = W at h ⊢
  refine ⟨h.len, pre_at h.pre rfl, h.nd, h.all, fun i r e => ?_, fun i s d e hd => ?_⟩
  · have lt := (List.getElem?_eq_some_iff.mp e).1
    rw [h.len] at lt
    have := (h.ok i _ r lt (List.getElem?_eq_getElem lt) e).1
    rw [this, leadS_len]
  · have lt := (List.getElem?_eq_some_iff.mp e).1
    have er : W.2[i]? = some (W.2[i]'(by rw [h.len]; exact lt)) := List.getElem?_eq_getElem (by rw [h.len]; exact lt)
    obtain ⟨k, e1, e2⟩ := (h.ok i s _ lt e er).2 d _ (leadS_at hd)
    have ek : tab W.2 i d = k := by
      have e0 : W.2.getD i [] = W.2[i]'(by rw [h.len]; exact lt) := by
        rw [List.getD_eq_getElem?_getD, er]
        rfl
      unfold tab
      rw [e0, List.getD_eq_getElem?_getD, e1]
      rfl
    rw [ek]
    exact ⟨(List.getElem?_eq_some_iff.mp e2).1, e2⟩
section
variable {n p : Nat} {step : Nat → Nat → Nat} {val : Nat → Int} {s0 : Nat} {met : List Nat} {rows : List (List Nat)}
/-- words lead alike on both sides -/
theorem MetI.run (M : MetI n p step s0 met rows) : ∀ (w : List Nat) (i s : Nat), met[i]? = some s → (∀ d ∈ w, d < p) → met[runW (tab rows) i w]? = some (runW step s w)
  | [], i, s, e, _ => e
  | d :: w, i, s, e, hw => MetI.run M w _ _ (M.led i s d e (hw d (.head _))).2 fun x hx => hw x (.tail _ hx)
theorem MetI.alike (M : MetI n p step s0 met rows) {i j s t : Nat} (hi : met[i]? = some s) (hj : met[j]? = some t) :
    Alike1 p (tab rows) (fun i => val (met.getD i 0)) i j ↔ Alike1 p step val s t := by
  have key : ∀ w : List Nat, (∀ d ∈ w, d < p) → ∀ (i s : Nat), met[i]? = some s → val (met.getD (runW (tab rows) i w) 0) = val (runW step s w) := fun w hw i s e => by
    rw [List.getD_eq_getElem?_getD, M.run w i s e hw]
    rfl
  refine ⟨fun h w hw => ?_, fun h w hw => ?_⟩
  · have := h w hw
    simp only [key w hw i s hi, key w hw j t hj] at this
    exact this
  · show val _ = val _
    rw [key w hw i s hi, key w hw j t hj]
    exact h w hw
/-- the classes at once, and the classes among what is met: the same rows, the same worths -/
theorem least_same (cl : ∀ s d, s < n → d < p → step s d < n) (M : MetI n p step s0 met rows) {c c' rp rp' : Nat → Nat}
    (S : Stab n p step val c) (k : Coarse n p step val c) (S' : Stab met.length p (tab rows) (fun i => val (met.getD i 0)) c') (k' : Coarse met.length p (tab rows) (fun i => val (met.getD i 0)) c')
    (hr : ∀ s, s < n → rp (c s) < n ∧ c (rp (c s)) = c s) (hr' : ∀ i, i < met.length → rp' (c' i) < met.length ∧ c' (rp' (c' i)) = c' i) (N : Nat) :
    (walkFrom (fun a => (leadS p step (rp a)).map c) N (c s0)).2 = (walkFrom (fun b => (leadS p (tab rows) (rp' b)).map c') N (c' 0)).2 ∧
    ((walkFrom (fun a => (leadS p step (rp a)).map c) N (c s0)).1.map fun a => val (rp a)) = ((walkFrom (fun b => (leadS p (tab rows) (rp' b)).map c') N (c' 0)).1.map fun b => val (met.getD (rp' b) 0)) := by
  have cl' : ∀ i d, i < met.length → d < p → tab rows i d < met.length := fun i d hi hd => (M.led i _ d (List.getElem?_eq_getElem hi) hd).1
  have o : One (fun a b => ∃ i s, met[i]? = some s ∧ a = c s ∧ b = c' i) := by
    rintro a b a' b' ⟨i, s, hi, rfl, rfl⟩ ⟨j, t, hj, rfl, rfl⟩
    rw [moore cl S k (M.all s (List.mem_of_getElem? hi)) (M.all t (List.mem_of_getElem? hj)), moore cl' S' k' (List.getElem?_eq_some_iff.mp hi).1 (List.getElem?_eq_some_iff.mp hj).1]
    exact (M.alike hi hj).symm
  have fg : ∀ a b, (∃ i s, met[i]? = some s ∧ a = c s ∧ b = c' i) → Par (fun a b => ∃ i s, met[i]? = some s ∧ a = c s ∧ b = c' i) ((leadS p step (rp a)).map c) ((leadS p (tab rows) (rp' b)).map c') := by
    rintro a b ⟨i, s, hi, rfl, rfl⟩
    have hs := M.all s (List.mem_of_getElem? hi)
    have li := (List.getElem?_eq_some_iff.mp hi).1
    obtain ⟨r1, r2⟩ := hr s hs
    obtain ⟨q1, q2⟩ := hr' i li
    unfold leadS
    have go : ∀ l : List Nat, (∀ d ∈ l, d < p) → Par (fun a b => ∃ i s, met[i]? = some s ∧ a = c s ∧ b = c' i) ((l.map (step (rp (c s)))).map c) ((l.map (tab rows (rp' (c' i)))).map c') := by
      intro l
      induction l with
      | nil => exact fun _ => .nil
      | cons d l ih =>
        intro hl
        have hd := hl d (.head _)
        refine .cons ⟨tab rows i d, step s d, (M.led i s d hi hd).2, S.keep _ _ r1 hs r2 d hd, S'.keep _ _ q1 li q2 d hd⟩ (ih fun x hx => hl x (.tail _ hx))
    exact go _ fun d hd => List.mem_range.mp hd
  have l0 : Par (fun a b => ∃ i s, met[i]? = some s ∧ a = c s ∧ b = c' i) [c s0] [c' 0] := .cons ⟨0, s0, M.first, rfl, rfl⟩ .nil
  obtain ⟨h1, h2⟩ := walkB_par o fg (N + 1) 0 [] l0
  refine ⟨h2, ?_⟩
  have vals : ∀ {l : List Nat} {m : List Nat}, Par (fun a b => ∃ i s, met[i]? = some s ∧ a = c s ∧ b = c' i) l m → (l.map fun a => val (rp a)) = m.map fun b => val (met.getD (rp' b) 0) := by
    intro l m h
    induction h with
    | nil => rfl
    | cons r _ ih =>
      obtain ⟨i, s, hi, rfl, rfl⟩ := r
      have hs := M.all s (List.mem_of_getElem? hi)
      have li := (List.getElem?_eq_some_iff.mp hi).1
      obtain ⟨r1, r2⟩ := hr s hs
      obtain ⟨q1, q2⟩ := hr' i li
      rw [List.map_cons, List.map_cons, ih, S.tell _ _ r1 hs r2]
      have this : val (met.getD (rp' (c' i)) 0) = val (met.getD i 0) := S'.tell _ _ q1 li q2
      rw [this, List.getD_eq_getElem?_getD, hi]
      rfl
  exact vals h1
end
end B5

/-! Least2: two machines that tell the same of every word have the same least machine. -/
namespace B5
section
variable {n n' p : Nat} {step step' : Nat → Nat → Nat} {val val' : Nat → Int}
/-- every word tells the same from here and from there -/
def Across (p : Nat) (step : Nat → Nat → Nat) (val : Nat → Int) (step' : Nat → Nat → Nat) (val' : Nat → Int) (s t : Nat) : Prop := ∀ w : List Nat, (∀ d ∈ w, d < p) → val (runW step s w) = val' (runW step' t w)
theorem Across.next {s t d : Nat} (h : Across p step val step' val' s t) (hd : d < p) : Across p step val step' val' (step s d) (step' t d) := fun w hw => h (d :: w) fun e he => by
  rcases List.mem_cons.mp he with rfl | he
  · exact hd
  · exact hw e he
theorem Across.now {s t : Nat} (h : Across p step val step' val' s t) : val s = val' t := h [] fun _ h => nomatch h
theorem Across.alike {s t s' t' : Nat} (h : Across p step val step' val' s t) (h' : Across p step val step' val' s' t') : Alike1 p step val s s' ↔ Alike1 p step' val' t t' :=
  ⟨fun a w hw => by rw [← h w hw, ← h' w hw]; exact a w hw, fun a w hw => by rw [h w hw, h' w hw]; exact a w hw⟩
theorem least_cross (cl : ∀ s d, s < n → d < p → step s d < n) (cl' : ∀ s d, s < n' → d < p → step' s d < n') {c c' rp rp' : Nat → Nat}
    (S : Stab n p step val c) (k : Coarse n p step val c) (S' : Stab n' p step' val' c') (k' : Coarse n' p step' val' c')
    (hr : ∀ s, s < n → rp (c s) < n ∧ c (rp (c s)) = c s) (hr' : ∀ i, i < n' → rp' (c' i) < n' ∧ c' (rp' (c' i)) = c' i) {s0 t0 : Nat} (h0 : s0 < n) (h0' : t0 < n') (x : Across p step val step' val' s0 t0) (N : Nat) :
    (walkFrom (fun a => (leadS p step (rp a)).map c) N (c s0)).2 = (walkFrom (fun b => (leadS p step' (rp' b)).map c') N (c' t0)).2 ∧
    ((walkFrom (fun a => (leadS p step (rp a)).map c) N (c s0)).1.map fun a => val (rp a)) = ((walkFrom (fun b => (leadS p step' (rp' b)).map c') N (c' t0)).1.map fun b => val' (rp' b)) := by
  have o : One (fun a b => ∃ s t, s < n ∧ t < n' ∧ Across p step val step' val' s t ∧ a = c s ∧ b = c' t) := by
    rintro a b a' b' ⟨s, t, hs, ht, xx, rfl, rfl⟩ ⟨s', t', hs', ht', yy, rfl, rfl⟩
    rw [moore cl S k hs hs', moore cl' S' k' ht ht']
    exact xx.alike yy
  have fg : ∀ a b, (∃ s t, s < n ∧ t < n' ∧ Across p step val step' val' s t ∧ a = c s ∧ b = c' t) → Par (fun a b => ∃ s t, s < n ∧ t < n' ∧ Across p step val step' val' s t ∧ a = c s ∧ b = c' t) ((leadS p step (rp a)).map c) ((leadS p step' (rp' b)).map c') := by
    rintro a b ⟨s, t, hs, ht, xx, rfl, rfl⟩
    obtain ⟨r1, r2⟩ := hr s hs
    obtain ⟨q1, q2⟩ := hr' t ht
    unfold leadS
    have go : ∀ l : List Nat, (∀ d ∈ l, d < p) → Par (fun a b => ∃ s t, s < n ∧ t < n' ∧ Across p step val step' val' s t ∧ a = c s ∧ b = c' t) ((l.map (step (rp (c s)))).map c) ((l.map (step' (rp' (c' t)))).map c') := by
      intro l
      induction l with
      | nil => exact fun _ => .nil
      | cons d l ih =>
        intro hl
        have hd := hl d (.head _)
        exact .cons ⟨step s d, step' t d, cl s d hs hd, cl' t d ht hd, xx.next hd, S.keep _ _ r1 hs r2 d hd, S'.keep _ _ q1 ht q2 d hd⟩ (ih fun x hx => hl x (.tail _ hx))
    exact go _ fun d hd => List.mem_range.mp hd
  obtain ⟨h1, h2⟩ := walkB_par o fg (N + 1) 0 [] (.cons ⟨s0, t0, h0, h0', x, rfl, rfl⟩ .nil)
  refine ⟨h2, ?_⟩
  have vals : ∀ {l : List Nat} {m : List Nat}, Par (fun a b => ∃ s t, s < n ∧ t < n' ∧ Across p step val step' val' s t ∧ a = c s ∧ b = c' t) l m → (l.map fun a => val (rp a)) = m.map fun b => val' (rp' b) := by
    intro l m h
    induction h with
    | nil => rfl
    | cons r _ ih =>
      obtain ⟨s, t, hs, ht, xx, rfl, rfl⟩ := r
      obtain ⟨r1, r2⟩ := hr s hs
      obtain ⟨q1, q2⟩ := hr' t ht
      rw [List.map_cons, List.map_cons, ih, S.tell _ _ r1 hs r2, S'.tell _ _ q1 ht q2, xx.now]
  exact vals h1
/-- a map of states that leads alike and keeps the worths -/
theorem across_map {f : Nat → Nat} (P : Nat → Prop) (ls : ∀ s d, P s → d < p → P (step s d) ∧ step' (f s) d = f (step s d)) (lv : ∀ s, P s → val s = val' (f s)) : ∀ (w : List Nat) (s : Nat), P s → (∀ d ∈ w, d < p) → val (runW step s w) = val' (runW step' (f s) w)
  | [], s, h, _ => lv s h
  | d :: w, s, h, hw => by
    have hd := hw d (.head _)
    have := across_map P ls lv w (step s d) (ls s d h hd).1 fun x hx => hw x (.tail _ hx)
    show val (runW step (step s d) w) = val' (runW step' (step' (f s) d) w)
    rw [(ls s d h hd).2]
    exact this
/-- the least machine tells of every word what the machine told -/
theorem least_across (cl : ∀ s d, s < n → d < p → step s d < n) {c rp : Nat → Nat} (S : Stab n p step val c) (hr : ∀ s, s < n → rp (c s) < n ∧ c (rp (c s)) = c s) {s0 N : Nat} (h0 : s0 < n) {met : List Nat} {rows : List (List Nat)}
    (W : ∀ (i a d : Nat), met[i]? = some a → d < p → met[tab rows i d]? = some (c (step (rp a) d))) (all : ∀ a ∈ met, ∃ s, s < n ∧ a = c s) (first : met[0]? = some (c s0)) :
    Across p step val (tab rows) (fun i => val (rp (met.getD i 0))) s0 0 := by
  have key : ∀ (w : List Nat) (s i : Nat), s < n → met[i]? = some (c s) → (∀ d ∈ w, d < p) → val (runW step s w) = val (rp (met.getD (runW (tab rows) i w) 0)) := by
    intro w
    induction w with
    | nil =>
      intro s i hs hi _
      show val s = val (rp (met.getD i 0))
      rw [List.getD_eq_getElem?_getD, hi]
      exact (S.tell _ _ (hr s hs).1 hs (hr s hs).2).symm
    | cons d w ih =>
      intro s i hs hi hw
      have hd := hw d (.head _)
      refine ih (step s d) (tab rows i d) (cl s d hs hd) ?_ fun x hx => hw x (.tail _ hx)
      rw [W i _ d hi hd, S.keep _ _ (hr s hs).1 hs (hr s hs).2 d hd]
  exact fun w hw => key w s0 0 h0 first hw
end
end B5

/-! Nums: keys numbered in the order in which they are met. -/
namespace B5
variable {α : Type} [DecidableEq α]
theorem noteAll_snoc (a : α) : ∀ (as st : List α), noteAll st (as ++ [a]) = ((note (noteAll st as).1 a).1, (noteAll st as).2 ++ [(note (noteAll st as).1 a).2])
  | [], st => rfl
  | x :: as, st => by
    show ((noteAll (note st x).1 (as ++ [a])).1, (note st x).2 :: (noteAll (note st x).1 (as ++ [a])).2) = _
    rw [noteAll_snoc a as]
    rfl
/-- the numbers of the keys -/
def numB (keys : List α) : List Nat := (noteAll [] keys).2
def manyOf (keys : List α) : Nat := (noteAll [] keys).1.length
def cOf (l : List Nat) (i : Nat) : Nat := l.getD i 0
theorem numB_len (keys : List α) : (numB keys).length = keys.length := (noteAll_at keys []).1
theorem numB_at {keys : List α} {i : Nat} (h : i < keys.length) : (noteAll [] keys).1[cOf (numB keys) i]? = keys[i]? := by
  obtain ⟨h1, h2⟩ := noteAll_at keys []
  have e1 : keys[i]? = some keys[i] := List.getElem?_eq_getElem h
  have lt : i < (noteAll [] keys).2.length := by omega
  have e2 : (noteAll [] keys).2[i]? = some ((noteAll [] keys).2[i]) := List.getElem?_eq_getElem lt
  have e3 : cOf (numB keys) i = (noteAll [] keys).2[i] := by
    unfold cOf numB
    rw [List.getD_eq_getElem?_getD, e2]
    rfl
  rw [e3, e1]
  exact h2 i _ _ e1 e2
theorem numB_lt {keys : List α} {i : Nat} (h : i < keys.length) : cOf (numB keys) i < manyOf keys := by
  have e := numB_at h
  rw [List.getElem?_eq_getElem h] at e
  exact (List.getElem?_eq_some_iff.mp e).1
/-- like numbers for like keys alone -/
theorem numB_iff {keys : List α} {i j : Nat} (hi : i < keys.length) (hj : j < keys.length) : cOf (numB keys) i = cOf (numB keys) j ↔ keys[i]? = keys[j]? := by
  rw [← numB_at hi, ← numB_at hj]
  refine ⟨fun e => by rw [e], fun e => ?_⟩
  have l1 := numB_lt hi
  have l2 := numB_lt hj
  unfold manyOf at l1 l2
  rw [List.getElem?_eq_getElem l1, List.getElem?_eq_getElem l2] at e
  exact (List.getElem_inj (noteAll_nd keys List.nodup_nil)).mp (Option.some.inj e)
theorem cnt_succ (c : Nat → Nat) (n : Nat) : cnt c (n + 1) = cnt c n + if Rep c n then 1 else 0 := by
  unfold cnt
  rw [List.range_succ, List.countP_append, List.countP_cons]
  by_cases h : Rep c n <;> simp [h]
theorem cnt_congr {c c' : Nat → Nat} : ∀ (n : Nat), (∀ s, s < n → c s = c' s) → cnt c n = cnt c' n
  | 0, _ => rfl
  | n + 1, h => by
    rw [cnt_succ, cnt_succ, cnt_congr n fun s hs => h s (by omega)]
    have : Rep c n ↔ Rep c' n := ⟨fun r t lt => by rw [← h t (by omega), ← h n (by omega)]; exact r t lt, fun r t lt => by rw [h t (by omega), h n (by omega)]; exact r t lt⟩
    by_cases z : Rep c n
    · rw [if_pos z, if_pos (this.mp z)]
    · rw [if_neg z, if_neg fun q => z (this.mpr q)]
/-- as many numbers as classes -/
theorem manyOf_cnt : ∀ (n : Nat) (keys : List α), keys.length = n → manyOf keys = cnt (cOf (numB keys)) n
  | 0, keys, h => by
    cases keys with
    | nil => rfl
    | cons x l => cases h
  | n + 1, keys, h => by
    have ne : keys ≠ [] := fun e => by rw [e] at h; cases h
    obtain ⟨as, a, rfl⟩ : ∃ as a, keys = as ++ [a] := ⟨keys.dropLast, keys.getLast ne, (List.dropLast_concat_getLast ne).symm⟩
    have la : as.length = n := by
      rw [List.length_append] at h
      have h : as.length + 1 = n + 1 := h
      omega
    have ih := manyOf_cnt n as la
    have low : ∀ s, s < n → cOf (numB (as ++ [a])) s = cOf (numB as) s := fun s hs => by
      unfold cOf numB
      rw [noteAll_snoc]
      show ((noteAll [] as).2 ++ _).getD s 0 = _
      rw [List.getD_eq_getElem?_getD, List.getD_eq_getElem?_getD, List.getElem?_append_left]
      have := numB_len as
      unfold numB at this
      omega
    rw [cnt_succ, cnt_congr n low, ← ih]
    have rep : Rep (cOf (numB (as ++ [a]))) n ↔ a ∉ as := by
      refine ⟨fun r hm => ?_, fun hm t lt e => ?_⟩
      · obtain ⟨t, ht⟩ := List.getElem?_of_mem hm
        have lt := (List.getElem?_eq_some_iff.mp ht).1
        refine r t (by omega) ((numB_iff (by rw [List.length_append]; omega) (by rw [List.length_append]; show n < as.length + 1; omega)).mpr ?_)
        rw [List.getElem?_append_left lt, ht, ← la, List.getElem?_append_right (Nat.le_refl _), Nat.sub_self]
        rfl
      · have := (numB_iff (keys := as ++ [a]) (by rw [List.length_append]; omega) (by rw [List.length_append]; show n < as.length + 1; omega)).mp e
        rw [List.getElem?_append_left (by omega), ← la, List.getElem?_append_right (Nat.le_refl _), Nat.sub_self] at this
        exact hm (List.mem_of_getElem? this)
    have inn : ∀ x, x ∈ (noteAll [] as).1 ↔ x ∈ as := fun x => by
      refine ⟨fun hx => (noteAll_mem as [] x hx).resolve_left (fun z => nomatch z), fun hx => ?_⟩
      obtain ⟨t, ht⟩ := List.getElem?_of_mem hx
      have := numB_at (keys := as) (List.getElem?_eq_some_iff.mp ht).1
      rw [ht] at this
      exact List.mem_of_getElem? this
    unfold manyOf
    rw [noteAll_snoc]
    show (note (noteAll [] as).1 a).1.length = _
    unfold note
    cases q : ixOf (noteAll [] as).1 a with
    | some i =>
      have : a ∈ as := (inn a).mp (List.mem_of_getElem? (ixOf_some q))
      rw [if_neg fun r => (rep.mp r) this]
      rfl
    | none =>
      have : a ∉ as := fun z => ixOf_none q ((inn a).mpr z)
      rw [if_pos (rep.mpr this)]
      show ((noteAll [] as).1 ++ [a]).length = _
      rw [List.length_append]
      rfl
end B5

namespace K71
open PySem L2 Gd B5
abbrev sNu : Stmt := top 16
abbrev NNu : List Str := ["keys", "numbers", "key"]
theorem scNu : FnScope NNu ["keys"] (defScope sNu) := ⟨rfl, rfl, rfl, by decide +kernel, rfl, by decide +kernel, by decide +kernel⟩
/-- whole numbers in the order in which they are met -/
def spNu (K : PySem.W.Frag) : Sp := fun vs H Q _ => ∃ (a : Addr) (ks : List Int), vs = [.ref a] ∧ Sq K H a (ks.map V.int) ∧ (∃ o, H a = some o) ∧ ks.length ≤ 1000 ∧ ∀ l H', More H H' → H l = none → H' l = some (.lst ((numB ks).map fun i => V.int (i : Nat))) → Q (.ref l) H'
/-- the dict tells the places of the names -/
structure DN (H : Hp) (d : Addr) (st : List Int) : Prop where
  ex : ∃ kvs, H d = some (.dK kvs) ∧ kvs.length ≤ st.length ∧ st.length = kvs.length ∧ ∀ x : Int, valV kvs (Sum.inl x) = (ixOf st x).map fun i => V.int (i : Nat)
theorem putK_new {kvs : List (Key × V)} {k : Key} {v : V} (h : valV kvs k = none) : (putK kvs k v).length = kvs.length + 1 := by
  have e := valV_any k kvs
  rw [h, Option.isSome_none] at e
  unfold putK
  rw [if_neg (by rw [e]; exact Bool.false_ne_true), List.length_append]
  rfl
section
variable {P : Program} {w : World} {K : PySem.W.Frag} {mg : Str → Option Value} {base : Heap} {f : Addr} {fd : FuncData}
theorem ok_nu (F : Fun K "numbered" "numbered" sNu f fd) (B : Blt mg) : FnOk P w K mg base CX0 1 f fd ["keys"] (spNu K) := by
  refine F.ok scNu (fun vs H Q E h => ?_) (fun cdv A outer s H vs Q E hr h => ?_)
  · obtain ⟨a, ks, rfl, _⟩ := h
    rfl
  · obtain ⟨a, ks, rfl, sq, ⟨oa, ha⟩, few, q⟩ := h
    have hu := hu_of hr
    refine ⟨_, pss_cons (ps_set (i := 1) scNu.nd rfl (Or.inr rfl) pe_dnewK)
      (Evl.pss_cut (ps_for PassesOwn.never rfl (pi_sq (K := K) rfl (pv 0)) (pg_name (i := 2) scNu.nd rfl (Or.inl rfl))
        (pss_one (ps_if (pt_cmp (pc_dnotin hu (pv 2) (pv 1)))
          (pss_one (ps_dput hu (pv 1) (pv 2) (pe_callB (call_lenD) (by rfl) B.len_ PySem.boot_len (pa_cons (pv 1) pa_nil)) rfl)) pss_nil)))
      (pss_one (ps_ret (pe_lc (own := [("key", 2)]) (g := gName 2) (tt := tYes) rfl scNu.nd (pi_sq (K := K) rfl (pv 0))
          (blkOk_by (N := NNu) (sc := defScope sNu) (by decide +kernel)) (fun _ _ _ _ _ => pg_name (i := 2) scNu.nd rfl (Or.inl rfl)) (fun _ _ _ _ _ => pts_nil)
          (fun _ _ _ _ _ => pe_dget hu (pv 1) (pv 2) (fun _ _ => rfl)))))), ?_⟩
    refine fun d hd => ?_
    have kl : (ks.map V.int).length = ks.length := List.length_map ..
    have m1 := new_more (o := .dK []) hd
    have ad : a ≠ d := ne_of_none ha hd
    have kept : ∀ {H1 H' : Hp}, More H H' → H1 a = some oa → B5.Kept a H1 H' := fun {H1 H'} m e o e2 => by
      rw [e] at e2
      cases e2
      exact m _ _ ha
    refine ⟨fun σ' H' => ∃ z, σ' = [some (.ref a), some (.ref d), z] ∧ DN H' d (noteAll [] ks).1 ∧ More H H', ?_, ?_⟩
    · refine ⟨_, rfl, a, _, rfl, sq.more m1, fun J Z wk hZ => for_it wk (fun i σ' H' => ∃ z, σ' = [some (.ref a), some (.ref d), z] ∧ DN H' d (noteAll [] (ks.take i)).1 ∧ More H H')
        ⟨none, rfl, ⟨[], upd_same, Nat.le_refl _, rfl, fun _ => rfl⟩, m1⟩ (fun i σ' H' _ ⟨_, _, _, m⟩ => hZ H' (kept m (m1 _ _ ha))) ?_ ?_⟩
      · rintro i y σ' G G' hi ⟨z, rfl, ⟨kvs, hk, l1, l2, vals⟩, m⟩ ⟨rfl, hy⟩
        obtain ⟨k, hki, rfl⟩ := map_at hy
        rw [kl] at hi
        have tk : ks.take (i + 1) = ks.take i ++ [k] := by rw [List.take_add_one, hki]; rfl
        have sl : (noteAll [] (ks.take i)).1.length ≤ i := by
          have := manyOf_cnt (ks.take i).length (ks.take i) rfl
          have e := cnt_max (cOf (numB (ks.take i))) (ks.take i).length
          rw [← this, List.length_take] at e
          unfold manyOf at e
          omega
        have nn : (noteAll [] (ks.take (i + 1))).1 = (note (noteAll [] (ks.take i)).1 k).1 := by rw [tk, noteAll_snoc]
        refine ⟨_, rfl, _, rfl, d, _, rfl, DGet.k (k := Sum.inl k) hk, _, rfl, ?_⟩
        rw [vals k]
        cases e : ixOf (noteAll [] (ks.take i)).1 k with
        | some j =>
          refine iteF ⟨_, rfl, ?_, m⟩
          rw [nn]
          unfold note
          rw [e]
          exact ⟨kvs, hk, l1, l2, vals⟩
        | none =>
          refine iteT ⟨_, rfl, d, kvs, rfl, hk, _, rfl, _, rfl, d, _, rfl, DPut.k (k := Sum.inl k) hk (small1000 (by omega)), _, rfl, ?_, ?_⟩
          · rw [nn]
            unfold note
            rw [e]
            refine ⟨_, upd_same, ?_, ?_, fun x => ?_⟩
            · have := putK_le kvs (Sum.inl k) (V.int (kvs.length : Nat))
              show _ ≤ (_ ++ [k]).length
              rw [List.length_append]
              show _ ≤ _ + 1
              omega
            · show (_ ++ [k]).length = _
              rw [List.length_append]
              have nv : valV kvs (Sum.inl k) = none := by rw [vals k, e]; rfl
              rw [putK_new nv]
              show _ + 1 = _
              omega
            · show _ = (ixOf ((noteAll [] (ks.take i)).1 ++ [k]) x).map _
              rw [valV_put, ixOf_app]
              by_cases z : x = k
              · subst z
                rw [if_pos rfl, e, if_pos rfl, l2]
                rfl
              · rw [if_neg fun q => z (Sum.inl.inj q), vals x]
                cases ixOf (noteAll [] (ks.take i)).1 x with
                | some t => rfl
                | none =>
                  show none = Option.map _ (if k = x then _ else none)
                  rw [if_neg fun q => z q.symm]
                  rfl
          · exact More.at m hd
      · rintro σ' G ⟨z, rfl, dn, m⟩
        rw [kl, List.take_length] at dn
        exact ⟨z, rfl, dn, m⟩
    · rintro σ' G ⟨z, rfl, ⟨kvs, hk, l1, l2, vals⟩, m⟩
      refine ⟨_, rfl, a, _, rfl, sq.more m, fun J Z wk hZ D hD => ?_⟩
      refine lc_name (n := 2) (rs := (numB ks).map fun i => V.int (i : Nat)) wk hD (fun H' m' => hZ H' (.of m')) (by rw [List.length_map, kl, numB_len]) (by rw [kl]; omega) (fun _ => rfl) ?_ ?_
      · intro i y v G2 Qv hy hv m2 q2
        obtain ⟨k, hki, rfl⟩ := map_at hy
        obtain ⟨j, hj, rfl⟩ := map_at hv
        have lt := (List.getElem?_eq_some_iff.mp hki).1
        have e := numB_at lt
        have ej : cOf (numB ks) i = j := getD_of hj 0
        rw [ej, hki] at e
        have es := ixOf_self (noteAll_nd ks List.nodup_nil) e
        refine ⟨_, rfl, _, rfl, d, V.int (j : Nat), rfl, dg (Sum.inl k) (m2 _ _ hk) (by rw [vals k, es]; rfl), q2 _ fun _ _ e => e⟩
      · intro H' hD' m'
        exact q D H' (fun b o e => m' _ _ (m _ _ e)) (More.off m hD) hD'
end
end K71

namespace K71
open PySem L2 Gd B5
section
variable {P : Program} {w : World} {K : PySem.W.Frag} {mg : Str → Option Value} {base : Heap}
variable {C f : Addr} {fd : FuncData}
abbrev sIm : Stmt := top 38
theorem scIm : FnScope ["_law_told", "_law_p", "_law_moves", "_law_worths"] ["_law_told", "_law_p", "_law_moves", "_law_worths"] (defScope sIm) := ⟨rfl, rfl, rfl, by decide +kernel, rfl, by decide +kernel, by decide +kernel⟩
theorem ok_im (F : Fun K "_law_is_machine" "_law_is_machine" sIm f fd) (B : Blt mg) (Z : McC K mg C) : FnOk P w K mg base CX0 1 f fd ["_law_told", "_law_p", "_law_moves", "_law_worths"] (spIm K C) := by
  refine F.ok scIm (fun vs H Q E h => ?_) (fun cdv A outer s H vs Q E hr h => ?_)
  · obtain ⟨a, M, W, rs, p, dss, ws, rfl, _⟩ := h
    rfl
  · obtain ⟨a, M, W, rs, p, dss, ws, rfl, ma, hM, hp, hW, q⟩ := h
    have hu64 := hr.units
    refine ⟨_, pss_cons (ps_if (PW.pt (pw_or (pt_not (pt_val (pe_callB call_isi (by rfl) B.isi_ (by decide +kernel) (pa_cons (pv 0) (pa_cons (pe_glob (v := .ref C) rfl Z.g rfl) pa_nil)))))
        (pw_or (pt_not (pt_val (pe_callB call_isi (by rfl) B.isi_ (by decide +kernel) (pa_cons (pe_fld (pv 0) rfl) (pa_cons (pe_bltn (v := .ty "tuple") rfl B.tup_ (by decide +kernel) rfl) pa_nil)))))
        (pw_or1 (pt_not (pt_val (pe_callB call_isi (by rfl) B.isi_ (by decide +kernel) (pa_cons (pe_fld (pv 0) rfl) (pa_cons (pe_bltn (v := .ty "tuple") rfl B.tup_ (by decide +kernel) rfl) pa_nil)))))))))
        (pss_one (ps_ret pe_bl)) pss_nil)
      (pss_one (ps_ret (pe_and (pe_cmpR (op_eqD hu64) (pe_tup (pa_cons (pe_fld (pv 0) rfl) (pa_cons (pe_fld (pv 0) rfl) pa_nil))) (pe_tup (pa_cons (pv 1) (pa_cons (pe_callB call_len_seq (by rfl) B.len_ PySem.boot_len (pa_cons (pv 2) pa_nil)) pa_nil))) (nomark _))
        (pe_and (pe_cmpR (op_eqD hu64) (pe_fld (pv 0) rfl) (pv 2) (nomark _)) (pe_one (pe_cmpR (op_eqD hu64) (pe_fld (pv 0) rfl) (pv 3) (nomark _))))))), ?_⟩
    have ty := ma.ty Z
    obtain ⟨dx, t, u, xs, h1, h2, h3, h4⟩ := ma
    have dl : rs.length = dss.length := Paired.length hp
    refine ⟨_, rfl, _, .ref C, _, _, _, rfl, .own C, ty, Z.ic.me, _, rfl, iteF ?_⟩
    refine ⟨_, rfl, a, C, dx, _, _, rfl, h1, Z.ic.cl, Z.n2, rfl, _, _, _, _, _, rfl, .ty "tuple", tyT h2, kit_ty seq_yes.1, _, rfl, iteF ?_⟩
    refine ⟨_, rfl, a, C, dx, _, _, rfl, h1, Z.ic.cl, Z.n3, rfl, _, _, _, _, _, rfl, .ty "tuple", tyT h4, kit_ty seq_yes.1, _, rfl, iteF ?_⟩
    refine ⟨_, rfl, a, C, dx, _, _, rfl, h1, Z.ic.cl, Z.n1, rfl, _, rfl, a, C, dx, _, _, rfl, h1, Z.ic.cl, Z.n4, rfl, by show 2 ≤ sizeLine; decide, fun t1 ht1 => ?_⟩
    have m1 := new_more (o := .tup [.int p, .int (dss.length : Nat)]) ht1
    refine ⟨_, rfl, _, rfl, M, rs, rfl, .inr (sqT_more m1 hM), by show 2 ≤ sizeLine; decide, fun t2 ht2 => ?_⟩
    have m2 : More H (upd (upd H t1 (.tup [.int p, .int (dss.length : Nat)])) t2 (.tup [.int p, .int (rs.length : Nat)])) := fun b o e => new_more ht2 _ _ (m1 _ _ e)
    refine ⟨_, _, dp_I (k := [p, (dss.length : Nat)]) (SqT.of (new_more ht2 _ _ upd_same)), dp_I (k := [p, (rs.length : Nat)]) (SqT.of upd_same), shaped_I _, shaped_I _, _, rfl, ?_⟩
    rw [dl] at m2 ⊢
    rw [eqv_I, decide_eq_true rfl]
    refine iteT ⟨_, rfl, a, C, dx, _, _, rfl, m2 _ _ h1, Z.ic.cl, Z.n2, rfl, _, rfl, _, _, dp_R (sqT_more m2 h2) (paired_imp (fun _ _ r => r.more m2) h3), dp_R (sqT_more m2 hM) (paired_imp (fun _ _ r => r.more m2) hp), shaped_R _, shaped_R _, _, rfl, ?_⟩
    rw [eqv_R, decide_eq_true rfl]
    refine iteT ⟨_, rfl, a, C, dx, _, _, rfl, m2 _ _ h1, Z.ic.cl, Z.n3, rfl, _, rfl, _, _, dp_I (sqT_more m2 h4), dp_I (sqT_more m2 hW), shaped_I _, shaped_I _, ?_⟩
    rw [eqv_I, decide_eq_true rfl]
    exact q _ m2
end
end K71

namespace K71
open PySem L2 Gd B5
abbrev sSh : Stmt := top 33
abbrev NSh : List Str := ["_law_pen_here", "_law_some", "_law_left", "_law_out", "_law_k"]
theorem scSh : FnScope NSh ["_law_pen_here", "_law_some"] (defScope sSh) := ⟨rfl, rfl, rfl, by decide +kernel, rfl, by decide +kernel, by decide +kernel⟩
/-- the same values in some order -/
def spSh : Sp := fun vs H Q _ => ∃ (d c a : Addr) (n : Int) (xs : List V), vs = [.ref d, .ref a] ∧ Pen H d c n ∧ H a = some (.lst xs) ∧ xs.length ≤ 1000 ∧ 0 ≤ n ∧ n < 900000000 ∧
  ∀ (l : Addr) (ys : List V) (n' : Int) (H' : Hp), H l = none → H' l = some (.lst ys) → ys.Perm xs → Pen H' d c n' → n ≤ n' → n' ≤ n + 1000 → Off d H H' → Q (.ref l) H'
theorem seqIx {r : Int} {n : Nat} (h0 : 0 ≤ r) (h1 : r < (n : Int)) : seqIndex? r n = some r.toNat := by
  unfold seqIndex?
  have e : (if r < 0 then r + (n : Int) else r) = r := if_neg (by omega)
  simp only [e, decide_eq_true h0, decide_eq_true h1, Bool.and_self, if_true]
theorem pop_perm {α : Type} : ∀ {l : List α} {k : Nat} {y : α}, l[k]? = some y → (y :: l.eraseIdx k).Perm l
  | [], k, y, h => by simp at h
  | x :: l, 0, y, h => by
    cases h
    exact List.Perm.refl _
  | x :: l, k + 1, y, h => (List.Perm.swap x y _).trans ((pop_perm (l := l) h).cons x)
section
variable {P : Program} {w : World} {K : PySem.W.Frag} {mg : Str → Option Value} {base : Heap} {g1 f : Addr} {d1 fd : FuncData}
theorem ok_sh (F : Fun K "_law_shuffled" "_law_shuffled" sSh f fd) (B : Blt mg) (Dr : Cl K mg "_law_draw" sDraw ["_law_pen_here", "_law_many"] g1 d1) : FnOk P w K mg base CX0 2 f fd ["_law_pen_here", "_law_some"] spSh := by
  have G1 : FnOk P w K mg base CX0 1 g1 d1 ["_law_pen_here", "_law_many"] spDraw := ok_draw Dr.fn B.int_ B.len_
  refine F.ok scSh (fun vs H Q E h => ?_) (fun cdv A outer s H vs Q E hr h => ?_)
  · obtain ⟨d, c, a, n, xs, rfl, _⟩ := h
    rfl
  · obtain ⟨d, c, a, n, xs, rfl, pen, ha, few, n0, n1, q⟩ := h
    refine ⟨_, pss_cons (ps_par (i := 2) (j := 3) rfl scSh.nd rfl rfl (by decide) rfl rfl (pa_cons (pe_callTy call_list_of (by rfl) B.list_ (by decide +kernel) (pa_cons (pv 1) pa_nil)) (pa_cons (pe_lst pa_nil) pa_nil)) (by rfl))
      (Evl.pss_cut (ps_for PassesOwn.never rfl (pi_range1 (by rfl) B.range_ (pa_cons (pe_callB call_len_seq (by rfl) B.len_ PySem.boot_len (pa_cons (pv 1) pa_nil)) pa_nil)) (pg_name (i := 4) scSh.nd rfl (Or.inl rfl))
        (pss_one (ps_expr (pe_bm PySem.F.plainAttrs_list PySem.F.slot_list_append PySem.F.type_list_append mt_append (pv 3) (pa_cons
          (pe_bm PySem.F.plainAttrs_list PySem.F.slot_list_pop PySem.F.type_list_pop mt_popAt (pv 2) (pa_cons
            (pe_call G1 (hr.mono (by decide)) rfl Dr.g Dr.k Dr.b .nil pass0 (pa_cons (pv 0) (pa_cons (pe_callB call_len_seq (by rfl) B.len_ PySem.boot_len (pa_cons (pv 2) pa_nil)) pa_nil))) pa_nil)) pa_nil)))))
      (pss_one (ps_ret (pv 3)))), ?_⟩
    refine ⟨_, rfl, a, _, rfl, .inl (SqL.of ha), fun l hl => ?_⟩
    have m1 := new_more (o := .lst xs) hl
    refine ⟨by show 0 ≤ sizeLine; decide, fun o ho => ⟨_, _, rfl, ?_⟩⟩
    have m2 := new_more (o := .lst []) ho
    have lo : l ≠ o := ne_of_none upd_same ho
    have m12 : More H (upd (upd H l (.lst xs)) o (.lst [])) := fun b o e => m2 _ _ (m1 _ _ e)
    have no : H o = none := m1.off ho
    refine ⟨fun σ' H' => ∃ z ys n', σ' = [some (.ref d), some (.ref a), some (.ref l), some (.ref o), z] ∧ H' o = some (.lst ys) ∧ ys.Perm xs ∧ Pen H' d c n' ∧ n ≤ n' ∧ n' ≤ n + 1000 ∧ Off d H H', ?_, ?_⟩
    · refine ⟨_, rfl, a, xs, rfl, .inl (SqL.of (m12 _ _ ha)), _, rfl, by omega, by omega, for_range (lo := 0) (n := xs.length) (fun i σ' H' => ∃ z left out n', σ' = [some (.ref d), some (.ref a), some (.ref l), some (.ref o), z] ∧ H' l = some (.lst left) ∧ H' o = some (.lst out) ∧ (out ++ left).Perm xs ∧
          left.length + i = xs.length ∧ out.length = i ∧ Pen H' d c n' ∧ n ≤ n' ∧ n' ≤ n + i ∧ Off d H H')
        ⟨none, xs, [], n, rfl, m2 _ _ upd_same, upd_same, List.Perm.refl _, rfl, rfl, (pen.upd hl).upd ho, by omega, by omega, .of m12⟩ ?_ ?_⟩
      · rintro i σ' G hi ⟨z, left, out, n', rfl, hL, hO, pm, l1, l2, pn, b1, b2, of⟩
        refine ⟨_, rfl, .inl ⟨rfl, _, SqL.of hO⟩, _, rfl, .inl ⟨rfl, _, SqL.of hL⟩, _, rfl, _, rfl, l, left, rfl, .inl (SqL.of hL), d, c, n', _, rfl, pn, by omega, by omega, by omega, by omega, fun r G2 r0 r1 dr => ?_⟩
        have ld : l ≠ d := fun e => by
          obtain ⟨u, hu⟩ := pen.at
          rw [e, hu] at hl
          cases hl
        have od : o ≠ d := fun e => by
          obtain ⟨u, hu⟩ := pen.at
          rw [e, hu] at no
          cases no
        have lc : l ≠ c := fun e => by
          obtain ⟨u, hu⟩ := pen.atc
          rw [e, hu] at hl
          cases hl
        have oc : o ≠ c := fun e => by
          obtain ⟨u, hu⟩ := pen.atc
          rw [e, hu] at no
          cases no
        have hL2 : G2 l = some (.lst left) := (dr.off l ld).trans hL
        have hO2 : G2 o = some (.lst out) := (dr.off o od).trans hO
        have rk : r.toNat < left.length := by omega
        have hy : left[r.toNat]? = some left[r.toNat] := List.getElem?_eq_getElem rk
        have hO3 : (upd G2 l (.lst (left.eraseIdx r.toNat))) o = some (.lst out) := by rw [upd_ne lo.symm]; exact hO2
        refine ⟨l, left, r, _, _, rfl, rfl, hL2, by omega, by omega, seqIx r0 r1, hy, o, out, _, rfl, rfl, hO3, small1000 (by omega), ?_⟩
        refine ⟨_, left.eraseIdx r.toNat, out ++ [left[r.toNat]], _, rfl, by rw [upd_ne lo]; exact upd_same, upd_same, ?_, ?_, by rw [List.length_append, l2]; rfl, (dr.pen.updA ld lc).updA od oc, by omega, by omega, ?_⟩
        · rw [List.append_assoc]
          exact ((pop_perm hy).append_left out).trans pm
        · rw [List.length_eraseIdx_of_lt rk]
          omega
        · exact ((of.trans (.dr dr)).at hl).at no
      · rintro σ' G ⟨z, left, out, n', rfl, hL, hO, pm, l1, l2, pn, b1, b2, of⟩
        have : left = [] := List.eq_nil_of_length_eq_zero (by omega)
        rw [this, List.append_nil] at pm
        exact ⟨z, out, n', rfl, hO, pm, pn, b1, by omega, of⟩
    · rintro σ' G ⟨z, ys, n', rfl, hO, pm, pn, b1, b2, of⟩
      exact ⟨_, rfl, q o ys n' G no hO pm pn b1 b2 of⟩
end
end K71

/-! Clo: functions made by a def in a def, handed to other functions: their captured cells are shown in the heap. -/
namespace B5
open PySem PySem.Spec PyProof.Rows L2 NdefX
open Classical
/-- the cell object ob stands at c -/
def CelO (c : Addr) (ob : Obj) : HO := .ext fun h => h.get? c = some ob
def isC (cl : List (Str × Addr)) (b : Addr) : Prop := ∃ y, cl.lookup y = some b
/-- the captured cells stand in the heap, with what they hold -/
structure Exd (cl : List (Str × Addr)) (fr : List Str) (ws : List (Option V)) (H : Hp) : Prop where
  len : ws.length = fr.length
  all : ∀ y c, cl.lookup y = some c → ∃ ob v, H c = some (CelO c ob) ∧ ob.data = .cell v
  inj : ∀ x y c, cl.lookup x = some c → cl.lookup y = some c → x = y
  has : ∀ (i : Nat) (y : Str), fr[i]? = some y → ∃ c, cl.lookup y = some c ∧ ∀ v, ws[i]? = some (some v) → ∃ ob u, H c = some (CelO c ob) ∧ ob.data = .cell (some u) ∧ L2.RelV v u
theorem Exd.same {cl : List (Str × Addr)} {fr : List Str} {ws : List (Option V)} {H H' : Hp} (x : Exd cl fr ws H) (m : ∀ b, isC cl b → H' b = H b) : Exd cl fr ws H' where
  len := x.len
  all := fun y c e => let ⟨ob, v, a, b⟩ := x.all y c e; ⟨ob, v, (m c ⟨y, e⟩).trans a, b⟩
  inj := x.inj
  has := fun i y e => let ⟨c, a, b⟩ := x.has i y e; ⟨c, a, fun v ev => let ⟨ob, u, p, q, r⟩ := b v ev; ⟨ob, u, (m c ⟨y, a⟩).trans p, q, r⟩⟩
theorem Exd.ex {cl : List (Str × Addr)} {fr : List Str} {ws : List (Option V)} {H : Hp} (x : Exd cl fr ws H) {b : Addr} (h : isC cl b) : ∃ ob, H b = some (CelO b ob) :=
  let ⟨y, e⟩ := h; let ⟨ob, _, a, _⟩ := x.all y b e; ⟨ob, a⟩
/-- without the cells -/
noncomputable def hide (cl : List (Str × Addr)) (H : Hp) : Hp := fun b => if isC cl b then none else H b
/-- with the cells as in H -/
noncomputable def lay (cl : List (Str × Addr)) (H H' : Hp) : Hp := fun b => if isC cl b then H b else H' b
theorem hide_no {cl : List (Str × Addr)} {H : Hp} {b : Addr} (h : ¬ isC cl b) : hide cl H b = H b := if_neg h
theorem hide_at {cl : List (Str × Addr)} {H : Hp} {b : Addr} (h : isC cl b) : hide cl H b = none := if_pos h
theorem hide_some {cl : List (Str × Addr)} {H : Hp} {b : Addr} {o : HO} (h : hide cl H b = some o) : ¬ isC cl b ∧ H b = some o := by
  by_cases e : isC cl b
  · rw [hide_at e] at h; cases h
  · rw [hide_no e] at h; exact ⟨e, h⟩
theorem lay_no {cl : List (Str × Addr)} {H H' : Hp} {b : Addr} (h : ¬ isC cl b) : lay cl H H' b = H' b := if_neg h
theorem lay_at {cl : List (Str × Addr)} {H H' : Hp} {b : Addr} (h : isC cl b) : lay cl H H' b = H b := if_pos h
section
variable {P : Program} {w : World} {cl : List (Str × Addr)} {fr : List Str} {ws : List (Option V)} {H H' : Hp} {h h' : Heap}
theorem cel_obj {c : Addr} {ob : Obj} (x : HOk P w H h) (e : H c = some (CelO c ob)) : h.get? c = some ob := (x c _ e).1
theorem cel_ok {c : Addr} {ob : Obj} (H : Hp) (e : h.get? c = some ob) : ObjOk P w H h c (CelO c ob) := ⟨e, ⟨ob, e⟩, fun h1 h2 a b => b _ a⟩
theorem hok_hide (x : HOk P w H h) (ex : ∀ b, isC cl b → ∃ ob, H b = some (CelO b ob)) : HOk P w (hide cl H) h := by
  intro b o e
  obtain ⟨nb, e⟩ := hide_some e
  refine (x b o e).stay (fun c u _ q => q) (fun c q => ?_) (fun c xs q => ?_)
  · rw [hide_no fun z => ?_]
    · exact q
    · obtain ⟨ob, r⟩ := ex c z
      rw [r] at q; cases q
  · rw [hide_no fun z => ?_]
    · exact q
    · obtain ⟨ob, r⟩ := ex c z
      rw [r] at q; cases q
theorem hok_lay (x : HOk P w H' h) (no : ∀ b, isC cl b → H' b = none) (ex : ∀ b, isC cl b → ∃ ob, H b = some (CelO b ob) ∧ h.get? b = some ob) : HOk P w (lay cl H H') h := by
  intro b o e
  by_cases z : isC cl b
  · rw [lay_at z] at e
    obtain ⟨ob, r, g⟩ := ex b z
    rw [r] at e; cases e
    exact cel_ok _ g
  · rw [lay_no z] at e
    refine (x b o e).stay (fun c u _ q => q) (fun c q => ?_) (fun c xs q => ?_)
    · rw [lay_no fun y => ?_]
      · exact q
      · rw [no c y] at q; cases q
    · rw [lay_no fun y => ?_]
      · exact q
      · rw [no c y] at q; cases q
theorem exd_cells (x : Exd cl fr ws H) (ok : HOk P w H h) : CellsAt cl fr ws h (hide cl H) where
  len := x.len
  all := fun y c e => by
    obtain ⟨ob, v, a, b⟩ := x.all y c e
    exact ⟨hide_at ⟨y, e⟩, v, ob, cel_obj ok a, b⟩
  inj := x.inj
  has := fun i y e => by
    obtain ⟨c, a, b⟩ := x.has i y e
    refine ⟨c, a, fun v ev => ?_⟩
    obtain ⟨ob, u, p, q, r⟩ := b v ev
    exact ⟨u, r, ob, cel_obj ok p, q⟩
end
/-- a function at f that answers as sp where pre is -/
structure Lead (P : Program) (w : World) (K : PySem.W.Frag) (mg : Str → Option Value) (base : Heap) (k : Nat) (f : Addr) (pre : Hp → Prop) (sp : Sp) : Prop where
  at_ : ∀ H, pre H → ∃ F, H f = some (FnO f F)
  run : ∀ (A : Around) (outer : List Env) (s : Shared) (H : Hp) (us : List Value) (vs : List V) (Q : VK), Room k A → Env0 P w K mg base A outer s H → pre H → Vals vs us → sp vs H Q E0 → codeAny (model P w) A (.call (.ref f) ⟨us, []⟩) (CR CX0 outer P w H s Q E0) s
theorem lead_of {P : Program} {w : World} {K : PySem.W.Frag} {mg : Str → Option Value} {base : Heap} {k : Nat} {f : Addr} {F : NF} {ps fr : List Str} {sp : List (Option V) → Sp} (Fn : NOk P w K mg base CX0 k f F ps fr sp) (ws : List (Option V)) (nf : ¬ isC F.cl f) (nc : ¬ isC F.cl F.c) :
    Lead P w K mg base k f (fun H => (H f = some (FnO f F) ∧ H F.c = some (LamX.CodeO F.c F.qual)) ∧ Exd F.cl fr ws H) (fun vs H Q E => sp ws vs (hide F.cl H) (fun v H' => Q v (lay F.cl H H')) E) := by
  refine ⟨fun H h => ⟨F, h.1.1⟩, fun A outer s H us vs Q hr e0 ⟨⟨hf, hcc⟩, x⟩ r q => ?_⟩
  have exs : ∀ b, isC F.cl b → ∃ ob, H b = some (CelO b ob) := fun b hb => x.ex hb
  have hide_none : ∀ {b : Addr}, H b = none → hide F.cl H b = none := fun {b} e => by
    by_cases z : isC F.cl b
    · exact hide_at z
    · rw [hide_no z]; exact e
  have e1 : Env0 P w K mg base A outer s (hide F.cl H) := ⟨e0.frames, e0.mod, fun b o e => ⟨(e0.bs b o e).1, hide_none (e0.bs b o e).2⟩, e0.bsz, e0.funs, fun b hb => hide_none (e0.frf b hb), hok_hide e0.hok exs, e0.bare⟩
  refine codeAny_mono (Fn.run A outer s (hide F.cl H) us vs ws _ E0 hr e1 (by rw [hide_no nf]; exact hf) (by rw [hide_no nc]; exact hcc) (exd_cells x e0.hok) r q) fun res s' hs => ?_
  cases res with
  | error e => exact hs
  | ok fl =>
    cases fl with
    | next => exact hs
    | brk => exact hs
    | cont => exact hs
    | ret u =>
      obtain ⟨v, H', os, bare, un, hok, rv, q⟩ := hs
      have celk : ∀ b, isC F.cl b → ∃ ob, H b = some (CelO b ob) ∧ s'.heap.get? b = some ob := fun b hb => by
        obtain ⟨ob, e⟩ := exs b hb
        refine ⟨ob, e, un.keep b ob (cel_obj e0.hok e) (hide_at hb) (fun z => ?_) (by simp)⟩
        rw [e0.frf b z] at e; cases e
      have no' : ∀ b, isC F.cl b → H' b = none := fun b hb => by
        obtain ⟨ob, e⟩ := exs b hb
        exact un.free b ob (cel_obj e0.hok e) (hide_at hb) (by simp)
      have nex : ∀ {b : Addr} {o : HO}, H b = some o → (∀ ob, o ≠ CelO b ob) → ¬ isC F.cl b := fun {b o} e n z => by
        obtain ⟨ob, r⟩ := exs b z
        rw [r] at e
        exact n ob (Option.some.inj e).symm
      refine ⟨v, lay F.cl H H', os, bare, ⟨fun b o g n => un.keep b o g (hide_none n), fun b o g n => un.slot b o g (hide_none n), fun b o g n hx => ?_, un.there, fun b xs e => ?_, fun b o u e => ?_, fun b ps e => ?_⟩, hok_lay hok no' celk, rv, q⟩
      · by_cases z : isC F.cl b
        · rw [lay_at z]; exact n
        · rw [lay_no z]; exact un.free b o g (hide_none n) hx
      · have z := nex e fun ob z => by cases z
        rw [lay_no z]
        exact un.tups b xs (by rw [hide_no z]; exact e)
      · have z := nex e fun ob z => by cases z
        rw [lay_no z]
        exact un.frzs b o u (by rw [hide_no z]; exact e)
      · have z := nex e fun ob z => by cases z
        rw [lay_no z]
        exact un.tbls b ps (by rw [hide_no z]; exact e)
/-- f(..), f a name that holds such a function -/
def tLead (P : Program) (w : World) (K : PySem.W.Frag) (mg : Str → Option Value) (base : Heap) (k i : Nat) (t : TA) : TE := fun σ H Q => ∃ f pre sp, σ[i]? = some (some (.ref f)) ∧ Lead P w K mg base k f pre sp ∧ (∃ F, H f = some (FnO f F)) ∧ t σ H fun vs H1 => pre H1 ∧ sp vs H1 Q E0
section
variable {X : Cx} {i j k : Nat} {x : Str} {t : TA} {e : Expr} {es : List Expr} {p pos : Pos}
theorem pe_lead (hr : Room k X.A) (hN : X.N[i]? = some x) (hv : Vis X.env.scope x) (ha : PA X (e :: es) t)
    (hd : (x == ("__debug__" : Str)) = false := by decide) (hcd : (x == ("__classdict__" : Str)) = false := by decide)
    (he : starEach (e :: es) X.env = (false, eval e X.env) :: starEach es X.env := by rfl) (hpl : (backTo pos (starEach es X.env)).any (·.1) = false := by rfl) :
    PE X (.Call (.Name x p) (e :: es) [] pos) (tLead X.prog X.w X.K X.mg X.base k i t) := by
  refine ⟨fun pins s σ H Q I h => ?_⟩
  obtain ⟨f, pre, sp, hs, L, ⟨F, hf⟩, ht⟩ := h
  refine wpAny_Call_Name_kw (thn ((pe_var (pos := p) hN hv hd hcd).run pins s σ H (fun v H1 => v = .ref f ∧ H1 = H) I ⟨.ref f, hs, rfl, rfl⟩) fun u s1 ⟨v, H1, I1, r1, q1⟩ => ?_)
  obtain ⟨ev, eH⟩ := q1
  subst ev
  rw [eH] at I1
  obtain rfl : u = Value.ref f := r1
  refine PySem.W.callWith_F (first := []) (fnAt_of I1 hf) (thn (ha.run pos pins s1 σ H _ I1 ht) fun us s2 ⟨vs, H2, I2, r, h1, q⟩ => ?_) he hpl
  obtain ⟨F2, hf2⟩ := L.at_ H2 h1
  refine ⟨fnAt_of I2 hf2, ?_⟩
  show wpAny _ _ (call (.ref f) us) _ _ _
  refine wpAny_call (codeAny_mono (L.run X.A X.stack s2 H2 us vs Q hr I2.env0 h1 r q) fun r s' hq => ?_)
  cases r with
  | error e => exact hq.elim
  | ok fl =>
    cases fl with
    | ret u => exact I2.after hq
    | next => exact False.elim hq
    | brk => exact False.elim hq
    | cont => exact False.elim hq
end
/-- HE is H with the cells shown -/
structure Shown (cl : List (Str × Addr)) (fr : List Str) (ws : List (Option V)) (H HE : Hp) : Prop where
  exd : Exd cl fr ws HE
  off : ∀ b, ¬ isC cl b → HE b = H b
  on : ∀ b, isC cl b → H b = none
theorem Shown.more {cl : List (Str × Addr)} {fr : List Str} {ws : List (Option V)} {H HE : Hp} (x : Shown cl fr ws H HE) : ∀ b o, H b = some o → HE b = some o := fun b o e => by
  rw [x.off b fun z => by rw [x.on b z] at e; cases e]
  exact e
theorem show_of {P : Program} {w : World} {cl : List (Str × Addr)} {fr : List Str} {ws : List (Option V)} {H : Hp} {h : Heap} (ok : HOk P w H h) (C : CellsAt cl fr ws h H) :
    ∃ HE, Shown cl fr ws H HE ∧ HOk P w HE h ∧ ∀ b, isC cl b → ∃ ob, HE b = some (CelO b ob) ∧ h.get? b = some ob := by
  let G : Hp := fun b => match h.get? b with
    | some ob => some (CelO b ob)
    | none => none
  have gat : ∀ {b ob}, h.get? b = some ob → G b = some (CelO b ob) := fun {b ob} e => by
    show (match h.get? b with | some ob => some (CelO b ob) | none => none) = _
    rw [e]
  have on : ∀ b, isC cl b → H b = none := fun b ⟨y, e⟩ => (C.all y b e).1
  have cel : ∀ b, isC cl b → ∃ ob, G b = some (CelO b ob) ∧ h.get? b = some ob := fun b ⟨y, e⟩ => by
    obtain ⟨_, v, ob, g, _⟩ := C.all y b e
    exact ⟨ob, gat g, g⟩
  refine ⟨lay cl G H, ⟨⟨C.len, fun y c e => ?_, C.inj, fun i y e => ?_⟩, fun b z => lay_no z, on⟩, hok_lay ok on cel, fun b z => ?_⟩
  · obtain ⟨_, v, ob, g, d⟩ := C.all y c e
    exact ⟨ob, v, (lay_at ⟨y, e⟩).trans (gat g), d⟩
  · obtain ⟨c, a, b⟩ := C.has i y e
    refine ⟨c, a, fun v ev => ?_⟩
    obtain ⟨u, r, ob, g, d⟩ := b v ev
    exact ⟨ob, u, (lay_at ⟨y, a⟩).trans (gat g), d, r⟩
  · obtain ⟨ob, a, g⟩ := cel b z
    exact ⟨ob, (lay_at z).trans a, g⟩
/-- a def's call while the caller's own cells are shown -/
def tCallE (cl : List (Str × Addr)) (fr : List Str) (js : List Nat) (sp : Sp) (t : TA) : TE := fun σ H Q => t σ H fun vs H1 => ∀ HE, Shown cl fr (js.map (slotAt σ)) H1 HE → sp vs HE (fun v H2 => (∀ b, isC cl b → H2 b = HE b) ∧ Q v (hide cl H2)) E0
section
variable {X : Cx} {k : Nat} {f : Addr} {fd : FuncData} {ps fr : List Str} {cl : List (Str × Addr)} {js : List Nat} {sp : Sp} {x : Str} {p pos : Pos} {e : Expr} {es : List Expr} {t : TA}
theorem own_new {pins : List (Addr × Obj)} {σ : L2.St} {H : Hp} {s : Shared} (I : Inv X pins σ H s) (cp : Caps X cl fr js) (hfn : ∀ x, X.fn x = true) {b : Addr} (h : isC cl b) : X.s_0.heap.objs.size ≤ b ∧ b ∉ frs X.stack := by
  obtain ⟨y, e⟩ := h
  have e1 := cp.sub y b e
  have lo := I.ok.cab y b (hfn y) e1
  refine ⟨lo, fun z => ?_⟩
  rcases List.mem_cons.mp (I.stkSub b z) with z | z
  · exact I.cne y b e1 z
  · obtain ⟨_, o, ho, _⟩ := I.ok.funs.mem z
    exact absurd (Nat.lt_of_lt_of_le (Heap.lt_size ho) lo) (Nat.lt_irrefl _)
theorem run_fnE {pins : List (Addr × Obj)} {σ : L2.St} {H HE : Hp} {s : Shared} {Q : VK} {us : List Value} {vs : List V} {ws : List (Option V)} (F : FnOk X.prog X.w X.K X.mg X.base CX0 k f fd ps sp) (hr : Room k X.A) (hb : Binds X.K fd ps [])
    (I : Inv X pins σ H s) (cp : Caps X cl fr js) (hfn : ∀ x, X.fn x = true) (sh : Shown cl fr ws H HE) (okE : HOk X.prog X.w HE s.heap) (cel : ∀ b, isC cl b → ∃ ob, HE b = some (CelO b ob) ∧ s.heap.get? b = some ob)
    (r : Vals vs us) (h : sp vs HE (fun v H2 => (∀ b, isC cl b → H2 b = HE b) ∧ Q v (hide cl H2)) E0) : wpAny (model X.prog X.w) X.A (call (.ref f) us) (EP X pins σ Q) X.xe s := by
  have hl : us.length = ps.length := by rw [← r.length]; exact F.len _ _ _ _ h
  have e0 := I.env0
  have nEb : ∀ {b : Addr}, H b = none → ¬ isC cl b → HE b = none := fun {b} e z => by rw [sh.off b z]; exact e
  have e1 : Env0 X.prog X.w X.K X.mg X.base X.A X.stack s HE := ⟨e0.frames, e0.mod, fun b o e => ⟨(e0.bs b o e).1, nEb (e0.bs b o e).2 fun z => ?_⟩, e0.bsz, e0.funs, fun b hb' => nEb (e0.frf b hb') fun z => (own_new I cp hfn z).2 hb', okE, e0.bare⟩
  · have hb2 := hb s us I.kIn (by rw [List.append_nil]; exact hl)
    rw [List.append_nil] at hb2
    refine wpAny_call (codeAny_mono (F.run X.A X.stack s HE ⟨us, []⟩ us vs _ E0 hr e1 hb2 r h) fun r s' hq => ?_)
    cases r with
    | error e => exact hq.elim
    | ok fl =>
      cases fl with
      | next => exact False.elim hq
      | brk => exact False.elim hq
      | cont => exact False.elim hq
      | ret u =>
        obtain ⟨v, H2, os, bare, un, hok, rv, keep, q⟩ := hq
        have ex2 : ∀ b, isC cl b → ∃ ob, H2 b = some (CelO b ob) := fun b z => by
          obtain ⟨ob, a, _⟩ := cel b z
          exact ⟨ob, (keep b z).trans a⟩
        have tr : ∀ {b : Addr} {o : HO}, H b = some o → ¬ isC cl b := fun {b o} e z => by rw [sh.on b z] at e; cases e
        refine I.after ⟨v, hide cl H2, os, bare, ⟨fun b o g n hf hx => ?_, fun b o g n hf hx => ?_, fun b o g n hx => ?_, un.there, fun b xs e => ?_, fun b o u e => ?_, fun b ps e => ?_⟩, hok_hide hok ex2, rv, q⟩
        · by_cases z : isC cl b
          · obtain ⟨ob, a, g2⟩ := cel b z
            rw [g] at g2
            cases g2
            exact cel_obj hok ((keep b z).trans a)
          · exact un.keep b o g (nEb n z) hf hx
        · by_cases z : isC cl b
          · exact absurd hf (own_new I cp hfn z).2
          · exact un.slot b o g (nEb n z) hf hx
        · by_cases z : isC cl b
          · exact hide_at z
          · rw [hide_no z]; exact un.free b o g (nEb n z) hx
        · have z := tr e
          rw [hide_no z]
          exact un.tups b xs (by rw [sh.off b z]; exact e)
        · have z := tr e
          rw [hide_no z]
          exact un.frzs b o u (by rw [sh.off b z]; exact e)
        · have z := tr e
          rw [hide_no z]
          exact un.tbls b ps (by rw [sh.off b z]; exact e)
  · have lo := (own_new I cp hfn z).1
    exact absurd (Nat.lt_of_lt_of_le (Nat.lt_of_lt_of_le (Heap.lt_size e) I.ok.bsz) lo) (Nat.lt_irrefl _)
theorem pe_callE (F : FnOk X.prog X.w X.K X.mg X.base CX0 k f fd ps sp) (hr : Room k X.A) (hg : Gl X x) (hm : X.mg x = some (.ref f)) (hk : PySem.W.keepIn X.K (.ref f) = true) (hb : Binds X.K fd ps []) (cp : X.Ok → Caps X cl fr js) (hfn : ∀ x, X.fn x = true)
    (ha : PA X (e :: es) t) (hdb : (x == ("__debug__" : Str)) = false := by decide) (he : starEach (e :: es) X.env = (false, eval e X.env) :: starEach es X.env := by rfl) (hpl : (backTo pos (starEach es X.env)).any (·.1) = false := by rfl) :
    PE X (.Call (.Name x p) (e :: es) [] pos) (tCallE cl fr js sp t) := by
  refine ⟨fun pins s σ H Q I h => ?_⟩
  refine wpAny_Call_Name_kw (ld_glob I hg hm ?_ hdb)
  refine PySem.W.callWith_K (h₀ := X.base) I.ok.mod.kin hk (thn (ha.run pos pins s σ H _ I h) fun us s2 ⟨vs, H2, I2, r, q⟩ => ⟨I2.kIn, ?_⟩) he hpl
  obtain ⟨HE, sh, ok, cel⟩ := show_of I2.hok (cells_of I2 (cp I2.ok))
  exact run_fnE F hr hb I2 (cp I2.ok) hfn sh ok cel r (q HE sh)
end
/-- THE RULE for a def whose body is a statement and a return, whose own cells are shown behind it -/
theorem ok_show {P : Program} {w : World} {K : PySem.W.Frag} {mg : Str → Option Value} {base : Heap} {x qual : Str} {st s1 : Stmt} {e : Expr} {rp : Pos} {f c : Addr} {oc kV doc pm ct : Value} {od an : Option Addr} {osl : Array (Option Value)} {N ps : List Str} {k : Nat} {sp : Sp}
    (lk : K.lookup f = some ⟨oc, od, .func (PySem.W.fnOf x qual (defArgs st) (defBody st) (defScope st) .none kV doc pm an (.ref c) ct), osl⟩) (hcd : PySem.W.codeIn K (.ref c) qual = true) (S : FnScope N ps (defScope st)) (len : ∀ vs H Q E, sp vs H Q E → vs.length = ps.length)
    (hbd : defBody st = [s1, .Return (some e) rp])
    (hbody : ∀ (A : Around) (outer : List Env) (s : Shared) (H : Hp) (vs : List V) (Q : VK) (E : XK), Room k (A.deeper (envOfC qual (defScope st) s.heap.objs.size f (.ref c))) → sp vs H Q E →
      ∃ (t1 : TS) (te : TE) (cl : List (Str × Addr)) (fr : List Str) (js : List Nat), PS (cxOf CX0 P w K mg base N qual (defScope st) f (.ref c) A outer s H E) s1 t1 ∧ PE (cxOf CX0 P w K mg base N qual (defScope st) f (.ref c) A outer s H E) e te ∧
        ((cxOf CX0 P w K mg base N qual (defScope st) f (.ref c) A outer s H E).Ok → Caps (cxOf CX0 P w K mg base N qual (defScope st) f (.ref c) A outer s H E) cl fr js) ∧
        t1 { nx := fun σ1 H1 => te σ1 H1 fun v H2 => ∀ HE, Shown cl fr (js.map (slotAt σ1)) H2 HE → Q v HE, rt := fun _ _ => False } (L2.start N vs) H) :
    FnOk P w K mg base CX0 (k + 1) f (PySem.W.fnOf x qual (defArgs st) (defBody st) (defScope st) .none kV doc pm an (.ref c) ct) ps sp := by
  refine ⟨len, fun A outer s H args us vs Q E hr e0 hb r hsp => ?_⟩
  have hl := len _ _ _ _ hsp
  have KX : K.In s.heap := e0.mod.kin.keeps fun b o e => (e0.bs b o e).1
  have lim : s.heap.NoLimit := e0.mod.nolimit.keeps fun b o e => (e0.bs b o e).1
  have hkind : ∀ y ∈ ps.zip us, (defScope st).names.lookup y.1 = some .local ∨ ((defScope st).names.lookup y.1 = some .cell ∧ ((cellsFrom (s.heap.objs.size + 1) (defScope st).names []).lookup y.1).isSome = true) := fun ⟨n, v⟩ hy => by
    rcases S.par n (List.of_mem_zip hy).1 with q | q
    · exact .inl q
    · exact .inr ⟨q, PySem.W.cellsFrom_some _ _ _ (.inl q)⟩
  refine codeAny_call_function hr.depth (KX _ _ lk) rfl S.co S.gen rfl (PySem.W.codeRec_of KX hcd) (hb _ _ _ _ ?_)
  refine wpAny_newFunctionEnv_cells S.kind hkind fun env he s1' x => ?_
  subst he
  refine ⟨lim.keeps x.toInCall.keep, codeAny_func ?_⟩
  obtain ⟨t1, te, cl, fr, js, h1, h2, cp, hq⟩ := hbody A outer s H vs Q E (hr.deeper _) hsp
  have I : Inv (cxOf CX0 P w K mg base N qual (defScope st) f (.ref c) A outer s H E) [] (L2.start N vs) H s1' := inv_start S hr.hd e0 hl r x
  have key : wpAny (model P w) (cxOf CX0 P w K mg base N qual (defScope st) f (.ref c) A outer s H E).A (execs [s1, .Return (some e) rp] (cxOf CX0 P w K mg base N qual (defScope st) f (.ref c) A outer s H E).env)
      (fun fl s' => ∃ u v σ' H', fl = Flow.ret u ∧ Inv (cxOf CX0 P w K mg base N qual (defScope st) f (.ref c) A outer s H E) [] σ' H' s' ∧ L2.RelV v u ∧ ∀ HE, Shown cl fr (js.map (slotAt σ')) H' HE → Q v HE) (cxOf CX0 P w K mg base N qual (defScope st) f (.ref c) A outer s H E).xe s1' := by
    refine wpAny_execs_cons (thn (h1.run [] s1' _ H _ I hq) fun fl s2 q => ?_)
    cases fl with
    | next =>
      obtain ⟨σ', H', I', q⟩ := q
      refine wpAny_execs_cons (wpAny_Return_some (thn (h2.run [] s2 σ' H' _ I' q) fun u s3 ⟨v, H3, I3, r3, q3⟩ => ⟨u, v, σ', H3, rfl, I3, r3, q3⟩))
    | ret v =>
      obtain ⟨_, _, _, _, _, q⟩ := q
      exact q.elim
    | brk =>
      obtain ⟨_, _, _, q⟩ := q
      exact q.elim
    | cont =>
      obtain ⟨_, _, _, q⟩ := q
      exact q.elim
  show wpAny _ _ (execs (defBody st) _) _ _ _
  rw [hbd]
  refine wpAny_mono key (fun fl s' hs => ?_) fun e s' hs => hs
  obtain ⟨u, v, σ', H', rfl, J, rv, q⟩ := hs
  have cp' := cp J.ok
  obtain ⟨HE, sh, ok, cel⟩ := show_of J.hok (cells_of J cp')
  have fresh : ∀ {b : Addr} {o : Obj}, s.heap.get? b = some o → ¬ isC cl b := fun {b o} g z => by
    have lo := (own_new J cp' (fun _ => rfl) z).1
    exact absurd (Nat.lt_of_lt_of_le (Heap.lt_size g) lo) (Nat.lt_irrefl _)
  have un := J.base
  show CE outer P w H s Q u s'
  refine ⟨v, HE, J.os, J.bare, ⟨un.keep, un.slot, fun b o g n hx => ?_, un.there, fun b xs e => sh.more b _ (un.tups b xs e), fun b o u e => sh.more b _ (un.frzs b o u e), fun b ps e => ?_⟩, ok, rv, q HE sh⟩
  · rw [sh.off b (fresh g)]
    exact un.free b o g n hx
  · obtain ⟨more, e⟩ := un.tbls b ps e
    exact ⟨more, sh.more b _ e⟩
end B5

/-! Parts: the law's laps and the program's columns, each ends at the partition of the words. -/
namespace B5
section
variable {n p : Nat} {step : Nat → Nat → Nat} {val : Nat → Int}
/-! ### laps -/
def keysL (n p : Nat) (step : Nat → Nat → Nat) (c : Nat → Nat) : List (List Nat) := (List.range n).map fun s => c s :: (leadS p step s).map c
theorem keysL_at {c : Nat → Nat} {s : Nat} (h : s < n) : (keysL n p step c)[s]? = some (c s :: (leadS p step s).map c) := by
  unfold keysL
  rw [List.getElem?_map, List.getElem?_range h]
  rfl
theorem keysL_len {c : Nat → Nat} : (keysL n p step c).length = n := by
  unfold keysL
  rw [List.length_map, List.length_range]
theorem lead_eq {c : Nat → Nat} {s t : Nat} : (leadS p step s).map c = (leadS p step t).map c ↔ ∀ d, d < p → c (step s d) = c (step t d) := by
  refine ⟨fun e d hd => ?_, fun h => ?_⟩
  · have := congrArg (fun l => l[d]?) e
    simp only [List.getElem?_map, leadS_at hd, Option.map_some, Option.some.injEq] at this
    exact this
  · unfold leadS
    rw [List.map_map, List.map_map]
    exact List.map_congr_left fun d hd => h d (List.mem_range.mp hd)
theorem lap_nums (c : Nat → Nat) : Lap n p step c (cOf (numB (keysL n p step c))) := fun s t hs ht => by
  rw [numB_iff (by rw [keysL_len]; exact hs) (by rw [keysL_len]; exact ht), keysL_at hs, keysL_at ht, Option.some.injEq, List.cons.injEq, lead_eq]
def lapsL (n p : Nat) (step : Nat → Nat → Nat) (l0 : List Nat) : Nat → List Nat
  | 0 => l0
  | k + 1 => numB (keysL n p step (cOf (lapsL n p step l0 k)))
theorem start_nums {worths : List Int} (hw : worths.length = n) (hv : ∀ s, s < n → worths[s]? = some (val s)) {s t : Nat} (hs : s < n) (ht : t < n) : cOf (numB worths) s = cOf (numB worths) t ↔ val s = val t := by
  rw [numB_iff (by omega) (by omega), hv s hs, hv t ht, Option.some.injEq]
theorem start_coarse {worths : List Int} (hw : worths.length = n) (hv : ∀ s, s < n → worths[s]? = some (val s)) : Coarse n p step val (cOf (numB worths)) := fun s t hs ht a => (start_nums hw hv hs ht).mpr a.now
/-- the law's classes -/
theorem laps_end (cl : ∀ s d, s < n → d < p → step s d < n) (n0 : 0 < n) {worths : List Int} (hw : worths.length = n) (hv : ∀ s, s < n → worths[s]? = some (val s)) {m : Nat} (hm : n ≤ m) :
    Stab n p step val (cOf (lapsL n p step (numB worths) m)) ∧ Coarse n p step val (cOf (lapsL n p step (numB worths) m)) := by
  refine ⟨laps_stab cl n0 (fun k => cOf (lapsL n p step (numB worths) k)) (fun s t hs ht e => (start_nums hw hv hs ht).mp e) hm fun k hk => lap_nums _, ?_⟩
  have all : ∀ k, Coarse n p step val (cOf (lapsL n p step (numB worths) k)) := by
    intro k
    induction k with
    | zero => exact start_coarse hw hv
    | succ k ih => exact (lap_nums _).coarse cl ih
  exact all m
/-! ### columns -/
def keysC (n many : Nat) (c f : Nat → Nat) : List Nat := (List.range n).map fun s => c s * many + c (f s)
theorem keysC_at {many : Nat} {c f : Nat → Nat} {s : Nat} (h : s < n) : (keysC n many c f)[s]? = some (c s * many + c (f s)) := by
  unfold keysC
  rw [List.getElem?_map, List.getElem?_range h]
  rfl
theorem keysC_len {many : Nat} {c f : Nat → Nat} : (keysC n many c f).length = n := by
  unfold keysC
  rw [List.length_map, List.length_range]
theorem pair_eq {m a b a' b' : Nat} (h : b < m) (h' : b' < m) : a * m + b = a' * m + b' ↔ a = a' ∧ b = b' := by
  refine ⟨fun e => ?_, fun ⟨e1, e2⟩ => by rw [e1, e2]⟩
  have q1 : (a * m + b) / m = a := by
    rw [Nat.mul_comm, Nat.mul_add_div (by omega), Nat.div_eq_of_lt h, Nat.add_zero]
  have q2 : (a' * m + b') / m = a' := by
    rw [Nat.mul_comm, Nat.mul_add_div (by omega), Nat.div_eq_of_lt h', Nat.add_zero]
  have ea : a = a' := by rw [← q1, e, q2]
  subst ea
  exact ⟨rfl, by omega⟩
theorem col_nums {many : Nat} {c f : Nat → Nat} (lt : ∀ s, s < n → c s < many) (hf : ∀ s, s < n → f s < n) : Col n f c (cOf (numB (keysC n many c f))) := fun s t hs ht => by
  rw [numB_iff (by rw [keysC_len]; exact hs) (by rw [keysC_len]; exact ht), keysC_at hs, keysC_at ht, Option.some.injEq, pair_eq (lt _ (hf s hs)) (lt _ (hf t ht))]
theorem Fin1.trans {a b c : Nat → Nat} (x : Fin1 a b n) (y : Fin1 b c n) : Fin1 a c n := fun s t hs ht e => y s t hs ht (x s t hs ht e)
theorem Col.coarse {f c c' : Nat → Nat} (l : Col n f c c') {d : Nat} (hd : d < p) (cl : ∀ s d, s < n → d < p → step s d < n) (hf : ∀ s, s < n → f s = step s d) (k : Coarse n p step val c) : Coarse n p step val c' := fun s t hs ht a =>
  (l s t hs ht).mpr ⟨k s t hs ht a, by rw [hf s hs, hf t ht]; exact k _ _ (cl s d hs hd) (cl t d ht hd) (a.next hd)⟩
/-- a pass over the columns: each is a list of states -/
def colF (l : List Nat) (s : Nat) : Nat := l.getD s 0
def passC (n : Nat) : List (List Nat) → List Nat → List Nat
  | [], l => l
  | f :: fs, l => passC n fs (numB (keysC n (cnt (cOf l) n) (cOf l) (colF f)))
/-- numbers as numB gives them -/
def Numbs (n : Nat) (l : List Nat) : Prop := l.length = n ∧ ∀ s, s < n → cOf l s < cnt (cOf l) n
theorem numbs_of {α : Type} [DecidableEq α] {keys : List α} (h : keys.length = n) : Numbs n (numB keys) := ⟨by rw [numB_len]; exact h, fun s hs => by rw [← manyOf_cnt n keys h]; exact numB_lt (by omega)⟩
theorem pass_all (cl : ∀ s d, s < n → d < p → step s d < n) : ∀ (fs : List (List Nat)) (l : List Nat), Numbs n l → (∀ f ∈ fs, ∃ d, d < p ∧ ∀ s, s < n → colF f s = step s d) →
    Numbs n (passC n fs l) ∧ Fin1 (cOf (passC n fs l)) (cOf l) n ∧ (Coarse n p step val (cOf l) → Coarse n p step val (cOf (passC n fs l))) ∧
    (cnt (cOf (passC n fs l)) n ≤ cnt (cOf l) n → Same1 (cOf (passC n fs l)) (cOf l) n ∧ ∀ f ∈ fs, ∀ s t, s < n → t < n → cOf l s = cOf l t → cOf l (colF f s) = cOf l (colF f t))
  | [], l, h, _ => ⟨h, fun _ _ _ _ e => e, id, fun _ => ⟨fun _ _ _ _ => Iff.rfl, fun _ z => nomatch z⟩⟩
  | f :: fs, l, h, hf => by
    obtain ⟨d, hd, ef⟩ := hf f (.head _)
    have bf : ∀ s, s < n → colF f s < n := fun s hs => by rw [ef s hs]; exact cl s d hs hd
    have col := col_nums (f := colF f) h.2 bf
    have h' : Numbs n (numB (keysC n (cnt (cOf l) n) (cOf l) (colF f))) := numbs_of keysC_len
    obtain ⟨i1, i2, i3, i4⟩ := pass_all cl fs _ h' fun g hg => hf g (.tail _ hg)
    refine ⟨i1, Fin1.trans i2 col.fin, fun k => i3 (col.coarse hd cl ef k), fun le => ?_⟩
    have le : cnt (cOf (passC n fs (numB (keysC n (cnt (cOf l) n) (cOf l) (colF f))))) n ≤ cnt (cOf l) n := le
    have le1 := cnt_le i2
    have le2 := cnt_le col.fin
    obtain ⟨s1, k1⟩ := col.still (by omega)
    obtain ⟨s2, k2⟩ := i4 (by omega)
    refine ⟨Same1.trans s2 s1, fun g hg s t hs ht e => ?_⟩
    rcases List.mem_cons.mp hg with rfl | hg
    · exact k1 s t hs ht e
    · obtain ⟨dg, hdg, eg⟩ := hf g (.tail _ hg)
      have := k2 g hg s t hs ht ((s1 s t hs ht).mpr e)
      rw [eg s hs, eg t ht] at this ⊢
      exact (s1 _ _ (cl s dg hs hdg) (cl t dg ht hdg)).mp this
/-- a pass that adds no class: the partition of the words -/
theorem pass_end (cl : ∀ s d, s < n → d < p → step s d < n) {fs : List (List Nat)} {l : List Nat} (h : Numbs n l) (hf : ∀ f ∈ fs, ∃ d, d < p ∧ ∀ s, s < n → colF f s = step s d) (all : ∀ d, d < p → ∃ f ∈ fs, ∀ s, s < n → colF f s = step s d)
    (k : Coarse n p step val (cOf l)) (tell : ∀ s t, s < n → t < n → cOf l s = cOf l t → val s = val t) (e : cnt (cOf (passC n fs l)) n = cnt (cOf l) n) :
    Stab n p step val (cOf (passC n fs l)) ∧ Coarse n p step val (cOf (passC n fs l)) := by
  obtain ⟨_, i2, i3, i4⟩ := pass_all (val := val) cl fs l h hf
  obtain ⟨s1, k1⟩ := i4 (by omega)
  refine ⟨⟨fun s t hs ht q d hd => ?_, fun s t hs ht q => tell s t hs ht (i2 s t hs ht q)⟩, i3 k⟩
  obtain ⟨f, hm, ef⟩ := all d hd
  have := k1 f hm s t hs ht (i2 s t hs ht q)
  rw [ef s hs, ef t ht] at this
  exact (s1 _ _ (cl s d hs hd) (cl t d ht hd)).mpr this
end
end B5

/-! Xf: what is asked of walks over names that are met. -/
namespace B5
open PySem PySem.Spec PyProof.Rows L2 Gd NdefX
abbrev nV : Nat → V := fun x => V.int (x : Nat)
theorem Lead.imp {P : Program} {w : World} {K : PySem.W.Frag} {mg : Str → Option Value} {base : Heap} {k : Nat} {f : Addr} {pre pre' : Hp → Prop} {sp sp' : Sp} (L : Lead P w K mg base k f pre sp) (hp : ∀ H, pre' H → pre H) (h : ∀ vs H Q, pre' H → sp' vs H Q E0 → sp vs H Q E0) : Lead P w K mg base k f pre' sp' :=
  ⟨fun H q => L.at_ H (hp H q), fun A outer s H us vs Q hr e0 q r hs => L.run A outer s H us vs Q hr e0 (hp H q) r (h vs H Q q hs)⟩
theorem Lead.mono {P : Program} {w : World} {K : PySem.W.Frag} {mg : Str → Option Value} {base : Heap} {j k : Nat} {f : Addr} {pre : Hp → Prop} {sp : Sp} (L : Lead P w K mg base j f pre sp) (h : j ≤ k) : Lead P w K mg base k f pre sp :=
  ⟨L.at_, fun A outer s H us vs Q hr => L.run A outer s H us vs Q (hr.mono h)⟩
/-- a step from a state below n by a digit below p -/
def spStep (n p : Nat) (lead : Nat → List Nat) : Sp := fun vs H Q _ => ∃ (s d b : Nat), vs = [.int s, .int d] ∧ s < n ∧ d < p ∧ (lead s)[d]? = some b ∧ ∀ H', More H H' → Q (.int b) H'
def TupN (H : Hp) (b : Addr) (row : List Nat) : Prop := H b = some (.tup (row.map nV))
/-- what a walk tells -/
def Told (H : Hp) (t : Addr) (met : List Nat) (rows : List (List Nat)) : Prop := ∃ (ls lm : Addr) (ts : List Addr), H t = some (.tup [.ref ls, .ref lm]) ∧ H ls = some (.lst (met.map nV)) ∧ H lm = some (.lst (ts.map V.ref)) ∧ Paired (TupN H) ts rows
def spXf (P : Program) (w : World) (K : PySem.W.Frag) (mg : Str → Option Value) (base : Heap) (k : Nat) : Sp := fun vs H Q _ => ∃ (a f : Addr) (p n s0 : Nat) (lead : Nat → List Nat) (pre : Hp → Prop), vs = [.ref a, .ref f, .int p, .non] ∧ H a = some (.lst [.int s0]) ∧ (∀ H', More H H' → pre H') ∧
  Lead P w K mg base k f pre (spStep n p lead) ∧ (∀ s, s < n → (lead s).length = p ∧ ∀ b ∈ lead s, b < n) ∧ s0 < n ∧ n ≤ 1000 ∧ p ≤ 1000 ∧ ∀ (H' : Hp) (t : Addr), More H H' → Told H' t (walkFrom lead n s0).1 (walkFrom lead n s0).2 → Q (.ref t) H'
def spXp (P : Program) (w : World) (K : PySem.W.Frag) (mg : Str → Option Value) (base : Heap) (k : Nat) : Sp := fun vs H Q _ => ∃ (f : Addr) (p n s0 : Nat) (lead : Nat → List Nat) (pre : Hp → Prop), vs = [.int s0, .ref f, .int p, .non] ∧ (∀ H', More H H' → pre H') ∧
  Lead P w K mg base k f pre (spStep n p lead) ∧ (∀ s, s < n → (lead s).length = p ∧ ∀ b ∈ lead s, b < n) ∧ s0 < n ∧ n ≤ 1000 ∧ p ≤ 1000 ∧ ∀ (H' : Hp) (t : Addr), More H H' → Told H' t (walkFrom lead n s0).1 (walkFrom lead n s0).2 → Q (.ref t) H'
/-- the dict tells the places of the names -/
structure DNn (H : Hp) (d : Addr) (st : List Nat) : Prop where
  ex : ∃ kvs, H d = some (.dK kvs) ∧ st.length = kvs.length ∧ ∀ x : Nat, valV kvs (Sum.inl (x : Int)) = (ixOf st x).map fun i => V.int (i : Nat)
theorem putK_new' {kvs : List (Key × V)} {k : Key} {v : V} (h : valV kvs k = none) : (putK kvs k v).length = kvs.length + 1 := by
  have e := valV_any k kvs
  rw [h, Option.isSome_none] at e
  unfold putK
  rw [if_neg (by rw [e]; exact Bool.false_ne_true), List.length_append]
  rfl
/-- a dict comprehension over what is walked -/
theorem dc_it {J : It} {n : Nat} {G : Hp → Prop} {Y : Nat → Hp → V → Hp → Prop} (w : Walk J n G Y) {g : TG} {tt : TT} {tk tv : TE} {vs : List Nat} {σ : L2.St} {H1 : Hp} {D : Addr} {Qd : Hp → Prop} (Pv : Nat → Hp → Prop) (h0 : Pv 0 (upd H1 D (.dK []))) (hG : ∀ i H, i ≤ n → Pv i H → G H)
    (hs : ∀ i x H H', i < n → Pv i H → Y i H x H' → g x (wipe σ vs) H' fun σ2 H2 => wipe σ2 vs = wipe σ vs ∧ tt σ2 H2 fun b H3 =>
      if b = true then tk σ2 H3 fun y H4 => tv σ2 H4 fun z H5 => ∃ kvs k, y = kV k ∧ H5 D = some (.dK kvs) ∧ kvs.length < sizeLine ∧ Pv (i + 1) (upd H5 D (.dK (putK kvs k z))) else Pv (i + 1) H3) (hd : ∀ H, Pv n H → Qd H) :
    ∃ W : Nat → Nat → Hp → Prop, (∃ m, W 0 m (upd H1 D (.dK []))) ∧ ∀ i m H, W i m H →
      (J.stop i H ∧ Qd H) ∨ (J.go i H ∧ ∃ Nx : Hp → Prop, (∀ H', Nx H' → ∃ m', m' < m ∧ W (i + 1) m' H') ∧ ∀ x H', J.yld i H x H' → g x (wipe σ vs) H' fun σ2 H2 => wipe σ2 vs = wipe σ vs ∧ tt σ2 H2 fun b H3 =>
        if b = true then tk σ2 H3 fun y H4 => tv σ2 H4 fun z H5 => ∃ kvs k, y = kV k ∧ H5 D = some (.dK kvs) ∧ kvs.length < sizeLine ∧ Nx (upd H5 D (.dK (putK kvs k z))) else Nx H3) := by
  refine ⟨fun i m H => m = n - i ∧ i ≤ n ∧ Pv i H, ⟨n, by simp, Nat.zero_le _, h0⟩, ?_⟩
  rintro i m H ⟨rfl, hi, p⟩
  have q := hG i H hi p
  by_cases hlt : i < n
  · exact .inr ⟨w.goes i H hlt q, Pv (i + 1), fun H' p' => ⟨n - (i + 1), by omega, rfl, hlt, p'⟩, fun x H' y => hs i x H H' hlt p (w.yields i H x H' hlt q y)⟩
  · have e : i = n := by omega
    subst e
    exact .inl ⟨w.stops H q, hd H p⟩
theorem swD_true {kx vx : Expr} {gs : List Comprehension} {scope : Scope} {pos py : Pos} {y : Str} {l : Nat} {env : Env} (hk : env.scope.kind = .function) (hy : env.scope.names.lookup y = some .local) (hl : (py.line == pos.line) = true)
    (ha : (scope.names.any fun (n, k) => n == y && (k == .local || k == .cell)) = false) : swapsWith (.DictComp kx vx gs scope pos) (some (.Name y py)) l env = pure true := by
  have ky : env.kindOf y = some .local := hy
  have hb : env.blockKind = .function := by unfold Env.blockKind; rw [hk]; rfl
  unfold swapsWith
  simp only [hb, ky, ha, Expr.pos, hl]
  rfl
/-- name = {k: v ..} on one line, the name a local -/
theorem ps_setDc {X : Cx} {i : Nat} {y : Str} {py : Pos} {kx vx tg iter : Expr} {ifs : List Expr} {scope : Scope} {own : List (Str × Nat)} {pos spos : Pos} {wi : TI} {g : TG} {tt : TT} {tk tv : TE} (hc : X.calm = true) (hN : X.N.Nodup) (hy : X.N[i]? = some y) (hyl : X.env.scope.names.lookup y = some .local)
    (hsw : swapsWith (.DictComp kx vx [⟨tg, iter, ifs, 0⟩] scope pos) (some (.Name y py)) spos.line X.env = pure true) (hi : PI X tg iter wi) (ok : BlkOk X.N X.env.scope scope own)
    (hg : ∀ (s : Shared) (H : Hp) (C : Addr) (cl : List (Str × Addr)) (fp : List Addr), PG (X.blk s H scope (compEnvC scope cl C X.env) fp) tg g) (ht : ∀ (s : Shared) (H : Hp) (C : Addr) (cl : List (Str × Addr)) (fp : List Addr), PTs (X.blk s H scope (compEnvC scope cl C X.env) fp) ifs tt)
    (hk : ∀ (s : Shared) (H : Hp) (C : Addr) (cl : List (Str × Addr)) (fp : List Addr), PE (X.blk s H scope (compEnvC scope cl C X.env) fp) kx tk)
    (he : ∀ (s : Shared) (H : Hp) (C : Addr) (cl : List (Str × Addr)) (fp : List Addr), PE (X.blk s H scope (compEnvC scope cl C X.env) fp) vx tv) (hs : ∀ x, foldedSetIterable iter X.env x = pure x := by intro _; rfl) :
    PS X (.Assign [.Name y py] (.DictComp kx vx [⟨tg, iter, ifs, 0⟩] scope pos) spos) (tAsg (tDc wi g tt tk tv (own.map (·.2))) (gName i)) := by
  refine ⟨fun pins s σ H D I h => ?_⟩
  rw [exec_Assign_Name_used _ _ _ _ hsw]
  refine wpAny_bind (wpAny_standAt (wpAny_bind ?_))
  show wpAny _ X.A (do let _ ← comprehension (.DictComp kx vx [⟨tg, iter, ifs, 0⟩] scope pos) scope X.env (firstIterPos [⟨tg, iter, ifs, 0⟩] pos) newDict false (eval iter X.env) (some (assign (.Name y py) X.env))) _ _ s
  have h : tDc wi g tt tk tv (own.map (·.2)) σ H (fun x H1 => gName i x σ H1 D.nx) := h
  refine wpAny_bind (thn (dc_core (Qf := fun _ s' => SP X pins D .next s') hc hN I hi ok hg ht hk he hs h fun L C s' m H' I' q hn f => ?_) fun _ s' hq => wpAny_pure (wpAny_pure hq))
  show wpAny _ _ (assign (.Name y py) X.env (.ref L)) _ _ _
  refine wpAny_assign_Name (store_ok2 (v := V.ref L) I' hN hy (.inl hyl) rfl (fun s2 I2 ⟨a, sb, ha⟩ => ?_) (.inr hyl))
  obtain ⟨f0, f1, f2, f3, f4, f5⟩ := f
  have haC : C ≠ a := by
    rcases ha with z | z
    · rw [z]; exact f1
    · exact fun e => f4 y a z e.symm
  refine ⟨m, hn.sameBut sb haC, fun h3 sb3 => ?_⟩
  exact ⟨_, H', I2.turned (t' := s2.toks) (fun b o hb e => (sb3.2 b hb).trans e) f0 f1 f3 f4 f5, q⟩
/-! ### what stays -/
theorem sqT_by {K : PySem.W.Frag} {H H' : Hp} {t : Addr} {xs : List V} (e : ∀ o, H t = some o → (∀ φ, o ≠ .ext φ) → (∀ ps, o ≠ .tbl ps) → H' t = some o) (h : SqT K H t xs) : SqT K H' t xs := by
  rcases h with (h | ⟨o, h⟩) | h
  · exact .inl (.inl (e _ h (fun φ z => by cases z) (fun ps z => by cases z)))
  · exact .inl (.inr ⟨o, e _ h (fun φ z => by cases z) (fun ps z => by cases z)⟩)
  · exact .inr h
theorem sqT_ext {K : PySem.W.Frag} {H H' : Hp} {t : Addr} {xs : List V} (e : LamX.ExtN H H') (h : SqT K H t xs) : SqT K H' t xs := sqT_by (fun o a _ c => e _ o a c) h
theorem hide_by {cl : List (Str × Addr)} {fr : List Str} {ws : List (Option V)} {H : Hp} (x : Exd cl fr ws H) {t : Addr} {o : HO} (h : H t = some o) (n : ∀ φ, o ≠ .ext φ) : hide cl H t = some o := by
  rw [hide_no fun z => ?_]
  · exact h
  · obtain ⟨ob, r⟩ := x.ex z
    rw [r] at h
    cases h
    exact n _ rfl
theorem sqT_hide {K : PySem.W.Frag} {cl : List (Str × Addr)} {fr : List Str} {ws : List (Option V)} {H : Hp} {t : Addr} {xs : List V} (x : Exd cl fr ws H) (h : SqT K H t xs) : SqT K (hide cl H) t xs := sqT_by (fun o a b _ => hide_by x a b) h
theorem pairT_hide {K : PySem.W.Frag} {cl : List (Str × Addr)} {fr : List Str} {ws : List (Option V)} {H : Hp} {xs : List V} {dss : List (List Int)} (x : Exd cl fr ws H) (h : Paired (TupI K H) xs dss) : Paired (TupI K (hide cl H)) xs dss :=
  paired_imp (fun v k ⟨b, e, s⟩ => ⟨b, e, sqT_hide x s⟩) h
theorem pairT_ext {K : PySem.W.Frag} {H H' : Hp} {xs : List V} {dss : List (List Int)} (e : LamX.ExtN H H') (h : Paired (TupI K H) xs dss) : Paired (TupI K H') xs dss := paired_imp (fun v k ⟨b, e1, s⟩ => ⟨b, e1, sqT_ext e s⟩) h
theorem more_lay {cl : List (Str × Addr)} {H H' : Hp} (m : More (hide cl H) H') : More H (lay cl H H') := fun b o e => by
  by_cases z : isC cl b
  · rw [lay_at z]; exact e
  · rw [lay_no z]; exact m b o (by rw [hide_no z]; exact e)
theorem Exd.more {cl : List (Str × Addr)} {fr : List Str} {ws : List (Option V)} {H H' : Hp} (x : Exd cl fr ws H) (m : More H H') : Exd cl fr ws H' := x.same fun b z => by
  obtain ⟨ob, e⟩ := x.ex z
  rw [e]
  exact m _ _ e
theorem Shown.nc {cl : List (Str × Addr)} {fr : List Str} {ws : List (Option V)} {H HE : Hp} (sh : Shown cl fr ws H HE) {b : Addr} {o : HO} (h : H b = some o) : ¬ isC cl b := fun z => by rw [sh.on b z] at h; cases h
end B5

namespace K71
open PySem L2 Gd B5 NdefX
section
variable {P : Program} {w : World} {K : PySem.W.Frag} {mg : Str → Option Value} {base : Heap} {g1 f : Addr} {d1 fd : FuncData}
abbrev sXf : Stmt := top 15
abbrev NXf : List Str := ["starts", "lead", "many", "most", "places", "states", "moves", "state", "row", "step", "further", "at", "start"]
theorem scXf : FnScope NXf ["starts", "lead", "many", "most"] (defScope sXf) := ⟨rfl, rfl, rfl, by decide +kernel, rfl, by decide +kernel, by decide +kernel⟩
theorem ok_xf (F : Fun K "explored_from" "explored_from" sXf f fd) (B : Blt mg) (zEnum : mg "enumerate" = none) : FnOk P w K mg base CX0 2 f fd ["starts", "lead", "many", "most"] (spXf P w K mg base 1) := by
  refine F.ok scXf (fun vs H Q E h => ?_) (fun cdv A outer s H vs Q E hr h => ?_)
  · obtain ⟨a, f0, p, n, s0, lead, pre, rfl, _⟩ := h
    rfl
  · obtain ⟨a, f0, p, n, s0, lead, pre, rfl, ha, hpre, L, leads, s0n, fewn, fewp, q⟩ := h
    have hu := hu_of hr
    refine ⟨_, pss_cons (ps_setDc (i := 4) (own := [("at", 11), ("start", 12)]) (g := gTup K 2 (gCons (gName 11) (gCons (gName 12) gNil))) (tt := tYes) rfl scXf.nd rfl rfl (swD_true rfl rfl rfl (by decide +kernel)) (pi_enum (by rfl) zEnum (pa_cons (pv 0) pa_nil))
          (blkOk_by (N := NXf) (sc := defScope sXf) (by decide +kernel)) (fun _ _ _ _ _ => pg_tup rfl (pgs_cons (pg_name (i := 11) scXf.nd rfl (Or.inl rfl)) (pgs_cons (pg_name (i := 12) scXf.nd rfl (Or.inl rfl)) pgs_nil))) (fun _ _ _ _ _ => pts_nil)
          (fun _ _ _ _ _ => pv 12) (fun _ _ _ _ _ => pv 11))
      (pss_cons (ps_set (i := 5) scXf.nd rfl (Or.inl rfl) (pe_callTy call_list_of (by rfl) B.list_ (by decide +kernel) (pa_cons (pv 0) pa_nil)))
      (pss_cons (ps_set (i := 6) scXf.nd rfl (Or.inl rfl) (pe_lst pa_nil))
      (pss_cons (ps_while PassesOwn.never (pt_cmpR op_lt (pe_callB call_len_seq (by rfl) B.len_ PySem.boot_len (pa_cons (pv 6) pa_nil)) (pe_callB call_len_seq (by rfl) B.len_ PySem.boot_len (pa_cons (pv 5) pa_nil)) (nomark _))
        (pss_cons (ps_set (i := 7) scXf.nd rfl (Or.inl rfl) (pe_ix ix_list (pv 5) (pe_callB call_len_seq (by rfl) B.len_ PySem.boot_len (pa_cons (pv 6) pa_nil)) (fun _ _ => rfl)))
        (pss_cons (ps_set (i := 8) scXf.nd rfl (Or.inl rfl) (pe_lst pa_nil))
        (pss_cons (ps_for PassesOwn.never rfl (pi_range1 (by rfl) B.range_ (pa_cons (pv 2) pa_nil)) (pg_name (i := 9) scXf.nd rfl (Or.inl rfl))
          (pss_cons (ps_set (i := 10) scXf.nd rfl (Or.inl rfl) (pe_lead (k := 1) (i := 1) hr rfl (Or.inl rfl) (pa_cons (pv 7) (pa_cons (pv 9) pa_nil))))
          (Evl.pss_cut (ps_if (pt_cmp (pc_dnotin hu (pv 10) (pv 4)))
            (pss_cons (ps_dput hu (pv 4) (pv 10) (pe_callB call_len_seq (by rfl) B.len_ PySem.boot_len (pa_cons (pv 5) pa_nil)) rfl)
              (pss_one (ps_expr (pe_bm PySem.F.plainAttrs_list PySem.F.slot_list_append PySem.F.type_list_append mt_append (pv 5) (pa_cons (pv 10) pa_nil))))) pss_nil)
          (pss_one (ps_expr (pe_bm PySem.F.plainAttrs_list PySem.F.slot_list_append PySem.F.type_list_append mt_append (pv 8) (pa_cons (pe_dget hu (pv 4) (pv 10) (fun _ _ => rfl)) pa_nil)))))))
        (pss_cons (ps_if (PW.pt (pw_and (pt_cmpR op_notN (pv 3) pe_non (nomark _)) (pw_and1 (pt_cmpR op_gt (pe_callB call_len_seq (by rfl) B.len_ PySem.boot_len (pa_cons (pv 5) pa_nil)) (pv 3) (nomark _))))) (pss_one (ps_ret pe_non)) pss_nil)
        (pss_one (ps_expr (pe_bm PySem.F.plainAttrs_list PySem.F.slot_list_append PySem.F.type_list_append mt_append (pv 6) (pa_cons (pe_callTy call_tuple_of (by rfl) B.tup_ (by decide +kernel) (pa_cons (pv 8) pa_nil)) pa_nil)))))))))
      (pss_one (ps_ret (pe_tup (pa_cons (pv 5) (pa_cons (pv 6) pa_nil)))))))), ?_⟩
    -- the places
    refine ⟨_, rfl, a, _, rfl, SqL.of ha, fun d hd => ?_⟩
    have m1 := new_more (o := .dK []) hd
    refine dc_it (H1 := H) (D := d) (walk_enum (xs := [V.int s0])) (fun i H' => More H H' ∧ ((i = 0 ∧ H' d = some (.dK [])) ∨ (i = 1 ∧ DNn H' d [s0]))) ⟨m1, .inl ⟨rfl, upd_same⟩⟩ (fun i H' _ h => SqL.of (h.1 _ _ ha)) ?_ ?_
    · rintro i x H1 H2 hi ⟨m, h⟩ ⟨T, u, y, rfl, nT, rfl, hu', hy⟩
      have i0 : i = 0 := by have : i < 1 := hi; omega
      subst i0
      cases hu'
      cases hy
      obtain ⟨_, hk⟩ | ⟨z, _⟩ := h
      · have m7 := m.new (o := .tup [.int (0 : Nat), .int s0]) nT
        refine ⟨T, _, rfl, SqT.of upd_same, rfl, _, _, rfl, _, _, rfl, rfl, rfl, ?_⟩
        refine ⟨_, rfl, _, rfl, [], Sum.inl (s0 : Int), rfl, (upd_ne (ne_of_none hk nT)).trans hk, by decide, More.at m7 hd, .inr ⟨rfl, _, upd_same, rfl, fun x => ?_⟩⟩
        rw [valV_put]
        by_cases z : x = s0
        · subst z
          rw [if_pos rfl]
          show _ = Option.map _ (if x = x then _ else _)
          rw [if_pos rfl]
          rfl
        · rw [if_neg fun q => z (by have := Sum.inl.inj q; omega)]
          show none = Option.map _ (if s0 = x then _ else _)
          rw [if_neg fun q => z q.symm]
          rfl
      · omega
    rintro H1 ⟨mo1, h⟩
    have dn : DNn H1 d [s0] := by
      obtain ⟨z, _⟩ | ⟨_, h⟩ := h
      · cases z
      · exact h
    clear m1 h
    -- the states, the rows
    refine ⟨_, rfl, a, _, rfl, .inl (SqL.of (mo1 _ _ ha)), fun ls nls => ?_⟩
    have m2 := new_more (o := .lst [V.int s0]) nls
    have ks : (upd H1 ls (.lst [V.int s0])) ls = some (.lst ([s0].map nV)) := upd_same
    refine ⟨by show 0 ≤ sizeLine; exact Nat.zero_le _, fun lm nlm => ?_⟩
    have m3 := new_more (o := .lst []) nlm
    have km : (upd (upd H1 ls (.lst [V.int s0])) lm (.lst [])) lm = some (.lst (([] : List Addr).map V.ref)) := upd_same
    have ls0 : H ls = none := mo1.off nls
    have lm0 : H lm = none := mo1.off (m2.off nlm)
    have lsm : ls ≠ lm := ne_of_none ks nlm
    have ks := m3 _ _ ks
    have dn2 : DNn (upd (upd H1 ls (.lst [V.int s0])) lm (.lst [])) d [s0] := by
      obtain ⟨kvs, e1, e2, e3⟩ := dn.ex
      exact ⟨kvs, m3 _ _ (m2 _ _ e1), e2, e3⟩
    have mo3 : More H (upd (upd H1 ls (.lst [V.int s0])) lm (.lst [])) := fun b o e => m3 _ _ (m2 _ _ (mo1 _ _ e))
    generalize upd (upd H1 ls (.lst [V.int s0])) lm (.lst []) = H3 at ks km dn2 mo3 ⊢
    clear dn m2 m3 nls nlm mo1
    have bnd : ∀ l : List Nat, l.Nodup → (∀ x ∈ l, x < n) → l.length ≤ n := fun l nd al => nodup_below n l nd al
    have cl : ∀ s, s < n → ∀ b ∈ lead s, b < n := fun s hs => (leads s hs).2
    refine while_by (fun σ H' => ∃ (z7 z8 z9 z10 : Option V) (i : Nat) (st : List Nat) (rows : List (List Nat)) (ts : List Addr), σ = [some (.ref a), some (.ref f0), some (.int p), some .non, some (.ref d), some (.ref ls), some (.ref lm), z7, z8, z9, z10, none, none] ∧ DNn H' d st ∧ H' ls = some (.lst (st.map nV)) ∧ H' lm = some (.lst (ts.map V.ref)) ∧ Paired (TupN H') ts rows ∧ More H H' ∧
        WalkI lead (fun x => x < n) [s0] i st rows ∧ walkB lead (n + 1 - i) i st rows = walkFrom lead n s0 ∧ i ≤ n)
      (fun σ H' => match H' lm with | some (.lst xs) => n + 1 - xs.length | _ => 0)
      ⟨none, none, none, none, 0, [s0], [], [], rfl, dn2, ks, km, .nil, mo3, ⟨rfl, Nat.zero_le _, by simp, fun x hx => by
        have : x = s0 := by simpa using hx
        rw [this]; exact s0n, List.prefix_refl _, fun j _ _ hj => by omega⟩, rfl, Nat.zero_le _⟩ ?_ ?_
    · rintro σ H4 ⟨z7, z8, z9, z10, i, st, rows, ts, rfl, dn4, ks4, km4, pr4, mo4, wi, wk, hi⟩
      have lts : ts.length = i := by rw [Paired.length pr4, wi.len]
      have lt1 : (ts.map V.ref).length = i := by rw [List.length_map, lts]
      have lt2 : (st.map nV).length = st.length := List.length_map _
      have lst := bnd st wi.nd wi.all
      refine ⟨_, rfl, lm, _, rfl, .inl (SqL.of km4), _, rfl, ls, _, rfl, .inl (SqL.of ks4), _, _, rfl, rfl, _, rfl, ite2 (fun hm => ?_) (fun hm => ?_)⟩
      · have hm := of_decide_eq_true hm
        have ii : i < st.length := by omega
        obtain ⟨s, hs⟩ : ∃ s, st[i]? = some s := ⟨st[i], List.getElem?_eq_getElem ii⟩
        have sn := wi.all s (List.mem_of_getElem? hs)
        obtain ⟨ll, al⟩ := leads s sn
        refine ⟨_, rfl, _, rfl, lm, _, rfl, .inl (SqL.of km4), ls, _, _, _, rfl, rfl, SqL.of ks4, atI_nat (by rw [lt1]; exact at_map hs), ?_⟩
        refine ⟨by show 0 ≤ sizeLine; exact Nat.zero_le _, fun lr nlr => ?_⟩
        have m5 := new_more (o := .lst []) nlr
        have lr0 : H lr = none := mo4.off nlr
        have lrs : ls ≠ lr := ne_of_none ks4 nlr
        have lrm : lm ≠ lr := ne_of_none km4 nlr
        have kr5 : (upd H4 lr (.lst [])) lr = some (.lst (([] : List Nat).map nV)) := upd_same
        have ks5 := m5 _ _ ks4
        have km5 := m5 _ _ km4
        have pr5 := paired_imp (S := TupN (upd H4 lr (.lst []))) (fun b row e => m5 _ _ e) pr4
        have dn5 : DNn (upd H4 lr (.lst [])) d st := by
          obtain ⟨kvs, e1, e2, e3⟩ := dn4.ex
          exact ⟨kvs, m5 _ _ e1, e2, e3⟩
        have mo5 : More H (upd H4 lr (.lst [])) := fun b o e => m5 _ _ (mo4 _ _ e)
        generalize upd H4 lr (.lst []) = H5 at kr5 ks5 km5 pr5 dn5 mo5 ⊢
        have nds : ∀ j, ((noteAll st ((lead s).take j)).1).Nodup := fun j => noteAll_nd _ wi.nd
        have alls : ∀ j, ∀ x ∈ (noteAll st ((lead s).take j)).1, x < n := fun j x hx => by
          rcases noteAll_mem _ _ x hx with hx | hx
          · exact wi.all x hx
          · exact al x (List.mem_of_mem_take hx)
        have lens : ∀ j, ((noteAll st ((lead s).take j)).1).length ≤ n := fun j => bnd _ (nds j) (alls j)
        refine ⟨_, rfl, _, rfl, by omega, by omega, for_range (lo := 0) (n := p) (fun j σ' H' => ∃ (z9 z10 : Option V), σ' = [some (.ref a), some (.ref f0), some (.int p), some .non, some (.ref d), some (.ref ls), some (.ref lm), some (.int s), some (.ref lr), z9, z10, none, none] ∧ DNn H' d (noteAll st ((lead s).take j)).1 ∧ H' ls = some (.lst ((noteAll st ((lead s).take j)).1.map nV)) ∧
            H' lm = some (.lst (ts.map V.ref)) ∧ Paired (TupN H') ts rows ∧ More H H' ∧ H' lr = some (.lst ((noteAll st ((lead s).take j)).2.map nV)))
          ⟨z9, z10, rfl, dn5, ks5, km5, pr5, mo5, kr5⟩ ?_ ?_⟩
        · rintro j σ' H6 hj ⟨z9, z10, rfl, dn6, ks6, km6, pr6, mo6, kr6⟩
          rw [Int.zero_add]
          obtain ⟨b, eb⟩ : ∃ b, (lead s)[j]? = some b := ⟨(lead s)[j]'(by omega), List.getElem?_eq_getElem (by omega)⟩
          have tk : (lead s).take (j + 1) = (lead s).take j ++ [b] := by rw [List.take_add_one, eb]; rfl
          refine ⟨f0, pre, _, rfl, L, L.at_ _ (hpre _ mo6), _, rfl, _, rfl, hpre _ mo6, s, j, b, rfl, sn, hj, eb, fun H7 m67 => ?_⟩
          have ks7 := m67 _ _ ks6
          have km7 := m67 _ _ km6
          have kr7 := m67 _ _ kr6
          have pr7 := paired_imp (S := TupN H7) (fun b row e => m67 _ _ e) pr6
          have mo7 : More H H7 := fun b o e => m67 _ _ (mo6 _ _ e)
          obtain ⟨kvs, hk, lk, vals⟩ : DNn H7 d (noteAll st ((lead s).take j)).1 := by
            obtain ⟨kvs, e1, e2, e3⟩ := dn6.ex
            exact ⟨kvs, m67 _ _ e1, e2, e3⟩
          have sn1 := noteAll_snoc b ((lead s).take j) st
          rw [← tk] at sn1
          have nj := nds j
          have lj := lens j
          have l2 := (noteAll_at ((lead s).take j) st).1
          have l3 : ((lead s).take j).length ≤ p := by rw [List.length_take]; omega
          generalize noteAll st ((lead s).take j) = q0 at ks7 kr7 hk lk vals sn1 nj lj l2 ⊢
          obtain ⟨st0, row0⟩ := q0
          have lj : st0.length ≤ n := lj
          have l2 : row0.length = ((lead s).take j).length := l2
          have lk : st0.length = kvs.length := lk
          have nj : st0.Nodup := nj
          have vals : ∀ x : Nat, valV kvs (Sum.inl (x : Int)) = (ixOf st0 x).map fun i => V.int (i : Nat) := vals
          clear ks6 km6 kr6 pr6 dn6 m67
          rw [sn1]
          have dls : d ≠ ls := ne_of hk ks7 (fun z => by cases z)
          have dlm : d ≠ lm := ne_of hk km7 (fun z => by cases z)
          have dlr : d ≠ lr := ne_of hk kr7 (fun z => by cases z)
          have tne : ∀ {c : Addr} {row : List Nat} {xs : List V} {e : Addr}, TupN H7 c row → H7 e = some (.lst xs) → c ≠ e := fun {c row xs e} h1 h2 => ne_of h1 h2 (fun z => by cases z)
          have tnd : ∀ {c : Addr} {row : List Nat}, TupN H7 c row → c ≠ d := fun {c row} h1 => ne_of h1 hk (fun z => by cases z)
          refine ⟨fun σ' H' => σ' = [some (.ref a), some (.ref f0), some (.int p), some .non, some (.ref d), some (.ref ls), some (.ref lm), some (.int s), some (.ref lr), some (.int j), some (.int b), none, none] ∧ DNn H' d (note st0 b).1 ∧ H' ls = some (.lst ((note st0 b).1.map nV)) ∧
            H' lm = some (.lst (ts.map V.ref)) ∧ Paired (TupN H') ts rows ∧ More H H' ∧ H' lr = some (.lst (row0.map nV)), ?_, ?_⟩
          · refine ⟨_, rfl, _, rfl, d, _, rfl, DGet.k (k := Sum.inl (b : Int)) hk, _, rfl, ?_⟩
            rw [vals b]
            cases e : ixOf st0 b with
            | some i0 =>
              refine iteF ⟨rfl, ?_, ?_, km7, pr7, mo7, kr7⟩
              · unfold note
                rw [e]
                exact ⟨kvs, hk, lk, vals⟩
              · unfold note
                rw [e]
                exact ks7
            | none =>
              have nv : valV kvs (Sum.inl (b : Int)) = none := by rw [vals b, e]; rfl
              refine iteT ⟨_, rfl, ls, _, rfl, .inl (SqL.of ks7), _, rfl, _, rfl, d, _, rfl, DPut.k (k := Sum.inl (b : Int)) hk (small1000 (by rw [← lk]; omega)), ?_⟩
              have ks8 : (upd H7 d (.dK (putK kvs (Sum.inl (b : Int)) (.int ((st0.map nV).length : Nat))))) ls = some (.lst (st0.map nV)) := (upd_ne dls.symm).trans ks7
              refine ⟨_, rfl, .inl ⟨rfl, _, SqL.of ks8⟩, _, rfl, ls, _, _, rfl, rfl, ks8, by rw [List.length_map]; exact small1000 (by omega), ?_⟩
              have en : note st0 b = (st0 ++ [b], st0.length) := by unfold note; rw [e]
              rw [en]
              refine ⟨rfl, ⟨_, (upd_ne dls).trans upd_same, ?_, fun x => ?_⟩, ?_, ?_, ?_, More.at (More.at mo7 hd) ls0, ?_⟩
              · rw [putK_new' nv, ← lk, List.length_append]
                rfl
              · rw [valV_put, ixOf_app]
                by_cases z : x = b
                · subst z
                  rw [if_pos rfl, e, if_pos rfl, List.length_map]
                  rfl
                · rw [if_neg fun q => z (by have := Sum.inl.inj q; omega), vals x]
                  cases ixOf st0 x with
                  | some t => rfl
                  | none =>
                    show none = Option.map _ (if b = x then _ else none)
                    rw [if_neg fun q => z q.symm]
                    rfl
              · rw [upd_same, List.map_append]
                rfl
              · rw [upd_ne lsm.symm, upd_ne dlm.symm]
                exact km7
              · exact paired_imp (S := TupN _) (fun c row (e : TupN H7 c row) => (upd_ne (tne e ks7)).trans ((upd_ne (tnd e)).trans e)) pr7
              · rw [upd_ne lrs.symm, upd_ne dlr.symm]
                exact kr7
          · rintro σ2 H8 ⟨rfl, ⟨kv8, hk8, lk8, vals8⟩, ks8, km8, pr8, mo8, kr8⟩
            have es := ixOf_self (note_nd nj b) (note_at st0 b)
            have l2' : row0.length ≤ p := by omega
            refine ⟨_, rfl, .inl ⟨rfl, _, SqL.of kr8⟩, _, rfl, _, rfl, d, V.int ((note st0 b).2 : Nat), rfl, dg (Sum.inl (b : Int)) hk8 (by rw [vals8 b, es]; rfl), lr, _, _, rfl, rfl, kr8, by rw [List.length_map]; exact small1000 (by omega), ?_⟩
            have dlr8 : d ≠ lr := ne_of hk8 kr8 (fun z => by cases z)
            refine ⟨_, _, rfl, ⟨kv8, (upd_ne dlr8).trans hk8, lk8, vals8⟩, (upd_ne lrs).trans ks8, (upd_ne lrm).trans km8, paired_imp (S := TupN _) (fun c row (e : TupN H8 c row) => (upd_ne (ne_of e kr8 (fun z => by cases z))).trans e) pr8, More.at mo8 lr0, ?_⟩
            rw [upd_same, List.map_append]
            rfl
        · rintro σ' H6 ⟨z9', z10', rfl, dn6, ks6, km6, pr6, mo6, kr6⟩
          have tkp : (lead s).take p = lead s := by rw [← ll, List.take_length]
          rw [tkp] at dn6 ks6 kr6
          have eF : (!decide (V.non = V.non)) = false := by rw [decide_eq_true rfl]; rfl
          refine ⟨_, rfl, rfl, _, rfl, ?_⟩
          rw [eF]
          refine iteF (iteF ?_)
          have lr2 : (noteAll st (lead s)).2.length = p := by rw [(noteAll_at (lead s) st).1, ll]
          refine ⟨_, rfl, .inl ⟨rfl, _, SqL.of km6⟩, _, rfl, lr, _, rfl, .inl ⟨SqL.of kr6, fun t ht => ?_⟩⟩
          have mt := new_more (o := .tup ((noteAll st (lead s)).2.map nV)) ht
          have kt : (upd H6 t (.tup ((noteAll st (lead s)).2.map nV))) t = some (.tup ((noteAll st (lead s)).2.map nV)) := upd_same
          have ks7 := mt _ _ ks6
          have km7 := mt _ _ km6
          have pr7 := paired_imp (S := TupN (upd H6 t (.tup ((noteAll st (lead s)).2.map nV)))) (fun b row (e : TupN H6 b row) => mt _ _ e) pr6
          have mo7 : More H (upd H6 t (.tup ((noteAll st (lead s)).2.map nV))) := fun b o e => mt _ _ (mo6 _ _ e)
          obtain ⟨kv, hk, lk, vals⟩ := dn6.ex
          have hk7 := mt _ _ hk
          generalize upd H6 t (.tup ((noteAll st (lead s)).2.map nV)) = H7 at kt ks7 km7 pr7 mo7 hk7 ⊢
          refine ⟨lm, _, _, rfl, rfl, km7, by rw [List.length_map]; exact small1000 (by omega), ?_⟩
          have dlm : d ≠ lm := ne_of hk7 km7 (fun z => by cases z)
          have tlm : t ≠ lm := ne_of kt km7 (fun z => by cases z)
          have wi' := wi.step (fun a ha b hb => cl a ha b hb) hs
          have len' := bnd _ wi'.nd wi'.all
          have le' := wi'.le
          refine ⟨⟨_, _, _, _, i + 1, (noteAll st (lead s)).1, rows ++ [(noteAll st (lead s)).2], ts ++ [t], rfl, ⟨kv, (upd_ne dlm).trans hk7, lk, vals⟩, (upd_ne lsm).trans ks7, ?_, ?_, More.at mo7 lm0, wi', ?_, by omega⟩, ?_⟩
          · rw [upd_same, List.map_append]
            rfl
          · exact paired_snoc (R := TupN _) ((upd_ne tlm).trans kt) (paired_imp (S := TupN _) (fun c row (e : TupN H7 c row) => (upd_ne (ne_of e km7 (fun z => by cases z))).trans e) pr7)
          · rw [← wk, show n + 1 - i = n - i + 1 by omega, show n + 1 - (i + 1) = n - i by omega]
            conv => rhs; unfold walkB
            rw [hs]
          · rw [km4]
            show (match (upd H7 lm (.lst (ts.map V.ref ++ [V.ref t]))) lm with | some (.lst xs) => n + 1 - xs.length | _ => 0) < n + 1 - (ts.map V.ref).length
            rw [upd_same]
            show n + 1 - (ts.map V.ref ++ [V.ref t]).length < _
            rw [List.length_append, lt1]
            show n + 1 - (i + 1) < _
            omega
      · have ei : i = st.length := by
          have := wi.le
          have : ¬ ((ts.map V.ref).length : Int) < (st.map nV).length := fun z => hm (decide_eq_true z)
          omega
        have e0 : st[i]? = none := List.getElem?_eq_none (by omega)
        obtain ⟨k, hk⟩ : ∃ k, n + 1 - i = k + 1 := ⟨n - i, by omega⟩
        rw [hk] at wk
        unfold walkB at wk
        rw [e0] at wk
        have wk : (st, rows) = walkFrom lead n s0 := wk
        rw [← wk] at q
        refine ⟨_, rfl, _, rfl, by show 2 ≤ sizeLine; decide, fun t ht => ?_⟩
        have mt := new_more (o := .tup [.ref ls, .ref lm]) ht
        exact q _ t (fun b o e => mt _ _ (mo4 _ _ e)) ⟨ls, lm, ts, upd_same, mt _ _ ks4, mt _ _ km4, paired_imp (S := TupN _) (fun b row e => mt _ _ e) pr4⟩
    · rintro σ H2 Q1 Q2 f ⟨v, e, l1, x1, e1, s1, v2, e2, l2, x2, e3, s2, i1, j1, h1, h2, c, hc, q2⟩
      exact ⟨v, e, l1, x1, e1, s1, v2, e2, l2, x2, e3, s2, i1, j1, h1, h2, c, hc, f _ _ q2⟩
end
end K71

namespace K71
open PySem L2 Gd B5 NdefX
abbrev sGb : Stmt := top 21
abbrev sGbL : Stmt := (defBody sGb).getD 0 (.Pass ⟨0, 0, 0, 0⟩)
abbrev NGb : List Str := ["moves", "lead"]
theorem scGb : FnScope NGb ["moves"] (defScope sGb) := ⟨rfl, rfl, rfl, by decide +kernel, rfl, by decide +kernel, by decide +kernel⟩
abbrev NGbL : List Str := ["state", "step", "moves"]
theorem scGbL : NScope NGbL ["state", "step"] ["moves"] (C8.fnScope sGbL) := nscope_by (by decide +kernel)
abbrev qGb : Str := (PyProof.Rows.envOfC "going_by" (defScope sGb) 0 0 .none).qual ++ "lead"
/-- where a table of moves leads -/
def ledBy (p : Nat) (dss : List (List Int)) (s : Nat) : List Nat := (List.range p).map fun d => ((dss.getD s []).getD d 0).toNat
def spGb (P : Program) (w : World) (K : PySem.W.Frag) (mg : Str → Option Value) (base : Heap) (T : List NTab) : Sp := fun vs H Q _ => ∃ (t : Addr) (xs : List V) (p : Nat) (dss : List (List Int)), vs = [.ref t] ∧ Sq K H t xs ∧ Paired (TupI K H) xs dss ∧
  (∀ ds ∈ dss, ds.length = p ∧ ∀ x ∈ ds, 0 ≤ x ∧ x < (dss.length : Int)) ∧ TabsN T H ∧
  ∀ (H' : Hp) (f : Addr) (pre : Hp → Prop), LamX.ExtN H H' → TabsN T H' → (∀ H'', More H' H'' → pre H'') → Lead P w K mg base 1 f pre (spStep dss.length p (ledBy p dss)) → Q (.ref f) H'
theorem sqL_by {K : PySem.W.Frag} {H H' : Hp} {t : Addr} {xs : List V} (e : ∀ o, H t = some o → (∀ φ, o ≠ .ext φ) → (∀ ps, o ≠ .tbl ps) → H' t = some o) (h : SqL K H t xs) : SqL K H' t xs := by
  rcases h with (h | ⟨o, h⟩) | h
  · exact .inl (.inl (e _ h (fun φ z => by cases z) (fun ps z => by cases z)))
  · exact .inl (.inr ⟨o, e _ h (fun φ z => by cases z) (fun ps z => by cases z)⟩)
  · exact .inr h
theorem sq_ext {K : PySem.W.Frag} {H H' : Hp} {t : Addr} {xs : List V} (e : LamX.ExtN H H') (h : Sq K H t xs) : Sq K H' t xs := h.elim (fun h => .inl (sqL_by (fun o a _ c => e _ o a c) h)) fun h => .inr (sqT_ext e h)
theorem sq_hide {K : PySem.W.Frag} {cl : List (Str × Addr)} {fr : List Str} {ws : List (Option V)} {H : Hp} {t : Addr} {xs : List V} (x : Exd cl fr ws H) (h : Sq K H t xs) : Sq K (hide cl H) t xs := h.elim (fun h => .inl (sqL_by (fun o a b _ => hide_by x a b) h)) fun h => .inr (sqT_hide x h)
section
variable {P : Program} {w : World} {K : PySem.W.Frag} {mg : Str → Option Value} {base : Heap}
theorem ok_gb {f c Pt : Addr} {kV doc pm ct oc : Value} {an od : Option Addr} {osl : Array (Option Value)} {T : List NTab}
    (lk : K.lookup f = some ⟨oc, od, .func (PySem.W.fnOf "going_by" "going_by" (defArgs sGb) (defBody sGb) (defScope sGb) .none kV doc pm an (.ref c) ct), osl⟩)
    (hcd : PySem.W.codeIn K (.ref c) "going_by" = true) (TB : LamX.TabB base mg c Pt) (hm : (Pt, fun _ _ => qGb) ∈ T) (hu : ∀ p ∈ T, p.1 = Pt → p.2 = fun _ _ => qGb) :
    FnOk P w K mg base CX0 2 f (PySem.W.fnOf "going_by" "going_by" (defArgs sGb) (defBody sGb) (defScope sGb) .none kV doc pm an (.ref c) ct) ["moves"] (spGb P w K mg base T) := by
  refine ok_show lk hcd scGb (fun vs H Q E h => ?_) (s1 := sGbL) rfl (fun A outer s H vs Q E hr h => ?_)
  · obtain ⟨t, xs, p, dss, rfl, _⟩ := h
    rfl
  · obtain ⟨t, xs, p, dss, rfl, sq, pr, ok, tabs, q⟩ := h
    have nb : ndefB (defScope sGb) (C8.fnScope sGbL) ["moves"] = true := by decide +kernel
    refine ⟨_, _, _, _, _, ps_ndefS (i := 1) (T := T) rfl TB rfl hm rfl hu (ndef_free nb) rfl rfl rfl scGb.nd rfl (Or.inl rfl) (Or.inl rfl), pv 1,
      fun o => Caps.made (scope := C8.fnScope sGbL) (fr := ["moves"]) (js := [0]) o (ndef_free nb) (ndef_fr nb) rfl, ?_⟩
    refine ⟨tabs, fun f2 c2 H1 eN tabs1 nf hf hc => ⟨_, rfl, fun HE sh => ?_⟩⟩
    generalize cloFrom (cxOf CX0 P w K mg base NGb "going_by" (defScope sGb) f (.ref c) A outer s H E).env.cells (C8.fnScope sGbL).names [] = cl at hf hc sh
    generalize hq0 : (cxOf CX0 P w K mg base NGb "going_by" (defScope sGb) f (.ref c) A outer s H E).env.qual ++ "lead" = ql at hf hc
    have nk : NOk P w K mg base CX0 1 f2 (NF.of sGbL "lead" ql cl c2) ["state", "step"] ["moves"] (fun ws vs H Q _ => ∃ (s d b : Nat), ws = [some (.ref t)] ∧ vs = [.int s, .int d] ∧ s < dss.length ∧ d < p ∧ (ledBy p dss s)[d]? = some b ∧ Sq K H t xs ∧ Paired (TupI K H) xs dss ∧ ∀ H', More H H' → Q (.int b) H') := by
      refine nok_of scGbL (fun _ _ _ us hl => ?_) (fun ws vs H Q E h => ?_) (fun A' outer' s' H' vs ws Q' E' hr' hf' hc' lw h => ?_)
      · match us, hl with
        | [_, _], _ => rfl
      · obtain ⟨s, d, b, _, rfl, _⟩ := h
        rfl
      · obtain ⟨s, d, b, rfl, rfl, hs, hd, eb, sq', pr', k⟩ := h
        refine ⟨_, pss_one (ps_ret (pe_ix ix_tup (pe_ix ix_seq (pv 2) (pv 0) (fun _ _ => rfl)) (pv 1) (fun _ _ => rfl))), ?_⟩
        have e0 := at_getD hs []
        obtain ⟨ld, okd⟩ := ok _ (List.mem_of_getElem? e0)
        have lx : xs.length = dss.length := Paired.length pr'
        obtain ⟨x, hx⟩ : ∃ x, xs[s]? = some x := ⟨xs[s]'(by omega), List.getElem?_eq_getElem (by omega)⟩
        obtain ⟨ds, e1, b1, rfl, sq1⟩ := paired_at pr' hx
        rw [e0] at e1
        cases e1
        have e2 := at_getD (l := dss.getD s []) (i := d) (by omega) 0
        have o2 := okd _ (List.mem_of_getElem? e2)
        unfold ledBy at eb
        rw [List.getElem?_map, List.getElem?_range hd] at eb
        cases eb
        refine ⟨_, rfl, _, rfl, ix_any sq' rfl hx ⟨_, rfl, b1, _, d, _, rfl, rfl, sq1, atI_nat (at_map e2), ?_⟩⟩
        have := k H' fun _ _ e => e
        rw [Int.toNat_of_nonneg o2.1] at this
        exact this
    have mf := sh.nc hf
    have mc := sh.nc hc
    have hfE := (sh.off _ mf).trans hf
    have hcE := (sh.off _ mc).trans hc
    have eE : LamX.ExtN H HE := eN.trans (.of sh.more)
    have L := lead_of nk [some (.ref t)] mf mc
    refine q HE f2 (fun H => ((H f2 = some (FnO f2 (NF.of sGbL "lead" ql cl c2)) ∧ H c2 = some (LamX.CodeO c2 ql)) ∧ Exd cl ["moves"] [some (.ref t)] H) ∧ Sq K H t xs ∧ Paired (TupI K H) xs dss) eE (tabs1.ext sh.more) (fun H2 m => ⟨⟨⟨m _ _ hfE, m _ _ hcE⟩, sh.exd.more m⟩, Sq.more m (sq_ext eE sq), paired_imp (fun v k r => r.more m) (pairT_ext eE pr)⟩) ?_
    refine L.imp (fun H2 h => h.1) fun vs H2 Q2 h hs => ?_
    obtain ⟨s, d, b, rfl, h1, h2, h3, k⟩ := hs
    exact ⟨s, d, b, rfl, rfl, h1, h2, h3, sq_hide h.1.2 h.2.1, pairT_hide h.1.2 h.2.2, fun H' m => k _ (more_lay m)⟩
end
end K71

namespace K71
open PySem L2 Gd B5 NdefX
section
variable {P : Program} {w : World} {K : PySem.W.Frag} {mg : Str → Option Value} {base : Heap} {g1 g2 f : Addr} {d1 d2 fd : FuncData}
abbrev sXp : Stmt := top 14
theorem scXp : FnScope ["start", "lead", "many", "most"] ["start", "lead", "many", "most"] (defScope sXp) := ⟨rfl, rfl, rfl, by decide +kernel, rfl, by decide +kernel, by decide +kernel⟩
theorem ok_xp (F : Fun K "explored" "explored" sXp f fd) (B : Blt mg) (zEnum : mg "enumerate" = none) (Xf : Cl K mg "explored_from" sXf ["starts", "lead", "many", "most"] g1 d1) : FnOk P w K mg base CX0 3 f fd ["start", "lead", "many", "most"] (spXp P w K mg base 1) := by
  have G1 : FnOk P w K mg base CX0 2 g1 d1 ["starts", "lead", "many", "most"] (spXf P w K mg base 1) := ok_xf Xf.fn B zEnum
  refine F.ok scXp (fun vs H Q E h => ?_) (fun cdv A outer s H vs Q E hr h => ?_)
  · obtain ⟨f0, p, n, s0, lead, pre, rfl, _⟩ := h
    rfl
  · obtain ⟨f0, p, n, s0, lead, pre, rfl, hpre, L, leads, s0n, fewn, fewp, q⟩ := h
    refine ⟨_, pss_one (ps_ret (pe_call G1 hr rfl Xf.g Xf.k Xf.b .nil pass0 (pa_cons (pe_lst (pa_cons (pv 0) pa_nil)) (pa_cons (pv 1) (pa_cons (pv 2) (pa_cons (pv 3) pa_nil)))))), ?_⟩
    refine ⟨_, rfl, by show 1 ≤ sizeLine; decide, fun l hl => ?_⟩
    have m1 := new_more (o := .lst [V.int s0]) hl
    exact ⟨_, rfl, _, rfl, _, rfl, l, f0, p, n, s0, lead, pre, rfl, upd_same, fun H' m => hpre H' fun b o e => m _ _ (m1 _ _ e), L, leads, s0n, fewn, fewp, fun H' t m told => q H' t (fun b o e => m _ _ (m1 _ _ e)) told⟩
abbrev sMs : Stmt := top 20
abbrev NMs : List Str := ["moves", "worths", "met", "rows", "state"]
theorem scMs : FnScope NMs ["moves", "worths"] (defScope sMs) := ⟨rfl, rfl, rfl, by decide +kernel, rfl, by decide +kernel, by decide +kernel⟩
/-- the states that are met, in this order -/
def metN (p : Nat) (dss : List (List Int)) : List Nat := (walkFrom (ledBy p dss) dss.length 0).1
def metR (p : Nat) (dss : List (List Int)) : List (List Nat) := (walkFrom (ledBy p dss) dss.length 0).2
def spMs (K : PySem.W.Frag) (T : List NTab) : Sp := fun vs H Q _ => ∃ (t u : Addr) (xs : List V) (p : Nat) (dss : List (List Int)) (ws : List Int), vs = [.ref t, .ref u] ∧ Sq K H t xs ∧ Paired (TupI K H) xs dss ∧ Sq K H u (ws.map V.int) ∧ MGood p dss ws ∧ TabsN T H ∧
  ∀ (H' : Hp) (t2 lr lw : Addr) (ts : List Addr), LamX.ExtN H H' → TabsN T H' → H' t2 = some (.tup [.ref lr, .ref lw]) → H' lr = some (.lst (ts.map V.ref)) → Paired (TupN H') ts (metR p dss) → H' lw = some (.lst ((metN p dss).map fun s => V.int (ws.getD s 0))) → Q (.ref t2) H'
theorem ledBy_ok {p : Nat} {dss : List (List Int)} {ws : List Int} (g : MGood p dss ws) : ∀ s, s < dss.length → (ledBy p dss s).length = p ∧ ∀ b ∈ ledBy p dss s, b < dss.length := fun s hs => by
  unfold ledBy
  refine ⟨by rw [List.length_map, List.length_range], fun b hb => ?_⟩
  obtain ⟨d, hd, rfl⟩ := List.mem_map.mp hb
  have hd := List.mem_range.mp hd
  obtain ⟨l, ok⟩ := g.rows _ (List.mem_of_getElem? (at_getD hs []))
  have := ok _ (List.mem_of_getElem? (at_getD (l := dss.getD s []) (i := d) (by omega) 0))
  omega
theorem met_below {p : Nat} {dss : List (List Int)} {ws : List Int} (g : MGood p dss ws) : (metN p dss).length ≤ dss.length ∧ ∀ s ∈ metN p dss, s < dss.length := by
  have h := walkFrom_end (lead := ledBy p dss) (P := fun x => x < dss.length) (N := dss.length) (fun a ha => (ledBy_ok g a ha).2) (fun l nd al => nodup_below dss.length l nd al) (a := 0) (List.length_pos_iff.mpr g.ne)
  exact ⟨nodup_below dss.length _ h.nd h.all, h.all⟩
theorem ok_ms (F : Fun K "met_states" "met_states" sMs f fd) (B : Blt mg) {T : List NTab} (Xp : Cl K mg "explored" sXp ["start", "lead", "many", "most"] g1 d1) (GX : FnOk P w K mg base CX0 3 g1 d1 ["start", "lead", "many", "most"] (spXp P w K mg base 1))
    (kG : PySem.W.keepIn K (.ref g2) = true) (gG : mg "going_by" = some (.ref g2)) (bG : Binds K d2 ["moves"] []) (GG : FnOk P w K mg base CX0 2 g2 d2 ["moves"] (spGb P w K mg base T)) : FnOk P w K mg base CX0 4 f fd ["moves", "worths"] (spMs K T) := by
  refine F.ok scMs (fun vs H Q E h => ?_) (fun cdv A outer s H vs Q E hr h => ?_)
  · obtain ⟨t, u, xs, p, dss, ws, rfl, _⟩ := h
    rfl
  · obtain ⟨t, u, xs, p, dss, ws, rfl, sq, pr, su, g, tabs, q⟩ := h
    have hr2 : Room 2 _ := hr.mono (by decide)
    refine ⟨_, pss_cons (ps_asg (pe_call GX hr rfl Xp.g Xp.k Xp.b .nil pass0 (pa_cons pe_int (pa_cons (pe_call GG hr2 rfl gG kG bG .nil pass0 (pa_cons (pv 0) pa_nil)) (pa_cons (pe_callB call_len_seq (by rfl) B.len_ PySem.boot_len (pa_cons (pe_ix ix_seq (pv 0) pe_int (fun _ _ => rfl)) pa_nil)) (pa_cons pe_non pa_nil)))))
        (pg_tup (by rfl) (pgs_cons (pg_name (i := 2) scMs.nd rfl (Or.inl rfl)) (pgs_cons (pg_name (i := 3) scMs.nd rfl (Or.inl rfl)) pgs_nil))))
      (pss_one (ps_ret (pe_tup (pa_cons (pv 3) (pa_cons (pe_lc (own := [("state", 4)]) (g := gName 4) (tt := tYes) rfl scMs.nd (pi_list (pv 2)) (blkOk_by (N := NMs) (sc := defScope sMs) (by decide +kernel)) (fun _ _ _ _ _ => pg_name (i := 4) scMs.nd rfl (Or.inl rfl)) (fun _ _ _ _ _ => pts_nil)
        (fun _ _ _ _ _ => pe_ix (r := rIx K) ix_seq (pv 1) (pv 4) (fun _ _ => rfl))) pa_nil))))), ?_⟩
    have d0 : 0 < dss.length := List.length_pos_iff.mpr g.ne
    obtain ⟨p2, p7⟩ := isPr_small g.pr
    have few := g.few
    refine ⟨_, rfl, t, xs, p, dss, rfl, sq, pr, fun ds hds => ⟨by have := (g.rows ds hds).1; omega, (g.rows ds hds).2⟩, tabs, fun H1 f1 pre e1 tabs1 hpre L => ?_⟩
    have sq1 := sq_ext e1 sq
    have pr1 := pairT_ext e1 pr
    have su1 := sq_ext e1 su
    have lx : xs.length = dss.length := Paired.length pr1
    obtain ⟨x, hx⟩ : ∃ x, xs[0]? = some x := ⟨xs[0]'(by omega), List.getElem?_eq_getElem (by omega)⟩
    obtain ⟨ds, eds, b1, rfl, sqb⟩ := paired_at pr1 hx
    have lb := (g.rows ds (List.mem_of_getElem? eds)).1
    refine ⟨_, rfl, ix_any (j := 0) sq1 rfl hx ⟨b1, _, rfl, .inr sqb, ?_⟩⟩
    have el : (((ds.map V.int).length : Nat) : Int) = p := by rw [List.length_map]; exact lb
    refine ⟨f1, p, dss.length, 0, ledBy p dss, pre, by show [V.int 0, V.ref f1, V.int _, V.non] = _; rw [el]; rfl, hpre, L, ledBy_ok g, d0, few, by omega, fun H2 t2 m12 told => ?_⟩
    obtain ⟨ls, lm, ts, k1, k2, k3, k4⟩ := told
    refine ⟨t2, _, rfl, SqT.of k1, rfl, _, _, rfl, _, _, rfl, rfl, ?_⟩
    obtain ⟨mb1, mb2⟩ := met_below g
    refine ⟨_, rfl, _, rfl, ls, rfl, ⟨_, SqL.of k2⟩, fun D nD => ?_⟩
    refine lc_name (n := 4) (D := D) (H1 := H2) (xs := (metN p dss).map nV) (rs := (metN p dss).map fun s => V.int (ws.getD s 0)) walk_list nD (fun H' m => SqL.of (m _ _ k2)) (by rw [List.length_map, List.length_map]) (by rw [List.length_map]; omega) (fun _ => rfl) ?_ ?_
    · intro i y v H3 Q3 hy hv m3 q3
      obtain ⟨s, hs, rfl⟩ := map_at hy
      obtain ⟨s2, hs2, rfl⟩ := map_at hv
      rw [hs] at hs2
      cases hs2
      have lt := mb2 s (List.mem_of_getElem? hs)
      exact ⟨_, rfl, _, rfl, ix_any ((su1.more m12).more m3) rfl (at_map (at_getD (by rw [g.len]; exact lt) 0)) (q3 _ fun _ _ e => e)⟩
    · intro H3 k5 m3
      refine ⟨by show 2 ≤ sizeLine; decide, fun t3 ht3 => ?_⟩
      have mt := new_more (o := .tup [.ref lm, .ref D]) ht3
      exact q _ t3 lm D ts (((e1.trans (.of m12)).trans (.of m3)).trans (.of mt)) (((tabs1.ext m12).ext m3).ext mt) upd_same (mt _ _ (m3 _ _ k3)) (paired_imp (S := TupN _) (fun b row (e : TupN H2 b row) => mt _ _ (m3 _ _ e)) k4) (mt _ _ k5)
end
end K71

/-! DcT: dict comprehensions, the keys ints, texts, or tuples of these (by DPut). -/
namespace B5
open PySem PySem.Spec PyProof.Rows L2
section
open L2
variable {κ : Type} [DecidableEq κ]
theorem putK_keys (kvs : List (κ × V)) (k : κ) (v : V) (x : κ) : (∃ p ∈ putK kvs k v, p.1 = x) ↔ x = k ∨ ∃ p ∈ kvs, p.1 = x := by
  unfold putK
  split
  · rename_i h
    obtain ⟨q, hq, eq⟩ := List.any_eq_true.mp h
    have eq := of_decide_eq_true eq
    constructor
    · rintro ⟨p, hp, rfl⟩
      obtain ⟨r, hr, rfl⟩ := List.mem_map.mp hp
      by_cases z : r.1 = k
      · rw [if_pos z]; exact .inr ⟨r, hr, rfl⟩
      · rw [if_neg z]; exact .inr ⟨r, hr, rfl⟩
    · rintro (rfl | ⟨p, hp, rfl⟩)
      · refine ⟨_, List.mem_map.mpr ⟨q, hq, rfl⟩, ?_⟩
        rw [if_pos eq]
        exact eq
      · refine ⟨_, List.mem_map.mpr ⟨p, hp, rfl⟩, ?_⟩
        by_cases z : p.1 = k
        · rw [if_pos z]
        · rw [if_neg z]
  · constructor
    · rintro ⟨p, hp, rfl⟩
      rcases List.mem_append.mp hp with hp | hp
      · exact .inr ⟨p, hp, rfl⟩
      · have : p = (k, v) := by simpa using hp
        rw [this]
        exact .inl rfl
    · rintro (rfl | ⟨p, hp, rfl⟩)
      · exact ⟨(x, v), List.mem_append.mpr (.inr (by simp)), rfl⟩
      · exact ⟨p, List.mem_append.mpr (.inl hp), rfl⟩
end
/-- D[y] = z, D a dict with keys of either form -/
theorem put_set {X : Cx} {pins : List (Addr × Obj)} {σ : L2.St} {H H' : Hp} {s : Shared} {E : Value → Shared → Prop} {D : Addr} {y z : V} {u r : Value} {Q : Unit → Shared → Prop} (hu : X.A.units < cLine) (I : Inv X pins σ H s) (g : DPut H D y z H') (ry : L2.RelV y u) (rz : L2.RelV z r)
    (h : ∀ s', Inv X pins σ H' s' → Q () s') : wpAny (model X.prog X.w) X.A (dictSet D u r) Q E s := by
  rcases g with ⟨kvs, k, e, ey, l, eH⟩ | ⟨kvs, k, b, e, ey, eb, l, eH⟩
  · subst ey eH
    exact d_dictSet I e l ry rz h
  · subst ey eH
    obtain rfl : u = Value.ref b := ry
    obtain ⟨z1, nm, ys, rel, dd⟩ := dt_of I.hok e
    have l1 : ys.length ≤ sizeLine := by have := Paired.length rel; omega
    have l2 : (putK kvs k z).length ≤ sizeLine := by have := length_putK kvs k z; omega
    refine wpAny_dictSet_heap (hsz := l1) (knd := tupleKind (mixKind X.prog X.w)) hu (key_of I.hok eb) dd fun g' dd' sb => h _ ?_
    obtain ⟨q, es, ep, hq, a2, a3, a4, _, a5⟩ := dd'
    refine d_write I (by rw [e]; exact True.intro) sb ⟨q, hq⟩ ⟨l2, nm, _, (rel.put k eb rz).keeps fun c ys ec => ?_, q, es, ep, hq, a2, a3, a4, a5⟩
    exact (upd_ne (ne_of ec e (fun z => nomatch z))).trans ec
/-- {k: v for target in iter if ..}: o0 the new dict -/
def tDcP (o0 : HO) (wi : TI) (g : TG) (tt : TT) (tk tv : TE) (own : List Nat) : TE := fun σ H Q => wi σ H fun J H1 => ∀ D, H1 D = none → ∃ W : Nat → Nat → Hp → Prop, (∃ m, W 0 m (upd H1 D o0)) ∧ ∀ i m G, W i m G →
  (J.stop i G ∧ Q (.ref D) G) ∨ (J.go i G ∧ ∃ Nx : Hp → Prop, (∀ G', Nx G' → ∃ m', m' < m ∧ W (i + 1) m' G') ∧ ∀ x G', J.yld i G x G' → g x (wipe σ own) G' fun σ2 G2 => wipe σ2 own = wipe σ own ∧ tt σ2 G2 fun b G3 =>
    if b = true then tk σ2 G3 fun y G4 => tv σ2 G4 fun z G5 => ∃ G6, DPut G5 D y z G6 ∧ Nx G6 else Nx G3)
theorem dcP_core {X : Cx} {o0 : HO} (ho : o0 = .dK [] ∨ o0 = .dT []) {pins : List (Addr × Obj)} {s : Shared} {σ : L2.St} {H : Hp} {Q : VK} {ke ve te it0 : Expr} {ifs : List Expr} {sc : Scope} {own : List (Str × Nat)} {p1 p2 : Pos} {wi : TI} {g : TG} {tt : TT} {tk tv : TE} {use : Option (Value → Sem Unit)} {Qf : Value → Shared → Prop}
    (calm : X.calm = true) (hu : X.A.units < cLine) (nd : X.N.Nodup) (I : Inv X pins σ H s) (pi : PI X te it0 wi) (ok : BlkOk X.N X.env.scope sc own)
    (pg : ∀ (s : Shared) (H : Hp) (C : Addr) (cl : List (Str × Addr)) (fp : List Addr), PG (X.blk s H sc (compEnvC sc cl C X.env) fp) te g) (pt : ∀ (s : Shared) (H : Hp) (C : Addr) (cl : List (Str × Addr)) (fp : List Addr), PTs (X.blk s H sc (compEnvC sc cl C X.env) fp) ifs tt)
    (pk : ∀ (s : Shared) (H : Hp) (C : Addr) (cl : List (Str × Addr)) (fp : List Addr), PE (X.blk s H sc (compEnvC sc cl C X.env) fp) ke tk)
    (pv : ∀ (s : Shared) (H : Hp) (C : Addr) (cl : List (Str × Addr)) (fp : List Addr), PE (X.blk s H sc (compEnvC sc cl C X.env) fp) ve tv) (fs : ∀ x, foldedSetIterable it0 X.env x = pure x)
    (h : tDcP o0 wi g tt tk tv (own.map (·.2)) σ H Q)
    (fin : ∀ D C s' m H', Inv X pins σ H' s' → Q (.ref D) H' → s'.heap.Ns C m → FpOk X pins H' C → compPost (model X.prog X.w) X.A X.xe use Qf (.ref D) C (.ok .next) s') :
    wpAny (model X.prog X.w) X.A (comprehension (.DictComp ke ve [⟨te, it0, ifs, 0⟩] sc p1) sc X.env p2 newDict false (eval it0 X.env) use) Qf X.xe s := by
  have fr : ∀ y ∈ sc.names, y.2 = .free → ∃ c, X.env.cells.lookup y.1 = some c := fun y hy e => (ok.free y hy e).elim (fun k => I.ok.has _ (.inl k)) fun k => I.ok.has _ (.inr k)
  refine wpAny_comprehension_free (use := use) rfl fs (closure_ok fr) ok.kind (fun y hy e => by rw [ok.uniq y hy, e]) ?_
  refine thn (pi.run pins s σ H _ I h) fun xv t1 h1 => thn h1 fun itv t2 h2 => ?_
  obtain ⟨it, fp, tn, J, H2, rfl, I2, T, st2, f2, q⟩ := h2
  refine wpAny_newObj_type (newEnv_comp ?_)
  obtain ⟨D, hD⟩ : ∃ D, t2.heap.objs.size = D := ⟨_, rfl⟩
  have Dn : H2 D = none := I2.hok.fresh (Nat.le_of_eq hD)
  obtain ⟨W, ⟨m0, w0⟩, turn⟩ := q D Dn
  obtain ⟨t3, ht3⟩ : ∃ t3 : Shared, t3 = { t2 with heap := t2.heap.push { cls := .type "dict", data := .dict #[] } } := ⟨_, rfl⟩
  have kp3 : ∀ {b : Addr} {o : Obj}, t2.heap.get? b = some o → t3.heap.get? b = some o := fun e => by rw [ht3]; exact Heap.get?_push_of_some _ e
  have sz3 : t3.heap.objs.size = t2.heap.objs.size + 1 := by rw [ht3]; exact Heap.size_push ..
  have I3 : Inv X pins σ (upd H2 D o0) t3 := by
    have new : ObjOk X.prog X.w (upd H2 D o0) t3.heap D o0 := by
      rw [ht3, ← hD]
      rcases ho with rfl | rfl
      · exact dk_empty t2.heap I2.big
      · exact dt_empty t2.heap I2.big
    rw [ht3] at new ⊢
    exact I2.laid (t' := t2.toks) (fun b o e => Heap.get?_push_of_some _ e) (Nat.le_of_eq hD) new
  have f3 : ∀ b ∈ fp, FpOk X pins (upd H2 D o0) b ∧ b < t3.heap.objs.size := fun b hb => by
    obtain ⟨o, e, _⟩ := T.obj _ _ st2 b hb
    have lt := Heap.lt_size e
    exact ⟨⟨(upd_ne (by rw [← hD]; exact Nat.ne_of_lt lt)).trans (f2 b hb).1, (f2 b hb).2⟩, by rw [sz3]; exact Nat.lt_succ_of_lt lt⟩
  have st3 : tn 0 t3.heap := T.keep _ _ _ st2 fun b _ o e => kp3 e
  have I4 := block_start I3 ok nd f3
  obtain ⟨cl, hcl⟩ : ∃ cl, cl = cellsFrom (t3.heap.objs.size + 1) sc.names (cloFrom X.env.cells sc.names []) := ⟨_, rfl⟩
  rw [← hcl] at I4
  have g1 := pg t3 (upd H2 D o0) t3.heap.objs.size cl fp
  have g2 := pt t3 (upd H2 D o0) t3.heap.objs.size cl fp
  have g3 := pk t3 (upd H2 D o0) t3.heap.objs.size cl fp
  have g4 := pv t3 (upd H2 D o0) t3.heap.objs.size cl fp
  rw [← ht3, ← hcl, hD]
  show codeAny _ _ (.compStart (.DictComp ke ve [⟨te, it0, ifs, 0⟩] sc p1) 0 (.ref it) (.ref D) (compEnvC sc cl t3.heap.objs.size X.env)) (compPost (model X.prog X.w) X.A X.xe use Qf (.ref D) t3.heap.objs.size) { t3 with heap := pushCells (t3.heap.push { cls := .type "dict", data := .dict #[] }) sc.names }
  have nf : ∀ b ∈ fp, upd H2 D o0 b = none := fun b hb => (f3 b hb).1.1
  obtain ⟨ce, hce⟩ : ∃ ce, ce = compEnvC sc cl t3.heap.objs.size X.env := ⟨_, rfl⟩
  rw [← hce] at I4 g1 g2 g3 g4 ⊢
  have cL : ce.locals = t3.heap.objs.size := by rw [hce]; rfl
  generalize upd H2 D o0 = H3 at I3 I4 g1 g2 g3 g4 w0 nf f3
  obtain ⟨t4, ht4⟩ : ∃ t4 : Shared, t4 = { t3 with heap := pushCells (t3.heap.push { cls := .type "dict", data := .dict #[] }) sc.names } := ⟨_, rfl⟩
  rw [← ht4] at I4 ⊢
  have st4 : tn 0 t4.heap := T.keep _ _ _ st3 fun b _ o e => by rw [ht4]; exact pushCells_keeps _ _ _ _ (Heap.get?_push_of_some _ e)
  have fps : ∀ {σ' : L2.St} {H' : Hp} {s' : Shared}, Inv (X.blk t3 H3 sc ce fp) [] σ' H' s' → (∀ b ∈ fp, H' b = none) → ∀ b ∈ fp, FpOk (X.blk t3 H3 sc ce fp) [] H' b := fun {_ _ _} I' hn b hb =>
    ⟨hn b hb, (I'.ok.exf b hb).1, I'.ok.exfs b hb, .inl hb, fun x c e => (I'.ok.exf b hb).2 x c e, fun p hp => by cases hp⟩
  have loop : codeAny (model X.prog X.w) X.A (.compLoop (.DictComp ke ve [⟨te, it0, ifs, 0⟩] sc p1) 0 (.ref it) (.ref D) ce) (compPost (model X.prog X.w) X.A X.xe use Qf (.ref D) t3.heap.objs.size) t4 := by
    refine compLoop_anyD (fun n s' => ∃ i G, Inv (X.blk t3 H3 sc ce fp) [] (wipe σ (own.map (·.2))) G s' ∧ tn i s'.heap ∧ (∀ b ∈ fp, G b = none) ∧ W i n G) ?_ m0 ⟨0, H3, I4, st4, nf, w0⟩
    rintro n t5 ⟨i, G5, I5, st5, n5, w5⟩
    rcases turn i n G5 w5 with ⟨stop, qq⟩ | ⟨go, Nx, hNx, step⟩
    · refine thnF (T.done (X.blk t3 H3 sc ce fp) rfl rfl rfl calm i [] t5 _ G5 (fun _ _ => False) I5 (fps I5 n5) st5 stop) fun r t6 ⟨hr, I6⟩ => ?_
      subst hr
      have I7 : Inv X pins σ G5 t6 := I3.call' (ch := fp) I6.os I6.base I6.hok I6.bare fun b hb => let z := (f3 b hb).1.2; ⟨z.2.2.1, z.1, z.2.2.2.1, z.2.2.2.2⟩
      have nC : G5 t3.heap.objs.size = none := by
        have z : G5 ce.locals = none := I6.free
        rwa [cL] at z
      obtain ⟨m, hn, _⟩ := I6.loc
      have hn : t6.heap.Ns ce.locals m := hn
      rw [cL] at hn
      exact fin D t3.heap.objs.size t6 m G5 I7 qq hn (I3.fpOk (Nat.le_refl _) nC)
    · refine thnF (T.item (X.blk t3 H3 sc ce fp) rfl rfl rfl calm i [] t5 _ G5 (fun _ _ => False) I5 (fps I5 n5) st5 go) fun r t6 ⟨u, hr, h6⟩ => ?_
      subst hr
      refine thnF h6 fun _ t7 ⟨x, G7, I7, r7, y7, st7, n7⟩ => ?_
      have I7' := I7.pinned (fps I7 n7) (T.obj _ _ st7)
      refine thnF (g1.run _ t7 _ G7 x u _ I7' r7 (step x G7 y7)) fun _ t8 ⟨σ8, G8, I8, hw8, q8⟩ => ?_
      refine thnF (g2.run _ t8 σ8 G8 _ I8 q8) fun b t9 ⟨G9, I9, q9⟩ => ?_
      have last : ∀ {s' : Shared} {G : Hp}, Inv (X.blk t3 H3 sc ce fp) ([] ++ pinsAt fp t7.heap) σ8 G s' → Nx G → ∃ m, m < n ∧ ∃ i G, Inv (X.blk t3 H3 sc ce fp) [] (wipe σ (own.map (·.2))) G s' ∧ tn i s'.heap ∧ (∀ b ∈ fp, G b = none) ∧ W i m G := fun {s' G} I' nx => by
        obtain ⟨m', hm, w'⟩ := hNx G nx
        have pin' : ∀ b ∈ fp, ∀ o, t7.heap.get? b = some o → s'.heap.get? b = some o ∧ G b = none := fun b hb o e => by
          have z := I'.pin (b, o) (List.mem_append_right _ (List.mem_append_right _ (mem_pinsAt hb e)))
          exact ⟨z.1, z.2.1⟩
        refine ⟨m', hm, i + 1, G, (I'.unpinned (pins := [])).weak (by rw [← hw8, wipe_length]) (fun j v e => ?_), T.keep _ _ _ st7 fun b hb o e => (pin' b hb o e).1, fun b hb => ?_, w'⟩
        · rw [← hw8] at e
          exact (wipe_some e).1
        · obtain ⟨o, e, _⟩ := T.obj _ _ st7 b hb
          exact (pin' b hb o e).2
      cases b with
      | false =>
        simp only [Bool.false_eq_true, if_false] at q9 ⊢
        exact last I9 q9
      | true =>
        simp only [if_true] at q9 ⊢
        refine thnF (g3.run _ t9 σ8 G9 _ I9 q9) fun z t10 ⟨yk, G10, I10, r10, q10⟩ => ?_
        refine thnF (g4.run _ t10 σ8 G10 _ I10 q10) fun z2 t11 ⟨yv, G11, I11, r11, G12, put, nx⟩ => ?_
        exact put_set (X := X.blk t3 H3 sc ce fp) hu I11 put r10 r11 fun t12 I12 => last I12 nx
  exact codeAny_compStart_dict loop (T.self X.A 0 _ _ _ st4 loop)
/-- as a value -/
theorem pe_dcP {X : Cx} {o0 : HO} (ho : o0 = .dK [] ∨ o0 = .dT []) {ke ve te it0 : Expr} {ifs : List Expr} {sc : Scope} {own : List (Str × Nat)} {pos : Pos} {wi : TI} {g : TG} {tt : TT} {tk tv : TE} (calm : X.calm = true) (hu : X.A.units < cLine) (nd : X.N.Nodup) (pi : PI X te it0 wi) (ok : BlkOk X.N X.env.scope sc own)
    (pg : ∀ (s : Shared) (H : Hp) (C : Addr) (cl : List (Str × Addr)) (fp : List Addr), PG (X.blk s H sc (compEnvC sc cl C X.env) fp) te g) (pt : ∀ (s : Shared) (H : Hp) (C : Addr) (cl : List (Str × Addr)) (fp : List Addr), PTs (X.blk s H sc (compEnvC sc cl C X.env) fp) ifs tt)
    (pk : ∀ (s : Shared) (H : Hp) (C : Addr) (cl : List (Str × Addr)) (fp : List Addr), PE (X.blk s H sc (compEnvC sc cl C X.env) fp) ke tk)
    (pv : ∀ (s : Shared) (H : Hp) (C : Addr) (cl : List (Str × Addr)) (fp : List Addr), PE (X.blk s H sc (compEnvC sc cl C X.env) fp) ve tv) (fs : ∀ x, foldedSetIterable it0 X.env x = pure x := by intro _; rfl) :
    PE X (.DictComp ke ve [⟨te, it0, ifs, 0⟩] sc pos) (tDcP o0 wi g tt tk tv (own.map (·.2))) := by
  refine ⟨fun pins s σ H Q I h => ?_⟩
  rw [arm_eval_DictComp]
  refine dcP_core ho calm hu nd I pi ok pg pt pk pv fs h fun D C s' m H' I' q hn f => ⟨m, hn, fun g' sb => ?_⟩
  obtain ⟨f0, f1, f2, f3, f4, f5⟩ := f
  exact ⟨.ref D, H', I'.turned (t' := s'.toks) (fun b o hb e => (sb.2 b hb).trans e) f0 f1 f3 f4 f5, rfl, q⟩
/-- over what is walked -/
theorem dcP_it {J : It} {n : Nat} {G : Hp → Prop} {Y : Nat → Hp → V → Hp → Prop} (w : Walk J n G Y) {o0 : HO} {g : TG} {tt : TT} {tk tv : TE} {vs : List Nat} {σ : L2.St} {H1 : Hp} {D : Addr} {Qd : Hp → Prop} (Pv : Nat → Hp → Prop) (h0 : Pv 0 (upd H1 D o0)) (hG : ∀ i H, i ≤ n → Pv i H → G H)
    (hs : ∀ i x H H', i < n → Pv i H → Y i H x H' → g x (wipe σ vs) H' fun σ2 H2 => wipe σ2 vs = wipe σ vs ∧ tt σ2 H2 fun b H3 =>
      if b = true then tk σ2 H3 fun y H4 => tv σ2 H4 fun z H5 => ∃ H6, DPut H5 D y z H6 ∧ Pv (i + 1) H6 else Pv (i + 1) H3) (hd : ∀ H, Pv n H → Qd H) :
    ∃ W : Nat → Nat → Hp → Prop, (∃ m, W 0 m (upd H1 D o0)) ∧ ∀ i m H, W i m H →
      (J.stop i H ∧ Qd H) ∨ (J.go i H ∧ ∃ Nx : Hp → Prop, (∀ H', Nx H' → ∃ m', m' < m ∧ W (i + 1) m' H') ∧ ∀ x H', J.yld i H x H' → g x (wipe σ vs) H' fun σ2 H2 => wipe σ2 vs = wipe σ vs ∧ tt σ2 H2 fun b H3 =>
        if b = true then tk σ2 H3 fun y H4 => tv σ2 H4 fun z H5 => ∃ H6, DPut H5 D y z H6 ∧ Nx H6 else Nx H3) := by
  refine ⟨fun i m H => (i ≤ n ∧ m = n - i) ∧ Pv i H, ⟨n, ⟨Nat.zero_le _, by simp⟩, h0⟩, ?_⟩
  rintro i m H ⟨⟨hi, rfl⟩, p⟩
  have q := hG i H hi p
  rcases Nat.lt_or_ge i n with lt | ge
  · exact .inr ⟨w.goes i H lt q, Pv (i + 1), fun H' p' => ⟨n - (i + 1), by omega, ⟨lt, rfl⟩, p'⟩, fun x H' y => hs i x H H' lt p (w.yields i H x H' lt q y)⟩
  · obtain rfl : i = n := Nat.le_antisymm hi ge
    exact .inl ⟨w.stops H q, hd H p⟩
end B5

/-! Cls: numbers of keys under one-to-one maps; every number is used; the keys of a dict. -/
namespace B5
section
variable {α β : Type} [DecidableEq α] [DecidableEq β]
theorem ixOf_map {f : α → β} (inj : ∀ a b, f a = f b → a = b) (x : α) : ∀ l : List α, ixOf (l.map f) (f x) = ixOf l x
  | [] => rfl
  | a :: l => by
    have ih := ixOf_map inj x l
    show (if f a = f x then some 0 else (ixOf (l.map f) (f x)).map _) = if a = x then some 0 else (ixOf l x).map _
    rw [ih]
    by_cases e : a = x
    · rw [if_pos e, if_pos (by rw [e])]
    · rw [if_neg e, if_neg fun q => e (inj _ _ q)]
theorem note_map {f : α → β} (inj : ∀ a b, f a = f b → a = b) (st : List α) (a : α) : note (st.map f) (f a) = ((note st a).1.map f, (note st a).2) := by
  unfold note
  rw [ixOf_map inj]
  cases ixOf st a with
  | some i => rfl
  | none =>
    show (st.map f ++ [f a], (st.map f).length) = ((st ++ [a]).map f, st.length)
    rw [List.map_append, List.length_map]
    rfl
theorem noteAll_map {f : α → β} (inj : ∀ a b, f a = f b → a = b) : ∀ (as st : List α), noteAll (st.map f) (as.map f) = ((noteAll st as).1.map f, (noteAll st as).2)
  | [], st => rfl
  | a :: as, st => by
    show ((noteAll (note (st.map f) (f a)).1 (as.map f)).1, (note (st.map f) (f a)).2 :: (noteAll (note (st.map f) (f a)).1 (as.map f)).2) = ((noteAll (note st a).1 as).1.map f, (note st a).2 :: (noteAll (note st a).1 as).2)
    rw [note_map inj]
    show ((noteAll ((note st a).1.map f) (as.map f)).1, (note st a).2 :: (noteAll ((note st a).1.map f) (as.map f)).2) = _
    rw [noteAll_map inj as]
theorem numB_map {f : α → β} (inj : ∀ a b, f a = f b → a = b) (as : List α) : numB (as.map f) = numB as := by
  have h := noteAll_map inj as []
  unfold numB
  rw [List.map_nil] at h
  rw [h]
theorem noteAll_onto : ∀ (as st : List α) (i : Nat), i < (noteAll st as).1.length → i < st.length ∨ ∃ j : Nat, (noteAll st as).2[j]? = some i
  | [], st, i, h => .inl h
  | a :: as, st, i, h => by
    have h : i < (noteAll (note st a).1 as).1.length := h
    rcases noteAll_onto as (note st a).1 i h with g | ⟨j, e⟩
    · by_cases z : i < st.length
      · exact .inl z
      · refine .inr ⟨0, ?_⟩
        show some (note st a).2 = some i
        revert g
        unfold note
        cases ixOf st a with
        | some k => intro g; exact absurd g z
        | none =>
          intro g
          have g : i < (st ++ [a]).length := g
          rw [List.length_append] at g
          have : st.length = i := by simp at g; omega
          show some st.length = _
          rw [this]
    · exact .inr ⟨j + 1, e⟩
/-- the greatest number and one more -/
theorem numB_max {keys : List α} {m : Int} (h : m ∈ (numB keys).map fun i => ((i : Nat) : Int)) (le : ∀ y ∈ (numB keys).map fun i => ((i : Nat) : Int), y ≤ m) : m + 1 = ((cnt (cOf (numB keys)) keys.length : Nat) : Int) := by
  rw [← manyOf_cnt keys.length keys rfl]
  obtain ⟨i, hi, rfl⟩ := List.mem_map.mp h
  obtain ⟨j, hj⟩ := List.getElem?_of_mem hi
  have lj : j < keys.length := by have := (List.getElem?_eq_some_iff.mp hj).1; rw [numB_len] at this; exact this
  have lt := numB_lt lj
  have ej : cOf (numB keys) j = i := by unfold cOf; rw [List.getD_eq_getElem?_getD, hj]; rfl
  rw [ej] at lt
  have pos : 0 < manyOf keys := by omega
  rcases noteAll_onto keys [] (manyOf keys - 1) (by show _ < manyOf keys; omega) with z | ⟨k, e⟩
  · exact absurd z (Nat.not_lt_zero _)
  · have := le _ (List.mem_map.mpr ⟨_, List.mem_of_getElem? e, rfl⟩)
    omega
end
/-- and every number below the greatest is one of them -/
def NumbsO (n : Nat) (l : List Nat) : Prop := Numbs n l ∧ ∀ i, i < cnt (cOf l) n → ∃ s, s < n ∧ cOf l s = i
theorem numbsO_of {α : Type} [DecidableEq α] {keys : List α} {n : Nat} (h : keys.length = n) : NumbsO n (numB keys) := by
  refine ⟨numbs_of h, fun i hi => ?_⟩
  rw [← manyOf_cnt n keys h] at hi
  rcases noteAll_onto keys [] i hi with z | ⟨j, e⟩
  · exact absurd z (Nat.not_lt_zero _)
  · have e : (numB keys)[j]? = some i := e
    have lj := (List.getElem?_eq_some_iff.mp e).1
    rw [numB_len] at lj
    refine ⟨j, by omega, ?_⟩
    unfold cOf
    rw [List.getD_eq_getElem?_getD, e]
    rfl
theorem passC_o {n : Nat} : ∀ (fs : List (List Nat)) (l : List Nat), NumbsO n l → NumbsO n (passC n fs l)
  | [], l, h => h
  | f :: fs, l, h => passC_o fs _ (numbsO_of (keysC_len (n := n)))
end B5

/-! NZip: zip over any number of iterators that are of one length. -/
namespace NZ
open PySem PySem.Spec PyProof.Rows
open Sem (wp)
abbrev TupA (h : Heap) (T : Addr) (a : Array Value) : Prop := h.get? T = some { cls := .type "tuple", data := .seq a }
structure Sep (z TI TO : Addr) (m : Nat) (it : Nat → Addr) (fp : Nat → List Addr) : Prop where
  TOz : TO ≠ z
  mem : ∀ k, k < m → it k ∈ fp k
  zf : ∀ k, k < m → z ∉ fp k
  Tf : ∀ k, k < m → TO ∉ fp k
  sep : ∀ j k, j < m → k < m → j ≠ k → it j ∉ fp k
section
variable {prog : Program} {w : World} {A : Around} {E : Value → Shared → Prop} {s : Shared} {z TI TO : Addr} {m n i : Nat} {it : Nat → Addr} {fp : Nat → List Addr} {P : Nat → Nat → Value → Prop} {St : Nat → Nat → Heap → Prop} {a0 : Array Value}
theorem Sep.zi (S : Sep z TI TO m it fp) {k : Nat} (h : k < m) : z ≠ it k := fun e => S.zf k h (by rw [e]; exact S.mem k h)
theorem Sep.Ti (S : Sep z TI TO m it fp) {k : Nat} (h : k < m) : TO ≠ it k := fun e => S.Tf k h (by rw [e]; exact S.mem k h)
theorem updateSeq_TupA {T : Addr} {x : Value} {k : Nat} {a : Array Value} {Q : Unit → Shared → Prop} (hT : TupA s.heap T a) (ha : a.size ≤ sizeLine)
    (h : ∀ h', TupA h' T (a.setIfInBounds k x) → Heap.SameBut T s.heap h' → Q () { s with heap := h' }) :
    wpAny (model prog w) A (updateSeq T (·.setIfInBounds k x)) Q E s := by
  refine wpAny_updateSeq hT rfl (h _ ?_ (Heap.SameBut.update ..)) ha (by rw [Array.size_setIfInBounds]; omega)
  unfold TupA
  rw [Heap.get?_update_self _ hT rfl]
  simp [Obj.mapSeq]
/-- the iterators from the k-th on, with their numbers -/
def from_ (it : Nat → Addr) (m k : Nat) : List (Value × Nat) := (List.range' k (m - k)).map fun j => (Value.ref (it j), j)
theorem from_zero : (((List.range m).map fun k => Value.ref (it k)).toArray.toList).zipIdx = from_ it m 0 := by
  unfold from_
  rw [List.toList_toArray]
  apply List.ext_getElem?
  intro j
  rw [List.getElem?_zipIdx, List.getElem?_map, List.getElem?_map]
  by_cases h : j < m
  · rw [List.getElem?_range h, List.getElem?_range' (by omega)]
    simp
  · rw [List.getElem?_eq_none (by rw [List.length_range]; omega), List.getElem?_eq_none (by rw [List.length_range']; omega)]
    rfl
theorem from_succ {k : Nat} (h : k < m) : from_ it m k = (Value.ref (it k), k) :: from_ it m (k + 1) := by
  unfold from_
  rw [show m - k = (m - (k + 1)) + 1 by omega, List.range'_succ]
  rfl
theorem from_end : from_ it m m = [] := by
  unfold from_
  rw [Nat.sub_self]
  rfl
/-- what stands when k of them have been asked -/
structure Mid (z TI TO : Addr) (m i : Nat) (it : Nat → Addr) (P : Nat → Nat → Value → Prop) (St : Nat → Nat → Heap → Prop) (hp : Heap) (k : Nat) (h : Heap) : Prop where
  zip : IsZip h z TI TO .ellipsis
  tup : ∃ a : Array Value, TupA h TO a ∧ a.size = m ∧ ∀ j, j < k → ∃ x, a[j]? = some x ∧ P j i x
  past : ∀ j, j < k → St j (i + 1) h
  next : ∀ j, k ≤ j → j < m → St j i h
  size : h.objs.size = hp.objs.size
  keep : ∀ c o, c ≠ z → c ≠ TO → (∀ j, j < m → c ≠ it j) → hp.get? c = some o → h.get? c = some o
theorem zipN_item {Q : Value → Shared → Prop} (S : Sep z TI TO m it fp) (m0 : 0 < m) (ms : m ≤ 1000) (D : ∀ k, k < m → Draws prog w A (it k) (fp k) n (P k) (St k))
    (hz : IsZip s.heap z TI TO .none) (hTI : TupA s.heap TI ((List.range m).map fun k => Value.ref (it k)).toArray) (hTO : TupA s.heap TO a0) (ha0 : a0.size = m) (st : ∀ k, k < m → St k i s.heap) (hlt : i < n)
    (hQ : ∀ (a : Array Value) h' tk, a.size = m → (∀ k, k < m → ∃ x, a[k]? = some x ∧ P k i x) → IsZip h' z TI TO (rawInt s.heap.objs.size) → TupA h' TO a → (∀ k, k < m → St k (i + 1) h') → TupA h' s.heap.objs.size a → h'.objs.size = s.heap.objs.size + 1 →
      (∀ c o, c ≠ z → c ≠ TO → (∀ j, j < m → c ≠ it j) → s.heap.get? c = some o → h'.get? c = some o) → Q (.ref s.heap.objs.size) { s with heap := h', toks := tk }) :
    wpAny (model prog w) A (Builtin.«zip.__next__» ⟨[.ref z], []⟩) (fun fin s' => ∃ v, fin = .done (.ret v) ∧ Q v s') E s := by
  obtain ⟨hp, g, d, tk0, os⟩ := s
  show wpAny _ _ (field (.ref z) 2 >>= _) _ _ _
  refine wpAny_bind (wpAny_field hz rfl (x := .bool false) rfl ?_)
  show wpAny _ _ (field (.ref z) 3 >>= _) _ _ _
  refine wpAny_bind (wpAny_field hz rfl (x := .ref TI) rfl ?_)
  refine wpAny_bind (wpAny_seqItems hTI rfl ?_)
  have ne : (((List.range m).map fun k => Value.ref (it k)).toArray).isEmpty = false := by
    rw [Array.isEmpty_eq_false_iff]
    intro e
    have := congrArg Array.size e
    simp at this
    omega
  simp only [ne, Bool.false_eq_true, if_false]
  show wpAny _ _ (Builtin.SmallTypes.ownedTupleIsFree (.ref z) >>= _) _ _ _
  refine wpAny_bind ?_
  unfold Builtin.SmallTypes.ownedTupleIsFree
  refine wpAny_bind (wpAny_field hz rfl (x := .none) rfl (wpAny_pure ?_))
  simp only [if_true]
  refine wpAny_bind (wpAny_rule ?_)
  refine wpAny_bind (wpAny_field hz rfl (x := .ref TO) rfl ?_)
  refine wpAny_bind (wpAny_setField_rec hz (by simp) fun g0 hz0 hs0 => ?_)
  replace hz0 : IsZip g0 z TI TO .ellipsis := hz0
  replace hs0 : Heap.SameBut z hp g0 := hs0
  refine wpAny_bind ?_
  rw [from_zero]
  have mid0 : Mid z TI TO m i it P St hp 0 g0 := ⟨hz0, ⟨a0, hs0.extBut _ _ S.TOz hTO, ha0, fun j hj => by omega⟩, fun j hj => by omega, fun j _ hj => (D j hj).over (st j hj) hs0 (S.zf j hj), hs0.1, fun c o cz _ _ e => hs0.extBut _ _ cz e⟩
  refine wpAny_forIn_list _ (fun rest b s' => ∃ k tk h, k ≤ m ∧ rest = from_ it m k ∧ b = ⟨none, ()⟩ ∧ s' = ⟨h, g, d, tk, os⟩ ∧ Mid z TI TO m i it P St hp k h) _ ?_ ?_ _ _ ⟨0, _, _, Nat.zero_le _, rfl, rfl, rfl, mid0⟩
  · rintro ⟨v, j⟩ rest b s' ⟨k, tk, h, hk, er, rfl, rfl, M⟩
    have kn : k < m := by
      refine Nat.lt_of_not_le fun z => ?_
      have : k = m := by omega
      rw [this, from_end] at er
      cases er
    rw [from_succ kn] at er
    cases er
    obtain ⟨k, rfl⟩ : ∃ k, k = j := ⟨j, rfl⟩
    refine wpAny_bind (wpAny_onRaise ?_)
    show wpAny _ _ (Builtin.SmallTypes.nextOf (.ref (it k)) >>= _) _ _ ⟨h, g, d, tk, os⟩
    refine wpAny_bind ((D k kn).item i _ _ _ hlt (M.next k (Nat.le_refl _) kn) fun x p tk1 hx sn hp1 => wpAny_pure ?_)
    replace hp1 : Heap.SameBut (it k) h p := hp1
    obtain ⟨a, ta, sa, xa⟩ := M.tup
    have hU : TupA p TO a := hp1.extBut _ _ (S.Ti kn) ta
    have sl : a.size ≤ sizeLine := by
      rw [sa]
      have : (1000 : Nat) ≤ sizeLine := by decide
      omega
    refine wpAny_bind (wpAny_seqItems (s := ⟨p, g, d, tk1, os⟩) hU rfl ?_)
    refine wpAny_bind (updateSeq_TupA (s := ⟨p, g, d, tk1, os⟩) hU sl fun g1 hT1 hs1 => ?_)
    replace hs1 : Heap.SameBut TO p g1 := hs1
    refine wpAny_bind (wpAny_letGo (wpAny_pure ?_))
    refine ⟨k + 1, tk1, g1, kn, rfl, rfl, rfl, ⟨hs1.extBut _ _ S.TOz.symm (hp1.extBut _ _ (S.zi kn) M.zip), ⟨_, hT1, by rw [Array.size_setIfInBounds]; exact sa, fun j hj => ?_⟩, fun j hj => ?_, fun j hj hjm => ?_, by rw [hs1.1, hp1.1]; exact M.size, fun c o cz cT ci e => hs1.extBut _ _ cT (hp1.extBut _ _ (ci k kn) (M.keep c o cz cT ci e))⟩⟩
    · rw [Array.getElem?_setIfInBounds]
      by_cases e : k = j
      · subst e
        rw [if_pos rfl, if_pos (by omega)]
        exact ⟨x, rfl, hx⟩
      · rw [if_neg e]
        exact xa j (by omega)
    · by_cases e : j = k
      · subst e
        exact (D j kn).over sn hs1 (S.Tf j kn)
      · have jm : j < m := by omega
        exact (D j jm).over ((D j jm).over (M.past j (by omega)) hp1 (S.sep k j kn jm (fun z => e z.symm))) hs1 (S.Tf j jm)
    · exact (D j hjm).over ((D j hjm).over (M.next j (by omega) hjm) hp1 (S.sep k j kn hjm (by omega))) hs1 (S.Tf j hjm)
  · rintro b s' ⟨k, tk, g2, hk, er, rfl, rfl, M⟩
    have km : k = m := by
      refine Nat.le_antisymm hk (Nat.le_of_not_lt fun z => ?_)
      rw [from_succ z] at er
      cases er
    subst km
    obtain ⟨a, ta, sa, xa⟩ := M.tup
    refine wpAny_bind (wpAny_seqItems (s := ⟨g2, g, d, tk, os⟩) ta rfl ?_)
    have sl : a.toList.length ≤ sizeLine := by
      rw [Array.length_toList, sa]
      have : (1000 : Nat) ≤ sizeLine := by decide
      omega
    refine wpAny_bind (wpAny_newTuple (hsz := sl) ?_)
    have hsz := M.size
    have hzz := M.zip
    have hzlt : z < g2.objs.size := Heap.lt_size hzz
    show wpAny _ _ (Builtin.SmallTypes.ownedTupleHandOut (.ref z) (.ref g2.objs.size) >>= _) _ _ ⟨g2.push { cls := .type "tuple", data := .seq a }, g, d, tk, os⟩
    refine wpAny_bind ?_
    unfold Builtin.SmallTypes.ownedTupleHandOut
    have hz₆ : IsZip (g2.push { cls := .type "tuple", data := .seq a }) z TI TO .ellipsis := Heap.get?_push_of_some _ hzz
    refine wpAny_bind (wpAny_setField_rec hz₆ (by simp) fun h₇ hz₇ hs₇ => ?_)
    replace hz₇ : IsZip h₇ z TI TO (rawInt g2.objs.size) := hz₇
    refine wpAny_setField_rec hz₇ (by simp) fun h₈ hz₈ hs₈ => ?_
    replace hz₈ : IsZip h₈ z TI TO (rawInt g2.objs.size) := hz₈
    replace hs₇ : Heap.SameBut z (g2.push { cls := .type "tuple", data := .seq a }) h₇ := hs₇
    replace hs₈ : Heap.SameBut z h₇ h₈ := hs₈
    have up : ∀ c o, c ≠ z → g2.get? c = some o → h₈.get? c = some o := fun c o c1 e => hs₈.extBut _ _ c1 (hs₇.extBut _ _ c1 (Heap.get?_push_of_some _ e))
    have hT₈ : TupA h₈ g2.objs.size a := hs₈.extBut _ _ (Nat.ne_of_gt hzlt) (hs₇.extBut _ _ (Nat.ne_of_gt hzlt) (Heap.get?_push_size _ rfl))
    have hz8 : h₈.objs.size = g2.objs.size + 1 := by rw [hs₈.1, hs₇.1, Heap.size_push]
    rw [hsz] at hz₈ hT₈ hz8
    refine wpAny_pure ⟨_, rfl, ?_⟩
    show Q (.ref g2.objs.size) ⟨h₈, g, d, tk, os⟩
    rw [hsz]
    exact hQ a h₈ tk sa xa hz₈ (up _ _ S.TOz ta) (fun j hj => (D j hj).frame _ _ _ (M.past j hj) fun b hb o e => up b o (fun q => S.zf j hj (q ▸ hb)) e) hT₈ hz8 fun c o cz cT ci e => up c o cz (M.keep c o cz cT ci e)
theorem zipN_end {Q : Fin → Shared → Prop} (S : Sep z TI TO m it fp) (m0 : 0 < m) (D : ∀ k, k < m → Draws prog w A (it k) (fp k) n (P k) (St k))
    (hz : IsZip s.heap z TI TO .none) (hTI : TupA s.heap TI ((List.range m).map fun k => Value.ref (it k)).toArray) (hTO : TupA s.heap TO a0) (st : ∀ k, k < m → St k n s.heap)
    (hE : ∀ h' tk e, (∀ c o, c ≠ z → c ≠ TO → (∀ j, j < m → c ≠ it j) → s.heap.get? c = some o → h'.get? c = some o) → (∃ o, h'.get? e = some o ∧ o.cls = .type "StopIteration") → E (.ref e) { s with heap := h', toks := tk }) :
    wpAny (model prog w) A (Builtin.«zip.__next__» ⟨[.ref z], []⟩) Q E s := by
  obtain ⟨hp, g, d, tk0, os⟩ := s
  show wpAny _ _ (field (.ref z) 2 >>= _) _ _ _
  refine wpAny_bind (wpAny_field hz rfl (x := .bool false) rfl ?_)
  show wpAny _ _ (field (.ref z) 3 >>= _) _ _ _
  refine wpAny_bind (wpAny_field hz rfl (x := .ref TI) rfl ?_)
  refine wpAny_bind (wpAny_seqItems hTI rfl ?_)
  have ne : (((List.range m).map fun k => Value.ref (it k)).toArray).isEmpty = false := by
    rw [Array.isEmpty_eq_false_iff]
    intro e
    have := congrArg Array.size e
    simp at this
    omega
  simp only [ne, Bool.false_eq_true, if_false]
  show wpAny _ _ (Builtin.SmallTypes.ownedTupleIsFree (.ref z) >>= _) _ _ _
  refine wpAny_bind ?_
  unfold Builtin.SmallTypes.ownedTupleIsFree
  refine wpAny_bind (wpAny_field hz rfl (x := .none) rfl (wpAny_pure ?_))
  simp only [if_true]
  refine wpAny_bind (wpAny_rule ?_)
  refine wpAny_bind (wpAny_field hz rfl (x := .ref TO) rfl ?_)
  refine wpAny_bind (wpAny_setField_rec hz (by simp) fun g0 hz0 hs0 => ?_)
  replace hz0 : IsZip g0 z TI TO .ellipsis := hz0
  replace hs0 : Heap.SameBut z hp g0 := hs0
  refine wpAny_bind ?_
  rw [from_zero, from_succ m0, List.forIn_cons]
  refine wpAny_bind (wpAny_bind (wpAny_onRaise ?_))
  show wpAny _ _ (Builtin.SmallTypes.nextOf (.ref (it 0)) >>= _) _ _ ⟨g0, g, d, tk0, os⟩
  refine wpAny_bind ((D 0 m0).done ⟨g0, g, d, tk0, os⟩ _ _ ((D 0 m0).over (st 0 m0) hs0 (S.zf 0 m0)) fun q e hq he => ?_)
  replace hq : Heap.ExtBut (it 0) g0 q := hq
  obtain ⟨oe, hoe, hce⟩ := he
  replace hoe : q.get? e = some oe := hoe
  have hzq : IsZip q z TI TO .ellipsis := hq _ _ (S.zi m0) hz0
  have hez : e ≠ z := fun x => by subst x; rw [hzq] at hoe; cases hoe; simp at hce
  refine wpAny_setField_rec (s := ⟨q, g, d, tk0, os⟩) hzq (by simp) fun q' _ hq' => ?_
  replace hq' : Heap.SameBut z q q' := hq'
  exact hE q' tk0 e (fun c o cz cT ci x => hq'.extBut _ _ cz (hq _ _ (ci 0 m0) (hs0.extBut _ _ cz x))) ⟨oe, hq'.extBut _ _ hez hoe, hce⟩
theorem pyNext_item {Q : Option Value → Shared → Prop} (S : Sep z TI TO m it fp) (m0 : 0 < m) (ms : m ≤ 1000) (D : ∀ k, k < m → Draws prog w A.in1 (it k) (fp k) n (P k) (St k))
    (hz : IsZip s.heap z TI TO .none) (hTI : TupA s.heap TI ((List.range m).map fun k => Value.ref (it k)).toArray) (hTO : TupA s.heap TO a0) (ha0 : a0.size = m) (st : ∀ k, k < m → St k i s.heap) (hlt : i < n)
    (hQ : ∀ (a : Array Value) h' tk, a.size = m → (∀ k, k < m → ∃ x, a[k]? = some x ∧ P k i x) → IsZip h' z TI TO (rawInt s.heap.objs.size) → TupA h' TO a → (∀ k, k < m → St k (i + 1) h') → TupA h' s.heap.objs.size a → h'.objs.size = s.heap.objs.size + 1 →
      (∀ c o, c ≠ z → c ≠ TO → (∀ j, j < m → c ≠ it j) → s.heap.get? c = some o → h'.get? c = some o) → Q (some (.ref s.heap.objs.size)) { s with heap := h', toks := tk }) :
    wpAny (model prog w) A (pyNext (.ref z)) Q E s := by
  have hT : s.TypeIs (.ref z) "zip" := ⟨_, hz, rfl⟩
  unfold pyNext
  exact wpAny_bind (wpAny_attempt (wpAny_callSpecial?_slot (name := Str.ofString "__next__") hT F.slot_zip_next
    (wpAny_call_entry F.slot_zip_next hT F.entry_zip_next
      (zipN_item S m0 ms D hz hTI hTO ha0 st hlt fun a h' tk y1 y2 b1 b2 d1 d2 b5 b6 => wpAny_pure (hQ a h' tk y1 y2 b1 b2 d1 d2 b5 b6)) (F.args_zip_next_1 _))))
theorem pyNext_end {Q : Option Value → Shared → Prop} (S : Sep z TI TO m it fp) (m0 : 0 < m) (D : ∀ k, k < m → Draws prog w A.in1 (it k) (fp k) n (P k) (St k))
    (hz : IsZip s.heap z TI TO .none) (hTI : TupA s.heap TI ((List.range m).map fun k => Value.ref (it k)).toArray) (hTO : TupA s.heap TO a0) (st : ∀ k, k < m → St k n s.heap)
    (hQ : ∀ h' tk, (∀ c o, c ≠ z → c ≠ TO → (∀ j, j < m → c ≠ it j) → s.heap.get? c = some o → h'.get? c = some o) → Q none { s with heap := h', toks := tk }) : wpAny (model prog w) A (pyNext (.ref z)) Q E s := by
  have hT : s.TypeIs (.ref z) "zip" := ⟨_, hz, rfl⟩
  unfold pyNext
  refine wpAny_bind (wpAny_attempt (wpAny_callSpecial?_slot (name := Str.ofString "__next__") hT F.slot_zip_next
    (wpAny_call_entry F.slot_zip_next hT F.entry_zip_next (zipN_end S m0 D hz hTI hTO st fun h' tk e hk he => ?_) (F.args_zip_next_1 _))))
  obtain ⟨o, ho, hc⟩ := he
  refine wpAny_bind (wpAny_isInstance (T := "StopIteration") (b := true) ⟨o, ho, hc⟩ isSubtype_stop ?_)
  exact wpAny_pure (hQ _ _ hk)
end
end NZ

namespace NZ
open PySem PySem.Spec PyProof.Rows
open Sem (wp)
theorem typeCall_zipN (us : List Value) : checkTypeCall "zip" ⟨us, []⟩ = pure () := by kernel_rfl
theorem newCall_zipN (u : Value) (us : List Value) : checkBuiltinCall "zip.__new__" ⟨.type "zip" :: u :: us, []⟩ = pure () := by kernel_rfl
theorem args_initN (obj : Value) (us : List Value) : argsOk "object.__init__" ⟨obj :: us, []⟩ := by unfold argsOk; kernel_rfl
def pushAll (h : Heap) (os : List Obj) : Heap := os.foldl Heap.push h
theorem pushAll_size (os : List Obj) : ∀ h : Heap, (pushAll h os).objs.size = h.objs.size + os.length := by
  induction os with
  | nil => exact fun h => rfl
  | cons o os ih =>
    intro h
    show (pushAll (h.push o) os).objs.size = _
    rw [ih, Heap.size_push, List.length_cons]
    omega
theorem pushAll_keep (os : List Obj) : ∀ (h : Heap) (b : Addr) (o : Obj), h.get? b = some o → (pushAll h os).get? b = some o := by
  induction os with
  | nil => exact fun h b o e => e
  | cons x os ih => exact fun h b o e => ih (h.push x) b o (Heap.get?_push_of_some _ e)
theorem pushAll_at : ∀ (os : List Obj) (h : Heap) (j : Nat) (o : Obj), os[j]? = some o → (∀ x ∈ os, x.isFreed = false) → (pushAll h os).get? (h.objs.size + j) = some o
  | [], h, j, o, e, _ => by simp at e
  | x :: os, h, 0, o, e, f => by
    cases e
    exact pushAll_keep os (h.push x) _ _ (Heap.get?_push_size _ (f x (.head _)))
  | x :: os, h, j + 1, o, e, f => by
    have := pushAll_at os (h.push x) j o e fun y hy => f y (.tail _ hy)
    rw [Heap.size_push] at this
    rw [show h.objs.size + (j + 1) = h.objs.size + 1 + j by omega]
    exact this
theorem pushAll_snoc (h : Heap) (os : List Obj) (o : Obj) : pushAll h (os ++ [o]) = (pushAll h os).push o := by
  unfold pushAll
  rw [List.foldl_append]
  rfl
theorem iterAll_N {prog : Program} {w : World} {A : Around} {E : Value → Shared → Prop} {Q : List Value → Shared → Prop} {us : List Value} {os : List Obj} {Hs : Heap → Prop} {s : Shared}
    (it : ∀ (j : Nat) (v : Value), us[j]? = some v → ∃ (o : Obj) (H : Heap → Prop), os[j]? = some o ∧ Begins v o H ∧ ∀ h, Hs h → H h) (ln : os.length = us.length) (hk : ∀ h h', Hs h → (∀ b o', h.get? b = some o' → h'.get? b = some o') → Hs h') (h0 : Hs s.heap)
    (hQ : Q ((List.range os.length).map fun k => Value.ref (s.heap.objs.size + k)) { s with heap := pushAll s.heap os }) : wpAny (model prog w) A (Builtin.SmallTypes.iterAll us) Q E s := by
  obtain ⟨hp, g, d, tk, os'⟩ := s
  unfold Builtin.SmallTypes.iterAll
  refine wpAny_bind ?_
  refine wpAny_forIn_list _ (fun rest b s' => ∃ k, k ≤ us.length ∧ rest = us.drop k ∧ b.toList = (List.range k).map (fun j => Value.ref (hp.objs.size + j)) ∧ s' = ⟨pushAll hp (os.take k), g, d, tk, os'⟩) _ ?_ ?_ _ _ ⟨0, Nat.zero_le _, rfl, rfl, rfl⟩
  · rintro v rest b s' ⟨k, hkl, er, eb, rfl⟩
    have kn : k < us.length := by
      refine Nat.lt_of_not_le fun z => ?_
      rw [List.drop_eq_nil_of_le z] at er
      cases er
    rw [List.drop_eq_getElem_cons kn] at er
    obtain ⟨e1, e2⟩ := List.cons.inj er
    obtain ⟨o, H, eo, B, hH⟩ := it k v (by rw [e1]; exact List.getElem?_eq_getElem kn)
    refine wpAny_bind (wpAny_holding (B.iter prog w _ _ ⟨pushAll hp (os.take k), g, d, tk, os'⟩ _ (hH _ (hk _ _ h0 (pushAll_keep _ _))) ?_))
    have lt : (os.take k).length = k := by rw [List.length_take]; omega
    have tk' : os.take (k + 1) = os.take k ++ [o] := by rw [List.take_add_one, eo]; rfl
    refine wpAny_pure ⟨k + 1, kn, e2, ?_, ?_⟩
    · show (b.push (Value.ref (pushAll hp (os.take k)).objs.size)).toList = _
      rw [Array.toList_push, eb, pushAll_size, lt, List.range_succ, List.map_append]
      rfl
    · rw [tk', pushAll_snoc]
  · rintro b s' ⟨k, hkl, er, eb, rfl⟩
    have kn : k = us.length := by
      refine Nat.le_antisymm hkl (Nat.le_of_not_lt fun z => ?_)
      rw [List.drop_eq_getElem_cons z] at er
      cases er
    have tl : os.take k = os := by rw [kn, ← ln, List.take_length]
    rw [tl]
    refine wpAny_pure ?_
    rw [eb, kn, ← ln]
    exact hQ
theorem meets_newN {u : Value} {us : List Value} {os : List Obj} {Hs : Heap → Prop}
    (it : ∀ (j : Nat) (v : Value), (u :: us)[j]? = some v → ∃ (o : Obj) (H : Heap → Prop), os[j]? = some o ∧ Begins v o H ∧ ∀ h, Hs h → H h) (ln : os.length = (u :: us).length) (few : us.length ≤ 900) (hk : ∀ h h', Hs h → (∀ b o', h.get? b = some o' → h'.get? b = some o') → Hs h') :
    Meets (Builtin.«zip.__new__» ⟨.type "zip" :: u :: us, []⟩) (fun _ R s => Hs s.heap ∧
      ∀ hZ, hZ = (((pushAll s.heap os).push { cls := .type "tuple", data := .seq ((List.range os.length).map fun k => Value.ref (s.heap.objs.size + k)).toArray }).push { cls := .type "tuple", data := .seq ((List.range os.length).map fun _ => Value.none).toArray }).push { cls := .type "zip", data := .fields #[.none, .bool false, .bool false, .ref (s.heap.objs.size + os.length), .ref (s.heap.objs.size + os.length + 1)] } →
      R (.ok (.ret (.ref (s.heap.objs.size + os.length + 2)))) { s with heap := hZ }) :=
  .of_wp fun prog w A R s h => by
    obtain ⟨hp, g, d, tk, os'⟩ := s
    obtain ⟨h1, h⟩ := h
    have hsub := sub_zip
    have q1 : ∀ {A' : Around} {E : Value → Shared → Prop} {Q : List Value → Shared → Prop}, Q ((List.range os.length).map fun k => Value.ref (hp.objs.size + k)) ⟨pushAll hp os, g, d, tk, os'⟩ → wpAny (model prog w) A' (Builtin.SmallTypes.iterAll (u :: us)) Q E ⟨hp, g, d, tk, os'⟩ :=
      fun q => iterAll_N (s := ⟨hp, g, d, tk, os'⟩) it ln hk h1 q
    have ol : os.length ≤ 1000 := by rw [ln, List.length_cons]; omega
    have sl : (1000 : Nat) ≤ sizeLine := by decide
    wp_walk using q1
    rw [if_neg (by rw [List.size_toArray, List.length_map, List.length_range]; omega)]
    wp_walk
    rw [if_neg (by rw [List.size_toArray, List.length_map, List.length_map, List.length_range]; omega)]
    wp_walk
    have z1 : (pushAll hp os).objs.size = hp.objs.size + os.length := pushAll_size os hp
    have e2 : (List.map (fun x => Value.none) (List.map (fun k => Value.ref (hp.objs.size + k)) (List.range os.length))) = List.map (fun _ => Value.none) (List.range os.length) := by rw [List.map_map]; rfl
    refine ⟨_, rfl, ?_⟩
    simp only [e2, Heap.size_push, z1]
    exact h _ rfl
theorem zip_beginsN {prog : Program} {w : World} {A : Around} {E : Value → Shared → Prop} {Q : Value → Shared → Prop} {s : Shared} {u : Value} {us : List Value} {os : List Obj} {Hs : Heap → Prop}
    (it : ∀ (j : Nat) (v : Value), (u :: us)[j]? = some v → ∃ (o : Obj) (H : Heap → Prop), os[j]? = some o ∧ Begins v o H ∧ ∀ h, Hs h → H h) (ln : os.length = (u :: us).length) (few : us.length ≤ 900) (hk : ∀ h h', Hs h → (∀ b o', h.get? b = some o' → h'.get? b = some o') → Hs h') (h0 : Hs s.heap)
    (h : ∀ h', IsZip h' (s.heap.objs.size + os.length + 2) (s.heap.objs.size + os.length) (s.heap.objs.size + os.length + 1) .none → TupA h' (s.heap.objs.size + os.length) ((List.range os.length).map fun k => Value.ref (s.heap.objs.size + k)).toArray →
      TupA h' (s.heap.objs.size + os.length + 1) ((List.range os.length).map fun _ => Value.none).toArray → (∀ j o, os[j]? = some o → h'.get? (s.heap.objs.size + j) = some o) → h'.objs.size = s.heap.objs.size + os.length + 3 →
      (∀ c o, s.heap.get? c = some o → h'.get? c = some o) → Q (.ref (s.heap.objs.size + os.length + 2)) { s with heap := h' }) :
    wpAny (model prog w) A (call (.type "zip") (u :: us)) Q E s := by
  refine callType_new F.called_zip (by decide) (typeCall_zipN _) (newCall_zipN _ _) (fun obj => args_initN obj _) F.entry_zip_new (meets_newN it ln few hk) ⟨h0, fun hZ eZ => ?_⟩
  have z1 : (pushAll s.heap os).objs.size = s.heap.objs.size + os.length := pushAll_size os s.heap
  have free : ∀ x ∈ os, x.isFreed = false := fun x hx => by
    obtain ⟨j, hj⟩ := List.getElem?_of_mem hx
    have lt := (List.getElem?_eq_some_iff.mp hj).1
    obtain ⟨o, H, eo, B, _⟩ := it j ((u :: us)[j]'(by omega)) (List.getElem?_eq_getElem (by omega))
    rw [hj] at eo
    cases eo
    exact B.free
  have up : ∀ c o, (pushAll s.heap os).get? c = some o → hZ.get? c = some o := fun c o e => by
    rw [eZ]
    exact Heap.get?_push_of_some _ (Heap.get?_push_of_some _ (Heap.get?_push_of_some _ e))
  have gT : TupA hZ (s.heap.objs.size + os.length) ((List.range os.length).map fun k => Value.ref (s.heap.objs.size + k)).toArray := by
    have := Heap.get?_push_size (pushAll s.heap os) (o := { cls := .type "tuple", data := .seq ((List.range os.length).map fun k => Value.ref (s.heap.objs.size + k)).toArray }) rfl
    rw [z1] at this
    rw [eZ]
    exact Heap.get?_push_of_some _ (Heap.get?_push_of_some _ this)
  have gO : TupA hZ (s.heap.objs.size + os.length + 1) ((List.range os.length).map fun _ => Value.none).toArray := by
    have := Heap.get?_push_size ((pushAll s.heap os).push { cls := .type "tuple", data := .seq ((List.range os.length).map fun k => Value.ref (s.heap.objs.size + k)).toArray }) (o := { cls := .type "tuple", data := .seq ((List.range os.length).map fun _ => Value.none).toArray }) rfl
    rw [Heap.size_push, z1] at this
    rw [eZ]
    exact Heap.get?_push_of_some _ this
  have gZ : IsZip hZ (s.heap.objs.size + os.length + 2) (s.heap.objs.size + os.length) (s.heap.objs.size + os.length + 1) .none := by
    have := Heap.get?_push_size (((pushAll s.heap os).push { cls := .type "tuple", data := .seq ((List.range os.length).map fun k => Value.ref (s.heap.objs.size + k)).toArray }).push { cls := .type "tuple", data := .seq ((List.range os.length).map fun _ => Value.none).toArray })
      (o := { cls := .type "zip", data := .fields #[.none, .bool false, .bool false, .ref (s.heap.objs.size + os.length), .ref (s.heap.objs.size + os.length + 1)] }) rfl
    rw [Heap.size_push, Heap.size_push, z1] at this
    rw [eZ]
    exact this
  show _ ∧ _
  exact ⟨⟨_, gZ, rfl⟩, h hZ gZ gT gO (fun j o e => up _ _ (pushAll_at os s.heap j o e free)) (by rw [eZ, Heap.size_push, Heap.size_push, Heap.size_push, z1]) fun c o e => up c o (pushAll_keep os s.heap c o e)⟩
end NZ

/-! NZc: zip over any number of iterators, whether or not the tuple it handed out is still held. -/
namespace NZ
open PySem PySem.Spec PyProof.Rows
open Sem (wp)
abbrev ZipS (h : Heap) (z TI TO : Addr) (f0 : Value) (f1 : Bool) : Prop := h.get? z = some { cls := .type "zip", dict := none, data := .fields #[f0, .bool f1, .bool false, .ref TI, .ref TO], slots := #[] }
def ZSt (h : Heap) (z TI TO : Addr) : Prop := ∃ f0 f1, (f0 = Value.none ∨ ∃ T : Nat, f0 = rawInt T) ∧ ZipS h z TI TO f0 f1
section
variable {prog : Program} {w : World} {A : Around} {E : Value → Shared → Prop} {s : Shared} {z TI TO : Addr} {m n i : Nat} {it : Nat → Addr} {fp : Nat → List Addr} {P : Nat → Nat → Value → Prop} {St : Nat → Nat → Heap → Prop}
theorem wpAny_loadIfAlive {M : Model} {a : Addr} {Q : Option Obj → Shared → Prop} (h : Q (s.heap.get? a) s) : wpAny M A (loadIfAlive a) Q E s := fun Γ p hΓ => by
  unfold loadIfAlive
  rw [Sem.wp_loadIfAlive]
  exact wpAny_pure h Γ p hΓ
theorem free_or {Q : Bool → Shared → Prop} (hz : ZSt s.heap z TI TO) (hQ : ∀ b f0 f1 h', Heap.SameBut z s.heap h' → ZipS h' z TI TO f0 f1 → (f0 = Value.none ∨ ∃ T : Nat, f0 = rawInt T) → Q b { s with heap := h' }) :
    wpAny (model prog w) A (Builtin.SmallTypes.ownedTupleIsFree (.ref z)) Q E s := by
  obtain ⟨f0, f1, hf, hz⟩ := hz
  have same : Heap.SameBut z s.heap s.heap := ⟨rfl, fun _ _ => rfl⟩
  unfold Builtin.SmallTypes.ownedTupleIsFree
  rcases hf with rfl | ⟨T, rfl⟩
  · exact wpAny_bind (wpAny_field hz rfl (x := .none) rfl (wpAny_pure (hQ _ _ _ _ same hz (.inl rfl))))
  · refine wpAny_bind (wpAny_field hz rfl (x := rawInt T) rfl ?_)
    show wpAny _ _ (loadIfAlive ((T : Int).toNat) >>= _) _ _ _
    refine wpAny_bind (wpAny_loadIfAlive ?_)
    cases s.heap.get? ((T : Int).toNat) with
    | none => exact wpAny_pure (hQ _ _ _ _ same hz (.inr ⟨T, rfl⟩))
    | some o =>
      show wpAny _ _ (field (.ref z) 1 >>= _) _ _ _
      refine wpAny_bind (wpAny_field hz rfl (x := .bool f1) rfl ?_)
      cases f1 with
      | true => exact wpAny_pure (hQ _ _ _ _ same hz (.inr ⟨T, rfl⟩))
      | false =>
        show wpAny _ _ (setField (.ref z) 1 (.bool true) >>= _) _ _ _
        refine wpAny_bind (wpAny_setField_rec hz (by simp) fun h' hz' hs' => ?_)
        exact wpAny_pure (hQ _ _ _ _ hs' hz' (.inr ⟨T, rfl⟩))
structure MidS (z TI TO : Addr) (m i : Nat) (it : Nat → Addr) (P : Nat → Nat → Value → Prop) (St : Nat → Nat → Heap → Prop) (f1 : Bool) (hp : Heap) (k : Nat) (h : Heap) : Prop where
  zip : ZipS h z TI TO .ellipsis f1
  tup : ∃ a : Array Value, TupA h TO a ∧ a.size = m ∧ ∀ j, j < k → ∃ x, a[j]? = some x ∧ P j i x
  past : ∀ j, j < k → St j (i + 1) h
  next : ∀ j, k ≤ j → j < m → St j i h
  size : h.objs.size = hp.objs.size
  keep : ∀ c o, c ≠ z → c ≠ TO → (∀ j, j < m → c ≠ it j) → hp.get? c = some o → h.get? c = some o
structure MidH (z TI TO : Addr) (m i : Nat) (it : Nat → Addr) (St : Nat → Nat → Heap → Prop) (f0 : Value) (f1 : Bool) (a0 : Array Value) (hp : Heap) (k : Nat) (h : Heap) : Prop where
  zip : ZipS h z TI TO f0 f1
  tup : TupA h TO a0
  past : ∀ j, j < k → St j (i + 1) h
  next : ∀ j, k ≤ j → j < m → St j i h
  size : h.objs.size = hp.objs.size
  keep : ∀ c o, c ≠ z → (∀ j, j < m → c ≠ it j) → hp.get? c = some o → h.get? c = some o
def fromV (it : Nat → Addr) (m k : Nat) : List Value := (List.range' k (m - k)).map fun j => Value.ref (it j)
theorem fromV_succ {k : Nat} (h : k < m) : fromV it m k = Value.ref (it k) :: fromV it m (k + 1) := by
  unfold fromV
  rw [show m - k = (m - (k + 1)) + 1 by omega, List.range'_succ]
  rfl
theorem fromV_end : fromV it m m = [] := by
  unfold fromV
  rw [Nat.sub_self]
  rfl
theorem fromV_zero : ((List.range m).map fun k => Value.ref (it k)) = fromV it m 0 := by
  unfold fromV
  rw [Nat.sub_zero, List.range_eq_range']
theorem zipS_item {Q : Value → Shared → Prop} (S : Sep z TI TO m it fp) (m0 : 0 < m) (ms : m ≤ 1000) (D : ∀ k, k < m → Draws prog w A (it k) (fp k) n (P k) (St k)) (TIz : TI ≠ z)
    (hz : ZSt s.heap z TI TO) (hTI : TupA s.heap TI ((List.range m).map fun k => Value.ref (it k)).toArray) (hTO : ∃ a0, TupA s.heap TO a0 ∧ a0.size = m) (st : ∀ k, k < m → St k i s.heap) (hlt : i < n)
    (hQ : ∀ (a : Array Value) h' tk, a.size = m → (∀ k, k < m → ∃ x, a[k]? = some x ∧ P k i x) → ZSt h' z TI TO → (∃ a0, TupA h' TO a0 ∧ a0.size = m) → (∀ k, k < m → St k (i + 1) h') → TupA h' s.heap.objs.size a → h'.objs.size = s.heap.objs.size + 1 →
      (∀ c o, c ≠ z → c ≠ TO → (∀ j, j < m → c ≠ it j) → s.heap.get? c = some o → h'.get? c = some o) → Q (.ref s.heap.objs.size) { s with heap := h', toks := tk }) :
    wpAny (model prog w) A (Builtin.«zip.__next__» ⟨[.ref z], []⟩) (fun fin s' => ∃ v, fin = .done (.ret v) ∧ Q v s') E s := by
  obtain ⟨f0, f1, hf, hz⟩ := hz
  obtain ⟨a0, hTO, ha0⟩ := hTO
  obtain ⟨hp, g, d, tk0, os⟩ := s
  show wpAny _ _ (field (.ref z) 2 >>= _) _ _ _
  refine wpAny_bind (wpAny_field hz rfl (x := .bool false) rfl ?_)
  show wpAny _ _ (field (.ref z) 3 >>= _) _ _ _
  refine wpAny_bind (wpAny_field hz rfl (x := .ref TI) rfl ?_)
  refine wpAny_bind (wpAny_seqItems hTI rfl ?_)
  have ne : (((List.range m).map fun k => Value.ref (it k)).toArray).isEmpty = false := by
    rw [Array.isEmpty_eq_false_iff]
    intro e
    have := congrArg Array.size e
    simp at this
    omega
  simp only [ne, Bool.false_eq_true, if_false]
  show wpAny _ _ (Builtin.SmallTypes.ownedTupleIsFree (.ref z) >>= _) _ _ _
  refine wpAny_bind (free_or ⟨f0, f1, hf, hz⟩ fun b f0 f1 h0 hs0' hz hf => ?_)
  have hTO := hs0'.extBut _ _ S.TOz hTO
  cases b with
  | true =>
    simp only [if_true]
    refine wpAny_bind (wpAny_rule ?_)
    refine wpAny_bind (wpAny_field hz rfl (x := .ref TO) rfl ?_)
    refine wpAny_bind (wpAny_setField_rec hz (by simp) fun g0 hz0 hs0 => ?_)
    replace hz0 : ZipS g0 z TI TO .ellipsis f1 := hz0
    replace hs0 : Heap.SameBut z h0 g0 := hs0
    refine wpAny_bind ?_
    rw [from_zero]
    have mid0 : MidS z TI TO m i it P St f1 hp 0 g0 := ⟨hz0, ⟨a0, hs0.extBut _ _ S.TOz hTO, ha0, fun j hj => by omega⟩, fun j hj => by omega, fun j _ hj => (D j hj).over ((D j hj).over (st j hj) hs0' (S.zf j hj)) hs0 (S.zf j hj), by rw [hs0.1]; exact hs0'.1, fun c o cz _ _ e => hs0.extBut _ _ cz (hs0'.extBut _ _ cz e)⟩
    refine wpAny_forIn_list _ (fun rest b s' => ∃ k tk h, k ≤ m ∧ rest = from_ it m k ∧ b = ⟨none, ()⟩ ∧ s' = ⟨h, g, d, tk, os⟩ ∧ MidS z TI TO m i it P St f1 hp k h) _ ?_ ?_ _ _ ⟨0, _, _, Nat.zero_le _, rfl, rfl, rfl, mid0⟩
    · rintro ⟨v, j⟩ rest b s' ⟨k, tk, h, hk, er, rfl, rfl, M⟩
      have kn : k < m := by
        refine Nat.lt_of_not_le fun z => ?_
        have : k = m := by omega
        rw [this, from_end] at er
        cases er
      rw [from_succ kn] at er
      cases er
      obtain ⟨k, rfl⟩ : ∃ k, k = j := ⟨j, rfl⟩
      refine wpAny_bind (wpAny_onRaise ?_)
      show wpAny _ _ (Builtin.SmallTypes.nextOf (.ref (it k)) >>= _) _ _ ⟨h, g, d, tk, os⟩
      refine wpAny_bind ((D k kn).item i _ _ _ hlt (M.next k (Nat.le_refl _) kn) fun x p tk1 hx sn hp1 => wpAny_pure ?_)
      replace hp1 : Heap.SameBut (it k) h p := hp1
      obtain ⟨a, ta, sa, xa⟩ := M.tup
      have hU : TupA p TO a := hp1.extBut _ _ (S.Ti kn) ta
      have sl : a.size ≤ sizeLine := by
        rw [sa]
        have : (1000 : Nat) ≤ sizeLine := by decide
        omega
      refine wpAny_bind (wpAny_seqItems (s := ⟨p, g, d, tk1, os⟩) hU rfl ?_)
      refine wpAny_bind (updateSeq_TupA (s := ⟨p, g, d, tk1, os⟩) hU sl fun g1 hT1 hs1 => ?_)
      replace hs1 : Heap.SameBut TO p g1 := hs1
      refine wpAny_bind (wpAny_letGo (wpAny_pure ?_))
      refine ⟨k + 1, tk1, g1, kn, rfl, rfl, rfl, ⟨hs1.extBut _ _ S.TOz.symm (hp1.extBut _ _ (S.zi kn) M.zip), ⟨_, hT1, by rw [Array.size_setIfInBounds]; exact sa, fun j hj => ?_⟩, fun j hj => ?_, fun j hj hjm => ?_, by rw [hs1.1, hp1.1]; exact M.size, fun c o cz cT ci e => hs1.extBut _ _ cT (hp1.extBut _ _ (ci k kn) (M.keep c o cz cT ci e))⟩⟩
      · rw [Array.getElem?_setIfInBounds]
        by_cases e : k = j
        · subst e
          rw [if_pos rfl, if_pos (by omega)]
          exact ⟨x, rfl, hx⟩
        · rw [if_neg e]
          exact xa j (by omega)
      · by_cases e : j = k
        · subst e
          exact (D j kn).over sn hs1 (S.Tf j kn)
        · have jm : j < m := by omega
          exact (D j jm).over ((D j jm).over (M.past j (by omega)) hp1 (S.sep k j kn jm (fun z => e z.symm))) hs1 (S.Tf j jm)
      · exact (D j hjm).over ((D j hjm).over (M.next j (by omega) hjm) hp1 (S.sep k j kn hjm (by omega))) hs1 (S.Tf j hjm)
    · rintro b s' ⟨k, tk, g2, hk, er, rfl, rfl, M⟩
      have km : k = m := by
        refine Nat.le_antisymm hk (Nat.le_of_not_lt fun z => ?_)
        rw [from_succ z] at er
        cases er
      subst km
      obtain ⟨a, ta, sa, xa⟩ := M.tup
      refine wpAny_bind (wpAny_seqItems (s := ⟨g2, g, d, tk, os⟩) ta rfl ?_)
      have sl : a.toList.length ≤ sizeLine := by
        rw [Array.length_toList, sa]
        have : (1000 : Nat) ≤ sizeLine := by decide
        omega
      refine wpAny_bind (wpAny_newTuple (hsz := sl) ?_)
      have hsz := M.size
      have hzz := M.zip
      have hzlt : z < g2.objs.size := Heap.lt_size hzz
      show wpAny _ _ (Builtin.SmallTypes.ownedTupleHandOut (.ref z) (.ref g2.objs.size) >>= _) _ _ ⟨g2.push { cls := .type "tuple", data := .seq a }, g, d, tk, os⟩
      refine wpAny_bind ?_
      unfold Builtin.SmallTypes.ownedTupleHandOut
      have hz₆ : ZipS (g2.push { cls := .type "tuple", data := .seq a }) z TI TO .ellipsis f1 := Heap.get?_push_of_some _ hzz
      refine wpAny_bind (wpAny_setField_rec hz₆ (by simp) fun h₇ hz₇ hs₇ => ?_)
      replace hz₇ : ZipS h₇ z TI TO (rawInt g2.objs.size) f1 := hz₇
      refine wpAny_setField_rec hz₇ (by simp) fun h₈ hz₈ hs₈ => ?_
      replace hz₈ : ZipS h₈ z TI TO (rawInt g2.objs.size) false := hz₈
      replace hs₇ : Heap.SameBut z (g2.push { cls := .type "tuple", data := .seq a }) h₇ := hs₇
      replace hs₈ : Heap.SameBut z h₇ h₈ := hs₈
      have up : ∀ c o, c ≠ z → g2.get? c = some o → h₈.get? c = some o := fun c o c1 e => hs₈.extBut _ _ c1 (hs₇.extBut _ _ c1 (Heap.get?_push_of_some _ e))
      have hT₈ : TupA h₈ g2.objs.size a := hs₈.extBut _ _ (Nat.ne_of_gt hzlt) (hs₇.extBut _ _ (Nat.ne_of_gt hzlt) (Heap.get?_push_size _ rfl))
      have hz8 : h₈.objs.size = g2.objs.size + 1 := by rw [hs₈.1, hs₇.1, Heap.size_push]
      rw [hsz] at hz₈ hT₈ hz8
      refine wpAny_pure ⟨_, rfl, ?_⟩
      show Q (.ref g2.objs.size) ⟨h₈, g, d, tk, os⟩
      rw [hsz]
      exact hQ a h₈ tk sa xa ⟨_, _, .inr ⟨_, rfl⟩, hz₈⟩ ⟨_, up _ _ S.TOz ta, sa⟩ (fun j hj => (D j hj).frame _ _ _ (M.past j hj) fun b hb o e => up b o (fun q => S.zf j hj (q ▸ hb)) e) hT₈ hz8 fun c o cz cT ci e => up c o cz (M.keep c o cz cT ci e)
  | false =>
    simp only [Bool.false_eq_true, if_false]
    refine wpAny_bind ?_
    have mid0 : MidH z TI TO m i it St f0 f1 a0 hp 0 h0 := ⟨hz, hTO, fun j hj => by omega, fun j _ hj => (D j hj).over (st j hj) hs0' (S.zf j hj), hs0'.1, fun c o cz _ e => hs0'.extBut _ _ cz e⟩
    rw [← Array.forIn_toList]
    refine wpAny_forIn_list _ (fun rest b s' => ∃ k tk h, k ≤ m ∧ rest = fromV it m k ∧ b.1 = none ∧ b.2.size = k ∧ (∀ j, j < k → ∃ x, b.2[j]? = some x ∧ P j i x) ∧ s' = ⟨h, g, d, tk, os⟩ ∧ MidH z TI TO m i it St f0 f1 a0 hp k h) _ ?_ ?_ _ _
      ⟨0, _, _, Nat.zero_le _, by rw [List.toList_toArray]; exact fromV_zero, rfl, rfl, fun j hj => by omega, rfl, mid0⟩
    · rintro v rest ⟨b1, b2⟩ s' ⟨k, tk, h, hk, er, eb1, eb2, eb3, rfl, M⟩
      have kn : k < m := by
        refine Nat.lt_of_not_le fun z => ?_
        have : k = m := by omega
        rw [this, fromV_end] at er
        cases er
      rw [fromV_succ kn] at er
      obtain ⟨rfl, rfl⟩ := List.cons.inj er
      have eb1 : b1 = none := eb1
      subst eb1
      refine wpAny_bind (wpAny_holding ?_)
      show wpAny _ _ (Builtin.SmallTypes.nextOf (.ref (it k)) >>= _) _ _ ⟨h, g, d, tk, os⟩
      refine wpAny_bind ((D k kn).item i _ _ _ hlt (M.next k (Nat.le_refl _) kn) fun x p tk1 hx sn hp1 => wpAny_pure ?_)
      replace hp1 : Heap.SameBut (it k) h p := hp1
      have eb2 : b2.size = k := eb2
      refine wpAny_pure ⟨k + 1, tk1, p, kn, rfl, rfl, by show (b2.push x).size = _; rw [Array.size_push, eb2], fun j hj => ?_, rfl, ⟨hp1.extBut _ _ (S.zi kn) M.zip, hp1.extBut _ _ (S.Ti kn) M.tup, fun j hj => ?_, fun j hj hjm => ?_, by rw [hp1.1]; exact M.size, fun c o cz ci e => hp1.extBut _ _ (ci k kn) (M.keep c o cz ci e)⟩⟩
      · show ∃ y, (b2.push x)[j]? = some y ∧ _
        rw [Array.getElem?_push]
        by_cases e : j = k
        · subst e
          rw [if_pos eb2.symm]
          exact ⟨x, rfl, hx⟩
        · rw [if_neg (by omega)]
          exact eb3 j (by omega)
      · by_cases e : j = k
        · subst e
          exact sn
        · have jm : j < m := by omega
          exact (D j jm).over (M.past j (by omega)) hp1 (S.sep k j kn jm (fun z => e z.symm))
      · exact (D j hjm).over (M.next j (by omega) hjm) hp1 (S.sep k j kn hjm (by omega))
    · rintro ⟨b1, b2⟩ s' ⟨k, tk, h, hk, er, eb1, eb2, eb3, rfl, M⟩
      have km : k = m := by
        refine Nat.le_antisymm hk (Nat.le_of_not_lt fun z => ?_)
        rw [fromV_succ z] at er
        cases er
      subst km
      have eb1 : b1 = none := eb1
      subst eb1
      have eb2 : b2.size = k := eb2
      have sl : b2.toList.length ≤ sizeLine := by
        rw [Array.length_toList, eb2]
        have : (1000 : Nat) ≤ sizeLine := by decide
        omega
      refine wpAny_bind (wpAny_newTuple (hsz := sl) ?_)
      refine wpAny_pure ⟨_, rfl, ?_⟩
      have hsz : h.objs.size = hp.objs.size := M.size
      have up : ∀ c o, h.get? c = some o → (h.push { cls := .type "tuple", data := .seq b2 }).get? c = some o := fun c o e => Heap.get?_push_of_some _ e
      have gN : TupA (h.push { cls := .type "tuple", data := .seq b2 }) hp.objs.size b2 := by
        rw [← hsz]
        exact Heap.get?_push_size h rfl
      show Q (.ref h.objs.size) ⟨h.push { cls := .type "tuple", data := .seq b2 }, g, d, tk, os⟩
      rw [hsz]
      exact hQ b2 _ tk eb2 eb3 ⟨f0, f1, hf, up _ _ M.zip⟩ ⟨a0, up _ _ M.tup, ha0⟩ (fun j hj => (D j hj).frame _ _ _ (M.past j hj) fun b hb o e => up b o e) gN (by rw [Heap.size_push, hsz]) fun c o cz cT ci e => up c o (M.keep c o cz ci e)
theorem zipS_end {Q : Fin → Shared → Prop} (S : Sep z TI TO m it fp) (m0 : 0 < m) (D : ∀ k, k < m → Draws prog w A (it k) (fp k) n (P k) (St k))
    (hz : ZSt s.heap z TI TO) (hTI : TupA s.heap TI ((List.range m).map fun k => Value.ref (it k)).toArray) (st : ∀ k, k < m → St k n s.heap)
    (hE : ∀ h' tk e, (∀ c o, c ≠ z → c ≠ TO → (∀ j, j < m → c ≠ it j) → s.heap.get? c = some o → h'.get? c = some o) → (∃ o, h'.get? e = some o ∧ o.cls = .type "StopIteration") → E (.ref e) { s with heap := h', toks := tk }) :
    wpAny (model prog w) A (Builtin.«zip.__next__» ⟨[.ref z], []⟩) Q E s := by
  obtain ⟨f0, f1, hf, hz⟩ := hz
  obtain ⟨hp, g, d, tk0, os⟩ := s
  show wpAny _ _ (field (.ref z) 2 >>= _) _ _ _
  refine wpAny_bind (wpAny_field hz rfl (x := .bool false) rfl ?_)
  show wpAny _ _ (field (.ref z) 3 >>= _) _ _ _
  refine wpAny_bind (wpAny_field hz rfl (x := .ref TI) rfl ?_)
  refine wpAny_bind (wpAny_seqItems hTI rfl ?_)
  have ne : (((List.range m).map fun k => Value.ref (it k)).toArray).isEmpty = false := by
    rw [Array.isEmpty_eq_false_iff]
    intro e
    have := congrArg Array.size e
    simp at this
    omega
  simp only [ne, Bool.false_eq_true, if_false]
  show wpAny _ _ (Builtin.SmallTypes.ownedTupleIsFree (.ref z) >>= _) _ _ _
  refine wpAny_bind (free_or ⟨f0, f1, hf, hz⟩ fun b f0 f1 h0 hs0' hz hf => ?_)
  cases b with
  | true =>
    simp only [if_true]
    refine wpAny_bind (wpAny_rule ?_)
    refine wpAny_bind (wpAny_field hz rfl (x := .ref TO) rfl ?_)
    refine wpAny_bind (wpAny_setField_rec hz (by simp) fun g0 hz0 hs0 => ?_)
    replace hz0 : ZipS g0 z TI TO .ellipsis f1 := hz0
    replace hs0 : Heap.SameBut z h0 g0 := hs0
    refine wpAny_bind ?_
    rw [from_zero, from_succ m0, List.forIn_cons]
    refine wpAny_bind (wpAny_bind (wpAny_onRaise ?_))
    show wpAny _ _ (Builtin.SmallTypes.nextOf (.ref (it 0)) >>= _) _ _ ⟨g0, g, d, tk0, os⟩
    refine wpAny_bind ((D 0 m0).done ⟨g0, g, d, tk0, os⟩ _ _ ((D 0 m0).over ((D 0 m0).over (st 0 m0) hs0' (S.zf 0 m0)) hs0 (S.zf 0 m0)) fun q e hq he => ?_)
    replace hq : Heap.ExtBut (it 0) g0 q := hq
    obtain ⟨oe, hoe, hce⟩ := he
    replace hoe : q.get? e = some oe := hoe
    have hzq : ZipS q z TI TO .ellipsis f1 := hq _ _ (S.zi m0) hz0
    have hez : e ≠ z := fun x => by subst x; rw [hzq] at hoe; cases hoe; simp at hce
    refine wpAny_setField_rec (s := ⟨q, g, d, tk0, os⟩) hzq (by simp) fun q' _ hq' => ?_
    replace hq' : Heap.SameBut z q q' := hq'
    exact hE q' tk0 e (fun c o cz cT ci x => hq'.extBut _ _ cz (hq _ _ (ci 0 m0) (hs0.extBut _ _ cz (hs0'.extBut _ _ cz x)))) ⟨oe, hq'.extBut _ _ hez hoe, hce⟩
  | false =>
    simp only [Bool.false_eq_true, if_false]
    refine wpAny_bind ?_
    rw [← Array.forIn_toList, List.toList_toArray, fromV_zero, fromV_succ m0, List.forIn_cons]
    refine wpAny_bind (wpAny_bind (wpAny_holding ?_))
    show wpAny _ _ (Builtin.SmallTypes.nextOf (.ref (it 0)) >>= _) _ _ ⟨h0, g, d, tk0, os⟩
    refine wpAny_bind ((D 0 m0).done ⟨h0, g, d, tk0, os⟩ _ _ ((D 0 m0).over (st 0 m0) hs0' (S.zf 0 m0)) fun q e hq he => ?_)
    replace hq : Heap.ExtBut (it 0) h0 q := hq
    exact hE q tk0 e (fun c o cz cT ci x => hq _ _ (ci 0 m0) (hs0'.extBut _ _ cz x)) he
theorem pyNextS_item {Q : Option Value → Shared → Prop} (S : Sep z TI TO m it fp) (m0 : 0 < m) (ms : m ≤ 1000) (D : ∀ k, k < m → Draws prog w A.in1 (it k) (fp k) n (P k) (St k)) (TIz : TI ≠ z)
    (hz : ZSt s.heap z TI TO) (hTI : TupA s.heap TI ((List.range m).map fun k => Value.ref (it k)).toArray) (hTO : ∃ a0, TupA s.heap TO a0 ∧ a0.size = m) (st : ∀ k, k < m → St k i s.heap) (hlt : i < n)
    (hQ : ∀ (a : Array Value) h' tk, a.size = m → (∀ k, k < m → ∃ x, a[k]? = some x ∧ P k i x) → ZSt h' z TI TO → (∃ a0, TupA h' TO a0 ∧ a0.size = m) → (∀ k, k < m → St k (i + 1) h') → TupA h' s.heap.objs.size a → h'.objs.size = s.heap.objs.size + 1 →
      (∀ c o, c ≠ z → c ≠ TO → (∀ j, j < m → c ≠ it j) → s.heap.get? c = some o → h'.get? c = some o) → Q (some (.ref s.heap.objs.size)) { s with heap := h', toks := tk }) :
    wpAny (model prog w) A (pyNext (.ref z)) Q E s := by
  obtain ⟨f0, f1, hf, hz'⟩ := id hz
  have hT : s.TypeIs (.ref z) "zip" := ⟨_, hz', rfl⟩
  unfold pyNext
  exact wpAny_bind (wpAny_attempt (wpAny_callSpecial?_slot (name := Str.ofString "__next__") hT F.slot_zip_next
    (wpAny_call_entry F.slot_zip_next hT F.entry_zip_next
      (zipS_item S m0 ms D TIz hz hTI hTO st hlt fun a h' tk y1 y2 b1 b2 d1 d2 b5 b6 => wpAny_pure (hQ a h' tk y1 y2 b1 b2 d1 d2 b5 b6)) (F.args_zip_next_1 _))))
theorem pyNextS_end {Q : Option Value → Shared → Prop} (S : Sep z TI TO m it fp) (m0 : 0 < m) (D : ∀ k, k < m → Draws prog w A.in1 (it k) (fp k) n (P k) (St k))
    (hz : ZSt s.heap z TI TO) (hTI : TupA s.heap TI ((List.range m).map fun k => Value.ref (it k)).toArray) (st : ∀ k, k < m → St k n s.heap)
    (hQ : ∀ h' tk, (∀ c o, c ≠ z → c ≠ TO → (∀ j, j < m → c ≠ it j) → s.heap.get? c = some o → h'.get? c = some o) → Q none { s with heap := h', toks := tk }) : wpAny (model prog w) A (pyNext (.ref z)) Q E s := by
  obtain ⟨f0, f1, hf, hz'⟩ := id hz
  have hT : s.TypeIs (.ref z) "zip" := ⟨_, hz', rfl⟩
  unfold pyNext
  refine wpAny_bind (wpAny_attempt (wpAny_callSpecial?_slot (name := Str.ofString "__next__") hT F.slot_zip_next
    (wpAny_call_entry F.slot_zip_next hT F.entry_zip_next (zipS_end S m0 D hz hTI st fun h' tk e hk he => ?_) (F.args_zip_next_1 _))))
  obtain ⟨o, ho, hc⟩ := he
  refine wpAny_bind (wpAny_isInstance (T := "StopIteration") (b := true) ⟨o, ho, hc⟩ isSubtype_stop ?_)
  exact wpAny_pure (hQ _ _ hk)
end
end NZ

/-! NZt: zip(*rows), the rows tuples of one length, walked by a name. -/
namespace NZ
open PySem L2 PySem.Spec PyProof.Rows
def ItZ (K : PySem.W.Frag) (ts : List Addr) : It :=
  ⟨fun i H => ∃ (rows : List (List V)) (n : Nat), Paired (fun t r => SqT K H t r) ts rows ∧ (∀ r ∈ rows, r.length = n) ∧ i < n,
    fun i H v H' => ∃ T xs, v = .ref T ∧ H T = none ∧ H' = upd H T (.tup xs) ∧ ∀ rows, Paired (fun t r => SqT K H t r) ts rows → xs.length = ts.length ∧ ∀ (k : Nat) r, rows[k]? = some r → xs[k]? = r[i]?,
    fun i H => ∃ (rows : List (List V)) (n : Nat), Paired (fun t r => SqT K H t r) ts rows ∧ (∀ r ∈ rows, r.length = n) ∧ i = n⟩
/-- the cells of the zip, the first at n0 -/
def fpZ (n0 m : Nat) : List Addr := (List.range (m + 3)).map fun k => n0 + k
theorem fpZ_mem {n0 m b : Nat} : b ∈ fpZ n0 m ↔ n0 ≤ b ∧ b < n0 + m + 3 := by
  unfold fpZ
  rw [List.mem_map]
  constructor
  · rintro ⟨k, hk, rfl⟩
    have := List.mem_range.mp hk
    exact ⟨Nat.le_add_right _ _, by omega⟩
  · rintro ⟨h1, h2⟩
    exact ⟨b - n0, List.mem_range.mpr (by omega), by omega⟩
structure TnZ (n0 : Nat) (ts : List Addr) (i : Nat) (h : Heap) : Prop where
  zip : ZSt h (n0 + ts.length + 2) (n0 + ts.length) (n0 + ts.length + 1)
  ti : TupA h (n0 + ts.length) ((List.range ts.length).map fun k => Value.ref (n0 + k)).toArray
  to : ∃ a0, TupA h (n0 + ts.length + 1) a0 ∧ a0.size = ts.length
  its : ∀ (k : Nat) t, ts[k]? = some t → h.IsTupleIter (n0 + k) t i
section
variable {X : Cx} {pins : List (Addr × Obj)} {σ : L2.St} {H : Hp} {s : Shared} {A : Around}
/-- the rows' own values -/
theorem rows_vals (I : Inv X pins σ H s) : ∀ {ts : List Addr} {rows : List (List V)}, Paired (fun t r => SqT X.K H t r) ts rows → ∃ vss : List (List Value), vss.length = ts.length ∧ ∀ (k : Nat) t r, ts[k]? = some t → rows[k]? = some r → ∃ vs, vss[k]? = some vs ∧ Vals r vs ∧ IsTup s.heap t vs.toArray
  | [], [], .nil => ⟨[], rfl, fun k t r e => by rw [List.getElem?_nil] at e; cases e⟩
  | t :: ts, r :: rows, .cons a p => by
    obtain ⟨vss, l, h⟩ := rows_vals I p
    obtain ⟨vs, rv, q, _⟩ := I.tuple a
    refine ⟨vs :: vss, by rw [List.length_cons, List.length_cons, l], fun k t' r' e1 e2 => ?_⟩
    cases k with
    | zero => cases e1; cases e2; exact ⟨vs, rfl, rv, q⟩
    | succ k => exact h k t' r' e1 e2
theorem prepZ (hh : A.handled = none) (I : Inv X pins σ H s) {n0 i n : Nat} {ts : List Addr} {rows : List (List V)} (low : ∀ t ∈ ts, Nat.lt t n0) (p : Paired (fun t r => SqT X.K H t r) ts rows) (ln : ∀ r ∈ rows, r.length = n) (st : TnZ n0 ts i s.heap) :
    ∃ vss : Nat → List Value, Sep (n0 + ts.length + 2) (n0 + ts.length) (n0 + ts.length + 1) ts.length (fun k => n0 + k) (fun k => [n0 + k, ts.getD k 0]) ∧
      (∀ k, k < ts.length → Draws X.prog X.w A (n0 + k) [n0 + k, ts.getD k 0] n (fun i v => (vss k).toArray[i]? = some v) (fun i h => h.IsTupleIter (n0 + k) (ts.getD k 0) i ∧ h.IsTuple (ts.getD k 0) (vss k).toArray)) ∧
      (∀ k, k < ts.length → s.heap.IsTupleIter (n0 + k) (ts.getD k 0) i ∧ s.heap.IsTuple (ts.getD k 0) (vss k).toArray) ∧ ∀ k r, rows[k]? = some r → Vals r (vss k) := by
  obtain ⟨vss, lv, hv⟩ := rows_vals I p
  have lr : rows.length = ts.length := (Paired.length p).symm
  have at_ : ∀ k, k < ts.length → ∃ t r vs, ts[k]? = some t ∧ rows[k]? = some r ∧ vss[k]? = some vs ∧ Vals r vs ∧ IsTup s.heap t vs.toArray ∧ Nat.lt t n0 ∧ r.length = n := fun k hk => by
    have e1 : ts[k]? = some ts[k] := List.getElem?_eq_getElem hk
    have e2 : rows[k]? = some (rows[k]'(by omega)) := List.getElem?_eq_getElem (by omega)
    obtain ⟨vs, e3, a, b⟩ := hv k _ _ e1 e2
    exact ⟨_, _, vs, e1, e2, e3, a, b, low _ (List.mem_of_getElem? e1), ln _ (List.mem_of_getElem? e2)⟩
  have gt : ∀ {k : Nat} {t : Addr}, ts[k]? = some t → ts.getD k 0 = t := fun {k t} e => by rw [List.getD_eq_getElem?_getD, e]; rfl
  have gv : ∀ {k : Nat} {v : List Value}, vss[k]? = some v → vss.getD k [] = v := fun {k v} e => by rw [List.getD_eq_getElem?_getD, e]; rfl
  have lowD : ∀ k, k < ts.length → Nat.lt (ts.getD k 0) n0 := fun k hk => by
    obtain ⟨t, r, vs, e1, _, _, _, _, l, _⟩ := at_ k hk
    rw [gt e1]; exact l
  have two : ∀ {a b c : Nat}, @Ne Nat a b → @Ne Nat a c → @Membership.mem Addr (List Addr) _ [b, c] a → False := fun {a b c} h1 h2 h => by
    have : a = b ∨ a = c := by simpa using h
    exact this.elim h1 h2
  refine ⟨fun k => vss.getD k [], ⟨ZipG.nn (by omega), fun k _ => by simp, fun k hk z => ?_, fun k hk z => ?_, fun j k hj hk e z => ?_⟩, fun k hk => ?_, fun k hk => ?_, fun k r e => ?_⟩
  · obtain ⟨d, hd⟩ : ∃ d : Nat, ts.getD k 0 = d := ⟨_, rfl⟩
    rw [hd] at z
    have l : d < n0 := hd ▸ lowD k hk
    exact two (by omega) (by omega) z
  · obtain ⟨d, hd⟩ : ∃ d : Nat, ts.getD k 0 = d := ⟨_, rfl⟩
    rw [hd] at z
    have l : d < n0 := hd ▸ lowD k hk
    exact two (by omega) (by omega) z
  · obtain ⟨d, hd⟩ : ∃ d : Nat, ts.getD k 0 = d := ⟨_, rfl⟩
    rw [hd] at z
    have l : d < n0 := hd ▸ lowD k hk
    exact two (by omega) (by omega) z
  · obtain ⟨t, r, vs, e1, e2, e3, a, b, l, lr⟩ := at_ k hk
    have ev : (vss.getD k []).toArray.size = n := by rw [gv e3, List.size_toArray, ← a.length, lr]
    obtain ⟨d, hd⟩ : ∃ d : Nat, ts.getD k 0 = d := ⟨_, rfl⟩
    have l2 : d < n0 := hd ▸ lowD k hk
    have ne : @Ne Nat d (n0 + k) := by omega
    have ne' : ts.getD k 0 ≠ n0 + k := fun q => ne (hd.symm.trans q)
    exact ev ▸ Draws.tuple hh (n0 + k) (ts.getD k 0) ne' (vss.getD k []).toArray
  · obtain ⟨t, r, vs, e1, e2, e3, a, b, l, lr⟩ := at_ k hk
    show s.heap.IsTupleIter _ (ts.getD k 0) i ∧ s.heap.IsTuple (ts.getD k 0) (vss.getD k []).toArray
    rw [gt e1, gv e3]
    exact ⟨st.its k t e1, b⟩
  · have hk : k < ts.length := by have := (List.getElem?_eq_some_iff.mp e).1; omega
    obtain ⟨t, r', vs, e1, e2, e3, a, b, l, lr⟩ := at_ k hk
    rw [e] at e2
    cases e2
    show Vals r (vss.getD k [])
    rw [gv e3]
    exact a
theorem vals_of : ∀ {xs : List V} {us : List Value}, xs.length = us.length → (∀ (k : Nat) x u, xs[k]? = some x → us[k]? = some u → L2.RelV x u) → Vals xs us
  | [], [], _, _ => .nil
  | x :: xs, u :: us, l, h => .cons (h 0 x u rfl rfl) (vals_of (Nat.succ.inj l) fun k y v e1 e2 => h (k + 1) y v e1 e2)
theorem fpZ_not {n0 m : Nat} {c : Addr} (hb : c ∉ fpZ n0 m) {k : Nat} (h : k < m + 3) : c ≠ n0 + k := fun q => hb (by rw [q]; exact fpZ_mem.mpr ⟨Nat.le_add_right _ _, by omega⟩)
theorem tnZ_obj {n0 i : Nat} {ts : List Addr} {h : Heap} (st : TnZ n0 ts i h) {b : Addr} (hb : b ∈ fpZ n0 ts.length) : ∃ o, h.get? b = some o ∧ ∀ v, o.data ≠ .cell v := by
  obtain ⟨h1, h2⟩ := fpZ_mem.mp hb
  obtain ⟨⟨f0, f1, _, hz⟩, hTI, ⟨a0, hTO, _⟩, its⟩ := st
  rcases Nat.lt_or_ge b (n0 + ts.length) with e | e
  · obtain ⟨j, hj⟩ : ∃ j : Nat, @Eq Nat b (n0 + j) := ⟨Nat.sub b n0, (Nat.add_sub_cancel' h1).symm⟩
    have jl : j < ts.length := by rw [hj] at e; exact Nat.lt_of_add_lt_add_left e
    obtain ⟨t, et⟩ : ∃ t, ts[j]? = some t := ⟨ts[j]'jl, List.getElem?_eq_getElem jl⟩
    obtain ⟨o, eo, _, d⟩ := its j t et
    rw [hj]
    exact ⟨o, eo, fun v q => by rw [d] at q; cases q⟩
  · obtain ⟨j, hj⟩ : ∃ j : Nat, @Eq Nat b (n0 + ts.length + j) := ⟨Nat.sub b (n0 + ts.length), (Nat.add_sub_cancel' e).symm⟩
    have jl : j < 3 := by rw [hj] at h2; exact Nat.lt_of_add_lt_add_left h2
    rw [hj]
    rcases (show j = 0 ∨ j = 1 ∨ j = 2 by omega) with rfl | rfl | rfl
    · exact ⟨_, hTI, fun v q => nomatch q⟩
    · exact ⟨_, hTO, fun v q => nomatch q⟩
    · exact ⟨_, hz, fun v q => nomatch q⟩
theorem turnZ {P : Program} {w : World} {K : PySem.W.Frag} {x : Str} {tp : Pos} {n0 : Nat} {ts : List Addr} (m0 : 0 < ts.length) (ms : ts.length ≤ 900) (low : ∀ t ∈ ts, Nat.lt t n0) :
    Turn P w K (.Name x tp) (ItZ K ts) (fpZ n0 ts.length) (n0 + ts.length + 2) (TnZ n0 ts) where
  mem := fpZ_mem.mpr ⟨by omega, by omega⟩
  obj := fun i h st b hb => tnZ_obj st hb
  keep := fun i h h' st k => by
    obtain ⟨⟨f0, f1, hf, hz⟩, hTI, ⟨a0, hTO, e0⟩, its⟩ := st
    refine ⟨⟨f0, f1, hf, k _ (fpZ_mem.mpr ⟨by omega, by omega⟩) _ hz⟩, k _ (fpZ_mem.mpr ⟨by omega, by omega⟩) _ hTI, ⟨a0, k _ (fpZ_mem.mpr ⟨by omega, by omega⟩) _ hTO, e0⟩, fun j t e => ?_⟩
    have lt := (List.getElem?_eq_some_iff.mp e).1
    exact Heap.IsTupleIter.at (its j t e) fun o q => k _ (fpZ_mem.mpr ⟨Nat.le_add_right _ _, by omega⟩) o q
  item := by
    intro X hP hw hK hc i pins s σ H E I hf st hg
    subst hP hw hK
    obtain ⟨rows, n, p, ln, lt⟩ := hg
    have hh : X.A.in1.handled = none := I.ok.hd hc
    obtain ⟨vss, S, D, sts, vals⟩ := prepZ hh I low p ln st
    have lr : rows.length = ts.length := (Paired.length p).symm
    refine pyNextS_item S m0 (by omega) D (ZipG.nn (by omega)) st.zip st.ti st.to sts lt fun a h' tk sz xs zs to' st' hT hsz hk => ?_
    refine ⟨_, rfl, wpAny_pure ?_⟩
    have hk' : ∀ c o, c ∉ fpZ n0 ts.length → s.heap.get? c = some o → h'.get? c = some o := fun c o hb q => hk c o (fpZ_not hb (k := ts.length + 2) (by omega)) (fpZ_not hb (k := ts.length + 1) (by omega)) (fun j hj => fpZ_not hb (k := j) (by omega)) q
    obtain ⟨ys, hys⟩ : ∃ ys : List V, ys = (List.range ts.length).map fun k => (rows.getD k []).getD i .non := ⟨_, rfl⟩
    have ly : ys.length = ts.length := by rw [hys, List.length_map, List.length_range]
    have ya : ∀ (k : Nat) r, rows[k]? = some r → ys[k]? = r[i]? := fun k r e => by
      have hkm : k < ts.length := by have := (List.getElem?_eq_some_iff.mp e).1; omega
      have hl := ln r (List.mem_of_getElem? e)
      rw [hys, List.getElem?_map, List.getElem?_range hkm]
      show some ((rows.getD k []).getD i .non) = _
      rw [List.getD_eq_getElem?_getD (l := rows), e]
      show some (r.getD i .non) = _
      rw [List.getD_eq_getElem?_getD, List.getElem?_eq_getElem (by omega)]
      rfl
    have vy : Vals ys a.toList := vals_of (ly.trans (sz.symm.trans Array.length_toList.symm)) fun k x u e1 e2 => by
      have hkm : k < ts.length := by have := (List.getElem?_eq_some_iff.mp e1).1; omega
      have er : rows[k]? = some (rows[k]'(by omega)) := List.getElem?_eq_getElem (by omega)
      rw [ya k _ er] at e1
      obtain ⟨u', e3, e4⟩ := xs k hkm
      rw [Array.getElem?_toList, e3] at e2
      cases e2
      have e4 : (vss k)[i]? = some u := by simpa using e4
      obtain ⟨x', e5, r5⟩ := ZipG.vals_back (vals k _ er) e4
      rw [e1] at e5
      cases e5
      exact r5
    have new : ObjOk X.prog X.w (upd H s.heap.objs.size (.tup ys)) h' s.heap.objs.size (.tup ys) :=
      ⟨by rw [ly]; have : (1000 : Nat) ≤ sizeLine := by decide
          omega, a.toList, vy, ⟨_, hT, rfl, _, rfl⟩⟩
    have I1 : Inv X pins σ (upd H s.heap.objs.size (.tup ys)) { s with heap := h', toks := tk } := I.turnedNew (t' := tk) (ch := fpZ n0 ts.length) hk' hf (Nat.le_refl _) new
    refine ⟨.ref s.heap.objs.size, _, I1, rfl, ⟨_, ys, rfl, I.hok.fresh (Nat.le_refl _), rfl, fun rows' p' => ⟨ly, fun k r e => ?_⟩⟩, ⟨zs, ?_, to', fun k t e => ?_⟩, fun b hb => ?_⟩
    · have hkm : k < ts.length := by have := (List.getElem?_eq_some_iff.mp e).1; have := Paired.length p'; omega
      have et : ts[k]? = some ts[k] := List.getElem?_eq_getElem hkm
      obtain ⟨r1, e1, q1⟩ := L2.paired_get p et
      obtain ⟨r2, e2, q2⟩ := L2.paired_get p' et
      rw [e] at e2
      cases e2
      rw [ya k r1 e1, I.tuple_inj q1 q2]
    · exact hk _ _ (ZipG.nn (by omega)) (ZipG.nn (by omega)) (fun j hj => ZipG.nn (by omega)) st.ti
    · have hkm := (List.getElem?_eq_some_iff.mp e).1
      have := (st' k hkm).1
      rw [show ts.getD k 0 = t by rw [List.getD_eq_getElem?_getD, e]; rfl] at this
      exact this
    · rw [upd_ne fun q => ?_]
      · exact (hf b hb).1
      · obtain ⟨o, eo, _⟩ := tnZ_obj st hb
        exact absurd (Heap.lt_size eo) (by rw [q]; exact Nat.lt_irrefl _)
  done := by
    intro X hP hw hK hc i pins s σ H E I hf st hg
    subst hP hw hK
    obtain ⟨rows, n, p, ln, rfl⟩ := hg
    have hh : X.A.in1.handled = none := I.ok.hd hc
    obtain ⟨vss, S, D, sts, vals⟩ := prepZ hh I low p ln st
    refine pyNextS_end S m0 D st.zip st.ti sts fun h' tk hk => ⟨rfl, I.turnedL (t' := tk) (ch := fpZ n0 ts.length) (fun c o hb q => hk c o (fpZ_not hb (k := ts.length + 2) (by omega)) (fpZ_not hb (k := ts.length + 1) (by omega)) (fun j hj => fpZ_not hb (k := j) (by omega)) q) hf⟩
  self := fun A i s Q E st h => by
    obtain ⟨⟨f0, f1, hf, hz⟩, _⟩ := st
    have hT : s.TypeIs (.ref (n0 + ts.length + 2)) "zip" := ⟨_, hz, rfl⟩
    refine wpAny_pyIter_slot hT F.slot_zip_iter (wpAny_call_entry F.slot_zip_iter hT F.entry_zip_iter ?_ (F.args_zip_iter_1 _))
    show wpAny _ _ (ret (.ref _)) _ _ s
    exact wpAny_pure ⟨_, rfl, "zip", _, hT, F.slot_zip_next.lookup, h⟩
end
end NZ

/-! NZp: for a name in zip(*rows). -/
namespace NZ
open PySem L2 PySem.Spec PyProof.Rows
theorem callWith_typeS {M : Model} {A : Around} {E : Value → Shared → Prop} {s : Shared} {pos : Pos} {T : String} {first : List Value} {args : List (Bool × Sem Value)} {Q : Value → Shared → Prop} (hst : args.any (·.1) = true)
    (h : wpAny M A (evalArgs (.type T) true args []) (fun a s₁ => wpAny M A (call (.type T) (first ++ a.pos) a.kw) Q E s₁) E s) :
    wpAny M A (callWith pos (.type T) first args []) Q E s := by
  unfold callWith
  refine wpAny_bind (wpAny_holding (wpAny_mono h (fun a s₁ h₁ => wpAny_bind (wpAny_standAt ?_)) fun _ _ x => x))
  simp only [hst, Bool.true_or]
  refine wpAny_bind (wpAny_pure ?_)
  exact wpAny_bind (wpAny_mono (wpAny_operating h₁) (fun r s₂ hr => wpAny_bind (wpAny_holding (wpAny_point (wpAny_pure hr)))) fun _ _ x => x)
/-- zip(*rows), a name its target -/
def iZipS (K : PySem.W.Frag) (te : TE) : TI := fun σ H R => te σ H fun v H1 => ∃ (a : Addr) (ts : List Addr), v = .ref a ∧ (SqT K H1 a (ts.map V.ref) ∨ SqL K H1 a (ts.map V.ref)) ∧ 0 < ts.length ∧ ts.length ≤ 900 ∧ (∃ rows : List (List V), Paired (fun t r => SqT K H1 t r) ts rows) ∧ R (ItZ K ts) H1
theorem pi_zipS {X : Cx} {e : Expr} {te : TE} {p pos sp tp : Pos} {x : Str} (hg : Gl X "zip") (hm : X.mg "zip" = none) (he : PE X e te) (hs : starEach [.Starred e sp] X.env = [(true, eval e X.env)] := by rfl) :
    PI X (.Name x tp) (.Call (.Name "zip" p) [.Starred e sp] [] pos) (iZipS X.K te) := by
  refine ⟨fun pins s σ H R I h => ?_⟩
  refine Call_ (ld_blt I hg hm PyProof.Rows.boot_zip ?_)
  rw [hs]
  refine callWith_typeS rfl (PySem.W.ks_lone (thn (he.run pins s σ H _ I h) fun v s1 ⟨x, H1, I1, r1, q1⟩ => ?_))
  obtain ⟨a, ts, ex, hsq, m0, ms, ⟨rows, hp⟩, q⟩ := q1
  subst ex
  cases r1
  refine StX.star_any I1 hsq fun us s2 I2 rv => ?_
  have eu : us = ts.map Value.ref := by
    clear q hp hsq m0 ms
    induction ts generalizing us with
    | nil => cases rv; rfl
    | cons t ts ih =>
      cases rv with
      | cons r rr =>
        cases r
        rw [ih _ rr]
        rfl
  obtain ⟨vss, lv, hv⟩ := rows_vals I2 hp
  have low : ∀ t ∈ ts, Nat.lt t s2.heap.objs.size := fun t ht => by
    obtain ⟨k, hk⟩ := List.getElem?_of_mem ht
    obtain ⟨r, er, _⟩ := L2.paired_get hp hk
    obtain ⟨vs, _, _, o, ho, _⟩ := hv k t r hk er
    exact Heap.lt_size ho
  obtain ⟨t0, ts', et⟩ : ∃ t0 ts', ts = t0 :: ts' := by
    cases ts with
    | nil => exact absurd m0 (Nat.lt_irrefl 0)
    | cons t ts => exact ⟨t, ts, rfl⟩
  show wpAny _ _ (call (.type "zip") us) _ _ _
  rw [eu, et, List.map_cons]
  refine zip_beginsN (os := ts.map fun t => ({ cls := .type "tuple_iterator", data := .fields #[.ref t, .int 0 0] } : Obj)) (Hs := fun h => ∀ (k : Nat) t, ts[k]? = some t → h.IsTuple t (vss.getD k []).toArray) (fun j v e => ?_) (by rw [List.length_map, et, List.length_cons, List.length_cons, List.length_map]) (by rw [List.length_map]; rw [et, List.length_cons] at ms; omega)
    (fun h h' a k j t e => (a j t e).at fun o q => k t o q) (fun k t e => ?_) fun h' hz hTI hTO hit hsz hk => ?_
  · have e' : (ts.map Value.ref)[j]? = some v := by rw [et, List.map_cons]; exact e
    rw [List.getElem?_map] at e'
    cases ej : ts[j]? with
    | none => rw [ej] at e'; cases e'
    | some t =>
      rw [ej] at e'
      cases e'
      exact ⟨_, _, by rw [List.getElem?_map, ej]; rfl, begins_tuple t (vss.getD j []).toArray, fun h a => a j t ej⟩
  · obtain ⟨r, er, _⟩ := L2.paired_get hp e
    obtain ⟨vs, e1, _, tup⟩ := hv k t r e er
    rw [show vss.getD k [] = vs by rw [List.getD_eq_getElem?_getD, e1]; rfl]
    exact tup
  · rw [List.length_map] at hz hTI hTO hsz ⊢
    have I3 : Inv X pins σ H1 { s2 with heap := h' } := I2.kept (t' := s2.toks) hk
    have hT : ({ s2 with heap := h' } : Shared).TypeIs (.ref (s2.heap.objs.size + ts.length + 2)) "zip" := ⟨_, hz, rfl⟩
    refine wpAny_pyIter_slot hT F.slot_zip_iter (wpAny_call_entry F.slot_zip_iter hT F.entry_zip_iter ?_ (F.args_zip_iter_1 _))
    show wpAny _ _ (ret (.ref _)) _ _ _
    refine wpAny_pure ⟨_, rfl, "zip", _, hT, F.slot_zip_next.lookup, ?_⟩
    refine ⟨s2.heap.objs.size + ts.length + 2, fpZ s2.heap.objs.size ts.length, TnZ s2.heap.objs.size ts, ItZ X.K ts, H1, rfl, I3, turnZ m0 ms low, ⟨⟨.none, false, .inl rfl, hz⟩, hTI, ⟨_, hTO, by rw [List.size_toArray, List.length_map, List.length_range]⟩, fun k t e => ⟨_, hit k _ (by rw [List.getElem?_map, e]; rfl), rfl, rfl⟩⟩, fun b hb => ?_, q⟩
    have lo := (fpZ_mem.mp hb).1
    exact I2.fpOk lo (I2.hok.fresh lo)
theorem walk_Z {K : PySem.W.Frag} {ts : List Addr} {rows : List (List V)} {n : Nat} (ln : ∀ r ∈ rows, r.length = n) :
    Walk (ItZ K ts) n (fun H => Paired (fun t r => SqT K H t r) ts rows) (fun i H v H' => ∃ T xs, v = .ref T ∧ H T = none ∧ H' = upd H T (.tup xs) ∧ xs.length = ts.length ∧ ∀ (k : Nat) r, rows[k]? = some r → xs[k]? = r[i]?) where
  goes := fun i H hi h => ⟨rows, n, h, ln, hi⟩
  stops := fun H h => ⟨rows, n, h, ln, rfl⟩
  yields := fun i H v H' hi h ⟨T, xs, e1, e2, e3, e4⟩ => ⟨T, xs, e1, e2, e3, (e4 rows h).1, (e4 rows h).2⟩
end NZ

namespace K71
open PySem L2 Gd B5 ZipG
section
variable {P : Program} {w : World} {K : PySem.W.Frag} {mg : Str → Option Value} {base : Heap} {g1 f : Addr} {d1 fd : FuncData}
abbrev sCls : Stmt := top 17
abbrev NCls : List Str := ["moves", "worths", "columns", "classes", "many", "before", "column", "here", "further"]
theorem scCls : FnScope NCls ["moves", "worths"] (defScope sCls) := ⟨rfl, rfl, rfl, by decide +kernel, rfl, by decide +kernel, by decide +kernel⟩
/-- a list or a tuple of tuples of states, all of one length -/
structure Tbl (K : PySem.W.Frag) (H : Hp) (t : Addr) (ts : List Addr) (rows : List (List Nat)) (p : Nat) : Prop where
  at_ : SqT K H t (ts.map V.ref) ∨ SqL K H t (ts.map V.ref)
  rows_ : Paired (TupN H) ts rows
  ne : 0 < rows.length
  few : rows.length ≤ 900
  fewp : p ≤ 900
  len : ∀ r ∈ rows, r.length = p ∧ ∀ x ∈ r, x < rows.length
def valW (ws : List Int) (s : Nat) : Int := ws.getD s 0
theorem Tbl.cl {H : Hp} {t : Addr} {ts : List Addr} {rows : List (List Nat)} {p : Nat} (T : Tbl K H t ts rows p) : ∀ s d, s < rows.length → d < p → tab rows s d < rows.length := fun s d hs hd => by
  obtain ⟨l, ok⟩ := T.len _ (List.mem_of_getElem? (at_getD hs []))
  exact ok _ (List.mem_of_getElem? (at_getD (l := rows.getD s []) (i := d) (by omega) 0))
theorem sqL_m {H H' : Hp} {t : Addr} {xs : List V} (m : More H H') (h : SqL K H t xs) : SqL K H' t xs := Same.seq m h
theorem Tbl.more {H H' : Hp} {t : Addr} {ts : List Addr} {rows : List (List Nat)} {p : Nat} (T : Tbl K H t ts rows p) (m : More H H') : Tbl K H' t ts rows p :=
  ⟨T.at_.elim (fun h => .inl (sqT_more m h)) (fun h => .inr (sqL_m m h)), paired_imp (S := TupN H') (fun b r (e : TupN H b r) => m _ _ e) T.rows_, T.ne, T.few, T.fewp, T.len⟩
/-- the d-th column -/
def colL (rows : List (List Nat)) (d : Nat) : List Nat := (List.range rows.length).map fun s => tab rows s d
def keyN (l : List Nat) : List Key := l.map fun x => Sum.inl ((x : Nat) : Int)
theorem keyN_v (l : List Nat) : (keyN l).map kV = l.map nV := by
  unfold keyN
  rw [List.map_map]
  rfl
def backN (k : List Key) : List Nat := k.map fun | .inl i => i.toNat | .inr _ => 0
theorem backN_of (l : List Nat) : backN (keyN l) = l := by
  unfold backN keyN
  rw [List.map_map]
  conv => rhs; rw [← List.map_id l]
  refine List.map_congr_left fun x _ => ?_
  show ((x : Nat) : Int).toNat = x
  omega
theorem colF_of {rows : List (List Nat)} {d s : Nat} (h : s < rows.length) : colF (colL rows d) s = tab rows s d := by
  unfold colF colL
  rw [List.getD_eq_getElem?_getD, List.getElem?_map, List.getElem?_range h]
  rfl
theorem cols_of {H : Hp} : ∀ {kvs : List (List Key × V)} {bs : List Addr}, IsKeys H kvs bs → (∀ q ∈ kvs, ∃ l : List Nat, q.1 = keyN l) → Paired (TupN H) bs (kvs.map fun q => backN q.1)
  | [], [], .nil, _ => .nil
  | q :: kvs, b :: bs, .cons h t, al => by
    obtain ⟨l, e⟩ := al q (.head _)
    refine .cons ?_ (cols_of t fun r hr => al r (.tail _ hr))
    show H b = some (.tup ((backN q.1).map nV))
    rw [h, e, backN_of, keyN_v]
theorem passC_snoc {n : Nat} (f : List Nat) : ∀ (fs : List (List Nat)) (l : List Nat), passC n (fs ++ [f]) l = numB (keysC n (cnt (cOf (passC n fs l)) n) (cOf (passC n fs l)) (colF f))
  | [], l => rfl
  | g :: fs, l => by
    show passC n (fs ++ [f]) (numB (keysC n (cnt (cOf l) n) (cOf l) (colF g))) = _
    rw [passC_snoc f fs]
    rfl
theorem paired_mapR {α β γ : Type} {R : α → γ → Prop} {f : β → γ} : ∀ {xs : List α} {l : List β}, Paired (fun x y => R x (f y)) xs l → Paired R xs (l.map f)
  | [], [], .nil => .nil
  | _ :: _, _ :: _, .cons h t => .cons h (paired_mapR t)
def spCls (K : PySem.W.Frag) : Sp := fun vs H Q _ => ∃ (t u : Addr) (ts : List Addr) (rows : List (List Nat)) (p : Nat) (ws : List Int), vs = [.ref t, .ref u] ∧ Tbl K H t ts rows p ∧ Sq K H u (ws.map V.int) ∧ (∃ o, H u = some o) ∧ ws.length = rows.length ∧
  ∀ (l : Addr) (H' : Hp) (cs : List Nat), More H H' → H l = none → H' l = some (.lst (cs.map nV)) → NumbsO rows.length cs → Stab rows.length p (tab rows) (valW ws) (cOf cs) → Coarse rows.length p (tab rows) (valW ws) (cOf cs) → Q (.ref l) H'
theorem numB_nat (l : List Nat) : numB (l.map fun x => ((x : Nat) : Int)) = numB l := numB_map (fun a b e => by omega) l
theorem ok_cls (F : Fun K "classes_of" "classes_of" sCls f fd) (B : Blt mg) (zZip : mg "zip" = none) (zMax : mg "max" = none) (Nu : Cl K mg "numbered" sNu ["keys"] g1 d1) : FnOk P w K mg base CX0 2 f fd ["moves", "worths"] (spCls K) := by
  have G1 : FnOk P w K mg base CX0 1 g1 d1 ["keys"] (spNu K) := ok_nu Nu.fn B
  refine F.ok scCls (fun vs H Q E h => ?_) (fun cdv A outer s H vs Q E hr h => ?_)
  · obtain ⟨t, u, ts, rows, p, ws, rfl, _⟩ := h
    rfl
  · obtain ⟨t, u, ts, rows, p, ws, rfl, T, su, ⟨ou, hou⟩, lw, q⟩ := h
    have hu := hu_of hr
    refine ⟨_, pss_cons (ps_set (i := 2) scCls.nd rfl (Or.inl rfl) (pe_callTy (call_list_dT rfl) (by rfl) B.list_ (by decide +kernel) (pa_cons (pe_dcP (o0 := .dT []) (Or.inr rfl) (own := [("column", 6)]) (g := gName 6) (tt := tYes) rfl (Nat.lt_of_succ_lt hu) scCls.nd (NZ.pi_zipS (by rfl) zZip (pv 0))
          (blkOk_by (N := NCls) (sc := defScope sCls) (by decide +kernel)) (fun _ _ _ _ _ => pg_name (i := 6) scCls.nd rfl (Or.inl rfl)) (fun _ _ _ _ _ => pts_nil) (fun _ _ _ _ _ => pv 6) (fun _ _ _ _ _ => pe_bl)) pa_nil)))
      (pss_cons (ps_set (i := 3) scCls.nd rfl (Or.inr rfl) (pe_call G1 hr rfl Nu.g Nu.k Nu.b .nil pass0 (pa_cons (pv 1) pa_nil)))
      (pss_cons (ps_set (i := 4) scCls.nd rfl (Or.inr rfl) (pe_op op_add (pe_callB (cr_max rfl) (by rfl) zMax (by decide +kernel) (pa_cons (pv 3) pa_nil)) pe_int))
      (pss_one (ps_while PassesOwn.never (pt_val pe_bl)
        (pss_cons (ps_set (i := 5) scCls.nd rfl (Or.inl rfl) (pv 4))
        (pss_cons (ps_for PassesOwn.never rfl (pi_list (pv 2)) (pg_name (i := 6) scCls.nd rfl (Or.inl rfl))
          (pss_cons (ps_set (i := 3) scCls.nd rfl (Or.inr rfl) (pe_call G1 hr rfl Nu.g Nu.k Nu.b .nil pass0 (pa_cons
              (pe_lc (own := [("here", 7), ("further", 8)]) (g := gTup K 2 (gCons (gName 7) (gCons (gName 8) gNil))) (tt := tYes) rfl scCls.nd
                (pi_zipG (by rfl) zZip (pa_cons (pv 3) (pa_cons (pv 6) pa_nil))) (blkOk_by (N := NCls) (sc := defScope sCls) (by decide +kernel))
                (fun _ _ _ _ _ => pg_tup rfl (pgs_cons (pg_name (i := 7) scCls.nd rfl (Or.inl rfl)) (pgs_cons (pg_name (i := 8) scCls.nd rfl (Or.inl rfl)) pgs_nil))) (fun _ _ _ _ _ => pts_nil)
                (fun _ _ _ _ _ => pe_op op_add (pe_op op_mul (pv 7) (pv 4)) (pe_ix (r := rIxL K) ix_list (pv 3) (pv 8) (fun _ _ => rfl)))) pa_nil)))
          (pss_one (ps_set (i := 4) scCls.nd rfl (Or.inr rfl) (pe_op op_add (pe_callB (cr_max rfl) (by rfl) zMax (by decide +kernel) (pa_cons (pv 3) pa_nil)) pe_int)))))
        (pss_one (ps_if (pt_cmpR op_eq (pv 4) (pv 5) (nomark _)) (pss_one (ps_ret (pv 3))) pss_nil)))))))), ?_⟩
    obtain ⟨n, hn⟩ : ∃ n, n = rows.length := ⟨_, rfl⟩
    have n0 : 0 < n := hn ▸ T.ne
    have fewn : n ≤ 900 := hn ▸ T.few
    have fewp := T.fewp
    have lts : ts.length = n := by rw [hn]; exact Paired.length T.rows_
    have rowsV : Paired (fun t r => SqT K H t r) ts (rows.map fun r => r.map nV) := paired_mapR (paired_imp (S := fun t (r : List Nat) => SqT K H t (r.map nV)) (fun b r (e : TupN H b r) => SqT.of e) T.rows_)
    have cl := T.cl
    rw [← hn] at cl
    -- the columns
    refine ⟨_, rfl, t, ts, rfl, T.at_, by omega, by omega, ⟨_, rowsV⟩, fun D hD => ?_⟩
    have mD := new_more (o := .dT []) hD
    refine dcP_it (H1 := H) (D := D) (NZ.walk_Z (n := p) (rows := rows.map fun r => r.map nV) (fun r hr => by
        obtain ⟨r', h', rfl⟩ := List.mem_map.mp hr
        rw [List.length_map]
        exact (T.len r' h').1))
      (fun i H' => More H H' ∧ ∃ kvs, H' D = some (.dT kvs) ∧ kvs.length ≤ i ∧ ∀ k : List Key, (∃ q ∈ kvs, q.1 = k) ↔ ∃ d, d < i ∧ k = keyN (colL rows d))
      ⟨mD, [], upd_same, Nat.le_refl _, fun k => ⟨fun ⟨q, hq, _⟩ => (nomatch hq), fun ⟨d, hd, _⟩ => absurd hd (Nat.not_lt_zero d)⟩⟩
      (fun i H' _ h => paired_imp (fun b r (e : SqT K H b r) => sqT_more h.1 e) rowsV) ?_ ?_
    · rintro i x G G' hi ⟨m, kvs, hk, lk, ks⟩ ⟨C, xs, rfl, nC, rfl, lx, hx⟩
      have ex : xs = (colL rows i).map nV := by
        apply List.ext_getElem?
        intro k
        by_cases hk : k < n
        · have er : rows[k]? = some (rows.getD k []) := at_getD (by omega) []
          obtain ⟨lr, _⟩ := T.len _ (List.mem_of_getElem? er)
          rw [hx k ((rows.getD k []).map nV) (by rw [List.getElem?_map, er]; rfl)]
          rw [at_map (at_getD (l := rows.getD k []) (i := i) (by omega) 0)]
          unfold colL
          rw [List.map_map, List.getElem?_map, List.getElem?_range (by omega)]
          rfl
        · rw [List.getElem?_eq_none (by omega), List.getElem?_eq_none (by unfold colL; rw [List.length_map, List.length_map, List.length_range]; omega)]
      subst ex
      have mC := new_more (o := .tup ((colL rows i).map nV)) nC
      have eC : (upd G C (.tup ((colL rows i).map nV))) C = some (.tup ((keyN (colL rows i)).map kV)) := by rw [upd_same, keyN_v]
      have kD := mC _ _ hk
      refine ⟨rfl, ?_⟩
      refine ⟨_, rfl, _, DPut.t kD eC (small1000 (by omega)), More.at (fun b o e => mC _ _ (m _ _ e)) hD, _, upd_same, ?_, fun k => ?_⟩
      · have := length_putK kvs (keyN (colL rows i)) (V.bl true)
        omega
      · rw [putK_keys, ks k]
        constructor
        · rintro (rfl | ⟨d, hd, rfl⟩)
          · exact ⟨i, by omega, rfl⟩
          · exact ⟨d, by omega, rfl⟩
        · rintro ⟨d, hd, rfl⟩
          by_cases z : d = i
          · rw [z]; exact .inl rfl
          · exact .inr ⟨d, by omega, rfl⟩
    rintro G1' ⟨m1, kvs, hk, lk, ks⟩
    refine ⟨_, _, rfl, .inl hk, fun c bs nc isk => ?_⟩
    have cols := cols_of isk fun q hq => let ⟨d, _, e⟩ := (ks q.1).mp ⟨q, hq, rfl⟩; ⟨_, e⟩
    obtain ⟨fs, hfs⟩ : ∃ fs, fs = kvs.map fun q => backN q.1 := ⟨_, rfl⟩
    rw [← hfs] at cols
    have fs1 : ∀ f ∈ fs, ∃ d, d < p ∧ f = colL rows d := fun f hf => by
      rw [hfs] at hf
      obtain ⟨q, hq, rfl⟩ := List.mem_map.mp hf
      obtain ⟨d, hd, e⟩ := (ks q.1).mp ⟨q, hq, rfl⟩
      exact ⟨d, hd, by rw [e, backN_of]⟩
    have fs2 : ∀ d, d < p → colL rows d ∈ fs := fun d hd => by
      obtain ⟨q, hq, e⟩ := (ks (keyN (colL rows d))).mpr ⟨d, hd, rfl⟩
      rw [hfs]
      exact List.mem_map.mpr ⟨q, hq, by rw [e, backN_of]⟩
    have hf1 : ∀ f ∈ fs, ∃ d, d < p ∧ ∀ s, s < n → colF f s = tab rows s d := fun f hf => by
      obtain ⟨d, hd, rfl⟩ := fs1 f hf
      exact ⟨d, hd, fun s hs => colF_of (hn ▸ hs)⟩
    have hf2 : ∀ d, d < p → ∃ f ∈ fs, ∀ s, s < n → colF f s = tab rows s d := fun d hd => ⟨_, fs2 d hd, fun s hs => colF_of (hn ▸ hs)⟩
    have lbs : bs.length = fs.length := Paired.length cols
    have lfs : fs.length ≤ 900 := by rw [hfs, List.length_map]; omega
    have mc := new_more (o := .lst (bs.map V.ref)) nc
    have m2 : More H (upd G1' c (.lst (bs.map V.ref))) := fun b o e => mc _ _ (m1 _ _ e)
    have kc : (upd G1' c (.lst (bs.map V.ref))) c = some (.lst (bs.map V.ref)) := upd_same
    have cols2 := paired_imp (S := TupN (upd G1' c (.lst (bs.map V.ref)))) (fun b r (e : TupN G1' b r) => mc _ _ e) cols
    generalize upd G1' c (.lst (bs.map V.ref)) = G2 at m2 kc cols2 ⊢
    clear mD m1 hk mc nc isk cols ks
    -- the numbers of the worths
    refine ⟨_, rfl, u, ws, rfl, su.more m2, ⟨ou, m2 _ _ hou⟩, by omega, fun l G3 m3 nl hl => ?_⟩
    have m03 : More H G3 := fun b o e => m3 _ _ (m2 _ _ e)
    have kc3 := m3 _ _ kc
    have cols3 := paired_imp (S := TupN G3) (fun b r (e : TupN G2 b r) => m3 _ _ e) cols2
    have nb0 : NumbsO n (numB ws) := numbsO_of (by omega)
    have coarse0 : Coarse n p (tab rows) (valW ws) (cOf (numB ws)) := start_coarse (by omega) (fun s hs => at_getD (by omega) 0)
    have tell0 : ∀ s t, s < n → t < n → cOf (numB ws) s = cOf (numB ws) t → valW ws s = valW ws t := fun s t hs ht e => (start_nums (n := n) (val := valW ws) (by omega) (fun s hs => at_getD (by omega) 0) hs ht).mp e
    have Hl0 : H l = none := m2.off nl
    have toI : ∀ cs : List Nat, cs.map nV = (cs.map fun i => ((i : Nat) : Int)).map V.int := fun cs => by rw [List.map_map]; rfl
    refine ⟨_, rfl, l, (numB ws).map fun i => ((i : Nat) : Int), rfl, SqL.of (by rw [hl, ← toI]), by rw [List.length_map, numB_len]; omega, fun mx hm1 hm2 => ?_⟩
    have emx := numB_max hm1 hm2
    refine ⟨_, _, rfl, rfl, ?_⟩
    show gName 4 (V.int (mx + 1)) _ _ _
    rw [emx, show ws.length = n by omega]
    clear emx hm1 hm2
    generalize numB ws = l0 at hl nb0 coarse0 tell0
    refine while_by (fun σ H' => ∃ (z5 z6 : Option V) (l : Addr) (cs : List Nat), σ = [some (.ref t), some (.ref u), some (.ref c), some (.ref l), some (.int (cnt (cOf cs) n : Nat)), z5, z6, none, none] ∧ H' l = some (.lst (cs.map nV)) ∧ H l = none ∧ More G3 H' ∧ NumbsO n cs ∧ Coarse n p (tab rows) (valW ws) (cOf cs) ∧ ∀ s t, s < n → t < n → cOf cs s = cOf cs t → valW ws s = valW ws t)
      (fun σ H' => match σ[4]? with | some (some (V.int m)) => n - m.toNat | _ => 0)
      ⟨none, none, l, l0, rfl, hl, Hl0, fun _ _ e => e, nb0, coarse0, tell0⟩ ?_ ?_
    · rintro σ G4 ⟨z5, z6, l1, cs, rfl, hl1, nl1, m4, nb, co, te⟩
      refine ⟨true, rfl, iteT ?_⟩
      have kc4 := m4 _ _ kc3
      have cols4 := paired_imp (S := TupN G4) (fun b r (e : TupN G3 b r) => m4 _ _ e) cols3
      refine ⟨_, rfl, ⟨_, rfl, c, rfl, ⟨_, SqL.of kc4⟩, for_list (K := K) (a := c) (xs := bs.map V.ref) (fun i σ' H' => ∃ (z6 : Option V) (l2 : Addr), σ' = [some (.ref t), some (.ref u), some (.ref c), some (.ref l2), some (.int (cnt (cOf (passC n (fs.take i) cs)) n : Nat)), some (.int (cnt (cOf cs) n : Nat)), z6, none, none] ∧
          H' l2 = some (.lst ((passC n (fs.take i) cs).map nV)) ∧ H l2 = none ∧ More G4 H')
        ⟨z6, l1, rfl, hl1, nl1, fun _ _ e => e⟩ (fun i σ' H' _ ⟨_, _, _, _, _, m⟩ => SqL.of (m _ _ kc4)) ?_ ?_⟩⟩
      · rintro i y σ' G5 hy ⟨z6', l2, rfl, hl2, nl2, m5⟩
        obtain ⟨b, hb, rfl⟩ := map_at hy
        obtain ⟨f0, ef0, tb⟩ := paired_at cols4 hb
        have tk := take_snoc ef0
        have nbi : Numbs n (passC n (fs.take i) cs) := (passC_o (fs.take i) cs nb).1
        rw [tk, passC_snoc]
        generalize passC n (fs.take i) cs = ci at hl2 nbi ⊢
        obtain ⟨d0, hd0, ed0⟩ := fs1 f0 (List.mem_of_getElem? ef0)
        have lf0 : f0.length = n := by rw [ed0]; unfold colL; rw [List.length_map, List.length_range, hn]
        have bf0 : ∀ x ∈ f0, x < n := fun x hx => by
          rw [ed0] at hx
          unfold colL at hx
          obtain ⟨s, hs, rfl⟩ := List.mem_map.mp hx
          exact cl s d0 (by have := List.mem_range.mp hs; omega) hd0
        obtain ⟨lci, bci⟩ := nbi
        have tb5 := m5 _ _ tb
        refine ⟨_, rfl, _, rfl, .l l2, .t b, ci.map nV, f0.map nV, rfl, SqL.of hl2, SqT.of tb5, fun D hD => ?_⟩
        refine lc_it (H1 := G5) (D := D) (walk_zipG (n := n) (by rw [List.length_map, List.length_map]; omega)) (fun j H' => H' D = some (.lst (((keysC n (cnt (cOf ci) n) (cOf ci) (colF f0)).take j).map nV)) ∧ More G5 H')
          ⟨upd_same, new_more hD⟩ (fun j H' _ hh => ⟨SqL.of (hh.2 _ _ hl2), SqT.of (hh.2 _ _ tb5)⟩) ?_ ?_
        · rintro j v G6 G7 hj ⟨k6, m6⟩ ⟨T0, a0, b0, rfl, nT, rfl, ha0, hb0⟩
          obtain ⟨x0, hx0, rfl⟩ := map_at ha0
          obtain ⟨y0, hy0, rfl⟩ := map_at hb0
          have m7 := m6.new (o := .tup [nV x0, nV y0]) nT
          have k7 : (upd G6 T0 (.tup [nV x0, nV y0])) D = _ := (upd_ne (ne_of_none k6 nT)).trans k6
          have y0n := bf0 y0 (List.mem_of_getElem? hy0)
          have hl7 := m7 _ _ hl2
          have ec : cOf ci j = x0 := by unfold cOf; rw [List.getD_eq_getElem?_getD, hx0]; rfl
          have ef : colF f0 j = y0 := by unfold colF; rw [List.getD_eq_getElem?_getD, hy0]; rfl
          have ck := keysC_at (many := cnt (cOf ci) n) (c := cOf ci) (f := colF f0) hj
          rw [ec, ef] at ck
          have cmx := cnt_max (cOf ci) n
          have cz : ci[y0]? = some (cOf ci y0) := at_getD (by omega) 0
          have x0b : x0 < 1000 := by have := bci j hj; rw [ec] at this; have := cnt_max (cOf ci) n; omega
          refine ⟨T0, _, rfl, SqT.of upd_same, rfl, _, _, rfl, _, _, rfl, rfl, rfl, ?_⟩
          refine ⟨_, rfl, _, rfl, _, _, rfl, rfl, .inr ⟨by omega, by omega⟩, _, rfl, _, rfl, l2, _, ((y0 : Nat) : Int), _, rfl, rfl, SqL.of hl7, atI_nat (at_map cz), _, _, rfl, rfl, ?_⟩
          have eI : (x0 : Int) * ((cnt (cOf ci) n : Nat) : Int) + ((cOf ci y0 : Nat) : Int) = ((x0 * cnt (cOf ci) n + cOf ci y0 : Nat) : Int) := by rw [Int.natCast_add, Int.natCast_mul]
          refine ⟨_, k7, ?_, ?_, More.at m7 hD⟩
          · rw [List.length_map, List.length_take]
            exact small1000 (by omega)
          · rw [upd_same, take_snoc ck, List.map_append]
            show some (HO.lst (_ ++ [V.int ((x0 : Int) * ((cnt (cOf ci) n : Nat) : Int) + ((cOf ci y0 : Nat) : Int))])) = _
            rw [eI]
            rfl
        · rintro G6 ⟨k6, m6⟩
          have k6 : G6 D = some (.lst (((keysC n (cnt (cOf ci) n) (cOf ci) (colF f0)).take n).map nV)) := k6
          have lk : (keysC n (cnt (cOf ci) n) (cOf ci) (colF f0)).length = n := keysC_len
          rw [List.take_of_length_le (Nat.le_of_eq lk)] at k6
          generalize keysC n (cnt (cOf ci) n) (cOf ci) (colF f0) = ks at k6 lk ⊢
          refine ⟨D, ks.map fun i => ((i : Nat) : Int), rfl, .inl (SqL.of (by rw [k6, ← toI])), ⟨_, k6⟩, by rw [List.length_map]; omega, fun l3 G7 m7 nl3 hl3 => ?_⟩
          rw [numB_nat] at hl3
          refine ⟨_, rfl, l3, (numB ks).map fun i => ((i : Nat) : Int), rfl, SqL.of (by rw [hl3, ← toI]), by rw [List.length_map, numB_len]; omega, fun mx hm1 hm2 => ?_⟩
          have emx := numB_max hm1 hm2
          refine ⟨_, _, rfl, rfl, ?_⟩
          show gName 4 (V.int (mx + 1)) _ _ _
          rw [emx, lk]
          have m47 : More G4 G7 := fun b o e => m7 _ _ (m6 _ _ (m5 _ _ e))
          refine ⟨_, l3, rfl, hl3, ?_, m47⟩
          exact More.off (fun b o e => m6 _ _ (m5 _ _ (m4 _ _ (m03 _ _ e)))) nl3
      · rintro σ' G5 ⟨z6', l2, rfl, hl2, nl2, m5⟩
        rw [List.length_map, lbs, List.take_length] at hl2 ⊢
        obtain ⟨nb', fin', co', _⟩ := pass_all (val := valW ws) cl fs cs nb.1 hf1
        have nbo := passC_o fs cs nb
        have le := cnt_le fin'
        have mx := cnt_max (cOf (passC n fs cs)) n
        refine ⟨_, rfl, _, rfl, rfl, _, rfl, ?_⟩
        rw [deI]
        refine ite2 (fun hz => ?_) (fun hz => ?_)
        · have hz : cnt (cOf (passC n fs cs)) n = cnt (cOf cs) n := by have := of_decide_eq_true hz; omega
          obtain ⟨st, co2⟩ := pass_end cl nb.1 hf1 hf2 co te hz
          refine ⟨_, rfl, q l2 G5 _ (fun b o e => m5 _ _ (m4 _ _ (m03 _ _ e))) nl2 hl2 ?_ ?_ ?_⟩
          · rw [← hn]; exact nbo
          · rw [← hn]; exact st
          · rw [← hn]; exact co2
        · have hz : cnt (cOf (passC n fs cs)) n ≠ cnt (cOf cs) n := fun e => hz (decide_eq_true (by rw [e]))
          refine ⟨⟨_, _, l2, _, rfl, hl2, nl2, fun b o e => m5 _ _ (m4 _ _ e), nbo, co' co, fun s t hs ht e => te s t hs ht (fin' s t hs ht e)⟩, ?_⟩
          show n - ((cnt (cOf (passC n fs cs)) n : Nat) : Int).toNat < n - ((cnt (cOf cs) n : Nat) : Int).toNat
          omega
    · rintro σ H2 Q1 Q2 f ⟨b, e, q2⟩
      exact ⟨b, e, f _ _ q2⟩
end
end K71

namespace K71
open PySem L2 Gd B5
abbrev sRk : Stmt := top 35
abbrev NRk : List Str := ["_law_rows", "_law_known", "_law_found", "_law_row"]
theorem scRk : FnScope NRk ["_law_rows"] (defScope sRk) := ⟨rfl, rfl, rfl, by decide +kernel, rfl, by decide +kernel, by decide +kernel⟩
/-- whole numbers in the order in which they are met -/
def spRk (K : PySem.W.Frag) : Sp := fun vs H Q _ => ∃ (a : Addr) (ks : List Int), vs = [.ref a] ∧ Sq K H a (ks.map V.int) ∧ (∃ o, H a = some o) ∧ ks.length ≤ 1000 ∧ ∀ l H', More H H' → H l = none → H' l = some (.lst ((numB ks).map nV)) → Q (.ref l) H'
/-- rows, tuples -/
def spRkT (K : PySem.W.Frag) : Sp := fun vs H Q _ => ∃ (a : Addr) (ts : List Addr) (ks : List (List Nat)), vs = [.ref a] ∧ H a = some (.lst (ts.map V.ref)) ∧ Paired (TupN H) ts ks ∧ ks.length ≤ 1000 ∧ ∀ l H', More H H' → H l = none → H' l = some (.lst ((numB ks).map nV)) → Q (.ref l) H'
theorem numB_snoc {α : Type} [DecidableEq α] (ks : List α) (k : α) : (noteAll [] (ks ++ [k])).2 = (noteAll [] ks).2 ++ [(note (noteAll [] ks).1 k).2] := by rw [noteAll_snoc]
theorem cnt_few {α : Type} [DecidableEq α] (ks : List α) (i : Nat) : (noteAll [] (ks.take i)).1.length ≤ i := by
  have := manyOf_cnt (ks.take i).length (ks.take i) rfl
  have e := cnt_max (cOf (numB (ks.take i))) (ks.take i).length
  rw [← this, List.length_take] at e
  unfold manyOf at e
  omega
theorem keyN_inj {a b : List Nat} (h : keyN a = keyN b) : a = b := by rw [← backN_of a, h, backN_of]
structure DNT (H : Hp) (d : Addr) (st : List (List Nat)) : Prop where
  ex : ∃ kvs, H d = some (.dT kvs) ∧ st.length = kvs.length ∧ ∀ x : List Nat, valV kvs (keyN x) = (ixOf st x).map fun i => V.int (i : Nat)
theorem putK_newT {kvs : List (List Key × V)} {k : List Key} {v : V} (h : valV kvs k = none) : (putK kvs k v).length = kvs.length + 1 := by
  have e := valV_any k kvs
  rw [h, Option.isSome_none] at e
  unfold putK
  rw [if_neg (by rw [e]; exact Bool.false_ne_true), List.length_append]
  rfl
section
variable {P : Program} {w : World} {K : PySem.W.Frag} {mg : Str → Option Value} {base : Heap} {f : Addr} {fd : FuncData}
theorem ok_rk (F : Fun K "_law_ranks" "_law_ranks" sRk f fd) (B : Blt mg) : FnOk P w K mg base CX0 1 f fd ["_law_rows"] (spRk K) := by
  refine F.ok scRk (fun vs H Q E h => ?_) (fun cdv A outer s H vs Q E hr h => ?_)
  · obtain ⟨a, ks, rfl, _⟩ := h
    rfl
  · obtain ⟨a, ks, rfl, sq, ⟨oa, ha⟩, few, q⟩ := h
    have hu := hu_of hr
    refine ⟨_, pss_cons (ps_par (i := 1) (j := 2) rfl scRk.nd rfl rfl (by decide) rfl rfl (pa_cons pe_dnewK (pa_cons (pe_lst pa_nil) pa_nil)) (by rfl))
      (pss_cons (ps_for PassesOwn.never rfl (pi_sq (K := K) rfl (pv 0)) (pg_name (i := 3) scRk.nd rfl (Or.inl rfl))
        (Evl.pss_cut (ps_if (pt_cmp (pc_dnotin hu (pv 3) (pv 1)))
          (pss_one (ps_dput hu (pv 1) (pv 3) (pe_callB (call_lenD) (by rfl) B.len_ PySem.boot_len (pa_cons (pv 1) pa_nil)) rfl)) pss_nil)
        (pss_one (ps_expr (pe_bm PySem.F.plainAttrs_list PySem.F.slot_list_append PySem.F.type_list_append mt_append (pv 2) (pa_cons (pe_dget hu (pv 1) (pv 3) (fun _ _ => rfl)) pa_nil))))))
      (pss_one (ps_ret (pv 2)))), ?_⟩
    refine fun d hd => ?_
    have m1 := new_more (o := .dK []) hd
    refine ⟨by show 0 ≤ sizeLine; exact Nat.zero_le _, fun l hl => ⟨_, _, rfl, ?_⟩⟩
    have m2 := new_more (o := .lst []) hl
    have hd2 : (upd (upd H d (.dK [])) l (.lst [])) d = some (.dK []) := m2 _ _ upd_same
    have hl2 : (upd (upd H d (.dK [])) l (.lst [])) l = some (.lst []) := upd_same
    have m02 : More H (upd (upd H d (.dK [])) l (.lst [])) := fun b o e => m2 _ _ (m1 _ _ e)
    have Hl : H l = none := m1.off hl
    have dl : d ≠ l := ne_of_none (upd_same (a := d) (o := .dK []) (H := H)) hl
    generalize upd (upd H d (.dK [])) l (.lst []) = H2 at hd2 hl2 m02 ⊢
    have kl : (ks.map V.int).length = ks.length := List.length_map ..
    have ad : a ≠ d := ne_of_none ha hd
    have kept : ∀ {H1 H' : Hp}, More H H' → H1 a = some oa → B5.Kept a H1 H' := fun {H1 H'} m e o e2 => by
      rw [e] at e2
      cases e2
      exact m _ _ ha
    refine ⟨_, rfl, a, _, rfl, sq.more m02, fun J Z wk hZ => for_it wk (fun i σ' H' => ∃ z, σ' = [some (.ref a), some (.ref d), some (.ref l), z] ∧ (∃ kvs, H' d = some (.dK kvs) ∧ (noteAll [] (ks.take i)).1.length = kvs.length ∧ ∀ x : Int, valV kvs (Sum.inl x) = (ixOf (noteAll [] (ks.take i)).1 x).map fun i => V.int (i : Nat)) ∧
          H' l = some (.lst ((noteAll [] (ks.take i)).2.map nV)) ∧ More H H')
        ⟨none, rfl, ⟨[], hd2, rfl, fun _ => rfl⟩, hl2, m02⟩ (fun i σ' H' _ ⟨_, _, _, _, m⟩ => hZ H' (kept m (m02 _ _ ha))) ?_ ?_⟩
    · rintro i y σ' G G' hi ⟨z, rfl, ⟨kvs, hk, l1, vals⟩, kl3, m⟩ ⟨rfl, hy⟩
      obtain ⟨k, hki, rfl⟩ := map_at hy
      rw [kl] at hi
      have tk := take_snoc hki
      have sl := cnt_few ks i
      have e1 : (noteAll [] (ks.take (i + 1))).1 = (note (noteAll [] (ks.take i)).1 k).1 := by rw [tk, noteAll_snoc]
      have e2 : (noteAll [] (ks.take (i + 1))).2 = (noteAll [] (ks.take i)).2 ++ [(note (noteAll [] (ks.take i)).1 k).2] := by rw [tk, noteAll_snoc]
      have nd := noteAll_nd (ks.take i) (st := []) List.nodup_nil
      have len2 : (noteAll [] (ks.take i)).2.length = i := by rw [(noteAll_at (ks.take i) []).1, List.length_take]; omega
      rw [e1, e2]
      generalize noteAll [] (ks.take i) = W at l1 vals kl3 sl nd len2 ⊢
      obtain ⟨st, row⟩ := W
      have sl : st.length ≤ i := sl
      have l1 : st.length = kvs.length := l1
      have len2 : row.length = i := len2
      refine ⟨fun σ' H' => σ' = [some (.ref a), some (.ref d), some (.ref l), some (.int k)] ∧ (∃ kvs, H' d = some (.dK kvs) ∧ (note st k).1.length = kvs.length ∧ ∀ x : Int, valV kvs (Sum.inl x) = (ixOf (note st k).1 x).map fun i => V.int (i : Nat)) ∧ H' l = some (.lst (row.map nV)) ∧ More H H', ?_, ?_⟩
      · refine ⟨_, rfl, _, rfl, d, _, rfl, DGet.k (k := Sum.inl k) hk, _, rfl, ?_⟩
        rw [vals k]
        unfold note
        cases e : ixOf st k with
        | some j => exact iteF ⟨rfl, ⟨kvs, hk, l1, vals⟩, kl3, m⟩
        | none =>
          have nv : valV kvs (Sum.inl k) = none := by rw [vals k]; show (ixOf st k).map _ = _; rw [e]; rfl
          refine iteT ⟨_, rfl, d, kvs, rfl, hk, _, rfl, _, rfl, d, _, rfl, DPut.k (k := Sum.inl k) hk (small1000 (by omega)), rfl, ⟨_, upd_same, ?_, fun x => ?_⟩, (upd_ne dl.symm).trans kl3, More.at m hd⟩
          · rw [putK_new nv, ← l1, List.length_append]
            rfl
          · rw [valV_put]
            show _ = (ixOf (st ++ [k]) x).map _
            rw [ixOf_app]
            by_cases z : x = k
            · subst z
              rw [if_pos rfl, e, if_pos rfl, l1]
              rfl
            · rw [if_neg fun q => z (Sum.inl.inj q), vals x]
              show (ixOf st x).map _ = _
              cases ixOf st x with
              | some t => rfl
              | none =>
                show none = Option.map _ (if k = x then _ else none)
                rw [if_neg fun q => z q.symm]
                rfl
      · rintro σ2 G2 ⟨rfl, ⟨kv2, hk2, lk2, vals2⟩, kl4, m4⟩
        have es := ixOf_self (note_nd nd k) (note_at st k)
        refine ⟨_, rfl, .inl ⟨rfl, _, SqL.of kl4⟩, _, rfl, _, rfl, d, V.int ((note st k).2 : Nat), rfl, dg (Sum.inl k) hk2 (by rw [vals2 k, es]; rfl), l, _, _, rfl, rfl, kl4, by rw [List.length_map]; exact small1000 (by omega), ?_⟩
        refine ⟨_, rfl, ⟨kv2, (upd_ne dl).trans hk2, lk2, vals2⟩, ?_, More.at m4 Hl⟩
        rw [upd_same, List.map_append]
        rfl
    · rintro σ' G ⟨z, rfl, _, kl3, m⟩
      rw [kl, List.take_length] at kl3
      exact ⟨_, rfl, q l G m Hl kl3⟩
theorem ok_rkT (F : Fun K "_law_ranks" "_law_ranks" sRk f fd) (B : Blt mg) : FnOk P w K mg base CX0 1 f fd ["_law_rows"] (spRkT K) := by
  refine F.ok scRk (fun vs H Q E h => ?_) (fun cdv A outer s H vs Q E hr h => ?_)
  · obtain ⟨a, ts, ks, rfl, _⟩ := h
    rfl
  · obtain ⟨a, ts, ks, rfl, ha, pr, few, q⟩ := h
    have hu := hu_of hr
    refine ⟨_, pss_cons (ps_par (i := 1) (j := 2) rfl scRk.nd rfl rfl (by decide) rfl rfl (pa_cons pe_dnewT (pa_cons (pe_lst pa_nil) pa_nil)) (by rfl))
      (pss_cons (ps_for PassesOwn.never rfl (pi_list (pv 0)) (pg_name (i := 3) scRk.nd rfl (Or.inl rfl))
        (Evl.pss_cut (ps_if (pt_cmp (pc_dnotin hu (pv 3) (pv 1)))
          (pss_one (ps_dput hu (pv 1) (pv 3) (pe_callB call_len_dT (by rfl) B.len_ PySem.boot_len (pa_cons (pv 1) pa_nil)) rfl)) pss_nil)
        (pss_one (ps_expr (pe_bm PySem.F.plainAttrs_list PySem.F.slot_list_append PySem.F.type_list_append mt_append (pv 2) (pa_cons (pe_dget hu (pv 1) (pv 3) (fun _ _ => rfl)) pa_nil))))))
      (pss_one (ps_ret (pv 2)))), ?_⟩
    refine fun d hd => ?_
    have m1 := new_more (o := .dT []) hd
    refine ⟨by show 0 ≤ sizeLine; exact Nat.zero_le _, fun l hl => ⟨_, _, rfl, ?_⟩⟩
    have m2 := new_more (o := .lst []) hl
    have hd2 : (upd (upd H d (.dT [])) l (.lst [])) d = some (.dT []) := m2 _ _ upd_same
    have hl2 : (upd (upd H d (.dT [])) l (.lst [])) l = some (.lst []) := upd_same
    have m02 : More H (upd (upd H d (.dT [])) l (.lst [])) := fun b o e => m2 _ _ (m1 _ _ e)
    have Hl : H l = none := m1.off hl
    have dl : d ≠ l := ne_of_none (upd_same (a := d) (o := .dT []) (H := H)) hl
    generalize upd (upd H d (.dT [])) l (.lst []) = H2 at hd2 hl2 m02 ⊢
    have kl : (ts.map V.ref).length = ks.length := by rw [List.length_map]; exact Paired.length pr
    have ad : a ≠ d := ne_of_none ha hd
    refine ⟨_, rfl, a, rfl, ⟨_, SqL.of (m02 _ _ ha)⟩, for_list (K := K) (a := a) (xs := ts.map V.ref) (fun i σ' H' => ∃ z, σ' = [some (.ref a), some (.ref d), some (.ref l), z] ∧ (∃ kvs, H' d = some (.dT kvs) ∧ (noteAll [] (ks.take i)).1.length = kvs.length ∧ ∀ x : List Nat, valV kvs (keyN x) = (ixOf (noteAll [] (ks.take i)).1 x).map fun i => V.int (i : Nat)) ∧
          H' l = some (.lst ((noteAll [] (ks.take i)).2.map nV)) ∧ More H H')
        ⟨none, rfl, ⟨[], hd2, rfl, fun _ => rfl⟩, hl2, m02⟩ (fun i σ' H' _ ⟨_, _, _, _, m⟩ => SqL.of (m _ _ ha)) ?_ ?_⟩
    · rintro i y σ' G hy ⟨z, rfl, ⟨kvs, hk, l1, vals⟩, kl3, m⟩
      obtain ⟨b, hb, rfl⟩ := map_at hy
      obtain ⟨k, hki, tb0⟩ := paired_at pr hb
      have hi := (List.getElem?_eq_some_iff.mp hki).1
      have tb : G b = some (.tup ((keyN k).map kV)) := by rw [keyN_v]; exact m _ _ tb0
      have tk := take_snoc hki
      have sl := cnt_few ks i
      have e1 : (noteAll [] (ks.take (i + 1))).1 = (note (noteAll [] (ks.take i)).1 k).1 := by rw [tk, noteAll_snoc]
      have e2 : (noteAll [] (ks.take (i + 1))).2 = (noteAll [] (ks.take i)).2 ++ [(note (noteAll [] (ks.take i)).1 k).2] := by rw [tk, noteAll_snoc]
      have nd := noteAll_nd (ks.take i) (st := []) List.nodup_nil
      have len2 : (noteAll [] (ks.take i)).2.length = i := by rw [(noteAll_at (ks.take i) []).1, List.length_take]; omega
      rw [e1, e2]
      generalize noteAll [] (ks.take i) = W at l1 vals kl3 sl nd len2 ⊢
      obtain ⟨st, row⟩ := W
      have sl : st.length ≤ i := sl
      have l1 : st.length = kvs.length := l1
      have len2 : row.length = i := len2
      refine ⟨fun σ' H' => σ' = [some (.ref a), some (.ref d), some (.ref l), some (.ref b)] ∧ (∃ kvs, H' d = some (.dT kvs) ∧ (note st k).1.length = kvs.length ∧ ∀ x : List Nat, valV kvs (keyN x) = (ixOf (note st k).1 x).map fun i => V.int (i : Nat)) ∧ H' l = some (.lst (row.map nV)) ∧ More H H', ?_, ?_⟩
      · refine ⟨_, rfl, _, rfl, d, _, rfl, DGet.t (k := keyN k) hk tb, _, rfl, ?_⟩
        rw [vals k]
        unfold note
        cases e : ixOf st k with
        | some j => exact iteF ⟨rfl, ⟨kvs, hk, l1, vals⟩, kl3, m⟩
        | none =>
          have nv : valV kvs (keyN k) = none := by rw [vals k]; show (ixOf st k).map _ = _; rw [e]; rfl
          refine iteT ⟨_, rfl, d, kvs, rfl, hk, _, rfl, _, rfl, d, _, rfl, DPut.t (k := keyN k) hk tb (small1000 (by omega)), rfl, ⟨_, upd_same, ?_, fun x => ?_⟩, (upd_ne dl.symm).trans kl3, More.at m hd⟩
          · rw [putK_newT nv, ← l1, List.length_append]
            rfl
          · rw [valV_put]
            show _ = (ixOf (st ++ [k]) x).map _
            rw [ixOf_app]
            by_cases z : x = k
            · subst z
              rw [if_pos rfl, e, if_pos rfl, l1]
              rfl
            · rw [if_neg fun q => z (keyN_inj q), vals x]
              show (ixOf st x).map _ = _
              cases ixOf st x with
              | some t => rfl
              | none =>
                show none = Option.map _ (if k = x then _ else none)
                rw [if_neg fun q => z q.symm]
                rfl
      · rintro σ2 G2 ⟨rfl, ⟨kv2, hk2, lk2, vals2⟩, kl4, m4⟩
        have es := ixOf_self (note_nd nd k) (note_at st k)
        refine ⟨_, rfl, .inl ⟨rfl, _, SqL.of kl4⟩, _, rfl, _, rfl, d, V.int ((note st k).2 : Nat), rfl, (show valV kv2 (keyN k) = some (V.int ((note st k).2 : Nat)) by rw [vals2 k, es]; rfl) ▸ DGet.t (k := keyN k) hk2 (show G2 b = some (.tup ((keyN k).map kV)) by rw [keyN_v]; exact m4 _ _ tb0), l, _, _, rfl, rfl, kl4, by rw [List.length_map]; exact small1000 (by omega), ?_⟩
        refine ⟨_, rfl, ⟨kv2, (upd_ne dl).trans hk2, lk2, vals2⟩, ?_, More.at m4 Hl⟩
        rw [upd_same, List.map_append]
        rfl
    · rintro σ' G ⟨z, rfl, _, kl3, m⟩
      rw [kl, List.take_length] at kl3
      exact ⟨_, rfl, q l G m Hl kl3⟩
end
end K71

namespace K71
open PySem L2 Gd B5 NdefX
section
abbrev sLst : Stmt := top 18
abbrev sLstL : Stmt := (defBody sLst).getD 3 (.Pass ⟨0, 0, 0, 0⟩)
abbrev NLst : List Str := ["moves", "worths", "classes", "members", "state", "number", "lead", "met", "rows"]
theorem scLst : FnScope NLst ["moves", "worths"] (defScope sLst) := ⟨rfl, rfl, rfl, by decide +kernel, rfl, by decide +kernel, by decide +kernel⟩
abbrev NLstL : List Str := ["number", "step", "classes", "members", "moves"]
theorem scLstL : NScope NLstL ["number", "step"] ["classes", "members", "moves"] (C8.fnScope sLstL) := nscope_by (by decide +kernel)
abbrev qLst : Str := (PyProof.Rows.envOfC "least_states" (defScope sLst) 0 0 .none).qual ++ "lead"
/-- the first state of a class -/
def repC (cs : List Nat) (k : Nat) : Nat := (ixOf cs k).getD 0
/-- where a class leads -/
def leadC (cs : List Nat) (rows : List (List Nat)) (p : Nat) (k : Nat) : List Nat := (leadS p (tab rows) (repC cs k)).map (cOf cs)
theorem rep_ok {n : Nat} {cs : List Nat} (l : cs.length = n) {s : Nat} (hs : s < n) : repC cs (cOf cs s) < n ∧ cOf cs (repC cs (cOf cs s)) = cOf cs s := by
  have e : cs[s]? = some (cOf cs s) := at_getD (by omega) 0
  unfold repC
  cases h : ixOf cs (cOf cs s) with
  | none => exact absurd (List.mem_of_getElem? e) (ixOf_none h)
  | some i =>
    have hi := ixOf_some h
    have lt := (List.getElem?_eq_some_iff.mp hi).1
    refine ⟨by show i < n; omega, ?_⟩
    show cOf cs i = _
    exact getD_of hi 0
variable {P : Program} {w : World} {K : PySem.W.Frag} {mg : Str → Option Value} {base : Heap}
def spLst (P : Program) (w : World) (K : PySem.W.Frag) (mg : Str → Option Value) (base : Heap) (T : List NTab) : Sp := fun vs H Q _ => ∃ (t u : Addr) (ts : List Addr) (rows : List (List Nat)) (p : Nat) (ws : List Int), vs = [.ref t, .ref u] ∧ H t = some (.lst (ts.map V.ref)) ∧ Tbl K H t ts rows p ∧ H u = some (.lst (ws.map V.int)) ∧ ws.length = rows.length ∧ TabsN T H ∧
  ∀ (H' : Hp) (t2 lm lw : Addr) (ts2 : List Addr) (cs : List Nat), LamX.ExtN H H' → TabsN T H' → NumbsO rows.length cs → Stab rows.length p (tab rows) (valW ws) (cOf cs) → Coarse rows.length p (tab rows) (valW ws) (cOf cs) →
    H' t2 = some (.tup [.ref lm, .ref lw]) → H' lm = some (.lst (ts2.map V.ref)) → Paired (TupN H') ts2 (walkFrom (leadC cs rows p) (cnt (cOf cs) rows.length) (cOf cs 0)).2 →
    H' lw = some (.lst ((walkFrom (leadC cs rows p) (cnt (cOf cs) rows.length) (cOf cs 0)).1.map fun k => V.int (valW ws (repC cs k)))) → Q (.ref t2) H'
theorem class_at {n : Nat} {cs : List Nat} (nb : NumbsO n cs) {k : Nat} (hk : k < cnt (cOf cs) n) : ∃ r, ixOf cs k = some r ∧ r < n ∧ repC cs k = r := by
  obtain ⟨s, hs, rfl⟩ := nb.2 k hk
  have e : cs[s]? = some (cOf cs s) := at_getD (by have := nb.1.1; omega) 0
  cases h : ixOf cs (cOf cs s) with
  | none => exact absurd (List.mem_of_getElem? e) (ixOf_none h)
  | some i =>
    have lt := (List.getElem?_eq_some_iff.mp (ixOf_some h)).1
    exact ⟨i, rfl, by have := nb.1.1; omega, by unfold repC; rw [h]; rfl⟩
theorem leadC_ok {n p : Nat} {cs : List Nat} {rows : List (List Nat)} {ws : List Int} (hn : n = rows.length) (nb : NumbsO n cs) (cl : ∀ s d, s < n → d < p → tab rows s d < n) : ∀ k, k < cnt (cOf cs) n → (leadC cs rows p k).length = p ∧ ∀ b ∈ leadC cs rows p k, b < cnt (cOf cs) n := fun k hk => by
  obtain ⟨s, hs, rfl⟩ := nb.2 k hk
  obtain ⟨r1, r2⟩ := rep_ok nb.1.1 hs
  unfold leadC
  refine ⟨by rw [List.length_map, leadS_len], fun b hb => ?_⟩
  obtain ⟨x, hx, rfl⟩ := List.mem_map.mp hb
  obtain ⟨d, hd, rfl⟩ := leadS_mem hx
  exact nb.1.2 _ (cl _ _ r1 hd)
theorem ok_lst {f c Pt g1 g2 : Addr} {d1 d2 : FuncData} {kV doc pm ct oc : Value} {an od : Option Addr} {osl : Array (Option Value)} {T : List NTab} (B : Blt mg) (zEnum : mg "enumerate" = none)
    (lk : K.lookup f = some ⟨oc, od, .func (PySem.W.fnOf "least_states" "least_states" (defArgs sLst) (defBody sLst) (defScope sLst) .none kV doc pm an (.ref c) ct), osl⟩)
    (hcd : PySem.W.codeIn K (.ref c) "least_states" = true) (TB : LamX.TabB base mg c Pt) (hm : (Pt, fun _ _ => qLst) ∈ T) (hu' : ∀ p ∈ T, p.1 = Pt → p.2 = fun _ _ => qLst)
    (kC : PySem.W.keepIn K (.ref g1) = true) (gC : mg "classes_of" = some (.ref g1)) (bC : Binds K d1 ["moves", "worths"] []) (GC : FnOk P w K mg base CX0 2 g1 d1 ["moves", "worths"] (spCls K))
    (kX : PySem.W.keepIn K (.ref g2) = true) (gX : mg "explored" = some (.ref g2)) (bX : Binds K d2 ["start", "lead", "many", "most"] []) (GX : FnOk P w K mg base CX0 3 g2 d2 ["start", "lead", "many", "most"] (spXp P w K mg base 1)) :
    FnOk P w K mg base CX0 4 f (PySem.W.fnOf "least_states" "least_states" (defArgs sLst) (defBody sLst) (defScope sLst) .none kV doc pm an (.ref c) ct) ["moves", "worths"] (spLst P w K mg base T) := by
  refine fn_of lk hcd scLst (fun vs H Q E h => ?_) (fun A outer s H vs Q E hr h => ?_)
  · obtain ⟨t, u, ts, rows, p, ws, rfl, _⟩ := h
    rfl
  · obtain ⟨t, u, ts, rows, p, ws, rfl, ht, Tb, hw, lw, tabs, q⟩ := h
    have hu := hu_of hr
    have hr2 : Room 2 _ := hr.mono (by decide)
    have nb : ndefB (defScope sLst) (C8.fnScope sLstL) ["classes", "members", "moves"] = true := by decide +kernel
    refine ⟨_, PSs.nox (pss_cons (ps_set (i := 2) scLst.nd rfl (Or.inr rfl) (pe_call GC hr2 rfl gC kC bC .nil pass0 (pa_cons (pv 0) (pa_cons (pv 1) pa_nil))))
      (pss_cons (ps_set (i := 3) scLst.nd rfl (Or.inr rfl) pe_dnewK)
      (pss_cons (ps_for PassesOwn.never rfl (pi_enum (by rfl) zEnum (pa_cons (pv 2) pa_nil)) (pg_tup rfl (pgs_cons (pg_name (i := 4) scLst.nd rfl (Or.inl rfl)) (pgs_cons (pg_name (i := 5) scLst.nd rfl (Or.inl rfl)) pgs_nil)))
        (pss_one (ps_expr (pe_dsetd (pv 3) (pv 5) (pv 4) ⟨rfl, rfl, rfl, rfl⟩))))
      (pss_cons (ps_ndefS (st := sLstL) (i := 6) (T := T) rfl TB rfl hm rfl hu' (ndef_free nb) rfl rfl rfl scLst.nd rfl (Or.inl rfl) (Or.inl rfl))
      (pss_cons (ps_asg (pe_callE (fr := ["classes", "members", "moves"]) (js := [2, 3, 0]) GX hr rfl gX kX bX (fun o => Caps.made (scope := C8.fnScope sLstL) (fr := ["classes", "members", "moves"]) (js := [2, 3, 0]) o (ndef_free nb) (ndef_fr nb) rfl) (fun _ => rfl)
            (pa_cons (pe_ix ix_list (pv 2) pe_int (fun _ _ => rfl)) (pa_cons (pv 6) (pa_cons (pe_callB call_len_seq (by rfl) B.len_ PySem.boot_len (pa_cons (pe_ix ix_list (pv 0) pe_int (fun _ _ => rfl)) pa_nil)) (pa_cons pe_non pa_nil)))))
          (pg_tup (by rfl) (pgs_cons (pg_name (i := 7) scLst.nd rfl (Or.inl rfl)) (pgs_cons (pg_name (i := 8) scLst.nd rfl (Or.inl rfl)) pgs_nil))))
      (pss_one (ps_ret (pe_tup (pa_cons (pv 8) (pa_cons (pe_lc (own := [("number", 5)]) (g := gName 5) (tt := tYes) rfl scLst.nd (pi_list (pv 7)) (blkOk_by (N := NLst) (sc := defScope sLst) (by decide +kernel)) (fun _ _ _ _ _ => pg_name (i := 5) scLst.nd rfl (Or.inl rfl)) (fun _ _ _ _ _ => pts_nil)
        (fun _ _ _ _ _ => pe_ix (r := rIxL K) ix_list (pv 1) (pe_dget hu (pv 3) (pv 5) (fun _ _ => rfl)) (fun _ _ => rfl))) pa_nil)))))))))), ?_⟩
    obtain ⟨n, hn⟩ : ∃ n, n = rows.length := ⟨_, rfl⟩
    have n0 : 0 < n := hn ▸ Tb.ne
    have fewn : n ≤ 900 := hn ▸ Tb.few
    have fewp := Tb.fewp
    have lts : ts.length = n := by rw [hn]; exact Paired.length Tb.rows_
    have cl0 := Tb.cl
    rw [← hn] at cl0
    refine ⟨_, rfl, _, rfl, t, u, ts, rows, p, ws, rfl, Tb, .inl (SqL.of hw), ⟨_, hw⟩, lw, fun lc H1 cs m1 nlc hlc nbo st co => ?_⟩
    rw [← hn] at nbo st co
    refine fun d hd => ?_
    have m2 := new_more (o := .dK []) hd
    have lcs : cs.length = n := nbo.1.1
    have Hd : H d = none := m1.off hd
    refine ⟨_, rfl, lc, cs.map nV, rfl, SqL.of (m2 _ _ hlc), for_it (walk_enum (xs := cs.map nV)) (fun i σ' H' => ∃ (z4 z5 : Option V), σ' = [some (.ref t), some (.ref u), some (.ref lc), some (.ref d), z4, z5, none, none, none] ∧ (∃ kvs, H' d = some (.dK kvs) ∧ kvs.length ≤ i ∧ ∀ k : Nat, valV kvs (Sum.inl (k : Int)) = (ixOf (cs.take i) k).map fun r => V.int (r : Nat)) ∧ More H1 H')
      ⟨none, none, rfl, ⟨[], upd_same, Nat.le_refl _, fun k => rfl⟩, m2⟩ (fun i σ' H' _ ⟨_, _, _, _, m⟩ => SqL.of (m _ _ hlc)) ?_ ?_⟩
    · rintro i x σ' G G' hi ⟨z4, z5, rfl, ⟨kvs, hk, lk, vals⟩, m⟩ ⟨T0, u0, y0, rfl, nT, rfl, hu0, hy0⟩
      cases hu0
      obtain ⟨k, hk0, rfl⟩ := map_at hy0
      rw [List.length_map] at hi
      have mT := new_more (o := .tup [V.int ((i : Nat) : Int), nV k]) nT
      have hkT := mT _ _ hk
      refine ⟨T0, _, rfl, SqT.of upd_same, rfl, _, _, rfl, _, _, rfl, rfl, ?_⟩
      have tk := take_snoc hk0
      rw [tk]
      refine ⟨_, rfl, d, rfl, .inl ⟨kvs, .inl hkT⟩, _, rfl, _, rfl, kvs, Sum.inl (k : Int), hkT, rfl, small1000 (by omega), fun v hv => ?_, fun nv => ?_⟩
      · refine ⟨_, _, rfl, ⟨kvs, hkT, by omega, fun x => ?_⟩, fun b o e => mT _ _ (m _ _ e)⟩
        rw [vals k] at hv
        rw [vals x, ixOf_app]
        cases e : ixOf (cs.take i) x with
        | some t => rfl
        | none =>
          show none = Option.map _ (if k = x then _ else none)
          rw [if_neg fun z => ?_]
          · rfl
          · rw [z, e] at hv
            cases hv
      · have lk2 := putK_new' (v := V.int ((i : Nat) : Int)) nv
        refine ⟨_, _, rfl, ⟨_, upd_same, by omega, fun x => ?_⟩, More.at (fun b o e => mT _ _ (m _ _ e)) hd⟩
        rw [vals k] at nv
        rw [valV_put, ixOf_app]
        have ek : ixOf (cs.take i) k = none := by
          cases e : ixOf (cs.take i) k with
          | none => rfl
          | some t => rw [e] at nv; cases nv
        have lt : (cs.take i).length = i := by rw [List.length_take]; omega
        by_cases z : x = k
        · subst z
          rw [if_pos rfl, ek, if_pos rfl, lt]
          rfl
        · rw [if_neg fun q => z (by have := Sum.inl.inj q; omega), vals x]
          cases ixOf (cs.take i) x with
          | some t => rfl
          | none =>
            show none = Option.map _ (if k = x then _ else none)
            rw [if_neg fun q => z q.symm]
            rfl
    rintro σ' H3 ⟨z4, z5, rfl, ⟨kvs, hk, lk, vals⟩, m3⟩
    rw [List.length_map, List.take_length] at vals
    clear lk m2
    have m03 : More H H3 := fun b o e => m3 _ _ (m1 _ _ e)
    have hlc3 := m3 _ _ hlc
    have tabs3 := tabs.ext m03
    refine ⟨tabs3, fun f2 c2 H4 eN tabs4 nf hf hc => ?_⟩
    generalize cloFrom (cxOf CX0 P w K mg base NLst "least_states" (defScope sLst) f (.ref c) A outer s H E).nox.env.cells (C8.fnScope sLstL).names [] = cl at hf hc ⊢
    generalize (cxOf CX0 P w K mg base NLst "least_states" (defScope sLst) f (.ref c) A outer s H E).nox.env.qual ++ "lead" = ql at hf hc
    have ht4 : H4 t = some (.lst (ts.map V.ref)) := eN _ _ (m03 _ _ ht) (fun _ z => nomatch z)
    have hlc4 : H4 lc = some (.lst (cs.map nV)) := eN _ _ hlc3 (fun _ z => nomatch z)
    have hk4 : H4 d = some (.dK kvs) := eN _ _ hk (fun _ z => nomatch z)
    have hw4 : H4 u = some (.lst (ws.map V.int)) := eN _ _ (m03 _ _ hw) (fun _ z => nomatch z)
    have pr4 : Paired (TupN H4) ts rows := paired_imp (S := TupN H4) (fun b r (e : TupN H b r) => eN _ _ (m03 _ _ e) (fun _ z => nomatch z)) Tb.rows_
    have lim : cnt (cOf cs) n ≤ n := cnt_max _ _
    have leads := leadC_ok (rows := rows) (ws := ws) (p := p) hn nbo cl0
    have nk : NOk P w K mg base CX0 1 f2 (NF.of sLstL "lead" ql cl c2) ["number", "step"] ["classes", "members", "moves"] (fun ws vs H Q _ => ∃ (k d' b : Nat), ws = [some (.ref lc), some (.ref d), some (.ref t)] ∧ vs = [.int k, .int d'] ∧ k < cnt (cOf cs) n ∧ d' < p ∧ (leadC cs rows p k)[d']? = some b ∧
        H lc = some (.lst (cs.map nV)) ∧ H d = some (.dK kvs) ∧ H t = some (.lst (ts.map V.ref)) ∧ Paired (TupN H) ts rows ∧ ∀ H', More H H' → Q (.int b) H') := by
      refine nok_of scLstL (fun _ _ _ us hl => ?_) (fun ws vs H Q E h => ?_) (fun A' outer' s' H' vs ws Q' E' hr' hf' hc' lw h => ?_)
      · match us, hl with
        | [_, _], _ => rfl
      · obtain ⟨k, d', b, _, rfl, _⟩ := h
        rfl
      · obtain ⟨k, d', b, rfl, rfl, hkm, hd', eb, hlc', hk', ht', pr', q'⟩ := h
        have huL := hu_of hr'
        refine ⟨_, pss_one (ps_ret (pe_ix ix_list (pv 2) (pe_ix ix_tup (pe_ix ix_list (pv 4) (pe_dget huL (pv 3) (pv 0) (fun _ _ => rfl)) (fun _ _ => rfl)) (pv 1) (fun _ _ => rfl)) (fun _ _ => rfl))), ?_⟩
        obtain ⟨r, er, rn, rr⟩ := class_at nbo hkm
        obtain ⟨b1, hb1⟩ : ∃ b1, ts[r]? = some b1 := ⟨ts[r]'(by omega), List.getElem?_eq_getElem (by omega)⟩
        obtain ⟨row, erow, tb⟩ := paired_at pr' hb1
        have e0 : rows.getD r [] = row := by rw [List.getD_eq_getElem?_getD, erow]; rfl
        obtain ⟨lrow, brow⟩ := Tb.len row (List.mem_of_getElem? erow)
        have e2 := at_getD (l := row) (i := d') (by omega) 0
        have b2 := brow _ (List.mem_of_getElem? e2)
        have e3 : cs[row.getD d' 0]? = some (cOf cs (row.getD d' 0)) := at_getD (by omega) 0
        have eb2 : cOf cs (row.getD d' 0) = b := by
          unfold leadC at eb
          rw [List.getElem?_map, leadS_at hd', rr] at eb
          have eb : some (cOf cs (tab rows r d')) = some b := eb
          have := Option.some.inj eb
          unfold tab at this
          rw [e0] at this
          exact this
        rw [eb2] at e3
        refine ⟨_, rfl, _, rfl, _, rfl, _, rfl, d, V.int (r : Nat), rfl, dg (Sum.inl (k : Int)) hk' (by rw [vals k, er]; rfl), t, _, ((r : Nat) : Int), _, rfl, rfl, SqL.of ht', atI_nat (at_map hb1), _, rfl, b1, _, ((d' : Nat) : Int), _, rfl, rfl, SqT.of tb, atI_nat (at_map e2), lc, _, ((row.getD d' 0 : Nat) : Int), _, rfl, rfl, SqL.of hlc', atI_nat (at_map e3), q' _ fun _ _ e => e⟩
    obtain ⟨b0, hb0⟩ : ∃ b0, ts[0]? = some b0 := ⟨ts[0]'(by omega), List.getElem?_eq_getElem (by omega)⟩
    obtain ⟨row0, erow0, tb0⟩ := paired_at pr4 hb0
    obtain ⟨lrow0, _⟩ := Tb.len row0 (List.mem_of_getElem? erow0)
    have c0 : cs[0]? = some (cOf cs 0) := at_getD (by omega) 0
    refine ⟨_, rfl, lc, _, ((0 : Nat) : Int), _, rfl, rfl, SqL.of hlc4, atI_nat (at_map c0), _, rfl, _, rfl, t, _, ((0 : Nat) : Int), _, rfl, rfl, SqL.of ht4, atI_nat (at_map hb0), b0, _, rfl, .inr (SqT.of tb0), ?_⟩
    have el : (((row0.map nV).length : Nat) : Int) = p := by rw [List.length_map]; exact congrArg _ lrow0
    refine fun HE sh => ?_
    have mf := sh.nc hf
    have mc := sh.nc hc
    have hfE := (sh.off _ mf).trans hf
    have hcE := (sh.off _ mc).trans hc
    have L := lead_of nk [some (.ref lc), some (.ref d), some (.ref t)] mf mc
    refine ⟨f2, p, cnt (cOf cs) n, cOf cs 0, leadC cs rows p, fun H => ((H f2 = some (FnO f2 (NF.of sLstL "lead" ql cl c2)) ∧ H c2 = some (LamX.CodeO c2 ql)) ∧ Exd cl ["classes", "members", "moves"] [some (.ref lc), some (.ref d), some (.ref t)] H) ∧ H lc = some (.lst (cs.map nV)) ∧ H d = some (.dK kvs) ∧ H t = some (.lst (ts.map V.ref)) ∧ Paired (TupN H) ts rows,
      by show [V.int _, V.ref f2, V.int _, V.non] = _; rw [el], fun H' m => ⟨⟨⟨m _ _ hfE, m _ _ hcE⟩, sh.exd.more m⟩, m _ _ (sh.more _ _ hlc4), m _ _ (sh.more _ _ hk4), m _ _ (sh.more _ _ ht4), paired_imp (S := TupN H') (fun b r (e : TupN H4 b r) => m _ _ (sh.more _ _ e)) pr4⟩,
      L.imp (fun H2 h => h.1) (fun vs H2 Q2 h hs => ?_), leads, nbo.1.2 0 n0, by omega, by omega, fun H5 t2 m5 told => ⟨fun b hb => ?_, ?_⟩⟩
    · obtain ⟨k, d', b, rfl, h1, h2, h3, kq⟩ := hs
      have hx := h.1.2
      refine ⟨k, d', b, rfl, rfl, h1, h2, h3, hide_by hx h.2.1 (fun _ z => nomatch z), hide_by hx h.2.2.1 (fun _ z => nomatch z), hide_by hx h.2.2.2.1 (fun _ z => nomatch z), paired_imp (S := TupN _) (fun b r (e : TupN H2 b r) => hide_by hx e (fun _ z => nomatch z)) h.2.2.2.2, fun H' m => kq _ (more_lay m)⟩
    · obtain ⟨ob, e⟩ := sh.exd.ex hb
      rw [e]
      exact m5 _ _ e
    obtain ⟨ls, lm, ts2, k1, k2, k3, k4⟩ := told
    have hx5 := sh.exd.more m5
    have m45 : More H4 (hide cl H5) := fun b o e => (hide_no (sh.nc e)).trans (m5 _ _ (sh.more b o e))
    have g1 := hide_by hx5 k1 (fun _ z => nomatch z)
    have g2 := hide_by hx5 k2 (fun _ z => nomatch z)
    have g3 := hide_by hx5 k3 (fun _ z => nomatch z)
    have g4 := paired_imp (S := TupN (hide cl H5)) (fun b r (e : TupN H5 b r) => hide_by hx5 e (fun _ z => nomatch z)) k4
    generalize hide cl H5 = G at m45 g1 g2 g3 g4 ⊢
    clear k1 k2 k3 k4 m5 hx5 L
    have W := walkFrom_end (lead := leadC cs rows p) (P := fun x => x < cnt (cOf cs) n) (N := cnt (cOf cs) n) (fun a ha => (leads a ha).2) (fun l nd al => nodup_below _ l nd al) (a := cOf cs 0) (nbo.1.2 0 n0)
    have lm2 := nodup_below _ _ W.nd W.all
    have bm := W.all
    clear W
    refine ⟨t2, _, rfl, SqT.of g1, rfl, _, _, rfl, _, _, rfl, rfl, ?_⟩
    refine ⟨_, rfl, _, rfl, ls, rfl, ⟨_, SqL.of g2⟩, fun D nD => ?_⟩
    refine lc_name (n := 5) (D := D) (H1 := G) (xs := (walkFrom (leadC cs rows p) (cnt (cOf cs) n) (cOf cs 0)).1.map nV) (rs := (walkFrom (leadC cs rows p) (cnt (cOf cs) n) (cOf cs 0)).1.map fun k => V.int (valW ws (repC cs k))) walk_list nD (fun H' m => SqL.of (m _ _ g2)) (by rw [List.length_map, List.length_map]) (by rw [List.length_map]; omega) (fun _ => rfl) ?_ ?_
    · intro i y v G3 Q3 hy hv m3' q3
      obtain ⟨k, hk0, rfl⟩ := map_at hy
      obtain ⟨k', hk1, rfl⟩ := map_at hv
      rw [hk0] at hk1
      cases hk1
      obtain ⟨r, er, rn, rr⟩ := class_at nbo (bm k (List.mem_of_getElem? hk0))
      rw [rr] at q3
      refine ⟨_, rfl, _, rfl, _, rfl, d, V.int (r : Nat), rfl, dg (Sum.inl (k : Int)) (m3' _ _ (m45 _ _ hk4)) (by rw [vals k, er]; rfl), u, _, ((r : Nat) : Int), _, rfl, rfl, SqL.of (m3' _ _ (m45 _ _ hw4)), atI_nat (at_map (at_getD (by omega) 0)), q3 _ fun _ _ e => e⟩
    · intro G3 k5 m3'
      refine ⟨by show 2 ≤ sizeLine; decide, fun t3 ht3 => ?_⟩
      have mt := new_more (o := .tup [.ref lm, .ref D]) ht3
      have mG : More H4 (upd G3 t3 (.tup [.ref lm, .ref D])) := fun b o e => mt _ _ (m3' _ _ (m45 _ _ e))
      refine q _ t3 lm D ts2 cs (((LamX.ExtN.of m03).trans eN).trans (.of mG)) (tabs4.ext mG) (hn ▸ nbo) (hn ▸ st) (hn ▸ co) upd_same (mt _ _ (m3' _ _ g3)) (paired_imp (S := TupN _) (fun b row (e : TupN G b row) => mt _ _ (m3' _ _ e)) (hn ▸ g4)) (mt _ _ (hn ▸ k5))
end
end K71

/-! Lm: what a least machine is, and that there is one alone. -/
namespace B5
section
variable {n p : Nat} {step : Nat → Nat → Nat} {val : Nat → Int} {R : List (List Nat)} {W : List Int}
theorem walkFrom_more {α : Type} [DecidableEq α] {lead : α → List α} {P : α → Prop} (cl : ∀ a, P a → ∀ b ∈ lead a, P b) {N : Nat} (bnd : ∀ l : List α, l.Nodup → (∀ x ∈ l, P x) → l.length ≤ N) {a : α} (ha : P a) {M : Nat} (h : N ≤ M) : walkFrom lead M a = walkFrom lead N a := by
  have e := walkFrom_end cl bnd ha
  have l := bnd _ e.nd e.all
  exact walkB_more (N + 1) 0 [a] [] (by show (walkFrom lead N a).1.length < _; omega) (M + 1) (by omega)
/-- the classes' walk -/
def leadK (p : Nat) (step : Nat → Nat → Nat) (c rp : Nat → Nat) (a : Nat) : List Nat := (leadS p step (rp a)).map c
/-- the least machine, by a partition of the states -/
structure LeastOf (n p : Nat) (step : Nat → Nat → Nat) (val : Nat → Int) (R : List (List Nat)) (W : List Int) : Prop where
  n0 : 0 < n
  cl : ∀ s d, s < n → d < p → step s d < n
  ex : ∃ c rp : Nat → Nat, Stab n p step val c ∧ Coarse n p step val c ∧ (∀ s, s < n → c s < n) ∧ (∀ s, s < n → rp (c s) < n ∧ c (rp (c s)) = c s) ∧
    ∀ N, n ≤ N → R = (walkFrom (leadK p step c rp) N (c 0)).2 ∧ W = (walkFrom (leadK p step c rp) N (c 0)).1.map fun a => val (rp a)
/-- what is met of the classes -/
structure MetC (n p : Nat) (step : Nat → Nat → Nat) (c rp : Nat → Nat) (met : List Nat) (rows : List (List Nat)) : Prop where
  len : rows.length = met.length
  first : met[0]? = some (c 0)
  all : ∀ a ∈ met, ∃ s, s < n ∧ a = c s
  few : met.length ≤ n
  row : ∀ (i : Nat) (r : List Nat), rows[i]? = some r → r.length = p
  led : ∀ (i a d : Nat), met[i]? = some a → d < p → tab rows i d < met.length ∧ met[tab rows i d]? = some (c (step (rp a) d))
theorem metC_of (cl : ∀ s d, s < n → d < p → step s d < n) (n0 : 0 < n) {c rp : Nat → Nat} (cb : ∀ s, s < n → c s < n) (hr : ∀ s, s < n → rp (c s) < n ∧ c (rp (c s)) = c s) :
    MetC n p step c rp (walkFrom (leadK p step c rp) n (c 0)).1 (walkFrom (leadK p step c rp) n (c 0)).2 ∧ ∀ N, n ≤ N → walkFrom (leadK p step c rp) N (c 0) = walkFrom (leadK p step c rp) n (c 0) := by
  have clK : ∀ a, (∃ s, s < n ∧ a = c s) → ∀ b ∈ leadK p step c rp a, ∃ s, s < n ∧ b = c s := fun a ⟨s, hs, ea⟩ b hb => by
    obtain ⟨x, hx, rfl⟩ := List.mem_map.mp hb
    obtain ⟨d, hd, rfl⟩ := leadS_mem hx
    subst ea
    exact ⟨_, cl _ d (hr s hs).1 hd, rfl⟩
  have bnd : ∀ l : List Nat, l.Nodup → (∀ x ∈ l, ∃ s, s < n ∧ x = c s) → l.length ≤ n := fun l nd al => nodup_below n l nd fun x hx => by
    obtain ⟨s, hs, rfl⟩ := al x hx
    exact cb s hs
  refine ⟨?_, fun N h => walkFrom_more clK bnd ⟨0, n0, rfl⟩ h⟩
  have h := walkFrom_end clK bnd ⟨0, n0, rfl⟩
  generalize walkFrom (leadK p step c rp) n (c 0) = Z at h ⊢
  refine ⟨h.len, pre_at h.pre rfl, h.all, bnd _ h.nd h.all, fun i r e => ?_, fun i a d e hd => ?_⟩
  · have lt := (List.getElem?_eq_some_iff.mp e).1
    rw [h.len] at lt
    have := (h.ok i _ r lt (List.getElem?_eq_getElem lt) e).1
    rw [this]
    unfold leadK
    rw [List.length_map, leadS_len]
  · have lt := (List.getElem?_eq_some_iff.mp e).1
    have er : Z.2[i]? = some (Z.2[i]'(by rw [h.len]; exact lt)) := List.getElem?_eq_getElem (by rw [h.len]; exact lt)
    have ea : (leadK p step c rp a)[d]? = some (c (step (rp a) d)) := by
      unfold leadK
      rw [List.getElem?_map, leadS_at hd]
      rfl
    obtain ⟨k, e1, e2⟩ := (h.ok i a _ lt e er).2 d _ ea
    have ek : tab Z.2 i d = k := by
      unfold tab
      rw [List.getD_eq_getElem?_getD (l := Z.2), er]
      show (Z.2[i]'_).getD d 0 = k
      rw [List.getD_eq_getElem?_getD, e1]
      rfl
    rw [ek]
    exact ⟨(List.getElem?_eq_some_iff.mp e2).1, e2⟩
/-- what is right of it -/
structure Fine (n p : Nat) (R : List (List Nat)) (W : List Int) : Prop where
  ne : 0 < R.length
  few : R.length ≤ n
  rows : ∀ r ∈ R, r.length = p ∧ ∀ x ∈ r, x < R.length
  len : W.length = R.length
theorem getD_map {α β : Type} {f : α → β} {l : List α} {i : Nat} (h : i < l.length) (a : α) (b : β) : (l.map f).getD i b = f (l.getD i a) := by
  rw [List.getD_eq_getElem?_getD, List.getD_eq_getElem?_getD, List.getElem?_map, List.getElem?_eq_getElem h]
  rfl
theorem MetC.fine {c rp : Nat → Nat} {met : List Nat} {rows : List (List Nat)} (M : MetC n p step c rp met rows) {f : Nat → Int} : Fine n p rows (met.map f) := by
  have m0 : 0 < met.length := (List.getElem?_eq_some_iff.mp M.first).1
  refine ⟨by rw [M.len]; exact m0, by rw [M.len]; exact M.few, fun r hr => ?_, by rw [List.length_map, M.len]⟩
  obtain ⟨i, hi⟩ := List.getElem?_of_mem hr
  have lr := M.row i r hi
  refine ⟨lr, fun x hx => ?_⟩
  obtain ⟨d, hd⟩ := List.getElem?_of_mem hx
  have ld := (List.getElem?_eq_some_iff.mp hd).1
  have li := (List.getElem?_eq_some_iff.mp hi).1
  rw [M.len] at li
  have := (M.led i _ d (List.getElem?_eq_getElem li) (by omega)).1
  have e : tab rows i d = x := by
    unfold tab
    rw [List.getD_eq_getElem?_getD (l := rows), hi]
    show r.getD d 0 = x
    rw [List.getD_eq_getElem?_getD, hd]
    rfl
  rw [e] at this
  rw [M.len]
  exact this
theorem LeastOf.fine (L : LeastOf n p step val R W) : Fine n p R W := by
  obtain ⟨c, rp, S, k, cb, hr, h⟩ := L.ex
  obtain ⟨e1, e2⟩ := h n (Nat.le_refl _)
  rw [e1, e2]
  exact (metC_of L.cl L.n0 cb hr).1.fine
def valL (W : List Int) (s : Nat) : Int := W.getD s 0
theorem Across.symm {step' : Nat → Nat → Nat} {val' : Nat → Int} {s t : Nat} (h : Across p step val step' val' s t) : Across p step' val' step val t s := fun w hw => (h w hw).symm
theorem Across.trans {step' step2 : Nat → Nat → Nat} {val' val2 : Nat → Int} {s t u : Nat} (h : Across p step val step' val' s t) (g : Across p step' val' step2 val2 t u) : Across p step val step2 val2 s u := fun w hw => (h w hw).trans (g w hw)
theorem Across.refl {s : Nat} : Across p step val step val s s := fun _ _ => rfl
/-- it tells what the machine tells -/
theorem LeastOf.tells (L : LeastOf n p step val R W) : Across p step val (tab R) (valL W) 0 0 := by
  obtain ⟨c, rp, S, k, cb, hr, h⟩ := L.ex
  obtain ⟨e1, e2⟩ := h n (Nat.le_refl _)
  have M := (metC_of L.cl L.n0 cb hr).1
  generalize walkFrom (leadK p step c rp) n (c 0) = Z at e1 e2 M
  subst e1 e2
  have A := least_across (s0 := 0) (N := n) L.cl S hr L.n0 (met := Z.1) (rows := Z.2) (fun i a d e hd => (M.led i a d e hd).2) M.all M.first
  have m0 : 0 < Z.1.length := (List.getElem?_eq_some_iff.mp M.first).1
  have inr : ∀ (w : List Nat) (i : Nat), i < Z.1.length → (∀ d ∈ w, d < p) → runW (tab Z.2) i w < Z.1.length := by
    intro w
    induction w with
    | nil => intro i hi _; exact hi
    | cons d w ih =>
      intro i hi hw
      exact ih _ (M.led i _ d (List.getElem?_eq_getElem hi) (hw d (.head _))).1 fun x hx => hw x (.tail _ hx)
  intro w hw
  rw [A w hw]
  unfold valL
  rw [getD_map (inr w 0 m0 hw) 0]
/-- steady machines have steady least machines -/
theorem LeastOf.steady (L : LeastOf n p step val R W) (p0 : 0 < p) (st : ∀ s, s < n → val s = val (step s 0)) : ∀ i, i < R.length → valL W i = valL W (tab R i 0) := by
  obtain ⟨c, rp, S, k, cb, hr, h⟩ := L.ex
  obtain ⟨e1, e2⟩ := h n (Nat.le_refl _)
  have M := (metC_of L.cl L.n0 cb hr).1
  generalize walkFrom (leadK p step c rp) n (c 0) = Z at e1 e2 M
  subst e1 e2
  intro i hi
  rw [M.len] at hi
  have ea : Z.1[i]? = some Z.1[i] := List.getElem?_eq_getElem hi
  obtain ⟨l1, l2⟩ := M.led i _ 0 ea p0
  obtain ⟨s, hs, es⟩ := M.all _ (List.getElem_mem hi)
  unfold valL
  rw [getD_map hi 0, getD_map l1 0, List.getD_eq_getElem?_getD (l := Z.1) (i := i), ea, List.getD_eq_getElem?_getD (l := Z.1), l2]
  show val (rp Z.1[i]) = val (rp (c (step (rp Z.1[i]) 0)))
  rw [es]
  obtain ⟨r1, r2⟩ := hr s hs
  have b1 := L.cl _ 0 r1 p0
  obtain ⟨r3, r4⟩ := hr _ b1
  rw [st _ r1]
  exact (S.tell _ _ r3 b1 r4).symm
/-- the least machine of all that tells the same -/
structure LeastFor (p : Nat) (step : Nat → Nat → Nat) (val : Nat → Int) (R : List (List Nat)) (W : List Int) : Prop where
  ex : ∃ (n' : Nat) (step' : Nat → Nat → Nat) (val' : Nat → Int), LeastOf n' p step' val' R W ∧ Across p step val step' val' 0 0
theorem LeastOf.for (L : LeastOf n p step val R W) : LeastFor p step val R W := ⟨n, step, val, L, .refl⟩
theorem LeastFor.tells (L : LeastFor p step val R W) : Across p step val (tab R) (valL W) 0 0 := by
  obtain ⟨n', step', val', L, A⟩ := L.ex
  exact A.trans L.tells
theorem LeastOf.one {n' : Nat} {step' : Nat → Nat → Nat} {val' : Nat → Int} {R' : List (List Nat)} {W' : List Int} (L : LeastOf n p step val R W) (L' : LeastOf n' p step' val' R' W') (A : Across p step val step' val' 0 0) : R = R' ∧ W = W' := by
  obtain ⟨c, rp, S, k, cb, hr, h⟩ := L.ex
  obtain ⟨c', rp', S', k', cb', hr', h'⟩ := L'.ex
  obtain ⟨e1, e2⟩ := h (n + n') (by omega)
  obtain ⟨e3, e4⟩ := h' (n + n') (by omega)
  have x := least_cross L.cl L'.cl S k S' k' hr hr' L.n0 L'.n0 A (n + n')
  rw [e1, e2, e3, e4]
  exact x
theorem LeastFor.one {step2 : Nat → Nat → Nat} {val2 : Nat → Int} {R2 : List (List Nat)} {W2 : List Int} (L : LeastFor p step val R W) (L2 : LeastFor p step2 val2 R2 W2) (A : Across p step val step2 val2 0 0) : R = R2 ∧ W = W2 := by
  obtain ⟨_, _, _, L, B⟩ := L.ex
  obtain ⟨_, _, _, L', B'⟩ := L2.ex
  exact L.one L' (B.symm.trans (A.trans B'))
/-- of what is met alone -/
theorem met_least {met : List Nat} {rows : List (List Nat)} (M : MetI n p step 0 met rows) (L : LeastOf met.length p (tab rows) (valL (met.map val)) R W) : LeastFor p step val R W := by
  refine ⟨_, _, _, L, fun w hw => ?_⟩
  have e := M.run w 0 0 M.first hw
  have lt := (List.getElem?_eq_some_iff.mp e).1
  unfold valL
  rw [getD_map lt 0, List.getD_eq_getElem?_getD, e]
  rfl
end
end B5

namespace K71
open PySem L2 Gd B5 NdefX
section
/-- where a machine leads -/
def stepT (dss : List (List Int)) (s d : Nat) : Nat := ((dss.getD s []).getD d 0).toNat
def toI (R : List (List Nat)) : List (List Int) := R.map fun r => r.map fun x => ((x : Nat) : Int)
theorem toI_len (R : List (List Nat)) : (toI R).length = R.length := List.length_map _
theorem stepT_toI {R : List (List Nat)} {p s d : Nat} (hs : s < R.length) (hp : ∀ r ∈ R, r.length = p) (hd : d < p) : stepT (toI R) s d = tab R s d := by
  have e := at_getD hs []
  have l := hp _ (List.mem_of_getElem? e)
  unfold stepT toI tab
  rw [getD_map hs [], getD_map (by omega) 0]
  rfl
theorem stdy_iff {dss : List (List Int)} {ws : List Int} (l : ws.length = dss.length) : stdy dss ws = true ↔ ∀ i, i < dss.length → ws.getD i 0 = ws.getD (stepT dss i 0) 0 := by
  unfold stdy
  rw [List.all_eq_true]
  constructor
  · intro h i hi
    have e := zip_at (f := fun (ds : List Int) (w : Int) => decide (w = ws.getD (ds.getD 0 0).toNat 0)) (at_getD hi []) (at_getD (l := ws) (i := i) (by omega) 0)
    have := h _ (List.mem_of_getElem? e)
    exact of_decide_eq_true this
  · intro h x hx
    obtain ⟨i, hi⟩ := List.getElem?_of_mem hx
    have lt := (List.getElem?_eq_some_iff.mp hi).1
    rw [List.length_zipWith] at lt
    have e := zip_at (f := fun (ds : List Int) (w : Int) => decide (w = ws.getD (ds.getD 0 0).toNat 0)) (at_getD (l := dss) (i := i) (by omega) []) (at_getD (l := ws) (i := i) (by omega) 0)
    rw [hi] at e
    cases e
    exact decide_eq_true (h i (by omega))
theorem good_cl {p : Nat} {dss : List (List Int)} {ws : List Int} (g : MGood p dss ws) : ∀ s d, s < dss.length → d < p → stepT dss s d < dss.length := fun s d hs hd => by
  obtain ⟨l, ok⟩ := g.rows _ (List.mem_of_getElem? (at_getD hs []))
  have := ok _ (List.mem_of_getElem? (at_getD (l := dss.getD s []) (i := d) (by omega) 0))
  unfold stepT
  omega
theorem met_I {p : Nat} {dss : List (List Int)} {ws : List Int} (g : MGood p dss ws) : MetI dss.length p (stepT dss) 0 (metN p dss) (metR p dss) := met_of (good_cl g) (List.length_pos_iff.mpr g.ne) (Nat.le_refl _)
theorem metI_C {n p : Nat} {step : Nat → Nat → Nat} {met : List Nat} {rows : List (List Nat)} (M : MetI n p step 0 met rows) : MetC n p step id id met rows :=
  ⟨M.len, M.first, fun a ha => ⟨a, M.all a ha, rfl⟩, nodup_below n _ M.nd M.all, M.row, fun i a d e hd => M.led i a d e hd⟩
theorem least_of_cs {n p : Nat} {cs : List Nat} {rows : List (List Nat)} {ws : List Int} (hn : n = rows.length) (n0 : 0 < n) (nb : NumbsO n cs) (cl : ∀ s d, s < n → d < p → tab rows s d < n) (st : Stab n p (tab rows) (valW ws) (cOf cs)) (co : Coarse n p (tab rows) (valW ws) (cOf cs)) :
    LeastOf n p (tab rows) (valW ws) (walkFrom (leadC cs rows p) (cnt (cOf cs) n) (cOf cs 0)).2 ((walkFrom (leadC cs rows p) (cnt (cOf cs) n) (cOf cs 0)).1.map fun k => valW ws (repC cs k)) := by
  have leads := leadC_ok (ws := ws) hn nb cl
  have mx := cnt_max (cOf cs) n
  refine ⟨n0, cl, cOf cs, repC cs, st, co, fun s hs => by have := nb.1.2 s hs; omega, fun s hs => rep_ok nb.1.1 hs, fun N hN => ?_⟩
  have e := walkFrom_more (lead := leadC cs rows p) (P := fun x => x < cnt (cOf cs) n) (N := cnt (cOf cs) n) (fun a ha => (leads a ha).2) (fun l nd al => nodup_below _ l nd al) (a := cOf cs 0) (nb.1.2 0 n0) (M := N) (by omega)
  rw [← e]
  exact ⟨rfl, rfl⟩
theorem mk_ok {K : PySem.W.Frag} {H : Hp} {p : Int} {a b : Addr} {xs : List V} {dss : List (List Int)} {ws : List Int} (g : MGood p dss ws) (st : stdy dss ws = true) (sq : Sq K H a xs) (hp : Paired (fun x ds => ∃ b, x = .ref b ∧ Sq K H b (ds.map V.int)) xs dss)
    (sw : Sq K H b (ws.map V.int)) : MOk K H (.int p) (.ref a) (.ref b) p dss ws := by
  have l := Paired.length hp
  have d0 := List.length_pos_iff.mpr g.ne
  refine ⟨rfl, g.pr, ⟨a, xs, rfl, sq, by rw [l]; exact g.few, fun e => by rw [e] at l; exact absurd l (by show 0 ≠ _; omega), paired_of l fun i x ds hx hds => ?_⟩, ⟨b, rfl, sw⟩, g.len, st⟩
  obtain ⟨ds', e, b, rfl, sb⟩ := paired_at hp hx
  rw [hds] at e
  cases e
  obtain ⟨l1, r⟩ := g.rows ds (List.mem_of_getElem? hds)
  exact ⟨⟨b, rfl, sb⟩, l1, by rw [l]; exact r⟩
theorem fine_good {n p : Nat} {R : List (List Nat)} {W : List Int} (f : Fine n p R W) (pr : isPr p = true) (few : n ≤ 1000) : MGood p (toI R) W := by
  refine ⟨pr, fun e => ?_, fun ds hds => ?_, by rw [toI_len]; exact f.len, by rw [toI_len]; have := f.few; omega⟩
  · have := toI_len R
    rw [e] at this
    have := f.ne
    simp at *
    omega
  · obtain ⟨r, hr, rfl⟩ := List.mem_map.mp hds
    obtain ⟨l, b⟩ := f.rows r hr
    refine ⟨by rw [List.length_map, l], fun d hd => ?_⟩
    obtain ⟨x, hx, rfl⟩ := List.mem_map.mp hd
    have := b x hx
    rw [toI_len]
    omega
theorem fine_stdy {n p : Nat} {R : List (List Nat)} {W : List Int} (f : Fine n p R W) (p0 : 0 < p) (st : ∀ i, i < R.length → valL W i = valL W (tab R i 0)) : stdy (toI R) W = true := by
  rw [stdy_iff (by rw [toI_len]; exact f.len)]
  intro i hi
  rw [toI_len] at hi
  rw [stepT_toI hi (fun r hr => (f.rows r hr).1) p0]
  exact st i hi
theorem rows_pair {K : PySem.W.Frag} {H : Hp} : ∀ {ts : List Addr} {R : List (List Nat)}, Paired (TupN H) ts R → Paired (fun x ds => ∃ b, x = V.ref b ∧ Sq K H b (ds.map V.int)) (ts.map V.ref) (toI R)
  | [], [], .nil => .nil
  | t :: ts, r :: R, .cons h q => .cons ⟨t, rfl, .inr (SqT.of (by
      have h : H t = some (.tup (r.map nV)) := h
      rw [h, List.map_map]
      rfl))⟩ (rows_pair q)
abbrev sLmd : Stmt := top 25
abbrev NLmd : List Str := ["p", "moves", "worths", "rows", "values", "least", "told"]
theorem scLmd : FnScope NLmd ["p", "moves", "worths"] (defScope sLmd) := ⟨rfl, rfl, rfl, by decide +kernel, rfl, by decide +kernel, by decide +kernel⟩
/-- the least machine of this one is made -/
def LmQ (K : PySem.W.Frag) (C : Addr) (T : List NTab) (p : Nat) (dss : List (List Int)) (ws : List Int) (H : Hp) (Q : VK) : Prop := ∀ (H' : Hp) (a : Addr) (R : List (List Nat)) (W : List Int), LamX.ExtN H H' → TabsN T H' → LeastFor p (stepT dss) (valL ws) R W → Fine dss.length p R W → stdy (toI R) W = true → MAt K H' C a p (toI R) W → Q (.ref a) H'
def spLmd (K : PySem.W.Frag) (C : Addr) (T : List NTab) : Sp := fun vs H Q _ => ∃ (t u : Addr) (xs : List V) (p : Nat) (dss : List (List Int)) (ws : List Int), vs = [.int p, .ref t, .ref u] ∧ Sq K H t xs ∧ Paired (TupI K H) xs dss ∧ Sq K H u (ws.map V.int) ∧ MGood p dss ws ∧ dss.length ≤ 900 ∧ stdy dss ws = true ∧ TabsN T H ∧ LmQ K C T p dss ws H Q
def spLmc (K : PySem.W.Frag) (C : Addr) (T : List NTab) : Sp := fun vs H Q _ => ∃ (a : Addr) (p : Nat) (dss : List (List Int)) (ws : List Int), vs = [.ref a] ∧ MAt K H C a p dss ws ∧ MGood p dss ws ∧ dss.length ≤ 900 ∧ stdy dss ws = true ∧ TabsN T H ∧ LmQ K C T p dss ws H Q
variable {P : Program} {w : World} {K : PySem.W.Frag} {mg : Str → Option Value} {base : Heap}
variable {C CN CR CU fI gL gM f : Addr} {fdI dL dM fd : FuncData} {T : List NTab}
theorem ok_lmd (F : Fun K "least_made" "least_made" sLmd f fd) (B : Blt mg) (Z : McC K mg C) (M : Mk K C fI) (bI : Binds K fdI ["self", "p", "moves", "worths"] []) (GI : FnOk P w K mg base (L2.CX P w) 5 fI fdI ["self", "p", "moves", "worths"] (spMI K C CN CR CU))
    (kM : PySem.W.keepIn K (.ref gM) = true) (hM : mg "met_states" = some (.ref gM)) (bM : Binds K dM ["moves", "worths"] []) (GM : FnOk P w K mg base CX0 4 gM dM ["moves", "worths"] (spMs K T))
    (kL : PySem.W.keepIn K (.ref gL) = true) (hL : mg "least_states" = some (.ref gL)) (bL : Binds K dL ["moves", "worths"] []) (GL : FnOk P w K mg base CX0 4 gL dL ["moves", "worths"] (spLst P w K mg base T)) :
    FnOk P w K mg base CX0 7 f fd ["p", "moves", "worths"] (spLmd K C T) := by
  refine F.ok scLmd (fun vs H Q E h => ?_) (fun cdv A outer s H vs Q E hr h => ?_)
  · obtain ⟨t, u, xs, p, dss, ws, rfl, _⟩ := h
    rfl
  · obtain ⟨t, u, xs, p, dss, ws, rfl, sq, pr, su, g, few, sd, tabs, q⟩ := h
    have hr4 : Room 4 _ := hr.mono (by decide)
    refine ⟨_, pss_cons (ps_asg (pe_call GM hr4 rfl hM kM bM .nil pass0 (pa_cons (pv 1) (pa_cons (pv 2) pa_nil))) (pg_tup (by rfl) (pgs_cons (pg_name (i := 3) scLmd.nd rfl (Or.inl rfl)) (pgs_cons (pg_name (i := 4) scLmd.nd rfl (Or.inl rfl)) pgs_nil))))
      (pss_cons (ps_asg (pe_call GL hr4 rfl hL kL bL .nil pass0 (pa_cons (pv 3) (pa_cons (pv 4) pa_nil))) (pg_tup (by rfl) (pgs_cons (pg_name (i := 5) scLmd.nd rfl (Or.inl rfl)) (pgs_cons (pg_name (i := 6) scLmd.nd rfl (Or.inl rfl)) pgs_nil))))
      (pss_one (ps_ret (pe_make M GI hr rfl Z.g bI .nil (passes_call LamX.takes0 (fun _ _ _ _ h => h)) (pa_cons (pv 0) (pa_cons (pv 5) (pa_cons (pv 6) pa_nil))))))), ?_⟩
    have MI := met_I g
    have fm := (metI_C MI).fine (f := fun s => ws.getD s 0)
    obtain ⟨p2, p7⟩ := isPr_small g.pr
    refine ⟨_, rfl, _, rfl, t, u, xs, p, dss, ws, rfl, sq, pr, su, g, tabs, fun H1 t1 lr lw ts e1 tabs1 k1 k2 k3 k4 => ?_⟩
    refine ⟨t1, _, rfl, SqT.of k1, rfl, _, _, rfl, _, _, rfl, rfl, ?_⟩
    have Tb : Tbl K H1 lr ts (metR p dss) p := ⟨.inr (SqL.of k2), k3, fm.ne, by have := fm.few; omega, by omega, fm.rows⟩
    have k4 : H1 lw = some (.lst (((metN p dss).map fun s => ws.getD s 0).map V.int)) := by rw [k4, List.map_map]; rfl
    refine ⟨_, rfl, _, rfl, lr, lw, ts, metR p dss, p, (metN p dss).map fun s => ws.getD s 0, rfl, k2, Tb, k4, fm.len, tabs1, fun H2 t2 lm lv ts2 cs e2 tabs2 nbo st co j1 j2 j3 j4 => ?_⟩
    refine ⟨t2, _, rfl, SqT.of j1, rfl, _, _, rfl, _, _, rfl, rfl, ?_⟩
    have LO := least_of_cs rfl fm.ne nbo Tb.cl st co
    have Fi := LO.fine
    have stM : ∀ s, s < (metR p dss).length → valW ((metN p dss).map fun s => ws.getD s 0) s = valW ((metN p dss).map fun s => ws.getD s 0) (tab (metR p dss) s 0) := fun s hs => by
      rw [MI.len] at hs
      have ea : (metN p dss)[s]? = some (metN p dss)[s] := List.getElem?_eq_getElem hs
      obtain ⟨l1, l2⟩ := MI.led s _ 0 ea (by omega)
      unfold valW
      rw [getD_map hs 0, getD_map l1 0, List.getD_eq_getElem?_getD (l := metN p dss) (i := s), ea, List.getD_eq_getElem?_getD (l := metN p dss), l2]
      exact (stdy_iff g.len).mp sd _ (MI.all _ (List.getElem_mem hs))
    have st2 := LO.steady (by omega) stM
    have LF : LeastFor p (stepT dss) (valL ws) _ _ := met_least MI (by rw [← MI.len]; exact LO)
    have j4 : H2 lv = some (.lst (((walkFrom (leadC cs (metR p dss) p) (cnt (cOf cs) (metR p dss).length) (cOf cs 0)).1.map fun k => valW ((metN p dss).map fun s => ws.getD s 0) (repC cs k)).map V.int)) := by rw [j4, List.map_map]; rfl
    have LmF : ∀ H', LamX.ExtN H H' → TabsN T H' → ∀ a, _ → MAt K H' C a p (toI _) _ → Q (.ref a) H' := fun H' e1 e2 a (_ : True) m => q H' a _ _ e1 e2 LF ⟨Fi.ne, by have := Fi.few; have := fm.few; omega, Fi.rows, Fi.len⟩ (fine_stdy Fi (by omega) st2) m
    refine ⟨_, rfl, _, rfl, _, rfl, fun x dx hx hdx ne => ?_⟩
    have m5 : More H2 (upd (upd H2 dx (.own x)) x (.ins C dx [])) := fun b o e => by
      rw [upd_ne (ne_of_none e hx), upd_ne (ne_of_none e hdx)]
      exact e
    have MG := fine_good Fi g.pr (by have := fm.few; omega)
    refine ⟨x, dx, _, _, _, rfl, upd_same, .inr ⟨(p : Int), toI _, _, mk_ok MG (fine_stdy Fi (by omega) st2) (.inl (SqL.of (m5 _ _ j2))) (rows_pair (paired_imp (S := TupN _) (fun b r (e : TupN H2 b r) => m5 _ _ e) j3)) (.inl (SqL.of (m5 _ _ j4))), fun H5 of5 ma5 => ?_⟩⟩
    have m25 : More H2 H5 := fun b o e => of5 _ _ (m5 _ _ e) (ne_of_none e hx)
    exact ⟨rfl, LmF H5 ((e1.trans e2).trans (.of m25)) (tabs2.ext m25) x trivial ma5⟩
end
end K71

namespace K71
open PySem L2 Gd B5
abbrev sLcl : Stmt := top 36
abbrev NLcl : List Str := ["_law_moves", "_law_worths", "_law_found", "_law_lap", "_law_rows", "_law_state", "_law_other"]
theorem scLcl : FnScope NLcl ["_law_moves", "_law_worths"] (defScope sLcl) := ⟨rfl, rfl, rfl, by decide +kernel, rfl, by decide +kernel, by decide +kernel⟩
def forB : Stmt → List Stmt
  | .For _ _ b _ _ => b
  | _ => []
/-- plain moves and worths of the law -/
structure PlT (K : PySem.W.Frag) (H : Hp) (M W : Addr) (rs : List V) (p : Nat) (dss : List (List Int)) (ws : List Int) : Prop where
  hM : H M = some (.tup rs)
  rows : Paired (TupI K H) rs dss
  hW : H W = some (.tup (ws.map V.int))
  good : MGood p dss ws
  few : dss.length ≤ 100
theorem PlT.more {K : PySem.W.Frag} {H H' : Hp} {M W : Addr} {rs : List V} {p : Nat} {dss : List (List Int)} {ws : List Int} (h : PlT K H M W rs p dss ws) (m : More H H') : PlT K H' M W rs p dss ws :=
  ⟨m _ _ h.hM, paired_imp (fun _ _ r => r.more m) h.rows, m _ _ h.hW, h.good, h.few⟩
theorem tup_row {K : PySem.W.Frag} {H : Hp} {rs : List V} {p : Nat} {dss : List (List Int)} {ws : List Int} (hrows : Paired (TupI K H) rs dss) (hgood : MGood p dss ws) {s : Nat} (hs : s < dss.length) : ∃ (b : Addr) (row : List Nat), rs[s]? = some (.ref b) ∧ SqT K H b (row.map nV) ∧ row = leadS p (stepT dss) s ∧ row.length = p ∧ ∀ x ∈ row, x < dss.length := by
  have l := Paired.length hrows
  obtain ⟨x, hx⟩ : ∃ x, rs[s]? = some x := ⟨rs[s]'(by omega), List.getElem?_eq_getElem (by omega)⟩
  obtain ⟨ds, eds, b, rfl, sb⟩ := paired_at hrows hx
  obtain ⟨ld, ok⟩ := hgood.rows ds (List.mem_of_getElem? eds)
  have ed : dss.getD s [] = ds := by rw [List.getD_eq_getElem?_getD, eds]; rfl
  have e : ds = (leadS p (stepT dss) s).map fun x => ((x : Nat) : Int) := by
    apply List.ext_getElem?
    intro d
    by_cases hd : d < p
    · rw [at_getD (l := ds) (i := d) (by omega) 0, List.getElem?_map, leadS_at hd]
      have := (ok _ (List.mem_of_getElem? (at_getD (l := ds) (i := d) (by omega) 0))).1
      show some (ds.getD d 0) = some ((((dss.getD s []).getD d 0).toNat : Nat) : Int)
      rw [ed, Int.toNat_of_nonneg this]
    · rw [List.getElem?_eq_none (by omega), List.getElem?_eq_none (by rw [List.length_map, leadS_len]; omega)]
  refine ⟨b, _, hx, ?_, rfl, leadS_len, fun x hx => ?_⟩
  · rw [e, List.map_map] at sb
    exact sb
  · obtain ⟨d, hd, rfl⟩ := leadS_mem hx
    exact good_cl hgood s d hs hd
theorem PlT.row {K : PySem.W.Frag} {H : Hp} {M W : Addr} {rs : List V} {p : Nat} {dss : List (List Int)} {ws : List Int} (h : PlT K H M W rs p dss ws) {s : Nat} (hs : s < dss.length) : ∃ (b : Addr) (row : List Nat), rs[s]? = some (.ref b) ∧ SqT K H b (row.map nV) ∧ row = leadS p (stepT dss) s ∧ row.length = p ∧ ∀ x ∈ row, x < dss.length := tup_row h.rows h.good hs
/-- the law's classes -/
def lapN (p : Nat) (dss : List (List Int)) (ws : List Int) (i : Nat) : List Nat := lapsL dss.length p (stepT dss) (numB ws) i
theorem lapN_len {p : Nat} {dss : List (List Int)} {ws : List Int} (h : ws.length = dss.length) : ∀ i, (lapN p dss ws i).length = dss.length
  | 0 => by show (numB ws).length = _; rw [numB_len, h]
  | i + 1 => by show (numB (keysL _ _ _ _)).length = _; rw [numB_len, keysL_len]
def spLcl (K : PySem.W.Frag) : Sp := fun vs H Q _ => ∃ (M W : Addr) (rs : List V) (p : Nat) (dss : List (List Int)) (ws : List Int), vs = [.ref M, .ref W] ∧ PlT K H M W rs p dss ws ∧
  ∀ l H', More H H' → H' l = some (.lst ((lapN p dss ws (dss.length + 1)).map nV)) → Q (.ref l) H'
section
variable {P : Program} {w : World} {K : PySem.W.Frag} {mg : Str → Option Value} {base : Heap} {g1 f : Addr} {d1 fd : FuncData}
theorem ok_lcl (F : Fun K "_law_classes" "_law_classes" sLcl f fd) (B : Blt mg) (Rk : Cl K mg "_law_ranks" sRk ["_law_rows"] g1 d1) : FnOk P w K mg base CX0 2 f fd ["_law_moves", "_law_worths"] (spLcl K) := by
  have G1 : FnOk P w K mg base CX0 1 g1 d1 ["_law_rows"] (spRk K) := ok_rk Rk.fn B
  have G2 : FnOk P w K mg base CX0 1 g1 d1 ["_law_rows"] (spRkT K) := ok_rkT Rk.fn B
  refine F.ok scLcl (fun vs H Q E h => ?_) (fun cdv A outer s H vs Q E hr h => ?_)
  · obtain ⟨M, W, rs, p, dss, ws, rfl, _⟩ := h
    rfl
  · obtain ⟨M, W, rs, p, dss, ws, rfl, pl, q⟩ := h
    refine ⟨_, pss_cons (ps_set (i := 2) scLcl.nd rfl (Or.inr rfl) (pe_call G1 hr rfl Rk.g Rk.k Rk.b .nil pass0 (pa_cons (pv 1) pa_nil)))
      (pss_cons (ps_for PassesOwn.never rfl (pi_range1 (by rfl) B.range_ (pa_cons (pe_op op_add (pe_callB call_len_seq (by rfl) B.len_ PySem.boot_len (pa_cons (pv 0) pa_nil)) pe_int) pa_nil)) (pg_name (i := 3) scLcl.nd rfl (Or.inl rfl))
        (pss_cons (ps_setLc (i := 4) (own := [("_law_state", 5)]) (g := gName 5) (tt := tYes) rfl scLcl.nd rfl rfl (sw_true rfl rfl rfl (by decide +kernel)) (pi_range1 (by rfl) B.range_ (pa_cons (pe_callB call_len_seq (by rfl) B.len_ PySem.boot_len (pa_cons (pv 0) pa_nil)) pa_nil))
            (blkOk_by (N := NLcl) (sc := defScope sLcl) (by decide +kernel)) (fun _ _ _ _ _ => pg_name (i := 5) scLcl.nd rfl (Or.inl rfl)) (fun _ _ _ _ _ => pts_nil)
            (fun _ _ _ _ _ => by exact (pe_op (r := rCatT K) op_catT (pe_tup (pa_cons (pe_ix (r := rIxL K) ix_list (pv 2) (pv 5) (fun _ _ => rfl)) pa_nil))
              (pe_callTy (r := rTof K) (call_tof rfl) (by rfl) B.tup_ (by decide +kernel) (pa_cons
                (pe_lc (own := [("_law_other", 6)]) (g := gName 6) (tt := tYes) rfl scLcl.nd (wi := iTup K (tOp (rIxT K) (tVar 0) (tVar 5))) (pi_tup (pe_ix (r := rIxT K) ix_tup (pv 0) (pv 5) (fun _ _ => rfl)))
                  (blkOk_by (N := NLcl) (sc := relabel (lcSc (asgV ((forB ((defBody sLcl).getD 1 (.Pass ⟨0, 0, 0, 0⟩))).getD 0 (.Pass ⟨0, 0, 0, 0⟩)))) (PyProof.Rows.envOfC "_law_classes" (defScope sLcl) 0 0 .none)) (by decide +kernel))
                  (fun _ _ _ _ _ => pg_name (i := 6) scLcl.nd rfl (Or.inl rfl)) (fun _ _ _ _ _ => pts_nil)
                  (fun _ _ _ _ _ => pe_ix (r := rIxL K) ix_list (pv 2) (pv 6) (fun _ _ => rfl))) pa_nil)))))
        (pss_one (ps_set (i := 2) scLcl.nd rfl (Or.inr rfl) (pe_call G2 hr rfl Rk.g Rk.k Rk.b .nil pass0 (pa_cons (pv 4) pa_nil))))))
      (pss_one (ps_ret (pv 2)))), ?_⟩
    obtain ⟨n, hn⟩ : ∃ n, n = dss.length := ⟨_, rfl⟩
    have few := pl.few
    have lws := pl.good.len
    have lrs : rs.length = n := by rw [hn]; exact Paired.length pl.rows
    obtain ⟨p2, p7⟩ := isPr_small pl.good.pr
    refine ⟨_, rfl, W, ws, rfl, .inr (SqT.of pl.hW), ⟨_, pl.hW⟩, by omega, fun l H1 m1 nl hl => ?_⟩
    have en : ((rs.length : Nat) : Int) + 1 = ((n + 1 : Nat) : Int) := by omega
    have Hl : H l = none := nl
    refine ⟨_, rfl, M, _, rfl, .inr (SqT.of (m1 _ _ pl.hM)), _, _, rfl, rfl, _, rfl, ?_⟩
    show _ ∧ _ ∧ _
    rw [en]
    have toN : ((((n + 1 : Nat) : Int) : Int)).toNat = n + 1 := by omega
    refine ⟨by omega, by omega, for_range (lo := 0) (n := n + 1) (fun i σ' H' => ∃ (z3 z4 : Option V) (l : Addr), σ' = [some (.ref M), some (.ref W), some (.ref l), z3, z4, none, none] ∧ H' l = some (.lst ((lapN p dss ws i).map nV)) ∧ H l = none ∧ More H H')
      ⟨none, none, l, rfl, hl, Hl, m1⟩ ?_ ?_⟩
    · rintro i σ' G hi ⟨z3, z4, l2, rfl, hl2, nl2, m2⟩
      have lcs : (lapN p dss ws i).length = n := by rw [hn]; exact lapN_len lws i
      have nxt : lapN p dss ws (i + 1) = numB (keysL n p (stepT dss) (cOf (lapN p dss ws i))) := by rw [hn]; rfl
      rw [nxt]
      clear nxt
      generalize lapN p dss ws i = cs at hl2 lcs ⊢
      have en2 : ((rs.length : Nat) : Int) = ((n : Nat) : Int) := by omega
      refine ⟨_, rfl, M, _, rfl, .inr (SqT.of (m2 _ _ pl.hM)), _, rfl, ?_⟩
      show _ ∧ _ ∧ _
      rw [en2]
      refine ⟨by omega, by omega, fun D hD => lc_range (lo := 0) (n := n) (fun j H' => ∃ as : List Addr, H' D = some (.lst (as.map V.ref)) ∧ Paired (TupN H') as ((keysL n p (stepT dss) (cOf cs)).take j) ∧ as.length = j ∧ More G H')
        ⟨[], upd_same, .nil, rfl, new_more hD⟩ ?_ ?_⟩
      · rintro j G1 hj ⟨as, kD, pas, las, m3⟩
        rw [Int.zero_add]
        have ej : cs[j]? = some (cOf cs j) := at_getD (by omega) 0
        have pl1 := pl.more (fun b o e => m3 _ _ (m2 _ _ e))
        obtain ⟨b, row, hb, sb, erow, lrow, brow⟩ := pl1.row (s := j) (by omega)
        have hl3 := m3 _ _ hl2
        refine ⟨rfl, _, rfl, _, rfl, l2, _, ((j : Nat) : Int), _, rfl, rfl, SqL.of hl3, atI_nat (at_map ej), by show 1 ≤ sizeLine; decide, fun T1 hT1 => ?_⟩
        have mT1 := new_more (o := .tup [nV (cOf cs j)]) hT1
        have kT1 : (upd G1 T1 (.tup [nV (cOf cs j)])) T1 = some (.tup [nV (cOf cs j)]) := upd_same
        have m4 : More G1 (upd G1 T1 (.tup [nV (cOf cs j)])) := mT1
        generalize upd G1 T1 (.tup [nV (cOf cs j)]) = G2 at kT1 m4 ⊢
        refine ⟨_, rfl, _, rfl, M, rs, ((j : Nat) : Int), _, rfl, rfl, SqT.of (m4 _ _ pl1.hM), atI_nat hb, b, rfl, ⟨_, sqT_more m4 sb⟩, fun D2 hD2 => ?_⟩
        refine lc_name (n := 6) (D := D2) (H1 := G2) (xs := row.map nV) (rs := row.map fun x => nV (cOf cs x)) walk_tup hD2 (fun H' m => sqT_more (fun b o e => m _ _ (m4 _ _ e)) sb) (by rw [List.length_map, List.length_map]) (by rw [List.length_map]; omega) (fun _ => rfl) ?_ ?_
        · intro i' y v G3 Q3 hy hv m5 q3
          obtain ⟨x, hx, rfl⟩ := map_at hy
          obtain ⟨x', hx', rfl⟩ := map_at hv
          rw [hx] at hx'
          cases hx'
          have bx := brow x (List.mem_of_getElem? hx)
          have ex : cs[x]? = some (cOf cs x) := at_getD (by omega) 0
          exact ⟨_, rfl, _, rfl, l2, _, ((x : Nat) : Int), _, rfl, rfl, SqL.of (m5 _ _ (m4 _ _ hl3)), atI_nat (at_map ex), q3 _ fun _ _ e => e⟩
        intro G3 k3 m5
        refine ⟨D2, _, rfl, .inl ⟨SqL.of k3, fun T2 hT2 => ?_⟩⟩
        have mT2 := new_more (o := .tup (row.map fun x => nV (cOf cs x))) hT2
        have kT2 : (upd G3 T2 (.tup (row.map fun x => nV (cOf cs x)))) T2 = some (.tup (row.map fun x => nV (cOf cs x))) := upd_same
        have m6 : More G1 (upd G3 T2 (.tup (row.map fun x => nV (cOf cs x)))) := fun b o e => mT2 _ _ (m5 _ _ (m4 _ _ e))
        have kT1' := mT2 _ _ (m5 _ _ kT1)
        generalize upd G3 T2 (.tup (row.map fun x => nV (cOf cs x))) = G4 at kT2 m6 kT1' ⊢
        refine ⟨T1, T2, _, _, rfl, rfl, SqT.of kT1', SqT.of kT2, by simp, ?_, fun e => ?_, fun _ T3 hT3 => ?_⟩
        · rw [List.length_map]
          show 1 + row.length ≤ sizeLine
          exact Nat.le_of_lt (small1000 (by omega))
        · have := congrArg List.length e
          rw [List.length_map] at this
          have z : ([] : List V).length = 0 := rfl
          omega
        have mT3 := new_more (o := .tup ([nV (cOf cs j)] ++ row.map fun x => nV (cOf cs x))) hT3
        have kD3 := mT3 _ _ (m6 _ _ kD)
        have TD : T3 ≠ D := (ne_of_none (m6 _ _ kD) hT3).symm
        refine ⟨_, kD3, by rw [List.length_map, las]; exact small1000 (by omega), as ++ [T3], ?_, ?_, by rw [List.length_append, las]; rfl, More.at (fun b o e => mT3 _ _ (m6 _ _ (m3 _ _ e))) hD⟩
        · rw [upd_same, List.map_append]
          rfl
        · have ek : (keysL n p (stepT dss) (cOf cs))[j]? = some (cOf cs j :: row.map (cOf cs)) := by rw [erow]; exact keysL_at hj
          rw [take_snoc ek]
          refine paired_snoc (R := TupN _) ?_ (paired_imp (S := TupN _) (fun c r (e : TupN G1 c r) => (upd_ne (ne_of e kD (fun z => by cases z))).trans (mT3 _ _ (m6 _ _ e))) pas)
          show upd _ D _ T3 = some (.tup ((cOf cs j :: row.map (cOf cs)).map nV))
          rw [upd_ne TD, upd_same, List.map_cons, List.map_map]
          rfl
      · rintro G1 ⟨as, kD, pas, las, m3⟩
        have lk : (keysL n p (stepT dss) (cOf cs)).length = n := keysL_len
        rw [List.take_of_length_le (Nat.le_of_eq lk)] at pas
        refine ⟨_, rfl, D, as, _, rfl, kD, pas, by omega, fun l3 G2 m4 nl3 hl3 => ?_⟩
        exact ⟨_, _, l3, rfl, hl3, More.off (fun b o e => m3 _ _ (m2 _ _ e)) nl3, fun b o e => m4 _ _ (m3 _ _ (m2 _ _ e))⟩
    · rintro σ' H2 ⟨z3, z4, l2, rfl, hl2, nl2, m2⟩
      rw [hn] at hl2
      exact ⟨_, rfl, q l2 H2 m2 hl2⟩
end
end K71

/-! SetL: set of a list of ints, in the order in which it is walked. -/
namespace L2
open PySem PySem.Spec PyProof.Rows
abbrev seO (w : World) : Obj := { cls := .type "set", dict := none, data := .set #[] 0 (.fresh 0 0 (!w.params.followText "set-order")) }
abbrev liO (l : Addr) : Obj := { cls := .type "list_iterator", data := .fields #[.ref l, .int 0 0] }
section
variable {P : Program} {w : World} {A : Around} {E : Value → Shared → Prop} {s : Shared}
theorem set_of_list {l : Addr} {items : Array Value} (ns : List Int) {Q : Value → Shared → Prop} (calm : A.handled = none) (hl : s.heap.IsList l items) (are : IntsAre items.toList ns) (few : ns.length + 1 < scanBound)
    (q : ∀ (g : Heap) (tk c : Nat), SetR w g s.heap.objs.size (fun j => decide (j ∈ ns)) c → c ≤ ns.length → (∀ b o, s.heap.get? b = some o → g.get? b = some o) → Q (.ref s.heap.objs.size) { s with heap := g, toks := tk }) :
    wpAny (model P w) A (call (.type "set") [.ref l]) Q E s := by
  have size : items.size = ns.length := by rw [← Array.length_toList]; exact IntsAre.length are
  obtain ⟨c, tl, hmro⟩ := F.called_set.mro
  have k1 := F.called_set.made; have k2 := F.called_set.sub; have k3 := F.called_set.notType; have k4 := F.called_set.canCreate; have k5 := F.typeCall_set_1 (.ref l)
  refine wpAny_call (codeAny_of_tree (show wpAny _ _ (callAny (.type "set") _) _ _ _ from wpAny_pure ⟨Code.quiet_builtin _ (by decide +kernel), codeAny_builtin F.entry_type_call ?_⟩))
  rw [Around.under_plain (weight_type_call_type "set" [.ref l] []) rfl]
  repeat (any_goals (first | assumption | wp_step))
  refine codeAny_mono (code_set_led1 (.ref l) (E := E) (Q₁ := fun x s1 => x = .ref s.heap.objs.size ∧ s1 = { s with heap := s.heap.push (seO w) }) ⟨rfl, rfl⟩) fun r s1 hr => ?_
  rcases r with e | fl
  · exact hr
  cases fl with
  | ret x =>
    obtain ⟨rfl, rfl⟩ := hr
    have at0 : (s.heap.push (seO w)).get? s.heap.objs.size = some (seO w) := Heap.get?_push_size _ rfl
    have ty : Shared.TypeIs { s with heap := s.heap.push (seO w) } (.ref s.heap.objs.size) "set" := ⟨_, at0, rfl⟩
    have k6 := F.called_set.init.lookup; have k7 := F.called_set.init.bind (.ref s.heap.objs.size)
    repeat (any_goals (first | assumption | wp_step))
    refine codeAny_mono (codeAny_call_builtin (R := wants (fun r s2 => r = .none ∧ ∃ g tk c, s2 = { s with heap := g, toks := tk } ∧ SetR w g s.heap.objs.size (fun j => decide (j ∈ ns)) c ∧ c ≤ ns.length ∧ ∀ b o, s.heap.get? b = some o → g.get? b = some o) E)
      F.called_set.init.plain F.entry_set_init (check_set_init_1 ty ?_)) fun r2 s2 h2 => ?_
    · obtain ⟨⟨oc, od, odt, osl⟩, hol, hcl, nl, hdl⟩ := hl
      obtain rfl : oc = .type "list" := hcl
      obtain rfl : odt = .seq items nl := hdl
      have at1 : (s.heap.push (seO w)).get? l = some { cls := .type "list", dict := od, data := .seq items nl, slots := osl } := Heap.get?_push_of_some _ hol
      have s1 := F.sub_list_set; have s2 := F.sub_list_frozenset
      have ne0 : (Value.type "list" == Value.type "dict") = false := by decide
      have isl : (s.heap.push (seO w)).IsList l items := ⟨_, at1, rfl, nl, rfl⟩
      unfold Builtin.«set.__init__» noKeywords Builtin.Frozenset.updateFrom
      generalize hPI : pyIter = PI
      wp_walk
      subst hPI
      refine wpAny_pyIter_list isl (wpAny_bind (wpAny_runValue ?_))
      have lt : l < s.heap.objs.size := Heap.lt_size hol
      have c3 : A.in1.in1.in1.handled = none := by simp [calm]
      have sz : (s.heap.push (seO w)).objs.size = s.heap.objs.size + 1 := Heap.size_push ..
      have lne : l ≠ (s.heap.push (seO w)).objs.size := by rw [sz]; exact Nat.ne_of_lt (Nat.lt_succ_of_lt lt)
      have off : s.heap.objs.size ∉ [(s.heap.push (seO w)).objs.size, l] := by
        rw [sz]
        intro z
        rcases List.mem_cons.mp z with z | z
        · exact absurd z (Nat.ne_of_lt (Nat.lt_succ_self _))
        · exact absurd (List.mem_singleton.mp z) (Nat.ne_of_gt lt)
      have val : ∀ (i : Nat) (v : Value), items[i]? = some v → ∃ k t, ns[i]? = some k ∧ v = .int k t := fun i v hv => by
        have hi : i < ns.length := by rw [← size]; exact (Array.getElem?_eq_some_iff.mp hv).1
        obtain ⟨t, e⟩ := IntsAre.int_at are i v (by rw [Array.getElem?_toList]; exact hv)
        exact ⟨ns[i], t, List.getElem?_eq_getElem hi, by rw [e, List.getD_eq_getElem?_getD, List.getElem?_eq_getElem hi] <;> rfl⟩
      refine set_update_ints ((Walks.list c3 _ l lne items).toS) s.heap.objs.size off ns size few val (items.size - 0) 0 _ (by omega) (Nat.zero_le _) ⟨⟨_, Heap.get?_push_size _ rfl, rfl, rfl⟩, (isl.push _)⟩ ?a0 ?a1
      case a0 => exact ⟨0, Nat.le_refl 0, setR_new_at (show ((s.heap.push (seO w)).push (liO l)).get? s.heap.objs.size = some (seO w) from Heap.get?_push_of_some _ at0)⟩
      case a1 =>
        intro s' c' hm hc' hS'
        obtain ⟨g, g2, d', tk', os'⟩ := s'
        obtain rfl : g2 = s.gens := hm.gens
        obtain rfl : d' = s.drawn := hm.drawn
        obtain rfl : os' = s.os := hm.os
        show wpAny _ _ _ _ _ _
        refine wpAny_pure (show wpAny _ _ (ret Value.none) _ _ _ from ?_)
        rw [size] at hc'
        refine wpAny_pure ⟨rfl, g, tk', c', rfl, hS', hc', fun b o e => ?_⟩
        have lb : b < s.heap.objs.size := Heap.lt_size e
        refine hm.heap b o (fun z => ?_) (Heap.get?_push_of_some _ (Heap.get?_push_of_some _ e))
        rcases List.mem_cons.mp z with z | z
        · exact absurd z (Nat.ne_of_lt lb)
        · have z := List.mem_singleton.mp z
          rw [sz] at z
          exact absurd z (Nat.ne_of_lt (Nat.lt_succ_of_lt lb))
    · rcases r2 with e | fl2
      · exact h2
      cases fl2 with
      | ret r =>
        obtain ⟨rfl, g, tk, c', rfl, hS', hc', hk'⟩ := h2
        repeat (any_goals (first | assumption | wp_step))
        exact q _ _ _ hS' hc' hk'
      | _ => exact h2.elim
  | _ => exact hr.elim
end
theorem nodup_sub : ∀ {l m : List Int}, l.Nodup → (∀ x ∈ l, x ∈ m) → l.length ≤ m.length
  | [], _, _, _ => Nat.zero_le _
  | x :: l, m, nd, h => by
    rw [List.nodup_cons] at nd
    have hx := h x (.head _)
    have := nodup_sub (m := m.erase x) nd.2 fun y hy => (List.mem_erase_of_ne fun e => nd.1 (by rw [← e]; exact hy)).mpr (h y (.tail _ hy))
    rw [List.length_erase_of_mem hx] at this
    have : 0 < m.length := List.length_pos_of_mem hx
    rw [List.length_cons]
    omega
theorem setR_le {w : World} {h : Heap} {a : Addr} {ns : List Int} {c : Nat} (R : SetR w h a (fun j => decide (j ∈ ns)) c) {l : List Int} (hl : ∀ x ∈ ns, x ∈ l) : c ≤ l.length := by
  obtain ⟨o, es, ep, t, _, _, _, _, nd, mem, _, _, e, _⟩ := R
  have := nodup_sub nd fun x hx => hl x (of_decide_eq_true ((mem x).mpr hx))
  rw [List.length_map, Array.length_toList] at this
  omega
/-- set(xs), xs a list of ints -/
def rSetLi (K : PySem.W.Frag) (w : World) : List V → Hp → VK → Prop := fun vs H Q => ∃ (a : Addr) (ns : List Int), vs = [V.ref a] ∧ SqL K H a (ns.map V.int) ∧ ns.length ≤ 1000 ∧
  ∀ (p : Addr) (n : Nat), H p = none → (∀ l : List Int, (∀ x ∈ ns, x ∈ l) → n ≤ l.length) → Q (.ref p) (upd H p (SetO w p (fun j => decide (j ∈ ns)) n))
theorem cr_setL {X : Cx} (hc : X.calm = true) : CallR X (.type "set") (rSetLi X.K X.w) := by
  intro pins s σ H vs us Q I r h
  obtain ⟨a, ns, rfl, hs, few, q⟩ := h
  rw [Vals.ref1 r]
  obtain ⟨its, rv, hl, hz⟩ := I.list hs
  refine set_of_list ns (I.ok.hd hc) hl.isList (by simpa using rv.ints) (by unfold scanBound; omega) fun g tk c R le k => ?_
  exact ⟨.ref s.heap.objs.size, _, I.laid (t' := tk) (o := SetO X.w s.heap.objs.size (fun j => decide (j ∈ ns)) c) k (Nat.le_refl _) (setO_new R), rfl, q _ _ (I.hok.fresh (Nat.le_refl _)) fun l hl => setR_le R hl⟩
end L2

/-! Ln: the least numbers that lead to states, level by level; the least number with a value. -/
namespace B5
section
variable {p : Nat} {step : Nat → Nat → Nat} {val : Nat → Int}
def numW (p : Nat) : List Nat → Nat
  | [] => 0
  | d :: w => d + p * numW p w
def Dg (p : Nat) (w : List Nat) : Prop := ∀ d ∈ w, d < p
theorem runW_app {s d : Nat} {w : List Nat} : runW step s (w ++ [d]) = step (runW step s w) d := by
  unfold runW
  rw [List.foldl_append]
  rfl
theorem numW_snoc {d : Nat} : ∀ w : List Nat, numW p (w ++ [d]) = numW p w + d * p ^ w.length
  | [] => by show d + p * 0 = 0 + d * p ^ 0; simp
  | x :: w => by
    show x + p * numW p (w ++ [d]) = x + p * numW p w + d * p ^ (w.length + 1)
    rw [numW_snoc w, Nat.mul_add, Nat.pow_succ, Nat.add_assoc]
    congr 1
    congr 1
    rw [Nat.mul_comm p, Nat.mul_assoc]
theorem numW_lt (p0 : 0 < p) : ∀ w : List Nat, Dg p w → numW p w < p ^ w.length
  | [], _ => by show 0 < p ^ 0; simp
  | x :: w, h => by
    have ih := numW_lt p0 w fun d hd => h d (.tail _ hd)
    have hx := h x (.head _)
    show x + p * numW p w < p ^ (w.length + 1)
    rw [Nat.pow_succ, Nat.mul_comm]
    have : p * (numW p w + 1) ≤ p * p ^ w.length := Nat.mul_le_mul_left p ih
    rw [Nat.mul_add] at this
    rw [Nat.mul_comm (numW p w) p, Nat.mul_comm (p ^ w.length) p]
    omega
theorem Dg.snoc {w : List Nat} {d : Nat} : Dg p (w ++ [d]) ↔ Dg p w ∧ d < p := by
  unfold Dg
  constructor
  · intro h
    exact ⟨fun x hx => h x (List.mem_append.mpr (.inl hx)), h d (List.mem_append.mpr (.inr (by simp)))⟩
  · rintro ⟨h, hd⟩ x hx
    rcases List.mem_append.mp hx with hx | hx
    · exact h x hx
    · have : x = d := by simpa using hx
      omega
theorem snoc_of : ∀ (w : List Nat), w ≠ [] → ∃ w' d, w = w' ++ [d] := fun w h => ⟨w.dropLast, w.getLast h, (List.dropLast_concat_getLast h).symm⟩
/-- a word of so many digits leads to s, and tells m -/
def Wd (p : Nat) (step : Nat → Nat → Nat) (L s m : Nat) : Prop := ∃ w : List Nat, w.length = L ∧ Dg p w ∧ runW step 0 w = s ∧ numW p w = m
/-- the shortest words, and the least number among them -/
structure LN (p : Nat) (step : Nat → Nat → Nat) (L s m : Nat) : Prop where
  wd : Wd p step L s m
  short : ∀ L' m', Wd p step L' s m' → L ≤ L'
  least : ∀ m', Wd p step L s m' → m ≤ m'
theorem LN.one {L s m L' m' : Nat} (h : LN p step L s m) (h' : LN p step L' s m') : L = L' ∧ m = m' := by
  have a := h.short _ _ h'.wd
  have b := h'.short _ _ h.wd
  obtain rfl : L = L' := Nat.le_antisymm a b
  exact ⟨rfl, Nat.le_antisymm (h.least _ h'.wd) (h'.least _ h.wd)⟩
theorem least_ex (P : Nat → Prop) : ∀ n, P n → ∃ m, P m ∧ ∀ k, P k → m ≤ k := by
  intro n
  induction n using Nat.strongRecOn with
  | _ n ih =>
    intro h
    by_cases z : ∃ k, k < n ∧ P k
    · obtain ⟨k, lt, hk⟩ := z
      exact ih k lt hk
    · exact ⟨n, h, fun k hk => Nat.le_of_not_lt fun lt => z ⟨k, lt, hk⟩⟩
theorem ln_ex {L s m : Nat} (h : Wd p step L s m) : ∃ L' m', L' ≤ L ∧ LN p step L' s m' := by
  obtain ⟨L', ⟨m1, h1⟩, hL⟩ := least_ex (fun L => ∃ m, Wd p step L s m) L ⟨m, h⟩
  obtain ⟨m', h2, hm⟩ := least_ex (fun m => Wd p step L' s m) m1 h1
  exact ⟨L', m', hL L ⟨m, h⟩, ⟨h2, fun L2 m2 x => hL L2 ⟨m2, x⟩, hm⟩⟩
theorem Wd.next {L s m d : Nat} (h : Wd p step L s m) (hd : d < p) : Wd p step (L + 1) (step s d) (m + d * p ^ L) := by
  obtain ⟨w, rfl, h2, rfl, rfl⟩ := h
  exact ⟨w ++ [d], by rw [List.length_append]; rfl, Dg.snoc.mpr ⟨h2, hd⟩, runW_app, numW_snoc w⟩
theorem Wd.back {L t v : Nat} (h : Wd p step (L + 1) t v) : ∃ s m d, Wd p step L s m ∧ d < p ∧ step s d = t ∧ v = m + d * p ^ L := by
  obtain ⟨w, h1, h2, h3, h4⟩ := h
  obtain ⟨w', d, rfl⟩ := snoc_of w fun e => by rw [e] at h1; cases h1
  rw [List.length_append] at h1
  have h1 : w'.length + 1 = L + 1 := h1
  have h1 : w'.length = L := by omega
  obtain ⟨g1, g2⟩ := Dg.snoc.mp h2
  rw [runW_app] at h3
  rw [numW_snoc, h1] at h4
  exact ⟨_, _, d, ⟨w', h1, g1, rfl, rfl⟩, g2, h3, h4.symm⟩
/-- what a level leads to -/
def Ev (p : Nat) (step : Nat → Nat → Nat) (k t v : Nat) : Prop := (¬ ∃ L m, L ≤ k ∧ LN p step L t m) ∧ ∃ s m d, LN p step k s m ∧ d < p ∧ step s d = t ∧ v = m + d * p ^ k
def MinE (E : Nat → Prop) (m : Nat) : Prop := E m ∧ ∀ m', E m' → m ≤ m'
theorem MinE.one {E : Nat → Prop} {m m' : Nat} (h : MinE E m) (h' : MinE E m') : m = m' := Nat.le_antisymm (h.2 _ h'.1) (h'.2 _ h.1)
/-- the word's last step comes from a state of the level ahead -/
theorem from_level {k t v : Nat} (n : ¬ ∃ L m, L ≤ k ∧ LN p step L t m) (h : Wd p step (k + 1) t v) : ∃ v', v' ≤ v ∧ Ev p step k t v' := by
  obtain ⟨s, m, d, h1, hd, h2, h3⟩ := h.back
  obtain ⟨L', m', hL, h4⟩ := ln_ex h1
  have : L' = k := by
    by_cases z : L' = k
    · exact z
    · have w := h4.wd.next hd
      rw [h2] at w
      obtain ⟨L2, m2, l2, h5⟩ := ln_ex w
      exact absurd ⟨L2, m2, by omega, h5⟩ n
  subst this
  refine ⟨m' + d * p ^ L', ?_, n, s, m', d, h4, hd, h2, rfl⟩
  have := h4.least _ h1
  omega
theorem level_next {k t v : Nat} : MinE (Ev p step k t) v ↔ LN p step (k + 1) t v := by
  constructor
  · rintro ⟨⟨n, s, m, d, h1, hd, h2, h3⟩, least⟩
    have w := h1.wd.next hd
    rw [h2, ← h3] at w
    refine ⟨w, fun L' m' h => ?_, fun m' h => ?_⟩
    · obtain ⟨L2, m2, l2, h5⟩ := ln_ex h
      by_cases z : L2 ≤ k
      · exact absurd ⟨L2, m2, z, h5⟩ n
      · omega
    · obtain ⟨v', l, e⟩ := from_level n h
      have := least _ e
      omega
  · intro h
    have n : ¬ ∃ L m, L ≤ k ∧ LN p step L t m := fun ⟨L, m, l, e⟩ => by
      have := (h.one e).1
      omega
    have up : ∀ v', Ev p step k t v' → v ≤ v' := fun v' ⟨_, s, m, d, h1, hd, h2, h3⟩ => by
      have w := h1.wd.next hd
      rw [h2, ← h3] at w
      exact h.least _ w
    obtain ⟨v', l, e⟩ := from_level n h.wd
    have := up _ e
    obtain rfl : v' = v := by omega
    exact ⟨e, up⟩
theorem ln_zero (h : LN p step 0 s m) : s = 0 ∧ m = 0 := by
  obtain ⟨w, h1, _, h2, h3⟩ := h.wd
  have : w = [] := List.length_eq_zero_iff.mp h1
  subst this
  exact ⟨h2.symm, h3.symm⟩
theorem ln_start : LN p step 0 0 0 := ⟨⟨[], rfl, fun _ h => (nomatch h), rfl, rfl⟩, fun _ _ _ => Nat.zero_le _, fun _ _ => Nat.zero_le _⟩
/-- behind an empty level there is none -/
theorem ln_end {k : Nat} (h : ∀ s m, ¬ LN p step k s m) : ∀ L s m, LN p step L s m → L < k := by
  have up : ∀ j, ∀ s m, ¬ LN p step (k + j) s m := by
    intro j
    induction j with
    | zero => exact h
    | succ j ih =>
      intro s m e
      obtain ⟨⟨_, s', m', d, e', _⟩, _⟩ := level_next.mpr e
      exact ih s' m' e'
  intro L s m e
  by_cases z : L < k
  · exact z
  · have := up (L - k) s m
    rw [show k + (L - k) = L by omega] at this
    exact absurd e this
/-! ### values -/
def Tell (p : Nat) (step : Nat → Nat → Nat) (val : Nat → Int) (v : Int) (m : Nat) : Prop := ∃ w : List Nat, Dg p w ∧ val (runW step 0 w) = v ∧ numW p w = m
/-- without zeros at the top -/
theorem strip (st : ∀ s, (∃ w, Dg p w ∧ runW step 0 w = s) → val s = val (step s 0)) : ∀ (k : Nat) (w : List Nat), w.length = k → Dg p w → ∃ w', Dg p w' ∧ numW p w' = numW p w ∧ val (runW step 0 w') = val (runW step 0 w) ∧ w'.length ≤ w.length ∧ (w' = [] ∨ ∃ u d, w' = u ++ [d] ∧ d ≠ 0)
  | 0, w, h, g => ⟨w, g, rfl, rfl, Nat.le_refl _, .inl (List.length_eq_zero_iff.mp h)⟩
  | k + 1, w, h, g => by
    obtain ⟨u, d, rfl⟩ := snoc_of w fun e => by rw [e] at h; cases h
    obtain ⟨g1, g2⟩ := Dg.snoc.mp g
    by_cases z : d = 0
    · subst z
      rw [List.length_append] at h
      obtain ⟨w', a, b, c, l, e⟩ := strip st k u (by have h : u.length + 1 = k + 1 := h; omega) g1
      refine ⟨w', a, by rw [b, numW_snoc, Nat.zero_mul, Nat.add_zero], by rw [c, runW_app]; exact st _ ⟨u, g1, rfl⟩, by rw [List.length_append]; show _ ≤ u.length + 1; omega, e⟩
    · exact ⟨_, g, rfl, rfl, Nat.le_refl _, .inr ⟨u, d, rfl, z⟩⟩
theorem top_ge {u : List Nat} {d : Nat} (h : d ≠ 0) : p ^ u.length ≤ numW p (u ++ [d]) := by
  rw [numW_snoc]
  have : 1 * p ^ u.length ≤ d * p ^ u.length := Nat.mul_le_mul_right _ (by omega)
  omega
/-- the least number with a value is the least of the states' numbers -/
theorem comes_least (p0 : 0 < p) (st : ∀ s, (∃ w, Dg p w ∧ runW step 0 w = s) → val s = val (step s 0)) {v : Int} {m : Nat} : MinE (fun m => ∃ s, val s = v ∧ ∃ L, LN p step L s m) m ↔ MinE (Tell p step val v) m := by
  have one : ∀ m, (∃ s, val s = v ∧ ∃ L, LN p step L s m) → Tell p step val v m := fun m ⟨s, e, L, h⟩ => by
    obtain ⟨w, _, h2, h3, h4⟩ := h.wd
    exact ⟨w, h2, by rw [h3, e], h4⟩
  have two : ∀ m, Tell p step val v m → ∃ m', m' ≤ m ∧ ∃ s, val s = v ∧ ∃ L, LN p step L s m' := fun m ⟨w, h1, h2, h3⟩ => by
    obtain ⟨w', a, b, c, _, e⟩ := strip st w.length w rfl h1
    obtain ⟨L, m', hL, h⟩ := ln_ex (p := p) (step := step) (L := w'.length) (s := runW step 0 w') (m := numW p w') ⟨w', rfl, a, rfl, rfl⟩
    refine ⟨m', ?_, _, by rw [c, h2], L, h⟩
    rw [← h3, ← b]
    by_cases z : L = w'.length
    · subst z
      exact h.least _ ⟨w', rfl, a, rfl, rfl⟩
    · obtain ⟨u, g1, g2, _, g4⟩ := h.wd
      have lt := numW_lt p0 u g2
      rw [g1, g4] at lt
      rcases e with rfl | ⟨u2, d, rfl, nz⟩
      · exact absurd (show L ≤ 0 from hL) (by intro q; exact z (by show L = 0; omega))
      · have ge := top_ge (p := p) (u := u2) nz
        rw [List.length_append] at hL z
        have hL : L ≤ u2.length + 1 := hL
        have z : L ≠ u2.length + 1 := z
        have : p ^ L ≤ p ^ u2.length := Nat.pow_le_pow_right p0 (by omega)
        omega
  constructor
  · rintro ⟨h, least⟩
    refine ⟨one m h, fun m' h' => ?_⟩
    obtain ⟨m2, l, e⟩ := two m' h'
    have := least _ e
    omega
  · rintro ⟨h, least⟩
    obtain ⟨m2, l, e⟩ := two m h
    have := least _ (one _ e)
    obtain rfl : m2 = m := by omega
    exact ⟨e, fun m' h' => least _ (one _ h')⟩
end
end B5

namespace K71
open PySem L2 Gd B5
abbrev sNb : Stmt := top 32
theorem scNb : FnScope ["_law_word", "_law_p", "_law_total", "_law_digit"] ["_law_word", "_law_p"] (defScope sNb) := ⟨rfl, rfl, rfl, by decide +kernel, rfl, by decide +kernel, by decide +kernel⟩
abbrev sLay : Stmt := top 40
abbrev NLay : List Str := ["_law_moves", "_law_many", "_law_found", "_law_lap", "_law_row", "_law_state"]
theorem scLay : FnScope NLay ["_law_moves", "_law_many"] (defScope sLay) := ⟨rfl, rfl, rfl, by decide +kernel, rfl, by decide +kernel, by decide +kernel⟩
def spNb (K : PySem.W.Frag) : Sp := fun vs H Q _ => ∃ (a : Addr) (w : List Nat) (p : Nat), vs = [.ref a, .int p] ∧ SqL K H a (w.map nV) ∧ p ≤ 7 ∧ w.length ≤ 1000 ∧ ∀ H', More H H' → Q (.int (numW p w : Nat)) H'
def LisN (H : Hp) (b : Addr) (l : List Nat) : Prop := H b = some (.lst (l.map nV))
/-- the states behind so many digits, ascending -/
structure LayN (p : Nat) (step : Nat → Nat → Nat) (i : Nat) (l : List Nat) : Prop where
  asc : l.Pairwise (· < ·)
  mem : ∀ s, s ∈ l ↔ ∃ w : List Nat, w.length = i ∧ Dg p w ∧ runW step 0 w = s
def spLay (K : PySem.W.Frag) : Sp := fun vs H Q _ => ∃ (M : Addr) (rs : List V) (m p : Nat) (dss : List (List Int)) (ws : List Int), vs = [.ref M, .int m] ∧ H M = some (.tup rs) ∧ Paired (TupI K H) rs dss ∧ MGood p dss ws ∧ dss.length ≤ 30 ∧ m ≤ 60 ∧
  ∀ (H' : Hp) (L : Addr) (as : List Addr) (ls : List (List Nat)), More H H' → H' L = some (.lst (as.map V.ref)) → Paired (LisN H') as ls → ls.length = m + 1 → (∀ i l, ls[i]? = some l → LayN p (stepT dss) i l) → Q (.ref L) H'
section
variable {P : Program} {w : World} {K : PySem.W.Frag} {mg : Str → Option Value} {base : Heap} {f : Addr} {fd : FuncData}
theorem ok_nb (F : Fun K "_law_number" "_law_number" sNb f fd) : FnOk P w K mg base CX0 1 f fd ["_law_word", "_law_p"] (spNb K) := by
  refine F.ok scNb (fun vs H Q E h => ?_) (fun cdv A outer s H vs Q E hr h => ?_)
  · obtain ⟨a, w, p, rfl, _⟩ := h
    rfl
  · obtain ⟨a, w, p, rfl, sq, p7, few, q⟩ := h
    refine ⟨_, pss_cons (ps_set (i := 2) scNb.nd rfl (Or.inl rfl) pe_int)
      (pss_cons (ps_for PassesOwn.never rfl (pi_list (pe_revL (pv 0))) (pg_name (i := 3) scNb.nd rfl (Or.inl rfl))
        (pss_one (ps_set (i := 2) scNb.nd rfl (Or.inl rfl) (pe_op op_add (pe_op op_mul (pv 2) (pv 1)) (pv 3)))))
      (pss_one (ps_ret (pv 2)))), ?_⟩
    refine ⟨_, rfl, a, _, rfl, sq, fun r hr' => ?_⟩
    have m := new_more (o := .lst (w.map nV).reverse) hr'
    have kr : (upd H r (.lst (w.map nV).reverse)) r = some (.lst (w.map nV).reverse) := upd_same
    generalize upd H r (.lst (w.map nV).reverse) = H1 at m kr ⊢
    refine ⟨r, rfl, ⟨_, SqL.of kr⟩, for_list (K := K) (a := r) (xs := (w.map nV).reverse) (fun i σ' H' => ∃ z3, σ' = [some (.ref a), some (.int p), some (.int (numW p (w.drop (w.length - i)) : Nat)), z3] ∧ H' = H1) ⟨none, ?_, rfl⟩ (fun i σ' H' _ ⟨_, _, e⟩ => by rw [e]; exact SqL.of kr) ?_ ?_⟩
    · rw [Nat.sub_zero, List.drop_length]
      rfl
    · rintro i y σ' G hy ⟨z3, rfl, rfl⟩
      have li : i < w.length := by
        have := (List.getElem?_eq_some_iff.mp hy).1
        rw [List.length_reverse, List.length_map] at this
        exact this
      rw [List.getElem?_reverse (by rw [List.length_map]; exact li), List.length_map] at hy
      obtain ⟨d, hd, rfl⟩ := map_at hy
      refine ⟨_, rfl, _, rfl, _, _, rfl, rfl, .inr ⟨by omega, by omega⟩, _, rfl, _, _, rfl, rfl, ?_⟩
      have e : w.drop (w.length - (i + 1)) = d :: w.drop (w.length - i) := by
        have := List.drop_eq_getElem_cons (l := w) (i := w.length - 1 - i) (by omega)
        rw [show w.length - (i + 1) = w.length - 1 - i by omega, this]
        rw [show w.length - 1 - i + 1 = w.length - i by omega]
        rw [(List.getElem?_eq_some_iff.mp hd).2]
      refine ⟨some (nV d), ?_, rfl⟩
      rw [e]
      show _ = [some (V.ref a), some (.int p), some (.int ((d + p * numW p (w.drop (w.length - i)) : Nat) : Int)), some (nV d)]
      have e2 : ((numW p (w.drop (w.length - i)) : Nat) : Int) * ((p : Nat) : Int) + ((d : Nat) : Int) = ((d + p * numW p (w.drop (w.length - i)) : Nat) : Int) := by
        rw [Int.natCast_add, Int.natCast_mul, Int.add_comm, Int.mul_comm]
      rw [← e2]
      rfl
    · rintro σ' G ⟨z3, rfl, rfl⟩
      rw [List.length_reverse, List.length_map, Nat.sub_self, List.drop_zero]
      exact ⟨_, rfl, q _ m⟩
theorem ok_lay (F : Fun K "_law_layers" "_law_layers" sLay f fd) (B : Blt mg) (zSorted : mg "sorted" = none) (zSet : mg "set" = none) : FnOk P w K mg base CX0 1 f fd ["_law_moves", "_law_many"] (spLay K) := by
  refine F.ok scLay (fun vs H Q E h => ?_) (fun cdv A outer s H vs Q E hr h => ?_)
  · obtain ⟨M, rs, m, p, dss, ws, rfl, _⟩ := h
    rfl
  · obtain ⟨M, rs, m, p, dss, ws, rfl, hM, rows, g, few, m60, q⟩ := h
    refine ⟨_, pss_cons (ps_set (i := 2) scLay.nd rfl (Or.inl rfl) (pe_lst (pa_cons (pe_lst (pa_cons pe_int pa_nil)) pa_nil)))
      (pss_cons (ps_for PassesOwn.never rfl (pi_range1 (by rfl) B.range_ (pa_cons (pv 1) pa_nil)) (pg_name (i := 3) scLay.nd rfl (Or.inl rfl))
        (pss_cons (ps_set (i := 4) scLay.nd rfl (Or.inl rfl) (pe_lst pa_nil))
        (pss_cons (ps_for PassesOwn.never rfl (pi_list (pe_ix ix_list (pv 2) (pe_un un_neg pe_int) (fun _ _ => rfl))) (pg_name (i := 5) scLay.nd rfl (Or.inl rfl))
          (pss_one (ps_set (i := 4) scLay.nd rfl (Or.inl rfl) (pe_op op_cat (pv 4) (pe_callTy call_list_of (by rfl) B.list_ (by decide +kernel) (pa_cons (pe_ix ix_tup (pv 0) (pv 5) (fun _ _ => rfl)) pa_nil))))))
        (pss_one (ps_expr (pe_bm PySem.F.plainAttrs_list PySem.F.slot_list_append PySem.F.type_list_append mt_append (pv 2) (pa_cons (pe_callB (cr_sortedSet rfl) (by rfl) zSorted (by decide +kernel) (pa_cons (pe_callTy (cr_setL rfl) (by rfl) zSet (by decide +kernel) (pa_cons (pv 4) pa_nil)) pa_nil)) pa_nil)))))))
      (pss_one (ps_ret (pv 2)))), ?_⟩
    obtain ⟨n, hn⟩ : ∃ n, n = dss.length := ⟨_, rfl⟩
    have n0 : 0 < n := hn ▸ List.length_pos_iff.mpr g.ne
    obtain ⟨p2, p7⟩ := isPr_small g.pr
    have cl : ∀ s d, s < n → d < p → stepT dss s d < n := by rw [hn]; exact good_cl g
    refine ⟨by show 1 ≤ sizeLine; decide, fun l0 hl0 => ⟨by show 1 ≤ sizeLine; decide, fun L hL => ?_⟩⟩
    have m1 := new_more (o := .lst [V.int 0]) hl0
    have m2 := new_more (o := .lst [V.ref l0]) hL
    have k0 : (upd (upd H l0 (.lst [V.int 0])) L (.lst [V.ref l0])) l0 = some (.lst (([0] : List Nat).map nV)) := m2 _ _ upd_same
    have kL : (upd (upd H l0 (.lst [V.int 0])) L (.lst [V.ref l0])) L = some (.lst ([l0].map V.ref)) := upd_same
    have m02 : More H (upd (upd H l0 (.lst [V.int 0])) L (.lst [V.ref l0])) := fun b o e => m2 _ _ (m1 _ _ e)
    have hL0 : H L = none := m1.off hL
    have l0L : l0 ≠ L := ne_of_none (upd_same (a := l0) (o := .lst [V.int 0]) (H := H)) hL
    have h00 : H l0 = none := hl0
    generalize upd (upd H l0 (.lst [V.int 0])) L (.lst [V.ref l0]) = H2 at k0 kL m02 ⊢
    clear m1 m2 hl0 hL
    have start : LayN p (stepT dss) 0 [0] := ⟨by simp, fun s => by
      constructor
      · intro h
        have : s = 0 := by simpa using h
        subst this
        exact ⟨[], rfl, fun _ h => (nomatch h), rfl⟩
      · rintro ⟨w, h1, _, h2⟩
        have : w = [] := List.length_eq_zero_iff.mp h1
        subst this
        rw [← h2]
        exact List.mem_singleton.mpr rfl⟩
    have lb : ∀ i l, LayN p (stepT dss) i l → ∀ s ∈ l, s < n := fun i l h s hs => by
      obtain ⟨w, _, hw, e⟩ := (h.mem s).mp hs
      have key : ∀ (w : List Nat) (s : Nat), s < n → Dg p w → runW (stepT dss) s w < n := by
        intro w
        induction w with
        | nil => intro s hs _; exact hs
        | cons d w ih => intro s hs g; exact ih _ (cl s d hs (g d (.head _))) fun x hx => g x (.tail _ hx)
      rw [← e]
      exact key w 0 n0 hw
    have ll : ∀ i l, LayN p (stepT dss) i l → l.length ≤ n := fun i l h => nodup_below n l (List.Pairwise.imp (fun {a b} h e => by omega) h.asc) (lb i l h)
    refine ⟨_, rfl, _, rfl, by omega, by omega, for_range (lo := 0) (n := m) (fun i σ' H' => ∃ (z3 z4 z5 : Option V) (as : List Addr) (ls : List (List Nat)), σ' = [some (.ref M), some (.int m), some (.ref L), z3, z4, z5] ∧ H' L = some (.lst (as.map V.ref)) ∧ Paired (fun (b : Addr) (l : List Nat) => LisN H' b l ∧ b ≠ L) as ls ∧ ls.length = i + 1 ∧ (∀ j l, ls[j]? = some l → LayN p (stepT dss) j l) ∧ More H H')
      ⟨none, none, none, [l0], [[0]], rfl, kL, .cons ⟨k0, l0L⟩ .nil, rfl, fun j l h => ?_, m02⟩ ?_ ?_⟩
    · cases j with
      | zero => cases h; exact start
      | succ j => cases h
    · rintro i σ' G hi ⟨z3, z4, z5, as, ls, rfl, kL, pas, lls, lay, mG⟩
      have las : as.length = i + 1 := by rw [Paired.length pas, lls]
      refine ⟨by show 0 ≤ sizeLine; exact Nat.zero_le _, fun r0 hr0 => ?_⟩
      have mr := new_more (o := .lst []) hr0
      have kr : (upd G r0 (.lst [])) r0 = some (.lst (([] : List Nat).map nV)) := upd_same
      have kL1 := mr _ _ kL
      have pas1 := paired_imp (S := fun (b : Addr) (l : List Nat) => LisN (upd G r0 (.lst [])) b l ∧ b ≠ L) (fun b l (e : LisN G b l ∧ b ≠ L) => ⟨mr _ _ e.1, e.2⟩) pas
      have mG1 : More H (upd G r0 (.lst [])) := fun b o e => mr _ _ (mG _ _ e)
      generalize upd G r0 (.lst []) = G1 at kr kL1 pas1 mG1 ⊢
      clear mr hr0 kL pas mG
      obtain ⟨bl, hbl⟩ : ∃ bl, as[i]? = some bl := ⟨as[i]'(by omega), List.getElem?_eq_getElem (by omega)⟩
      obtain ⟨l, el, kb, bL⟩ := paired_at pas1 hbl
      have kb : G1 bl = some (.lst (l.map nV)) := kb
      have lay1 := lay i l el
      have at1 : atI (as.map V.ref) (-1) = some (V.ref bl) := by
        unfold atI ixN
        rw [if_neg (by omega), if_pos (by rw [List.length_map]; omega), List.length_map, las]
        show (as.map V.ref)[(-1 + ((i + 1 : Nat) : Int)).toNat]? = _
        rw [show (-1 + ((i + 1 : Nat) : Int)).toNat = i by omega]
        exact at_map hbl
      refine ⟨_, rfl, 1, rfl, L, _, -1, _, rfl, rfl, SqL.of kL1, at1, bl, rfl, ⟨_, SqL.of kb⟩, for_list (K := K) (a := bl) (xs := l.map nV) (fun j σ' H' => ∃ (z5 : Option V) (r : Addr), σ' = [some (.ref M), some (.int m), some (.ref L), some (.int i), some (.ref r), z5] ∧ H' r = some (.lst (((l.take j).flatMap (leadS p (stepT dss))).map nV)) ∧ More G1 H')
        ⟨z5, r0, by rw [Int.zero_add]; rfl, kr, fun _ _ e => e⟩ (fun j σ' H' _ ⟨_, _, _, _, m⟩ => SqL.of (m _ _ kb)) ?_ ?_⟩
      · rintro j y σ' G2 hy ⟨z5, r, rfl, kr, m⟩
        obtain ⟨s, hs, rfl⟩ := map_at hy
        have sn := lb i l lay1 s (List.mem_of_getElem? hs)
        have rows2 := paired_imp (fun v k (r : TupI K H v k) => r.more fun b o e => m _ _ (mG1 _ _ e)) rows
        obtain ⟨b, row, hb, sb, erow, lrow, brow⟩ := tup_row rows2 g (s := s) (by omega)
        refine ⟨_, rfl, _, rfl, _, rfl, M, rs, ((s : Nat) : Int), _, rfl, rfl, SqT.of (m _ _ (mG1 _ _ hM)), atI_nat hb, b, _, rfl, .inr sb, fun q0 hq0 => ?_⟩
        have mq := new_more (o := .lst (row.map nV)) hq0
        have kq : (upd G2 q0 (.lst (row.map nV))) q0 = some (.lst (row.map nV)) := upd_same
        have kr2 := mq _ _ kr
        have lt : (l.take j).length ≤ n := by rw [List.length_take]; have := ll i l lay1; omega
        have lf : ((l.take j).flatMap (leadS p (stepT dss))).length ≤ n * p := by
          have : ∀ t : List Nat, (t.flatMap (leadS p (stepT dss))).length = t.length * p := by
            intro t
            induction t with
            | nil => simp
            | cons x t ih => rw [List.flatMap_cons, List.length_append, ih, leadS_len, List.length_cons, Nat.add_mul, Nat.one_mul, Nat.add_comm]
          rw [this]
          exact Nat.mul_le_mul_right p lt
        have lf2 : n * p ≤ 30 * 7 := Nat.mul_le_mul (by omega) (by omega)
        refine ⟨r, q0, _, _, rfl, rfl, kr2, kq, by rw [List.length_map, List.length_map]; exact Nat.le_of_lt (small1000 (by omega)), fun r2 hr2 => ?_⟩
        have mr2 := new_more (o := .lst (((l.take j).flatMap (leadS p (stepT dss))).map nV ++ row.map nV)) hr2
        refine ⟨_, r2, rfl, ?_, fun b o e => mr2 _ _ (mq _ _ (m _ _ e))⟩
        rw [upd_same, take_snoc hs, List.flatMap_append, List.flatMap_cons, List.flatMap_nil, List.append_nil, List.map_append, erow]
      · rintro σ' G2 ⟨z5, r, rfl, kr, m⟩
        rw [List.length_map, List.take_length] at kr
        have kL2 := m _ _ kL1
        have fm : ∀ x, x ∈ l.flatMap (leadS p (stepT dss)) ↔ ∃ w : List Nat, w.length = i + 1 ∧ Dg p w ∧ runW (stepT dss) 0 w = x := fun x => by
          rw [List.mem_flatMap]
          constructor
          · rintro ⟨s, hs, hx⟩
            obtain ⟨d, hd, rfl⟩ := leadS_mem hx
            obtain ⟨w, e1, e2, rfl⟩ := (lay1.mem s).mp hs
            exact ⟨w ++ [d], by rw [List.length_append, e1]; rfl, Dg.snoc.mpr ⟨e2, hd⟩, runW_app⟩
          · rintro ⟨w, e1, e2, rfl⟩
            obtain ⟨u, d, rfl⟩ := snoc_of w fun e => by rw [e] at e1; cases e1
            obtain ⟨g1, g2⟩ := Dg.snoc.mp e2
            rw [List.length_append] at e1
            refine ⟨runW (stepT dss) 0 u, (lay1.mem _).mpr ⟨u, by have e1 : u.length + 1 = i + 1 := e1; omega, g1, rfl⟩, ?_⟩
            rw [runW_app]
            exact List.mem_map.mpr ⟨d, List.mem_range.mpr g2, rfl⟩
        have lf : (l.flatMap (leadS p (stepT dss))).length ≤ 1000 := by
          have : ∀ t : List Nat, (t.flatMap (leadS p (stepT dss))).length = t.length * p := by
            intro t
            induction t with
            | nil => simp
            | cons x t ih => rw [List.flatMap_cons, List.length_append, ih, leadS_len, List.length_cons, Nat.add_mul, Nat.one_mul, Nat.add_comm]
          rw [this]
          have : l.length * p ≤ 30 * 7 := Nat.mul_le_mul (by have := ll i l lay1; omega) (by omega)
          omega
        obtain ⟨fl, hfl⟩ : ∃ fl, fl = l.flatMap (leadS p (stepT dss)) := ⟨_, rfl⟩
        rw [← hfl] at kr fm lf
        have kr' : G2 r = some (.lst ((fl.map fun x => ((x : Nat) : Int)).map V.int)) := by rw [kr, List.map_map]; rfl
        have flb : ∀ x ∈ fl, x < n := fun x hx => by
          obtain ⟨w, e1, e2, e3⟩ := (fm x).mp hx
          rw [← e3]
          have key : ∀ (w : List Nat) (s : Nat), s < n → Dg p w → runW (stepT dss) s w < n := by
            intro w
            induction w with
            | nil => intro s hs _; exact hs
            | cons d w ih => intro s hs g; exact ih _ (cl s d hs (g d (.head _))) fun x hx => g x (.tail _ hx)
          exact key w 0 n0 e2
        refine ⟨_, rfl, .inl ⟨rfl, _, SqL.of kL2⟩, _, rfl, r, _, rfl, SqL.of kr', by rw [List.length_map]; exact lf, fun ps cnt' hps le => ?_⟩
        have c30 : cnt' ≤ 30 := by
          have := le ((List.range n).map fun x => ((x : Nat) : Int)) fun x hx => by
            obtain ⟨y, hy, rfl⟩ := List.mem_map.mp hx
            exact List.mem_map.mpr ⟨y, List.mem_range.mpr (flb y hy), rfl⟩
          rw [List.length_map, List.length_range] at this
          omega
        refine ⟨ps, _, cnt', rfl, upd_same, by omega, fun ns bs asc mem len hbs => ?_⟩
        have mps := new_more (o := SetO (cxOf CX0 P w K mg base NLay "_law_layers" (defScope sLay) f cdv A outer s H E).nox.w ps (fun j => decide (j ∈ fl.map fun x => ((x : Nat) : Int))) cnt') hps
        have mbs := new_more (o := .lst (ns.map V.int)) hbs
        have kL3 := mbs _ _ (mps _ _ kL2)
        have kb3 : (upd (upd G2 ps (SetO (cxOf CX0 P w K mg base NLay "_law_layers" (defScope sLay) f cdv A outer s H E).nox.w ps (fun j => decide (j ∈ fl.map fun x => ((x : Nat) : Int))) cnt')) bs (.lst (ns.map V.int))) bs = some (.lst (ns.map V.int)) := upd_same
        have m3 : More G1 (upd (upd G2 ps (SetO (cxOf CX0 P w K mg base NLay "_law_layers" (defScope sLay) f cdv A outer s H E).nox.w ps (fun j => decide (j ∈ fl.map fun x => ((x : Nat) : Int))) cnt')) bs (.lst (ns.map V.int))) := fun b o e => mbs _ _ (mps _ _ (m _ _ e))
        generalize upd (upd G2 ps (SetO (cxOf CX0 P w K mg base NLay "_law_layers" (defScope sLay) f cdv A outer s H E).nox.w ps (fun j => decide (j ∈ fl.map fun x => ((x : Nat) : Int))) cnt')) bs (.lst (ns.map V.int)) = G3 at kL3 kb3 m3 ⊢
        have bsL : bs ≠ L := fun e => by
          rw [e] at hbs
          have := mps _ _ kL2
          rw [hbs] at this
          cases this
        have pos : ∀ x ∈ ns, 0 ≤ x ∧ ∃ y : Nat, x = y ∧ y ∈ fl := fun x hx => by
          have := of_decide_eq_true ((mem x).mp hx)
          obtain ⟨y, hy, rfl⟩ := List.mem_map.mp this
          exact ⟨by omega, y, rfl, hy⟩
        have en : ns = (ns.map Int.toNat).map fun x => ((x : Nat) : Int) := by
          rw [List.map_map]
          conv => lhs; rw [← List.map_id ns]
          refine List.map_congr_left fun x hx => ?_
          show x = ((x.toNat : Nat) : Int)
          rw [Int.toNat_of_nonneg (pos x hx).1]
        have kb4 : G3 bs = some (.lst ((ns.map Int.toNat).map nV)) := by
          rw [kb3]
          conv => lhs; rw [en]
          rw [List.map_map]
          rfl
        have lay2 : LayN p (stepT dss) (i + 1) (ns.map Int.toNat) := by
          refine ⟨?_, fun s => ?_⟩
          · rw [List.pairwise_map]
            refine List.Pairwise.imp_of_mem (fun {x y} hx hy h => ?_) asc
            have := (pos x hx).1
            omega
          · rw [← fm]
            constructor
            · intro h
              obtain ⟨x, hx, rfl⟩ := List.mem_map.mp h
              obtain ⟨_, y, e, hy⟩ := pos x hx
              rw [e]
              exact hy
            · intro h
              refine List.mem_map.mpr ⟨(s : Int), (mem _).mpr (decide_eq_true (List.mem_map.mpr ⟨s, h, rfl⟩)), by omega⟩
        refine ⟨L, _, _, rfl, rfl, kL3, by rw [List.length_map]; exact small1000 (by omega), ?_⟩
        refine ⟨_, _, _, as ++ [bs], ls ++ [ns.map Int.toNat], rfl, ?_, ?_, by rw [List.length_append, lls]; rfl, fun j l' hj => ?_, More.at (fun b o e => m3 _ _ (mG1 _ _ e)) hL0⟩
        · rw [upd_same, List.map_append]
          rfl
        · refine paired_snoc (R := fun (b : Addr) (l : List Nat) => LisN _ b l ∧ b ≠ L) ⟨(upd_ne bsL).trans kb4, bsL⟩ (paired_imp (S := fun (b : Addr) (l : List Nat) => LisN _ b l ∧ b ≠ L) (fun b l (e : LisN G1 b l ∧ b ≠ L) => ⟨(upd_ne e.2).trans (m3 _ _ e.1), e.2⟩) pas1)
        · by_cases z : j < i + 1
          · rw [List.getElem?_append_left (by omega)] at hj
            exact lay j l' hj
          · have lj := (List.getElem?_eq_some_iff.mp hj).1
            rw [List.length_append, lls] at lj
            have lj : j < i + 1 + 1 := lj
            obtain rfl : j = i + 1 := by omega
            rw [List.getElem?_append_right (by omega), lls, Nat.sub_self] at hj
            cases hj
            exact lay2
    · rintro σ' G ⟨z3, z4, z5, as, ls, rfl, kL, pas, lls, lay, mG⟩
      exact ⟨_, rfl, q G L as ls mG kL (paired_imp (fun b l e => e.1) pas) lls lay⟩
end
end K71

/-! Bst: the least number of just so many digits, digit by digit from above. -/
namespace B5
section
variable {p N : Nat} {step : Nat → Nat → Nat} {A : Nat → Prop}
/-- a word of so many digits, no 0 at its top, that leads to A -/
structure Cand (p : Nat) (step : Nat → Nat → Nat) (A : Nat → Prop) (N : Nat) (w : List Nat) : Prop where
  len : w.length = N
  dg : Dg p w
  top : w = [] ∨ ∃ u d, w = u ++ [d] ∧ d ≠ 0
  leads : A (runW step 0 w)
def Bst (p : Nat) (step : Nat → Nat → Nat) (A : Nat → Prop) (N : Nat) (r : Option Nat) : Prop := (r = none ∧ ∀ w, ¬ Cand p step A N w) ∨ ∃ w, r = some (numW p w) ∧ Cand p step A N w ∧ ∀ w', Cand p step A N w' → numW p w ≤ numW p w'
theorem runW_cat {s : Nat} {u v : List Nat} : runW step s (u ++ v) = runW step (runW step s u) v := by
  unfold runW
  rw [List.foldl_append]
/-- i digits from above are chosen -/
structure Chosen (p : Nat) (step : Nat → Nat → Nat) (A : Nat → Prop) (N i : Nat) (wd : List Nat) (Wi : Nat → Prop) : Prop where
  len : wd.length = i
  dg : Dg p wd
  top : wd = [] ∨ ∃ u d, wd = u ++ [d] ∧ d ≠ 0
  mem : ∀ s, (∃ w : List Nat, w.length = N - i ∧ Dg p w ∧ runW step 0 w = s) → (Wi s ↔ A (runW step s wd))
  some_ : 0 < i → ∃ s, Wi s ∧ ∃ w : List Nat, w.length = N - i ∧ Dg p w ∧ runW step 0 w = s
  least : ∀ w, Cand p step A N w → numW p wd < numW p (w.drop (N - i)) ∨ w.drop (N - i) = wd
theorem chosen_start : Chosen p step A N 0 [] A where
  len := rfl
  dg := fun _ h => nomatch h
  top := .inl rfl
  mem := fun s _ => Iff.rfl
  some_ := fun h => absurd h (Nat.lt_irrefl 0)
  least := fun w h => .inr (List.drop_eq_nil_of_le (by rw [h.len]; omega))
theorem numW_cons_lt {d d' : Nat} {u v : List Nat} (hd : d < p) (h : numW p u < numW p v) : numW p (d :: u) < numW p (d' :: v) := by
  show d + p * numW p u < d' + p * numW p v
  have : p * (numW p u + 1) ≤ p * numW p v := Nat.mul_le_mul_left p h
  rw [Nat.mul_add] at this
  omega
theorem Cand.digit {i : Nat} {w : List Nat} (h : Cand p step A N w) (hi : i < N) : ∃ d, w.drop (N - (i + 1)) = d :: w.drop (N - i) ∧ d < p ∧ (i = 0 → d ≠ 0) ∧ w.take (N - i) = w.take (N - (i + 1)) ++ [d] := by
  have lt : N - (i + 1) < w.length := by rw [h.len]; omega
  refine ⟨w[N - (i + 1)], ?_, h.dg _ (List.getElem_mem lt), fun i0 => ?_, ?_⟩
  · rw [List.drop_eq_getElem_cons lt, show N - (i + 1) + 1 = N - i by omega]
  · subst i0
    rcases h.top with e | ⟨u, d, rfl, nz⟩
    · have := h.len
      rw [e] at this
      have : 0 = N := this
      omega
    · have l := h.len
      rw [List.length_append] at l
      have l : u.length + 1 = N := l
      have e : (u ++ [d])[N - (0 + 1)]? = some d := by
        rw [List.getElem?_append_right (by omega), show N - (0 + 1) - u.length = 0 by omega]
        rfl
      have e2 := List.getElem?_eq_getElem lt
      rw [e] at e2
      rw [← Option.some.inj e2]
      exact nz
  · rw [show N - i = N - (i + 1) + 1 by omega, List.take_succ_eq_append_getElem lt]
/-- the next digit: the least that fits -/
theorem Chosen.next {i d lo : Nat} {wd : List Nat} {Wi Wj : Nat → Prop} (c : Chosen p step A N i wd Wi) (hi : i < N) (hlo : lo = if i = 0 then 1 else 0) (hd : d < p) (lod : lo ≤ d)
    (hW : ∀ s, (∃ w : List Nat, w.length = N - (i + 1) ∧ Dg p w ∧ runW step 0 w = s) → (Wj s ↔ Wi (step s d))) (ne : ∃ s, Wj s ∧ ∃ w : List Nat, w.length = N - (i + 1) ∧ Dg p w ∧ runW step 0 w = s)
    (no : ∀ e, lo ≤ e → e < d → ∀ s, (∃ w : List Nat, w.length = N - (i + 1) ∧ Dg p w ∧ runW step 0 w = s) → ¬ Wi (step s e)) : Chosen p step A N (i + 1) (d :: wd) Wj where
  len := by rw [List.length_cons, c.len]
  dg := fun x hx => by
    rcases List.mem_cons.mp hx with rfl | hx
    · exact hd
    · exact c.dg x hx
  top := .inr (by
    rcases c.top with rfl | ⟨u, e, rfl, nz⟩
    · have : i = 0 := c.len.symm
      rw [if_pos this] at hlo
      exact ⟨[], d, rfl, by omega⟩
    · exact ⟨d :: u, e, rfl, nz⟩)
  mem := fun s hs => by
    rw [hW s hs]
    obtain ⟨w, e1, e2, rfl⟩ := hs
    exact c.mem _ ⟨w ++ [d], by rw [List.length_append, e1]; show N - (i + 1) + 1 = _; omega, Dg.snoc.mpr ⟨e2, hd⟩, runW_app⟩
  some_ := fun _ => ne
  least := fun w h => by
    obtain ⟨e, e1, e2, e3, e4⟩ := h.digit hi
    rw [e1]
    rcases c.least w h with lt | eq
    · exact .inl (numW_cons_lt hd lt)
    · rw [eq]
      have le : d ≤ e := by
        by_cases z : d ≤ e
        · exact z
        · refine absurd ?_ (no e ?_ (by omega) (runW step 0 (w.take (N - (i + 1)))) ⟨w.take (N - (i + 1)), by rw [List.length_take, h.len]; omega, fun x hx => h.dg x (List.mem_of_mem_take hx), rfl⟩)
          · have hm := c.mem (runW step 0 (w.take (N - i))) ⟨w.take (N - i), by rw [List.length_take, h.len]; omega, fun x hx => h.dg x (List.mem_of_mem_take hx), rfl⟩
            rw [e4, runW_app] at hm
            refine hm.mpr ?_
            have := h.leads
            rw [← List.take_append_drop (N - i) w, eq, e4, runW_cat, runW_app] at this
            exact this
          · rw [hlo]
            split
            · have := e3 (by assumption)
              omega
            · omega
      by_cases z : d = e
      · subst z; exact .inr rfl
      · refine .inl ?_
        show d + p * numW p wd < e + p * numW p wd
        omega
/-- no digit fits: there is none -/
theorem Chosen.stuck {i lo : Nat} {wd : List Nat} {Wi : Nat → Prop} (c : Chosen p step A N i wd Wi) (hi : i < N) (hlo : lo = if i = 0 then 1 else 0)
    (no : ∀ e, lo ≤ e → e < p → ∀ s, (∃ w : List Nat, w.length = N - (i + 1) ∧ Dg p w ∧ runW step 0 w = s) → ¬ Wi (step s e)) : ∀ w, ¬ Cand p step A N w := fun w h => by
  by_cases z : i = 0
  · subst z
    obtain ⟨e, e1, e2, e3, e4⟩ := h.digit hi
    refine no e (by rw [hlo, if_pos rfl]; have := e3 rfl; omega) e2 (runW step 0 (w.take (N - (0 + 1)))) ⟨w.take (N - (0 + 1)), by rw [List.length_take, h.len]; omega, fun x hx => h.dg x (List.mem_of_mem_take hx), rfl⟩ ?_
    have hm := c.mem (runW step 0 (w.take (N - 0))) ⟨w.take (N - 0), by rw [List.length_take, h.len]; omega, fun x hx => h.dg x (List.mem_of_mem_take hx), rfl⟩
    rw [e4, runW_app] at hm
    have ew : wd = [] := List.length_eq_zero_iff.mp c.len
    refine hm.mpr ?_
    rw [ew]
    have := h.leads
    rw [← List.take_append_drop (N - 0) w, List.drop_eq_nil_of_le (by rw [h.len]; omega), List.append_nil, e4, runW_app] at this
    exact this
  · obtain ⟨s, hs, w2, e1, e2, e3⟩ := c.some_ (by omega)
    obtain ⟨u, d, rfl⟩ := snoc_of w2 fun e => by rw [e] at e1; have e1 : 0 = N - i := e1; omega
    obtain ⟨g1, g2⟩ := Dg.snoc.mp e2
    rw [List.length_append] at e1
    have e1 : u.length + 1 = N - i := e1
    rw [runW_app] at e3
    refine no d (by rw [hlo, if_neg z]; omega) g2 (runW step 0 u) ⟨u, by omega, g1, rfl⟩ ?_
    rw [e3]
    exact hs
/-- all digits are chosen -/
theorem Chosen.done {wd : List Nat} {Wi : Nat → Prop} (c : Chosen p step A N N wd Wi) (n0 : 0 < N) : Bst p step A N (some (numW p wd)) := by
  obtain ⟨s, hs, w, e1, _, e3⟩ := c.some_ n0
  have : w = [] := List.length_eq_zero_iff.mp (by omega)
  subst this
  have e3 : 0 = s := e3
  subst e3
  refine .inr ⟨wd, rfl, ⟨c.len, c.dg, c.top, (c.mem 0 ⟨[], by show 0 = N - N; omega, fun _ h => (nomatch h), rfl⟩).mp hs⟩, fun w' h => ?_⟩
  rcases c.least w' h with lt | eq
  · rw [show N - N = 0 by omega, List.drop_zero] at lt
    omega
  · rw [show N - N = 0 by omega, List.drop_zero] at eq
    rw [eq]
    exact Nat.le_refl _
theorem bst_zero {b : Bool} (h : b = true ↔ A 0) : Bst p step A 0 (if b = true then some 0 else none) := by
  by_cases z : b = true
  · rw [if_pos z]
    exact .inr ⟨[], rfl, ⟨rfl, fun _ h => (nomatch h), .inl rfl, h.mp z⟩, fun w' _ => Nat.zero_le _⟩
  · rw [if_neg z]
    refine .inl ⟨rfl, fun w hw => z (h.mpr ?_)⟩
    have : w = [] := List.length_eq_zero_iff.mp hw.len
    have := hw.leads
    subst_vars
    exact this
/-- the first number of digits at which there is one tells the least -/
theorem first_least (p0 : 0 < p) {val : Nat → Int} {v : Int} (st : ∀ s, (∃ w, Dg p w ∧ runW step 0 w = s) → val s = val (step s 0)) {k m M : Nat} (hk : k ≤ M) (b : Bst p step (fun s => val s = v) k (some m)) (no : ∀ j, j < k → Bst p step (fun s => val s = v) j none) : MinE (Tell p step val v) m := by
  rcases b with ⟨z, _⟩ | ⟨w, e, c, least⟩
  · cases z
  obtain rfl : m = numW p w := Option.some.inj e
  refine ⟨⟨w, c.dg, c.leads, rfl⟩, fun m' ⟨u, h1, h2, h3⟩ => ?_⟩
  obtain ⟨w', a1, a2, a3, _, a5⟩ := strip st u.length u rfl h1
  have cw : Cand p step (fun s => val s = v) w'.length w' := ⟨rfl, a1, a5, by show val _ = v; rw [a3, h2]⟩
  rw [← h3, ← a2]
  by_cases z : w'.length < k
  · rcases no _ z with ⟨_, h⟩ | ⟨_, h, _⟩
    · exact absurd cw (h _)
    · cases h
  · by_cases z2 : w'.length = k
    · exact least w' (z2 ▸ cw)
    · have lt := numW_lt p0 w c.dg
      rw [c.len] at lt
      rcases a5 with rfl | ⟨u2, d, rfl, nz⟩
      · exact absurd (show ([] : List Nat).length = 0 from rfl) (by omega)
      · have ge := top_ge (p := p) (u := u2) nz
        rw [List.length_append] at z z2
        have z : ¬ u2.length + 1 < k := z
        have z2 : u2.length + 1 ≠ k := z2
        have : p ^ k ≤ p ^ u2.length := Nat.pow_le_pow_right p0 (by omega)
        omega
end
end B5

namespace K71
open PySem L2 Gd B5
abbrev sBs : Stmt := top 41
abbrev NBs : List Str := ["_law_moves", "_law_layers_here", "_law_wanted", "_law_many", "_law_is_least_here", "_law_p", "_law_word", "_law_place", "_law_digits", "_law_found", "_law_rows", "_law_digit", "_law_here", "_law_kept", "_law_state"]
theorem scBs : FnScope NBs ["_law_moves", "_law_layers_here", "_law_wanted", "_law_many", "_law_is_least_here"] (defScope sBs) := ⟨rfl, rfl, rfl, by decide +kernel, rfl, by decide +kernel, by decide +kernel⟩
theorem inV_nat {x : Nat} : ∀ {l : List Nat}, inV (nV x) (l.map nV) = decide (x ∈ l)
  | [] => rfl
  | y :: l => by
    have ih := inV_nat (x := x) (l := l)
    unfold inV at ih ⊢
    rw [List.map_cons, List.any_cons, ih]
    have : eqV (nV y) (nV x) = decide (y = x) := by
      show (((y : Nat) : Int) == ((x : Nat) : Int)) = _
      by_cases z : y = x
      · subst z; simp
      · rw [decide_eq_false z]
        exact beq_eq_false_iff_ne.mpr (by omega)
    rw [this]
    by_cases z : y = x
    · subst z; simp
    · rw [decide_eq_false z, Bool.false_or, decide_eq_decide]
      exact ⟨fun h => .tail _ h, fun h => (List.mem_cons.mp h).elim (fun e => absurd e.symm z) id⟩
theorem flat_nat (l : List Nat) : (l.map nV).all flatV = true := by
  rw [List.all_eq_true]
  intro x hx
  obtain ⟨y, _, rfl⟩ := List.mem_map.mp hx
  rfl
def oV : Option Nat → V
  | some m => .int (m : Nat)
  | none => .non
theorem dp_L {K : PySem.W.Frag} {H : Hp} {t : Addr} {l : List Int} (h : SqL K H t (l.map V.int)) : Dp K H (.ref t) (.list (l.map .int)) := .lst h (dp_ints l)
theorem shaped_L (l : List Int) : SeqAt.shaped (.list (l.map .int)) = true := by
  unfold SeqAt.shaped
  simp only [PyData.canLay0, lay_ints, PyData.depth, dep_ints]
  decide
theorem eqv_L (a b : List Int) : PyData.eqv (.list (a.map .int)) (.list (b.map .int)) = decide (a = b) := by
  simp only [PyData.eqv, eqvAll_ints]
theorem nat_L {H : Hp} {t : Addr} {l : List Nat} (h : H t = some (.lst (l.map nV))) : H t = some (.lst ((l.map fun x => ((x : Nat) : Int)).map V.int)) := by rw [h, List.map_map]; rfl
/-- what the digits of a place have told -/
def PlI (H : Hp) (lo j : Nat) (layer wi : List Nat) (step : Nat → Nat → Nat) (z9 : V) (z13 : Option V) : Prop := (z9 = .non ∧ ∀ e, lo ≤ e → e < lo + j → ∀ s ∈ layer, step s e ∉ wi) ∨
  ∃ (d : Nat) (hl : Addr) (hs : List Nat), z9 = .int (d : Nat) ∧ z13 = some (.ref hl) ∧ H hl = some (.lst (hs.map nV)) ∧ lo ≤ d ∧ d < lo + j ∧ hs ≠ [] ∧ (∀ s, s ∈ hs ↔ s ∈ layer ∧ step s d ∈ wi) ∧ ∀ e, lo ≤ e → e < d → ∀ s ∈ layer, step s e ∉ wi
def spBs (K : PySem.W.Frag) : Sp := fun vs H Q _ => ∃ (M L W : Addr) (rs : List V) (m p N : Nat) (dss : List (List Int)) (ws : List Int) (as : List Addr) (ls : List (List Nat)) (wt : List Nat), vs = [.ref M, .ref L, .ref W, .int N, .bl true] ∧ H M = some (.tup rs) ∧ Paired (TupI K H) rs dss ∧ MGood p dss ws ∧ dss.length ≤ 30 ∧
  H L = some (.lst (as.map V.ref)) ∧ Paired (LisN H) as ls ∧ ls.length = m + 1 ∧ (∀ i l, ls[i]? = some l → LayN p (stepT dss) i l) ∧ H W = some (.lst (wt.map nV)) ∧ N ≤ m ∧ m ≤ 60 ∧
  ∀ (H' : Hp) (r : Option Nat), More H H' → Bst p (stepT dss) (fun s => s ∈ wt) N r → Q (oV r) H'
section
variable {P : Program} {w : World} {K : PySem.W.Frag} {mg : Str → Option Value} {base : Heap} {g1 f : Addr} {d1 fd : FuncData}
theorem ok_bs (F : Fun K "_law_best" "_law_best" sBs f fd) (B : Blt mg) (Nb : Cl K mg "_law_number" sNb ["_law_word", "_law_p"] g1 d1) : FnOk P w K mg base CX0 2 f fd ["_law_moves", "_law_layers_here", "_law_wanted", "_law_many", "_law_is_least_here"] (spBs K) := by
  have G1 : FnOk P w K mg base CX0 1 g1 d1 ["_law_word", "_law_p"] (spNb K) := ok_nb Nb.fn
  refine F.ok scBs (fun vs H Q E h => ?_) (fun cdv A outer s H vs Q E hr h => ?_)
  · obtain ⟨M, L, W, rs, m, p, N, dss, ws, as, ls, wt, rfl, _⟩ := h
    rfl
  · obtain ⟨M, L, W, rs, m, p, N, dss, ws, as, ls, wt, rfl, hM, rows, g, few, hL, pls, lls, lay, hW, Nm, m60, q⟩ := h
    have hu64 := hr.units
    refine ⟨_, pss_cons (ps_par (i := 5) (j := 6) rfl scBs.nd rfl rfl (by decide) rfl rfl (pa_cons (pe_callB call_len_seq (by rfl) B.len_ PySem.boot_len (pa_cons (pe_ix ix_tup (pv 0) pe_int (fun _ _ => rfl)) pa_nil)) (pa_cons (pe_lst pa_nil) pa_nil)) (by rfl))
      (Evl.pss_cut (ps_for PassesOwn.never rfl (pi_range3 (by rfl) B.range_ (pa_cons (pe_op op_sub (pv 3) pe_int) (pa_cons (pe_un un_neg pe_int) (pa_cons (pe_un un_neg pe_int) pa_nil)))) (pg_name (i := 7) scBs.nd rfl (Or.inl rfl))
        (pss_cons (ps_set (i := 8) scBs.nd rfl (Or.inl rfl) (pe_listRg rfl (by rfl) B.list_ (prg_2 (by rfl) B.range_ (pe_callTy call_int1 (by rfl) B.int_ (by decide +kernel) (pa_cons (pe_cmpR op_eq (pv 7) (pe_op op_sub (pv 3) pe_int) (nomark _)) pa_nil)) (pv 5))))
        (pss_cons (ps_par (i := 9) (j := 10) rfl scBs.nd rfl rfl (by decide) rfl rfl (pa_cons pe_non (pa_cons (pe_ifExp (pt_val (pv 4)) (pv 8) (pe_revL (pv 8))) pa_nil)) (by rfl))
        (Evl.pss_cut (ps_for PassesOwn.never rfl (pi_list (pv 10)) (pg_name (i := 11) scBs.nd rfl (Or.inr rfl))
          (pss_cons (ps_setLc (i := 12) (own := [("_law_state", 14)]) (g := gName 14) rfl scBs.nd rfl rfl (sw_true rfl rfl rfl (by decide +kernel)) (pi_list (pe_ix ix_list (pv 1) (pv 7) (fun _ _ => rfl)))
              (blkOk_by (N := NBs) (sc := defScope sBs) (by decide +kernel)) (fun _ _ _ _ _ => pg_name (i := 14) scBs.nd rfl (Or.inl rfl))
              (fun _ _ _ _ _ => pts_one (pt_cmpR (r := rIn K false) op_in_seq (pe_ix (r := rIxT K) ix_tup (pe_ix (r := rIxT K) ix_tup (pv 0) (pv 14) (fun _ _ => rfl)) (pv 11) (fun _ _ => rfl)) (pv 2) rfl)) (fun _ _ _ _ _ => pv 14))
          (pss_one (ps_if (PW.pt (pw_and (pt_cmpR op_isN (pv 9) pe_non (nomark _)) (pw_and1 (pt_cmpR (op_neD hu64) (pv 12) (pe_lst pa_nil) (nomark _)))))
            (pss_one (ps_par (i := 9) (j := 13) rfl scBs.nd rfl rfl (by decide) rfl rfl (pa_cons (pv 11) (pa_cons (pv 12) pa_nil)) (by rfl))) pss_nil))))
        (pss_cons (ps_if (pt_cmpR op_isN (pv 9) pe_non (nomark _)) (pss_one (ps_ret pe_non)) pss_nil)
        (pss_one (ps_asg (pe_tup (pa_cons (pe_op op_cat (pe_lst (pa_cons (pv 9) pa_nil)) (pv 6)) (pa_cons (pv 13) pa_nil))) (pg_tup (by rfl) (pgs_cons (pg_name (i := 6) scBs.nd rfl (Or.inl rfl)) (pgs_cons (pg_name (i := 2) scBs.nd rfl (Or.inr rfl)) pgs_nil))))))))))
      (pss_one (ps_ret (pe_ifExp (PW.pt (pw_or (pt_cmpR op_gt (pv 3) pe_int (nomark _)) (pw_or1 (pt_cmpR op_in_seq pe_int (pv 2) rfl)))) (pe_call G1 hr rfl Nb.g Nb.k Nb.b .nil pass0 (pa_cons (pv 6) (pa_cons (pv 5) pa_nil))) pe_non)))), ?_⟩
    obtain ⟨n, hn⟩ : ∃ n, n = dss.length := ⟨_, rfl⟩
    have n0 : 0 < n := hn ▸ List.length_pos_iff.mpr g.ne
    obtain ⟨p2, p7⟩ := isPr_small g.pr
    obtain ⟨st, hst⟩ : ∃ st, st = stepT dss := ⟨_, rfl⟩
    rw [← hst] at lay q
    obtain ⟨b0, row0, hb0, sb0, _, lrow0, _⟩ := tup_row rows g (s := 0) (by omega)
    refine ⟨_, rfl, M, rs, ((0 : Nat) : Int), _, rfl, rfl, SqT.of hM, atI_nat hb0, b0, _, rfl, .inr sb0, by show 0 ≤ sizeLine; exact Nat.zero_le _, fun w0 hw0 => ⟨_, _, rfl, ?_⟩⟩
    have m1 := new_more (o := .lst []) hw0
    have kw0 : (upd H w0 (.lst [])) w0 = some (.lst (([] : List Nat).map nV)) := upd_same
    have hW1 := m1 _ _ hW
    generalize upd H w0 (.lst []) = H1 at m1 kw0 hW1 ⊢
    rw [show (((row0.map nV).length : Nat) : Int) = ((p : Nat) : Int) by rw [List.length_map, lrow0]]
    refine ⟨fun σ' H' => ∃ (z7 z8 z9 z10 z11 z12 z13 : Option V) (wl Wl : Addr) (wd wi : List Nat), σ' = [some (.ref M), some (.ref L), some (.ref Wl), some (.int N), some (.bl true), some (.int p), some (.ref wl), z7, z8, z9, z10, z11, z12, z13, none] ∧ H' wl = some (.lst (wd.map nV)) ∧ H' Wl = some (.lst (wi.map nV)) ∧ Chosen p st (fun s => s ∈ wt) N N wd (fun s => s ∈ wi) ∧ More H H', ?_, ?_⟩
    · refine ⟨_, rfl, _, _, rfl, rfl, _, rfl, _, rfl, _, _, _, N, rfl, ?_, ?_⟩
      · have e : ((((N : Nat) : Int) - 1) - (-1)).toNat = N := by omega
        have := RgC.neg (i := ((N : Nat) : Int) - 1) (j := -1) (by omega) (by omega) (by decide) (by decide)
        rw [e] at this
        exact this
      refine for_rangeC (fun i σ' H' => ∃ (z7 z8 z9 z10 z11 z12 z13 : Option V) (wl Wl : Addr) (wd wi : List Nat), σ' = [some (.ref M), some (.ref L), some (.ref Wl), some (.int N), some (.bl true), some (.int p), some (.ref wl), z7, z8, z9, z10, z11, z12, z13, none] ∧ H' wl = some (.lst (wd.map nV)) ∧ H' Wl = some (.lst (wi.map nV)) ∧ Chosen p st (fun s => s ∈ wt) N i wd (fun s => s ∈ wi) ∧ More H H')
        ⟨none, none, none, none, none, none, none, w0, W, [], wt, rfl, kw0, hW1, chosen_start, m1⟩ ?_ ?_
      · rintro i σ' G hi ⟨z7, z8, z9, z10, z11, z12, z13, wl, Wl, wd, wi, rfl, kw, kW, ch, mG⟩
        obtain ⟨pl, hpl⟩ : ∃ pl, pl = N - (i + 1) := ⟨_, rfl⟩
        rw [show ((N : Nat) : Int) - 1 + ((i : Nat) : Int) * (-1) = ((pl : Nat) : Int) by omega]
        refine ⟨_, rfl, _, rfl, _, _, rfl, rfl, rfl, .inr ⟨_, rfl, ?_⟩⟩
        rw [deI]
        obtain ⟨lo, hlo⟩ : ∃ lo, lo = if i = 0 then 1 else 0 := ⟨_, rfl⟩
        have elo : (if decide (((pl : Nat) : Int) = ((N : Nat) : Int) - 1) = true then (1 : Int) else 0) = ((lo : Nat) : Int) := by
          by_cases z : i = 0
          · rw [decide_eq_true (by omega), if_pos rfl, hlo, if_pos z]
            rfl
          · rw [decide_eq_false (by omega), if_neg (by decide), hlo, if_neg z]
            rfl
        rw [elo]
        have lo1 : lo ≤ 1 := by rw [hlo]; split <;> omega
        refine ⟨_, rfl, _, _, rfl, rfl, ⟨by omega, by omega, by omega, by omega⟩, fun dl hdl => ?_⟩
        obtain ⟨ds, hds⟩ : ∃ ds : List Nat, ds = (List.range (p - lo)).map fun x => lo + x := ⟨_, rfl⟩
        have erg : rgV ((lo : Nat) : Int) ((p : Nat) : Int) = ds.map nV := by
          unfold rgV
          rw [hds, List.map_map, show (((p : Nat) : Int) - ((lo : Nat) : Int)).toNat = p - lo by omega]
          refine List.map_congr_left fun x _ => ?_
          show V.int (((lo : Nat) : Int) + ((x : Nat) : Int)) = V.int (((lo + x : Nat) : Nat) : Int)
          rw [Int.natCast_add]
        rw [erg]
        have md := new_more (o := .lst (ds.map nV)) hdl
        have kd : (upd G dl (.lst (ds.map nV))) dl = some (.lst (ds.map nV)) := upd_same
        have kw1 := md _ _ kw
        have kW1 := md _ _ kW
        have mG1 : More H (upd G dl (.lst (ds.map nV))) := fun b o e => md _ _ (mG _ _ e)
        generalize upd G dl (.lst (ds.map nV)) = G1 at kd kw1 kW1 mG1 ⊢
        clear md kw kW mG hdl erg elo
        refine ⟨_, rfl, true, rfl, iteT ⟨_, rfl, _, _, rfl, ?_⟩⟩
        obtain ⟨al, hal⟩ : ∃ al, as[pl]? = some al := ⟨as[pl]'(by rw [Paired.length pls]; omega), List.getElem?_eq_getElem _⟩
        obtain ⟨layer, elay, kal⟩ := paired_at pls hal
        have kal : H al = some (.lst (layer.map nV)) := kal
        have lyr := lay pl layer elay
        have lb : ∀ s ∈ layer, s < n := fun s hs => by
          obtain ⟨w, _, hw, e⟩ := (lyr.mem s).mp hs
          have key : ∀ (w : List Nat) (s : Nat), s < n → Dg p w → runW st s w < n := by
            intro w
            induction w with
            | nil => intro s hs _; exact hs
            | cons d w ih => intro s hs g'; exact ih _ (by rw [hst, hn]; exact good_cl g s d (by omega) (g' d (.head _))) fun x hx => g' x (.tail _ hx)
          rw [← e]
          exact key w 0 n0 hw
        have ll : layer.length ≤ n := nodup_below n layer (List.Pairwise.imp (fun {a b} h e => by omega) lyr.asc) lb
        refine ⟨fun σ' H' => ∃ (z9 : V) (z11 z12 z13 : Option V), σ' = [some (.ref M), some (.ref L), some (.ref Wl), some (.int N), some (.bl true), some (.int p), some (.ref wl), some (.int pl), some (.ref dl), some z9, some (.ref dl), z11, z12, z13, none] ∧ More G1 H' ∧ PlI H' lo (p - lo) layer wi st z9 z13, ?_, ?_⟩
        · have lds : ds.length = p - lo := by rw [hds, List.length_map, List.length_range]
          refine ⟨_, rfl, dl, rfl, ⟨_, SqL.of kd⟩, for_list (K := K) (a := dl) (xs := ds.map nV) (fun j σ' H' => ∃ (z9 : V) (z11 z12 z13 : Option V), σ' = [some (.ref M), some (.ref L), some (.ref Wl), some (.int N), some (.bl true), some (.int p), some (.ref wl), some (.int pl), some (.ref dl), some z9, some (.ref dl), z11, z12, z13, none] ∧ More G1 H' ∧ PlI H' lo j layer wi st z9 z13)
            ⟨.non, z11, z12, z13, rfl, fun _ _ e => e, .inl ⟨rfl, fun e h1 h2 => absurd h2 (by omega)⟩⟩ (fun j σ' H' _ ⟨_, _, _, _, _, m, _⟩ => SqL.of (m _ _ kd)) ?_ ?_⟩
          · rintro j y σ' G2 hy ⟨z9, z11, z12, z13, rfl, m2, pli⟩
            obtain ⟨dj, hdj, rfl⟩ := map_at hy
            have jl := (List.getElem?_eq_some_iff.mp hdj).1
            have edj : dj = lo + j := by
              rw [hds, List.getElem?_map, List.getElem?_range (by omega)] at hdj
              exact (Option.some.inj hdj).symm
            have djp : dj < p := by omega
            refine ⟨_, rfl, _, rfl, L, _, ((pl : Nat) : Int), _, rfl, rfl, SqL.of (m2 _ _ (mG1 _ _ hL)), atI_nat (at_map hal), al, rfl, ⟨_, SqL.of (m2 _ _ (mG1 _ _ kal))⟩, fun D hD => ?_⟩
            refine lc_it (H1 := G2) (D := D) (walk_list (xs := layer.map nV)) (fun k H' => H' D = some (.lst (((layer.take k).filter fun s => decide (st s dj ∈ wi)).map nV)) ∧ More G2 H') ⟨upd_same, new_more hD⟩ (fun k H' _ ⟨_, m⟩ => SqL.of (m _ _ (m2 _ _ (mG1 _ _ kal)))) ?_ ?_
            · rintro k v G3 G4 hk ⟨kD, m3⟩ ⟨rfl, hv⟩
              obtain ⟨s, hs, rfl⟩ := map_at hv
              have sn := lb s (List.mem_of_getElem? hs)
              have rows3 := paired_imp (fun v k (r : TupI K H v k) => r.more fun b o e => m3 _ _ (m2 _ _ (mG1 _ _ e))) rows
              obtain ⟨b, row, hb, sb, erow, lrow, brow⟩ := tup_row rows3 g (s := s) (by omega)
              have er : row[dj]? = some (st s dj) := by rw [erow, hst]; exact leadS_at djp
              refine ⟨rfl, _, rfl, _, rfl, M, rs, ((s : Nat) : Int), _, rfl, rfl, SqT.of (m3 _ _ (m2 _ _ (mG1 _ _ hM))), atI_nat hb, _, rfl, b, _, ((dj : Nat) : Int), _, rfl, rfl, sb, atI_nat (at_map er), _, rfl, Wl, _, rfl, .inl (SqL.of (m3 _ _ (m2 _ _ kW1))), rfl, flat_nat _, _, rfl, ?_⟩
              show (if (inV (nV (st s dj)) (wi.map nV)) = true then _ else _)
              rw [inV_nat, take_snoc hs, List.filter_append]
              refine ite2 (fun hz => ?_) (fun hz => ?_)
              · refine ⟨_, rfl, _, kD, ?_, ?_, More.at m3 hD⟩
                · rw [List.length_map]
                  have := List.length_filter_le (fun s => decide (st s dj ∈ wi)) (layer.take k)
                  rw [List.length_take] at this
                  exact small1000 (by omega)
                · rw [upd_same, List.map_append, show [s].filter (fun s => decide (st s dj ∈ wi)) = [s] by simp; exact of_decide_eq_true hz]
                  rfl
              · refine ⟨?_, m3⟩
                rw [show [s].filter (fun s => decide (st s dj ∈ wi)) = [] by simp; exact fun h => hz (decide_eq_true h), List.append_nil]
                exact kD
            rintro G3 ⟨kD, m3⟩
            rw [List.length_map, List.take_length] at kD
            obtain ⟨hs, hhs⟩ : ∃ hs, hs = layer.filter fun s => decide (st s dj ∈ wi) := ⟨_, rfl⟩
            rw [← hhs] at kD
            have hsm : ∀ s, s ∈ hs ↔ s ∈ layer ∧ st s dj ∈ wi := fun s => by rw [hhs, List.mem_filter]; exact and_congr_right fun _ => ⟨of_decide_eq_true, decide_eq_true⟩
            have m13 : More G1 G3 := fun b o e => m3 _ _ (m2 _ _ e)
            refine ⟨_, rfl, rfl, _, rfl, ?_⟩
            rcases pli with ⟨rfl, ah⟩ | ⟨d, hl, hs', rfl, rfl, k13, d1, d2, ne, mm, ah⟩
            · rw [decide_eq_true rfl]
              refine iteT ⟨_, rfl, by show 0 ≤ sizeLine; exact Nat.zero_le _, fun L2 hL2 => ?_⟩
              have mL := new_more (o := .lst []) hL2
              refine ⟨_, _, dp_L (SqL.of (nat_L (mL _ _ kD))), dp_L (l := []) (SqL.of upd_same), shaped_L _, shaped_L [], _, rfl, ?_⟩
              rw [eqv_L]
              by_cases z : hs = []
              · rw [decide_eq_true (by rw [z]; rfl)]
                refine iteF ⟨_, _, _, _, rfl, fun b o e => mL _ _ (m13 _ _ e), .inl ⟨rfl, fun e h1 h2 s hs' hw => ?_⟩⟩
                by_cases z2 : e = dj
                · subst z2
                  have := (hsm s).mpr ⟨hs', hw⟩
                  rw [z] at this
                  cases this
                · exact ah e h1 (by omega) s hs' hw
              · have nz : (hs.map fun x => ((x : Nat) : Int)) ≠ [] := fun e => z (List.map_eq_nil_iff.mp e)
                rw [decide_eq_false nz]
                refine iteT ⟨_, rfl, _, rfl, _, _, rfl, _, _, _, _, rfl, fun b o e => mL _ _ (m13 _ _ e), .inr ⟨dj, D, hs, rfl, rfl, mL _ _ kD, by omega, by omega, z, hsm, fun e h1 h2 => ah e h1 (by omega)⟩⟩
            · rw [decide_eq_false (fun z => by cases z)]
              exact iteF (iteF ⟨_, _, _, _, rfl, m13, .inr ⟨d, hl, hs', rfl, rfl, m3 _ _ k13, d1, by omega, ne, mm, ah⟩⟩)
          · rintro σ' G2 ⟨z9, z11, z12, z13, rfl, m2, pli⟩
            rw [List.length_map, lds] at pli
            exact ⟨z9, z11, z12, z13, rfl, m2, pli⟩
        rintro σ' G2 ⟨z9, z11, z12, z13, rfl, m2, pli⟩
        have m02 : More H G2 := fun b o e => m2 _ _ (mG1 _ _ e)
        refine ⟨_, rfl, rfl, _, rfl, ?_⟩
        rcases pli with ⟨rfl, ah⟩ | ⟨d, hl, hs, rfl, rfl, k13, d1, d2, ne, mm, ah⟩
        · rw [decide_eq_true rfl]
          exact iteT (q G2 none m02 (.inl ⟨rfl, ch.stuck hi hlo fun e h1 h2 s hs => ah e h1 (by omega) s ((lyr.mem s).mpr (by rw [hpl]; exact hs))⟩))
        · rw [decide_eq_false (fun z => by cases z)]
          refine iteF ⟨_, rfl, by show 1 ≤ sizeLine; decide, fun f1 hf1 => ?_⟩
          have mf := new_more (o := .lst [V.int ((d : Nat) : Int)]) hf1
          have lwd := ch.len
          refine ⟨_, rfl, f1, wl, _, _, rfl, rfl, upd_same, mf _ _ (m2 _ _ kw1), by rw [List.length_map]; show 1 + wd.length ≤ sizeLine; exact Nat.le_of_lt (small1000 (by omega)), fun w2 hw2 => ⟨_, rfl, by show 2 ≤ sizeLine; decide, fun t ht => ?_⟩⟩
          have mw := new_more (o := .lst ([V.int ((d : Nat) : Int)] ++ wd.map nV)) hw2
          have mt := new_more (o := .tup [.ref w2, .ref hl]) ht
          refine ⟨t, _, rfl, SqT.of upd_same, rfl, _, _, rfl, _, _, rfl, rfl, _, _, _, _, _, _, _, w2, hl, d :: wd, hs, rfl, mt _ _ upd_same, mt _ _ (mw _ _ (mf _ _ k13)), ?_, fun b o e => mt _ _ (mw _ _ (mf _ _ (m02 _ _ e)))⟩
          refine ch.next hi hlo (by omega) d1 (fun s hs' => ?_) ?_ fun e h1 h2 s hs' => ah e h1 h2 s ((lyr.mem s).mpr (by rw [hpl]; exact hs'))
          · rw [mm]
            exact ⟨fun h => h.2, fun h => ⟨(lyr.mem s).mpr (by rw [hpl]; exact hs'), h⟩⟩
          · cases hh : hs with
            | nil => exact absurd hh ne
            | cons x r =>
              have hx : x ∈ hs := by rw [hh]; exact .head _
              refine ⟨x, .head _, ?_⟩
              have := (lyr.mem x).mp ((mm x).mp hx).1
              rw [hpl] at this
              exact this
      · rintro σ' G ⟨z7, z8, z9, z10, z11, z12, z13, wl, Wl, wd, wi, rfl, kw, kW, ch, mG⟩
        exact ⟨z7, z8, z9, z10, z11, z12, z13, wl, Wl, wd, wi, rfl, kw, kW, ch, mG⟩
    rintro σ' G ⟨z7, z8, z9, z10, z11, z12, z13, wl, Wl, wd, wi, rfl, kw, kW, ch, mG⟩
    have lwd := ch.len
    refine ⟨_, rfl, _, _, rfl, rfl, _, rfl, ?_⟩
    by_cases nz : 0 < N
    · rw [show decide ((0 : Int) < ((N : Nat) : Int)) = true from decide_eq_true (by omega)]
      refine iteT (iteT ⟨_, rfl, _, rfl, wl, wd, p, rfl, SqL.of kw, by omega, by omega, fun H' m => ?_⟩)
      exact q H' (some (numW p wd)) (fun b o e => m _ _ (mG _ _ e)) (ch.done nz)
    · rw [show decide ((0 : Int) < ((N : Nat) : Int)) = false from decide_eq_false (by omega)]
      have N0 : N = 0 := by omega
      subst N0
      have ew : wd = [] := List.length_eq_zero_iff.mp lwd
      subst ew
      refine iteF ⟨_, rfl, Wl, _, rfl, .inl (SqL.of kW), rfl, flat_nat _, _, rfl, ?_⟩
      have hm : (0 ∈ wi) ↔ 0 ∈ wt := ch.mem 0 ⟨[], rfl, fun _ h => (nomatch h), rfl⟩
      have bz := bst_zero (p := p) (step := st) (A := fun s => s ∈ wt) (b := decide (0 ∈ wi)) (by rw [← hm]; exact ⟨of_decide_eq_true, decide_eq_true⟩)
      show (if (inV (nV 0) (wi.map nV)) = true then _ else _)
      rw [inV_nat]
      by_cases z : 0 ∈ wi
      · rw [decide_eq_true z] at bz ⊢
        refine iteT ⟨_, rfl, _, rfl, wl, [], p, rfl, SqL.of kw, by omega, by simp, fun H' m => ?_⟩
        exact q H' (some 0) (fun b o e => m _ _ (mG _ _ e)) bz
      · rw [decide_eq_false z] at bz ⊢
        exact iteF (q G none mG bz)
end
end K71

/-! Kd: dicts that tell least numbers; dicts that are walked over. -/
namespace B5
open PySem L2
theorem putK_fst (kvs : List (Key × V)) (k : Key) (v : V) : (putK kvs k v).map (·.1) = if (kvs.any fun kv => decide (kv.1 = k)) = true then kvs.map (·.1) else kvs.map (·.1) ++ [k] := by
  unfold putK
  split
  · rw [List.map_map]
    refine List.map_congr_left fun q _ => ?_
    show (if q.1 = k then (q.1, v) else q).1 = q.1
    split <;> rfl
  · rw [List.map_append]
    rfl
theorem putK_nd {kvs : List (Key × V)} (h : (kvs.map (·.1)).Nodup) (k : Key) (v : V) : ((putK kvs k v).map (·.1)).Nodup := by
  rw [putK_fst]
  split
  · exact h
  · rename_i z
    refine List.nodup_append.mpr ⟨h, by simp, fun x hx y hy e => ?_⟩
    have : y = k := by simpa using hy
    subst this
    subst e
    obtain ⟨q, hq, eq⟩ := List.mem_map.mp hx
    exact z (List.any_eq_true.mpr ⟨q, hq, decide_eq_true eq⟩)
theorem putK_mem {kvs : List (Key × V)} {k : Key} {v : V} {q : Key × V} (h : q ∈ putK kvs k v) : q = (k, v) ∨ (q ∈ kvs ∧ q.1 ≠ k) := by
  unfold putK at h
  split at h
  · obtain ⟨r, hr, rfl⟩ := List.mem_map.mp h
    by_cases z : r.1 = k
    · rw [if_pos z, z]; exact .inl rfl
    · rw [if_neg z]; exact .inr ⟨hr, z⟩
  · rename_i z
    rcases List.mem_append.mp h with h | h
    · refine .inr ⟨h, fun e => z (List.any_eq_true.mpr ⟨q, h, decide_eq_true e⟩)⟩
    · exact .inl (by simpa using h)
theorem valV_mem {kvs : List (Key × V)} (nd : (kvs.map (·.1)).Nodup) {k : Key} {v : V} (h : (k, v) ∈ kvs) : valV kvs k = some v := by
  induction kvs with
  | nil => cases h
  | cons q r ih =>
    rw [List.map_cons, List.nodup_cons] at nd
    rcases List.mem_cons.mp h with e | h
    · subst e; exact valV_pos rfl
    · have ne : q.1 ≠ k := fun e => nd.1 (List.mem_map.mpr ⟨(k, v), h, e.symm⟩)
      have := ih nd.2 h
      unfold valV at this ⊢
      rw [List.find?_cons, decide_eq_false ne]
      exact this
theorem mem_valV {kvs : List (Key × V)} {k : Key} {v : V} (h : valV kvs k = some v) : (k, v) ∈ kvs := by
  unfold valV at h
  obtain ⟨q, hq, e⟩ := Option.map_eq_some_iff.mp h
  have m := List.mem_of_find?_eq_some hq
  have e2 : q.1 = k := of_decide_eq_true (List.find?_some (p := fun kv : Key × V => decide (kv.1 = k)) hq)
  obtain ⟨a, b⟩ := q
  cases e2
  cases e
  exact m
/-- the least numbers of E, by key -/
structure KD (kvs : List (Key × V)) (E : Int → Nat → Prop) : Prop where
  nd : (kvs.map (·.1)).Nodup
  mem : ∀ q ∈ kvs, ∃ (t : Int) (m : Nat), q = (Sum.inl t, V.int (m : Nat)) ∧ MinE (E t) m
  all : ∀ t m, E t m → ∃ v, valV kvs (Sum.inl t) = some v
theorem KD.nil {E : Int → Nat → Prop} (h : ∀ t m, ¬ E t m) : KD [] E := ⟨List.nodup_nil, fun _ h => (nomatch h), fun t m e => absurd e (h t m)⟩
theorem KD.get {kvs : List (Key × V)} {E : Int → Nat → Prop} (h : KD kvs E) {t : Int} {v : V} (e : valV kvs (Sum.inl t) = some v) : ∃ m : Nat, v = V.int (m : Nat) ∧ MinE (E t) m := by
  obtain ⟨t', m, e2, mm⟩ := h.mem _ (mem_valV e)
  cases e2
  exact ⟨m, rfl, mm⟩
theorem KD.has {kvs : List (Key × V)} {E : Int → Nat → Prop} (h : KD kvs E) {t : Int} {m : Nat} (e : MinE (E t) m) : valV kvs (Sum.inl t) = some (V.int (m : Nat)) := by
  obtain ⟨v, ev⟩ := h.all t m e.1
  obtain ⟨m', rfl, mm⟩ := h.get ev
  rw [ev, e.one mm]
theorem KD.none {kvs : List (Key × V)} {E : Int → Nat → Prop} (h : KD kvs E) {t : Int} (e : ∀ m, ¬ E t m) : valV kvs (Sum.inl t) = none := by
  cases ev : valV kvs (Sum.inl t) with
  | none => rfl
  | some v =>
    obtain ⟨m, _, mm⟩ := h.get ev
    exact absurd mm.1 (e m)
theorem KD.off {kvs : List (Key × V)} {E : Int → Nat → Prop} (h : KD kvs E) {t : Int} (e : valV kvs (Sum.inl t) = Option.none) : ∀ m, ¬ E t m := fun m z => by
  obtain ⟨v, ev⟩ := h.all t m z
  rw [e] at ev
  cases ev
theorem KD.put {kvs : List (Key × V)} {E E' : Int → Nat → Prop} (h : KD kvs E) {t : Int} {m : Nat} (e : MinE (E' t) m) (o : ∀ x, x ≠ t → ∀ k, E' x k ↔ E x k) : KD (putK kvs (Sum.inl t) (V.int (m : Nat))) E' := by
  have om : ∀ x, x ≠ t → ∀ k, MinE (E' x) k ↔ MinE (E x) k := fun x hx k => by
    unfold MinE
    rw [o x hx k]
    exact and_congr_right fun _ => forall_congr' fun m' => by rw [o x hx m']
  refine ⟨putK_nd h.nd _ _, fun q hq => ?_, fun x k ek => ?_⟩
  · rcases putK_mem hq with rfl | ⟨hq, ne⟩
    · exact ⟨t, m, rfl, e⟩
    · obtain ⟨x, k, rfl, mm⟩ := h.mem q hq
      refine ⟨x, k, rfl, (om x (fun z => ne (by rw [z])) k).mpr mm⟩
  · by_cases z : x = t
    · subst z
      exact ⟨_, by rw [valV_put, if_pos rfl]⟩
    · obtain ⟨v, ev⟩ := h.all x k ((o x z k).mp ek)
      exact ⟨v, by rw [valV_put, if_neg fun q => z (Sum.inl.inj q), ev]⟩
theorem KD.eq {kvs : List (Key × V)} {E E' : Int → Nat → Prop} (h : KD kvs E) (o : ∀ x k, E' x k ↔ E x k) : KD kvs E' := by
  have : E' = E := funext fun x => funext fun k => propext (o x k)
  rw [this]; exact h
theorem KD.to {kvs : List (Key × V)} {E E' : Int → Nat → Prop} (h : KD kvs E) (h1 : ∀ t m, MinE (E t) m → MinE (E' t) m) (h2 : ∀ t m, E' t m → ∃ m', E t m') : KD kvs E' :=
  ⟨h.nd, fun q hq => let ⟨t, m, e, mm⟩ := h.mem q hq; ⟨t, m, e, h1 t m mm⟩, fun t m e => let ⟨m', e'⟩ := h2 t m e; h.all t m' e'⟩
/-- keys below n: at most n -/
theorem KD.len {kvs : List (Key × V)} {E : Int → Nat → Prop} (h : KD kvs E) {n : Nat} (b : ∀ t m, E t m → 0 ≤ t ∧ t < (n : Int)) : kvs.length ≤ n := by
  have key : ∀ (l : List (Key × V)), (∀ q ∈ l, q ∈ kvs) → (l.map (·.1)).Nodup → ∃ ns : List Nat, ns.length = l.length ∧ ns.Nodup ∧ (∀ x ∈ ns, x < n) ∧ ∀ x ∈ ns, ∃ q ∈ l, q.1 = Sum.inl (x : Int) := by
    intro l
    induction l with
    | nil => intro _ _; exact ⟨[], rfl, List.nodup_nil, fun _ h => (nomatch h), fun _ h => (nomatch h)⟩
    | cons q l ih =>
      intro hl nd
      rw [List.map_cons, List.nodup_cons] at nd
      obtain ⟨ns, e1, e2, e3, e4⟩ := ih (fun r hr => hl r (.tail _ hr)) nd.2
      obtain ⟨t, m, eq, mm⟩ := h.mem q (hl q (.head _))
      obtain ⟨t0, t1⟩ := b t m mm.1
      refine ⟨t.toNat :: ns, by rw [List.length_cons, List.length_cons, e1], List.nodup_cons.mpr ⟨fun hx => ?_, e2⟩, fun x hx => ?_, fun x hx => ?_⟩
      · obtain ⟨r, hr, er⟩ := e4 _ hx
        refine nd.1 (List.mem_map.mpr ⟨r, hr, ?_⟩)
        rw [er, eq]
        show Sum.inl ((t.toNat : Nat) : Int) = Sum.inl t
        rw [Int.toNat_of_nonneg t0]
      · rcases List.mem_cons.mp hx with rfl | hx
        · omega
        · exact e3 x hx
      · rcases List.mem_cons.mp hx with rfl | hx
        · refine ⟨q, .head _, ?_⟩
          rw [eq, Int.toNat_of_nonneg t0]
        · obtain ⟨r, hr, er⟩ := e4 x hx
          exact ⟨r, .tail _ hr, er⟩
  obtain ⟨ns, e1, e2, e3, _⟩ := key kvs (fun _ h => h) h.nd
  have := nodup_below n ns e2 e3
  omega
/-! ### a dict that is walked over is locked -/
theorem lock_more {H : Hp} {d : Addr} {u : HO} {od : Obj} (hd : H d = some u) {H' : Hp} (m : ∀ b o, (upd H d (.frz od u)) b = some o → H' b = some o) : ∀ b o, H b = some o → (upd H' d u) b = some o := fun b o e => by
  by_cases z : b = d
  · subst z
    rw [hd] at e
    cases e
    exact upd_same
  · rw [upd_ne z]
    exact m b o (by rw [upd_ne z]; exact e)
end B5

namespace ZipG
open PySem L2 PySem.Spec PyProof.Rows
open PySem.AutoSeq1 (wpAny_loadPart')
/-! EnT: enumerate of a tuple -/
abbrev tIt (l : Addr) : Obj := { cls := .type "tuple_iterator", data := .fields #[.ref l, .int 0 0] }
abbrev enO (n : Addr) : Obj := { cls := .type "enumerate", data := .fields #[.none, .bool false, .ref n, rawInt 0, .none, .none] }
theorem meets_enT (l : Addr) (items : Array Value) (n : Nat) (dct : Option Addr) (sl : Array (Option Value)) :
    Meets (Builtin.«enumerate.__new__» ⟨[.type "enumerate", .ref l], []⟩) (fun _ R s => s.heap.get? l = some { cls := .type "tuple", dict := dct, data := .seq items n, slots := sl } ∧
      R (.ok (.ret (.ref (s.heap.push (tIt l)).objs.size))) { s with heap := (s.heap.push (tIt l)).push (enO s.heap.objs.size) }) := .of_wp fun prog w A R s h => by
  obtain ⟨hp, g, d, tk, os⟩ := s; obtain ⟨hl, h⟩ := h; have hsub := sub_enumerate
  have hT : Heap.IsTuple (Shared.heap ⟨hp, g, d, tk, os⟩) l items := ⟨_, hl, rfl, n, rfl⟩
  wp_walk using wpAny_loadPart' hl; refine wpAny_stack_any fun _ => wpAny_pure ?_; split
  · rename_i c _ _ _ _ _; cases (c == Value.type "enumerate") <;> (wp_walk using wpAny_loadPart' hl, wpAny_pyIter_tuple hT; exact ⟨_, rfl, h⟩)
  · (wp_walk using wpAny_loadPart' hl, wpAny_pyIter_tuple hT; exact ⟨_, rfl, h⟩)
theorem call_enT {prog : Program} {w : World} {A : Around} {E : Value → Shared → Prop} {s : Shared} {l : Addr} {items : Array Value} {Q : Value → Shared → Prop} (hL : s.heap.IsTuple l items)
    (h : ∀ g, IsEnum g (s.heap.objs.size + 1) s.heap.objs.size 0 .none → g.IsTupleIter s.heap.objs.size l 0 → (∀ b o, s.heap.get? b = some o → g.get? b = some o) → Q (.ref (s.heap.objs.size + 1)) { s with heap := g }) :
    wpAny (model prog w) A (call (.type "enumerate") [.ref l]) Q E s := by
  obtain ⟨⟨c, dct, dt, sl⟩, hl, hc, n, hd⟩ := hL
  obtain rfl : c = .type "tuple" := hc
  obtain rfl : dt = .seq items n := hd
  refine callType_new F.called_enumerate (by decide) (F.typeCall_enumerate_1 _) (F.newCall_enumerate_1 _) (fun obj => F.args_object_init_2 obj _) F.entry_enumerate_new (meets_enT l items n dct sl) ⟨hl, ?_⟩
  have hz : (s.heap.push (tIt l)).objs.size = s.heap.objs.size + 1 := Heap.size_push ..
  have he : IsEnum ((s.heap.push (tIt l)).push (enO s.heap.objs.size)) (s.heap.objs.size + 1) s.heap.objs.size 0 .none := by
    have e := Heap.get?_push_size (s.heap.push (tIt l)) (o := enO s.heap.objs.size) rfl
    rwa [hz] at e
  show _ ∧ _
  rw [hz]
  exact ⟨⟨_, he, rfl⟩, h _ he ⟨_, Heap.get?_push_of_some _ (Heap.get?_push_size _ rfl), rfl, rfl⟩ fun b o x => Heap.get?_push_of_some _ (Heap.get?_push_of_some _ x)⟩
def ItET (K : PySem.W.Frag) (a : Addr) : It :=
  ⟨fun i H => ∃ (xs : List V) (x : V), SqT K H a xs ∧ xs[i]? = some x, fun i H v H' => ∃ T x, v = .ref T ∧ H T = none ∧ H' = upd H T (.tup [.int (i : Nat), x]) ∧ ∀ xs, SqT K H a xs → xs[i]? = some x, fun i H => ∃ xs : List V, SqT K H a xs ∧ i = xs.length⟩
theorem turn_enT {P : Program} {w : World} {K : PySem.W.Frag} {elts : List Expr} {kk : Nat} {tpos : Pos} (a n : Addr) (low : Nat.lt a n) :
    Turn P w K (.Tuple elts kk tpos) (ItET K a) [Nat.succ n, n] (Nat.succ n) (fun i h => (∃ old, IsEnum h (Nat.succ n) n ((i : Nat) : Int) old) ∧ (Src.t a).it n i h) where
  mem := List.mem_cons_self ..
  obj := fun i h st b hb => by
    obtain ⟨⟨old, he⟩, hi⟩ := st
    rcases (show b = Nat.succ n ∨ b = n by simpa using hb) with q | q
    · rw [q]; exact ⟨_, he, fun v q => nomatch q⟩
    · rw [q]; exact src_obj hi
  keep := fun i h h' st k => ⟨⟨st.1.choose, k (Nat.succ n) (by simp) _ st.1.choose_spec⟩, src_it st.2 fun o q => k n (by simp) o q⟩
  item := by
    intro X hP hw hK hc i pins s σ H E I hf ⟨⟨old, he⟩, hit⟩ ⟨xs, x, hq, hx⟩
    subst hP hw hK
    have hel : Nat.succ n < s.heap.objs.size := Heap.lt_size he
    obtain ⟨its, rv, p, hz⟩ := I.tuple hq
    obtain ⟨u, hu, ru⟩ := rv.get hx
    have l2 : @Nat.lt a n := low
    have ne : a ≠ n := fun q => Nat.lt_irrefl n (by have := low; rw [q] at this; exact this)
    have D := Draws.tuple (prog := X.prog) (w := X.w) (A := X.A.in1) (I.ok.hd hc) n a ne its.toArray
    have lt : i < its.toArray.size := by
      have := (List.getElem?_eq_some_iff.mp hu).1
      rw [List.size_toArray]; exact this
    have na : a ≠ Nat.succ n := fun q => by have := low; rw [q] at this; exact Nat.lt_irrefl n (Nat.lt_of_succ_lt this)
    refine wpAny_pyNext_enum_itemD D he ⟨hit, p⟩ lt (nn (Nat.succ_ne_self n)) (by simp; exact na.symm) fun u' h' tk hu' ho hit' hT hsz hk => ?_
    obtain rfl : u' = u := by
      have e : its.toArray[i]? = some u' := hu'
      rw [List.getElem?_toArray, hu] at e
      exact (Option.some.inj e).symm
    refine ⟨_, rfl, wpAny_letOwnedTupleGo_enum (s := { s with heap := h', toks := tk + 1 }) ho fun h2 he' sb => ?_⟩
    have hT2 := (sb.2 _ (Nat.ne_of_gt hel)).trans hT
    have new : ObjOk X.prog X.w (upd H s.heap.objs.size (.tup [.int (i : Nat), x])) h2 s.heap.objs.size (.tup [.int (i : Nat), x]) :=
      ⟨by show 2 ≤ sizeLine; decide, [.int i tk, u'], .cons ⟨_, rfl⟩ (.cons ru .nil), ⟨_, hT2, rfl, _, rfl⟩⟩
    have I1 : Inv X pins σ (upd H s.heap.objs.size (.tup [.int (i : Nat), x])) { s with heap := h2, toks := tk + 1 } :=
      I.turnedNew (t' := tk + 1) (ch := [Nat.succ n, n]) (fun b ob hb q => (sb.2 b (fun z => hb (by simp [z]))).trans (hk b ob (fun z => hb (by simp [z])) (fun z => hb (by simp [z])) q)) hf (Nat.le_refl _) new
    refine ⟨.ref s.heap.objs.size, _, I1, rfl, ⟨_, x, rfl, I.hok.fresh (Nat.le_refl _), rfl, fun ys hy => by rw [I.tuple_inj hy hq]; exact hx⟩, ⟨⟨u', ?_⟩, src_it (S := .t a) hit'.1 fun o q => (sb.2 n (nn (Nat.ne_of_lt (Nat.lt_succ_self n)))).trans q⟩, fun b hb => ?_⟩
    · rw [show ((i + 1 : Nat) : Int) = (i : Int) + 1 by omega]
      exact he'
    · have lt : b < s.heap.objs.size := by
        rcases (show b = Nat.succ n ∨ b = n by simpa using hb) with q | q
        · rw [q]; exact hel
        · rw [q]; exact Nat.lt_of_succ_lt hel
      exact (upd_ne (Nat.ne_of_lt lt)).trans (hf b hb).1
  done := by
    intro X hP hw hK hc i pins s σ H E I hf ⟨⟨old, he⟩, hit⟩ ⟨xs, hq, hx⟩
    subst hP hw hK
    obtain ⟨f0, f1, f2, f3, f4, f5⟩ := hf n (by simp)
    obtain ⟨its, rv, p, hz⟩ := I.tuple hq
    have ne : a ≠ n := fun q => Nat.lt_irrefl n (by have := low; rw [q] at this; exact this)
    have D := Draws.tuple (prog := X.prog) (w := X.w) (A := X.A.in1) (I.ok.hd hc) n a ne its.toArray
    have e : i = its.toArray.size := by rw [List.size_toArray, ← rv.length]; exact hx
    subst e
    exact wpAny_pyNext_enum_endD D he ⟨hit, p⟩ fun g eb => ⟨rfl, I.turned (t' := s.toks) (fun b o hb q => eb b o hb q) f0 f1 f3 f4 f5⟩
  self := fun A i s Q E st h => wpAny_pyIter_enum st.1.choose_spec h
def iEnT (K : PySem.W.Frag) (ta : TA) : TI := fun σ H R => ta σ H fun vs H1 => ∃ a xs, vs = [.ref a] ∧ SqT K H1 a xs ∧ R (ItET K a) H1
theorem pi_enT {X : Cx} {e : Expr} {ta : TA} {p pos tpos : Pos} {elts : List Expr} {kk : Nat} (hg : Gl X "enumerate") (hm : X.mg "enumerate" = none) (ha : PA X [e] ta) (hs : starEach [e] X.env = [(false, eval e X.env)] := by rfl) :
    PI X (.Tuple elts kk tpos) (.Call (.Name "enumerate" p) [e] [] pos) (iEnT X.K ta) := by
  refine ⟨fun pins s σ H R I h => ?_⟩
  refine Call_ (ld_blt I hg hm boot_enumerate (PyProof.Rows.callWith_type1 (thn (ha.run pos pins s σ H _ I h) fun us s1 ⟨vs, H1, I1, r1, a, xs, ex, hq, q⟩ => ?_) hs rfl))
  subst ex
  obtain ⟨u, rfl, r⟩ := vals1 r1
  cases r
  obtain ⟨its, rv, pt, hz⟩ := I1.tuple hq
  have low : Nat.lt a s1.heap.objs.size := pt.lt
  refine call_enT pt fun g he hit hk => wpAny_pyIter_enum he ?_
  have I2 : Inv X pins σ H1 { s1 with heap := g } := I1.kept (t' := s1.toks) hk
  refine ⟨Nat.succ s1.heap.objs.size, [Nat.succ s1.heap.objs.size, s1.heap.objs.size], _, _, H1, rfl, I2, turn_enT a s1.heap.objs.size low, ⟨⟨.none, he⟩, hit⟩, fun b hb => ?_, q⟩
  have le : s1.heap.objs.size ≤ b := by
    rcases (show b = Nat.succ s1.heap.objs.size ∨ b = s1.heap.objs.size by simpa using hb) with z | z
    · rw [z]; exact Nat.le_succ _
    · rw [z]; exact Nat.le_refl _
  exact I1.fpOk le (I1.hok.fresh le)
theorem walk_enT {K : PySem.W.Frag} {a : Addr} {xs : List V} : Walk (ItET K a) xs.length (fun H => SqT K H a xs) (YPair (fun i => some (.int (i : Nat))) (fun i => xs[i]?)) where
  goes := fun i H hi h => ⟨xs, xs[i], h, List.getElem?_eq_getElem hi⟩
  stops := fun H h => ⟨xs, h, rfl⟩
  yields := fun i H v H' hi h ⟨T, x, e1, e2, e3, e4⟩ => ⟨T, _, x, e1, e2, e3, rfl, e4 xs h⟩
end ZipG

namespace Td
open PySem L2 PySem.Spec PyProof.Rows
/-! ### dict(list of pairs) whose keys are tuples -/
section
variable {κ : Type} [DecidableEq κ]
theorem atKey_off {xs : List (κ × Addr × Value)} {k : κ} (h : k ∉ xs.map (·.1)) : atKey xs k = none := by
  unfold atKey
  have : (xs.find? fun x => decide (x.1 = k)) = none := by
    rw [List.find?_eq_none]
    intro x hx e
    exact h (List.mem_map.mpr ⟨x, hx, of_decide_eq_true e⟩)
  rw [this]
  rfl
theorem storedAll_nodup : ∀ (ps acc : List (κ × Addr × Value)), ((acc ++ ps).map (·.1)).Nodup → storedAllH acc ps = acc ++ ps
  | [], acc, _ => by rw [List.append_nil]; rfl
  | p :: ps, acc, h => by
    have h1 : p.1 ∉ acc.map (·.1) := by
      rw [List.map_append, List.map_cons, List.nodup_append] at h
      intro z
      exact h.2.2 _ z _ (.head _) rfl
    show storedAllH (storedH acc p.1 p.2.1 p.2.2) ps = _
    rw [storedH_new (atKey_off h1)]
    have e : acc ++ p :: ps = (acc ++ [p]) ++ ps := by rw [List.append_assoc]; rfl
    rw [e] at h ⊢
    exact storedAll_nodup ps _ h
end
/-- one pair of the list: the tuple, its key, where the key stands, the value -/
structure It2 where
  p : Addr
  k : List Key
  b : Addr
  v : V
def rDictPT (K : PySem.W.Frag) : List V → Hp → VK → Prop := fun xs H Q => ∃ (a : Addr) (L : List It2), xs = [.ref a] ∧ SqL K H a (L.map fun e => V.ref e.p) ∧
  (∀ e ∈ L, SqT K H e.p [.ref e.b, e.v] ∧ H e.b = some (.tup (e.k.map kV))) ∧ (L.map (·.k)).Nodup ∧ ∀ d, H d = none → Q (.ref d) (upd H d (.dT (L.map fun e => (e.k, e.v))))
section
variable {X : Cx} {pins : List (Addr × Obj)} {σ : L2.St} {H : Hp} {s : Shared}
theorem pairs_at (I : Inv X pins σ H s) : ∀ (L : List It2), (∀ e ∈ L, SqT X.K H e.p [.ref e.b, e.v] ∧ H e.b = some (.tup (e.k.map kV))) →
    ∃ us : List Value, us.length = L.length ∧ KT H (L.map fun e => (e.k, e.v)) ((L.zip us).map fun z => (z.1.k, z.1.b, z.2)) ∧
      ∀ (j : Nat) (e : It2) (u : Value), L[j]? = some e → us[j]? = some u → IsTup s.heap e.p #[.ref e.b, u]
  | [], _ => ⟨[], rfl, .nil, fun j e u h => nomatch h⟩
  | e :: L, h => by
    obtain ⟨us, hl, kt, at_⟩ := pairs_at I L fun x hx => h x (.tail _ hx)
    obtain ⟨h1, h2⟩ := h e (.head _)
    obtain ⟨its, rv, ht, _⟩ := I.tuple h1
    obtain ⟨u, y, rfl, ru, ry⟩ := vals2 rv
    cases ru
    refine ⟨y :: us, by rw [List.length_cons, List.length_cons, hl], .cons ⟨rfl, h2, ry⟩ kt, fun j e' u' h3 h4 => ?_⟩
    cases j with
    | zero =>
      cases h3
      cases h4
      exact ht
    | succ j => exact at_ j e' u' h3 h4
theorem isTup_pair {h : Heap} {t : Addr} {k v : Value} (x : IsTup h t #[k, v]) : PairAt h t k v := .inl x
theorem call_dictPT (hc : X.calm = true) (hu : X.A.units + 8 < cLine) : CallR X (.type "dict") (rDictPT X.K) := by
  intro pins s σ H xs us Q I r h
  obtain ⟨a, L, rfl, hS, hL, nd, q⟩ := h
  rw [Vals.ref1 r]
  obtain ⟨its, rv, ⟨o, n, ho, hcl, hd, hdat⟩, hz⟩ := I.list hS
  have ei : its = L.map fun e => Value.ref e.p := by
    have : L.map (fun e => V.ref e.p) = (L.map (·.p)).map V.ref := by rw [List.map_map]; rfl
    rw [this] at rv
    rw [refs_at rv, List.map_map]
    rfl
  subst ei
  rw [List.length_map] at hz
  obtain ⟨ws, hl, kt, at_⟩ := pairs_at I L hL
  have lz : (L.zip ws).length = L.length := by rw [List.length_zip, hl, Nat.min_self]
  have zat : ∀ (j : Nat) (e : It2) (u : Value), (L.zip ws)[j]? = some (e, u) → L[j]? = some e ∧ ws[j]? = some u := by
    intro j e u z
    rw [List.getElem?_zip_eq_some] at z
    exact z
  refine call_dict_pairsH (knd := tupleKind (mixKind X.prog X.w)) (ps := (L.zip ws).map fun z => (z.1.k, z.1.b, z.2))
    (PairArg.list a (L.map fun e => Value.ref e.p).toArray (fun j => (L[j]?.map (·.p)).getD 0) ((L.zip ws).map fun z => (Value.ref z.1.b, z.2)))
    (I.ok.hd hc) (by show X.A.units + 1 + 1 < cLine; omega) ⟨⟨o, n, ho, hcl, hd, hdat⟩, ?_, ?_⟩ ⟨by rw [List.length_map, List.length_map], ?_⟩ ?_ (by rw [List.length_map, lz]; exact hz) ?_
  · rw [List.size_toArray, List.length_map, List.length_map, lz]
  · intro j k v hj
    rw [List.getElem?_map] at hj
    cases e : (L.zip ws)[j]? with
    | none => rw [e] at hj; cases hj
    | some z =>
      rw [e] at hj
      cases hj
      obtain ⟨h1, h2⟩ := zat j z.1 z.2 e
      refine ⟨?_, ?_⟩
      · rw [List.getElem?_toArray, List.getElem?_map, h1]
        show _ = some (Value.ref ((L[j]?.map (·.p)).getD 0))
        rw [h1]
        rfl
      · show PairAt s.heap ((L[j]?.map (·.p)).getD 0) _ _
        rw [h1]
        exact isTup_pair (at_ j _ _ h1 h2)
  · intro i key v hi
    have hi : ((L.zip ws).map fun z => (Value.ref z.1.b, z.2))[i]? = some (key, v) := hi
    rw [List.getElem?_map] at hi
    cases e : (L.zip ws)[i]? with
    | none => rw [e] at hi; cases hi
    | some z =>
      rw [e] at hi
      cases hi
      exact ⟨z.1.k, z.1.b, by rw [List.getElem?_map, e]; rfl, rfl⟩
  · intro h' hk x hx
    obtain ⟨z, hz1, rfl⟩ := List.mem_map.mp hx
    obtain ⟨j, hj⟩ := List.getElem?_of_mem hz1
    obtain ⟨h1, _⟩ := zat j z.1 z.2 hj
    have h2 := (hL z.1 (List.mem_of_getElem? h1)).2
    obtain ⟨o', its', n', h3, h4, h5, h6⟩ := key_of I.hok h2
    exact ⟨o', its', n', hk _ _ (Nat.ne_of_lt (Heap.lt_size h3)) (by simp) h3, h4, h5, h6⟩
  · intro h' tk hd' hk
    have ek : ((L.zip ws).map fun z => (z.1.k, z.1.b, z.2)).map (·.1) = L.map (·.k) := by
      rw [List.map_map]
      show (L.zip ws).map (fun z => z.1.k) = _
      rw [show (fun z : It2 × Value => z.1.k) = (fun e : It2 => e.k) ∘ Prod.fst from rfl, ← List.map_map, List.map_fst_zip (by omega)]
    rw [storedAll_nodup _ _ (by rw [List.nil_append, ek]; exact nd), List.nil_append] at hd'
    obtain ⟨o2, es, ep, g1, g2, g3, g4, g5, g6⟩ := hd'
    have hb : H s.heap.objs.size = none := I.hok.fresh (Nat.le_refl _)
    have hm : (s.heap.objs.size == sysModules) = false := beq_eq_false_iff_ne.mpr (Nat.ne_of_gt I.big)
    refine ⟨.ref s.heap.objs.size, upd H s.heap.objs.size (.dT (L.map fun e => (e.k, e.v))), I.laid (t' := tk) (fun b o e => hk b o (by simp) e) (Nat.le_refl _) ⟨by rw [List.length_map]; exact hz, hm, _, ?_, o2, es, ep, g1, g2, g3, g4, g6⟩, rfl, q _ hb⟩
    have keep : ∀ {l : List (List Key × V)} {m : List (List Key × Addr × Value)}, KT H l m → Paired (fun (p : List Key × V) (q : List Key × Addr × Value) => p.1 = q.1 ∧ (upd H s.heap.objs.size (.dT (L.map fun e => (e.k, e.v)))) q.2.1 = some (.tup (p.1.map kV)) ∧ RelV p.2 q.2.2) l m := by
      intro l m q
      induction q with
      | nil => exact .nil
      | cons hq t ih => exact .cons ⟨hq.1, by rw [upd_ne (ne_of_none hq.2.1 hb)]; exact hq.2.1, hq.2.2⟩ ih
    exact keep kt
end
end Td

namespace Td
open PySem L2 PySem.Spec PyProof.Rows
/-! ### {(..): v, ..}: a display whose keys are tuples -/
structure It1 where
  k : List Key
  b : Addr
  v : V
def tDispT (trs : List (TE × TE)) : TE := fun σ H Q => ∀ p, H p = none → tPairs trs σ (upd H p (.dT [])) fun ps H2 => H2 p = some (.dT []) ∧ ∃ L : List It1, ps = L.map (fun e => (V.ref e.b, e.v)) ∧ L.length ≤ 15 ∧
  (∀ e ∈ L, H2 e.b = some (.tup (e.k.map kV))) ∧ (L.map (·.k)).Nodup ∧ Q (.ref p) (upd H2 p (.dT (L.map fun e => (e.k, e.v))))
theorem carriesT {P : Program} {w : World} {H : Hp} {h : Heap} (ok : HOk P w H h) : ∀ {L : List It1} {ws : List (Value × Value)}, (∀ e ∈ L, H e.b = some (.tup (e.k.map kV))) → VV (L.map fun e => (V.ref e.b, e.v)) ws →
    ∃ ps : List (List Key × Addr × Value), CarriesH (tupleKind (mixKind P w)) h ws ps ∧ ps.map (·.1) = L.map (·.k) ∧
      Paired (fun (p : List Key × V) (q : List Key × Addr × Value) => p.1 = q.1 ∧ H q.2.1 = some (.tup (p.1.map kV)) ∧ RelV p.2 q.2.2) (L.map fun e => (e.k, e.v)) ps
  | [], _, _, r => by rw [List.map_nil] at r; cases r; exact ⟨[], trivial, rfl, .nil⟩
  | e :: L, _, hk, r => by
    rw [List.map_cons] at r
    cases r with
    | @cons a b as bs h1 t =>
      obtain ⟨ps, c, m, q⟩ := carriesT ok (fun x hx => hk x (.tail _ hx)) t
      obtain ⟨b1, b2⟩ := b
      obtain ⟨g1, g2⟩ := h1
      exact ⟨(e.k, e.b, b2) :: ps, ⟨g1, rfl, key_of ok (hk e (.head _)), c⟩, by rw [List.map_cons, List.map_cons, m], .cons ⟨rfl, hk e (.head _), g2⟩ q⟩
theorem pe_dispT {X : Cx} {pos : Pos} {keys : List (Option Expr)} {values : List Expr} {trs : List (TE × TE)} (hu : X.A.units + 8 < cLine) (h : PPs X pos keys values trs) (hall : keys.all (·.isSome) = true) (hl : keys.length = values.length) (h0 : keys ≠ [])
    (h15 : keys.length ≤ 15) : PE X (.Dict keys values pos) (tDispT trs) := by
  refine ⟨fun pins s σ H Q I q => ?_⟩
  have hn := I.hok.fresh (Nat.le_refl s.heap.objs.size)
  have I1 := I.laid (a := s.heap.objs.size) (o := .dT []) (h' := s.heap.push { cls := .type "dict", data := .dict #[] }) (t' := s.toks) (fun _ _ q => Heap.get?_push_of_some _ q) (Nat.le_refl _) (dt_empty s.heap I.big)
  have hz := pairTrees_length keys values X.env pos hall hl
  rw [arm_eval_Dict, zip_pairTrees keys values X.env pos hall hl, dictDisplay_pairs (pairTrees keys values X.env pos) (fun e => by rw [e] at hz; exact h0 (List.length_eq_zero_iff.mp hz.symm)) (by omega)]
  refine wpAny_bind (wpAny_standAt (wpAny_bind (wpAny_subDictH (knd := tupleKind (mixKind X.prog X.w)) (by show X.A.units < cLine; omega) (by omega) (thn (h.run pins _ σ _ _ I1 (q _ hn)) fun ws s2 ⟨ps, H2, I2, rel, e, L, ep, few, hk, nd, q2⟩ => ?_))))
  subst ep
  obtain ⟨rs, c, m, rk⟩ := carriesT (w := X.w) I2.hok hk rel
  obtain ⟨z, hd, xs0, kt0, dd⟩ := dt_of I2.hok e
  cases kt0
  refine ⟨rs, c, dd, fun h' tk dd' hs => wpAny_pure ⟨.ref s.heap.objs.size, _, ?_, rfl, q2⟩⟩
  rw [storedAll_nodup _ _ (by rw [List.nil_append, m]; exact nd), List.nil_append] at dd'
  obtain ⟨o2, es, ep, g1, g2, g3, g4, g5, g6⟩ := dd'
  refine d_write I2 (by rw [e]; exact True.intro) hs ⟨o2, g1⟩ ⟨by rw [List.length_map, sizeLine_eq]; omega, hd, rs, ?_, o2, es, ep, g1, g2, g3, g4, g6⟩
  have keep : ∀ {l : List (List Key × V)} {m : List (List Key × Addr × Value)}, Paired (fun (p : List Key × V) (q : List Key × Addr × Value) => p.1 = q.1 ∧ H2 q.2.1 = some (.tup (p.1.map kV)) ∧ RelV p.2 q.2.2) l m →
      Paired (fun (p : List Key × V) (q : List Key × Addr × Value) => p.1 = q.1 ∧ (upd H2 s.heap.objs.size (.dT (L.map fun e => (e.k, e.v)))) q.2.1 = some (.tup (p.1.map kV)) ∧ RelV p.2 q.2.2) l m := by
    intro l m q
    induction q with
    | nil => exact .nil
    | cons hq t ih => exact .cons ⟨hq.1, by rw [upd_ne (ne_of hq.2.1 e (by intro z; cases z))]; exact hq.2.1, hq.2.2⟩ ih
  exact keep rk
end Td

namespace K71
open PySem L2 Gd B5 ZipG
abbrev sLn : Stmt := top 19
abbrev NLn : List Str := ["moves", "p", "found", "fresh", "power", "reached", "state", "number", "digit", "further", "told"]
theorem scLn : FnScope NLn ["moves", "p"] (defScope sLn) := ⟨rfl, rfl, rfl, by decide +kernel, rfl, by decide +kernel, by decide +kernel⟩
/-- what is found up to a level, what is fresh in it -/
def Ef (p : Nat) (step : Nat → Nat → Nat) (k : Nat) (t : Int) (m : Nat) : Prop := ∃ s : Nat, t = s ∧ ∃ L, L ≤ k ∧ LN p step L s m
def Elv (p : Nat) (step : Nat → Nat → Nat) (k : Nat) (t : Int) (m : Nat) : Prop := ∃ s : Nat, t = s ∧ LN p step k s m
def Ea (p : Nat) (step : Nat → Nat → Nat) (t : Int) (m : Nat) : Prop := ∃ s : Nat, t = s ∧ ∃ L, LN p step L s m
theorem ef_min {p k : Nat} {step : Nat → Nat → Nat} {t : Int} {m : Nat} (h : Ef p step k t m) : MinE (Ef p step k t) m := ⟨h, fun m' ⟨s', e', L', l', h'⟩ => by
  obtain ⟨s, e, L, l, h⟩ := h
  obtain rfl : s = s' := by omega
  exact Nat.le_of_eq (h.one h').2⟩
theorem er_min {p k : Nat} {step : Nat → Nat → Nat} {t : Int} {m : Nat} (h : Elv p step k t m) : MinE (Elv p step k t) m := ⟨h, fun m' ⟨s', e', h'⟩ => by
  obtain ⟨s, e, h⟩ := h
  obtain rfl : s = s' := by omega
  exact Nat.le_of_eq (h.one h').2⟩
/-- each level ahead of one that is not empty has a state of its own -/
theorem ln_chain {p : Nat} {step : Nat → Nat → Nat} : ∀ (k s m : Nat), LN p step k s m → ∃ l : List Nat, l.length = k + 1 ∧ l.Nodup ∧ ∀ x ∈ l, ∃ L m, L ≤ k ∧ LN p step L x m
  | 0, s, m, h => ⟨[s], rfl, by simp, fun x hx => by
      have : x = s := by simpa using hx
      subst this
      exact ⟨0, m, Nat.le_refl _, h⟩⟩
  | k + 1, s, m, h => by
    obtain ⟨⟨_, s', m', d, h', _⟩, _⟩ := level_next.mpr h
    obtain ⟨l, e1, e2, e3⟩ := ln_chain k s' m' h'
    refine ⟨s :: l, by rw [List.length_cons, e1], List.nodup_cons.mpr ⟨fun hx => ?_, e2⟩, fun x hx => ?_⟩
    · obtain ⟨L, m2, hL, h2⟩ := e3 s hx
      have := (h2.one h).1
      omega
    · rcases List.mem_cons.mp hx with rfl | hx
      · exact ⟨k + 1, m, Nat.le_refl _, h⟩
      · obtain ⟨L, m2, hL, h2⟩ := e3 x hx
        exact ⟨L, m2, by omega, h2⟩
theorem ln_below {p n : Nat} {step : Nat → Nat → Nat} (cl : ∀ s d, s < n → d < p → step s d < n) (n0 : 0 < n) {L s m : Nat} (h : LN p step L s m) : s < n := by
  obtain ⟨w, _, g, rfl, _⟩ := h.wd
  have key : ∀ (w : List Nat) (s : Nat), s < n → Dg p w → runW step s w < n := by
    intro w
    induction w with
    | nil => intro s hs _; exact hs
    | cons d w ih => intro s hs g; exact ih _ (cl s d hs (g d (.head _))) fun x hx => g x (.tail _ hx)
  exact key w 0 n0 g
theorem ln_bound {p n : Nat} {step : Nat → Nat → Nat} (cl : ∀ s d, s < n → d < p → step s d < n) (n0 : 0 < n) {k s m : Nat} (h : LN p step k s m) : k < n := by
  obtain ⟨l, e1, e2, e3⟩ := ln_chain k s m h
  have := nodup_below n l e2 fun x hx => by
    obtain ⟨L, m, _, h⟩ := e3 x hx
    exact ln_below cl n0 h
  omega
/-- the steps of a level that were made so far -/
def Ep (p : Nat) (step : Nat → Nat → Nat) (k : Nat) (kvs : List (Key × V)) (i j : Nat) (t : Int) (v : Nat) : Prop := ∃ x : Nat, t = x ∧ (¬ ∃ L m, L ≤ k ∧ LN p step L x m) ∧ ∃ s m d : Nat, ((∃ i', i' < i ∧ kvs[i']? = some (Sum.inl (s : Int), V.int (m : Nat))) ∨ (kvs[i]? = some (Sum.inl (s : Int), V.int (m : Nat)) ∧ d < j)) ∧ d < p ∧ step s d = x ∧ v = m + d * p ^ k
theorem ep_zero {p k : Nat} {step : Nat → Nat → Nat} {kvs : List (Key × V)} : ∀ t m, ¬ Ep p step k kvs 0 0 t m := fun t m ⟨x, _, _, s, m', d, h, _⟩ => by
  rcases h with ⟨i, hi, _⟩ | ⟨_, hd⟩
  · exact absurd hi (Nat.not_lt_zero _)
  · exact absurd hd (Nat.not_lt_zero _)
theorem ep_row {p k i : Nat} {step : Nat → Nat → Nat} {kvs : List (Key × V)} : ∀ t m, Ep p step k kvs (i + 1) 0 t m ↔ Ep p step k kvs i p t m := fun t m => by
  constructor
  · rintro ⟨x, e, n, s, m', d, h, hd, e1, e2⟩
    refine ⟨x, e, n, s, m', d, ?_, hd, e1, e2⟩
    rcases h with ⟨i', hi, hk⟩ | ⟨_, z⟩
    · by_cases z : i' = i
      · subst z; exact .inr ⟨hk, hd⟩
      · exact .inl ⟨i', by omega, hk⟩
    · exact absurd z (Nat.not_lt_zero _)
  · rintro ⟨x, e, n, s, m', d, h, hd, e1, e2⟩
    refine ⟨x, e, n, s, m', d, .inl ?_, hd, e1, e2⟩
    rcases h with ⟨i', hi, hk⟩ | ⟨hk, _⟩
    · exact ⟨i', by omega, hk⟩
    · exact ⟨i, by omega, hk⟩
theorem ep_end {p k : Nat} {step : Nat → Nat → Nat} {kvs : List (Key × V)} (h : KD kvs (Elv p step k)) : ∀ t v, Ep p step k kvs kvs.length 0 t v ↔ ∃ x : Nat, t = x ∧ Ev p step k x v := fun t v => by
  constructor
  · rintro ⟨x, e, n, s, m', d, h', hd, e1, e2⟩
    refine ⟨x, e, n, s, m', d, ?_, hd, e1, e2⟩
    rcases h' with ⟨i', hi, hk⟩ | ⟨hk, _⟩
    · obtain ⟨t', m2, eq, mm⟩ := h.mem _ (List.mem_of_getElem? hk)
      obtain ⟨s', e', h'⟩ := mm.1
      have a := congrArg Prod.fst eq
      have b := congrArg Prod.snd eq
      have a : (s : Int) = t' := Sum.inl.inj a
      have b : ((m' : Nat) : Int) = ((m2 : Nat) : Int) := V.int.inj b
      obtain rfl : s = s' := by omega
      obtain rfl : m' = m2 := by omega
      exact h'
    · rw [List.getElem?_eq_none (Nat.le_refl _)] at hk
      cases hk
  · rintro ⟨x, e, n, s, m', d, h', hd, e1, e2⟩
    refine ⟨x, e, n, s, m', d, .inl ?_, hd, e1, e2⟩
    have hv := h.has (er_min (p := p) (step := step) (k := k) (t := (s : Int)) (m := m') ⟨s, rfl, h'⟩)
    obtain ⟨i', hi⟩ := List.getElem?_of_mem (mem_valV hv)
    exact ⟨i', (List.getElem?_eq_some_iff.mp hi).1, hi⟩
theorem ep_step {p k i j s m : Nat} {step : Nat → Nat → Nat} {kvs : List (Key × V)} (hi : kvs[i]? = some (Sum.inl (s : Int), V.int (m : Nat))) (hj : j < p) : ∀ t v, Ep p step k kvs i (j + 1) t v ↔ Ep p step k kvs i j t v ∨ (t = (step s j : Nat) ∧ (¬ ∃ L m, L ≤ k ∧ LN p step L (step s j) m) ∧ v = m + j * p ^ k) := fun t v => by
  constructor
  · rintro ⟨x, e, n, s', m', d, h, hd, e1, e2⟩
    rcases h with h | ⟨hk, hd2⟩
    · exact .inl ⟨x, e, n, s', m', d, .inl h, hd, e1, e2⟩
    · by_cases z : d = j
      · subst z
        rw [hi] at hk
        have eq := Option.some.inj hk
        have a : (s : Int) = (s' : Int) := Sum.inl.inj (congrArg Prod.fst eq)
        have b : ((m : Nat) : Int) = ((m' : Nat) : Int) := V.int.inj (congrArg Prod.snd eq)
        obtain rfl : s = s' := by omega
        obtain rfl : m = m' := by omega
        subst e1
        exact .inr ⟨e, n, e2⟩
      · exact .inl ⟨x, e, n, s', m', d, .inr ⟨hk, by omega⟩, hd, e1, e2⟩
  · rintro (⟨x, e, n, s', m', d, h, hd, e1, e2⟩ | ⟨e, n, e2⟩)
    · refine ⟨x, e, n, s', m', d, ?_, hd, e1, e2⟩
      rcases h with h | ⟨hk, hd2⟩
      · exact .inl h
      · exact .inr ⟨hk, by omega⟩
    · exact ⟨_, e, n, s, m, j, .inr ⟨hi, by omega⟩, hj, rfl, e2⟩
theorem kd_start {p : Nat} {step : Nat → Nat → Nat} : KD [(Sum.inl (0 : Int), V.int (0 : Nat))] (Elv p step 0) := ⟨by simp, fun q hq => by
    have : q = (Sum.inl (0 : Int), V.int (0 : Nat)) := by simpa using hq
    exact ⟨0, 0, this, er_min ⟨0, rfl, ln_start⟩⟩, fun t m ⟨s, e, h⟩ => by
    obtain ⟨rfl, rfl⟩ := ln_zero h
    subst e
    exact ⟨_, rfl⟩⟩
theorem ef_zero {p : Nat} {step : Nat → Nat → Nat} : ∀ t m, Ef p step 0 t m ↔ Elv p step 0 t m := fun t m => by
  constructor
  · rintro ⟨s, e, L, l, h⟩
    obtain rfl : L = 0 := by omega
    exact ⟨s, e, h⟩
  · rintro ⟨s, e, h⟩
    exact ⟨s, e, 0, Nat.le_refl _, h⟩
theorem ef_succ {p k : Nat} {step : Nat → Nat → Nat} : ∀ t m, Ef p step (k + 1) t m ↔ Ef p step k t m ∨ Elv p step (k + 1) t m := fun t m => by
  constructor
  · rintro ⟨s, e, L, l, h⟩
    by_cases z : L = k + 1
    · subst z; exact .inr ⟨s, e, h⟩
    · exact .inl ⟨s, e, L, by omega, h⟩
  · rintro (⟨s, e, L, l, h⟩ | ⟨s, e, h⟩)
    · exact ⟨s, e, L, by omega, h⟩
    · exact ⟨s, e, k + 1, Nat.le_refl _, h⟩
/-- the numbers of the states are told by a dict -/
def spLn (K : PySem.W.Frag) : Sp := fun vs H Q _ => ∃ (t : Addr) (xs : List V) (p : Nat) (dss : List (List Int)) (ws : List Int), vs = [.ref t, .int p] ∧ SqT K H t xs ∧ Paired (TupI K H) xs dss ∧ MGood p dss ws ∧
  ∀ (H' : Hp) (d : Addr) (kvs : List (Key × V)), More H H' → H d = none → H' d = some (.dK kvs) → KD kvs (Ea p (stepT dss)) → Q (.ref d) H'
section
variable {P : Program} {w : World} {K : PySem.W.Frag} {mg : Str → Option Value} {base : Heap} {f : Addr} {fd : FuncData}
theorem ok_ln (F : Fun K "least_numbers" "least_numbers" sLn f fd) (B : Blt mg) (zEnum : mg "enumerate" = none) (zMin : mg "min" = none) : FnOk P w K mg base CX0 1 f fd ["moves", "p"] (spLn K) := by
  refine F.ok scLn (fun vs H Q E h => ?_) (fun cdv A outer s H vs Q E hr h => ?_)
  · obtain ⟨t, xs, p, dss, ws, rfl, _⟩ := h
    rfl
  · obtain ⟨t, xs, p, dss, ws, rfl, sq, pr, g, q⟩ := h
    have hu := hu_of hr
    refine ⟨_, pss_cons (ps_set (i := 2) scLn.nd rfl (Or.inl rfl) (pe_disp (pps_cons pe_int pe_int pps_nil) rfl rfl (by simp) (by decide)))
      (pss_cons (ps_set (i := 3) scLn.nd rfl (Or.inl rfl) (pe_disp (pps_cons pe_int pe_int pps_nil) rfl rfl (by simp) (by decide)))
      (pss_cons (ps_set (i := 4) scLn.nd rfl (Or.inl rfl) pe_int)
      (pss_cons (ps_while PassesOwn.never (pt_truth (pv 3) (by intro _; rfl))
        (pss_cons (ps_set (i := 5) scLn.nd rfl (Or.inl rfl) pe_dnewK)
        (Evl.pss_cut (ps_lock (ps_for PassesOwn.never rfl (pi_items (pv 3)) (pg_tup rfl (pgs_cons (pg_name (i := 6) scLn.nd rfl (Or.inl rfl)) (pgs_cons (pg_name (i := 7) scLn.nd rfl (Or.inl rfl)) pgs_nil)))
          (pss_one (ps_for PassesOwn.never rfl (pi_enT (by rfl) zEnum (pa_cons (pe_ix ix_tup (pv 0) (pv 6) (fun _ _ => rfl)) pa_nil)) (pg_tup rfl (pgs_cons (pg_name (i := 8) scLn.nd rfl (Or.inl rfl)) (pgs_cons (pg_name (i := 9) scLn.nd rfl (Or.inl rfl)) pgs_nil)))
            (pss_one (ps_if (pt_cmp (pc_dnotin hu (pv 9) (pv 2)))
              (pss_cons (ps_set (i := 10) scLn.nd rfl (Or.inl rfl) (pe_op op_add (pv 7) (pe_op op_mul (pv 8) (pv 4))))
              (pss_one (ps_dput hu (pv 5) (pv 9) (pe_callB (call_min2 rfl) (by rfl) zMin (by decide +kernel) (pa_cons (pv 10) (pa_cons (pe_dget2 hu (pv 5) (pv 9) (pv 10) ⟨rfl, rfl, rfl, rfl⟩) pa_nil))) rfl))) pss_nil))))))
        (Evl.pss_cut (ps_lock (ps_for PassesOwn.never rfl (pi_items (pv 5)) (pg_tup rfl (pgs_cons (pg_name (i := 6) scLn.nd rfl (Or.inl rfl)) (pgs_cons (pg_name (i := 7) scLn.nd rfl (Or.inl rfl)) pgs_nil)))
          (pss_one (ps_dput hu (pv 2) (pv 6) (pv 7) rfl))))
        (pss_cons (ps_set (i := 3) scLn.nd rfl (Or.inl rfl) (pv 5))
        (pss_one (ps_set (i := 4) scLn.nd rfl (Or.inl rfl) (pe_op op_mul (pv 4) (pv 1)))))))))
      (pss_one (ps_ret (pv 2)))))), ?_⟩
    obtain ⟨n, hn⟩ : ∃ n, n = dss.length := ⟨_, rfl⟩
    obtain ⟨st, hst⟩ : ∃ st, st = stepT dss := ⟨_, rfl⟩
    have n0 : 0 < n := hn ▸ List.length_pos_iff.mpr g.ne
    have few : n ≤ 1000 := hn ▸ g.few
    obtain ⟨p2, p7⟩ := isPr_small g.pr
    have cl : ∀ s d, s < n → d < p → st s d < n := by rw [hn, hst]; exact good_cl g
    rw [← hst] at q
    have efb : ∀ k t m, Ef p st k t m → 0 ≤ t ∧ t < (n : Int) := fun k t m ⟨s, e, L, l, h⟩ => by
      have := ln_below cl n0 h
      omega
    have erb : ∀ k t m, Elv p st k t m → 0 ≤ t ∧ t < (n : Int) := fun k t m ⟨s, e, h⟩ => by
      have := ln_below cl n0 h
      omega
    refine fun f hf => ⟨upd_same, [(Sum.inl (0 : Int), V.int (0 : Nat))], rfl, by show 1 ≤ 15; omega, ?_⟩
    rw [upd_upd]
    have m1 := new_more (o := .dK (mergeK [] [(Sum.inl (0 : Int), V.int (0 : Nat))])) hf
    have kf1 : (upd H f (.dK (mergeK [] [(Sum.inl (0 : Int), V.int (0 : Nat))]))) f = some (.dK [(Sum.inl (0 : Int), V.int (0 : Nat))]) := upd_same
    generalize upd H f (.dK (mergeK [] [(Sum.inl (0 : Int), V.int (0 : Nat))])) = H1 at m1 kf1 ⊢
    refine fun fr hfr => ⟨upd_same, [(Sum.inl (0 : Int), V.int (0 : Nat))], rfl, by show 1 ≤ 15; omega, ?_⟩
    rw [upd_upd]
    have m2 := new_more (o := .dK (mergeK [] [(Sum.inl (0 : Int), V.int (0 : Nat))])) hfr
    have hfr0 : H fr = none := m1.off hfr
    have ffr : f ≠ fr := ne_of_none kf1 hfr
    have kr2 : (upd H1 fr (.dK (mergeK [] [(Sum.inl (0 : Int), V.int (0 : Nat))]))) fr = some (.dK [(Sum.inl (0 : Int), V.int (0 : Nat))]) := upd_same
    have kf2 := m2 _ _ kf1
    have m02 : More H (upd H1 fr (.dK (mergeK [] [(Sum.inl (0 : Int), V.int (0 : Nat))]))) := fun b o e => m2 _ _ (m1 _ _ e)
    generalize upd H1 fr (.dK (mergeK [] [(Sum.inl (0 : Int), V.int (0 : Nat))])) = H2 at kr2 kf2 m02 ⊢
    clear m1 m2 kf1 hfr
    refine ⟨fun m σ' H' => ∃ (k : Nat) (fr : Addr) (kf kr : List (Key × V)) (z5 z6 z7 z8 z9 z10 : Option V), m = n - k ∧ k ≤ n ∧ σ' = [some (.ref t), some (.int p), some (.ref f), some (.ref fr), some (.int (p ^ k : Nat)), z5, z6, z7, z8, z9, z10] ∧
        H' f = some (.dK kf) ∧ KD kf (Ef p st k) ∧ H' fr = some (.dK kr) ∧ KD kr (Elv p st k) ∧ f ≠ fr ∧ H fr = none ∧ More H H', ⟨n, 0, fr, _, _, none, none, none, none, none, none, rfl, Nat.zero_le _, rfl, kf2, kd_start.eq ef_zero, kr2, kd_start, ffr, hfr0, m02⟩, ?_⟩
    clear kr2 kf2 m02 ffr hfr0
    rintro m σ' G ⟨k, fr, kf, kr, z5, z6, z7, z8, z9, z10, rfl, hk, rfl, hff, kdf, hfr, kdr, ffr, hfr0, mG⟩
    refine ⟨_, rfl, _, .inr (.inr ⟨kr, hfr, rfl⟩), ?_⟩
    by_cases ek : kr = []
    · rw [ek] at kdr ⊢
      have no : ∀ s m, ¬ LN p st k s m := fun s m h => kdr.off (t := (s : Int)) rfl m ⟨s, rfl, h⟩
      refine iteF ⟨_, rfl, q G f kf mG hf hff (kdf.eq fun x m => ?_)⟩
      constructor
      · rintro ⟨s, e, L, h⟩
        exact ⟨s, e, L, Nat.le_of_lt (ln_end no L s m h), h⟩
      · rintro ⟨s, e, L, _, h⟩
        exact ⟨s, e, L, h⟩
    have en : (!kr.isEmpty) = true := by
      cases kr with
      | nil => exact absurd rfl ek
      | cons _ _ => rfl
    rw [en]
    have kn : k < n := by
      cases hkr : kr with
      | nil => exact absurd hkr ek
      | cons a r =>
        obtain ⟨t', m', _, mm⟩ := kdr.mem a (by rw [hkr]; exact .head _)
        obtain ⟨s, _, h⟩ := mm.1
        exact ln_bound cl n0 h
    refine iteT ⟨fun σ' H' => ∃ (fr : Addr) (kf kr : List (Key × V)) (z5 z6 z7 z8 z9 z10 : Option V), σ' = [some (.ref t), some (.int p), some (.ref f), some (.ref fr), some (.int (p ^ (k + 1) : Nat)), z5, z6, z7, z8, z9, z10] ∧
        H' f = some (.dK kf) ∧ KD kf (Ef p st (k + 1)) ∧ H' fr = some (.dK kr) ∧ KD kr (Elv p st (k + 1)) ∧ f ≠ fr ∧ H fr = none ∧ More H H', fun σ' H' ⟨fr, kf, kr, z5, z6, z7, z8, z9, z10, h⟩ => ⟨n - (k + 1), by omega, k + 1, fr, kf, kr, z5, z6, z7, z8, z9, z10, rfl, kn, h⟩, ?_⟩
    refine fun re hre => ?_
    have mR := new_more (o := .dK []) hre
    have hre0 : H re = none := mG.off hre
    have fre : f ≠ re := ne_of_none hff hre
    have frre : fr ≠ re := ne_of_none hfr hre
    have hff1 := mR _ _ hff
    have hfr1 := mR _ _ hfr
    have hre1 : (upd G re (.dK [])) re = some (.dK []) := upd_same
    have mG1 : More H (upd G re (.dK [])) := fun b o e => mR _ _ (mG _ _ e)
    generalize upd G re (.dK []) = G1 at hff1 hfr1 hre1 mG1 ⊢
    clear mR hre hff hfr mG
    have epb : ∀ i j t m, Ep p st k kr i j t m → 0 ≤ t ∧ t < (n : Int) := fun i j t m ⟨x, e, _, s, m', d, hs, hd, e1, _⟩ => by
      have sn : s < n := by
        have key : ∀ i', kr[i']? = some (Sum.inl (s : Int), V.int (m' : Nat)) → s < n := fun i' h => by
          obtain ⟨t', m2, eq, mm⟩ := kdr.mem _ (List.mem_of_getElem? h)
          have a : (s : Int) = t' := Sum.inl.inj (congrArg Prod.fst eq)
          have := erb _ _ _ mm.1
          omega
        rcases hs with ⟨i', _, h⟩ | ⟨h, _⟩
        · exact key i' h
        · exact key i h
      have := cl s d sn hd
      omega
    -- the steps of the level
    refine ⟨fun σ' H' => ∃ (ke : List (Key × V)) (z6 z7 z8 z9 z10 : Option V), σ' = [some (.ref t), some (.int p), some (.ref f), some (.ref fr), some (.int (p ^ k : Nat)), some (.ref re), z6, z7, z8, z9, z10] ∧ H' f = some (.dK kf) ∧ H' re = some (.dK ke) ∧ KD ke (Elv p st (k + 1)) ∧ More H H', ?_, ?_⟩
    · refine ⟨fr, .dK kr, hfr1, True.intro, fun od => ?_⟩
      have hff2 : (upd G1 fr (.frz od (.dK kr))) f = some (.dK kf) := (upd_ne ffr).trans hff1
      have hre2 : (upd G1 fr (.frz od (.dK kr))) re = some (.dK []) := (upd_ne frre.symm).trans hre1
      have m2 : More H (upd G1 fr (.frz od (.dK kr))) := More.at mG1 hfr0
      have hfz2 : (upd G1 fr (.frz od (.dK kr))) fr = some (.frz od (.dK kr)) := upd_same
      generalize upd G1 fr (.frz od (.dK kr)) = G2 at hff2 hre2 m2 hfz2 ⊢
      refine ⟨_, rfl, fr, od, kr, rfl, hfz2, for_it (walk_items (kvs := kr)) (fun i σ' H' => ∃ (z6 z7 z8 z9 z10 : Option V) (ke : List (Key × V)), σ' = [some (.ref t), some (.int p), some (.ref f), some (.ref fr), some (.int (p ^ k : Nat)), some (.ref re), z6, z7, z8, z9, z10] ∧ H' fr = some (.frz od (.dK kr)) ∧ H' f = some (.dK kf) ∧ H' re = some (.dK ke) ∧ KD ke (Ep p st k kr i 0) ∧ More H H')
        ⟨z6, z7, z8, z9, z10, [], rfl, hfz2, hff2, hre2, KD.nil ep_zero, m2⟩ (fun i σ' H' _ ⟨_, _, _, _, _, _, _, h, _⟩ => h) ?_ ?_⟩
      · rintro i x σ' G3 G4 hi ⟨z6, z7, z8, z9, z10, ke, rfl, hfz, hff, hre, kde, m⟩ ⟨T, u, y, rfl, nT, rfl, hu0, hy0⟩
        obtain ⟨qi, hqi⟩ : ∃ qi, kr[i]? = some qi := ⟨kr[i], List.getElem?_eq_getElem hi⟩
        have hu0 : (kr[i]?).map (fun kv => kV kv.1) = some u := hu0
        have hy0 : (kr[i]?).map Prod.snd = some y := hy0
        rw [hqi] at hu0 hy0
        obtain ⟨t', m', rfl, mm⟩ := kdr.mem qi (List.mem_of_getElem? hqi)
        obtain ⟨s, rfl, hln⟩ := mm.1
        cases hu0
        cases hy0
        have sn := ln_below cl n0 hln
        have mT := new_more (o := .tup [kV (Sum.inl ((s : Nat) : Int)), V.int ((m' : Nat) : Int)]) nT
        have kT : (upd G3 T (.tup [kV (Sum.inl ((s : Nat) : Int)), V.int ((m' : Nat) : Int)])) T = some (.tup [V.int ((s : Nat) : Int), V.int ((m' : Nat) : Int)]) := upd_same
        have hfz := mT _ _ hfz
        have hff := mT _ _ hff
        have hre := mT _ _ hre
        have m : More H (upd G3 T (.tup [kV (Sum.inl ((s : Nat) : Int)), V.int ((m' : Nat) : Int)])) := fun b o e => mT _ _ (m _ _ e)
        generalize upd G3 T (.tup [kV (Sum.inl ((s : Nat) : Int)), V.int ((m' : Nat) : Int)]) = G4 at kT hfz hff hre m ⊢
        refine ⟨T, _, rfl, SqT.of kT, rfl, _, _, rfl, _, _, rfl, rfl, ?_⟩
        have sq4 := sqT_more m sq
        have pr4 := paired_imp (fun v k r => TupI.more (K := K) m r) pr
        obtain ⟨b, row, hb, sb, erow, lrow, brow⟩ := tup_row pr4 g (s := s) (by omega)
        rw [← hst] at erow
        refine ⟨_, rfl, _, rfl, t, xs, ((s : Nat) : Int), _, rfl, rfl, sq4, atI_nat hb, b, row.map nV, rfl, sb, for_it walk_enT (fun j σ' H' => ∃ (z8 z9 z10 : Option V) (ke : List (Key × V)), σ' = [some (.ref t), some (.int p), some (.ref f), some (.ref fr), some (.int (p ^ k : Nat)), some (.ref re), some (.int s), some (.int m'), z8, z9, z10] ∧ H' fr = some (.frz od (.dK kr)) ∧ H' f = some (.dK kf) ∧ H' re = some (.dK ke) ∧ KD ke (Ep p st k kr i j) ∧ More H H' ∧ SqT K H' b (row.map nV))
          ⟨z8, z9, z10, ke, rfl, hfz, hff, hre, kde, m, sb⟩ (fun j σ' H' _ ⟨_, _, _, _, _, _, _, _, _, _, h⟩ => h) ?_ ?_⟩
        · clear hfz hff hre kde m mT kT sq4 pr4 sb
          rintro j x σ' G5 G6 hj ⟨z8, z9, z10, ke, rfl, hfz, hff, hre, kde, m, sb⟩ ⟨T2, u2, y2, rfl, nT2, rfl, hu2, hy2⟩
          cases hu2
          obtain ⟨x0, hx0, rfl⟩ := map_at hy2
          rw [List.length_map, lrow] at hj
          have ex0 : x0 = st s j := by
            rw [erow, leadS_at hj] at hx0
            exact (Option.some.inj hx0).symm
          have mT := new_more (o := .tup [V.int ((j : Nat) : Int), nV x0]) nT2
          have kT : (upd G5 T2 (.tup [V.int ((j : Nat) : Int), nV x0])) T2 = some (.tup [V.int ((j : Nat) : Int), nV x0]) := upd_same
          have hfz := mT _ _ hfz
          have hff := mT _ _ hff
          have hre := mT _ _ hre
          have sb := sqT_more mT sb
          have m : More H (upd G5 T2 (.tup [V.int ((j : Nat) : Int), nV x0])) := fun b o e => mT _ _ (m _ _ e)
          generalize upd G5 T2 (.tup [V.int ((j : Nat) : Int), nV x0]) = G6 at kT hfz hff hre m sb ⊢
          refine ⟨T2, _, rfl, SqT.of kT, rfl, _, _, rfl, _, _, rfl, rfl, ?_⟩
          have es := ep_step (p := p) (step := st) (k := k) (kvs := kr) (i := i) (s := s) (m := m') hqi hj
          rw [← ex0] at es
          refine ⟨_, rfl, _, rfl, f, _, rfl, DGet.k (k := Sum.inl ((x0 : Nat) : Int)) hff, _, rfl, ?_⟩
          cases ev : valV kf (Sum.inl ((x0 : Nat) : Int)) with
          | some v =>
            obtain ⟨m2, _, mm2⟩ := kdf.get ev
            obtain ⟨s2, e2, L2, l2, h2⟩ := mm2.1
            obtain rfl : x0 = s2 := by omega
            refine iteF ⟨_, _, _, ke, rfl, hfz, hff, hre, kde.eq fun y w => ?_, m, sb⟩
            rw [es]
            exact ⟨fun h => h.elim id fun ⟨_, no, _⟩ => absurd ⟨L2, m2, l2, h2⟩ no, .inl⟩
          | none =>
            have off : ¬ ∃ L m, L ≤ k ∧ LN p st L x0 m := fun ⟨L, m2, l2, h2⟩ => kdf.off ev m2 ⟨x0, rfl, L, l2, h2⟩
            have el : kf.length < 1001 := by have := kdf.len (efb k); omega
            have le : ke.length < 1001 := by have := kde.len (epb i j); omega
            refine iteT ⟨_, rfl, _, rfl, _, rfl, _, _, rfl, rfl, .inl ⟨by omega, by omega⟩, _, _, rfl, rfl, ?_⟩
            have et : ((m' : Nat) : Int) + ((j : Nat) : Int) * ((p ^ k : Nat) : Int) = ((m' + j * p ^ k : Nat) : Int) := by rw [Int.natCast_add, Int.natCast_mul]
            show gName 10 (V.int (((m' : Nat) : Int) + ((j : Nat) : Int) * ((p ^ k : Nat) : Int))) _ _ _
            rw [et]
            obtain ⟨told, htold⟩ : ∃ told, told = m' + j * p ^ k := ⟨_, rfl⟩
            rw [← htold] at es ⊢
            clear et
            refine ⟨_, rfl, _, rfl, re, rfl, .inl ⟨ke, .inl hre⟩, _, rfl, _, rfl, _, DGet.k (k := Sum.inl ((x0 : Nat) : Int)) hre, ?_⟩
            have fin : ∀ w : Nat, MinE (Ep p st k kr i (j + 1) ((x0 : Nat) : Int)) w → ∃ (z8 z9 z10 : Option V) (ke' : List (Key × V)), [some (V.ref t), some (.int p), some (.ref f), some (.ref fr), some (.int (p ^ k : Nat)), some (.ref re), some (.int s), some (.int m'), some (.int ((j : Nat) : Int)), some (nV x0), some (.int ((told : Nat) : Int))] = [some (V.ref t), some (.int p), some (.ref f), some (.ref fr), some (.int (p ^ k : Nat)), some (.ref re), some (.int s), some (.int m'), z8, z9, z10] ∧
                (upd G6 re (.dK (putK ke (Sum.inl ((x0 : Nat) : Int)) (V.int ((w : Nat) : Int))))) fr = some (.frz od (.dK kr)) ∧ (upd G6 re (.dK (putK ke (Sum.inl ((x0 : Nat) : Int)) (V.int ((w : Nat) : Int))))) f = some (.dK kf) ∧ (upd G6 re (.dK (putK ke (Sum.inl ((x0 : Nat) : Int)) (V.int ((w : Nat) : Int))))) re = some (.dK ke') ∧ KD ke' (Ep p st k kr i (j + 1)) ∧ More H (upd G6 re (.dK (putK ke (Sum.inl ((x0 : Nat) : Int)) (V.int ((w : Nat) : Int))))) ∧ SqT K (upd G6 re (.dK (putK ke (Sum.inl ((x0 : Nat) : Int)) (V.int ((w : Nat) : Int))))) b (row.map nV) := fun w mw => by
              refine ⟨_, _, _, _, rfl, (upd_ne frre).trans hfz, (upd_ne fre).trans hff, upd_same, kde.put mw fun y hy v => ?_, More.at m hre0, ?_⟩
              · rw [es]
                exact ⟨fun h => h.elim id fun ⟨e, _, _⟩ => absurd e hy, .inl⟩
              · rcases sb with (h | ⟨o', h⟩) | h
                · exact .inl (.inl ((upd_ne (ne_of h hre (fun z => by cases z))).trans h))
                · exact .inl (.inr ⟨o', (upd_ne (ne_of h hre (fun z => by cases z))).trans h⟩)
                · exact .inr h
            cases ee : valV ke (Sum.inl ((x0 : Nat) : Int)) with
            | none =>
              have no := kde.off ee
              refine ⟨_, _, rfl, ?_⟩
              have e0 : (if ((told : Nat) : Int) < ((told : Nat) : Int) then ((told : Nat) : Int) else ((told : Nat) : Int)) = ((told : Nat) : Int) := by split <;> rfl
              show _
              rw [e0]
              exact ⟨_, rfl, _, rfl, re, _, rfl, DPut.k (k := Sum.inl ((x0 : Nat) : Int)) hre (small1000 (by omega)), fin told ⟨(es _ _).mpr (.inr ⟨rfl, off, rfl⟩), fun v hv => by
                rcases (es _ _).mp hv with h | ⟨_, _, h⟩
                · exact absurd h (no v)
                · omega⟩⟩
            | some v =>
              obtain ⟨m2, rfl, mm2⟩ := kde.get ee
              refine ⟨_, _, rfl, ?_⟩
              have e0 : (if ((m2 : Nat) : Int) < ((told : Nat) : Int) then ((m2 : Nat) : Int) else ((told : Nat) : Int)) = ((min told m2 : Nat) : Int) := by split <;> omega
              show _
              rw [e0]
              exact ⟨_, rfl, _, rfl, re, _, rfl, DPut.k (k := Sum.inl ((x0 : Nat) : Int)) hre (small1000 (by omega)), fin (min told m2) ⟨by
                by_cases z : told ≤ m2
                · rw [Nat.min_eq_left z]; exact (es _ _).mpr (.inr ⟨rfl, off, rfl⟩)
                · rw [Nat.min_eq_right (by omega)]; exact (es _ _).mpr (.inl mm2.1), fun v hv => by
                rcases (es _ _).mp hv with h | ⟨_, _, h⟩
                · have := mm2.2 v h
                  omega
                · omega⟩⟩
        · rintro σ' G5 ⟨z8, z9, z10, ke, rfl, hfz, hff, hre, kde, m, sb⟩
          rw [List.length_map, lrow] at kde
          exact ⟨_, _, _, _, _, ke, rfl, hfz, hff, hre, kde.eq ep_row, m⟩
      · rintro σ' G3 ⟨z6, z7, z8, z9, z10, ke, rfl, hfz, hff, hre, kde, m⟩
        have ee := ep_end (p := p) (step := st) (k := k) kdr
        have mins : ∀ t v, MinE (Ep p st k kr kr.length 0 t) v ↔ Elv p st (k + 1) t v := fun t v => by
          constructor
          · rintro ⟨h, least⟩
            obtain ⟨x, rfl, e⟩ := (ee t v).mp h
            exact ⟨x, rfl, level_next.mp ⟨e, fun v' e' => least v' ((ee _ _).mpr ⟨x, rfl, e'⟩)⟩⟩
          · rintro ⟨x, rfl, h⟩
            obtain ⟨e, least⟩ := level_next.mpr h
            exact ⟨(ee _ _).mpr ⟨x, rfl, e⟩, fun v' h' => by
              obtain ⟨x', e1, e'⟩ := (ee _ _).mp h'
              obtain rfl : x = x' := by omega
              exact least v' e'⟩
        refine ⟨hfz, ke, _, _, _, _, _, rfl, (upd_ne ffr).trans hff, (upd_ne frre.symm).trans hre, kde.to (fun t v h => er_min ((mins t v).mp h)) (fun t v h => ⟨v, ((mins t v).mpr h).1⟩), More.at m hfr0⟩
    clear hff1 hfr1 hre1 mG1 z6 z7 z8 z9 z10
    rintro σ' G2 ⟨ke, z6, z7, z8, z9, z10, rfl, hff, hre, kde, mG⟩
    have kel := kde.len (erb (k + 1))
    refine ⟨fun σ' H' => ∃ (kf' : List (Key × V)) (z6 z7 z8 z9 z10 : Option V), σ' = [some (.ref t), some (.int p), some (.ref f), some (.ref fr), some (.int (p ^ k : Nat)), some (.ref re), z6, z7, z8, z9, z10] ∧ H' f = some (.dK kf') ∧ KD kf' (Ef p st (k + 1)) ∧ H' re = some (.dK ke) ∧ More H H', ?_, ?_⟩
    · refine ⟨re, .dK ke, hre, True.intro, fun od => ?_⟩
      have hff2 : (upd G2 re (.frz od (.dK ke))) f = some (.dK kf) := (upd_ne fre).trans hff
      have m2 : More H (upd G2 re (.frz od (.dK ke))) := More.at mG hre0
      have hfz2 : (upd G2 re (.frz od (.dK ke))) re = some (.frz od (.dK ke)) := upd_same
      generalize upd G2 re (.frz od (.dK ke)) = G3 at hff2 m2 hfz2 ⊢
      refine ⟨_, rfl, re, od, ke, rfl, hfz2, for_it (walk_items (kvs := ke)) (fun i σ' H' => ∃ (z6 z7 : Option V) (kf' : List (Key × V)), σ' = [some (.ref t), some (.int p), some (.ref f), some (.ref fr), some (.int (p ^ k : Nat)), some (.ref re), z6, z7, z8, z9, z10] ∧ H' re = some (.frz od (.dK ke)) ∧ H' f = some (.dK kf') ∧ KD kf' (fun t m => Ef p st k t m ∨ ∃ i', i' < i ∧ ke[i']? = some (Sum.inl t, V.int ((m : Nat) : Int))) ∧ More H H')
        ⟨z6, z7, kf, rfl, hfz2, hff2, kdf.eq fun t m => ⟨fun h => h.elim id fun ⟨i', hi, _⟩ => absurd hi (Nat.not_lt_zero _), .inl⟩, m2⟩ (fun i σ' H' _ ⟨_, _, _, _, h, _⟩ => h) ?_ ?_⟩
      · rintro i x σ' G4 G5 hi ⟨z6, z7, kf', rfl, hfz, hff, kd', m⟩ ⟨T, u, y, rfl, nT, rfl, hu0, hy0⟩
        obtain ⟨qi, hqi⟩ : ∃ qi, ke[i]? = some qi := ⟨ke[i], List.getElem?_eq_getElem hi⟩
        have hu0 : (ke[i]?).map (fun kv => kV kv.1) = some u := hu0
        have hy0 : (ke[i]?).map Prod.snd = some y := hy0
        rw [hqi] at hu0 hy0
        obtain ⟨t', m', rfl, mm⟩ := kde.mem qi (List.mem_of_getElem? hqi)
        obtain ⟨s, rfl, hln⟩ := mm.1
        cases hu0
        cases hy0
        have mT := new_more (o := .tup [kV (Sum.inl ((s : Nat) : Int)), V.int ((m' : Nat) : Int)]) nT
        have kT : (upd G4 T (.tup [kV (Sum.inl ((s : Nat) : Int)), V.int ((m' : Nat) : Int)])) T = some (.tup [V.int ((s : Nat) : Int), V.int ((m' : Nat) : Int)]) := upd_same
        have hfz := mT _ _ hfz
        have hff := mT _ _ hff
        have m : More H (upd G4 T (.tup [kV (Sum.inl ((s : Nat) : Int)), V.int ((m' : Nat) : Int)])) := fun b o e => mT _ _ (m _ _ e)
        generalize upd G4 T (.tup [kV (Sum.inl ((s : Nat) : Int)), V.int ((m' : Nat) : Int)]) = G5 at kT hfz hff m ⊢
        refine ⟨T, _, rfl, SqT.of kT, rfl, _, _, rfl, _, _, rfl, rfl, ?_⟩
        have ofke : ∀ (i' : Nat) (t : Int) (w : Nat), ke[i']? = some (Sum.inl t, V.int ((w : Nat) : Int)) → Elv p st (k + 1) t w := fun i' t w h => by
          obtain ⟨t2, m2, eq, mm2⟩ := kde.mem _ (List.mem_of_getElem? h)
          have a : t = t2 := Sum.inl.inj (congrArg Prod.fst eq)
          have b : ((w : Nat) : Int) = ((m2 : Nat) : Int) := V.int.inj (congrArg Prod.snd eq)
          obtain rfl : w = m2 := by omega
          rw [a]
          exact mm2.1
        have kfl := kd'.len (n := n) fun t w h => by
          rcases h with h | ⟨i', _, h⟩
          · exact efb k t w h
          · exact erb (k + 1) t w (ofke i' t w h)
        refine ⟨_, rfl, _, rfl, _, rfl, f, _, rfl, DPut.k (k := Sum.inl ((s : Nat) : Int)) hff (small1000 (by omega)), _, _, _, rfl, (upd_ne fre.symm).trans hfz, upd_same, kd'.put ⟨.inr ⟨i, by omega, hqi⟩, fun w h => ?_⟩ (fun y hy v => ?_), More.at m hf⟩
        · rcases h with ⟨s2, e2, L2, l2, h2⟩ | ⟨i', _, h⟩
          · obtain rfl : s = s2 := by omega
            have := (h2.one hln).1
            omega
          · obtain ⟨s2, e2, h2⟩ := ofke i' _ w h
            obtain rfl : s = s2 := by omega
            exact Nat.le_of_eq (hln.one h2).2
        · constructor
          · rintro (h | ⟨i', hi', h⟩)
            · exact .inl h
            · by_cases z : i' = i
              · subst z
                rw [hqi] at h
                have a : ((s : Nat) : Int) = y := Sum.inl.inj (congrArg Prod.fst (Option.some.inj h))
                exact absurd a.symm hy
              · exact .inr ⟨i', by omega, h⟩
          · rintro (h | ⟨i', hi', h⟩)
            · exact .inl h
            · exact .inr ⟨i', by omega, h⟩
      · rintro σ' G4 ⟨z6, z7, kf', rfl, hfz, hff, kd', m⟩
        refine ⟨hfz, kf', _, _, _, _, _, rfl, (upd_ne fre).trans hff, kd'.eq fun t w => ?_, upd_same, More.at m hre0⟩
        rw [ef_succ]
        constructor
        · rintro (h | h)
          · exact .inl h
          · obtain ⟨i', hi'⟩ := List.getElem?_of_mem (mem_valV (kde.has (er_min h)))
            exact .inr ⟨i', (List.getElem?_eq_some_iff.mp hi').1, hi'⟩
        · rintro (h | ⟨i', _, h⟩)
          · exact .inl h
          · obtain ⟨t2, m2, eq, mm2⟩ := kde.mem _ (List.mem_of_getElem? h)
            have a : t = t2 := Sum.inl.inj (congrArg Prod.fst eq)
            have b : ((w : Nat) : Int) = ((m2 : Nat) : Int) := V.int.inj (congrArg Prod.snd eq)
            obtain rfl : w = m2 := by omega
            rw [a]
            exact .inr mm2.1
    rintro σ' G3 ⟨kf', z6, z7, z8, z9, z10, rfl, hff, kdf', hre, mG⟩
    refine ⟨_, rfl, _, rfl, _, rfl, _, _, rfl, rfl, .inr ⟨by omega, by omega⟩, ?_⟩
    have ep : ((p ^ k : Nat) : Int) * ((p : Nat) : Int) = ((p ^ (k + 1) : Nat) : Int) := by rw [Nat.pow_succ, Int.natCast_mul]
    show gName 4 (V.int (((p ^ k : Nat) : Int) * ((p : Nat) : Int))) _ _ _
    rw [ep]
    exact ⟨re, kf', ke, _, _, _, _, _, _, rfl, hff, kdf', hre, kde, fre, hre0, mG⟩
end
end K71

namespace L2
open PySem PySem.Spec PyProof.Rows PySem.W
/-! ### sorted of a list of tuples of ints, any length -/
def leI (p q : Addr × List Int) : Bool := decide (p.2 ≤ q.2)
theorem dataLe_tups {β : Type} (x : β → List Int) : dataLe false (fun b => .tuple ((x b).map .int)) = fun p q => decide (x p ≤ x q) := by
  have := dataLe_rows x
  exact this
theorem ints_read {h : Heap} : ∀ {us : List Value} {ns : List Int}, IntsAre us ns → ReadsAll h us (ns.map PyData.int) []
  | _, _, .nil => .nil
  | _, _, .cons n t r => .cons (.int n t) (ints_read r)
def rSortTI (K : PySem.W.Frag) : List V → Hp → VK → Prop := fun vs H Q => ∃ (a : Addr) (bs : List (Addr × List Int)), vs = [V.ref a] ∧ SqL K H a (bs.map fun b => V.ref b.1) ∧ (∀ b ∈ bs, SqT K H b.1 (b.2.map V.int) ∧ b.2 ≠ []) ∧
  ∀ p, H p = none → Q (.ref p) (upd H p (.lst ((bs.mergeSort leI).map fun b => V.ref b.1)))
theorem each_refs : ∀ {bs : List (Addr × List Int)} {us : List Value}, Vals (bs.map fun b => V.ref b.1) us → EachIs (fun v (b : Addr × List Int) => v = Value.ref b.1) us bs
  | [], _, r => by
    rw [List.map_nil] at r
    cases r
    exact .nil
  | b :: bs, _, r => by
    rw [List.map_cons] at r
    cases r with
    | cons h t => exact .cons h (each_refs t)
theorem refs_each : ∀ {bs : List (Addr × List Int)} {us : List Value}, EachIs (fun v (b : Addr × List Int) => v = Value.ref b.1) us bs → Vals (bs.map fun b => V.ref b.1) us
  | _, _, .nil => .nil
  | _, _, .cons h t => by
    rw [List.map_cons]
    exact .cons h (refs_each t)
theorem each_mem {α β : Type} {R S : α → β → Prop} : ∀ {as : List α} {bs : List β}, EachIs R as bs → (∀ a, ∀ b ∈ bs, R a b → S a b) → EachIs S as bs
  | _, _, .nil, _ => .nil
  | _, _, .cons h t, k => .cons (k _ _ (.head _) h) (each_mem t fun a b hb => k a b (.tail _ hb))
theorem cr_sortTI {X : Cx} (hu : X.A.units + 64 < cLine) : CallR X (.builtin "sorted") (rSortTI X.K) := by
  intro pins s σ H vs us Q I r h
  obtain ⟨a, bs, rfl, hs, hb, q⟩ := h
  rw [Vals.ref1 r]
  obtain ⟨its, rv, hl, hz⟩ := I.list hs
  rw [List.length_map] at hz
  have er := each_refs rv
  refine sorted_data (β := Addr × List Int) (bs := bs) (enc := fun b => .tuple (b.2.map .int)) hl.isList er (each_mem er fun v b hb1 e => ?_) (AllAlike.of fun b b' => ?_) (.inl fun d hd => ?_) hz (fun b _ => ?_) fun out lo eo => ?_
  · subst e
    obtain ⟨its2, rv2, ⟨o, ho, hc, n, hd⟩, _⟩ := I.tuple (hb b hb1).1
    exact ⟨_, .tuple ho hc hd (by simpa using ints_read rv2.ints)⟩
  · show alike (.tuple _) (.tuple _) = true
    unfold alike
    exact alike_ints _ _
  · obtain ⟨b, hb1, rfl⟩ := List.mem_map.mp hd
    have := (hb b hb1).2
    cases e : b.2 with
    | nil => exact absurd e this
    | cons x r => exact ⟨_, _, rfl⟩
  · show X.A.units + 2 + PyData.depth (.tuple _) < cLine
    rw [PyData.depth, depth_ints]
    omega
  · obtain ⟨ep, he'⟩ := PyProof.Rows.sortedAll_at s.heap its out.toArray
    rw [dataLe_tups] at eo
    have hlen : (((bs.mergeSort leI)).map fun b => V.ref b.1).length ≤ sizeLine := by rw [List.length_map, List.length_mergeSort]; exact hz
    exact ⟨.ref _, upd H (s.heap.objs.size + 1) (.lst ((bs.mergeSort leI).map fun b => V.ref b.1)), I.laid (t' := s.toks) (fun _ _ => PyProof.Rows.sortedAll_old) (Nat.le_succ _) ⟨hlen, out, ep, refs_each eo, he'⟩, rfl, q _ (I.hok.fresh (Nat.le_succ _))⟩
end L2

namespace K71
open PySem L2 Gd B5 NdefX
abbrev sCm : Stmt := top 27
abbrev NCm : List Str := ["machine", "numbers", "found", "state", "number", "value"]
theorem scCm : FnScope NCm ["machine"] (defScope sCm) := ⟨rfl, rfl, rfl, by decide +kernel, rfl, by decide +kernel, by decide +kernel⟩
abbrev sMp : Stmt := top 26
abbrev NMp : List Str := ["machine", "numbers", "moves", "worths", "value"]
theorem scMp : FnScope NMp ["machine", "numbers"] (defScope sMp) := ⟨rfl, rfl, rfl, by decide +kernel, rfl, by decide +kernel, by decide +kernel⟩
/-- the values that come, ascending, each with its least number -/
structure Comes (p : Nat) (step : Nat → Nat → Nat) (val : Nat → Int) (prs : List (Int × Nat)) : Prop where
  asc : prs.Pairwise fun x y => x.1 < y.1
  mem : ∀ v m, (v, m) ∈ prs ↔ MinE (Tell p step val v) m
def PrI (K : PySem.W.Frag) (H : Hp) (b : Addr) (pr : Int × Nat) : Prop := SqT K H b [V.int pr.1, V.int (pr.2 : Nat)]
def spCm (K : PySem.W.Frag) (C : Addr) : Sp := fun vs H Q _ => ∃ (a : Addr) (p : Nat) (dss : List (List Int)) (ws : List Int), vs = [.ref a] ∧ MAt K H C a p dss ws ∧ MGood p dss ws ∧ stdy dss ws = true ∧
  ∀ (H' : Hp) (t : Addr) (ts : List Addr) (prs : List (Int × Nat)), More H H' → H' t = some (.tup (ts.map V.ref)) → Paired (PrI K H') ts prs → Comes p (stepT dss) (valL ws) prs → Q (.ref t) H'
/-- the least numbers of the states' values, so far -/
def E2 (kvs : List (Key × V)) (val : Nat → Int) (i : Nat) (v : Int) (m : Nat) : Prop := ∃ i', i' < i ∧ ∃ s : Nat, kvs[i']? = some (Sum.inl (s : Int), V.int (m : Nat)) ∧ val s = v
theorem leI_trans : ∀ a b c : Addr × List Int, leI a b = true → leI b c = true → leI a c = true := fun a b c h1 h2 => decide_eq_true (List.le_trans (of_decide_eq_true h1) (of_decide_eq_true h2))
theorem leI_total : ∀ a b : Addr × List Int, (leI a b || leI b a) = true := fun a b => by
  unfold leI
  rcases List.le_total a.2 b.2 with h | h
  · rw [decide_eq_true h]; rfl
  · rw [decide_eq_true h, Bool.or_true]
theorem two_le {a b c d : Int} (h : [a, b] ≤ [c, d]) : a ≤ c := by
  by_cases z : a ≤ c
  · exact z
  · have lt : c < a := by omega
    exact absurd h (fun h => by
      have : ¬ [c, d] < [a, b] := List.not_lt.mpr h
      exact this (List.Lex.rel lt))
def rowQ : Key × V → List Int
  | (.inl t, .int m) => [t, m]
  | _ => [0]
theorem paired_mm {α β γ : Type} {R : β → γ → Prop} {f : α → β} {g : α → γ} : ∀ {l : List α}, (∀ b ∈ l, R (f b) (g b)) → Paired R (l.map f) (l.map g)
  | [], _ => .nil
  | b :: l, h => .cons (h b (.head _)) (paired_mm fun c hc => h c (.tail _ hc))
section
variable {P : Program} {w : World} {K : PySem.W.Frag} {mg : Str → Option Value} {base : Heap}
variable {C CN fN gL gM f : Addr} {fdN dL dM fd : FuncData} {T : List NTab}
theorem ok_cmn (F : Fun K "comes" "comes" sCm f fd) (B : Blt mg) (Z : McC K mg C) (zMin : mg "min" = none) (zSorted : mg "sorted" = none) (Ln : Cl K mg "least_numbers" sLn ["moves", "p"] gL dL) (GL : FnOk P w K mg base CX0 1 gL dL ["moves", "p"] (spLn K)) :
    FnOk P w K mg base CX0 2 f fd ["machine"] (spCm K C) := by
  refine F.ok scCm (fun vs H Q E h => ?_) (fun cdv A outer s H vs Q E hr h => ?_)
  · obtain ⟨a, p, dss, ws, rfl, _⟩ := h
    rfl
  · obtain ⟨a, p, dss, ws, rfl, ma, g, sd, q⟩ := h
    have hu := hu_of hr
    have hu64 := hr.units
    refine ⟨_, pss_cons (ps_set (i := 1) scCm.nd rfl (Or.inl rfl) (pe_call GL hr rfl Ln.g Ln.k Ln.b .nil pass0 (pa_cons (pe_fld (pv 0) rfl) (pa_cons (pe_fld (pv 0) rfl) pa_nil))))
      (pss_cons (ps_set (i := 2) scCm.nd rfl (Or.inr rfl) pe_dnewK)
      (Evl.pss_cut (ps_lock (ps_for PassesOwn.never rfl (pi_items (pv 1)) (pg_tup rfl (pgs_cons (pg_name (i := 3) scCm.nd rfl (Or.inl rfl)) (pgs_cons (pg_name (i := 4) scCm.nd rfl (Or.inl rfl)) pgs_nil)))
        (pss_cons (ps_set (i := 5) scCm.nd rfl (Or.inl rfl) (pe_ix ix_tup (pe_fld (pv 0) rfl) (pv 3) (fun _ _ => rfl)))
        (pss_one (ps_dput hu (pv 2) (pv 5) (pe_callB (call_min2 rfl) (by rfl) zMin (by decide +kernel) (pa_cons (pv 4) (pa_cons (pe_dget2 hu (pv 2) (pv 5) (pv 4) ⟨rfl, rfl, rfl, rfl⟩) pa_nil))) rfl)))))
      (pss_one (ps_ret (pe_callTy call_tuple_of (by rfl) B.tup_ (by decide +kernel) (pa_cons (pe_callB (cr_sortTI hu64) (by rfl) zSorted (by decide +kernel) (pa_cons
          (pe_lock (pe_lc (own := [("value", 5)]) (g := gName 5) (tt := tYes) rfl scCm.nd (pi_keys (pv 2)) (blkOk_by (N := NCm) (sc := defScope sCm) (by decide +kernel)) (fun _ _ _ _ _ => pg_name (i := 5) scCm.nd rfl (Or.inl rfl)) (fun _ _ _ _ _ => pts_nil)
            (fun _ _ _ _ _ => pe_tup (pa_cons (pv 5) (pa_cons (pe_dget hu (pv 2) (pv 5) (fun _ _ => rfl)) pa_nil))))) pa_nil)) pa_nil)))))), ?_⟩
    obtain ⟨n, hn⟩ : ∃ n, n = dss.length := ⟨_, rfl⟩
    have n0 : 0 < n := hn ▸ List.length_pos_iff.mpr g.ne
    have few : n ≤ 1000 := hn ▸ g.few
    obtain ⟨p2, p7⟩ := isPr_small g.pr
    have cl : ∀ s d, s < n → d < p → stepT dss s d < n := by rw [hn]; exact good_cl g
    have lws : ws.length = n := hn ▸ g.len
    obtain ⟨dx, tm, tu, xs, h1, h2, h3, h4⟩ := ma
    refine ⟨_, rfl, a, C, dx, _, _, rfl, h1, Z.ic.cl, Z.n2, rfl, _, rfl, a, C, dx, _, _, rfl, h1, Z.ic.cl, Z.n1, rfl, tm, xs, p, dss, ws, rfl, h2, h3, g, fun H1 d kvs m1 hd0 hd kd => ?_⟩
    refine fun f hf => ?_
    have mf := new_more (o := .dK []) hf
    have df : d ≠ f := ne_of_none hd hf
    have hf0 : H f = none := m1.off hf
    have hd1 := mf _ _ hd
    have hf1 : (upd H1 f (.dK [])) f = some (.dK []) := upd_same
    have m01 : More H (upd H1 f (.dK [])) := fun b o e => mf _ _ (m1 _ _ e)
    generalize upd H1 f (.dK []) = H2 at hd1 hf1 m01 ⊢
    clear mf m1 hd hf
    have kvn : ∀ (i : Nat) (s : Int) (m : Nat), kvs[i]? = some (Sum.inl s, V.int (m : Nat)) → Ea p (stepT dss) s m := fun i s m h => by
      obtain ⟨t2, m2, eq, mm⟩ := kd.mem _ (List.mem_of_getElem? h)
      have a : s = t2 := Sum.inl.inj (congrArg Prod.fst eq)
      have b : ((m : Nat) : Int) = ((m2 : Nat) : Int) := V.int.inj (congrArg Prod.snd eq)
      obtain rfl : m = m2 := by omega
      rw [a]
      exact mm.1
    have kl : kvs.length ≤ n := kd.len fun t m ⟨s, e, L, h⟩ => by
      have := ln_below cl n0 h
      omega
    refine ⟨fun σ' H' => ∃ (z3 z4 z5 : Option V) (kf : List (Key × V)), σ' = [some (.ref a), some (.ref d), some (.ref f), z3, z4, z5] ∧ H' f = some (.dK kf) ∧ KD kf (E2 kvs (valL ws) kvs.length) ∧ kf.length ≤ kvs.length ∧ More H H', ?_, ?_⟩
    · refine ⟨d, .dK kvs, hd1, True.intro, fun od => ?_⟩
      have hf2 : (upd H2 d (.frz od (.dK kvs))) f = some (.dK []) := (upd_ne df.symm).trans hf1
      have m2 : More H (upd H2 d (.frz od (.dK kvs))) := More.at m01 hd0
      have hz2 : (upd H2 d (.frz od (.dK kvs))) d = some (.frz od (.dK kvs)) := upd_same
      generalize upd H2 d (.frz od (.dK kvs)) = H3 at hf2 m2 hz2 ⊢
      refine ⟨_, rfl, d, od, kvs, rfl, hz2, for_it (walk_items (kvs := kvs)) (fun i σ' H' => ∃ (z3 z4 z5 : Option V) (kf : List (Key × V)), σ' = [some (.ref a), some (.ref d), some (.ref f), z3, z4, z5] ∧ H' d = some (.frz od (.dK kvs)) ∧ H' f = some (.dK kf) ∧ KD kf (E2 kvs (valL ws) i) ∧ kf.length ≤ i ∧ More H H')
        ⟨none, none, none, [], rfl, hz2, hf2, KD.nil fun t m ⟨i', hi, _⟩ => absurd hi (Nat.not_lt_zero _), Nat.le_refl _, m2⟩ (fun i σ' H' _ ⟨_, _, _, _, _, h, _⟩ => h) ?_ ?_⟩
      · rintro i x σ' G3 G4 hi ⟨z3, z4, z5, kf, rfl, hz, hf, kf', lf, m⟩ ⟨T', u, y, rfl, nT, rfl, hu0, hy0⟩
        obtain ⟨qi, hqi⟩ : ∃ qi, kvs[i]? = some qi := ⟨kvs[i], List.getElem?_eq_getElem hi⟩
        have hu0 : (kvs[i]?).map (fun kv => kV kv.1) = some u := hu0
        have hy0 : (kvs[i]?).map Prod.snd = some y := hy0
        rw [hqi] at hu0 hy0
        obtain ⟨t', m', rfl, mm⟩ := kd.mem qi (List.mem_of_getElem? hqi)
        obtain ⟨s, rfl, L, hln⟩ := mm.1
        cases hu0
        cases hy0
        have sn := ln_below cl n0 hln
        have mT := new_more (o := .tup [kV (Sum.inl ((s : Nat) : Int)), V.int ((m' : Nat) : Int)]) nT
        have kT : (upd G3 T' (.tup [kV (Sum.inl ((s : Nat) : Int)), V.int ((m' : Nat) : Int)])) T' = some (.tup [V.int ((s : Nat) : Int), V.int ((m' : Nat) : Int)]) := upd_same
        have hz := mT _ _ hz
        have hf := mT _ _ hf
        have m : More H (upd G3 T' (.tup [kV (Sum.inl ((s : Nat) : Int)), V.int ((m' : Nat) : Int)])) := fun b o e => mT _ _ (m _ _ e)
        generalize upd G3 T' (.tup [kV (Sum.inl ((s : Nat) : Int)), V.int ((m' : Nat) : Int)]) = G4 at kT hz hf m ⊢
        refine ⟨T', _, rfl, SqT.of kT, rfl, _, _, rfl, _, _, rfl, rfl, ?_⟩
        obtain ⟨v, hv⟩ : ∃ v, v = valL ws s := ⟨_, rfl⟩
        have ew : ws[s]? = some v := by rw [hv]; exact at_getD (by omega) 0
        refine ⟨_, rfl, a, C, dx, _, _, rfl, m _ _ h1, Z.ic.cl, Z.n3, rfl, _, rfl, tu, _, ((s : Nat) : Int), _, rfl, rfl, sqT_more m h4, atI_nat (at_map ew), ?_⟩
        have es : ∀ t w, E2 kvs (valL ws) (i + 1) t w ↔ E2 kvs (valL ws) i t w ∨ (t = v ∧ w = m') := fun t w => by
          constructor
          · rintro ⟨i', hi', s', h', e'⟩
            by_cases z : i' = i
            · subst z
              rw [hqi] at h'
              have eq := Option.some.inj h'
              have a : ((s : Nat) : Int) = ((s' : Nat) : Int) := Sum.inl.inj (congrArg Prod.fst eq)
              have b : ((m' : Nat) : Int) = ((w : Nat) : Int) := V.int.inj (congrArg Prod.snd eq)
              obtain rfl : s = s' := by omega
              exact .inr ⟨by rw [← e', hv], by omega⟩
            · exact .inl ⟨i', by omega, s', h', e'⟩
          · rintro (⟨i', hi', s', h', e'⟩ | ⟨rfl, rfl⟩)
            · exact ⟨i', by omega, s', h', e'⟩
            · exact ⟨i, by omega, s, hqi, hv.symm⟩
        have fin : ∀ w : Nat, MinE (E2 kvs (valL ws) (i + 1) v) w → ∃ (z3 z4 z5 : Option V) (kf' : List (Key × V)), [some (V.ref a), some (.ref d), some (.ref f), some (.int ((s : Nat) : Int)), some (.int ((m' : Nat) : Int)), some (.int v)] = [some (V.ref a), some (.ref d), some (.ref f), z3, z4, z5] ∧
            (upd G4 f (.dK (putK kf (Sum.inl v) (V.int ((w : Nat) : Int))))) d = some (.frz od (.dK kvs)) ∧ (upd G4 f (.dK (putK kf (Sum.inl v) (V.int ((w : Nat) : Int))))) f = some (.dK kf') ∧ KD kf' (E2 kvs (valL ws) (i + 1)) ∧ kf'.length ≤ i + 1 ∧ More H (upd G4 f (.dK (putK kf (Sum.inl v) (V.int ((w : Nat) : Int))))) := fun w mw => by
          refine ⟨_, _, _, _, rfl, (upd_ne df).trans hz, upd_same, kf'.put mw fun y hy x => ?_, by have := putK_le kf (Sum.inl v) (V.int ((w : Nat) : Int)); omega, More.at m hf0⟩
          rw [es]
          exact ⟨fun h => h.elim id fun ⟨e, _⟩ => absurd e hy, .inl⟩
        refine ⟨_, rfl, _, rfl, f, rfl, .inl ⟨kf, .inl hf⟩, _, rfl, _, rfl, _, DGet.k (k := Sum.inl v) hf, ?_⟩
        cases ee : valV kf (Sum.inl v) with
        | none =>
          have no := kf'.off ee
          refine ⟨_, _, rfl, ?_⟩
          have e0 : (if ((m' : Nat) : Int) < ((m' : Nat) : Int) then ((m' : Nat) : Int) else ((m' : Nat) : Int)) = ((m' : Nat) : Int) := by split <;> rfl
          show _
          rw [e0]
          exact ⟨_, rfl, _, rfl, f, _, rfl, DPut.k (k := Sum.inl v) hf (small1000 (by omega)), fin m' ⟨(es _ _).mpr (.inr ⟨rfl, rfl⟩), fun x hx => by
            rcases (es _ _).mp hx with h | ⟨_, h⟩
            · exact absurd h (no x)
            · omega⟩⟩
        | some o =>
          obtain ⟨m2, rfl, mm2⟩ := kf'.get ee
          refine ⟨_, _, rfl, ?_⟩
          have e0 : (if ((m2 : Nat) : Int) < ((m' : Nat) : Int) then ((m2 : Nat) : Int) else ((m' : Nat) : Int)) = ((min m' m2 : Nat) : Int) := by split <;> omega
          show _
          rw [e0]
          exact ⟨_, rfl, _, rfl, f, _, rfl, DPut.k (k := Sum.inl v) hf (small1000 (by omega)), fin (min m' m2) ⟨by
            by_cases z : m' ≤ m2
            · rw [Nat.min_eq_left z]; exact (es _ _).mpr (.inr ⟨rfl, rfl⟩)
            · rw [Nat.min_eq_right (by omega)]; exact (es _ _).mpr (.inl mm2.1), fun x hx => by
            rcases (es _ _).mp hx with h | ⟨_, h⟩
            · have := mm2.2 x h
              omega
            · omega⟩⟩
      · rintro σ' G3 ⟨z3, z4, z5, kf, rfl, hz, hf, kf', lf, m⟩
        exact ⟨hz, _, _, _, kf, rfl, (upd_ne df.symm).trans hf, kf', lf, More.at m hd0⟩
    clear hd1 hf1 m01
    rintro σ' H3 ⟨z3, z4, z5, kf, rfl, hf, kdf, lf, m⟩
    -- the least numbers of the values
    have stR : ∀ s, (∃ w, Dg p w ∧ runW (stepT dss) 0 w = s) → valL ws s = valL ws (stepT dss s 0) := fun s ⟨w, hw, e⟩ => by
      have sn : s < n := by
        have key : ∀ (w : List Nat) (s : Nat), s < n → Dg p w → runW (stepT dss) s w < n := by
          intro w
          induction w with
          | nil => intro s hs _; exact hs
          | cons d w ih => intro s hs g; exact ih _ (cl s d hs (g d (.head _))) fun x hx => g x (.tail _ hx)
        rw [← e]
        exact key w 0 n0 hw
      exact (stdy_iff g.len).mp sd s (by omega)
    have e2 : ∀ v m, E2 kvs (valL ws) kvs.length v m ↔ ∃ s, valL ws s = v ∧ ∃ L, LN p (stepT dss) L s m := fun v m => by
      constructor
      · rintro ⟨i', hi', s, h, e⟩
        obtain ⟨s', e', L, hL⟩ := kvn i' _ m h
        obtain rfl : s = s' := by omega
        exact ⟨s, e, L, hL⟩
      · rintro ⟨s, e, L, hL⟩
        have := kd.has (t := (s : Int)) (m := m) ⟨⟨s, rfl, L, hL⟩, fun m' ⟨s', e', L', h'⟩ => by
          obtain rfl : s = s' := by omega
          exact Nat.le_of_eq (hL.one h').2⟩
        obtain ⟨i', hi'⟩ := List.getElem?_of_mem (mem_valV this)
        exact ⟨i', (List.getElem?_eq_some_iff.mp hi').1, s, hi', e⟩
    have e3 : ∀ v m, MinE (E2 kvs (valL ws) kvs.length v) m ↔ MinE (Tell p (stepT dss) (valL ws) v) m := fun v m => by
      rw [← comes_least (by omega) stR]
      have : E2 kvs (valL ws) kvs.length v = fun m => ∃ s, valL ws s = v ∧ ∃ L, LN p (stepT dss) L s m := funext fun m => propext (e2 v m)
      rw [this]
    have hfr : H f = none := hf0
    refine ⟨f, .dK kf, hf, True.intro, fun od => ?_⟩
    have hz2 : (upd H3 f (.frz od (.dK kf))) f = some (.frz od (.dK kf)) := upd_same
    have m2 : More H (upd H3 f (.frz od (.dK kf))) := More.at m hf0
    generalize upd H3 f (.frz od (.dK kf)) = H4 at hz2 m2 ⊢
    refine ⟨_, rfl, f, od, rfl, .inl ⟨kf, hz2, fun D hD => ?_⟩⟩
    have fD : f ≠ D := ne_of_none hz2 hD
    have hD0 : H D = none := m2.off hD
    refine lc_it (H1 := H4) (D := D) (walk_keys (kvs := kf)) (fun i H' => ∃ bs : List (Addr × List Int), H' D = some (.lst (bs.map fun b => V.ref b.1)) ∧ bs.map (·.2) = (kf.take i).map rowQ ∧ (∀ b ∈ bs, H' b.1 = some (.tup (b.2.map V.int))) ∧ H' f = some (.frz od (.dK kf)) ∧ bs.length = i ∧ More H H')
      ⟨[], upd_same, rfl, fun _ h => (nomatch h), (upd_ne fD).trans hz2, rfl, More.at m2 hD0⟩ (fun i H' _ ⟨_, _, _, _, h, _⟩ => h) ?_ ?_
    · rintro i x G G' hi ⟨bs, kD, hb, ht, hz, lb, mg'⟩ ⟨rfl, k, v, hk, rfl⟩
      obtain ⟨t, w, eq, mm⟩ := kdf.mem _ (List.mem_of_getElem? hk)
      cases eq
      have hv := kdf.has mm
      refine ⟨rfl, ?_⟩
      refine ⟨_, rfl, _, rfl, _, rfl, f, V.int ((w : Nat) : Int), rfl, .inl ⟨kf, Sum.inl t, .inr ⟨od, hz⟩, rfl, hv.symm⟩, by show 2 ≤ sizeLine; decide, fun T' hT => ?_⟩
      have mT := new_more (o := .tup [kV (Sum.inl t), V.int ((w : Nat) : Int)]) hT
      have kD2 := mT _ _ kD
      have TD : T' ≠ D := (ne_of_none kD hT).symm
      refine ⟨_, kD2, by rw [List.length_map]; exact small1000 (by omega), bs ++ [(T', [t, ((w : Nat) : Int)])], ?_, ?_, fun b hb' => ?_, (upd_ne fD).trans (mT _ _ hz), by rw [List.length_append, lb]; rfl, More.at (fun b u e => mT _ _ (mg' _ _ e)) hD0⟩
      · rw [upd_same, List.map_append]
        rfl
      · rw [List.map_append, hb, take_snoc hk, List.map_append]
        rfl
      · rcases List.mem_append.mp hb' with h | h
        · have e := ht b h
          exact (upd_ne (ne_of e kD (fun z => by cases z))).trans (mT _ _ e)
        · have : b = (T', [t, ((w : Nat) : Int)]) := by simpa using h
          rw [this]
          exact (upd_ne TD).trans upd_same
    rintro G ⟨bs, kD, hb, ht, hz, lb, mg'⟩
    rw [List.take_length] at hb
    have of1 : ∀ b ∈ bs, ∃ (t : Int) (w : Nat), b.2 = [t, ((w : Nat) : Int)] ∧ MinE (E2 kvs (valL ws) kvs.length t) w := fun b hb' => by
      have : b.2 ∈ kf.map rowQ := by rw [← hb]; exact List.mem_map.mpr ⟨b, hb', rfl⟩
      obtain ⟨qq, hq, e⟩ := List.mem_map.mp this
      obtain ⟨t, w, rfl, mm⟩ := kdf.mem qq hq
      exact ⟨t, w, e.symm, mm⟩
    have of2 : ∀ t w, MinE (E2 kvs (valL ws) kvs.length t) w → ∃ b ∈ bs, b.2 = [t, ((w : Nat) : Int)] := fun t w mm => by
      have hq := mem_valV (kdf.has mm)
      have : rowQ (Sum.inl t, V.int ((w : Nat) : Int)) ∈ bs.map (·.2) := by rw [hb]; exact List.mem_map.mpr ⟨_, hq, rfl⟩
      obtain ⟨b, hb', e⟩ := List.mem_map.mp this
      exact ⟨b, hb', e⟩
    have nd1 : (bs.map fun b => b.2.getD 0 0).Nodup := by
      have e1 : (bs.map fun b => b.2.getD 0 0) = kf.map fun qq => (rowQ qq).getD 0 0 := by
        have := congrArg (fun l : List (List Int) => l.map fun r => r.getD 0 0) hb
        simp only [List.map_map] at this
        exact this
      rw [e1]
      have e2 : kf.map (·.1) = (kf.map fun qq => (rowQ qq).getD 0 0).map Sum.inl := by
        rw [List.map_map]
        refine List.map_congr_left fun qq hq => ?_
        obtain ⟨t, w, rfl, _⟩ := kdf.mem qq hq
        rfl
      have := kdf.nd
      rw [e2] at this
      exact List.Pairwise.imp (fun {a b} h e => h (by rw [e])) (List.pairwise_map.mp this)
    have pm := List.mergeSort_perm bs leI
    have srt := List.pairwise_mergeSort (le := leI) leI_trans leI_total bs
    have nd2 : ((bs.mergeSort leI).map fun b => b.2.getD 0 0).Nodup := (pm.map _).nodup_iff.mpr nd1
    have nd3 := List.pairwise_map.mp nd2
    refine ⟨hz, D, bs, rfl, SqL.of ((upd_ne fD.symm).trans kD), fun b hb' => ⟨SqT.of ((upd_ne (ne_of (ht b hb') hz (fun z => by cases z))).trans (ht b hb')), fun e => ?_⟩, fun L hL => ?_⟩
    · obtain ⟨t, w, e2, _⟩ := of1 b hb'
      rw [e2] at e
      cases e
    have mU : More H (upd G f (.dK kf)) := More.at mg' hf0
    have mL := new_more (o := .lst ((bs.mergeSort leI).map fun b => V.ref b.1)) hL
    refine ⟨L, _, rfl, .inl ⟨SqL.of upd_same, fun t ht' => ?_⟩⟩
    have mt := new_more (o := .tup ((bs.mergeSort leI).map fun b => V.ref b.1)) ht'
    refine q _ t ((bs.mergeSort leI).map (·.1)) ((bs.mergeSort leI).map fun b => (b.2.getD 0 0, (b.2.getD 1 0).toNat)) (fun b u e => mt _ _ (mL _ _ (mU _ _ e))) ?_ (paired_mm fun b hb' => ?_) ⟨?_, fun v w => ?_⟩
    · rw [upd_same, List.map_map]
      rfl
    · have hb2 := pm.mem_iff.mp hb'
      obtain ⟨t2, w2, e2, _⟩ := of1 b hb2
      have hk : (upd G f (.dK kf)) b.1 = some (.tup (b.2.map V.int)) := (upd_ne (ne_of (ht b hb2) hz (fun z => by cases z))).trans (ht b hb2)
      refine SqT.of ?_
      have := mt _ _ (mL _ _ hk)
      refine Eq.trans this ?_
      rw [e2]
      show some (HO.tup [V.int t2, V.int ((w2 : Nat) : Int)]) = some (HO.tup [V.int t2, V.int ((((w2 : Nat) : Int).toNat : Nat) : Int)])
      rw [show ((((w2 : Nat) : Int).toNat : Nat) : Int) = ((w2 : Nat) : Int) by omega]
    · rw [List.pairwise_map]
      refine List.Pairwise.imp_of_mem (fun {x y} hx hy h => ?_) (List.pairwise_and_iff.mpr ⟨srt, nd3⟩)
      obtain ⟨h1, h2⟩ := h
      obtain ⟨t1, w1, e1, _⟩ := of1 x (pm.mem_iff.mp hx)
      obtain ⟨t2, w2, e2, _⟩ := of1 y (pm.mem_iff.mp hy)
      rw [e1, e2] at h2
      have h1 := of_decide_eq_true h1
      rw [e1, e2] at h1
      have := two_le h1
      rw [e1, e2]
      show t1 < t2
      have h2 : t1 ≠ t2 := h2
      omega
    · rw [← e3]
      constructor
      · intro h
        obtain ⟨b, hb', e⟩ := List.mem_map.mp h
        obtain ⟨t2, w2, e2, mm⟩ := of1 b (pm.mem_iff.mp hb')
        rw [e2] at e
        have a : t2 = v := congrArg Prod.fst e
        have c : ((w2 : Nat) : Int).toNat = w := congrArg Prod.snd e
        rw [← a, ← show w2 = w by omega]
        exact mm
      · intro mm
        obtain ⟨b, hb', e⟩ := of2 v w mm
        refine List.mem_map.mpr ⟨b, pm.mem_iff.mpr hb', ?_⟩
        rw [e]
        show (v, ((w : Nat) : Int).toNat) = (v, w)
        rw [show ((w : Nat) : Int).toNat = w by omega]
end
end K71

namespace K71
open PySem L2 Gd B5
abbrev sSm : Stmt := top 37
abbrev NSm : List Str := ["_law_moves", "_law_worths", "_law_classes_here", "_law_order", "_law_index", "_law_told", "_law_lap", "_law_row", "_law_other", "_law_state"]
theorem scSm : FnScope NSm ["_law_moves", "_law_worths"] (defScope sSm) := ⟨rfl, rfl, rfl, by decide +kernel, rfl, by decide +kernel, by decide +kernel⟩
def spSm (K : PySem.W.Frag) : Sp := fun vs H Q _ => ∃ (M W : Addr) (rs : List V) (p : Nat) (dss : List (List Int)) (ws : List Int), vs = [.ref M, .ref W] ∧ PlT K H M W rs p dss ws ∧
  ∀ (H' : Hp) (t tM tW : Addr) (ts : List Addr) (R : List (List Nat)) (U : List Int), More H H' → H' t = some (.tup [.ref tM, .ref tW]) → H' tM = some (.tup (ts.map V.ref)) → Paired (TupN H') ts R → H' tW = some (.tup (U.map V.int)) → LeastOf dss.length p (stepT dss) (valL ws) R U → Q (.ref t) H'
section
variable {P : Program} {w : World} {K : PySem.W.Frag} {mg : Str → Option Value} {base : Heap} {g1 f : Addr} {d1 fd : FuncData}
theorem ok_sm (F : Fun K "_law_small" "_law_small" sSm f fd) (B : Blt mg) (Lc : Cl K mg "_law_classes" sLcl ["_law_moves", "_law_worths"] g1 d1) (G1 : FnOk P w K mg base CX0 2 g1 d1 ["_law_moves", "_law_worths"] (spLcl K)) : FnOk P w K mg base CX0 3 f fd ["_law_moves", "_law_worths"] (spSm K) := by
  refine F.ok scSm (fun vs H Q E h => ?_) (fun cdv A outer s H vs Q E hr h => ?_)
  · obtain ⟨M, W, rs, p, dss, ws, rfl, _⟩ := h
    rfl
  · obtain ⟨M, W, rs, p, dss, ws, rfl, pl, q⟩ := h
    have hu := hu_of hr
    refine ⟨_, pss_cons (ps_par3 (i := 2) (j := 3) (l := 4) rfl scSm.nd rfl rfl rfl (by decide) (by decide) (by decide) rfl rfl rfl (pa_cons (pe_call G1 hr rfl Lc.g Lc.k Lc.b .nil pass0 (pa_cons (pv 0) (pa_cons (pv 1) pa_nil))) (pa_cons (pe_lst (pa_cons pe_int pa_nil)) (pa_cons pe_dnewK pa_nil))) (by rfl))
      (pss_cons (ps_dput hu (pv 4) (pe_ix ix_list (pv 2) pe_int (fun _ _ => rfl)) pe_int rfl)
      (pss_cons (ps_set (i := 5) scSm.nd rfl (Or.inl rfl) (pe_lst pa_nil))
      (Evl.pss_cut (ps_for PassesOwn.never rfl (pi_range1 (by rfl) B.range_ (pa_cons (pe_callB call_len_seq (by rfl) B.len_ PySem.boot_len (pa_cons (pv 0) pa_nil)) pa_nil)) (pg_name (i := 6) scSm.nd rfl (Or.inl rfl))
        (pss_cons (ps_if (pt_cmpR op_ge (pv 6) (pe_callB call_len_seq (by rfl) B.len_ PySem.boot_len (pa_cons (pv 3) pa_nil)) (nomark _)) (pss_one ps_break) pss_nil)
        (pss_cons (ps_set (i := 7) scSm.nd rfl (Or.inl rfl) (pe_lst pa_nil))
        (pss_cons (ps_for PassesOwn.never rfl (pi_tup (pe_ix ix_tup (pv 0) (pe_ix ix_list (pv 3) (pv 6) (fun _ _ => rfl)) (fun _ _ => rfl))) (pg_name (i := 8) scSm.nd rfl (Or.inl rfl))
          (Evl.pss_cut (ps_if (pt_cmp (pc_dnotin hu (pe_ix ix_list (pv 2) (pv 8) (fun _ _ => rfl)) (pv 4)))
            (pss_cons (ps_dput hu (pv 4) (pe_ix ix_list (pv 2) (pv 8) (fun _ _ => rfl)) (pe_callB call_len_seq (by rfl) B.len_ PySem.boot_len (pa_cons (pv 3) pa_nil)) rfl)
              (pss_one (ps_expr (pe_bm PySem.F.plainAttrs_list PySem.F.slot_list_append PySem.F.type_list_append mt_append (pv 3) (pa_cons (pv 8) pa_nil))))) pss_nil)
          (pss_one (ps_expr (pe_bm PySem.F.plainAttrs_list PySem.F.slot_list_append PySem.F.type_list_append mt_append (pv 7) (pa_cons (pe_dget hu (pv 4) (pe_ix ix_list (pv 2) (pv 8) (fun _ _ => rfl)) (fun _ _ => rfl)) pa_nil))))))
        (pss_one (ps_expr (pe_bm PySem.F.plainAttrs_list PySem.F.slot_list_append PySem.F.type_list_append mt_append (pv 5) (pa_cons (pe_callTy call_tuple_of (by rfl) B.tup_ (by decide +kernel) (pa_cons (pv 7) pa_nil)) pa_nil))))))))
      (pss_one (ps_ret (pe_tup (pa_cons (pe_callTy call_tuple_of (by rfl) B.tup_ (by decide +kernel) (pa_cons (pv 5) pa_nil)) (pa_cons (pe_callTy call_tuple_of (by rfl) B.tup_ (by decide +kernel) (pa_cons
          (pe_lc (own := [("_law_state", 9)]) (g := gName 9) (tt := tYes) rfl scSm.nd (pi_list (pv 3)) (blkOk_by (N := NSm) (sc := defScope sSm) (by decide +kernel)) (fun _ _ _ _ _ => pg_name (i := 9) scSm.nd rfl (Or.inl rfl)) (fun _ _ _ _ _ => pts_nil)
            (fun _ _ _ _ _ => pe_ix (r := rIxT K) ix_tup (pv 1) (pv 9) (fun _ _ => rfl))) pa_nil)) pa_nil)))))))), ?_⟩
    obtain ⟨n, hn⟩ : ∃ n, n = dss.length := ⟨_, rfl⟩
    have few := pl.few
    have lws := pl.good.len
    have lrs : rs.length = n := by rw [hn]; exact Paired.length pl.rows
    have n0 : 0 < n := hn ▸ List.length_pos_iff.mpr pl.good.ne
    obtain ⟨p2, p7⟩ := isPr_small pl.good.pr
    have cl : ∀ s d, s < n → d < p → stepT dss s d < n := by rw [hn]; exact good_cl pl.good
    refine ⟨_, rfl, _, rfl, M, W, rs, p, dss, ws, rfl, pl, fun lc H1 m1 hlc => ?_⟩
    obtain ⟨S, co⟩ : Stab n p (stepT dss) (valL ws) (cOf (lapN p dss ws (dss.length + 1))) ∧ Coarse n p (stepT dss) (valL ws) (cOf (lapN p dss ws (dss.length + 1))) := by
      have := laps_end (n := n) (p := p) (step := stepT dss) (val := valL ws) cl n0 (worths := ws) (by omega) (fun s hs => at_getD (by omega) 0) (m := dss.length + 1) (by omega)
      rw [hn] at this ⊢
      exact this
    have nbo : NumbsO n (lapN p dss ws (dss.length + 1)) := by
      rw [hn]
      exact numbsO_of keysL_len
    generalize lapN p dss ws (dss.length + 1) = cs at hlc S co nbo
    have lcs : cs.length = n := nbo.1.1
    have cb : ∀ s, s < n → cOf cs s < n := fun s hs => Nat.lt_of_lt_of_le (nbo.1.2 s hs) (cnt_max _ _)
    have hrp : ∀ s, s < n → repC cs (cOf cs s) < n ∧ cOf cs (repC cs (cOf cs s)) = cOf cs s := fun s hs => rep_ok lcs hs
    obtain ⟨MC, room⟩ := metC_of cl n0 cb hrp
    have LO : LeastOf n p (stepT dss) (valL ws) (walkFrom (leadK p (stepT dss) (cOf cs) (repC cs)) n (cOf cs 0)).2 ((walkFrom (leadK p (stepT dss) (cOf cs) (repC cs)) n (cOf cs 0)).1.map fun a => valL ws (repC cs a)) :=
      ⟨n0, cl, cOf cs, repC cs, S, co, cb, hrp, fun N hN => by rw [room N hN]; exact ⟨rfl, rfl⟩⟩
    have clK : ∀ a, (∃ s, s < n ∧ a = cOf cs s) → ∀ b ∈ leadK p (stepT dss) (cOf cs) (repC cs) a, ∃ s, s < n ∧ b = cOf cs s := fun a ⟨s, hs, ea⟩ b hb => by
      obtain ⟨x, hx, rfl⟩ := List.mem_map.mp hb
      obtain ⟨d, hd, rfl⟩ := leadS_mem hx
      subst ea
      exact ⟨_, cl _ d (hrp s hs).1 hd, rfl⟩
    have bnd : ∀ l : List Nat, l.Nodup → (∀ x ∈ l, ∃ s, s < n ∧ x = cOf cs s) → l.length ≤ n := fun l nd al => nodup_below n l nd fun x hx => by
      obtain ⟨s, hs, rfl⟩ := al x hx
      exact cb s hs
    have leq : ∀ s, s < n → leadK p (stepT dss) (cOf cs) (repC cs) (cOf cs s) = (leadS p (stepT dss) s).map (cOf cs) := fun s hs => lead_eq.mpr fun d hd => S.keep _ _ (hrp s hs).1 hs (hrp s hs).2 d hd
    generalize hlead : leadK p (stepT dss) (cOf cs) (repC cs) = lead at LO clK leq room MC
    have c0 : cs[0]? = some (cOf cs 0) := at_getD (by omega) 0
    refine ⟨by show 1 ≤ sizeLine; decide, fun o ho d hd => ⟨_, _, _, rfl, ?_⟩⟩
    have mo := new_more (o := .lst [V.int 0]) ho
    have md := new_more (o := .dK []) hd
    have ko : (upd (upd H1 o (.lst [V.int 0])) d (.dK [])) o = some (.lst (([0] : List Nat).map nV)) := md _ _ upd_same
    have kd : (upd (upd H1 o (.lst [V.int 0])) d (.dK [])) d = some (.dK []) := upd_same
    have m2 : More H1 (upd (upd H1 o (.lst [V.int 0])) d (.dK [])) := fun b u e => md _ _ (mo _ _ e)
    have od : o ≠ d := ne_of ko kd (fun z => by cases z)
    have H1o : H1 o = none := ho
    have H1d : H1 d = none := mo.off hd
    generalize upd (upd H1 o (.lst [V.int 0])) d (.dK []) = H2 at ko kd m2 ⊢
    clear mo md ho hd
    refine ⟨_, rfl, _, rfl, lc, _, ((0 : Nat) : Int), _, rfl, rfl, SqL.of (m2 _ _ hlc), atI_nat (at_map c0), d, _, rfl, DPut.k (k := Sum.inl ((cOf cs 0 : Nat) : Int)) kd (by decide), ?_⟩
    have ko3 : (upd H2 d (.dK (putK [] (Sum.inl ((cOf cs 0 : Nat) : Int)) (V.int 0)))) o = some (.lst (([0] : List Nat).map nV)) := (upd_ne od).trans ko
    have dn3 : DNn (upd H2 d (.dK (putK [] (Sum.inl ((cOf cs 0 : Nat) : Int)) (V.int 0)))) d (([0] : List Nat).map (cOf cs)) := ⟨_, upd_same, rfl, fun x => by
      rw [valV_put]
      by_cases z : x = cOf cs 0
      · subst z
        rw [if_pos rfl]
        show _ = Option.map _ (if cOf cs 0 = cOf cs 0 then some 0 else none)
        rw [if_pos rfl]
        rfl
      · rw [if_neg fun e => z (by have := Sum.inl.inj e; omega)]
        show none = Option.map _ (if cOf cs 0 = x then some 0 else none)
        rw [if_neg fun e => z e.symm]
        rfl⟩
    have m3 : More H1 (upd H2 d (.dK (putK [] (Sum.inl ((cOf cs 0 : Nat) : Int)) (V.int 0)))) := More.at m2 H1d
    generalize upd H2 d (.dK (putK [] (Sum.inl ((cOf cs 0 : Nat) : Int)) (V.int 0))) = H3 at ko3 dn3 m3 ⊢
    clear ko kd m2
    refine ⟨by show 0 ≤ sizeLine; exact Nat.zero_le _, fun to hto => ?_⟩
    have mt := new_more (o := .lst []) hto
    have H1t : H1 to = none := m3.off hto
    have ko4 := mt _ _ ko3
    have kt4 : (upd H3 to (.lst [])) to = some (.lst (([] : List Addr).map V.ref)) := upd_same
    have dn4 : DNn (upd H3 to (.lst [])) d (([0] : List Nat).map (cOf cs)) := by
      obtain ⟨kvs, e1, e2, e3⟩ := dn3.ex
      exact ⟨kvs, mt _ _ e1, e2, e3⟩
    have m4 : More H1 (upd H3 to (.lst [])) := fun b u e => mt _ _ (m3 _ _ e)
    have ot : o ≠ to := ne_of_none ko3 hto
    generalize upd H3 to (.lst []) = H4 at ko4 kt4 dn4 m4 ⊢
    clear ko3 dn3 m3 mt hto
    have hlc1 := hlc
    have pl1 := pl.more m1
    have en : ((rs.length : Nat) : Int) = ((n : Nat) : Int) := by omega
    refine ⟨fun σ' H' => ∃ (z6 z7 z8 : Option V) (st : List Nat) (ts : List Addr), σ' = [some (.ref M), some (.ref W), some (.ref lc), some (.ref o), some (.ref d), some (.ref to), z6, z7, z8, none] ∧ H' o = some (.lst (st.map nV)) ∧ H' to = some (.lst (ts.map V.ref)) ∧ Paired (TupN H') ts (walkFrom lead n (cOf cs 0)).2 ∧
        st.map (cOf cs) = (walkFrom lead n (cOf cs 0)).1 ∧ More H1 H' ∧ ∀ x ∈ st, x < n, ?_, ?_⟩
    · refine ⟨_, rfl, M, _, rfl, .inr (SqT.of (m4 _ _ pl1.hM)), _, rfl, ?_⟩
      show _ ∧ _ ∧ _
      rw [en]
      have ended : ∀ (i : Nat) (st : List Nat) (rows : List (List Nat)), st.length ≤ i → i ≤ n → walkB lead (n + 1 - i) i (st.map (cOf cs)) rows = walkFrom lead n (cOf cs 0) → (st.map (cOf cs), rows) = walkFrom lead n (cOf cs 0) := fun i st rows h hi e => by
        obtain ⟨k, hk⟩ : ∃ k, n + 1 - i = k + 1 := ⟨n - i, by omega⟩
        rw [hk] at e
        unfold walkB at e
        rw [show (st.map (cOf cs))[i]? = none from List.getElem?_eq_none (by rw [List.length_map]; omega)] at e
        exact e
      refine ⟨by omega, by omega, for_range (lo := 0) (n := n) (fun i σ' H' => ∃ (z6 z7 z8 : Option V) (st : List Nat) (rows : List (List Nat)) (ts : List Addr), σ' = [some (.ref M), some (.ref W), some (.ref lc), some (.ref o), some (.ref d), some (.ref to), z6, z7, z8, none] ∧ DNn H' d (st.map (cOf cs)) ∧ H' o = some (.lst (st.map nV)) ∧ H' to = some (.lst (ts.map V.ref)) ∧ Paired (TupN H') ts rows ∧ More H1 H' ∧
          WalkI lead (fun a => ∃ s, s < n ∧ a = cOf cs s) [cOf cs 0] i (st.map (cOf cs)) rows ∧ walkB lead (n + 1 - i) i (st.map (cOf cs)) rows = walkFrom lead n (cOf cs 0) ∧ ∀ x ∈ st, x < n)
        ⟨none, none, none, [0], [], [], rfl, dn4, ko4, kt4, .nil, m4, ⟨rfl, Nat.zero_le _, by simp, fun x hx => ⟨0, n0, by simpa using hx⟩, List.prefix_refl _, fun j _ _ hj => by omega⟩, rfl, fun x hx => by
          have : x = 0 := by simpa using hx
          omega⟩ ?_ ?_⟩
      · rintro i σ' G hi ⟨z6, z7, z8, st, rows, ts, rfl, dn5, ks5, km5, pr5, mo5, wi, wk, al⟩
        rw [Int.zero_add]
        have lts : ts.length = i := by rw [Paired.length pr5, wi.len]
        have lst : st.length ≤ n := by have := bnd _ wi.nd wi.all; rw [List.length_map] at this; exact this
        refine ⟨_, rfl, _, rfl, o, _, rfl, .inl (SqL.of ks5), _, _, rfl, rfl, _, rfl, ite2 (fun hz => ?_) (fun hz => ?_)⟩
        · have hz := of_decide_eq_true hz
          rw [List.length_map] at hz
          have e := ended i st rows (by omega) (by omega) wk
          refine ⟨_, _, _, st, ts, rfl, ks5, km5, ?_, ?_, mo5, al⟩
          · rw [← e]; exact pr5
          · rw [← e]
        · have hz : ¬ st.length ≤ i := fun z => hz (decide_eq_true (by rw [List.length_map]; omega))
          obtain ⟨s, hs⟩ : ∃ s, st[i]? = some s := ⟨st[i]'(by omega), List.getElem?_eq_getElem (by omega)⟩
          have sn := al s (List.mem_of_getElem? hs)
          have hsc : (st.map (cOf cs))[i]? = some (cOf cs s) := at_map hs
          have elead := leq s sn
          obtain ⟨b, row, hb, sb, erow, lrow, brow⟩ := (pl1.more mo5).row (s := s) (by omega)
          rw [← erow] at elead
          refine ⟨by show 0 ≤ sizeLine; exact Nat.zero_le _, fun lr nlr => ?_⟩
          have m6 := new_more (o := .lst []) nlr
          have H1r : H1 lr = none := mo5.off nlr
          have or_ : o ≠ lr := ne_of_none ks5 nlr
          have tr : to ≠ lr := ne_of_none km5 nlr
          have kr6 : (upd G lr (.lst [])) lr = some (.lst (([] : List Nat).map nV)) := upd_same
          have ks6 := m6 _ _ ks5
          have km6 := m6 _ _ km5
          have pr6 := paired_imp (S := TupN (upd G lr (.lst []))) (fun b row e => m6 _ _ e) pr5
          have dn6 : DNn (upd G lr (.lst [])) d (st.map (cOf cs)) := by
            obtain ⟨kvs, e1, e2, e3⟩ := dn5.ex
            exact ⟨kvs, m6 _ _ e1, e2, e3⟩
          have mo6 : More H1 (upd G lr (.lst [])) := fun b u e => m6 _ _ (mo5 _ _ e)
          have sb6 := sqT_more m6 sb
          generalize upd G lr (.lst []) = G1 at kr6 ks6 km6 pr6 dn6 mo6 sb6 ⊢
          clear m6 dn5 ks5 km5 pr5 sb
          have hM6 := mo6 _ _ pl1.hM
          refine ⟨_, rfl, _, rfl, _, rfl, o, _, ((i : Nat) : Int), _, rfl, rfl, SqL.of ks6, atI_nat (at_map hs), M, rs, ((s : Nat) : Int), _, rfl, rfl, SqT.of hM6, atI_nat hb, b, rfl, ⟨_, sb6⟩, for_tup (K := K) (a := b) (xs := row.map nV) (fun j σ' H' => ∃ (z8 : Option V) (st2 : List Nat), σ' = [some (.ref M), some (.ref W), some (.ref lc), some (.ref o), some (.ref d), some (.ref to), some (.int i), some (.ref lr), z8, none] ∧
              st2.map (cOf cs) = (noteAll (st.map (cOf cs)) ((row.map (cOf cs)).take j)).1 ∧ (∀ x ∈ st2, x < n) ∧ DNn H' d (st2.map (cOf cs)) ∧ H' o = some (.lst (st2.map nV)) ∧ H' to = some (.lst (ts.map V.ref)) ∧ Paired (TupN H') ts rows ∧ More H1 H' ∧ H' lr = some (.lst ((noteAll (st.map (cOf cs)) ((row.map (cOf cs)).take j)).2.map nV)) ∧ SqT K H' b (row.map nV))
            ⟨z8, st, rfl, rfl, al, dn6, ks6, km6, pr6, mo6, kr6, sb6⟩ (fun j σ' H' _ ⟨_, _, _, _, _, _, _, _, _, _, _, h⟩ => h) ?_ ?_⟩
          · rintro j y σ' G2 hy ⟨z8', st2, rfl, est2, al2, dn7, ks7, km7, pr7, mo7, kr7, sb7⟩
            obtain ⟨x, hx, rfl⟩ := map_at hy
            have xn : x < n := by have := brow x (List.mem_of_getElem? hx); omega
            have hcx : (row.map (cOf cs))[j]? = some (cOf cs x) := at_map hx
            have tk := take_snoc hcx
            have jr : j < row.length := (List.getElem?_eq_some_iff.mp hx).1
            have sn1 := noteAll_snoc (cOf cs x) ((row.map (cOf cs)).take j) (st.map (cOf cs))
            rw [← tk] at sn1
            have nj : (noteAll (st.map (cOf cs)) ((row.map (cOf cs)).take j)).1.Nodup := noteAll_nd _ wi.nd
            have l2 := (noteAll_at ((row.map (cOf cs)).take j) (st.map (cOf cs))).1
            have l3 : ((row.map (cOf cs)).take j).length ≤ p := by rw [List.length_take, List.length_map]; omega
            rw [sn1]
            generalize noteAll (st.map (cOf cs)) ((row.map (cOf cs)).take j) = q0 at est2 kr7 nj l2 ⊢
            obtain ⟨st0, row0⟩ := q0
            have est2 : st2.map (cOf cs) = st0 := est2
            have nj : st0.Nodup := nj
            have l2 : row0.length ≤ p := Nat.le_trans (Nat.le_of_eq l2) l3
            have kr7 : G2 lr = some (.lst (row0.map nV)) := kr7
            subst est2
            obtain ⟨kvs, hk, lk, vals⟩ := dn7.ex
            have l4 : st2.length ≤ n := by
              have := bnd _ nj (fun y hy => by obtain ⟨s', hs', rfl⟩ := List.mem_map.mp hy; exact ⟨s', al2 s' hs', rfl⟩)
              rw [List.length_map] at this
              exact this
            have ex : cs[x]? = some (cOf cs x) := at_getD (by omega) 0
            have hlc7 := mo7 _ _ hlc
            have do_ : d ≠ o := ne_of hk ks7 (fun z => by cases z)
            have dt : d ≠ to := ne_of hk km7 (fun z => by cases z)
            have dr : d ≠ lr := ne_of hk kr7 (fun z => by cases z)
            have tne : ∀ {c : Addr} {row : List Nat} {xs : List V} {e : Addr}, TupN G2 c row → G2 e = some (.lst xs) → c ≠ e := fun {c row xs e} h1 h2 => ne_of h1 h2 (fun z => by cases z)
            have tnd : ∀ {c : Addr} {row : List Nat}, TupN G2 c row → c ≠ d := fun {c row} h1 => ne_of h1 hk (fun z => by cases z)
            refine ⟨fun σ' H' => ∃ st3 : List Nat, σ' = [some (.ref M), some (.ref W), some (.ref lc), some (.ref o), some (.ref d), some (.ref to), some (.int i), some (.ref lr), some (.int x), none] ∧
              st3.map (cOf cs) = (note (st2.map (cOf cs)) (cOf cs x)).1 ∧ (∀ y ∈ st3, y < n) ∧ DNn H' d (st3.map (cOf cs)) ∧ H' o = some (.lst (st3.map nV)) ∧ H' to = some (.lst (ts.map V.ref)) ∧ Paired (TupN H') ts rows ∧ More H1 H' ∧ H' lr = some (.lst (row0.map nV)) ∧ SqT K H' b (row.map nV), ?_, ?_⟩
            · refine ⟨_, rfl, _, rfl, lc, _, ((x : Nat) : Int), _, rfl, rfl, SqL.of hlc7, atI_nat (at_map ex), _, rfl, d, _, rfl, DGet.k (k := Sum.inl ((cOf cs x : Nat) : Int)) hk, _, rfl, ?_⟩
              rw [vals (cOf cs x)]
              cases e : ixOf (st2.map (cOf cs)) (cOf cs x) with
              | some i0 =>
                refine iteF ⟨st2, rfl, ?_, al2, ⟨kvs, hk, lk, vals⟩, ks7, km7, pr7, mo7, kr7, sb7⟩
                unfold note
                rw [e]
              | none =>
                have nv : valV kvs (Sum.inl ((cOf cs x : Nat) : Int)) = none := by rw [vals (cOf cs x), e]; rfl
                refine iteT ⟨_, rfl, o, _, rfl, .inl (SqL.of ks7), _, rfl, _, rfl, _, rfl, lc, _, ((x : Nat) : Int), _, rfl, rfl, SqL.of hlc7, atI_nat (at_map ex), d, _, rfl, DPut.k (k := Sum.inl ((cOf cs x : Nat) : Int)) hk (small1000 (by rw [← lk, List.length_map]; omega)), ?_⟩
                have ks8 : (upd G2 d (.dK (putK kvs (Sum.inl ((cOf cs x : Nat) : Int)) (.int ((st2.map nV).length : Nat))))) o = some (.lst (st2.map nV)) := (upd_ne do_.symm).trans ks7
                refine ⟨_, rfl, .inl ⟨rfl, _, SqL.of ks8⟩, _, rfl, o, _, _, rfl, rfl, ks8, by rw [List.length_map]; exact small1000 (by omega), ?_⟩
                have en : note (st2.map (cOf cs)) (cOf cs x) = (st2.map (cOf cs) ++ [cOf cs x], (st2.map (cOf cs)).length) := by unfold note; rw [e]
                rw [en]
                have emap : (st2 ++ [x]).map (cOf cs) = st2.map (cOf cs) ++ [cOf cs x] := by rw [List.map_append]; rfl
                have sbk : ∀ {H5 : Hp}, (∀ u w, G2 u = some (.tup w) → H5 u = some (.tup w)) → (∀ u f w, G2 u = some (.frz f w) → H5 u = some (.frz f w)) → SqT K H5 b (row.map nV) := fun {H5} k1 k2 => by
                  rcases sb7 with (h | ⟨o', h⟩) | h
                  · exact .inl (.inl (k1 _ _ h))
                  · exact .inl (.inr ⟨o', k2 _ _ _ h⟩)
                  · exact .inr h
                refine ⟨st2 ++ [x], rfl, emap, fun y hy => ?_, ⟨_, (upd_ne do_).trans upd_same, ?_, fun y => ?_⟩, ?_, ?_, ?_, More.at (More.at mo7 H1d) H1o, ?_, ?_⟩
                · rcases List.mem_append.mp hy with hy | hy
                  · exact al2 y hy
                  · have : y = x := by simpa using hy
                    omega
                · rw [putK_new' nv, ← lk, emap, List.length_append]
                  rfl
                · rw [valV_put, emap, ixOf_app]
                  by_cases z : y = cOf cs x
                  · subst z
                    rw [if_pos rfl, e, if_pos rfl, List.length_map, List.length_map]
                    rfl
                  · rw [if_neg fun q => z (by have := Sum.inl.inj q; omega), vals y]
                    cases ixOf (st2.map (cOf cs)) y with
                    | some t => rfl
                    | none =>
                      show none = Option.map _ (if cOf cs x = y then _ else none)
                      rw [if_neg fun q => z q.symm]
                      rfl
                · rw [upd_same, List.map_append]
                  rfl
                · rw [upd_ne ot.symm, upd_ne dt.symm]
                  exact km7
                · exact paired_imp (S := TupN _) (fun c row (e : TupN G2 c row) => (upd_ne (tne e ks7)).trans ((upd_ne (tnd e)).trans e)) pr7
                · rw [upd_ne or_.symm, upd_ne dr.symm]
                  exact kr7
                · refine sbk (fun u w e => ?_) fun u f w e => ?_
                  · exact (upd_ne (ne_of e ks7 (fun z => by cases z))).trans ((upd_ne (ne_of e hk (fun z => by cases z))).trans e)
                  · exact (upd_ne (ne_of e ks7 (fun z => by cases z))).trans ((upd_ne (ne_of e hk (fun z => by cases z))).trans e)
            · rintro σ2 G3 ⟨st3, rfl, est3, al3, ⟨kv8, hk8, lk8, vals8⟩, ks8, km8, pr8, mo8, kr8, sb8⟩
              have es := ixOf_self (note_nd nj (cOf cs x)) (note_at (st2.map (cOf cs)) (cOf cs x))
              rw [← est3] at es
              refine ⟨_, rfl, .inl ⟨rfl, _, SqL.of kr8⟩, _, rfl, _, rfl, _, rfl, lc, _, ((x : Nat) : Int), _, rfl, rfl, SqL.of (mo8 _ _ hlc), atI_nat (at_map ex), d, V.int ((note (st2.map (cOf cs)) (cOf cs x)).2 : Nat), rfl, dg (Sum.inl ((cOf cs x : Nat) : Int)) hk8 (by rw [vals8 (cOf cs x), es]; rfl), lr, _, _, rfl, rfl, kr8, by rw [List.length_map]; exact small1000 (by omega), ?_⟩
              have dlr8 : d ≠ lr := ne_of hk8 kr8 (fun z => by cases z)
              refine ⟨_, st3, rfl, est3, al3, ⟨kv8, (upd_ne dlr8).trans hk8, lk8, vals8⟩, (upd_ne or_).trans ks8, (upd_ne tr).trans km8, paired_imp (S := TupN _) (fun c row (e : TupN G3 c row) => (upd_ne (ne_of e kr8 (fun z => by cases z))).trans e) pr8, More.at mo8 H1r, ?_, ?_⟩
              · rw [upd_same, List.map_append]
                rfl
              · rcases sb8 with (h | ⟨o', h⟩) | h
                · exact .inl (.inl ((upd_ne (ne_of h kr8 (fun z => by cases z))).trans h))
                · exact .inl (.inr ⟨o', (upd_ne (ne_of h kr8 (fun z => by cases z))).trans h⟩)
                · exact .inr h
          · rintro σ' G2 ⟨z8', st2, rfl, est2, al2, dn7, ks7, km7, pr7, mo7, kr7, sb7⟩
            have lrw : (row.map nV).length = (row.map (cOf cs)).length := by rw [List.length_map, List.length_map]
            rw [lrw, List.take_length, ← elead] at est2 kr7
            have lr2 : (noteAll (st.map (cOf cs)) (lead (cOf cs s))).2.length = p := by rw [(noteAll_at (lead (cOf cs s)) (st.map (cOf cs))).1, elead, List.length_map, lrow]
            refine ⟨_, rfl, .inl ⟨rfl, _, SqL.of km7⟩, _, rfl, lr, _, rfl, .inl ⟨SqL.of kr7, fun t ht => ?_⟩⟩
            have mt := new_more (o := .tup ((noteAll (st.map (cOf cs)) (lead (cOf cs s))).2.map nV)) ht
            have kt : (upd G2 t (.tup ((noteAll (st.map (cOf cs)) (lead (cOf cs s))).2.map nV))) t = some (.tup ((noteAll (st.map (cOf cs)) (lead (cOf cs s))).2.map nV)) := upd_same
            have ks8 := mt _ _ ks7
            have km8 := mt _ _ km7
            have pr8 := paired_imp (S := TupN (upd G2 t (.tup ((noteAll (st.map (cOf cs)) (lead (cOf cs s))).2.map nV)))) (fun b row e => mt _ _ e) pr7
            have mo8 : More H1 (upd G2 t (.tup ((noteAll (st.map (cOf cs)) (lead (cOf cs s))).2.map nV))) := fun b u e => mt _ _ (mo7 _ _ e)
            obtain ⟨kv, hk, lk, vals⟩ := dn7.ex
            have hk8 := mt _ _ hk
            generalize upd G2 t (.tup ((noteAll (st.map (cOf cs)) (lead (cOf cs s))).2.map nV)) = G3 at kt ks8 km8 pr8 mo8 hk8 ⊢
            refine ⟨to, _, _, rfl, rfl, km8, by rw [List.length_map]; exact small1000 (by omega), ?_⟩
            have dto : d ≠ to := ne_of hk8 km8 (fun z => by cases z)
            have tto : t ≠ to := ne_of kt km8 (fun z => by cases z)
            have wi' := wi.step (fun a ha b hb => clK a ha b hb) hsc
            refine ⟨_, _, _, st2, rows ++ [(noteAll (st.map (cOf cs)) (lead (cOf cs s))).2], ts ++ [t], rfl, ⟨kv, (upd_ne dto).trans hk8, lk, vals⟩, (upd_ne ot).trans ks8, ?_, ?_, More.at mo8 H1t, by rw [est2]; exact wi', ?_, al2⟩
            · rw [upd_same, List.map_append]
              rfl
            · exact paired_snoc (R := TupN _) ((upd_ne tto).trans kt) (paired_imp (S := TupN _) (fun c row (e : TupN G3 c row) => (upd_ne (ne_of e km8 (fun z => by cases z))).trans e) pr8)
            · rw [est2, ← wk, show n + 1 - i = n - i + 1 by omega, show n + 1 - (i + 1) = n - i by omega]
              conv => rhs; unfold walkB
              rw [hsc]
      · rintro σ' G ⟨z6, z7, z8, st, rows, ts, rfl, dn5, ks5, km5, pr5, mo5, wi, wk, al⟩
        have lst : st.length ≤ n := by have := bnd _ wi.nd wi.all; rw [List.length_map] at this; exact this
        have e := ended n st rows lst (Nat.le_refl _) wk
        refine ⟨_, _, _, st, ts, rfl, ks5, km5, ?_, ?_, mo5, al⟩
        · rw [← e]; exact pr5
        · rw [← e]
    · rintro σ' G ⟨z6, z7, z8, st, ts, rfl, ks5, km5, pr5, est, mo5, al⟩
      have lst : st.length ≤ n := by
        have := MC.few
        rw [← est, List.length_map] at this
        exact this
      refine ⟨_, rfl, to, _, rfl, .inl ⟨SqL.of km5, fun t1 ht1 => ?_⟩⟩
      have mt1 := new_more (o := .tup (ts.map V.ref)) ht1
      have kt1 : (upd G t1 (.tup (ts.map V.ref))) t1 = some (.tup (ts.map V.ref)) := upd_same
      have ks6 := mt1 _ _ ks5
      have pr6 := paired_imp (S := TupN (upd G t1 (.tup (ts.map V.ref)))) (fun b row (e : TupN G b row) => mt1 _ _ e) pr5
      have mo6 : More H1 (upd G t1 (.tup (ts.map V.ref))) := fun b u e => mt1 _ _ (mo5 _ _ e)
      generalize upd G t1 (.tup (ts.map V.ref)) = G1 at kt1 ks6 pr6 mo6 ⊢
      refine ⟨_, rfl, o, rfl, ⟨_, SqL.of ks6⟩, fun D hD => ?_⟩
      refine lc_name (n := 9) (D := D) (H1 := G1) (xs := st.map nV) (rs := st.map fun s => V.int (valL ws s)) walk_list hD (fun H' m => SqL.of (m _ _ ks6)) (by rw [List.length_map, List.length_map]) (by rw [List.length_map]; omega) (fun _ => rfl) ?_ ?_
      · intro i y v G3 Q3 hy hv m7 q3
        obtain ⟨s, hs, rfl⟩ := map_at hy
        obtain ⟨s', hs', rfl⟩ := map_at hv
        rw [hs] at hs'
        cases hs'
        have sn := al s (List.mem_of_getElem? hs)
        exact ⟨_, rfl, _, rfl, W, _, ((s : Nat) : Int), _, rfl, rfl, SqT.of (m7 _ _ (mo6 _ _ pl1.hW)), atI_nat (at_map (at_getD (by omega) 0)), q3 _ fun _ _ e => e⟩
      · intro G2 kD m7
        refine ⟨D, _, rfl, .inl ⟨SqL.of kD, fun t2 ht2 => ?_⟩⟩
        have mt2 := new_more (o := .tup (st.map fun s => V.int (valL ws s))) ht2
        refine ⟨by show 2 ≤ sizeLine; decide, fun t3 ht3 => ?_⟩
        have mt3 := new_more (o := .tup [.ref t1, .ref t2]) ht3
        have m8 : More G1 (upd (upd G2 t2 (.tup (st.map fun s => V.int (valL ws s)))) t3 (.tup [.ref t1, .ref t2])) := fun b u e => mt3 _ _ (mt2 _ _ (m7 _ _ e))
        have eU : (st.map fun s => V.int (valL ws s)) = ((walkFrom lead n (cOf cs 0)).1.map fun a => valL ws (repC cs a)).map V.int := by
          rw [← est, List.map_map, List.map_map]
          refine List.map_congr_left fun s hs => ?_
          have sn := al s hs
          show V.int _ = V.int (valL ws (repC cs (cOf cs s)))
          rw [S.tell s _ sn (hrp s sn).1 (hrp s sn).2.symm]
        refine q _ t3 t1 t2 ts (walkFrom lead n (cOf cs 0)).2 ((walkFrom lead n (cOf cs 0)).1.map fun a => valL ws (repC cs a)) (fun b u e => m8 _ _ (mo6 _ _ (m1 _ _ e))) upd_same (m8 _ _ kt1) (paired_imp (S := TupN _) (fun b row (e : TupN G1 b row) => m8 _ _ e) pr6) ?_ (by rw [← hn]; exact LO)
        rw [← eU]
        exact mt3 _ _ upd_same
end
end K71

namespace K71
open PySem L2 Gd B5
abbrev sIl : Stmt := top 39
theorem scIl : FnScope ["_law_told", "_law_p", "_law_moves", "_law_worths", "_law_small_here"] ["_law_told", "_law_p", "_law_moves", "_law_worths"] (defScope sIl) := ⟨rfl, rfl, rfl, by decide +kernel, rfl, by decide +kernel, by decide +kernel⟩
theorem rows_tupI {K : PySem.W.Frag} {H : Hp} : ∀ {ts : List Addr} {R : List (List Nat)}, Paired (TupN H) ts R → Paired (TupI K H) (ts.map V.ref) (toI R)
  | [], [], .nil => .nil
  | t :: ts, r :: R, .cons h q => .cons ⟨t, rfl, SqT.of (by
      have h : H t = some (.tup (r.map nV)) := h
      rw [h, List.map_map]
      rfl)⟩ (rows_tupI q)
def spIl (K : PySem.W.Frag) (C : Addr) : Sp := fun vs H Q _ => ∃ (a M W : Addr) (rs : List V) (p : Nat) (dss : List (List Int)) (ws : List Int) (R : List (List Nat)) (U : List Int), vs = [.ref a, .int p, .ref M, .ref W] ∧ MAt K H C a p (toI R) U ∧ PlT K H M W rs p dss ws ∧ LeastFor p (stepT dss) (valL ws) R U ∧ ∀ H', More H H' → Q (.bl true) H'
section
variable {P : Program} {w : World} {K : PySem.W.Frag} {mg : Str → Option Value} {base : Heap} {C g1 g2 f : Addr} {d1 d2 fd : FuncData}
theorem ok_il (F : Fun K "_law_is_least" "_law_is_least" sIl f fd) (B : Blt mg) (Z : McC K mg C) (Sm : Cl K mg "_law_small" sSm ["_law_moves", "_law_worths"] g1 d1) (G1 : FnOk P w K mg base CX0 3 g1 d1 ["_law_moves", "_law_worths"] (spSm K))
    (Im : Cl K mg "_law_is_machine" sIm ["_law_told", "_law_p", "_law_moves", "_law_worths"] g2 d2) : FnOk P w K mg base CX0 4 f fd ["_law_told", "_law_p", "_law_moves", "_law_worths"] (spIl K C) := by
  have G2 : FnOk P w K mg base CX0 1 g2 d2 ["_law_told", "_law_p", "_law_moves", "_law_worths"] (spIm K C) := ok_im Im.fn B Z
  refine F.ok scIl (fun vs H Q E h => ?_) (fun cdv A outer s H vs Q E hr h => ?_)
  · obtain ⟨a, M, W, rs, p, dss, ws, R, U, rfl, _⟩ := h
    rfl
  · obtain ⟨a, M, W, rs, p, dss, ws, R, U, rfl, ma, pl, LF, q⟩ := h
    have hr1 : Room 1 _ := hr.mono (by decide)
    refine ⟨_, pss_cons (ps_set (i := 4) scIl.nd rfl (Or.inl rfl) (pe_call G1 hr rfl Sm.g Sm.k Sm.b .nil pass0 (pa_cons (pv 2) (pa_cons (pv 3) pa_nil))))
      (pss_one (ps_ret (pe_call G2 hr1 rfl Im.g Im.k Im.b .nil pass0 (pa_cons (pv 0) (pa_cons (pv 1) (pa_cons (pe_ix ix_tup (pv 4) pe_int (fun _ _ => rfl)) (pa_cons (pe_ix ix_tup (pv 4) pe_int (fun _ _ => rfl)) pa_nil))))))), ?_⟩
    refine ⟨_, rfl, _, rfl, M, W, rs, p, dss, ws, rfl, pl, fun H1 t tM tW ts R' U' m1 k1 k2 k3 k4 LO => ?_⟩
    obtain ⟨e1, e2⟩ := LF.one LO.for .refl
    subst e1 e2
    refine ⟨_, rfl, _, rfl, _, rfl, t, _, ((0 : Nat) : Int), _, rfl, rfl, SqT.of k1, atI_nat rfl, _, rfl, t, _, ((1 : Nat) : Int), _, rfl, rfl, SqT.of k1, atI_nat rfl, a, tM, tW, _, (p : Int), toI R, U, rfl, ma.more m1, SqT.of k2, rows_tupI k3, SqT.of k4, fun H' m => q H' fun b u e => m _ _ (m1 _ _ e)⟩
end
end K71

namespace K71
open PySem L2 Gd B5 NdefX
theorem lf_across {p : Nat} {step step' : Nat → Nat → Nat} {val val' : Nat → Int} {R : List (List Nat)} {U : List Int} (L : LeastFor p step' val' R U) (A : Across p step val step' val' 0 0) : LeastFor p step val R U := by
  obtain ⟨n, s, v, L, B⟩ := L.ex
  exact ⟨n, s, v, L, A.trans B⟩
/-- the values that are met -/
def metV (p : Nat) (dss : List (List Int)) (ws : List Int) : List Int := (metN p dss).map fun s => ws.getD s 0
def spMp (K : PySem.W.Frag) (C CN : Addr) (T : List NTab) : Sp := fun vs H Q E => ∃ (a nd : Addr) (p : Nat) (dss : List (List Int)) (ws : List Int) (kvs : List (Key × V)), vs = [.ref a, .ref nd] ∧ MAt K H C a p dss ws ∧ MGood p dss ws ∧ dss.length ≤ 900 ∧ stdy dss ws = true ∧ TabsN T H ∧ H nd = some (.dK kvs) ∧
  ((∃ nf : Int → Int, (∀ v ∈ metV p dss ws, valV kvs (Sum.inl v) = some (V.int (nf v))) ∧
    ∀ (H' : Hp) (b : Addr) (R : List (List Nat)) (U : List Int), LamX.ExtN H H' → TabsN T H' → LeastFor p (stepT dss) (fun s => nf (valL ws s)) R U → MAt K H' C b p (toI R) U → Q (.ref b) H') ∨
  (∃ v ∈ metV p dss ws, valV kvs (Sum.inl v) = none ∧ (∀ u ∈ metV p dss ws, u < v → valV kvs (Sum.inl u) ≠ none) ∧ ∀ H', LamX.ExtN H H' → TabsN T H' → RNum CN "value" (.int v) H' E))
section
variable {P : Program} {w : World} {K : PySem.W.Frag} {mg : Str → Option Value} {base : Heap}
variable {C CN fN gL gM f : Addr} {fdN dL dM fd : FuncData} {T : List NTab}
theorem ok_mp (F : Fun K "mapped" "mapped" sMp f fd) (B : Blt mg) (Z : McC K mg C) (zSorted : mg "sorted" = none) (N : Er K mg "BadNumber" "BadNumber.__init__" CN fN ["what", "number"] sBadNumber fdN)
    (Ms : Cl K mg "met_states" sMs ["moves", "worths"] gM dM) (GM : FnOk P w K mg base CX0 4 gM dM ["moves", "worths"] (spMs K T))
    (Lm : Cl K mg "least_made" sLmd ["p", "moves", "worths"] gL dL) (GL : FnOk P w K mg base CX0 7 gL dL ["p", "moves", "worths"] (spLmd K C T)) :
    FnOk P w K mg base (L2.CX P w) 8 f fd ["machine", "numbers"] (spMp K C CN T) := by
  have GN : FnOk P w K mg base CX0 1 fN fdN ["self", "what", "number"] (spIni CN ["what", "number"]) := okBadNumber N.fn N.T N.no
  refine F.okX scMp (fun vs H Q E h => ?_) (fun cdv A outer s H vs Q E hr h => ?_)
  · obtain ⟨a, nd, p, dss, ws, kvs, rfl, _⟩ := h
    rfl
  · obtain ⟨a, nd, p, dss, ws, kvs, rfl, ma, g, few, sd, tabs, hnd, h⟩ := h
    have hr2 : Room 2 _ := hr.mono (by decide)
    have hr4 : Room 4 _ := hr.mono (by decide)
    have hu := hu_of hr
    refine ⟨_, pss_cons (ps_asg (pe_call GM hr4 rfl Ms.g Ms.k Ms.b .nil pass0 (pa_cons (pe_fld (pv 0) rfl) (pa_cons (pe_fld (pv 0) rfl) pa_nil))) (pg_tup (by rfl) (pgs_cons (pg_name (i := 2) scMp.nd rfl (Or.inl rfl)) (pgs_cons (pg_name (i := 3) scMp.nd rfl (Or.inl rfl)) pgs_nil))))
      (pss_cons (ps_for (passes_of rfl) rfl (pi_list (pe_callB cr_sortedI (by rfl) zSorted (by decide +kernel) (pa_cons (pv 3) pa_nil))) (pg_name (i := 4) scMp.nd rfl (Or.inl rfl))
        (pss_one (ps_if (pt_cmp (pc_dnotin hu (pv 4) (pv 1)))
          (pss_one (ps_raise rfl (takes_of rfl rfl rfl rfl) (pmk_oex N.T N.iC N.tI GN hr2 N.b .nil pass0 rfl N.g (pa_cons pe_str (pa_cons (pv 4) pa_nil))))) pss_nil)))
      (pss_one (ps_ret (pe_call GL hr rfl Lm.g Lm.k Lm.b .nil pass0 (pa_cons (pe_fld (pv 0) rfl) (pa_cons (pv 2) (pa_cons
          (pe_lc (own := [("value", 4)]) (g := gName 4) (tt := tYes) rfl scMp.nd (pi_list (pv 3)) (blkOk_by (N := NMp) (sc := defScope sMp) (by decide +kernel)) (fun _ _ _ _ _ => pg_name (i := 4) scMp.nd rfl (Or.inl rfl)) (fun _ _ _ _ _ => pts_nil)
            (fun _ _ _ _ _ => pe_dget hu (pv 1) (pv 4) (fun _ _ => rfl))) pa_nil))))))), ?_⟩
    obtain ⟨dx, tm, tu, xs, h1, h2, h3, h4⟩ := id ma
    obtain ⟨p2, p7⟩ := isPr_small g.pr
    have MI := met_I g
    have fm := (metI_C MI).fine (f := fun s => ws.getD s 0)
    refine ⟨_, rfl, a, C, dx, _, _, rfl, h1, Z.ic.cl, Z.n2, rfl, _, rfl, a, C, dx, _, _, rfl, h1, Z.ic.cl, Z.n3, rfl, tm, tu, xs, p, dss, ws, rfl, .inr h2, h3, .inr h4, g, tabs, fun H1 t1 lr lw ts e1 tabs1 k1 k2 k3 k4 => ?_⟩
    refine ⟨t1, _, rfl, SqT.of k1, rfl, _, _, rfl, _, _, rfl, rfl, ?_⟩
    have k4 : H1 lw = some (.lst ((metV p dss ws).map V.int)) := by rw [k4]; unfold metV; rw [List.map_map]; rfl
    have hnd1 := e1 _ _ hnd (fun _ z => nomatch z)
    refine ⟨_, rfl, lw, metV p dss ws, rfl, SqL.of k4, fun vs' L pm srt hL => ?_⟩
    have mL := new_more (o := .lst (vs'.map V.int)) hL
    have kL : (upd H1 L (.lst (vs'.map V.int))) L = some (.lst (vs'.map V.int)) := upd_same
    have hnd2 := mL _ _ hnd1
    have k2' := mL _ _ k2
    have k4' := mL _ _ k4
    have k3' := paired_imp (S := TupN (upd H1 L (.lst (vs'.map V.int)))) (fun b r (e : TupN H1 b r) => mL _ _ e) k3
    have e2 : LamX.ExtN H (upd H1 L (.lst (vs'.map V.int))) := e1.trans (.of mL)
    have tabs2 := tabs1.ext mL
    generalize upd H1 L (.lst (vs'.map V.int)) = H2 at kL hnd2 k2' k4' k3' e2 tabs2 ⊢
    obtain ⟨nf, hnf, q⟩ | ⟨v, hv, nv, fst, q⟩ := h
    · -- all are there
      refine ⟨L, rfl, ⟨_, SqL.of kL⟩, for_list (K := K) (a := L) (xs := vs'.map V.int) (fun i σ' H' => ∃ z4, σ' = [some (.ref a), some (.ref nd), some (.ref lr), some (.ref lw), z4] ∧ H' = H2)
        ⟨none, rfl, rfl⟩ (fun i σ' H' _ ⟨_, _, e⟩ => by rw [e]; exact SqL.of kL) ?_ ?_⟩
      · rintro i y σ' G hy ⟨z4, rfl, rfl⟩
        obtain ⟨u, hu', rfl⟩ := map_at hy
        have hm : u ∈ metV p dss ws := pm.mem_iff.mp (List.mem_of_getElem? hu')
        refine ⟨_, rfl, _, rfl, nd, _, rfl, DGet.k (k := Sum.inl u) hnd2, _, rfl, ?_⟩
        rw [hnf u hm]
        exact iteF ⟨_, rfl, rfl⟩
      · rintro σ' G ⟨z4, rfl, rfl⟩
        refine ⟨_, rfl, a, C, dx, _, _, rfl, e2 _ _ h1 (fun _ z => nomatch z), Z.ic.cl, Z.n1, rfl, _, rfl, _, rfl, lw, rfl, ⟨_, SqL.of k4'⟩, fun D hD => ?_⟩
        have lV : (metV p dss ws).length = (metR p dss).length := by unfold metV; rw [List.length_map, MI.len]
        have lR : (metR p dss).length ≤ dss.length := fm.few
        refine lc_name (n := 4) (D := D) (H1 := G) (xs := (metV p dss ws).map V.int) (rs := ((metV p dss ws).map nf).map V.int) walk_list hD (fun H' m => SqL.of (m _ _ k4')) (by rw [List.length_map, List.length_map, List.length_map]) (by rw [List.length_map]; omega) (fun _ => rfl) ?_ ?_
        · intro i y v G3 Q3 hy hv m7 q3
          obtain ⟨u, hu', rfl⟩ := map_at hy
          obtain ⟨u2, hu2, rfl⟩ := map_at hv
          obtain ⟨u3, hu3, rfl⟩ := map_at hu2
          rw [hu'] at hu3
          cases hu3
          exact ⟨_, rfl, _, rfl, nd, V.int (nf u), rfl, dg (Sum.inl u) (m7 _ _ hnd2) (hnf u (List.mem_of_getElem? hu')), q3 _ fun _ _ e => e⟩
        · intro G3 kD m7
          have stM : ∀ s, s < (metR p dss).length → valL ((metV p dss ws).map nf) s = valL ((metV p dss ws).map nf) (tab (metR p dss) s 0) := fun s hs => by
            rw [MI.len] at hs
            have ea : (metN p dss)[s]? = some (metN p dss)[s] := List.getElem?_eq_getElem hs
            obtain ⟨l1, l2⟩ := MI.led s _ 0 ea (by omega)
            unfold valL metV
            rw [List.map_map, getD_map hs 0, getD_map l1 0, List.getD_eq_getElem?_getD (l := metN p dss) (i := s), ea, List.getD_eq_getElem?_getD (l := metN p dss), l2]
            exact congrArg nf ((stdy_iff g.len).mp sd _ (MI.all _ (List.getElem_mem hs)))
          have fm2 : Fine dss.length p (metR p dss) ((metV p dss ws).map nf) := ⟨fm.ne, fm.few, fm.rows, by rw [List.length_map, lV]⟩
          refine ⟨lr, D, ts.map V.ref, p, toI (metR p dss), (metV p dss ws).map nf, rfl, .inl (SqL.of (m7 _ _ k2')), rows_tupI (paired_imp (S := TupN _) (fun b r (e : TupN G b r) => m7 _ _ e) k3'), .inl (SqL.of kD), fine_good fm2 g.pr (by omega), by rw [toI_len]; omega, fine_stdy fm2 (by omega) stM, tabs2.ext m7, fun H6 b R U e6 tab6 LF fi st6 ma6 => ?_⟩
          refine q H6 b R U (e2.trans ((LamX.ExtN.of m7).trans e6)) tab6 (lf_across LF fun w hw => ?_) ma6
          have e := MI.run w 0 0 MI.first hw
          have lt := (List.getElem?_eq_some_iff.mp e).1
          have inr : ∀ (w : List Nat) (i : Nat), i < (metR p dss).length → (∀ d ∈ w, d < p) → runW (stepT (toI (metR p dss))) i w = runW (tab (metR p dss)) i w := by
            intro w
            induction w with
            | nil => intro i hi _; rfl
            | cons d w ih =>
              intro i hi hw
              have hd := hw d (.head _)
              have e := stepT_toI (p := p) hi (fun r hr => (fm.rows r hr).1) hd
              have l : tab (metR p dss) i d < (metR p dss).length := by
                obtain ⟨l1, l2⟩ := fm.rows _ (List.mem_of_getElem? (at_getD hi []))
                exact l2 _ (List.mem_of_getElem? (at_getD (l := (metR p dss).getD i []) (i := d) (by omega) 0))
              show runW (stepT (toI (metR p dss))) (stepT (toI (metR p dss)) i d) w = runW (tab (metR p dss)) (tab (metR p dss) i d) w
              rw [e]
              exact ih _ l fun x hx => hw x (.tail _ hx)
          rw [inr w 0 fm.ne hw]
          show nf (valL ws (runW (stepT dss) 0 w)) = ((metV p dss ws).map nf).getD (runW (tab (metR p dss)) 0 w) 0
          unfold metV
          rw [List.map_map, getD_map lt 0, List.getD_eq_getElem?_getD, e]
          rfl
    · -- one is not
      refine ⟨L, rfl, ⟨_, SqL.of kL⟩, for_list (K := K) (a := L) (xs := vs'.map V.int) (fun i σ' H' => ∃ z4, σ' = [some (.ref a), some (.ref nd), some (.ref lr), some (.ref lw), z4] ∧ H' = H2 ∧ ∀ j, j < i → ∀ u, vs'[j]? = some u → u < v)
        ⟨none, rfl, rfl, fun j hj => absurd hj (Nat.not_lt_zero j)⟩ (fun i σ' H' _ ⟨_, _, e, _⟩ => by rw [e]; exact SqL.of kL) ?_ ?_⟩
      · rintro i y σ' G hy ⟨z4, rfl, rfl, ah⟩
        obtain ⟨u, hu', rfl⟩ := map_at hy
        have hm : u ∈ metV p dss ws := pm.mem_iff.mp (List.mem_of_getElem? hu')
        refine ⟨_, rfl, _, rfl, nd, _, rfl, DGet.k (k := Sum.inl u) hnd2, _, rfl, ?_⟩
        have hv' : v ∈ vs' := pm.mem_iff.mpr hv
        obtain ⟨iv, hiv⟩ := List.getElem?_of_mem hv'
        have le : u ≤ v := by
          by_cases z : iv < i
          · exact absurd (ah iv z v hiv) (by omega)
          · by_cases z2 : iv = i
            · subst z2
              rw [hu'] at hiv
              cases hiv
              exact Int.le_refl _
            · have l1 := (List.getElem?_eq_some_iff.mp hu').1
              have l2 := (List.getElem?_eq_some_iff.mp hiv).1
              have := List.pairwise_iff_getElem.mp srt i iv l1 l2 (by omega)
              rw [(List.getElem?_eq_some_iff.mp hu').2, (List.getElem?_eq_some_iff.mp hiv).2] at this
              exact this
        by_cases z : u = v
        · subst z
          rw [nv]
          exact iteT ⟨_, rfl, mk_ini rfl (by show 2 ≤ 900; decide) (q _ e2 tabs2)⟩
        · have lt : u < v := by omega
          cases ee : valV kvs (Sum.inl u) with
          | none => exact absurd ee (fst u hm lt)
          | some o =>
            refine iteF ⟨_, rfl, rfl, fun j hj x hx => ?_⟩
            by_cases z2 : j = i
            · subst z2
              rw [hu'] at hx
              cases hx
              exact lt
            · exact ah j (by omega) x hx
      · rintro σ' G ⟨z4, rfl, rfl, ah⟩
        obtain ⟨iv, hiv⟩ := List.getElem?_of_mem (pm.mem_iff.mpr hv)
        have l2 := (List.getElem?_eq_some_iff.mp hiv).1
        exact absurd (ah iv (by rw [List.length_map]; exact l2) v hiv) (by omega)
end
end K71

/-! Rch: what words lead to; the walk meets just that; short words do. -/
namespace B5
section
variable {n p : Nat} {step : Nat → Nat → Nat} {val : Nat → Int} {R : List (List Nat)} {W : List Int}
/-- a word leads here -/
def Rch (p : Nat) (step : Nat → Nat → Nat) (s : Nat) : Prop := ∃ w, Dg p w ∧ runW step 0 w = s
theorem Rch.zero : Rch p step 0 := ⟨[], fun _ h => (nomatch h), rfl⟩
theorem Rch.next {s d : Nat} (h : Rch p step s) (hd : d < p) : Rch p step (step s d) := by
  obtain ⟨w, h1, rfl⟩ := h
  exact ⟨w ++ [d], Dg.snoc.mpr ⟨h1, hd⟩, runW_app⟩
theorem rch_in (P : Nat → Prop) (h0 : P 0) (cl : ∀ s d, P s → d < p → P (step s d)) {s : Nat} (h : Rch p step s) : P s := by
  obtain ⟨w, hw, rfl⟩ := h
  have key : ∀ (w : List Nat) (s : Nat), P s → Dg p w → P (runW step s w) := by
    intro w
    induction w with
    | nil => intro s hs _; exact hs
    | cons d w ih => intro s hs g; exact ih _ (cl s d hs (g d (.head _))) fun x hx => g x (.tail _ hx)
  exact key w 0 h0 hw
theorem Rch.below (cl : ∀ s d, s < n → d < p → step s d < n) (n0 : 0 < n) {s : Nat} (h : Rch p step s) : s < n := rch_in (fun s => s < n) n0 cl h
theorem met_rch {N : Nat} (cl : ∀ s d, s < n → d < p → step s d < n) (n0 : 0 < n) (hN : n ≤ N) : ∀ s ∈ (walkFrom (leadS p step) N 0).1, Rch p step s :=
  (walkFrom_end (lead := leadS p step) (P := fun s => Rch p step s) (fun a ha b hb => by
    obtain ⟨d, hd, rfl⟩ := leadS_mem hb
    exact ha.next hd) (N := N) (fun l nd al => Nat.le_trans (nodup_below n l nd fun x hx => (al x hx).below cl n0) hN) .zero).all
theorem rch_met {met : List Nat} {rows : List (List Nat)} (M : MetI n p step 0 met rows) {s : Nat} (h : Rch p step s) : s ∈ met := by
  obtain ⟨w, hw, rfl⟩ := h
  exact List.mem_of_getElem? (M.run w 0 0 M.first hw)
/-- the least machine's values are told -/
theorem LeastOf.rch (L : LeastOf n p step val R W) : ∀ x ∈ W, ∃ s, Rch p step s ∧ val s = x := by
  obtain ⟨c, rp, S, k, cb, hr, h⟩ := L.ex
  obtain ⟨_, e2⟩ := h n (Nat.le_refl _)
  have all := (walkFrom_end (lead := leadK p step c rp) (P := fun a => ∃ s, Rch p step s ∧ a = c s) (fun a ⟨s, hs, ea⟩ b hb => by
    obtain ⟨x, hx, rfl⟩ := List.mem_map.mp hb
    obtain ⟨d, hd, rfl⟩ := leadS_mem hx
    subst ea
    have sn := hs.below L.cl L.n0
    exact ⟨step s d, hs.next hd, S.keep _ _ (hr s sn).1 sn (hr s sn).2 d hd⟩) (N := n) (fun l nd al => nodup_below n l nd fun x hx => by
      obtain ⟨s, hs, rfl⟩ := al x hx
      exact cb s (hs.below L.cl L.n0)) (a := c 0) ⟨0, .zero, rfl⟩).all
  intro x hx
  rw [e2] at hx
  obtain ⟨a, ha, rfl⟩ := List.mem_map.mp hx
  obtain ⟨s, hs, rfl⟩ := all a ha
  have sn := hs.below L.cl L.n0
  exact ⟨s, hs, (S.tell _ _ (hr s sn).1 sn (hr s sn).2).symm⟩
/-- a short word does -/
theorem rch_short (cl : ∀ s d, s < n → d < p → step s d < n) (n0 : 0 < n) {s : Nat} (h : Rch p step s) : ∃ w : List Nat, w.length < n ∧ Dg p w ∧ runW step 0 w = s := by
  obtain ⟨w0, g0, e0⟩ := h
  obtain ⟨L, ⟨w, rfl, g, e⟩, least⟩ := least_ex (fun L => ∃ w : List Nat, w.length = L ∧ Dg p w ∧ runW step 0 w = s) w0.length ⟨w0, rfl, g0, e0⟩
  refine ⟨w, ?_, g, e⟩
  by_cases z : w.length < n
  · exact z
  exfalso
  by_cases q : ∃ i j, i < j ∧ j ≤ w.length ∧ runW step 0 (w.take i) = runW step 0 (w.take j)
  · obtain ⟨i, j, lt, le, eq⟩ := q
    have l := least (w.take i ++ w.drop j).length ⟨_, rfl, fun x hx => by
      rcases List.mem_append.mp hx with hx | hx
      · exact g x (List.mem_of_mem_take hx)
      · exact g x (List.mem_of_mem_drop hx), by
      rw [runW_cat, eq, ← runW_cat, List.take_append_drop]
      exact e⟩
    rw [List.length_append, List.length_take, List.length_drop] at l
    omega
  · have nd : ((List.range (w.length + 1)).map fun i => runW step 0 (w.take i)).Nodup := by
      unfold List.Nodup
      rw [List.pairwise_map]
      refine List.Pairwise.imp_of_mem (fun {a b} ha hb lt => ?_) (List.pairwise_lt_range (n := w.length + 1))
      intro eq
      exact q ⟨a, b, lt, by have := List.mem_range.mp hb; omega, eq⟩
    have := nodup_below n _ nd fun x hx => by
      obtain ⟨i, _, rfl⟩ := List.mem_map.mp hx
      exact Rch.below cl n0 ⟨_, fun x hx => g x (List.mem_of_mem_take hx), rfl⟩
    rw [List.length_map, List.length_range] at this
    omega
theorem asc_one : ∀ {a b : List (Int × Nat)}, a.Pairwise (fun x y => x.1 < y.1) → b.Pairwise (fun x y => x.1 < y.1) → (∀ x, x ∈ a ↔ x ∈ b) → a = b
  | [], [], _, _, _ => rfl
  | [], y :: b, _, _, h => absurd ((h y).mpr (.head _)) (List.not_mem_nil)
  | x :: a, [], _, _, h => absurd ((h x).mp (.head _)) (List.not_mem_nil)
  | x :: a, y :: b, ha, hb, h => by
    obtain ⟨a1, a2⟩ := List.pairwise_cons.mp ha
    obtain ⟨b1, b2⟩ := List.pairwise_cons.mp hb
    have e : x = y := by
      rcases List.mem_cons.mp ((h x).mp (.head _)) with e | e
      · exact e
      rcases List.mem_cons.mp ((h y).mpr (.head _)) with e2 | e2
      · exact e2.symm
      · have := b1 x e
        have := a1 y e2
        omega
    subst e
    rw [asc_one a2 b2 fun z => ?_]
    constructor
    · intro hz
      rcases List.mem_cons.mp ((h z).mp (.tail _ hz)) with e | e
      · have := a1 z hz
        rw [e] at this
        omega
      · exact e
    · intro hz
      rcases List.mem_cons.mp ((h z).mpr (.tail _ hz)) with e | e
      · have := b1 z hz
        rw [e] at this
        omega
      · exact e
theorem Cand.imp {A B : Nat → Prop} {N : Nat} (h : ∀ s, Rch p step s → A s → B s) {w : List Nat} (c : Cand p step A N w) : Cand p step B N w := ⟨c.len, c.dg, c.top, h _ ⟨w, c.dg, rfl⟩ c.leads⟩
theorem Bst.congr {A B : Nat → Prop} {N : Nat} {r : Option Nat} (h : ∀ s, Rch p step s → (A s ↔ B s)) (b : Bst p step A N r) : Bst p step B N r := by
  rcases b with ⟨e, no⟩ | ⟨w, e, c, least⟩
  · exact .inl ⟨e, fun w c => no w (c.imp fun s hs => (h s hs).mpr)⟩
  · exact .inr ⟨w, e, c.imp fun s hs => (h s hs).mp, fun w' c' => least w' (c'.imp fun s hs => (h s hs).mpr)⟩
theorem first_some : ∀ {rs : List (Option Nat)} {m : Nat} {t : List Nat}, rs.filterMap id = m :: t → ∃ k : Nat, rs[k]? = some (some m) ∧ ∀ j : Nat, j < k → rs[j]? = some none
  | [], m, t, h => by simp at h
  | none :: rs, m, t, h => by
    have h : rs.filterMap id = m :: t := h
    obtain ⟨k, e, f⟩ := first_some h
    exact ⟨k + 1, e, fun j hj => by
      cases j with
      | zero => rfl
      | succ j => exact f j (by omega)⟩
  | some x :: rs, m, t, h => by
    have h : x :: rs.filterMap id = m :: t := h
    cases h
    exact ⟨0, rfl, fun (j : Nat) (hj : j < 0) => absurd hj (Nat.not_lt_zero j)⟩
/-- among the numbers of digits up to n there is one that tells the value, and the first tells it best -/
theorem found_least (p0 : 0 < p) (cl : ∀ s d, s < n → d < p → step s d < n) (n0 : 0 < n) {v : Int} (st : ∀ s, Rch p step s → val s = val (step s 0)) {rs : List (Option Nat)} (ln : n ≤ rs.length) (al : ∀ (k : Nat) (r : Option Nat), rs[k]? = some r → Bst p step (fun s => val s = v) k r)
    {s : Nat} (hs : Rch p step s) (hv : val s = v) : ∃ m t, rs.filterMap id = m :: t ∧ MinE (Tell p step val v) m := by
  obtain ⟨w, lw, g, e⟩ := rch_short cl n0 hs
  obtain ⟨w', g1, _, g3, g4, g5⟩ := strip st w.length w rfl g
  have cw : Cand p step (fun s => val s = v) w'.length w' := ⟨rfl, g1, g5, by show val _ = v; rw [g3, e, hv]⟩
  have e2 : rs[w'.length]? = some (rs[w'.length]'(by omega)) := List.getElem?_eq_getElem (by omega)
  have ne : rs.filterMap id ≠ [] := by
    intro z
    rcases al _ _ e2 with ⟨_, no⟩ | ⟨u, e3, _⟩
    · exact no _ cw
    · have : numW p u ∈ rs.filterMap id := List.mem_filterMap.mpr ⟨some (numW p u), by rw [← e3]; exact List.getElem_mem _, rfl⟩
      rw [z] at this
      exact List.not_mem_nil this
  cases h : rs.filterMap id with
  | nil => exact absurd h ne
  | cons m t =>
    obtain ⟨k, e1, no⟩ := first_some h
    exact ⟨m, t, rfl, first_least p0 st (Nat.le_refl k) (al _ _ e1) fun j hj => al _ _ (no j hj)⟩
end
end B5

/-! the values that come; a machine with one more state that nothing leads to -/
namespace K71
open PySem L2 Gd B5
theorem comes_one {p : Nat} {step : Nat → Nat → Nat} {val : Nat → Int} {a b : List (Int × Nat)} (h : Comes p step val a) (g : Comes p step val b) : a = b :=
  asc_one h.asc g.asc fun x => (h.mem x.1 x.2).trans (g.mem x.1 x.2).symm
theorem comes_of {p : Nat} {step : Nat → Nat → Nat} {val : Nat → Int} {prs : List (Int × Nat)} {ns : List Int} (e : prs.map (·.1) = ns) (asc : ns.Pairwise (· < ·)) (al : ∀ pr ∈ prs, MinE (Tell p step val pr.1) pr.2) (mem : ∀ s, Rch p step s → val s ∈ ns) : Comes p step val prs := by
  refine ⟨by rw [← e, List.pairwise_map] at asc; exact asc, fun v m => ⟨fun h => al _ h, fun h => ?_⟩⟩
  obtain ⟨w, g, ev, _⟩ := h.1
  have hv := mem _ ⟨w, g, rfl⟩
  rw [ev, ← e] at hv
  obtain ⟨pr, hp, rfl⟩ := List.mem_map.mp hv
  have := (al pr hp).one h
  rw [← this]
  exact hp
/-- the values of what is met -/
theorem metV_iff {p : Nat} {dss : List (List Int)} {ws : List Int} (g : MGood p dss ws) {v : Int} : v ∈ metV p dss ws ↔ ∃ s, Rch p (stepT dss) s ∧ valL ws s = v := by
  have n0 := List.length_pos_iff.mpr g.ne
  constructor
  · intro h
    obtain ⟨s, hs, rfl⟩ := List.mem_map.mp h
    exact ⟨s, met_rch (good_cl g) n0 (Nat.le_refl _) s hs, rfl⟩
  · rintro ⟨s, hs, rfl⟩
    exact List.mem_map.mpr ⟨s, rch_met (met_I g) hs, rfl⟩
theorem stR {p : Nat} {dss : List (List Int)} {ws : List Int} (g : MGood p dss ws) (sd : stdy dss ws = true) : ∀ s, Rch p (stepT dss) s → valL ws s = valL ws (stepT dss s 0) := fun s hs => by
  exact (stdy_iff g.len).mp sd s (hs.below (good_cl g) (List.length_pos_iff.mpr g.ne))
abbrev extD (p : Nat) (dss : List (List Int)) : List (List Int) := dss ++ [List.replicate p ((dss.length : Nat) : Int)]
theorem ext_step {p : Nat} {dss : List (List Int)} {s d : Nat} (hs : s < dss.length) : stepT (extD p dss) s d = stepT dss s d := by
  unfold stepT
  have : (extD p dss).getD s [] = dss.getD s [] := by
    rw [List.getD_eq_getElem?_getD, List.getD_eq_getElem?_getD, List.getElem?_append_left hs]
  rw [this]
theorem ext_good {p : Nat} {dss : List (List Int)} {ws : List Int} (g : MGood p dss ws) (few : dss.length ≤ 900) : MGood p (extD p dss) (ws ++ [77]) := by
  have l : (extD p dss).length = dss.length + 1 := by rw [List.length_append]; rfl
  refine ⟨g.pr, fun e => by rw [e] at l; exact absurd l (by show 0 ≠ _; omega), fun ds hds => ?_, by rw [List.length_append, l, g.len]; rfl, by omega⟩
  rcases List.mem_append.mp hds with h | h
  · obtain ⟨a, b⟩ := g.rows ds h
    exact ⟨a, fun x hx => by obtain ⟨b1, b2⟩ := b x hx; exact ⟨b1, by rw [l]; omega⟩⟩
  · have : ds = List.replicate p ((dss.length : Nat) : Int) := by simpa using h
    subst this
    exact ⟨by rw [List.length_replicate], fun x hx => by rw [(List.mem_replicate.mp hx).2, l]; omega⟩
theorem ext_stdy {p : Nat} {dss : List (List Int)} {ws : List Int} (g : MGood p dss ws) (sd : stdy dss ws = true) (few : dss.length ≤ 900) : stdy (extD p dss) (ws ++ [77]) = true := by
  have g2 := ext_good g few
  have l : (extD p dss).length = dss.length + 1 := by rw [List.length_append]; rfl
  obtain ⟨p2, p7⟩ := isPr_small g.pr
  refine (stdy_iff g2.len).mpr fun i hi => ?_
  have lw := g.len
  by_cases z : i < dss.length
  · have b := good_cl g i 0 z (by omega)
    rw [ext_step z, List.getD_eq_getElem?_getD, List.getD_eq_getElem?_getD, List.getElem?_append_left (by omega), List.getElem?_append_left (by omega), ← List.getD_eq_getElem?_getD, ← List.getD_eq_getElem?_getD]
    exact (stdy_iff g.len).mp sd i z
  · obtain rfl : i = dss.length := by omega
    have e : stepT (extD p dss) dss.length 0 = dss.length := by
      unfold stepT
      have : (extD p dss).getD dss.length [] = List.replicate p ((dss.length : Nat) : Int) := by
        rw [List.getD_eq_getElem?_getD, List.getElem?_append_right (Nat.le_refl _), Nat.sub_self]
        rfl
      rw [this, List.getD_eq_getElem?_getD, List.getElem?_replicate, if_pos (by omega)]
      rfl
    rw [e]
/-- nothing leads to the new state -/
theorem ext_rch {p : Nat} {dss : List (List Int)} {ws : List Int} (g : MGood p dss ws) {s : Nat} (h : Rch p (stepT (extD p dss)) s) : s < dss.length :=
  rch_in (fun s => s < dss.length) (List.length_pos_iff.mpr g.ne) (fun s d hs hd => by
    show stepT (extD p dss) s d < dss.length
    rw [ext_step hs]
    exact good_cl g s d hs hd) h
theorem ext_77 {p : Nat} {dss : List (List Int)} {ws : List Int} (g : MGood p dss ws) (n77 : ∀ x ∈ ws, x ≠ 77) {s : Nat} (h : Rch p (stepT (extD p dss)) s) : valL (ws ++ [77]) s ≠ 77 := by
  have lt := ext_rch g h
  have lw := g.len
  unfold valL
  rw [List.getD_eq_getElem?_getD, List.getElem?_append_left (by omega), List.getElem?_eq_getElem (by omega)]
  exact n77 _ (List.getElem_mem _)
/-- the least machine with its values mapped -/
theorem across_mapped {n p : Nat} {step : Nat → Nat → Nat} {val : Nat → Int} {R : List (List Nat)} {U : List Int} (L : LeastOf n p step val R U) (nf : Int → Int) : Across p (stepT (toI R)) (valL (U.map nf)) step (fun s => nf (val s)) 0 0 := by
  have fi := L.fine
  have T := L.tells
  intro w hw
  have inr : ∀ (w : List Nat) (i : Nat), i < R.length → (∀ d ∈ w, d < p) → runW (stepT (toI R)) i w = runW (tab R) i w ∧ runW (tab R) i w < R.length := by
    intro w
    induction w with
    | nil => intro i hi _; exact ⟨rfl, hi⟩
    | cons d w ih =>
      intro i hi hw
      have hd := hw d (.head _)
      have e := stepT_toI (p := p) hi (fun r hr => (fi.rows r hr).1) hd
      have l : tab R i d < R.length := by
        obtain ⟨l1, l2⟩ := fi.rows _ (List.mem_of_getElem? (at_getD hi []))
        exact l2 _ (List.mem_of_getElem? (at_getD (l := R.getD i []) (i := d) (by omega) 0))
      show runW (stepT (toI R)) (stepT (toI R) i d) w = runW (tab R) (tab R i d) w ∧ runW (tab R) (tab R i d) w < R.length
      rw [e]
      exact ih _ l fun x hx => hw x (.tail _ hx)
  obtain ⟨e, lt⟩ := inr w 0 fi.ne hw
  show valL (U.map nf) _ = nf (val _)
  rw [e, T w hw]
  unfold valL
  rw [getD_map (by rw [fi.len]; exact lt) 0]
/-- what the layers hold -/
theorem layers_rch {p m : Nat} {dss : List (List Int)} {ws : List Int} (g : MGood p dss ws) {ls : List (List Nat)} (ll : ls.length = m + 1) (hm : dss.length ≤ m) (lay : ∀ i l, ls[i]? = some l → LayN p (stepT dss) i l) {s : Nat} : s ∈ ls.flatten ↔ Rch p (stepT dss) s := by
  constructor
  · intro h
    obtain ⟨l, hl, hs⟩ := List.mem_flatten.mp h
    obtain ⟨i, hi⟩ := List.getElem?_of_mem hl
    obtain ⟨w, _, h2, h3⟩ := ((lay i l hi).mem s).mp hs
    exact ⟨w, h2, h3⟩
  · intro h
    obtain ⟨w, h1, h2, h3⟩ := rch_short (good_cl g) (List.length_pos_iff.mpr g.ne) h
    have e : ls[w.length]? = some (ls[w.length]'(by omega)) := List.getElem?_eq_getElem (by omega)
    exact List.mem_flatten.mpr ⟨_, List.getElem_mem _, ((lay _ _ e).mem s).mpr ⟨w, rfl, h2, h3⟩⟩
/-- two sorted lists of the same -/
theorem sorted_one {a b c : List Int} (pa : a.Perm c) (sa : a.Pairwise (· ≤ ·)) (pb : b.Perm c) (sb : b.Pairwise (· ≤ ·)) : a = b :=
  (pa.trans pb.symm).eq_of_pairwise (le := (· ≤ ·)) (fun _ _ _ _ h h' => Int.le_antisymm h h') sa sb
/-- new keys, each once, are put behind -/
theorem merge_new : ∀ (ps kvs : List (Key × V)), (ps.map (·.1)).Nodup → (∀ q ∈ ps, valV kvs q.1 = none) → mergeK kvs ps = kvs ++ ps
  | [], kvs, _, _ => (List.append_nil kvs).symm
  | q :: ps, kvs, nd, no => by
    obtain ⟨n1, n2⟩ := List.nodup_cons.mp nd
    show mergeK (putK kvs q.1 q.2) ps = _
    rw [L2.putK_new q.2 (no q (.head _)), merge_new ps _ n2 (fun x hx => ?_), List.append_assoc]
    · rfl
    · rw [← L2.putK_new q.2 (no q (.head _)), valV_put, if_neg fun e => n1 (List.mem_map.mpr ⟨x, hx, e⟩)]
      exact no x (.tail _ hx)
end K71

namespace K71
open PySem L2 Gd B5
abbrev sRef : Stmt := top 42
theorem scRef : FnScope ["_law_call", "e"] ["_law_call"] (defScope sRef) := ⟨rfl, rfl, rfl, by decide +kernel, rfl, by decide +kernel, by decide +kernel⟩
/-- the list that tells an error -/
def ERef1 (CN : Addr) (Q : VK) : XK := fun cls d H =>
  cls = .ref CN ∧ ∃ (dd : Addr) (what x : V), d = some dd ∧ H dd = some (.xd [("number", x), ("what", what)]) ∧ ∀ l, H l = none → Q (.ref l) (upd H l (.lst [.str "number", what, x]))
def TRef1 (CN : Addr) : (XK → Hp → VK → Prop) → Hp → VK → Prop := fun tl H Q => tl (ERef1 CN Q) H fun _ H' => ([] : List V).length ≤ sizeLine ∧ ∀ l, H' l = none → Q (.ref l) (upd H' l (.lst []))
structure Cau1 (K : PySem.W.Frag) (CN : Addr) : Prop where
  nn : PySem.W.exmOne K (.ref CN) (.ref CN) = some true
  xn : XfC K CN
open LamX in
theorem ref_gives {X : Cx} {k : Nat} {g : Addr} {cdg : Value} {q : Str} {CN : Addr} (hr : Room (k + 2) X.A) (T : Cau1 X.K CN)
    (gN : X.mg "BadNumber" = some (.ref CN))
    (nW : PySem.W.findIn X.K (.ref CN) "what" = some none) (nN : PySem.W.findIn X.K (.ref CN) "number" = some none) :
    GivesTo X ["_law_call", "e"] "_law_refused" (defScope sRef) g cdg (defBody sRef) "_law_call" q (TRef1 CN) := by
  intro f c' s H Q tl act hc h
  refine ⟨_, pss_cons (ps_tryAll (X := (cxOf C8.CX0 X.prog X.w X.K X.mg X.base ["_law_call", "e"] "_law_refused" (defScope sRef) g cdg X.A X.stack s H C8.E0).nox) (n := "e") (i := 1)
      (tb := fun W D σ H => ∃ Ech : XK, (∀ cls d σ' H', Ech cls d H' → W cls d σ' H') ∧ σ[0]? = some (some (.ref f)) ∧ H c' = some (CodeO c' q) ∧ tl Ech H (fun _ H' => D.nx σ H'))
      rfl rfl scRef.nd rfl rfl LamX.takes0 (fun W pn xe tk _ => ?_)
      (.cons (c := .ref CN) ⟨rfl, by decide, .inl gN⟩ (fun a oe cls d pn hz hf => pss_one (ps_ret (pe_lst (pa_cons pe_str (pa_cons (pe_xf T.xn nW hz hf (pv 1)) (pa_cons (pe_xf T.xn nN hz hf (pv 1)) pa_nil)))))) .nil))
    (pss_one (ps_ret (pe_lst pa_nil))), ?_⟩
  · refine ⟨fun pins s' σ H' D I h' => ?_⟩
    obtain ⟨Ech, hW, h1, h2, h3⟩ := h'
    exact (pss_one (ps_expr (act W pn xe Ech _ _ tk hW))).run pins s' σ H' D I ⟨h1, h2, h3⟩
  · refine ⟨ERef1 CN Q, fun cls d σ' H' e => ?_, rfl, hc, h⟩
    have at1 : ∀ {a : Addr} {σ' : L2.St}, σ'.length = 2 → (σ'.set 1 (some (V.ref a)))[1]? = some (some (V.ref a)) := fun {a σ'} hl => List.getElem?_set_self (by rw [hl]; decide)
    obtain ⟨rfl, dd, what, x, rfl, hd, q1⟩ := e
    refine ⟨true, T.nn, fun _ hl a na => ?_, fun z => nomatch z⟩
    exact ⟨_, at1 hl, rfl, rfl, dd, _, _, rfl, hd, rfl, _, at1 hl, rfl, rfl, dd, _, _, rfl, hd, rfl, by show 3 ≤ sizeLine; decide, fun t ht => q1 t ht⟩
end K71

/-! Rp: a tuple times 0 or 1. -/
namespace Gd
open PySem PySem.Spec PyProof.Rows L2
theorem mul_one (l : Addr) (items : Array Value) (n : Nat) (dd : Option Addr) (sl : Array (Option Value)) (u : Tok) :
    Meets (Builtin.«tuple.__mul__» ⟨[.ref l, .int 1 u], []⟩)
      (fun _ R s => s.heap.get? l = some { cls := .type "tuple", dict := dd, data := .seq items n, slots := sl } ∧ R (.ok (.ret (Value.ref l))) s) :=
  .of_wp fun prog w A R s h => by
    obtain ⟨hp, g, d, tk, os⟩ := s
    obtain ⟨hl, h⟩ := h
    have f1 := AutoSeq1.idx_int
    wp_walk using wpAny_loadPart' hl
    repeat (first
      | (refine wpAny_ite_false (by decide) ?_; wp_walk using wpAny_loadPart' hl)
      | (refine wpAny_ite_true (by simp) ?_; wp_walk using wpAny_loadPart' hl))
    exact ⟨_, rfl, h⟩
theorem mul_zero (l : Addr) (items : Array Value) (n : Nat) (dd : Option Addr) (sl : Array (Option Value)) (u : Tok) (ne : items.isEmpty = false) :
    Meets (Builtin.«tuple.__mul__» ⟨[.ref l, .int 0 u], []⟩)
      (fun _ R s => s.heap.get? l = some { cls := .type "tuple", dict := dd, data := .seq items n, slots := sl } ∧
        R (.ok (.ret (Value.ref s.heap.objs.size))) { s with heap := s.heap.push { cls := Value.type "tuple", data := Data.seq #[] }, toks := s.toks }) :=
  .of_wp fun prog w A R s h => by
    obtain ⟨hp, g, d, tk, os⟩ := s
    obtain ⟨hl, h⟩ := h
    have f1 := AutoSeq1.idx_int
    wp_walk using wpAny_loadPart' hl
    repeat (first
      | (refine wpAny_ite_false (by simp [ne]) ?_; wp_walk using wpAny_loadPart' hl)
      | (refine wpAny_ite_true (by simp [ne]) ?_; wp_walk using wpAny_loadPart' hl))
    exact ⟨_, rfl, h⟩

/-- a tuple times a small number -/
def rRepN (K : PySem.W.Frag) : R2 := fun x y H Q => rRepT K x y H Q ∨ ∃ (l : Addr) (k : Int) (xs : List V), x = .ref l ∧ y = .int k ∧ SqT K H l xs ∧ xs ≠ [] ∧
  ((k = 1 ∧ Q (.ref l) H) ∨ (k = 0 ∧ ∀ p, H p = none → Q (.ref p) (upd H p (.tup []))))
theorem op_repN {X : Cx} : OpR X (binaryOp .Mult) (rRepN X.K) := by
  intro pins s σ H x y v u Q I rx ry h
  obtain h | ⟨l, k, xs, rfl, rfl, hT, hne, h⟩ := h
  · exact op_repT pins s σ H x y v u Q I rx ry h
  cases rx
  obtain ⟨t, rfl⟩ := ry
  obtain ⟨its, r, ⟨⟨cls, dd, data, sl⟩, ho, hc, n, hd⟩, hs⟩ := I.tuple hT
  simp only at hc hd
  subst hc hd
  have hn : its.toArray.isEmpty = false := by
    cases its with
    | cons a b => rfl
    | nil =>
      have e := r.length
      exact (hne (List.eq_nil_of_length_eq_zero e)).elim
  have is : s.TypeIs (.ref l) "tuple" := ⟨_, ho, rfl⟩
  obtain ⟨rfl, q⟩ | ⟨rfl, q⟩ := h
  · refine wpAny_binaryOp_repeat_ref (T := "tuple") (U := "int") (by decide) is (fun s' => typeIs_int s' 1 t) noFill_tuple_mul F.fills_int_mul F.slot_int_rmul repeat_tuple F.slot_int_index.lookup
      (call_meets F.slot_int_rmul (typeIs_int s 1 t) F.entry_int_rmul (F.args_int_rmul_2 _ _) (int_rmul_tuple 1 t l its.toArray n dd sl)
        ⟨ho, rfl, is, call_meets F.slot_tuple_mul is F.entry_tuple_mul (F.args_tuple_mul_2 _ _) (mul_one l its.toArray n dd sl t) ⟨ho, ?_⟩⟩)
    exact ⟨.ref l, H, I, rfl, q⟩
  · refine wpAny_binaryOp_repeat_ref (T := "tuple") (U := "int") (by decide) is (fun s' => typeIs_int s' 0 t) noFill_tuple_mul F.fills_int_mul F.slot_int_rmul repeat_tuple F.slot_int_index.lookup
      (call_meets F.slot_int_rmul (typeIs_int s 0 t) F.entry_int_rmul (F.args_int_rmul_2 _ _) (int_rmul_tuple 0 t l its.toArray n dd sl)
        ⟨ho, rfl, is, call_meets F.slot_tuple_mul is F.entry_tuple_mul (F.args_tuple_mul_2 _ _) (mul_zero l its.toArray n dd sl t hn) ⟨ho, ?_⟩⟩)
    refine ⟨.ref s.heap.objs.size, _, I.laid (t' := s.toks) (o := .tup []) (fun b ob q => Heap.get?_push_of_some _ q) (Nat.le_refl _) ?_, rfl, q _ (I.hok.fresh (Nat.le_refl _))⟩
    exact ⟨Nat.zero_le _, _, .nil, IsTup.new _ _⟩

/-- two tuples of the same flat values -/
theorem items_same {A : Around} {s : Shared} : ∀ {xs : List V} {us ws : List Value}, xs.all flatB = true → Vals xs us → Vals xs ws →
    ∀ j (h1 : j < us.length) (h2 : j < ws.length), SeqAt.EqAt A s us[j] ws[j] true
  | _, _, _, _, .nil, .nil, j, h1, _ => absurd h1 (Nat.not_lt_zero j)
  | _, _, _, f, .cons a as, .cons b bs, j, h1, h2 => by
    rw [List.all_cons, Bool.and_eq_true] at f
    cases j with
    | zero => exact eqAt_same a b f.1
    | succ j => exact items_same f.2 as bs j (Nat.lt_of_succ_lt_succ h1) (Nat.lt_of_succ_lt_succ h2)
def rTS (K : PySem.W.Frag) (r : Bool) : R2 := fun x y H Q => ∃ (a b : Addr) (xs : List V), x = .ref a ∧ y = .ref b ∧ SqT K H a xs ∧ SqT K H b xs ∧
  xs.all flatB = true ∧ Q (.bl r) H
section
variable {X : Cx}
theorem all_true {m n : Nat} (h : m = n) : ((List.range (min m n)).all (fun _ => true) && m == n) = true := by
  subst h
  rw [beq_self_eq_true, Bool.and_true]
  exact List.all_eq_true.mpr fun _ _ => rfl
theorem op_eqTS (hu : X.A.units < cLine) : OpR X (compareOp .Eq) (rTS X.K true) := by
  intro pins s σ H x y v u Q I rx ry h
  obtain ⟨a, b, xs, rfl, rfl, ha, hb, f, q⟩ := h
  cases (show v = Value.ref a from rx)
  cases (show u = Value.ref b from ry)
  obtain ⟨us, r1, p1, _⟩ := I.tuple ha
  obtain ⟨ws, r2, p2, _⟩ := I.tuple hb
  have same : us.toArray.size = ws.toArray.size := by
    rw [List.size_toArray, List.size_toArray, ← r1.length, ← r2.length]
  have all := SeqAt.RcAt.tuples (A := X.A) (s := s) (e := fun _ => true) p1 p2 hu fun j h1 h2 => by
    have k := items_same (A := X.A.in1) (s := s) f r1 r2 j (by simpa using h1) (by simpa using h2)
    simpa using k
  refine all X.prog X.w _ _ ?_
  rw [all_true same]
  exact ⟨.bl true, H, I, rfl, q⟩
theorem op_neTS (hu : X.A.units < cLine) : OpR X (compareOp .NotEq) (rTS X.K false) := by
  intro pins s σ H x y v u Q I rx ry h
  obtain ⟨a, b, xs, rfl, rfl, ha, hb, f, q⟩ := h
  cases (show v = Value.ref a from rx)
  cases (show u = Value.ref b from ry)
  obtain ⟨us, r1, p1, _⟩ := I.tuple ha
  obtain ⟨ws, r2, p2, _⟩ := I.tuple hb
  have same : us.toArray.size = ws.toArray.size := by
    rw [List.size_toArray, List.size_toArray, ← r1.length, ← r2.length]
  have all := SeqAt.RcNeAt.tuples (A := X.A) (s := s) (e := fun _ => true) p1 p2 hu fun j h1 h2 => by
    have k := items_same (A := X.A.in1) (s := s) f r1 r2 j (by simpa using h1) (by simpa using h2)
    simpa using k
  refine all X.prog X.w _ _ ?_
  rw [all_true same]
  exact ⟨.bl false, H, I, rfl, q⟩
end
end Gd

/-! Lmd: what stays while tables of code objects grow; rows of tries; one and the same object is equal to itself. -/
namespace B5
open PySem L2 Gd
abbrev ExtN := LamX.ExtN
/-- tables grow, dicts of words change, all else stays -/
def Kp (H H' : Hp) : Prop := ∀ b o, H b = some o → (∀ ps, o ≠ .tbl ps) → ((∃ kvs, o = .dK kvs) ∧ ∃ kvs, H' b = some (.dK kvs)) ∨ H' b = some o
theorem Kp.at {H H' : Hp} (m : Kp H H') {b : Addr} {o : HO} (h : H b = some o) (nt : ∀ ps, o ≠ .tbl ps) (nk : ∀ kvs, o ≠ .dK kvs) : H' b = some o := by
  rcases m b o h nt with ⟨⟨kvs, z⟩, _⟩ | z
  · exact absurd z (nk kvs)
  · exact z
theorem Kp.lst {H H' : Hp} (m : Kp H H') {b : Addr} {xs : List V} (h : H b = some (.lst xs)) : H' b = some (.lst xs) := m.at h (fun _ z => nomatch z) fun _ z => nomatch z
theorem Kp.tup {H H' : Hp} (m : Kp H H') {b : Addr} {xs : List V} (h : H b = some (.tup xs)) : H' b = some (.tup xs) := m.at h (fun _ z => nomatch z) fun _ z => nomatch z
theorem Kp.dK {H H' : Hp} (m : Kp H H') {b : Addr} {kvs : List (Key × V)} (h : H b = some (.dK kvs)) : ∃ kvs, H' b = some (.dK kvs) := by
  rcases m b _ h (fun _ z => nomatch z) with ⟨_, z⟩ | z
  · exact z
  · exact ⟨_, z⟩
theorem Kp.refl {H : Hp} : Kp H H := fun _ _ h _ => .inr h
theorem Kp.of {H H' : Hp} (m : More H H') : Kp H H' := fun b o h _ => .inr (m b o h)
theorem Kp.ext {H H' : Hp} (m : ExtN H H') : Kp H H' := fun b o h nt => .inr (m b o h nt)
theorem Kp.trans {H H1 H2 : Hp} (a : Kp H H1) (b : Kp H1 H2) : Kp H H2 := fun c o h nt => by
  rcases a c o h nt with ⟨⟨kvs, rfl⟩, kvs1, z⟩ | z
  · exact .inl ⟨⟨_, rfl⟩, b.dK z⟩
  · exact b c o z nt
theorem Kp.off {d : Addr} {H H' : Hp} (of : Off d H H') (hd : ∃ kvs, H d = some (.dK kvs)) (hd' : ∃ kvs, H' d = some (.dK kvs)) : Kp H H' := fun b o h _ => by
  by_cases z : b = d
  · subst z
    obtain ⟨kvs, e⟩ := hd
    rw [e] at h
    exact .inl ⟨⟨_, (Option.some.inj h).symm⟩, hd'⟩
  · exact .inr (of b o h z)
theorem Pen.dk {H : Hp} {d c : Addr} {n : Int} (h : Pen H d c n) : ∃ kvs, H d = some (.dK kvs) := let ⟨kvs, _, _, _, _, h1, _⟩ := h; ⟨kvs, h1⟩
theorem Kp.dr {d c : Addr} {n m : Int} {H H' : Hp} (h : Drawn H H' d c n) (p : Pen H d c m) : Kp H H' := .off (.dr h) p.dk h.pen.dk
theorem sqL_kp {K : PySem.W.Frag} {H H' : Hp} {a : Addr} {xs : List V} (e : Kp H H') : SqL K H a xs → SqL K H' a xs
  | .inl (.inl h) => .inl (.inl (e.at h (fun _ z => nomatch z) fun _ z => nomatch z))
  | .inl (.inr ⟨o, h⟩) => .inl (.inr ⟨o, e.at h (fun _ z => nomatch z) fun _ z => nomatch z⟩)
  | .inr h => .inr h
theorem sqT_kp {K : PySem.W.Frag} {H H' : Hp} {a : Addr} {xs : List V} (e : Kp H H') : SqT K H a xs → SqT K H' a xs
  | .inl (.inl h) => .inl (.inl (e.at h (fun _ z => nomatch z) fun _ z => nomatch z))
  | .inl (.inr ⟨o, h⟩) => .inl (.inr ⟨o, e.at h (fun _ z => nomatch z) fun _ z => nomatch z⟩)
  | .inr h => .inr h
theorem Sq.kp {K : PySem.W.Frag} {H H' : Hp} {a : Addr} {xs : List V} (e : Kp H H') : Sq K H a xs → Sq K H' a xs
  | .inl h => .inl (sqL_kp e h)
  | .inr h => .inr (sqT_kp e h)
theorem tyKp {K : PySem.W.Frag} {H H' : Hp} {x : V} {n : String} (e : Kp H H') (t : TyX K H x (.type n)) : TyX K H' x (.type n) := by
  cases t with
  | base t =>
    refine .base ?_
    cases t with
    | non => exact .non
    | bl b => exact .bl b
    | int i => exact .int i
    | str z => exact .str z
    | flt z => exact .flt z
    | lst h => exact .lst (e.at h (fun _ z => nomatch z) fun _ z => nomatch z)
    | frz h => exact .frz (e.at h (fun _ z => nomatch z) fun _ z => nomatch z)
    | tup h => exact .tup (e.at h (fun _ z => nomatch z) fun _ z => nomatch z)
    | dK h => exact .dK (e.dK h).choose_spec
    | dT h => exact .dT (e.at h (fun _ z => nomatch z) fun _ z => nomatch z)
  | byt b => exact .byt b
  | set h => exact .set (e.at h (fun _ z => nomatch z) fun _ z => nomatch z)
  | kList h c => exact .kList h c
  | kTuple h c => exact .kTuple h c
  | kDict h c => exact .kDict h c
  | fTuple h => exact .fTuple (e.at h (fun _ z => nomatch z) fun _ z => nomatch z)
  | fDict h => exact .fDict (e.at h (fun _ z => nomatch z) fun _ z => nomatch z)
theorem NoInt.kp {K : PySem.W.Frag} {H H' : Hp} {x : V} (e : Kp H H') (h : NoInt K H x) : NoInt K H' x := let ⟨n, m, t⟩ := h; ⟨n, m, tyKp e t⟩
theorem NoSq.kp {K : PySem.W.Frag} {H H' : Hp} {x : V} (e : Kp H H') (h : NoSq K H x) : NoSq K H' x := let ⟨n, m, t⟩ := h; ⟨n, m, tyKp e t⟩
theorem Its.kp {K : PySem.W.Frag} {H H' : Hp} {ys : List V} (e : Kp H H') (h : Its K H ys) : Its K H' ys := ⟨h.1, fun y hy => (h.2 y hy).imp id fun z => z.kp e⟩
theorem BadP.kp {K : PySem.W.Frag} {H H' : Hp} {x : V} (e : Kp H H') (h : BadP K H x) : BadP K H' x := h.imp id fun z => z.kp e
theorem GRow.kp {K : PySem.W.Frag} {H H' : Hp} {p : Int} {many : Nat} {x : V} {ds : List Int} (m : Kp H H') (h : GRow K H p many x ds) : GRow K H' p many x ds :=
  ⟨let ⟨b, e, s⟩ := h.ex; ⟨b, e, s.kp m⟩, h.len, h.ok⟩
theorem NRow.kp {K : PySem.W.Frag} {H H' : Hp} {p : Int} {many : Nat} {x : V} (m : Kp H H') (h : NRow K H p many x) : NRow K H' p many x := by
  obtain h | ⟨b, ys, e, s, i, h⟩ := h
  · exact .inl (h.kp m)
  · exact .inr ⟨b, ys, e, s.kp m, i.kp m, h⟩
theorem NWor.kp {K : PySem.W.Frag} {H H' : Hp} {many : Nat} {x : V} (m : Kp H H') (h : NWor K H many x) : NWor K H' many x := by
  obtain h | ⟨b, ys, e, s, i, h⟩ := h
  · exact .inl (h.kp m)
  · exact .inr ⟨b, ys, e, s.kp m, i.kp m, h⟩
theorem TupI.kp {K : PySem.W.Frag} {H H' : Hp} {x : V} {k : List Int} (m : Kp H H') (h : TupI K H x k) : TupI K H' x k := let ⟨b, e, s⟩ := h; ⟨b, e, sqT_kp m s⟩
theorem MAt.kp {K : PySem.W.Frag} {H H' : Hp} {C a : Addr} {p : Int} {dss : List (List Int)} {ws : List Int} (m : Kp H H') (h : MAt K H C a p dss ws) : MAt K H' C a p dss ws :=
  let ⟨dx, t, u, xs, h1, h2, h3, h4⟩ := h; ⟨dx, t, u, xs, m.at h1 (fun _ z => nomatch z) (fun _ z => nomatch z), sqT_kp m h2, paired_imp (fun _ _ r => r.kp m) h3, sqT_kp m h4⟩
/-- a list that is no table is put anew -/
theorem tabs_upd {T : List (Addr × Str)} {H : Hp} {a : Addr} {xs ys : List V} (t : LamX.Tabs T H) (h : H a = some (.lst xs)) : LamX.Tabs T (upd H a (.lst ys)) := fun p hp => by
  obtain ⟨ps, h1, h2, h3⟩ := t p hp
  refine ⟨ps, by rw [upd_ne (ne_of h1 h (by intro z; cases z))]; exact h1, h2, fun pos cv hc => ?_⟩
  obtain ⟨c, e1, e2⟩ := h3 pos cv hc
  exact ⟨c, e1, by rw [upd_ne (ne_of e2 h (by intro z; cases z))]; exact e2⟩
theorem tabs_off {T : List (Addr × Str)} {H H' : Hp} {d : Addr} {kvs : List (Key × V)} (t : LamX.Tabs T H) (m : Off d H H') (h : H d = some (.dK kvs)) : LamX.Tabs T H' := fun p hp => by
  obtain ⟨ps, h1, h2, h3⟩ := t p hp
  refine ⟨ps, m _ _ h1 (ne_of h1 h (by intro z; cases z)), h2, fun pos cv hc => ?_⟩
  obtain ⟨c, e1, e2⟩ := h3 pos cv hc
  exact ⟨c, e1, m _ _ e2 (ne_of e2 h (by intro z; cases z))⟩
/-- a value that is itself again: flat and equal, or one object -/
def Self (x : V) : Prop := (flatV x = true ∧ eqV x x = true) ∨ ∃ a, x = .ref a
def DId : Eqv := fun x y _ => ∃ a, x = .ref a ∧ y = .ref a
theorem mon_id : Mon DId := fun _ _ _ _ _ d => d
theorem eqG_id {X : Cx} : EqG X 0 DId := by
  intro A pins s σ H x y u v sb I rx ry d
  obtain ⟨a, rfl, rfl⟩ := d
  cases rx
  cases ry
  unfold eqBool
  refine wpAny_holding ?_
  rw [if_pos (by simp)]
  refine wpAny_bind (wpAny_rule (wpAny_pure ?_))
  exact ⟨rfl, H, I, Ext.rfl'⟩
abbrev DSelf : Eqv := fun x y H => DFlat x y H ∨ DId x y H
theorem op_eqSelf {X : Cx} (hr : Room 1 X.A) : OpR X (compareOp .Eq) (rEqG (DList DSelf)) := op_eqG (rcG_list (n := 0) (Mon.or mon_flat mon_id) (EqG.or eqG_flat eqG_id)) hr
theorem prs_self {H : Hp} : ∀ {xs : List V}, (∀ x ∈ xs, Self x) → Prs DSelf xs xs H
  | [], _ => .nil
  | x :: xs, h => .cons (by
      obtain ⟨a, b⟩ | ⟨a, e⟩ := h x (.head _)
      · exact .inl ⟨a, a, b⟩
      · exact .inr ⟨a, e, e⟩) (prs_self fun y hy => h y (.tail _ hy))
theorem self_int (i : Int) : Self (.int i) := .inl ⟨rfl, by simp [eqV]⟩
theorem self_non : Self .non := .inl ⟨rfl, rfl⟩
theorem self_bl (b : Bool) : Self (.bl b) := .inl ⟨rfl, by simp [eqV]⟩
theorem self_str (z : Str) : Self (.str z) := .inl ⟨rfl, by simp [eqV]⟩
theorem self_ref (a : Addr) : Self (.ref a) := .inr ⟨a, rfl⟩
/-- a try: the list that was found and the one that is due have the same items -/
def TrOk (H : Hp) (t : V) : Prop := ∃ (q f u : Addr) (xs : List V), t = .ref q ∧ H q = some (.tup [.ref f, .ref u]) ∧ H f = some (.lst xs) ∧ H u = some (.lst xs) ∧ ∀ x ∈ xs, Self x
theorem TrOk.ext {H H' : Hp} {t : V} (m : LamX.ExtN H H') (h : TrOk H t) : TrOk H' t := let ⟨q, f, u, xs, e, h1, h2, h3, h4⟩ := h; ⟨q, f, u, xs, e, m _ _ h1 (fun _ z => nomatch z), m _ _ h2 (fun _ z => nomatch z), m _ _ h3 (fun _ z => nomatch z), h4⟩
/-- the tries so far, in the list at L -/
structure Jr (H0 : Hp) (L : Addr) (T : List (Addr × Str)) (ts : List V) (H : Hp) : Prop where
  ex : ∃ G : Hp, ExtN G H ∧ G L = none ∧ ExtN H0 G ∧ ∀ t ∈ ts, TrOk G t
  tab : LamX.Tabs T H
  at_ : H L = some (.lst ts)
theorem del_ext {H : Hp} {L : Addr} : ExtN (del H L) H := fun b o e _ => by
  by_cases z : b = L
  · rw [z, del_same] at e
    cases e
  · rw [del_ne z] at e
    exact e
theorem ext_del {G H : Hp} {L : Addr} (m : ExtN G H) (n : G L = none) : ExtN G (del H L) := fun b o e no => by
  rw [del_ne (ne_of_none e n)]
  exact m b o e no
theorem Jr.ext {H0 H H' : Hp} {L : Addr} {T : List (Addr × Str)} {ts : List V} (j : Jr H0 L T ts H) (m : ExtN H H') (t : LamX.Tabs T H') : Jr H0 L T ts H' :=
  ⟨let ⟨G, a, b, c, d⟩ := j.ex; ⟨G, a.trans m, b, c, d⟩, t, m _ _ j.at_ fun _ z => nomatch z⟩
theorem Jr.base {H0 H : Hp} {L : Addr} {T : List (Addr × Str)} {ts : List V} (j : Jr H0 L T ts H) : ExtN H0 H := let ⟨_, a, _, c, _⟩ := j.ex; c.trans a
/-- one try more: new objects f, u, q beside -/
theorem Jr.step {H0 H H2 : Hp} {L f u q : Addr} {T : List (Addr × Str)} {ts xs : List V} (j : Jr H0 L T ts H) (m : ExtN H H2) (t : LamX.Tabs T H2) (fL : f ≠ L) (uL : u ≠ L) (hq : H2 q = some (.tup [.ref f, .ref u]))
    (hf : H2 f = some (.lst xs)) (hu : H2 u = some (.lst xs)) (al : ∀ x ∈ xs, Self x) : Jr H0 L T (ts ++ [.ref q]) (upd H2 L (.lst (ts ++ [.ref q]))) := by
  obtain ⟨G, a, b, c, d⟩ := j.ex
  have h2 := m _ _ j.at_ fun _ z => nomatch z
  have qL : q ≠ L := ne_of hq h2 (by intro z; cases z)
  refine ⟨⟨del H2 L, fun x o e _ => ?_, del_same, c.trans (ext_del (a.trans m) b), fun x hx => ?_⟩, tabs_upd t h2, upd_same⟩
  · by_cases z : x = L
    · rw [z, del_same] at e
      cases e
    · rw [del_ne z] at e
      rw [upd_ne z]
      exact e
  · rcases List.mem_append.mp hx with hx | hx
    · exact (d x hx).ext (ext_del (a.trans m) b)
    · have e : x = .ref q := by simpa using hx
      exact ⟨q, f, u, xs, e, by rw [del_ne qL]; exact hq, by rw [del_ne fL]; exact hf, by rw [del_ne uL]; exact hu, al⟩
/-- the first one -/
theorem Jr.first {H0 H : Hp} {L f u q : Addr} {T : List (Addr × Str)} {xs : List V} (m : ExtN H0 H) (t : LamX.Tabs T H) (nL : H L = none) (hq : H q = some (.tup [.ref f, .ref u])) (hf : H f = some (.lst xs)) (hu : H u = some (.lst xs)) (al : ∀ x ∈ xs, Self x) :
    Jr H0 L T [.ref q] (upd H L (.lst [.ref q])) :=
  ⟨⟨H, .of (new_more nL), nL, m, fun x hx => by
    have e : x = .ref q := by simpa using hx
    exact ⟨q, f, u, xs, e, hq, hf, hu, al⟩⟩, t.ext (new_more nL), upd_same⟩
theorem rep_one {x : V} (k : Nat) : (List.replicate k [x]).flatten = List.replicate k x := List.flatten_replicate_singleton
theorem cut_to {xs : List V} {k : Nat} (h : k ≤ xs.length) : cutV xs none (some (k : Int)) = xs.take k := by
  unfold cutV
  have e1 : HT.sIx xs.length 0 none = 0 := rfl
  have e2 : HT.sIx xs.length xs.length (some (k : Int)) = k := by unfold HT.sIx; simp only []; rw [if_neg (by omega), Int.toNat_natCast, Nat.min_eq_left h]
  rw [e1, e2]
  rfl
theorem cut_from {xs : List V} {k : Nat} (h : k ≤ xs.length) : cutV xs (some (k : Int)) none = xs.drop k := by
  unfold cutV
  have e1 : HT.sIx xs.length 0 (some (k : Int)) = k := by unfold HT.sIx; simp only []; rw [if_neg (by omega), Int.toNat_natCast, Nat.min_eq_left h]
  have e2 : HT.sIx xs.length xs.length none = xs.length := rfl
  rw [e1, e2, List.take_of_length_le]
  rw [List.length_drop]
  exact Nat.le_refl _
/-- values of one kind, each itself again -/
def Odd (Pr : Hp → V → Prop) (H : Hp) (xs : List V) : Prop := ∀ x ∈ xs, Pr H x ∧ Self x
theorem Odd.nil {Pr : Hp → V → Prop} {H : Hp} : Odd Pr H [] := fun _ h => nomatch h
theorem Odd.put {Pr : Hp → V → Prop} (mono : ∀ H H' x, More H H' → Pr H x → Pr H' x) {H H' : Hp} {xs : List V} {y : V} (h : Odd Pr H xs) (m : More H H') (n : Pr H' y) (s : Self y) : Odd Pr H' (y :: xs) := fun x hx => by
  rcases List.mem_cons.mp hx with rfl | hx
  · exact ⟨n, s⟩
  · exact ⟨mono _ _ _ m (h x hx).1, (h x hx).2⟩
theorem noSq_int {K : PySem.W.Frag} {H : Hp} (i : Int) : NoSq K H (.int i) := ⟨"int", by decide, .base (.int i)⟩
theorem noSq_non {K : PySem.W.Frag} {H : Hp} : NoSq K H .non := ⟨"NoneType", by decide, .base .non⟩
theorem noSq_str {K : PySem.W.Frag} {H : Hp} (z : Str) : NoSq K H (.str z) := ⟨"str", by decide, .base (.str z)⟩
theorem noInt_non {K : PySem.W.Frag} {H : Hp} : NoInt K H .non := ⟨"NoneType", by decide, .base .non⟩
theorem noInt_bl {K : PySem.W.Frag} {H : Hp} (b : Bool) : NoInt K H (.bl b) := ⟨"bool", by decide, .base (.bl b)⟩
theorem noInt_str {K : PySem.W.Frag} {H : Hp} (z : Str) : NoInt K H (.str z) := ⟨"str", by decide, .base (.str z)⟩
theorem noInt_lst {K : PySem.W.Frag} {H : Hp} {a : Addr} {xs : List V} (h : H a = some (.lst xs)) : NoInt K H (.ref a) := ⟨"list", by decide, .base (.lst h)⟩
theorem noInt_tup {K : PySem.W.Frag} {H : Hp} {a : Addr} {xs : List V} (h : H a = some (.tup xs)) : NoInt K H (.ref a) := ⟨"tuple", by decide, .base (.tup h)⟩
/-- flat items: ints, None, bools, texts -/
def Fl (ys : List V) : Prop := ∀ y ∈ ys, (∃ i, y = .int i) ∨ y = .non ∨ (∃ b, y = .bl b) ∨ ∃ z, y = .str z
theorem Fl.its {K : PySem.W.Frag} {H : Hp} {ys : List V} (h : Fl ys) (l : ys.length ≤ 1000) : Its K H ys := ⟨l, fun y hy => by
  obtain h | rfl | ⟨b, rfl⟩ | ⟨z, rfl⟩ := h y hy
  · exact .inl h
  · exact .inr noInt_non
  · exact .inr (noInt_bl b)
  · exact .inr (noInt_str z)⟩
theorem Fl.ints (l : List Int) : Fl (l.map V.int) := fun y hy => by
  obtain ⟨d, _, rfl⟩ := List.mem_map.mp hy
  exact .inl ⟨d, rfl⟩
theorem Fl.app {xs ys : List V} (a : Fl xs) (b : Fl ys) : Fl (xs ++ ys) := fun y hy => (List.mem_append.mp hy).elim (a y) (b y)
theorem Fl.rep {x : V} (k : Nat) (h : Fl [x]) : Fl (List.replicate k x) := fun y hy => by
  rw [(List.mem_replicate.mp hy).2]
  exact h x (.head _)
theorem Fl.non : Fl [.non] := fun y hy => by
  have e : y = .non := by simpa using hy
  exact .inr (.inl e)
theorem Fl.bl (b : Bool) : Fl [.bl b] := fun y hy => by
  have e : y = .bl b := by simpa using hy
  exact .inr (.inr (.inl ⟨b, e⟩))
theorem Fl.str (z : Str) : Fl [.str z] := fun y hy => by
  have e : y = .str z := by simpa using hy
  exact .inr (.inr (.inr ⟨z, e⟩))
theorem nrow_flat {K : PySem.W.Frag} {H : Hp} {p : Int} {many : Nat} {a : Addr} {ys : List V} (s : Sq K H a ys) (f : Fl ys) (l : ys.length ≤ 1000)
    (no : ys.all isI = false ∨ ((ys.length : Nat) : Int) ≠ p ∨ ∃ ds : List Int, ys = ds.map V.int ∧ ∃ d ∈ ds, ¬ (0 ≤ d ∧ d < (many : Int))) : NRow K H p many (.ref a) := by
  refine .inr ⟨a, ys, rfl, s, f.its l, ?_⟩
  by_cases e : ((ys.length : Nat) : Int) = p
  · obtain h | h | ⟨ds, rfl, h⟩ := no
    · exact .inl h
    · exact absurd e h
    · exact .inr (.inr ⟨ds, rfl, by rw [List.length_map] at e; exact e, h⟩)
  · exact .inr (.inl e)
theorem nwor_flat {K : PySem.W.Frag} {H : Hp} {many : Nat} {a : Addr} {ys : List V} (s : Sq K H a ys) (f : Fl ys) (l : ys.length ≤ 1000) (no : ys.all isI = false ∨ ys.length ≠ many) : NWor K H many (.ref a) := .inr ⟨a, ys, rfl, s, f.its l, no⟩
theorem op_mulZ {X : Cx} : OpR X (binaryOp .Mult) (fun x y H Q => ∃ p : Int, x = .str "0" ∧ y = .int p ∧ isPr p = true ∧ ∀ z : Str, Q (.str z) H) := by
  intro pins s σ H x y v u Q I rx ry h
  obtain ⟨p, rfl, rfl, pr, q⟩ := h
  obtain ⟨t, rfl⟩ := rx
  obtain ⟨t', rfl⟩ := ry
  obtain ⟨p2, p7⟩ := isPr_small pr
  have e : p = 2 ∨ p = 3 ∨ p = 4 ∨ p = 5 ∨ p = 6 ∨ p = 7 := by omega
  clear pr p2 p7
  refine PySem.P.mul_str ?_ ?_ ?_ ?_
  · rw [decide_eq_false (by omega), decide_eq_false (by omega)]; rfl
  · intro h1 h2 h3
    rcases e with rfl | rfl | rfl | rfl | rfl | rfl <;> exact absurd h3 (by decide)
  · intro h1 h2
    rcases e with rfl | rfl | rfl | rfl | rfl | rfl <;> decide +kernel
  · rcases e with rfl | rfl | rfl | rfl | rfl | rfl <;> exact ⟨by decide +kernel, .str _, H, I.tok _, ⟨_, rfl⟩, q _⟩
theorem sl1 {K : PySem.W.Frag} {σ : L2.St} {H : Hp} {a : Addr} {xs : List V} {Q : VK} (h : SqT K H a xs) (l : 1 ≤ xs.length) (q : ∀ p, H p = none → Q (.ref p) (upd H p (.tup (xs.drop 1)))) : tNoPart σ H fun u H3 => rSlA K (.ref a) (some 1) u H3 Q := by
  show rSlA K (.ref a) (some 1) none H Q
  refine ⟨a, xs, rfl, h, fun z => ?_, fun _ => ?_⟩
  · have z := z.1
    rw [show (some (1 : Int)) = some ((1 : Nat) : Int) from rfl, HT.sIx_nat] at z
    omega
  · rw [show (some (1 : Int)) = some ((1 : Nat) : Int) from rfl, cut_from l]
    exact q
theorem cat_any {K : PySem.W.Frag} {H : Hp} {a b : Addr} {xs ys : List V} {Q : VK} (ha : SqT K H a xs) (hb : SqT K H b ys) (few : xs.length + ys.length ≤ 1000)
    (q : ∀ e H', More H H' → SqT K H' e (xs ++ ys) → Q (.ref e) H') : rCatA K (.ref a) (.ref b) H Q := by
  refine ⟨a, b, xs, ys, rfl, rfl, ha, hb, by rw [sizeLine_eq]; omega, fun e => ?_, fun _ e => ?_, fun _ _ p np => q _ _ (new_more np) (SqT.of upd_same)⟩
  · subst e
    exact q _ _ (fun _ _ e => e) hb
  · subst e
    refine q _ _ (fun _ _ e => e) ?_
    rw [List.append_nil]
    exact ha
end B5

namespace K71
open PySem L2 Gd B5 NdefX
abbrev sLaw : Stmt := top 43
abbrev NLaw : List Str := ["_law_script", "_law_pen_here", "_law_p", "_law_moves", "_law_worths", "_law_many", "_law_layers_here", "_law_due", "_law_met", "_law_layer", "_law_value", "_law_wanted", "_law_found", "_law_values", "_law_numbers", "_law_small_here", "_law_gone", "_law_less", "_law_machine", "_law_state", "_law_size", "_law_n", "_law_worth"]
def lamL : Str := (PyProof.Rows.envOfC "law" (defScope sLaw) 0 0 .none).qual ++ "<lambda>"
def spLaw (K : PySem.W.Frag) (PL P0 P1 : Addr) : Sp := fun vs H Q _ => ∃ (a : Addr) (ns : List Int), vs = [.ref a] ∧ SqL K H a (ns.map V.int) ∧ H PL = some (.tbl #[]) ∧ H P0 = some (.tbl #[]) ∧ H P1 = some (.tbl #[]) ∧ ∀ H', Q (.bl true) H'
theorem scLaw : FnScope NLaw ["_law_script"] (defScope sLaw) := ⟨rfl, rfl, rfl, by decide +kernel, rfl, by decide +kernel, by decide +kernel⟩
abbrev TT (PL P0 P1 : Addr) : List NTab := [(PL, fun _ _ => lamL), (P0, fun _ _ => qGb), (P1, fun _ _ => qLst)]
abbrev TS (PL P0 P1 : Addr) : List (Addr × Str) := [(PL, lamL), (P0, qGb), (P1, qLst)]
theorem tabs_to {PL P0 P1 : Addr} {H : Hp} (t : TabsN (TT PL P0 P1) H) : LamX.Tabs (TS PL P0 P1) H := fun p hp => by
  obtain rfl | hp := List.mem_cons.mp hp
  · exact (t (PL, fun _ _ => lamL) (.head _)).to
  obtain rfl | hp := List.mem_cons.mp hp
  · exact (t (P0, fun _ _ => qGb) (.tail _ (.head _))).to
  obtain rfl | hp := List.mem_cons.mp hp
  · exact (t (P1, fun _ _ => qLst) (.tail _ (.tail _ (.head _)))).to
  · exact (List.not_mem_nil hp).elim
theorem tabs_from {PL P0 P1 : Addr} {H : Hp} (t : LamX.Tabs (TS PL P0 P1) H) : TabsN (TT PL P0 P1) H := fun p hp => by
  obtain rfl | hp := List.mem_cons.mp hp
  · exact TabN.of (t (PL, lamL) (.head _))
  obtain rfl | hp := List.mem_cons.mp hp
  · exact TabN.of (t (P0, qGb) (.tail _ (.head _)))
  obtain rfl | hp := List.mem_cons.mp hp
  · exact TabN.of (t (P1, qLst) (.tail _ (.tail _ (.head _))))
  · exact (List.not_mem_nil hp).elim
theorem tabsN_off {T : List NTab} {H H' : Hp} {d : Addr} {kvs : List (Key × V)} (t : TabsN T H) (of : Off d H H') (hd : H d = some (.dK kvs)) : TabsN T H' := fun p hp => by
  obtain ⟨ps, h1, h2, h3⟩ := t p hp
  refine ⟨ps, of _ _ h1 (fun e => by rw [e, hd] at h1; cases h1), h2, fun pos cv hc => ?_⟩
  obtain ⟨c, e1, e2⟩ := h3 pos cv hc
  refine ⟨c, e1, of _ _ e2 (fun e => ?_)⟩
  rw [e, hd] at e2
  have e3 := Option.some.inj e2
  unfold LamX.CodeO at e3
  cases e3
theorem pen_more {H H' : Hp} {d c : Addr} {n : Int} (h : Pen H d c n) (m : More H H') : Pen H' d c n := by
  obtain ⟨o1, e1⟩ := h.at
  obtain ⟨o2, e2⟩ := h.atc
  exact h.keep ((m _ _ e1).trans e1.symm) ((m _ _ e2).trans e2.symm)
theorem pick_pr {x : V} (h : x ∈ [V.int 2, .int 3, .int 5, .int 7]) : ∃ p : Nat, x = .int p ∧ isPr p = true := by
  have : x = .int 2 ∨ x = .int 3 ∨ x = .int 5 ∨ x = .int 7 := by simpa using h
  rcases this with rfl | rfl | rfl | rfl
  · exact ⟨2, rfl, by decide⟩
  · exact ⟨3, rfl, by decide⟩
  · exact ⟨5, rfl, by decide⟩
  · exact ⟨7, rfl, by decide⟩
theorem plt_sq {K : PySem.W.Frag} {H : Hp} {M W : Addr} {rs : List V} {p : Nat} {dss : List (List Int)} {ws : List Int} (h : PlT K H M W rs p dss ws) : Paired (fun x ds => ∃ b, x = V.ref b ∧ Sq K H b (ds.map V.int)) rs dss :=
  paired_imp (fun _ _ ⟨b, e, s⟩ => ⟨b, e, .inr s⟩) h.rows
theorem more_off {A B' C : Hp} {D : Addr} (m : More A B') (hD : A D = none) (of : Off D B' C) : More A C := fun b o e => of _ _ (m _ _ e) (ne_of_none e hD)
theorem flat_len {c : Nat} : ∀ {ls : List (List Nat)}, (∀ l ∈ ls, l.length ≤ c) → ls.flatten.length ≤ c * ls.length
  | [], _ => Nat.zero_le _
  | l :: ls, h => by
    have h1 := h l (.head _)
    have h2 := flat_len fun x hx => h x (.tail _ hx)
    rw [List.flatten_cons, List.length_append, List.length_cons, Nat.mul_add]
    omega
theorem layN_len {p i : Nat} {dss : List (List Int)} {ws : List Int} (g : MGood p dss ws) {l : List Nat} (h : LayN p (stepT dss) i l) : l.length ≤ dss.length :=
  nodup_below _ l (List.Pairwise.imp (fun {a b} h e => by omega) h.asc) fun s hs => by
    obtain ⟨w, _, h2, h3⟩ := (h.mem s).mp hs
    exact Rch.below (good_cl g) (List.length_pos_iff.mpr g.ne) ⟨w, h2, h3⟩
/-- a pair (value, number) -/
def PrH (H : Hp) (t : Addr) (pr : Int × Nat) : Prop := H t = some (.tup [V.int pr.1, V.int ((pr.2 : Nat) : Int)])
theorem oV_some {r : Option Nat} : (!decide (oV r = V.non)) = r.isSome := by
  cases r with
  | none => rfl
  | some m => exact congrArg not (decide_eq_false (fun z : V.int _ = V.non => nomatch z))
theorem paired_fg {α β γ δ : Type} {R : α → β → Prop} {S : γ → δ → Prop} {f : α → γ} {g : β → δ} (h : ∀ x y, R x y → S (f x) (g y)) : ∀ {xs : List α} {ys : List β}, Paired R xs ys → Paired S (xs.map f) (ys.map g)
  | _, _, .nil => .nil
  | _, _, .cons a t => .cons (h _ _ a) (paired_fg h t)
theorem offT' {H H' : Hp} {d b : Addr} {kvs : List (Key × V)} {x : List V} (p : H d = some (.dK kvs)) (of : Off d H H') (h : H b = some (.tup x)) : H' b = some (.tup x) := of b _ h fun e => by
  rw [e, p] at h
  cases h
theorem offL' {H H' : Hp} {d b : Addr} {kvs : List (Key × V)} {x : List V} (p : H d = some (.dK kvs)) (of : Off d H H') (h : H b = some (.lst x)) : H' b = some (.lst x) := of b _ h fun e => by
  rw [e, p] at h
  cases h
theorem plt_off {K : PySem.W.Frag} {H H' : Hp} {M W d : Addr} {kvs : List (Key × V)} {rs : List V} {p : Nat} {dss : List (List Int)} {ws : List Int} (h : PlT K H M W rs p dss ws) (e : H d = some (.dK kvs)) (of : Off d H H') : PlT K H' M W rs p dss ws :=
  ⟨offT' e of h.hM, paired_imp (fun v k ⟨b, e1, s⟩ => ⟨b, e1, sqT_off e (fun _ z => nomatch z) (fun _ _ z => nomatch z) of s⟩) h.rows, offT' e of h.hW, h.good, h.few⟩
theorem mat_off {K : PySem.W.Frag} {H H' : Hp} {C a d : Addr} {kvs : List (Key × V)} {p : Int} {dss : List (List Int)} {ws : List Int} (h : MAt K H C a p dss ws) (e : H d = some (.dK kvs)) (of : Off d H H') : MAt K H' C a p dss ws := by
  have tt : ∀ {b : Addr} {xs : List V}, SqT K H b xs → SqT K H' b xs := fun s => sqT_off e (fun _ z => nomatch z) (fun _ _ z => nomatch z) of s
  obtain ⟨dx, t, u, xs, h1, h2, h3, h4⟩ := h
  exact ⟨dx, t, u, xs, of _ _ h1 (fun z => by rw [z, e] at h1; cases h1), tt h2, paired_imp (fun _ _ ⟨b, e, q⟩ => ⟨b, e, tt q⟩) h3, tt h4⟩
theorem plt_ext {K : PySem.W.Frag} {H H' : Hp} {M W : Addr} {rs : List V} {p : Nat} {dss : List (List Int)} {ws : List Int} (h : PlT K H M W rs p dss ws) (e : LamX.ExtN H H') : PlT K H' M W rs p dss ws :=
  ⟨e _ _ h.hM (fun _ z => nomatch z), pairT_ext e h.rows, e _ _ h.hW (fun _ z => nomatch z), h.good, h.few⟩
theorem mat_ext {K : PySem.W.Frag} {H H' : Hp} {C a : Addr} {p : Int} {dss : List (List Int)} {ws : List Int} (e : LamX.ExtN H H') (h : MAt K H C a p dss ws) : MAt K H' C a p dss ws :=
  let ⟨dx, t, u, xs, h1, h2, h3, h4⟩ := h; ⟨dx, t, u, xs, e _ _ h1 (fun _ z => nomatch z), sqT_ext e h2, pairT_ext e h3, sqT_ext e h4⟩
theorem pick_int {x : V} {l : List V} (h : x ∈ l) (al : ∀ y ∈ l, ∃ z, y = .int z) : ∃ z, x = .int z := al x h
/-- the number of a value -/
def numO (kvs : List (Key × V)) (v : Int) : Int := match valV kvs (Sum.inl v) with
  | some (.int z) => z
  | _ => 0
theorem numO_at {kvs : List (Key × V)} {v : Int} (h : ∃ z, valV kvs (Sum.inl v) = some (.int z)) : valV kvs (Sum.inl v) = some (.int (numO kvs v)) := by
  obtain ⟨z, h⟩ := h
  unfold numO
  rw [h]
theorem shaped_err (i : Int) : SeqAt.shaped (.list [.str "number", .str "value", .int i]) = true := by
  have := shaped_I [i]
  unfold SeqAt.shaped dI at *
  simp only [List.map, PyData.canLay0, PyData.canLayAll0, PyData.depth, PyData.depthAll, Bool.and_eq_true, decide_eq_true_iff] at *
  simp_all
  decide +kernel
theorem eqv_err (i : Int) : PyData.eqv (.list [.str "number", .str "value", .int i]) (.list [.str "number", .str "value", .int i]) = true := by
  simp [PyData.eqv, PyData.eqvAll]
def rNoN : R2 := fun x y H Q => y = .non ∧ Q (.bl (!decide (x = .non))) H
section
variable {P : Program} {w : World} {K : PySem.W.Frag} {mg : Str → Option Value} {base : Heap}
theorem ok_law {f c PL P0 P1 : Addr} {kV doc pm ct oc : Value} {an od : Option Addr} {osl : Array (Option Value)} {g0 g1 g2 g3 g4 g5 g6 g7 g8 g9 gI gM gW C CN CR CU fN : Addr} {d0 d1 d2 d3 d4 d5 d6 d7 d8 d9 dI' dM dW fdN : FuncData}
    (lk : K.lookup f = some ⟨oc, od, .func (PySem.W.fnOf "law" "law" (defArgs sLaw) (defBody sLaw) (defScope sLaw) .none kV doc pm an (.ref c) ct), osl⟩)
    (hcd : PySem.W.codeIn K (.ref c) "law" = true) (TB : LamX.TabB base mg c PL) (n01 : PL ≠ P0) (n02 : PL ≠ P1) (B : Blt mg) (Z : McC K mg C) (zMin : mg "min" = none) (zSorted : mg "sorted" = none) (zSet : mg "set" = none) (zDict : mg "dict" = none)
    (M : Mk K C gI) (bI : Binds K dI' ["self", "p", "moves", "worths"] []) (GI : FnOk P w K mg base (L2.CX P w) 5 gI dI' ["self", "p", "moves", "worths"] (spMI K C CN CR CU))
    (Pe : Cl K mg "_law_pen" sPen ["_law_script"] g0 d0) (Dr : Cl K mg "_law_draw" sDraw ["_law_pen_here", "_law_many"] g1 d1) (Pi : Cl K mg "_law_pick" sPick ["_law_pen_here", "_law_some"] g2 d2)
    (St : Cl K mg "_law_steady" sSt ["_law_pen_here", "_law_p", "_law_most"] g3 d3) (Sh : Cl K mg "_law_shuffled" sSh ["_law_pen_here", "_law_some"] g4 d4)
    (La : Cl K mg "_law_layers" sLay ["_law_moves", "_law_many"] g5 d5) (Be : Cl K mg "_law_best" sBs ["_law_moves", "_law_layers_here", "_law_wanted", "_law_many", "_law_is_least_here"] g6 d6) (G6 : FnOk P w K mg base CX0 2 g6 d6 ["_law_moves", "_law_layers_here", "_law_wanted", "_law_many", "_law_is_least_here"] (spBs K))
    (Co : Cl K mg "comes" sCm ["machine"] g7 d7) (G7 : FnOk P w K mg base CX0 2 g7 d7 ["machine"] (spCm K C))
    (Sm : Cl K mg "_law_small" sSm ["_law_moves", "_law_worths"] g8 d8) (G8 : FnOk P w K mg base CX0 3 g8 d8 ["_law_moves", "_law_worths"] (spSm K))
    (Il : Cl K mg "_law_is_least" sIl ["_law_told", "_law_p", "_law_moves", "_law_worths"] g9 d9) (G9 : FnOk P w K mg base CX0 4 g9 d9 ["_law_told", "_law_p", "_law_moves", "_law_worths"] (spIl K C))
    (Mp : Cl K mg "mapped" sMp ["machine", "numbers"] gM dM) (GM : FnOk P w K mg base (L2.CX P w) 8 gM dM ["machine", "numbers"] (spMp K C CN (TT PL P0 P1)))
    (Rf : Cl K mg "_law_refused" sRef ["_law_call"] gW dW) (T : Cau1 K CN)
    (N : Er K mg "BadNumber" "BadNumber.__init__" CN fN ["what", "number"] sBadNumber fdN) :
    FnG P w K mg base CX0 11 f (PySem.W.fnOf "law" "law" (defArgs sLaw) (defBody sLaw) (defScope sLaw) .none kV doc pm an (.ref c) ct) ["_law_script"] (spLaw K PL P0 P1) := by
  have G0 : FnOk P w K mg base CX0 1 g0 d0 ["_law_script"] (spPen K) := ok_pen Pe.fn B.int_ B.list_
  have G1 : FnOk P w K mg base CX0 1 g1 d1 ["_law_pen_here", "_law_many"] spDraw := ok_draw Dr.fn B.int_ B.len_
  have G2 : FnOk P w K mg base CX0 2 g2 d2 ["_law_pen_here", "_law_some"] (spPick K) := ok_pick Pi.fn Dr.fn Dr.b Dr.g B.int_ B.len_
  have G3 : FnOk P w K mg base CX0 3 g3 d3 ["_law_pen_here", "_law_p", "_law_most"] (spSt K) := ok_st St.fn B zMin Dr Pi
  have G4 : FnOk P w K mg base CX0 2 g4 d4 ["_law_pen_here", "_law_some"] spSh := ok_sh Sh.fn B Dr
  have G5 : FnOk P w K mg base CX0 1 g5 d5 ["_law_moves", "_law_many"] (spLay K) := ok_lay La.fn B zSorted zSet
  refine fnG_of lk hcd scLaw (fun vs H Q E h => ?_) (fun A outer s H vs Q E hgd hr h => ?_)
  · obtain ⟨a, ns, rfl, _⟩ := h
    rfl
  · obtain ⟨sa, ns, rfl, hS, hPL, hP0, hP1, fin⟩ := h
    have hr1 : Room 1 _ := hr.mono (by decide)
    have hr2 : Room 2 _ := hr.mono (by decide)
    have hr3 : Room 3 _ := hr.mono (by decide)
    have hr4 : Room 4 _ := hr.mono (by decide)
    have hr6 : Room 6 _ := hr.mono (by decide)
    have hr8 : Room 8 _ := hr.mono (by decide)
    have hr9 : Room 9 _ := hr.mono (by decide)
    have hu := hu_of hr
    have hu64 := hr.units
    obtain ⟨ocW, odW, kVW, docW, pmW, anW, cdW, ctW, oslW, rfl, lkW, hcdW⟩ := Rf.fn.ex
    have bW := Rf.b
    have lam : ∀ {params : Arguments} {body : Expr} {scope : Scope} {lpos p pos : Pos} {t : XK → TE}, LamX.LamS (defScope sLaw) scope →
        defaultsOf params (cxOf CX0 P w K mg base NLaw "law" (defScope sLaw) f (.ref c) A outer s H E).nox.env = ([], []) →
        (∀ (q : Str) (cl : List (Str × Addr)) (pm cv ctv : Value), bindArgs (PySem.W.kla_fn "<lambda>" q params body scope cl pm cv ctv) ⟨[], []⟩ = pure []) →
        (∀ (A' : Around) (outer' : List Env) (s' : Shared) (H' : Hp) (E' : XK) (f' c' : Addr), Room 8 (A'.deeper (LamX.lamEnv (cxOf CX0 P w K mg base NLaw "law" (defScope sLaw) f (.ref c) A outer s H E).nox scope s'.heap.objs.size f' c')) →
          PE (LamX.lamCx (cxOf CX0 P w K mg base NLaw "law" (defScope sLaw) f (.ref c) A outer s H E).nox A' outer' s' H' E' scope f' c') body (t E')) →
        PE (cxOf CX0 P w K mg base NLaw "law" (defScope sLaw) f (.ref c) A outer s H E).nox
          (.Call (.Name "_law_refused" p) [.Lambda params body scope lpos] [] pos) (LamX.tLam (TS PL P0 P1) (TRef1 CN) t) := by
      intro params body scope lpos p pos t L hdef hbind hbody
      exact LamX.pe_lamcall (k := 8) (T := TS PL P0 P1) (c := c) (P := PL) rfl Rf.g Rf.k lkW hcdW bW scRef rfl (.inl rfl)
        (ref_gives (k := 8) hr T N.g (N.no _ (.head _)) (N.no _ (.tail _ (.head _)))) TB rfl (.head _)
        (fun p hp e => by
          obtain rfl | hp := List.mem_cons.mp hp
          · rfl
          obtain rfl | hp := List.mem_cons.mp hp
          · exact absurd e.symm n01
          obtain rfl | hp := List.mem_cons.mp hp
          · exact absurd e.symm n02
          · exact (List.not_mem_nil hp).elim) hr L hdef hbind hbody
    suffices hh : ∃ t, PSs (cxOf CX0 P w K mg base NLaw "law" (defScope sLaw) f (.ref c) A outer s H E).nox (defBody sLaw) t ∧ t { nx := fun _ H' => Q .non H', rt := Q } (L2.start NLaw [.ref sa]) H by
      obtain ⟨t, d, q⟩ := hh
      exact ⟨t, d.nox, q⟩
    refine ⟨_, Evl.pss_cut (ps_set (i := 1) scLaw.nd rfl (Or.inl rfl) (pe_call G0 hr1 rfl Pe.g Pe.k Pe.b .nil pass0 (pa_cons (pv 0) pa_nil)))
      (Evl.pss_cut (ps_set (i := 2) scLaw.nd rfl (Or.inl rfl) (pe_call G2 hr2 rfl Pi.g Pi.k Pi.b .nil pass0 (pa_cons (pv 1) (pa_cons (pe_lst (pa_cons pe_int (pa_cons pe_int (pa_cons pe_int (pa_cons pe_int pa_nil))))) pa_nil))))
      (Evl.pss_cut (ps_asg (pe_call G3 hr3 rfl St.g St.k St.b .nil pass0 (pa_cons (pv 1) (pa_cons (pv 2) (pa_cons pe_int pa_nil)))) (pg_tup (by rfl) (pgs_cons (pg_name (i := 3) scLaw.nd rfl (Or.inr rfl)) (pgs_cons (pg_name (i := 4) scLaw.nd rfl (Or.inr rfl)) pgs_nil))))
      (Evl.pss_cut (ps_asg (pe_tup (pa_cons (pe_op op_catA (pv 3) (pe_tup (pa_cons (pe_op op_repN (pe_tup (pa_cons (pe_callB call_len_seq (by rfl) B.len_ PySem.boot_len (pa_cons (pv 3) pa_nil)) pa_nil)) (pv 2)) pa_nil))) (pa_cons (pe_op op_catA (pv 4) (pe_tup (pa_cons pe_int pa_nil))) pa_nil)))
          (pg_tup (by rfl) (pgs_cons (pg_name (i := 3) scLaw.nd rfl (Or.inr rfl)) (pgs_cons (pg_name (i := 4) scLaw.nd rfl (Or.inr rfl)) pgs_nil))))
      (Evl.pss_cut (ps_asg (pe_tup (pa_cons (pe_make M GI hr6 rfl Z.g bI .nil (passes_call LamX.takes0 (fun _ _ _ _ h => h)) (pa_cons (pv 2) (pa_cons (pv 3) (pa_cons (pv 4) pa_nil)))) (pa_cons (pe_callB call_len_seq (by rfl) B.len_ PySem.boot_len (pa_cons (pv 3) pa_nil)) pa_nil)))
          (pg_tup (by rfl) (pgs_cons (pg_name (i := 18) scLaw.nd rfl (Or.inr rfl)) (pgs_cons (pg_name (i := 5) scLaw.nd rfl (Or.inl rfl)) pgs_nil))))
      (Evl.pss_cut (ps_asg (pe_tup (pa_cons (pe_call G5 hr1 rfl La.g La.k La.b .nil pass0 (pa_cons (pv 3) (pa_cons (pv 5) pa_nil))) (pa_cons (pe_lst pa_nil) pa_nil)))
          (pg_tup (by rfl) (pgs_cons (pg_name (i := 6) scLaw.nd rfl (Or.inr rfl)) (pgs_cons (pg_name (i := 7) scLaw.nd rfl (Or.inl rfl)) pgs_nil))))
      (pss_cons (ps_set (i := 8) scLaw.nd rfl (Or.inl rfl) (pe_lst pa_nil))
      (Evl.pss_cut (ps_for PassesOwn.never rfl (pi_list (pv 6)) (pg_name (i := 9) scLaw.nd rfl (Or.inl rfl)) (pss_one (ps_set (i := 8) scLaw.nd rfl (Or.inl rfl) (pe_op op_cat (pv 8) (pv 9)))))
      (Evl.pss_cut (ps_for PassesOwn.never rfl (pi_list (pe_callB (cr_sortedSet rfl) (by rfl) zSorted (by decide +kernel) (pa_cons (pe_callTy (cr_setL rfl) (by rfl) zSet (by decide +kernel) (pa_cons (pe_lc (own := [("_law_state", 19)]) (g := gName 19) (tt := tYes) rfl scLaw.nd (pi_list (pv 8))
            (blkOk_by (N := NLaw) (sc := defScope sLaw) (by decide +kernel)) (fun _ _ _ _ _ => pg_name (i := 19) scLaw.nd rfl (Or.inl rfl)) (fun _ _ _ _ _ => pts_nil)
            (fun _ _ _ _ _ => pe_ix (r := rIxT K) ix_tup (pv 4) (pv 19) (fun _ _ => rfl))) pa_nil)) pa_nil))) (pg_name (i := 10) scLaw.nd rfl (Or.inr rfl))
        (Evl.pss_cut (ps_set (i := 11) scLaw.nd rfl (Or.inr rfl) (pe_lc (own := [("_law_state", 19)]) (g := gName 19) rfl scLaw.nd (pi_range1 (by rfl) B.range_ (pa_cons (pv 5) pa_nil))
            (blkOk_by (N := NLaw) (sc := defScope sLaw) (by decide +kernel)) (fun _ _ _ _ _ => pg_name (i := 19) scLaw.nd rfl (Or.inl rfl))
            (fun _ _ _ _ _ => pts_one (pt_cmpR (r := rEq) op_eq (pe_ix (r := rIxT K) ix_tup (pv 4) (pv 19) (fun _ _ => rfl)) (pv 10) rfl)) (fun _ _ _ _ _ => pv 19)))
        (Evl.pss_cut (ps_setLc (i := 12) (own := [("_law_size", 20)]) (g := gName 20) (tt := tYes) rfl scLaw.nd rfl rfl (sw_true rfl rfl rfl (by decide +kernel)) (pi_range1 (by rfl) B.range_ (pa_cons (pe_op op_add (pv 5) pe_int) pa_nil))
            (blkOk_by (N := NLaw) (sc := defScope sLaw) (by decide +kernel)) (fun _ _ _ _ _ => pg_name (i := 20) scLaw.nd rfl (Or.inl rfl)) (fun _ _ _ _ _ => pts_nil)
            (fun _ _ _ _ _ => pe_call G6 hr2 rfl Be.g Be.k Be.b .nil pass0 (pa_cons (pv 3) (pa_cons (pv 6) (pa_cons (pv 11) (pa_cons (pv 20) (pa_cons pe_bl pa_nil)))))))
        (pss_one (ps_expr (pe_bm PySem.F.plainAttrs_list PySem.F.slot_list_append PySem.F.type_list_append mt_append (pv 7) (pa_cons (pe_tup (pa_cons (pv 10) (pa_cons (pe_ix ix_list (pe_lc (own := [("_law_n", 21)]) (g := gName 21) rfl scLaw.nd (pi_list (pv 12))
            (blkOk_by (N := NLaw) (sc := defScope sLaw) (by decide +kernel)) (fun _ _ _ _ _ => pg_name (i := 21) scLaw.nd rfl (Or.inl rfl))
            (fun _ _ _ _ _ => pts_one (pt_cmpR (r := rNoN) op_notN (pv 21) pe_non rfl)) (fun _ _ _ _ _ => pv 21)) pe_int (fun _ _ => rfl)) pa_nil))) pa_nil)))))))
      (Evl.pss_cut (ps_if (pt_cmpR (op_neD hu64) (pe_call G7 hr2 rfl Co.g Co.k Co.b .nil pass0 (pa_cons (pv 18) pa_nil)) (pe_callTy call_tuple_of (by rfl) B.tup_ (by decide +kernel) (pa_cons (pv 7) pa_nil)) (nomark _)) (pss_one (ps_ret pe_bl)) pss_nil)
      (Evl.pss_cut (ps_setLc (i := 13) (own := [("_law_value", 10), ("_law_n", 21)]) (g := gTup K 2 (gCons (gName 10) (gCons (gName 21) gNil))) (tt := tYes) rfl scLaw.nd rfl rfl (sw_true rfl rfl rfl (by decide +kernel)) (pi_list (pv 7))
            (blkOk_by (N := NLaw) (sc := defScope sLaw) (by decide +kernel)) (fun _ _ _ _ _ => pg_tup rfl (pgs_cons (pg_name (i := 10) scLaw.nd rfl (Or.inl rfl)) (pgs_cons (pg_name (i := 21) scLaw.nd rfl (Or.inl rfl)) pgs_nil))) (fun _ _ _ _ _ => pts_nil) (fun _ _ _ _ _ => pv 10))
      (Evl.pss_cut (ps_set (i := 14) scLaw.nd rfl (Or.inr rfl) (pe_disp (pps_cons (pe_call G2 hr2 rfl Pi.g Pi.k Pi.b .nil pass0 (pa_cons (pv 1) (pa_cons (pe_lst (pa_cons pe_int (pa_cons (pe_op op_pow pe_int pe_int) (pa_cons (pe_un un_neg pe_int) pa_nil)))) pa_nil))) pe_int pps_nil) rfl rfl (by decide) (by decide)))
      (Evl.pss_cut (ps_for PassesOwn.never rfl (pi_list (pe_call G4 hr2 rfl Sh.g Sh.k Sh.b .nil pass0 (pa_cons (pv 1) (pa_cons (pv 13) pa_nil)))) (pg_name (i := 10) scLaw.nd rfl (Or.inr rfl))
        (pss_one (ps_dput hu (pv 14) (pv 10) (pe_call G2 hr2 rfl Pi.g Pi.k Pi.b .nil pass0 (pa_cons (pv 1) (pa_cons (pe_lst (pa_cons pe_int (pa_cons pe_int (pa_cons (pv 10) (pa_cons (pe_un un_neg pe_int) pa_nil))))) pa_nil))) rfl)))
      (Evl.pss_cut (ps_set (i := 15) scLaw.nd rfl (Or.inl rfl) (pe_call G8 hr3 rfl Sm.g Sm.k Sm.b .nil pass0 (pa_cons (pv 3) (pa_cons (pv 4) pa_nil))))
      (Evl.pss_cut (ps_if (pt_not (pt_val (pe_call G9 hr4 rfl Il.g Il.k Il.b .nil pass0 (pa_cons (pe_call GM hr8 rfl Mp.g Mp.k Mp.b .nil (passes_call LamX.takes0 (fun _ _ _ _ h => h)) (pa_cons (pv 18) (pa_cons (pv 14) pa_nil))) (pa_cons (pv 2) (pa_cons (pe_ix ix_tup (pv 15) pe_int (fun _ _ => rfl))
            (pa_cons (pe_callTy call_tuple_of (by rfl) B.tup_ (by decide +kernel) (pa_cons (pe_lc (own := [("_law_worth", 22)]) (g := gName 22) (tt := tYes) rfl scLaw.nd (pi_sq (K := K) rfl (pe_ix ix_tup (pv 15) pe_int (fun _ _ => rfl)))
              (blkOk_by (N := NLaw) (sc := defScope sLaw) (by decide +kernel)) (fun _ _ _ _ _ => pg_name (i := 22) scLaw.nd rfl (Or.inl rfl)) (fun _ _ _ _ _ => pts_nil)
              (fun _ _ _ _ _ => pe_dget hu (pv 14) (pv 22) (fun _ _ => rfl))) pa_nil)) pa_nil))))))) (pss_one (ps_ret pe_bl)) pss_nil)
      (Evl.pss_cut (ps_set (i := 16) scLaw.nd rfl (Or.inl rfl) (pe_call G1 hr1 rfl Dr.g Dr.k Dr.b .nil pass0 (pa_cons (pv 1) (pa_cons (pe_callB call_len_seq (by rfl) B.len_ PySem.boot_len (pa_cons (pv 13) pa_nil)) pa_nil))))
      (Evl.pss_cut (ps_set (i := 17) scLaw.nd rfl (Or.inr rfl) (pe_callTy (call_dictP rfl) (by rfl) zDict (by decide +kernel) (pa_cons (pe_op op_cat (pe_lc (own := [("_law_value", 10)]) (g := gName 10) (tt := tYes) rfl scLaw.nd (pi_list (pe_slice sl_list (pv 13) po_none (po_some (pv 16))))
            (blkOk_by (N := NLaw) (sc := defScope sLaw) (by decide +kernel)) (fun _ _ _ _ _ => pg_name (i := 10) scLaw.nd rfl (Or.inl rfl)) (fun _ _ _ _ _ => pts_nil)
            (fun _ _ _ _ _ => pe_tup (pa_cons (pv 10) (pa_cons (pe_dget hu (pv 14) (pv 10) (fun _ _ => rfl)) pa_nil)))) (pe_lst (pa_cons (pe_tup (pa_cons pe_int (pa_cons pe_int pa_nil))) pa_nil))) pa_nil)))
      (Evl.pss_cut (ps_if (pt_cmpR (op_neD hu64) (lam (LamX.lamS_by (by decide +kernel)) rfl (fun _ _ _ _ _ => rfl) (fun A' outer' s' H' E' f' c' hr' => pe_call GM hr' rfl Mp.g Mp.k Mp.b .nil takesLam (pa_cons (pv 18) (pa_cons (pv 17) pa_nil))))
            (pe_lst (pa_cons pe_str (pa_cons pe_str (pa_cons (pe_ix ix_list (pv 13) (pv 16) (fun _ _ => rfl)) pa_nil)))) (nomark _)) (pss_one (ps_ret pe_bl)) pss_nil)
      (pss_one (ps_ret (pe_cmpR (op_eqD hu64) (pe_callB cr_sortedI (by rfl) zSorted (by decide +kernel) (pa_cons (pe_callTy (call_list_dK rfl) (by rfl) B.list_ (by decide +kernel) (pa_cons (pv 17) pa_nil)) pa_nil))
          (pe_callB cr_sortedI (by rfl) zSorted (by decide +kernel) (pa_cons (pe_op op_cat (pe_slice sl_list (pv 13) po_none (po_some (pv 16))) (pe_lst (pa_cons pe_int pa_nil))) pa_nil)) (nomark _))))))))))))))))))))), ?_⟩
    -- the pen, the base, the machine
    refine ⟨fun σ' H' => ∃ d cc, σ' = [some (.ref sa), some (.ref d), none, none, none, none, none, none, none, none, none, none, none, none, none, none, none, none, none, none, none, none, none] ∧ Pen H' d cc 0 ∧ TabsN (TT PL P0 P1) H', ?_, ?_⟩
    · refine ⟨_, rfl, sa, ns, rfl, hS, fun H1 d cc pen fr nd => ⟨d, cc, rfl, pen, fun pq hpq => ?_⟩⟩
      obtain rfl | hpq := List.mem_cons.mp hpq
      · exact TabN.nil (fr _ _ hPL)
      obtain rfl | hpq := List.mem_cons.mp hpq
      · exact TabN.nil (fr _ _ hP0)
      obtain rfl | hpq := List.mem_cons.mp hpq
      · exact TabN.nil (fr _ _ hP1)
      · exact (List.not_mem_nil hpq).elim
    clear hS hPL hP0 hP1
    rintro σ0 H0 ⟨d, cc, rfl, pen0, tab0⟩
    refine ⟨fun σ' H' => ∃ p : Nat, σ' = [some (.ref sa), some (.ref d), some (.int p), none, none, none, none, none, none, none, none, none, none, none, none, none, none, none, none, none, none, none, none] ∧ isPr p = true ∧ Pen H' d cc 1 ∧ TabsN (TT PL P0 P1) H', ?_, ?_⟩
    · refine ⟨_, rfl, by show 4 ≤ sizeLine; decide, fun L hL => ?_⟩
      have m := new_more (o := .lst [V.int 2, .int 3, .int 5, .int 7]) hL
      obtain ⟨kvs, hd⟩ := (pen0.upd (o := .lst [V.int 2, .int 3, .int 5, .int 7]) hL).dk
      refine ⟨d, cc, L, 0, _, rfl, pen0.upd hL, upd_same, by show 0 < 4; decide, by show 4 ≤ 1000; decide, by decide, by decide, fun x H' hx dr => ?_⟩
      obtain ⟨p, rfl, pr⟩ := pick_pr hx
      exact ⟨p, rfl, pr, dr.pen, tabsN_off (tab0.ext m) (.dr dr) hd⟩
    clear pen0 tab0
    rintro σ1 H1 ⟨p, rfl, pr, pen1, tab1⟩
    refine ⟨fun σ' H' => ∃ (M' W : Addr) (rs : List V) (dss : List (List Int)) (ws : List Int) (n : Int), σ' = [some (.ref sa), some (.ref d), some (.int p), some (.ref M'), some (.ref W), none, none, none, none, none, none, none, none, none, none, none, none, none, none, none, none, none, none] ∧ Pen H' d cc n ∧ 1 ≤ n ∧ n ≤ 1001 ∧ TabsN (TT PL P0 P1) H' ∧ PlT K H' M' W rs p dss ws ∧ dss.length ≤ 8 ∧ stdy dss ws = true ∧ (∀ x ∈ ws, x ≠ 77), ?_, ?_⟩
    · obtain ⟨kvs, hd⟩ := pen1.dk
      refine ⟨_, rfl, _, rfl, d, cc, 1, p, 8, rfl, pen1, by decide, by decide, pr, by decide, by decide, fun H' t M' W rs dss ws n' ht hM hp hW g st n77 few pen' a1 a2 of => ?_⟩
      exact ⟨t, _, rfl, SqT.of ht, rfl, _, _, rfl, _, _, rfl, rfl, M', W, rs, dss, ws, n', rfl, pen', a1, by omega, tabsN_off tab1 of hd, ⟨hM, hp, hW, g, by omega⟩, few, st, n77⟩
    clear pen1 tab1
    rintro σ2 H2 ⟨M0, W0, rs0, dss0, ws0, n, rfl, pen2, n1, n2, tab2, pl0, few0, sd0, n77⟩
    obtain ⟨p2, p7⟩ := isPr_small pr
    have g0 := pl0.good
    have d0 := List.length_pos_iff.mpr g0.ne
    -- a state more
    refine ⟨fun σ' H' => ∃ (M' W : Addr) (rs : List V), σ' = [some (.ref sa), some (.ref d), some (.int p), some (.ref M'), some (.ref W), none, none, none, none, none, none, none, none, none, none, none, none, none, none, none, none, none, none] ∧ More H2 H' ∧ PlT K H' M' W rs p (extD p dss0) (ws0 ++ [77]), ?_, ?_⟩
    · have rl : rs0.length = dss0.length := Paired.length pl0.rows
      refine ⟨_, rfl, _, rfl, M0, rs0, rfl, .inr (SqT.of pl0.hM), by show 1 ≤ sizeLine; decide, fun z0 hz0 => ?_⟩
      rw [rl]
      have m3 := new_more (o := .tup [V.int ((dss0.length : Nat) : Int)]) hz0
      have e3 : (upd H2 z0 (.tup [V.int ((dss0.length : Nat) : Int)])) z0 = some (.tup [V.int ((dss0.length : Nat) : Int)]) := upd_same
      generalize upd H2 z0 (.tup [V.int ((dss0.length : Nat) : Int)]) = H3 at m3 e3 ⊢
      refine ⟨_, rfl, .inl ⟨z0, p, _, rfl, rfl, SqT.of e3, by simp, by omega, by omega, by show 1 ≤ 1000; decide, fun z hz => ?_⟩⟩
      rw [rep_one, Int.toNat_natCast]
      have m4 := new_more (o := .tup (List.replicate p (V.int ((dss0.length : Nat) : Int)))) hz
      have e4 : (upd H3 z (.tup (List.replicate p (V.int ((dss0.length : Nat) : Int))))) z = some (.tup (List.replicate p (V.int ((dss0.length : Nat) : Int)))) := upd_same
      generalize upd H3 z (.tup (List.replicate p (V.int ((dss0.length : Nat) : Int)))) = H4 at m4 e4 ⊢
      refine ⟨by show 1 ≤ sizeLine; decide, fun z1 hz1 => ?_⟩
      have m5 := new_more (o := .tup [V.ref z]) hz1
      have e5 : (upd H4 z1 (.tup [V.ref z])) z1 = some (.tup [V.ref z]) := upd_same
      have m25 : More H2 (upd H4 z1 (.tup [V.ref z])) := fun b o e => m5 _ _ (m4 _ _ (m3 _ _ e))
      have e4 := m5 _ _ e4
      generalize upd H4 z1 (.tup [V.ref z]) = H5 at m25 e5 e4 ⊢
      clear m3 m4 m5
      refine ⟨M0, z1, rs0, [.ref z], rfl, rfl, SqT.of (m25 _ _ pl0.hM), SqT.of e5, by rw [rl, sizeLine_eq]; show dss0.length + 1 ≤ _; omega, fun e => by rw [e] at rl; exact absurd rl (by show 0 ≠ _; omega), fun _ e => (nomatch e), fun _ _ M' hM' => ?_⟩
      have m6 := new_more (o := .tup (rs0 ++ [V.ref z])) hM'
      have e6 : (upd H5 M' (.tup (rs0 ++ [V.ref z]))) M' = some (.tup (rs0 ++ [V.ref z])) := upd_same
      have e4 := m6 _ _ e4
      have m26 : More H2 (upd H5 M' (.tup (rs0 ++ [V.ref z]))) := fun b o e => m6 _ _ (m25 _ _ e)
      generalize upd H5 M' (.tup (rs0 ++ [V.ref z])) = H6 at m26 e6 e4 ⊢
      clear m6 m25
      refine ⟨_, rfl, by show 1 ≤ sizeLine; decide, fun z2 hz2 => ?_⟩
      have m7 := new_more (o := .tup [V.int 77]) hz2
      have e7 : (upd H6 z2 (.tup [V.int 77])) z2 = some (.tup [V.int 77]) := upd_same
      have e6 := m7 _ _ e6
      have e4 := m7 _ _ e4
      have m27 : More H2 (upd H6 z2 (.tup [V.int 77])) := fun b o e => m7 _ _ (m26 _ _ e)
      generalize upd H6 z2 (.tup [V.int 77]) = H7 at m27 e7 e6 e4 ⊢
      clear m7 m26
      refine ⟨W0, z2, ws0.map V.int, [.int 77], rfl, rfl, SqT.of (m27 _ _ pl0.hW), SqT.of e7, by rw [List.length_map, g0.len, sizeLine_eq]; show dss0.length + 1 ≤ _; omega, fun e => by have := congrArg List.length e; rw [List.length_map, g0.len] at this; exact absurd this (by show _ ≠ 0; omega), fun _ e => (nomatch e), fun _ _ W' hW' => ?_⟩
      have m8 := new_more (o := .tup (ws0.map V.int ++ [V.int 77])) hW'
      have e8 : (upd H7 W' (.tup (ws0.map V.int ++ [V.int 77]))) W' = some (.tup ((ws0 ++ [77]).map V.int)) := by rw [upd_same, List.map_append]; rfl
      have e6 := m8 _ _ e6
      have e4 := m8 _ _ e4
      have m28 : More H2 (upd H7 W' (.tup (ws0.map V.int ++ [V.int 77]))) := fun b o e => m8 _ _ (m27 _ _ e)
      generalize upd H7 W' (.tup (ws0.map V.int ++ [V.int 77])) = H8 at m28 e8 e6 e4 ⊢
      clear m8 m27
      refine ⟨by show 2 ≤ sizeLine; decide, fun t ht => ?_⟩
      have m9 := new_more (o := .tup [V.ref M', .ref W']) ht
      refine ⟨t, _, rfl, SqT.of upd_same, rfl, _, _, rfl, _, _, rfl, rfl, M', W', _, rfl, fun b o e => m9 _ _ (m28 _ _ e), ⟨m9 _ _ e6, paired_snoc ⟨z, rfl, SqT.of ?_⟩ (paired_imp (fun _ _ r => r.more fun b o e => m9 _ _ (m28 _ _ e)) pl0.rows), m9 _ _ e8, ext_good g0 (by omega), by rw [List.length_append]; show dss0.length + 1 ≤ _; omega⟩⟩
      rw [List.map_replicate]
      exact m9 _ _ e4
    rintro σ3 H3 ⟨M', W, rs, rfl, m23, pl3⟩
    have n77' : ∀ s, Rch p (stepT (extD p dss0)) s → valL (ws0 ++ [77]) s ≠ 77 := fun s hs => ext_77 g0 n77 hs
    have sd := ext_stdy g0 sd0 (by omega)
    have ld : (extD p dss0).length = dss0.length + 1 := by rw [List.length_append]; rfl
    generalize extD p dss0 = dss at pl3 n77' sd ld
    generalize ws0 ++ [77] = ws at pl3 n77' sd
    have g := pl3.good
    have tab3 := tab2.ext m23
    have pen3 : Pen H3 d cc n := pen_more pen2 m23
    have few : dss.length ≤ 9 := by omega
    have dp : 0 < dss.length := by omega
    clear pl0 g0 d0 few0 sd0 n77 ld tab2 pen2 m23
    -- the machine
    have rl : rs.length = dss.length := Paired.length pl3.rows
    refine ⟨fun σ' H' => ∃ a, σ' = [some (.ref sa), some (.ref d), some (.int p), some (.ref M'), some (.ref W), some (.int (dss.length : Nat)), none, none, none, none, none, none, none, none, none, none, none, none, some (.ref a), none, none, none, none] ∧ More H3 H' ∧ MAt K H' C a p dss ws, ?_, ?_⟩
    · refine ⟨_, rfl, _, rfl, _, rfl, fun x dx hx hdx ne => ?_⟩
      have m4 : More H3 (upd (upd H3 dx (.own x)) x (.ins C dx [])) := fun b o e => by
        rw [upd_ne (ne_of_none e hx), upd_ne (ne_of_none e hdx)]
        exact e
      have pl4 := pl3.more m4
      refine ⟨x, dx, _, _, _, rfl, upd_same, .inr ⟨(p : Int), dss, ws, mk_ok g sd (.inr (SqT.of pl4.hM)) (plt_sq pl4) (.inr (SqT.of pl4.hW)), fun H5 of5 ma5 => ⟨rfl, ?_⟩⟩⟩
      have m35 : More H3 H5 := fun b o e => of5 _ _ (m4 _ _ e) (ne_of_none e hx)
      refine ⟨_, rfl, M', rs, rfl, .inr (SqT.of (m35 _ _ pl3.hM)), by show 2 ≤ sizeLine; decide, fun t ht => ?_⟩
      rw [rl]
      have mt := new_more (o := .tup [V.ref x, V.int ((dss.length : Nat) : Int)]) ht
      exact ⟨t, _, rfl, SqT.of upd_same, rfl, _, _, rfl, _, _, rfl, rfl, x, rfl, fun b o e => mt _ _ (m35 _ _ e), ma5.more mt⟩
    rintro σ4 H4 ⟨a, rfl, m34, ma4⟩
    have pl4 := pl3.more m34
    have tab4 := tab3.ext m34
    have pen4 := pen_more pen3 m34
    clear pl3 tab3 pen3 m34
    -- the layers
    refine ⟨fun σ' H' => ∃ (H5 : Hp) (L D : Addr) (as : List Addr) (ls : List (List Nat)), σ' = [some (.ref sa), some (.ref d), some (.int p), some (.ref M'), some (.ref W), some (.int (dss.length : Nat)), some (.ref L), some (.ref D), none, none, none, none, none, none, none, none, none, none, some (.ref a), none, none, none, none] ∧ More H4 H5 ∧ H5 D = none ∧ More H5 H' ∧ H5 L = some (.lst (as.map V.ref)) ∧ Paired (LisN H5) as ls ∧ ls.length = dss.length + 1 ∧ (∀ i l, ls[i]? = some l → LayN p (stepT dss) i l) ∧ H' D = some (.lst []), ?_, ?_⟩
    · refine ⟨_, rfl, _, rfl, M', rs, dss.length, p, dss, ws, rfl, pl4.hM, pl4.rows, g, by omega, by omega, fun H5 L as ls m5 kL pas lls lay => ?_⟩
      refine ⟨by show 0 ≤ sizeLine; exact Nat.zero_le _, fun D hD => ?_⟩
      have m6 := new_more (o := .lst []) hD
      refine ⟨by show 2 ≤ sizeLine; decide, fun t ht => ?_⟩
      have mt := new_more (o := .tup [V.ref L, V.ref D]) ht
      exact ⟨t, _, rfl, SqT.of upd_same, rfl, _, _, rfl, _, _, rfl, rfl, H5, L, D, as, ls, rfl, m5, hD, fun b o e => mt _ _ (m6 _ _ e), kL, pas, lls, lay, mt _ _ upd_same⟩
    rintro σ5 H6 ⟨H5, L, D, as, ls, rfl, m45, nD, m56, kL, pas, lls, lay, kD⟩
    have pl := pl4.more m45
    have tab := tab4.ext m45
    have pen := pen_more pen4 m45
    have ma := ma4.more m45
    clear pl4 tab4 pen4 ma4 m45
    -- the states that are met
    refine ⟨by show 0 ≤ sizeLine; exact Nat.zero_le _, fun me0 hme0 => ?_⟩
    have m7 := new_more (o := .lst []) hme0
    have km0 : (upd H6 me0 (.lst [])) me0 = some (.lst (([] : List Nat).map nV)) := upd_same
    have m57 : More H5 (upd H6 me0 (.lst [])) := fun b o e => m7 _ _ (m56 _ _ e)
    have neD : me0 ≠ D := (ne_of_none kD hme0).symm
    have kD := m7 _ _ kD
    generalize upd H6 me0 (.lst []) = H7 at km0 m57 kD ⊢
    clear m7 m56 hme0
    have ll : ∀ l ∈ ls, l.length ≤ 9 := fun l hl => by
      obtain ⟨i, hi⟩ := List.getElem?_of_mem hl
      have := layN_len g (lay i l hi)
      omega
    refine ⟨fun σ' H' => ∃ (z9 : Option V) (me : Addr), σ' = [some (.ref sa), some (.ref d), some (.int p), some (.ref M'), some (.ref W), some (.int (dss.length : Nat)), some (.ref L), some (.ref D), some (.ref me), z9, none, none, none, none, none, none, none, none, some (.ref a), none, none, none, none] ∧ me ≠ D ∧ More H5 H' ∧ H' D = some (.lst []) ∧ H' me = some (.lst (ls.flatten.map nV)), ?_, ?_⟩
    · refine ⟨_, rfl, L, rfl, ⟨_, SqL.of (m57 _ _ kL)⟩, for_list (K := K) (a := L) (xs := as.map V.ref) (fun i σ' H' => ∃ (z9 : Option V) (me : Addr), σ' = [some (.ref sa), some (.ref d), some (.int p), some (.ref M'), some (.ref W), some (.int (dss.length : Nat)), some (.ref L), some (.ref D), some (.ref me), z9, none, none, none, none, none, none, none, none, some (.ref a), none, none, none, none] ∧ me ≠ D ∧ More H5 H' ∧ H' D = some (.lst []) ∧ H' me = some (.lst ((ls.take i).flatten.map nV)))
        ⟨none, me0, rfl, neD, m57, kD, km0⟩ (fun i σ' H' _ ⟨_, _, _, _, m, _⟩ => SqL.of (m _ _ kL)) ?_ ?_⟩
      · rintro i y σ' G hy ⟨z9, me, rfl, nme, m, kDG, km⟩
        obtain ⟨b, hb, rfl⟩ := map_at hy
        obtain ⟨l, el, kb⟩ := paired_at pas hb
        have kb : H5 b = some (.lst (l.map nV)) := kb
        refine ⟨_, rfl, _, rfl, me, b, _, _, rfl, rfl, km, m _ _ kb, ?_, fun r hr => ?_⟩
        · have h1 := flat_len (c := 9) (ls := ls.take i) fun x hx => ll x (List.mem_of_mem_take hx)
          have h2 := ll l (List.mem_of_getElem? el)
          rw [List.length_take] at h1
          rw [List.length_map, List.length_map]
          refine Nat.le_of_lt (small1000 ?_)
          omega
        · have mr := new_more (o := .lst ((ls.take i).flatten.map nV ++ l.map nV)) hr
          refine ⟨_, r, rfl, (ne_of_none kDG hr).symm, fun b o e => mr _ _ (m _ _ e), mr _ _ kDG, ?_⟩
          rw [upd_same, take_snoc el, List.flatten_append, List.map_append, List.flatten_cons, List.flatten_nil, List.append_nil]
      · rintro σ' G ⟨z9, me, rfl, nme, m, kDG, km⟩
        refine ⟨z9, me, rfl, nme, m, kDG, ?_⟩
        rw [km, List.length_map, Paired.length pas, List.take_length]
    clear km0 m57 kD neD
    rintro σ7 H7 ⟨z9, me, rfl, nme, m57, kD, kme⟩
    have metF : ∀ {s}, s ∈ ls.flatten ↔ Rch p (stepT dss) s := fun {s} => layers_rch g lls (Nat.le_refl _) lay
    have fl1 : ls.flatten.length ≤ 90 := by
      have := flat_len (c := 9) ll
      omega
    obtain ⟨mt, hmt⟩ : ∃ mt, mt = ls.flatten := ⟨_, rfl⟩
    rw [← hmt] at kme metF fl1
    -- the values that are met, ascending
    refine ⟨fun σ' H' => ∃ (z9 z10 z11 z12 : Option V) (ts : List Addr) (prs : List (Int × Nat)), σ' = [some (.ref sa), some (.ref d), some (.int p), some (.ref M'), some (.ref W), some (.int (dss.length : Nat)), some (.ref L), some (.ref D), some (.ref me), z9, z10, z11, z12, none, none, none, none, none, some (.ref a), none, none, none, none] ∧ More H5 H' ∧ H' D = some (.lst (ts.map V.ref)) ∧ Paired (PrH H') ts prs ∧ Comes p (stepT dss) (valL ws) prs ∧ prs.length ≤ 90, ?_, ?_⟩
    · have lw : ws.length = dss.length := g.len
      have mtb : ∀ s ∈ mt, s < dss.length := fun s hs => (metF.mp hs).below (good_cl g) dp
      refine ⟨_, rfl, me, rfl, ⟨_, SqL.of kme⟩, fun E1 hE1 => ?_⟩
      have nE1 : E1 ≠ D := (ne_of_none kD hE1).symm
      refine lc_name (n := 19) (D := E1) (H1 := H7) (xs := mt.map nV) (rs := (mt.map fun s => valL ws s).map V.int) walk_list hE1 (fun H' m => SqL.of (m _ _ kme)) (by rw [List.length_map, List.length_map, List.length_map]) (by rw [List.length_map]; omega) (fun _ => rfl) ?_ ?_
      · intro i y v G Qv hy hv m q
        obtain ⟨s, hs, rfl⟩ := map_at hy
        rw [List.map_map] at hv
        obtain ⟨s2, hs2, rfl⟩ := map_at hv
        rw [hs] at hs2
        cases hs2
        have lt := mtb s (List.mem_of_getElem? hs)
        exact ⟨_, rfl, _, rfl, W, _, ((s : Nat) : Int), _, rfl, rfl, SqT.of (m _ _ (m57 _ _ pl.hW)), atI_nat (at_map (at_getD (by omega) 0)), q _ fun _ _ e => e⟩
      · intro H8 kE1 m78
        refine ⟨E1, _, rfl, SqL.of kE1, by rw [List.length_map]; omega, fun ps cnt' hps hcnt => ?_⟩
        have hcle : cnt' ≤ mt.length := by
          have := hcnt (mt.map fun s => valL ws s) fun x hx => hx
          rw [List.length_map] at this
          exact this
        have hc64 : cnt' < 64 := by
          have := hcnt ws fun x hx => by
            obtain ⟨s, hs, rfl⟩ := List.mem_map.mp hx
            exact List.mem_of_getElem? (at_getD (by have := mtb s hs; omega) 0)
          omega
        refine ⟨ps, _, cnt', rfl, upd_same, hc64, fun ns bs asc mem len hbs => ?_⟩
        have mps := new_more (o := SetO (cxOf CX0 P w K mg base NLaw "law" (defScope sLaw) f (.ref c) A outer s H E).nox.w ps (fun j => decide (j ∈ mt.map fun s => valL ws s)) cnt') hps
        have mbs := new_more (o := .lst (ns.map V.int)) hbs
        have kbs : (upd (upd H8 ps (SetO (cxOf CX0 P w K mg base NLaw "law" (defScope sLaw) f (.ref c) A outer s H E).nox.w ps (fun j => decide (j ∈ mt.map fun s => valL ws s)) cnt')) bs (.lst (ns.map V.int))) bs = some (.lst (ns.map V.int)) := upd_same
        have m79 : More H7 (upd (upd H8 ps (SetO (cxOf CX0 P w K mg base NLaw "law" (defScope sLaw) f (.ref c) A outer s H E).nox.w ps (fun j => decide (j ∈ mt.map fun s => valL ws s)) cnt')) bs (.lst (ns.map V.int))) := fun b o e => mbs _ _ (mps _ _ (m78 _ _ e))
        have nbs : bs ≠ D := (ne_of_none (mps _ _ (m78 _ _ kD)) hbs).symm
        generalize upd (upd H8 ps (SetO (cxOf CX0 P w K mg base NLaw "law" (defScope sLaw) f (.ref c) A outer s H E).nox.w ps (fun j => decide (j ∈ mt.map fun s => valL ws s)) cnt')) bs (.lst (ns.map V.int)) = H9 at kbs m79 ⊢
        have nsm : ∀ v, v ∈ ns ↔ ∃ s, Rch p (stepT dss) s ∧ valL ws s = v := fun v => by
          rw [mem, decide_eq_true_iff]
          constructor
          · intro h
            obtain ⟨s, hs, rfl⟩ := List.mem_map.mp h
            exact ⟨s, metF.mp hs, rfl⟩
          · rintro ⟨s, hs, rfl⟩
            exact List.mem_map.mpr ⟨s, metF.mpr hs, rfl⟩
        have kD9 := m79 _ _ kD
        have m59 : More H5 H9 := fun b o e => m79 _ _ (m57 _ _ e)
        refine ⟨bs, rfl, ⟨_, SqL.of kbs⟩, for_list (K := K) (a := bs) (xs := ns.map V.int) (fun i σ' H' => ∃ (z10 z11 z12 : Option V) (ts : List Addr) (prs : List (Int × Nat)), σ' = [some (.ref sa), some (.ref d), some (.int p), some (.ref M'), some (.ref W), some (.int (dss.length : Nat)), some (.ref L), some (.ref D), some (.ref me), z9, z10, z11, z12, none, none, none, none, none, some (.ref a), none, none, none, none] ∧ More H5 H' ∧ H' bs = some (.lst (ns.map V.int)) ∧ H' D = some (.lst (ts.map V.ref)) ∧ Paired (fun t pr => PrH H' t pr ∧ t ≠ D) ts prs ∧ prs.map (·.1) = ns.take i ∧ ∀ pr ∈ prs, MinE (Tell p (stepT dss) (valL ws) pr.1) pr.2)
          ⟨none, none, none, [], [], rfl, m59, kbs, kD9, .nil, rfl, fun _ h => nomatch h⟩ (fun i σ' H' _ ⟨_, _, _, _, _, _, _, h, _⟩ => SqL.of h) ?_ ?_⟩
        · rintro i y σ' G hy ⟨z10, z11, z12, ts, prs, rfl, mG, kbG, kDG, pts, ept, least⟩
          obtain ⟨v, hv, rfl⟩ := map_at hy
          obtain ⟨s0, hs0, es0⟩ := (nsm v).mp (List.mem_of_getElem? hv)
          -- the states wanted
          refine ⟨fun σ' H' => ∃ (Wn : Addr) (wt : List Nat), σ' = [some (.ref sa), some (.ref d), some (.int p), some (.ref M'), some (.ref W), some (.int (dss.length : Nat)), some (.ref L), some (.ref D), some (.ref me), z9, some (.int v), some (.ref Wn), z12, none, none, none, none, none, some (.ref a), none, none, none, none] ∧ More G H' ∧ H' Wn = some (.lst (wt.map nV)) ∧ ∀ s, s ∈ wt ↔ s < dss.length ∧ valL ws s = v, ?_, ?_⟩
          · refine ⟨_, rfl, _, rfl, by omega, by omega, fun E2 hE2 => lc_range (lo := 0) (n := dss.length) (fun k H' => H' E2 = some (.lst (((List.range k).filter fun s => decide (valL ws s = v)).map nV)) ∧ More G H') ⟨upd_same, new_more hE2⟩ ?_ ?_⟩
            · rintro k G2 hk ⟨kE, m⟩
              rw [Int.zero_add]
              refine ⟨rfl, _, rfl, _, rfl, W, _, ((k : Nat) : Int), _, rfl, rfl, SqT.of (m _ _ (mG _ _ pl.hW)), atI_nat (at_map (at_getD (by omega) 0)), _, rfl, rfl, _, rfl, ?_⟩
              rw [deI, List.range_succ, List.filter_append]
              refine ite2 (fun hz => ?_) (fun hz => ?_)
              · refine ⟨_, rfl, _, kE, ?_, ?_, More.at m hE2⟩
                · rw [List.length_map]
                  have := List.length_filter_le (fun s => decide (valL ws s = v)) (List.range k)
                  rw [List.length_range] at this
                  exact small1000 (by omega)
                · rw [upd_same, show [k].filter (fun s => decide (valL ws s = v)) = [k] by simp; exact of_decide_eq_true hz, List.map_append]
                  rfl
              · refine ⟨?_, m⟩
                rw [show [k].filter (fun s => decide (valL ws s = v)) = [] by simp; exact fun h => hz (decide_eq_true h), List.append_nil]
                exact kE
            · rintro G2 ⟨kE, m⟩
              refine ⟨E2, _, rfl, m, kE, fun s => ?_⟩
              rw [List.mem_filter, List.mem_range]
              exact and_congr_right fun _ => ⟨of_decide_eq_true, decide_eq_true⟩
          rintro σ2 G2 ⟨Wn, wt, rfl, mW, kWn, hwt⟩
          -- the best of each number of digits
          refine ⟨fun σ' H' => ∃ (F : Addr) (fo : List (Option Nat)), σ' = [some (.ref sa), some (.ref d), some (.int p), some (.ref M'), some (.ref W), some (.int (dss.length : Nat)), some (.ref L), some (.ref D), some (.ref me), z9, some (.int v), some (.ref Wn), some (.ref F), none, none, none, none, none, some (.ref a), none, none, none, none] ∧ More G H' ∧ H' F = some (.lst (fo.map oV)) ∧ fo.length = dss.length + 1 ∧ ∀ (j : Nat) (r : Option Nat), fo[j]? = some r → Bst p (stepT dss) (fun s => valL ws s = v) j r, ?_, ?_⟩
          · refine ⟨_, rfl, _, _, rfl, rfl, _, rfl, by omega, by omega, fun E3 hE3 => ?_⟩
            have hE30 : G E3 = none := mW.off hE3
            refine lc_range (lo := 0) (n := dss.length + 1) (fun k H' => ∃ fo : List (Option Nat), H' E3 = some (.lst (fo.map oV)) ∧ More G2 H' ∧ fo.length = k ∧ ∀ (j : Nat) (r : Option Nat), fo[j]? = some r → Bst p (stepT dss) (fun s => valL ws s = v) j r) ⟨[], upd_same, new_more hE3, rfl, fun j r h => (nomatch h)⟩ ?_ ?_
            · rintro k G3 hk ⟨fo, kE, m, lf, bst⟩
              rw [Int.zero_add]
              have m5 : More H5 G3 := fun b o e => m _ _ (mW _ _ (mG _ _ e))
              refine ⟨rfl, _, rfl, _, rfl, _, rfl, _, rfl, M', L, Wn, rs, dss.length, p, k, dss, ws, as, ls, wt, rfl, m5 _ _ pl.hM, (pl.more m5).rows, g, by omega, m5 _ _ kL, paired_imp (S := LisN G3) (fun b l (e : LisN H5 b l) => m5 _ _ e) pas, lls, lay, m _ _ kWn, by omega, by omega, fun G4 r m34 br => ?_⟩
              refine ⟨_, m34 _ _ kE, by rw [List.length_map]; exact small1000 (by omega), fo ++ [r], by rw [upd_same, List.map_append]; rfl, More.at (fun b o e => m34 _ _ (m _ _ e)) hE3, by rw [List.length_append, lf]; rfl, fun j r' hj => ?_⟩
              by_cases z : j < k
              · rw [List.getElem?_append_left (by omega)] at hj
                exact bst j r' hj
              · have lj := (List.getElem?_eq_some_iff.mp hj).1
                rw [List.length_append, lf] at lj
                have lj : j < k + 1 := lj
                obtain rfl : j = k := by omega
                rw [List.getElem?_append_right (by omega), lf, Nat.sub_self] at hj
                cases hj
                exact br.congr fun s hs => by
                  rw [hwt]
                  exact ⟨fun h => h.2, fun h => ⟨hs.below (good_cl g) dp, h⟩⟩
            · rintro G3 ⟨fo, kE, m, lf, bst⟩
              exact ⟨E3, fo, rfl, fun b o e => m _ _ (mW _ _ e), kE, lf, bst⟩
          rintro σ3 G3 ⟨F, fo, rfl, mF, kF, lfo, bst⟩
          obtain ⟨m0, t0, efo, minE⟩ := found_least (by omega) (good_cl g) dp (stR g sd) (by omega) bst hs0 es0
          have kD3 := mF _ _ kDG
          refine ⟨_, rfl, .inl ⟨rfl, _, SqL.of kD3⟩, _, rfl, _, rfl, F, rfl, ⟨_, SqL.of kF⟩, fun E4 hE4 => ?_⟩
          have nE4 : E4 ≠ D := (ne_of_none kD3 hE4).symm
          refine lc_list (K := K) (a := F) (xs := fo.map oV) (fun k H' => H' E4 = some (.lst (((fo.take k).filterMap id).map nV)) ∧ More G3 H') ⟨upd_same, new_more hE4⟩ (fun k H' _ ⟨_, m⟩ => SqL.of (m _ _ kF)) ?_ ?_
          · rintro k y G4 hy ⟨kE, m⟩
            obtain ⟨r, hr0, rfl⟩ := map_at hy
            refine ⟨rfl, _, rfl, rfl, _, rfl, ?_⟩
            rw [oV_some, take_snoc hr0, List.filterMap_append]
            cases r with
            | none => exact iteF ⟨by rw [show [(none : Option Nat)].filterMap id = [] from rfl, List.append_nil]; exact kE, m⟩
            | some x =>
              refine iteT ⟨_, rfl, _, kE, ?_, ?_, More.at m hE4⟩
              · rw [List.length_map]
                have := List.length_filterMap_le (id : Option Nat → Option Nat) (fo.take k)
                rw [List.length_take] at this
                exact small1000 (by omega)
              · rw [upd_same, List.map_append]
                rfl
          · rintro G4 ⟨kE, m⟩
            rw [List.length_map, List.take_length, efo] at kE
            refine ⟨E4, _, ((0 : Nat) : Int), _, rfl, rfl, SqL.of kE, atI_nat rfl, by show 2 ≤ sizeLine; decide, fun t ht => ?_⟩
            have mt4 := new_more (o := .tup [V.int v, V.int ((m0 : Nat) : Int)]) ht
            have kD4 := m _ _ kD3
            have mG4 : More G (upd G4 t (.tup [V.int v, V.int ((m0 : Nat) : Int)])) := fun b o e => mt4 _ _ (m _ _ (mF _ _ e))
            have lts : ts.length = prs.length := Paired.length pts
            have lpr : prs.length = (ns.take i).length := by rw [← ept, List.length_map]
            refine ⟨D, _, _, rfl, rfl, mt4 _ _ kD4, by rw [List.length_map, lts, lpr, List.length_take]; exact small1000 (by omega), ?_⟩
            refine ⟨_, _, _, ts ++ [t], prs ++ [(v, m0)], rfl, ?_, (upd_ne nbs).trans (mG4 _ _ kbG), by rw [upd_same, List.map_append]; rfl, ?_, by rw [List.map_append, ept, take_snoc hv]; rfl, fun pr hpr => ?_⟩
            · exact More.at (fun b o e => mG4 _ _ (mG _ _ e)) nD
            · refine paired_snoc (x := t) (y := (v, m0)) ⟨?_, (ne_of_none kD4 ht).symm⟩ (paired_imp (fun t' pr (e : PrH G t' pr ∧ t' ≠ D) => ⟨?_, e.2⟩) pts)
              · exact (upd_ne (ne_of_none kD4 ht).symm).trans upd_same
              · exact (upd_ne e.2).trans (mG4 _ _ e.1)
            · rcases List.mem_append.mp hpr with h | h
              · exact least pr h
              · have : pr = (v, m0) := by simpa using h
                subst this
                exact minE
        · rintro σ' G ⟨z10, z11, z12, ts, prs, rfl, mG, kbG, kDG, pts, ept, least⟩
          rw [List.length_map, List.take_length] at ept
          have cm := comes_of ept asc least fun s hs => (nsm _).mpr ⟨s, hs, rfl⟩
          exact ⟨_, _, _, _, ts, prs, rfl, mG, kDG, paired_imp (S := PrH G) (fun t pr (e : PrH G t pr ∧ t ≠ D) => e.1) pts, cm, by
            have := congrArg List.length ept
            rw [List.length_map] at this
            omega⟩
    clear kme m57 kD nme metF fl1
    rintro σ9 H9 ⟨z9, z10, z11, z12, ts, prs, rfl, m59, kD, prp, cms, lpr⟩
    have pl9 := pl.more m59
    have tab9 := tab.ext m59
    have pen9 := pen_more pen m59
    have ma9 := ma.more m59
    clear pl tab pen ma kL pas m59 nD
    have vsm : ∀ v, v ∈ prs.map (·.1) ↔ v ∈ metV p dss ws := fun v => by
      rw [metV_iff g]
      constructor
      · intro h
        obtain ⟨pr, hp, rfl⟩ := List.mem_map.mp h
        obtain ⟨w, hw, e, _⟩ := ((cms.mem pr.1 pr.2).mp hp).1
        exact ⟨_, ⟨w, hw, rfl⟩, e⟩
      · rintro ⟨s, ⟨w, hw, rfl⟩, e⟩
        obtain ⟨m, hm, least⟩ := least_ex (Tell p (stepT dss) (valL ws) v) (numW p w) ⟨w, hw, e, rfl⟩
        exact List.mem_map.mpr ⟨(v, m), (cms.mem v m).mpr ⟨hm, least⟩, rfl⟩
    -- what comes says the same
    refine ⟨fun σ' H' => σ' = [some (.ref sa), some (.ref d), some (.int p), some (.ref M'), some (.ref W), some (.int (dss.length : Nat)), some (.ref L), some (.ref D), some (.ref me), z9, z10, z11, z12, none, none, none, none, none, some (.ref a), none, none, none, none] ∧ More H9 H', ?_, ?_⟩
    · refine ⟨_, rfl, a, p, dss, ws, rfl, ma9, g, sd, fun H10 t cts cprs m10 kt cp cc => ?_⟩
      obtain rfl : cprs = prs := comes_one cc cms
      refine ⟨_, rfl, D, ts.map V.ref, rfl, .inl ⟨SqL.of (m10 _ _ kD), fun t1 ht1 => ?_⟩⟩
      have m11 := new_more (o := .tup (ts.map V.ref)) ht1
      refine ⟨_, _, dp_R (l := cprs.map fun pr => [pr.1, ((pr.2 : Nat) : Int)]) (SqT.of (m11 _ _ kt)) (paired_fg (fun x y r => ⟨x, rfl, sqT_more m11 r⟩) cp), dp_R (l := cprs.map fun pr => [pr.1, ((pr.2 : Nat) : Int)]) (SqT.of upd_same) (paired_fg (fun x y r => ⟨x, rfl, SqT.of (m11 _ _ (m10 _ _ r))⟩) prp), shaped_R _, shaped_R _, _, rfl, ?_⟩
      rw [eqv_R, decide_eq_true rfl]
      exact iteF ⟨rfl, fun b o e => m11 _ _ (m10 _ _ e)⟩
    rintro σ10 H10 ⟨rfl, m910⟩
    have kD10 := m910 _ _ kD
    have prp10 := paired_imp (S := PrH H10) (fun t pr (e : PrH H9 t pr) => m910 _ _ e) prp
    have pl10 := pl9.more m910
    have tab10 := tab9.ext m910
    have pen10 := pen_more pen9 m910
    have ma10 := ma9.more m910
    clear pl9 tab9 pen9 ma9 prp kD m910
    -- the values
    refine ⟨fun σ' H' => ∃ Vl, σ' = [some (.ref sa), some (.ref d), some (.int p), some (.ref M'), some (.ref W), some (.int (dss.length : Nat)), some (.ref L), some (.ref D), some (.ref me), z9, z10, z11, z12, some (.ref Vl), none, none, none, none, some (.ref a), none, none, none, none] ∧ More H10 H' ∧ H' Vl = some (.lst ((prs.map (·.1)).map V.int)), ?_, ?_⟩
    · refine ⟨_, rfl, D, rfl, ⟨_, SqL.of kD10⟩, fun E5 hE5 => lc_list (K := K) (a := D) (xs := ts.map V.ref) (fun k H' => H' E5 = some (.lst (((prs.take k).map (·.1)).map V.int)) ∧ More H10 H') ⟨upd_same, new_more hE5⟩ (fun k H' _ ⟨_, m⟩ => SqL.of (m _ _ kD10)) ?_ ?_⟩
      · rintro k y G hy ⟨kE, m⟩
        obtain ⟨t, ht, rfl⟩ := map_at hy
        obtain ⟨pr, epr, kt⟩ := paired_at prp10 ht
        have kt : H10 t = some (.tup [V.int pr.1, V.int ((pr.2 : Nat) : Int)]) := kt
        refine ⟨t, _, rfl, SqT.of (m _ _ kt), rfl, _, _, rfl, _, _, rfl, rfl, rfl, _, rfl, _, kE, ?_, ?_, More.at m hE5⟩
        · rw [List.length_map, List.length_map, List.length_take]
          exact small1000 (by omega)
        · rw [upd_same, take_snoc epr, List.map_append, List.map_append]
          rfl
      · rintro G ⟨kE, m⟩
        rw [List.length_map, Paired.length prp10, List.take_length] at kE
        exact ⟨E5, rfl, m, kE⟩
    rintro σ11 H11 ⟨Vl, rfl, m11, kV⟩
    have pl11 := pl10.more m11
    have tab11 := tab10.ext m11
    have pen11 := pen_more pen10 m11
    have ma11 := ma10.more m11
    clear pl10 tab10 pen10 ma10 prp10 kD10 m11
    have vs0 : 0 < (prs.map (·.1)).length := by
      have : valL ws 0 ∈ prs.map (·.1) := (vsm _).mpr ((metV_iff g).mpr ⟨0, .zero, rfl⟩)
      exact List.length_pos_of_mem this
    have vsl : (prs.map (·.1)).length ≤ 90 := by rw [List.length_map]; exact lpr
    have asc : (prs.map (·.1)).Pairwise (· < ·) := by rw [List.pairwise_map]; exact cms.asc
    have v77 : ∀ v ∈ prs.map (·.1), v ≠ 77 := fun v hv => by
      obtain ⟨s, hs, rfl⟩ := (metV_iff g).mp ((vsm v).mp hv)
      exact n77' s hs
    generalize prs.map (·.1) = vs at vsm vs0 vsl asc v77 kV
    clear cms lpr
    obtain ⟨kvd, hd11⟩ := pen11.dk
    -- the numbers
    refine ⟨fun σ' H' => ∃ (nd : Addr) (kvs : List (Key × V)) (n' : Int), σ' = [some (.ref sa), some (.ref d), some (.int p), some (.ref M'), some (.ref W), some (.int (dss.length : Nat)), some (.ref L), some (.ref D), some (.ref me), z9, z10, z11, z12, some (.ref Vl), some (.ref nd), none, none, none, some (.ref a), none, none, none, none] ∧ Off d H11 H' ∧ Pen H' d cc n' ∧ 0 ≤ n' ∧ n' ≤ 1002 ∧ H11 nd = none ∧ H' nd = some (.dK kvs) ∧ kvs.length ≤ 1, ?_, ?_⟩
    · refine fun nd hnd => ?_
      have m12 := new_more (o := .dK []) hnd
      have k12 : (upd H11 nd (.dK [])) nd = some (.dK []) := upd_same
      have pen12 := pen_more pen11 m12
      have nnd : nd ≠ d := (ne_of_none hd11 hnd).symm
      have nnc : nd ≠ cc := by
        obtain ⟨o, h⟩ := pen11.atc
        exact (ne_of_none h hnd).symm
      generalize upd H11 nd (.dK []) = H12 at m12 k12 pen12 ⊢
      refine ⟨_, rfl, _, _, rfl, rfl, ⟨by decide, by decide, by decide⟩, _, rfl, by show 3 ≤ sizeLine; decide, fun Lp hLp => ?_⟩
      refine ⟨d, cc, Lp, n, _, rfl, pen12.upd hLp, upd_same, by show 0 < 3; decide, by show 3 ≤ 1000; decide, by omega, by omega, fun x H13 hx dr => ?_⟩
      obtain ⟨z, rfl⟩ : ∃ z, x = .int z := by
        rcases List.mem_cons.mp hx with rfl | hx
        · exact ⟨_, rfl⟩
        rcases List.mem_cons.mp hx with rfl | hx
        · exact ⟨_, rfl⟩
        rcases List.mem_cons.mp hx with rfl | hx
        · exact ⟨_, rfl⟩
        · exact (List.not_mem_nil hx).elim
      have k13 : H13 nd = some (.dK []) := (dr.off nd nnd).trans (new_more hLp _ _ k12)
      refine ⟨k13, [(Sum.inl z, V.int 4)], rfl, by show 1 ≤ 15; decide, nd, _, n + 1, rfl, ?_, dr.pen.updA nnd nnc, by omega, by omega, hnd, upd_same, Nat.le_refl _⟩
      exact Off.at (((Off.of m12).trans (.of (new_more hLp))).trans (.dr dr)) hnd
    rintro σ12 H12 ⟨nd, kvs0, n3, rfl, of12, pen12, n30, n31, hnd, knd, lkv⟩
    have nnd : nd ≠ d := (ne_of_none hd11 hnd).symm
    have nnc : nd ≠ cc := by
      obtain ⟨o, h⟩ := pen11.atc
      exact (ne_of_none h hnd).symm
    refine ⟨fun σ' H' => ∃ (z10 : Option V) (kvs : List (Key × V)) (n' : Int), σ' = [some (.ref sa), some (.ref d), some (.int p), some (.ref M'), some (.ref W), some (.int (dss.length : Nat)), some (.ref L), some (.ref D), some (.ref me), z9, z10, z11, z12, some (.ref Vl), some (.ref nd), none, none, none, some (.ref a), none, none, none, none] ∧ Off d H11 H' ∧ Pen H' d cc n' ∧ 0 ≤ n' ∧ n' ≤ 3000 ∧ H' nd = some (.dK kvs) ∧ ∀ v ∈ vs, ∃ z, valV kvs (Sum.inl v) = some (.int z), ?_, ?_⟩
    · refine ⟨_, rfl, _, rfl, d, cc, Vl, n3, vs.map V.int, rfl, pen12, offL' hd11 of12 kV, by rw [List.length_map]; omega, by omega, by omega, fun l ys n4 H13 hl kl pm pen13 a1 a2 of13 => ?_⟩
      have lnd : l ≠ nd := (ne_of_none knd hl).symm
      have ld : l ≠ d := by
        obtain ⟨kv', h⟩ := pen12.dk
        exact (ne_of_none h hl).symm
      have lly : ys.length = vs.length := by rw [pm.length_eq, List.length_map]
      refine ⟨l, rfl, ⟨_, SqL.of kl⟩, for_list (K := K) (a := l) (xs := ys) (fun i σ' H' => ∃ (z10 : Option V) (kvs : List (Key × V)) (n' : Int), σ' = [some (.ref sa), some (.ref d), some (.int p), some (.ref M'), some (.ref W), some (.int (dss.length : Nat)), some (.ref L), some (.ref D), some (.ref me), z9, z10, z11, z12, some (.ref Vl), some (.ref nd), none, none, none, some (.ref a), none, none, none, none] ∧ Off d H11 H' ∧ Pen H' d cc n' ∧ n4 ≤ n' ∧ n' ≤ n4 + i ∧ H' l = some (.lst ys) ∧ H' nd = some (.dK kvs) ∧ kvs.length ≤ 1 + i ∧ ∀ v, V.int v ∈ ys.take i → ∃ z, valV kvs (Sum.inl v) = some (.int z))
        ⟨_, kvs0, n4, rfl, of12.trans of13, pen13, Int.le_refl _, by omega, kl, of13 _ _ knd nnd, lkv, fun v h => (nomatch h)⟩ (fun i σ' H' _ ⟨_, _, _, _, _, _, _, _, h, _⟩ => SqL.of h) ?_ ?_⟩
      · rintro i y σ' G hy ⟨z10, kvs, n', rfl, ofG, penG, b1, b2, klG, kG, lk, has⟩
        obtain ⟨v, _, rfl⟩ := List.mem_map.mp (pm.mem_iff.mp (List.mem_of_getElem? hy))
        have hi := (List.getElem?_eq_some_iff.mp hy).1
        refine ⟨_, rfl, _, rfl, _, rfl, by show 4 ≤ sizeLine; decide, fun Lp hLp => ?_⟩
        refine ⟨d, cc, Lp, n', _, rfl, penG.upd hLp, upd_same, by show 0 < 4; decide, by show 4 ≤ 1000; decide, by omega, by omega, fun x G2 hx dr => ?_⟩
        obtain ⟨z, rfl⟩ : ∃ z, x = .int z := by
          rcases List.mem_cons.mp hx with rfl | hx
          · exact ⟨_, rfl⟩
          rcases List.mem_cons.mp hx with rfl | hx
          · exact ⟨_, rfl⟩
          rcases List.mem_cons.mp hx with rfl | hx
          · exact ⟨_, rfl⟩
          rcases List.mem_cons.mp hx with rfl | hx
          · exact ⟨_, rfl⟩
          · exact (List.not_mem_nil hx).elim
        have ofG2 : Off d G G2 := (Off.of (new_more hLp)).trans (.dr dr)
        have k2 := ofG2 _ _ kG nnd
        refine ⟨_, rfl, _, rfl, nd, _, rfl, DPut.k (k := Sum.inl v) k2 (small1000 (by omega)), ?_⟩
        refine ⟨_, _, n' + 1, rfl, Off.at (ofG.trans ofG2) hnd, dr.pen.updA nnd nnc, by omega, by omega, (upd_ne lnd).trans (ofG2 _ _ klG ld), upd_same, by have := putK_le kvs (Sum.inl v) (V.int z); omega, fun u hu => ?_⟩
        rw [valV_put]
        by_cases e : (Sum.inl u : Key) = Sum.inl v
        · rw [if_pos e]
          exact ⟨z, rfl⟩
        · rw [if_neg e]
          rw [take_snoc hy] at hu
          rcases List.mem_append.mp hu with h | h
          · exact has u h
          · have : V.int u = V.int v := by simpa using h
            exact absurd (congrArg Sum.inl (V.int.inj this)) e
      · rintro σ' G ⟨z10, kvs, n', rfl, ofG, penG, b1, b2, klG, kG, lk, has⟩
        rw [List.take_length] at has
        exact ⟨_, kvs, n', rfl, ofG, penG, by omega, by omega, kG, fun v hv => has v (pm.mem_iff.mpr (List.mem_map.mpr ⟨v, hv, rfl⟩))⟩
    clear pen12 of12 knd lkv n30 n31 n1 n2
    rintro σ13 H13 ⟨z10', kvs, n4, rfl, of13, pen13, n40, n41, knd, has⟩
    have pl13 := plt_off pl11 hd11 of13
    have tab13 := tabsN_off tab11 of13 hd11
    have ma13 := mat_off ma11 hd11 of13
    have kV13 := offL' hd11 of13 kV
    clear pl11 tab11 ma11 kV of13 hd11 pen11
    -- the least machine by the law
    refine ⟨fun σ' H' => ∃ (t tM tW : Addr) (tr : List Addr) (R : List (List Nat)) (U : List Int), σ' = [some (.ref sa), some (.ref d), some (.int p), some (.ref M'), some (.ref W), some (.int (dss.length : Nat)), some (.ref L), some (.ref D), some (.ref me), z9, z10', z11, z12, some (.ref Vl), some (.ref nd), some (.ref t), none, none, some (.ref a), none, none, none, none] ∧ More H13 H' ∧ H' t = some (.tup [.ref tM, .ref tW]) ∧ H' tM = some (.tup (tr.map V.ref)) ∧ Paired (TupN H') tr R ∧ H' tW = some (.tup (U.map V.int)) ∧ LeastOf dss.length p (stepT dss) (valL ws) R U, ?_, ?_⟩
    · exact ⟨_, rfl, _, rfl, M', W, rs, p, dss, ws, rfl, pl13, fun H' t tM tW tr R U m k1 k2 k3 k4 k5 => ⟨t, tM, tW, tr, R, U, rfl, m, k1, k2, k3, k4, k5⟩⟩
    rintro σ14 H14 ⟨t, tM, tW, tr, R, U, rfl, m14, kt, ktM, ktr, ktW, LO⟩
    have tab14 := tab13.ext m14
    have ma14 := ma13.more m14
    have knd14 := m14 _ _ knd
    have kV14 := m14 _ _ kV13
    have pen14 := pen_more pen13 m14
    clear pl13 tab13 ma13 knd kV13 pen13 m14
    have hnum : ∀ v ∈ vs, valV kvs (Sum.inl v) = some (.int (numO kvs v)) := fun v hv => numO_at (has v hv)
    generalize numO kvs = nf at hnum
    have hU : ∀ x ∈ U, x ∈ vs := fun x hx => (vsm x).mpr ((metV_iff g).mpr (LO.rch x hx))
    have fi := LO.fine
    -- mapped is the least machine of the mapped values
    refine ⟨fun σ' H' => σ' = [some (.ref sa), some (.ref d), some (.int p), some (.ref M'), some (.ref W), some (.int (dss.length : Nat)), some (.ref L), some (.ref D), some (.ref me), z9, z10', z11, z12, some (.ref Vl), some (.ref nd), some (.ref t), none, none, some (.ref a), none, none, none, none] ∧ LamX.ExtN H14 H' ∧ TabsN (TT PL P0 P1) H', ?_, ?_⟩
    · refine ⟨_, rfl, _, rfl, a, nd, p, dss, ws, kvs, rfl, ma14, g, by omega, sd, tab14, knd14, .inl ⟨nf, fun v hv => hnum v ((vsm v).mpr hv), fun H15 b R2 U2 e15 tab15 LF ma15 => ?_⟩⟩
      have kt15 := e15 _ _ kt (fun _ z => nomatch z)
      have ktM15 := e15 _ _ ktM (fun _ z => nomatch z)
      have ktW15 := e15 _ _ ktW (fun _ z => nomatch z)
      have ktr15 := paired_imp (S := TupN H15) (fun b r (e : TupN H14 b r) => e15 _ _ e (fun _ z => nomatch z)) ktr
      have knd15 := e15 _ _ knd14 (fun _ z => nomatch z)
      refine ⟨_, rfl, _, rfl, t, _, ((0 : Nat) : Int), _, rfl, rfl, SqT.of kt15, atI_nat rfl, _, rfl, t, _, ((1 : Nat) : Int), _, rfl, rfl, SqT.of kt15, atI_nat rfl, tW, _, rfl, .inr (SqT.of ktW15), fun J Z' wk hZ E6 hE6 => ?_⟩
      refine lc_name (n := 22) (D := E6) (H1 := H15) (xs := U.map V.int) (rs := (U.map nf).map V.int) wk hE6 (fun H' m => hZ H' (.of m)) (by rw [List.length_map, List.length_map, List.length_map]) (by rw [List.length_map, fi.len]; have := fi.few; omega) (fun _ => rfl) ?_ ?_
      · intro i y v G Qv hy hv m q
        obtain ⟨x, hx, rfl⟩ := map_at hy
        rw [List.map_map] at hv
        obtain ⟨x2, hx2, rfl⟩ := map_at hv
        rw [hx] at hx2
        cases hx2
        exact ⟨_, rfl, _, rfl, nd, _, rfl, dg (Sum.inl x) (m _ _ knd15) (hnum x (hU x (List.mem_of_getElem? hx))), q _ fun _ _ e => e⟩
      · intro H16 kE6 m16
        refine ⟨E6, _, rfl, .inl ⟨SqL.of kE6, fun t1 ht1 => ?_⟩⟩
        have m17 := new_more (o := .tup ((U.map nf).map V.int)) ht1
        have m57 : More H15 (upd H16 t1 (.tup ((U.map nf).map V.int))) := fun b o e => m17 _ _ (m16 _ _ e)
        have plT : PlT K (upd H16 t1 (.tup ((U.map nf).map V.int))) tM t1 (tr.map V.ref) p (toI R) (U.map nf) :=
          ⟨m57 _ _ ktM15, rows_tupI (paired_imp (S := TupN _) (fun b r (e : TupN H15 b r) => m57 _ _ e) ktr15), upd_same, fine_good ⟨fi.ne, fi.few, fi.rows, by rw [List.length_map, fi.len]⟩ pr (by omega), by rw [toI_len]; have := fi.few; omega⟩
        refine ⟨b, tM, t1, tr.map V.ref, p, toI R, U.map nf, R2, U2, rfl, ma15.more m57, plT, lf_across LF (across_mapped LO nf), fun H18 m18 => ⟨true, rfl, iteF ⟨rfl, ?_, ?_⟩⟩⟩
        · exact (e15.trans (.of m57)).trans (.of m18)
        · exact (tab15.ext m57).ext m18
    rintro σ15 H15 ⟨rfl, e15, tab15⟩
    have ma15 := mat_ext e15 ma14
    have knd15 := e15 _ _ knd14 (fun _ z => nomatch z)
    have kV15 := e15 _ _ kV14 (fun _ z => nomatch z)
    have pen15 : Pen H15 d cc n4 := by
      obtain ⟨o1, h1⟩ := pen14.dk
      obtain ⟨kd, cs, q1, q2, q3, h1, h2, h3⟩ := id pen14
      exact ⟨kd, cs, q1, q2, q3, e15 _ _ h1 (fun _ z => nomatch z), e15 _ _ h2 (fun _ z => nomatch z), h3⟩
    clear ma14 knd14 kV14 pen14 tab14 kt ktM ktr ktW LO fi hU e15
    obtain ⟨kvd, hd15⟩ := pen15.dk
    -- one value less
    refine ⟨fun σ' H' => ∃ gone : Nat, σ' = [some (.ref sa), some (.ref d), some (.int p), some (.ref M'), some (.ref W), some (.int (dss.length : Nat)), some (.ref L), some (.ref D), some (.ref me), z9, z10', z11, z12, some (.ref Vl), some (.ref nd), some (.ref t), some (.int gone), none, some (.ref a), none, none, none, none] ∧ gone < vs.length ∧ Off d H15 H', ?_, ?_⟩
    · refine ⟨_, rfl, _, rfl, Vl, _, rfl, .inl (SqL.of kV15), d, cc, n4, _, rfl, pen15, by rw [List.length_map]; omega, by rw [List.length_map]; omega, by omega, by omega, fun r H' r0 r1 dr => ?_⟩
      rw [List.length_map] at r1
      obtain ⟨gone, rfl⟩ : ∃ gone : Nat, r = gone := ⟨r.toNat, by omega⟩
      exact ⟨gone, rfl, by omega, .dr dr⟩
    rintro σ16 H16 ⟨gone, rfl, lg, of16⟩
    have tab16 := tabsN_off tab15 of16 hd15
    have ma16 := mat_off ma15 hd15 of16
    have knd16 := of16 _ _ knd15 nnd
    have kV16 := offL' hd15 of16 kV15
    clear tab15 ma15 knd15 kV15 pen15 hd15 of16
    have nd_vs : vs.Nodup := List.Pairwise.imp (fun {a b} h e => by omega) asc
    obtain ⟨us, hus⟩ : ∃ us, us = vs.take gone := ⟨_, rfl⟩
    have usv : ∀ v ∈ us, v ∈ vs := fun v hv => by rw [hus] at hv; exact List.mem_of_mem_take hv
    have lus : us.length ≤ 90 := by rw [hus, List.length_take]; omega
    have cutE : cutV (vs.map V.int) none (some ((gone : Nat) : Int)) = us.map V.int := by rw [cut_to (by rw [List.length_map]; omega), ← List.map_take, hus]
    refine ⟨fun σ' H' => ∃ q : Addr, σ' = [some (.ref sa), some (.ref d), some (.int p), some (.ref M'), some (.ref W), some (.int (dss.length : Nat)), some (.ref L), some (.ref D), some (.ref me), z9, z10', z11, z12, some (.ref Vl), some (.ref nd), some (.ref t), some (.int gone), some (.ref q), some (.ref a), none, none, none, none] ∧ More H16 H' ∧ H' q = some (.dK ((us.map fun v => ((Sum.inl v : Key), V.int (nf v))) ++ [(Sum.inl 77, V.int 1)])), ?_, ?_⟩
    · refine ⟨_, rfl, _, rfl, _, rfl, Vl, _, rfl, SqL.of kV16, fun c1 hc1 => ?_⟩
      rw [cutE]
      have m1 := new_more (o := .lst (us.map V.int)) hc1
      have kc1 : (upd H16 c1 (.lst (us.map V.int))) c1 = some (.lst (us.map V.int)) := upd_same
      generalize upd H16 c1 (.lst (us.map V.int)) = H17 at m1 kc1 ⊢
      refine ⟨c1, rfl, ⟨_, SqL.of kc1⟩, fun E7 hE7 => lc_list (K := K) (a := c1) (xs := us.map V.int) (fun k H' => ∃ bs : List Addr, H' E7 = some (.lst (bs.map V.ref)) ∧ Paired (fun b v => H' b = some (.tup [V.int v, V.int (nf v)]) ∧ b ≠ E7) bs (us.take k) ∧ More H17 H') ⟨[], upd_same, .nil, new_more hE7⟩ (fun k H' _ ⟨_, _, _, m⟩ => SqL.of (m _ _ kc1)) ?_ ?_⟩
      · rintro k y G hy ⟨bs, kE, pbs, m⟩
        obtain ⟨v, hv, rfl⟩ := map_at hy
        have kn := m _ _ (m1 _ _ knd16)
        refine ⟨rfl, _, rfl, _, rfl, _, rfl, nd, _, rfl, dg (Sum.inl v) kn (hnum v (usv v (List.mem_of_getElem? hv))), by show 2 ≤ sizeLine; decide, fun b hb => ?_⟩
        have mb := new_more (o := .tup [V.int v, V.int (nf v)]) hb
        have bE : b ≠ E7 := (ne_of_none kE hb).symm
        refine ⟨_, mb _ _ kE, ?_, bs ++ [b], by rw [upd_same, List.map_append]; rfl, ?_, More.at (fun b o e => mb _ _ (m _ _ e)) hE7⟩
        · rw [List.length_map, Paired.length pbs, List.length_take]
          exact small1000 (by omega)
        · rw [take_snoc hv]
          refine paired_snoc (x := b) (y := v) ⟨(upd_ne bE).trans upd_same, bE⟩ (paired_imp (fun b' v' (e : G b' = some (.tup [V.int v', V.int (nf v')]) ∧ b' ≠ E7) => ⟨(upd_ne e.2).trans (mb _ _ e.1), e.2⟩) pbs)
      · rintro G ⟨bs, kE, pbs, m⟩
        rw [List.length_map, List.take_length] at pbs
        refine ⟨by show 2 ≤ sizeLine; decide, fun b7 hb7 => ?_⟩
        have m2 := new_more (o := .tup [V.int 77, V.int 1]) hb7
        have kb7 : (upd G b7 (.tup [V.int 77, V.int 1])) b7 = some (.tup [V.int 77, V.int 1]) := upd_same
        generalize upd G b7 (.tup [V.int 77, V.int 1]) = G2 at m2 kb7 ⊢
        refine ⟨by show 1 ≤ sizeLine; decide, fun l1 hl1 => ?_⟩
        have m3 := new_more (o := .lst [V.ref b7]) hl1
        have kl1 : (upd G2 l1 (.lst [V.ref b7])) l1 = some (.lst [V.ref b7]) := upd_same
        have kb7 := m3 _ _ kb7
        have mG3 : More G (upd G2 l1 (.lst [V.ref b7])) := fun b o e => m3 _ _ (m2 _ _ e)
        generalize upd G2 l1 (.lst [V.ref b7]) = G3 at kl1 kb7 mG3 ⊢
        clear m2 m3
        refine ⟨E7, l1, _, _, rfl, rfl, mG3 _ _ kE, kl1, by rw [List.length_map, Paired.length pbs]; show us.length + 1 ≤ sizeLine; rw [sizeLine_eq]; omega, fun r hr => ?_⟩
        have m4 := new_more (o := .lst (bs.map V.ref ++ [V.ref b7])) hr
        have kr : (upd G3 r (.lst (bs.map V.ref ++ [V.ref b7]))) r = some (.lst ((bs ++ [b7]).map V.ref)) := by rw [upd_same, List.map_append]; rfl
        refine ⟨r, bs ++ [b7], (us.map fun v => ((Sum.inl v : Key), V.int (nf v))) ++ [(Sum.inl 77, V.int 1)], rfl, SqL.of kr, ?_, fun q hq => ?_⟩
        · refine paired_snoc (x := b7) (y := ((Sum.inl 77 : Key), V.int 1)) (SqT.of (m4 _ _ kb7)) ?_
          have : Paired (fun (p : Addr) (kv : Key × V) => SqT K (upd G3 r (.lst (bs.map V.ref ++ [V.ref b7]))) p [L2.kV kv.1, kv.2]) (bs.map id) (us.map fun v => ((Sum.inl v : Key), V.int (nf v))) :=
            paired_fg (R := fun b v => G b = some (.tup [V.int v, V.int (nf v)]) ∧ b ≠ E7) (S := fun (p : Addr) (kv : Key × V) => SqT K (upd G3 r (.lst (bs.map V.ref ++ [V.ref b7]))) p [L2.kV kv.1, kv.2]) (f := id) (g := fun v => ((Sum.inl v : Key), V.int (nf v)))
              (fun b v e => show SqT K (upd G3 r (.lst (bs.map V.ref ++ [V.ref b7]))) b [V.int v, V.int (nf v)] from SqT.of (m4 b (.tup [V.int v, V.int (nf v)]) (mG3 b _ e.1))) pbs
          rw [List.map_id] at this
          exact this
        · have m5 := new_more (o := .dK (mergeK [] ((us.map fun v => ((Sum.inl v : Key), V.int (nf v))) ++ [(Sum.inl 77, V.int 1)]))) hq
          refine ⟨q, rfl, fun b o e => m5 _ _ (m4 _ _ (mG3 _ _ (m _ _ (m1 _ _ e)))), ?_⟩
          rw [upd_same, merge_new _ [] ?_ (fun _ _ => rfl), List.nil_append]
          rw [List.map_append, List.map_map]
          refine List.nodup_append.mpr ⟨?_, by simp, fun x hx y hy => ?_⟩
          · have : (us.map fun v => (Sum.inl v : Key)).Nodup := by
              unfold List.Nodup
              rw [List.pairwise_map]
              refine List.Pairwise.imp (fun {a b} h e => h (Sum.inl.inj e)) (?_ : us.Pairwise (· ≠ ·))
              rw [hus]
              exact List.Pairwise.sublist (List.take_sublist _ _) nd_vs
            exact this
          · obtain ⟨v, hv, rfl⟩ := List.mem_map.mp hx
            have : y = Sum.inl 77 := by simpa using hy
            rw [this]
            exact fun e => v77 v (usv v hv) (Sum.inl.inj e)
    rintro σ17 H17 ⟨q, rfl, m17, kq⟩
    have tab17 := tab16.ext m17
    have ma17 := ma16.more m17
    have kV17 := m17 _ _ kV16
    clear tab16 ma16 kV16 knd16 m17
    have vg : vs[gone]? = some vs[gone] := List.getElem?_eq_getElem lg
    have vgm : vs[gone] ∈ metV p dss ws := (vsm _).mp (List.getElem_mem lg)
    have vS : ∀ (l : List Int) (u : Int), u ∉ l → u ≠ 77 → valV ((l.map fun v => ((Sum.inl v : Key), V.int (nf v))) ++ [(Sum.inl 77, V.int 1)]) (Sum.inl u) = none := fun l u hu h77 => by
      induction l with
      | nil =>
        show valV ((Sum.inl 77, V.int 1) :: []) (Sum.inl u) = none
        rw [L2.valV_neg fun e => h77 (Sum.inl.inj e).symm]
        rfl
      | cons x l ih =>
        show valV ((Sum.inl x, V.int (nf x)) :: ((l.map fun v => ((Sum.inl v : Key), V.int (nf v))) ++ [(Sum.inl 77, V.int 1)])) (Sum.inl u) = none
        rw [L2.valV_neg fun e => hu (by rw [Sum.inl.inj e]; exact .head _)]
        exact ih fun h => hu (.tail _ h)
    have vT : ∀ (l : List Int) (u : Int), u ∈ l → valV ((l.map fun v => ((Sum.inl v : Key), V.int (nf v))) ++ [(Sum.inl 77, V.int 1)]) (Sum.inl u) ≠ none := fun l u hu => by
      induction l with
      | nil => exact absurd hu (List.not_mem_nil)
      | cons x l ih =>
        show valV ((Sum.inl x, V.int (nf x)) :: ((l.map fun v => ((Sum.inl v : Key), V.int (nf v))) ++ [(Sum.inl 77, V.int 1)])) (Sum.inl u) ≠ none
        by_cases e : (Sum.inl x : Key) = Sum.inl u
        · rw [L2.valV_pos e]
          exact fun z => nomatch z
        · rw [L2.valV_neg e]
          exact ih ((List.mem_cons.mp hu).resolve_left fun h => e (by rw [h]))
    have gnu : vs[gone] ∉ us := fun h => by
      rw [hus] at h
      obtain ⟨i, hi⟩ := List.getElem?_of_mem h
      have li := (List.getElem?_eq_some_iff.mp hi).1
      rw [List.length_take] at li
      rw [List.getElem?_take_of_lt (by omega)] at hi
      have a1 := List.pairwise_iff_getElem.mp asc i gone (by omega) lg (by omega)
      have a2 := (List.getElem?_eq_some_iff.mp hi).2
      omega
    have less : ∀ u ∈ metV p dss ws, u < vs[gone] → u ∈ us := fun u hu lt => by
      obtain ⟨i, hi⟩ := List.getElem?_of_mem ((vsm u).mpr hu)
      have li := (List.getElem?_eq_some_iff.mp hi).1
      have a2 := (List.getElem?_eq_some_iff.mp hi).2
      have : i < gone := by
        by_cases z : i < gone
        · exact z
        · exfalso
          by_cases z2 : i = gone
          · subst z2
            omega
          · have a1 := List.pairwise_iff_getElem.mp asc gone i lg li (by omega)
            omega
      rw [hus]
      refine List.mem_of_getElem? (i := i) ?_
      rw [List.getElem?_take_of_lt this]
      exact hi
    generalize hlst : ((us.map fun v => ((Sum.inl v : Key), V.int (nf v))) ++ [(Sum.inl 77, V.int 1)]) = kv2 at kq
    have g77 := v77 _ (List.getElem_mem lg)
    -- it is refused
    refine ⟨fun σ' H' => σ' = [some (.ref sa), some (.ref d), some (.int p), some (.ref M'), some (.ref W), some (.int (dss.length : Nat)), some (.ref L), some (.ref D), some (.ref me), z9, z10', z11, z12, some (.ref Vl), some (.ref nd), some (.ref t), some (.int gone), some (.ref q), some (.ref a), none, none, none, none] ∧ H' q = some (.dK kv2) ∧ H' Vl = some (.lst (vs.map V.int)), ?_, ?_⟩
    · refine ⟨tabs_to tab17, fun H18 e18 tabs18 => ?_⟩
      have kq18 := e18 _ _ kq (fun _ z => nomatch z)
      have kV18 := e18 _ _ kV17 (fun _ z => nomatch z)
      refine ⟨_, rfl, _, rfl, a, q, p, dss, ws, kv2, rfl, mat_ext e18 ma17, g, by omega, sd, tabs_from tabs18, kq18, .inr ⟨vs[gone], vgm, by rw [← hlst]; exact vS us _ gnu g77, fun u hu lt => by rw [← hlst]; exact vT us u (less u hu lt), fun H19 e19 tab19 dd hdd => ⟨rfl, dd, _, _, rfl, upd_same, fun l hl => ?_⟩⟩⟩
      have kq19 := e19 _ _ kq18 (fun _ z => nomatch z)
      have kV19 := e19 _ _ kV18 (fun _ z => nomatch z)
      have m20 : More H19 (upd (upd H19 dd (.xd [("number", V.int vs[gone]), ("what", .str "value")])) l (.lst [.str "number", .str "value", V.int vs[gone]])) := fun b o e => new_more hl _ _ (new_more hdd _ _ e)
      have kl : (upd (upd H19 dd (.xd [("number", V.int vs[gone]), ("what", .str "value")])) l (.lst [.str "number", .str "value", V.int vs[gone]])) l = some (.lst [.str "number", .str "value", V.int vs[gone]]) := upd_same
      generalize upd (upd H19 dd (.xd [("number", V.int vs[gone]), ("what", .str "value")])) l (.lst [.str "number", .str "value", V.int vs[gone]]) = H20 at m20 kl ⊢
      refine ⟨_, rfl, _, rfl, Vl, _, ((gone : Nat) : Int), _, rfl, rfl, SqL.of (m20 _ _ kV19), atI_nat (at_map vg), by show 3 ≤ sizeLine; decide, fun l2 hl2 => ?_⟩
      have m21 := new_more (o := .lst [V.str "number", V.str "value", V.int vs[gone]]) hl2
      have kl2 : (upd H20 l2 (.lst [V.str "number", V.str "value", V.int vs[gone]])) l2 = some (.lst [V.str "number", V.str "value", V.int vs[gone]]) := upd_same
      generalize upd H20 l2 (.lst [V.str "number", V.str "value", V.int vs[gone]]) = H21 at m21 kl2 ⊢
      refine ⟨_, _, .lst (SqL.of (m21 _ _ kl)) (.cons (.str _) (.cons (.str _) (.cons (.int _) .nil))), .lst (SqL.of kl2) (.cons (.str _) (.cons (.str _) (.cons (.int _) .nil))), shaped_err _, shaped_err _, _, rfl, ?_⟩
      rw [eqv_err]
      exact iteF ⟨rfl, m21 _ _ (m20 _ _ kq19), m21 _ _ (m20 _ _ kV19)⟩
    rintro σ18 H18 ⟨rfl, kq18, kV18⟩
    have keys : kv2.map (fun kv => L2.kV kv.1) = (us ++ [77]).map V.int := by
      rw [← hlst, List.map_append, List.map_map, List.map_append]
      rfl
    refine ⟨_, rfl, q, kv2, rfl, kq18, fun l hl => ?_⟩
    rw [keys]
    have m1 := new_more (o := .lst ((us ++ [77]).map V.int)) hl
    refine ⟨l, us ++ [77], rfl, SqL.of upd_same, fun ns1 p1 pm1 srt1 hp1 => ?_⟩
    have kV19 := new_more (o := .lst (ns1.map V.int)) hp1 _ _ (m1 _ _ kV18)
    have kp1 : (upd (upd H18 l (.lst ((us ++ [77]).map V.int))) p1 (.lst (ns1.map V.int))) p1 = some (.lst (ns1.map V.int)) := upd_same
    generalize upd (upd H18 l (.lst ((us ++ [77]).map V.int))) p1 (.lst (ns1.map V.int)) = H19 at kV19 kp1 ⊢
    refine ⟨_, rfl, _, rfl, _, rfl, Vl, _, rfl, SqL.of kV19, fun c1 hc1 => ?_⟩
    rw [cutE]
    have m2 := new_more (o := .lst (us.map V.int)) hc1
    have kc1 : (upd H19 c1 (.lst (us.map V.int))) c1 = some (.lst (us.map V.int)) := upd_same
    have kp1 := m2 _ _ kp1
    generalize upd H19 c1 (.lst (us.map V.int)) = H20 at kc1 kp1 ⊢
    refine ⟨by show 1 ≤ sizeLine; decide, fun l1 hl1 => ?_⟩
    have m3 := new_more (o := .lst [V.int 77]) hl1
    have kl1 : (upd H20 l1 (.lst [V.int 77])) l1 = some (.lst [V.int 77]) := upd_same
    have kc1 := m3 _ _ kc1
    have kp1 := m3 _ _ kp1
    generalize upd H20 l1 (.lst [V.int 77]) = H21 at kc1 kp1 kl1 ⊢
    refine ⟨c1, l1, _, _, rfl, rfl, kc1, kl1, by rw [List.length_map, sizeLine_eq]; show us.length + 1 ≤ _; omega, fun r hr => ?_⟩
    have kr : (upd H21 r (.lst (us.map V.int ++ [V.int 77]))) r = some (.lst ((us ++ [77]).map V.int)) := by rw [upd_same, List.map_append]; rfl
    have kp1 := new_more (o := .lst (us.map V.int ++ [V.int 77])) hr _ _ kp1
    generalize upd H21 r (.lst (us.map V.int ++ [V.int 77])) = H22 at kr kp1 ⊢
    refine ⟨r, us ++ [77], rfl, SqL.of kr, fun ns2 p2 pm2 srt2 hp2 => ?_⟩
    have kp1 := new_more (o := .lst (ns2.map V.int)) hp2 _ _ kp1
    refine ⟨_, _, dp_L (SqL.of kp1), dp_L (SqL.of upd_same), shaped_L _, shaped_L _, ?_⟩
    rw [eqv_L, decide_eq_true (sorted_one pm1 srt1 pm2 srt2)]
    exact fin _
end
end K71

namespace K71
open PySem L2 Gd B5
/-! ### what the top has written -/
structure ErIn (K : PySem.W.Frag) (x : Str) (C : Addr) : Prop where
  aC : PySem.W.nsIn K mainGlobals x = some (some (.ref C))
  kC : PySem.W.keepIn K (.ref C) = true
  ga : PySem.W.findIn K (.ref C) "__getattribute__" = some (some (.builtin "BaseException.__getattribute__"))
  gg : PySem.W.findIn K (.ref C) "__getattr__" = some none
  be : PySem.W.subIn K (.ref C) (.type "BaseException") = some true
  hd : PySem.W.hasDictIn K C = true
structure IniIn (K : PySem.W.Frag) (q : Str) (st : Stmt) (C fI : Addr) (oc kV dc pm cd ct : Value) (od an : Option Addr) (sl : Array (Option Value)) (nm q' : Str) (N : Addr) (bs : List Value) (ce : Addr) (sn : List Str) (sub : List Value) (ab : Bool) (col : Option Bool) (dd : Option Addr) (m0 m1 m2 m3 m5 : Option Value) : Prop where
  xL : K.lookup C = some (excClassObj nm q' C N bs [.ref ce, .type "ValueError", .type "Exception", .type "BaseException", .type "object"] true sn sub ab col dd m0 m1 m2 m3 m5 "ValueError.__new__")
  sa : PySem.W.findIn K (.ref C) "__setattr__" = some (some (.builtin "object.__setattr__"))
  tC : PySem.W.typeIn K (.ref C) = some (.type "type")
  iC : PySem.W.findIn K (.ref C) "__init__" = some (some (.ref fI))
  tI : PySem.W.typeIn K (.ref fI) = some (.type "function")
  lI : K.lookup fI = some ⟨oc, od, .func (PySem.W.fnOf "__init__" q (defArgs st) (defBody st) (defScope st) .none kV dc pm an cd ct), sl⟩
  cI : PySem.W.codeIn K cd q = true
  kI : PySem.W.keepIn K (.ref fI) = true
theorem er_of {K : PySem.W.Frag} {h : Heap} {mg : Str → Option Value} (X : K.In h) (G : h.Ns mainGlobals mg) {x q : Str} {st : Stmt} {fs : List Str} {C fI : Addr} {oc kV dc pm cd ct : Value} {od an : Option Addr} {sl : Array (Option Value)} {nm q' : Str} {N : Addr} {bs : List Value} {ce : Addr} {sn : List Str} {sub : List Value} {ab : Bool} {col : Option Bool} {dd : Option Addr} {m0 m1 m2 m3 m5 : Option Value}
    (E : ErIn K x C) (I : IniIn K q st C fI oc kV dc pm cd ct od an sl nm q' N bs ce sn sub ab col dd m0 m1 m2 m3 m5) (no : ∀ g ∈ fs, PySem.W.findIn K (.ref C) g = some none)
    (b : ∀ (kV doc pm : Value) (an : Option Addr) (cdv ct : Value) (us : List Value), us.length = (("self" : Str) :: fs).length → bindArgs (PySem.W.fnOf "__init__" q (defArgs st) (defBody st) (defScope st) .none kV doc pm an cdv ct) ⟨us, []⟩ = pure ((("self" : Str) :: fs).zip us)) :
    Er K mg x q C fI fs st (PySem.W.fnOf "__init__" q (defArgs st) (defBody st) (defScope st) .none kV dc pm an cd ct) := by
  have F := fun_mk (st := st) I.lI I.cI I.kI
  exact ⟨⟨⟨nm, q', N, bs, _, sn, sub, ab, col, dd, m0, m1, m2, m3, m5, I.xL, by show PySem.HandSPX.refsVE [.type "ValueError", .type "Exception", .type "BaseException", .type "object"] = true; decide +kernel⟩, I.sa, E.be, I.tC, E.kC⟩, I.iC, I.tI, F, F.binds b, no, PySem.W.mg_of X G E.aC⟩
theorem all_mk {l : PySem.W.OpenLaw} {w : World} {K : PySem.W.Frag} {h : Heap} {mg : Str → Option Value} {fa gLaw CN CR CU C D ce cc0 cc1 cc2 Pt0 Pt1 Pt2 : Addr} (X : K.In h) (G : h.Ns mainGlobals mg) (hfa : mg "law" = some (.ref fa))
    {i0 : Addr} {oc0 kV0 dc0 pm0 cd0 ct0 : Value} {od0 an0 : Option Addr} {sl0 : Array (Option Value)} {nm0 q0 : Str} {N0 : Addr} {bs0 : List Value} {sn0 : List Str} {sub0 : List Value} {ab0 : Bool} {col0 : Option Bool} {dd0 : Option Addr} {m00 m10 m20 m30 m50 : Option Value}
    {i1 : Addr} {oc1 kV1 dc1 pm1 cd1 ct1 : Value} {od1 an1 : Option Addr} {sl1 : Array (Option Value)} {nm1 q1 : Str} {N1 : Addr} {bs1 : List Value} {sn1 : List Str} {sub1 : List Value} {ab1 : Bool} {col1 : Option Bool} {dd1 : Option Addr} {m01 m11 m21 m31 m51 : Option Value}
    {i2 : Addr} {oc2 kV2 dc2 pm2 cd2 ct2 : Value} {od2 an2 : Option Addr} {sl2 : Array (Option Value)} {nm2 q2 : Str} {N2 : Addr} {bs2 : List Value} {sn2 : List Str} {sub2 : List Value} {ab2 : Bool} {col2 : Option Bool} {dd2 : Option Addr} {m02 m12 m22 m32 m52 : Option Value}
    {gf0 : Addr} {oodf0 oanf0 : Option Addr} {oslf0 : Array (Option Value)} {oocf0 okVf0 odcf0 opmf0 ocdf0 octf0 : Value}
    {gf1 : Addr} {oodf1 oanf1 : Option Addr} {oslf1 : Array (Option Value)} {oocf1 okVf1 odcf1 opmf1 ocdf1 octf1 : Value}
    {gf2 : Addr} {oodf2 oanf2 : Option Addr} {oslf2 : Array (Option Value)} {oocf2 okVf2 odcf2 opmf2 ocdf2 octf2 : Value}
    {gf3 : Addr} {oodf3 oanf3 : Option Addr} {oslf3 : Array (Option Value)} {oocf3 okVf3 odcf3 opmf3 ocdf3 octf3 : Value}
    {gf4 : Addr} {oodf4 oanf4 : Option Addr} {oslf4 : Array (Option Value)} {oocf4 okVf4 odcf4 opmf4 ocdf4 octf4 : Value}
    {gf5 : Addr} {oodf5 oanf5 : Option Addr} {oslf5 : Array (Option Value)} {oocf5 okVf5 odcf5 opmf5 ocdf5 octf5 : Value}
    {gf6 : Addr} {oodf6 oanf6 : Option Addr} {oslf6 : Array (Option Value)} {oocf6 okVf6 odcf6 opmf6 ocdf6 octf6 : Value}
    {gf7 : Addr} {oodf7 oanf7 : Option Addr} {oslf7 : Array (Option Value)} {oocf7 okVf7 odcf7 opmf7 ocdf7 octf7 : Value}
    {gf8 : Addr} {oodf8 oanf8 : Option Addr} {oslf8 : Array (Option Value)} {oocf8 okVf8 odcf8 opmf8  octf8 : Value}
    {gf9 : Addr} {oodf9 oanf9 : Option Addr} {oslf9 : Array (Option Value)} {oocf9 okVf9 odcf9 opmf9 ocdf9 octf9 : Value}
    {gf10 : Addr} {oodf10 oanf10 : Option Addr} {oslf10 : Array (Option Value)} {oocf10 okVf10 odcf10 opmf10 ocdf10 octf10 : Value}
    {gf11 : Addr} {oodf11 oanf11 : Option Addr} {oslf11 : Array (Option Value)} {oocf11 okVf11 odcf11 opmf11  octf11 : Value}
    {gf12 : Addr} {oodf12 oanf12 : Option Addr} {oslf12 : Array (Option Value)} {oocf12 okVf12 odcf12 opmf12 ocdf12 octf12 : Value}
    {gf13 : Addr} {oodf13 oanf13 : Option Addr} {oslf13 : Array (Option Value)} {oocf13 okVf13 odcf13 opmf13 ocdf13 octf13 : Value}
    {gf14 : Addr} {oodf14 oanf14 : Option Addr} {oslf14 : Array (Option Value)} {oocf14 okVf14 odcf14 opmf14 ocdf14 octf14 : Value}
    {gf15 : Addr} {oodf15 oanf15 : Option Addr} {oslf15 : Array (Option Value)} {oocf15 okVf15 odcf15 opmf15 ocdf15 octf15 : Value}
    {gf16 : Addr} {oodf16 oanf16 : Option Addr} {oslf16 : Array (Option Value)} {oocf16 okVf16 odcf16 opmf16 ocdf16 octf16 : Value}
    {gf17 : Addr} {oodf17 oanf17 : Option Addr} {oslf17 : Array (Option Value)} {oocf17 okVf17 odcf17 opmf17 ocdf17 octf17 : Value}
    {gf18 : Addr} {oodf18 oanf18 : Option Addr} {oslf18 : Array (Option Value)} {oocf18 okVf18 odcf18 opmf18 ocdf18 octf18 : Value}
    {gf19 : Addr} {oodf19 oanf19 : Option Addr} {oslf19 : Array (Option Value)} {oocf19 okVf19 odcf19 opmf19 ocdf19 octf19 : Value}
    {gf20 : Addr} {oodf20 oanf20 : Option Addr} {oslf20 : Array (Option Value)} {oocf20 okVf20 odcf20 opmf20 ocdf20 octf20 : Value}
    {gf21 : Addr} {oodf21 oanf21 : Option Addr} {oslf21 : Array (Option Value)} {oocf21 okVf21 odcf21 opmf21 ocdf21 octf21 : Value}
    {gf22 : Addr} {oodf22 oanf22 : Option Addr} {oslf22 : Array (Option Value)} {oocf22 okVf22 odcf22 opmf22 ocdf22 octf22 : Value}
    {gf23 : Addr} {oodf23 oanf23 : Option Addr} {oslf23 : Array (Option Value)} {oocf23 okVf23 odcf23 opmf23 ocdf23 octf23 : Value}
    {gf24 : Addr} {oodf24 oanf24 : Option Addr} {oslf24 : Array (Option Value)} {oocf24 okVf24 odcf24 opmf24 ocdf24 octf24 : Value}
    {gf25 : Addr} {oodf25 oanf25 : Option Addr} {oslf25 : Array (Option Value)} {oocf25 okVf25 odcf25 opmf25 ocdf25 octf25 : Value}
    {gf26 : Addr} {oodf26 oanf26 : Option Addr} {oslf26 : Array (Option Value)} {oocf26 okVf26 odcf26 opmf26 ocdf26 octf26 : Value}
    {gf27 : Addr} {oodf27 oanf27 : Option Addr} {oslf27 : Array (Option Value)} {oocf27 okVf27 odcf27 opmf27 ocdf27 octf27 : Value}
    {gf28 : Addr} {oodf28 oanf28 : Option Addr} {oslf28 : Array (Option Value)} {oocf28 okVf28 odcf28 opmf28 ocdf28 octf28 : Value}
    {gf29 : Addr} {oodf29 oanf29 : Option Addr} {oslf29 : Array (Option Value)} {oocf29 okVf29 odcf29 opmf29 ocdf29 octf29 : Value}
    {gm0_0 : Addr} {oodm0_0 oanm0_0 : Option Addr} {oslm0_0 : Array (Option Value)} {oocm0_0 okVm0_0 odcm0_0 opmm0_0 ocdm0_0 octm0_0 : Value}
    {oodF oanF : Option Addr} {oslF : Array (Option Value)} {oocF okVF odcF opmF octF : Value}
    (e0 : ErIn K "BadNumber" CN)
    (j0 : IniIn K "BadNumber.__init__" sBadNumber CN i0 oc0 kV0 dc0 pm0 cd0 ct0 od0 an0 sl0 nm0 q0 N0 bs0 ce sn0 sub0 ab0 col0 dd0 m00 m10 m20 m30 m50)
    (n0_0 : PySem.W.findIn K (.ref CN) "what" = some none)
    (n0_1 : PySem.W.findIn K (.ref CN) "number" = some none)
    (e1 : ErIn K "BadRow" CR)
    (j1 : IniIn K "BadRow.__init__" sBadRow CR i1 oc1 kV1 dc1 pm1 cd1 ct1 od1 an1 sl1 nm1 q1 N1 bs1 ce sn1 sub1 ab1 col1 dd1 m01 m11 m21 m31 m51)
    (n1_0 : PySem.W.findIn K (.ref CR) "row" = some none)
    (e2 : ErIn K "Unlike" CU)
    (j2 : IniIn K "Unlike.__init__" sUnlike CU i2 oc2 kV2 dc2 pm2 cd2 ct2 od2 an2 sl2 nm2 q2 N2 bs2 ce sn2 sub2 ab2 col2 dd2 m02 m12 m22 m32 m52)
    (n2_0 : PySem.W.findIn K (.ref CU) "what" = some none)
    (aC0 : PySem.W.nsIn K mainGlobals "Machine" = some (some (.ref C)))
    (pg0 : PySem.W.plainGet K C Str.empty = true)
    (hd0 : PySem.W.hasDictIn K C = true)
    (po0 : PySem.W.plainOver K C = true)
    (sa0 : PySem.W.findIn K (.ref C) "__setattr__" = some (some (.builtin "object.__setattr__")))
    (ha0 : PySem.W.findIn K (.ref C) "__class__" = some (some (.builtin "object.__class__")))
    (hn0 : PySem.W.specialIn K (.builtin "object.__class__") "__get__" = some (some (.builtin "getset_descriptor.__get__")))
    (ht0 : PySem.W.takesIn K (.builtin "object.__class__") = some true)
    (hm0 : PySem.W.mroIn K C (.type "object") = some true)
    (me0 : PySem.W.kitOne K (.ref C) (.ref C) = some true)
    (at0_0 : PySem.W.findIn K (.ref C) "p" = some none)
    (at0_1 : PySem.W.findIn K (.ref C) "moves" = some none)
    (at0_2 : PySem.W.findIn K (.ref C) "worths" = some none)
    (at0_3 : PySem.W.findIn K (.ref C) "size" = some none)
    (no0_int : PySem.W.kitOne K (.type "int") (.ref C) = some false)
    (no0_bool : PySem.W.kitOne K (.type "bool") (.ref C) = some false)
    (no0_NoneType : PySem.W.kitOne K (.type "NoneType") (.ref C) = some false)
    (no0_str : PySem.W.kitOne K (.type "str") (.ref C) = some false)
    (no0_list : PySem.W.kitOne K (.type "list") (.ref C) = some false)
    (no0_tuple : PySem.W.kitOne K (.type "tuple") (.ref C) = some false)
    (no0_dict : PySem.W.kitOne K (.type "dict") (.ref C) = some false)
    (ni0 : PySem.W.kitOne K (.ref C) (.type "int") = some false)
    (mk0 : PySem.W.makesIn K C = true)
    (kp0 : PySem.W.keepIn K (.ref C) = true)
    (af0 : PySem.W.nsIn K mainGlobals "is_integer" = some (some (.ref gf0)))
    (lf0 : K.lookup gf0 = some ⟨oocf0, oodf0, .func (PySem.W.fnOf "is_integer" "is_integer" (defArgs sIsI) (defBody sIsI) (defScope sIsI) .none okVf0 odcf0 opmf0 oanf0 ocdf0 octf0), oslf0⟩)
    (cf0 : PySem.W.codeIn K ocdf0 "is_integer" = true)
    (kf0 : PySem.W.keepIn K (.ref gf0) = true)
    (af1 : PySem.W.nsIn K mainGlobals "is_integers" = some (some (.ref gf1)))
    (lf1 : K.lookup gf1 = some ⟨oocf1, oodf1, .func (PySem.W.fnOf "is_integers" "is_integers" (defArgs sIsIs) (defBody sIsIs) (defScope sIsIs) .none okVf1 odcf1 opmf1 oanf1 ocdf1 octf1), oslf1⟩)
    (cf1 : PySem.W.codeIn K ocdf1 "is_integers" = true)
    (kf1 : PySem.W.keepIn K (.ref gf1) = true)
    (af2 : PySem.W.nsIn K mainGlobals "is_row" = some (some (.ref gf2)))
    (lf2 : K.lookup gf2 = some ⟨oocf2, oodf2, .func (PySem.W.fnOf "is_row" "is_row" (defArgs sRow) (defBody sRow) (defScope sRow) .none okVf2 odcf2 opmf2 oanf2 ocdf2 octf2), oslf2⟩)
    (cf2 : PySem.W.codeIn K ocdf2 "is_row" = true)
    (kf2 : PySem.W.keepIn K (.ref gf2) = true)
    (af3 : PySem.W.nsIn K mainGlobals "check_prime" = some (some (.ref gf3)))
    (lf3 : K.lookup gf3 = some ⟨oocf3, oodf3, .func (PySem.W.fnOf "check_prime" "check_prime" (defArgs sCP) (defBody sCP) (defScope sCP) .none okVf3 odcf3 opmf3 oanf3 ocdf3 octf3), oslf3⟩)
    (cf3 : PySem.W.codeIn K ocdf3 "check_prime" = true)
    (kf3 : PySem.W.keepIn K (.ref gf3) = true)
    (af4 : PySem.W.nsIn K mainGlobals "check_machine" = some (some (.ref gf4)))
    (lf4 : K.lookup gf4 = some ⟨oocf4, oodf4, .func (PySem.W.fnOf "check_machine" "check_machine" (defArgs sCM) (defBody sCM) (defScope sCM) .none okVf4 odcf4 opmf4 oanf4 ocdf4 octf4), oslf4⟩)
    (cf4 : PySem.W.codeIn K ocdf4 "check_machine" = true)
    (kf4 : PySem.W.keepIn K (.ref gf4) = true)
    (af5 : PySem.W.nsIn K mainGlobals "numbered" = some (some (.ref gf5)))
    (lf5 : K.lookup gf5 = some ⟨oocf5, oodf5, .func (PySem.W.fnOf "numbered" "numbered" (defArgs sNu) (defBody sNu) (defScope sNu) .none okVf5 odcf5 opmf5 oanf5 ocdf5 octf5), oslf5⟩)
    (cf5 : PySem.W.codeIn K ocdf5 "numbered" = true)
    (kf5 : PySem.W.keepIn K (.ref gf5) = true)
    (af6 : PySem.W.nsIn K mainGlobals "explored_from" = some (some (.ref gf6)))
    (lf6 : K.lookup gf6 = some ⟨oocf6, oodf6, .func (PySem.W.fnOf "explored_from" "explored_from" (defArgs sXf) (defBody sXf) (defScope sXf) .none okVf6 odcf6 opmf6 oanf6 ocdf6 octf6), oslf6⟩)
    (cf6 : PySem.W.codeIn K ocdf6 "explored_from" = true)
    (kf6 : PySem.W.keepIn K (.ref gf6) = true)
    (af7 : PySem.W.nsIn K mainGlobals "explored" = some (some (.ref gf7)))
    (lf7 : K.lookup gf7 = some ⟨oocf7, oodf7, .func (PySem.W.fnOf "explored" "explored" (defArgs sXp) (defBody sXp) (defScope sXp) .none okVf7 odcf7 opmf7 oanf7 ocdf7 octf7), oslf7⟩)
    (cf7 : PySem.W.codeIn K ocdf7 "explored" = true)
    (kf7 : PySem.W.keepIn K (.ref gf7) = true)
    (af8 : PySem.W.nsIn K mainGlobals "going_by" = some (some (.ref gf8)))
    (lf8 : K.lookup gf8 = some ⟨oocf8, oodf8, .func (PySem.W.fnOf "going_by" "going_by" (defArgs sGb) (defBody sGb) (defScope sGb) .none okVf8 odcf8 opmf8 oanf8 (.ref cc1) octf8), oslf8⟩)
    (cf8 : PySem.W.codeIn K (.ref cc1) "going_by" = true)
    (kf8 : PySem.W.keepIn K (.ref gf8) = true)
    (af9 : PySem.W.nsIn K mainGlobals "met_states" = some (some (.ref gf9)))
    (lf9 : K.lookup gf9 = some ⟨oocf9, oodf9, .func (PySem.W.fnOf "met_states" "met_states" (defArgs sMs) (defBody sMs) (defScope sMs) .none okVf9 odcf9 opmf9 oanf9 ocdf9 octf9), oslf9⟩)
    (cf9 : PySem.W.codeIn K ocdf9 "met_states" = true)
    (kf9 : PySem.W.keepIn K (.ref gf9) = true)
    (af10 : PySem.W.nsIn K mainGlobals "classes_of" = some (some (.ref gf10)))
    (lf10 : K.lookup gf10 = some ⟨oocf10, oodf10, .func (PySem.W.fnOf "classes_of" "classes_of" (defArgs sCls) (defBody sCls) (defScope sCls) .none okVf10 odcf10 opmf10 oanf10 ocdf10 octf10), oslf10⟩)
    (cf10 : PySem.W.codeIn K ocdf10 "classes_of" = true)
    (kf10 : PySem.W.keepIn K (.ref gf10) = true)
    (af11 : PySem.W.nsIn K mainGlobals "least_states" = some (some (.ref gf11)))
    (lf11 : K.lookup gf11 = some ⟨oocf11, oodf11, .func (PySem.W.fnOf "least_states" "least_states" (defArgs sLst) (defBody sLst) (defScope sLst) .none okVf11 odcf11 opmf11 oanf11 (.ref cc2) octf11), oslf11⟩)
    (cf11 : PySem.W.codeIn K (.ref cc2) "least_states" = true)
    (kf11 : PySem.W.keepIn K (.ref gf11) = true)
    (af12 : PySem.W.nsIn K mainGlobals "least_made" = some (some (.ref gf12)))
    (lf12 : K.lookup gf12 = some ⟨oocf12, oodf12, .func (PySem.W.fnOf "least_made" "least_made" (defArgs sLmd) (defBody sLmd) (defScope sLmd) .none okVf12 odcf12 opmf12 oanf12 ocdf12 octf12), oslf12⟩)
    (cf12 : PySem.W.codeIn K ocdf12 "least_made" = true)
    (kf12 : PySem.W.keepIn K (.ref gf12) = true)
    (af13 : PySem.W.nsIn K mainGlobals "least_numbers" = some (some (.ref gf13)))
    (lf13 : K.lookup gf13 = some ⟨oocf13, oodf13, .func (PySem.W.fnOf "least_numbers" "least_numbers" (defArgs sLn) (defBody sLn) (defScope sLn) .none okVf13 odcf13 opmf13 oanf13 ocdf13 octf13), oslf13⟩)
    (cf13 : PySem.W.codeIn K ocdf13 "least_numbers" = true)
    (kf13 : PySem.W.keepIn K (.ref gf13) = true)
    (af14 : PySem.W.nsIn K mainGlobals "comes" = some (some (.ref gf14)))
    (lf14 : K.lookup gf14 = some ⟨oocf14, oodf14, .func (PySem.W.fnOf "comes" "comes" (defArgs sCm) (defBody sCm) (defScope sCm) .none okVf14 odcf14 opmf14 oanf14 ocdf14 octf14), oslf14⟩)
    (cf14 : PySem.W.codeIn K ocdf14 "comes" = true)
    (kf14 : PySem.W.keepIn K (.ref gf14) = true)
    (af15 : PySem.W.nsIn K mainGlobals "mapped" = some (some (.ref gf15)))
    (lf15 : K.lookup gf15 = some ⟨oocf15, oodf15, .func (PySem.W.fnOf "mapped" "mapped" (defArgs sMp) (defBody sMp) (defScope sMp) .none okVf15 odcf15 opmf15 oanf15 ocdf15 octf15), oslf15⟩)
    (cf15 : PySem.W.codeIn K ocdf15 "mapped" = true)
    (kf15 : PySem.W.keepIn K (.ref gf15) = true)
    (af16 : PySem.W.nsIn K mainGlobals "_law_pen" = some (some (.ref gf16)))
    (lf16 : K.lookup gf16 = some ⟨oocf16, oodf16, .func (PySem.W.fnOf "_law_pen" "_law_pen" (defArgs sPen) (defBody sPen) (defScope sPen) .none okVf16 odcf16 opmf16 oanf16 ocdf16 octf16), oslf16⟩)
    (cf16 : PySem.W.codeIn K ocdf16 "_law_pen" = true)
    (kf16 : PySem.W.keepIn K (.ref gf16) = true)
    (af17 : PySem.W.nsIn K mainGlobals "_law_draw" = some (some (.ref gf17)))
    (lf17 : K.lookup gf17 = some ⟨oocf17, oodf17, .func (PySem.W.fnOf "_law_draw" "_law_draw" (defArgs sDraw) (defBody sDraw) (defScope sDraw) .none okVf17 odcf17 opmf17 oanf17 ocdf17 octf17), oslf17⟩)
    (cf17 : PySem.W.codeIn K ocdf17 "_law_draw" = true)
    (kf17 : PySem.W.keepIn K (.ref gf17) = true)
    (af18 : PySem.W.nsIn K mainGlobals "_law_pick" = some (some (.ref gf18)))
    (lf18 : K.lookup gf18 = some ⟨oocf18, oodf18, .func (PySem.W.fnOf "_law_pick" "_law_pick" (defArgs sPick) (defBody sPick) (defScope sPick) .none okVf18 odcf18 opmf18 oanf18 ocdf18 octf18), oslf18⟩)
    (cf18 : PySem.W.codeIn K ocdf18 "_law_pick" = true)
    (kf18 : PySem.W.keepIn K (.ref gf18) = true)
    (af19 : PySem.W.nsIn K mainGlobals "_law_shuffled" = some (some (.ref gf19)))
    (lf19 : K.lookup gf19 = some ⟨oocf19, oodf19, .func (PySem.W.fnOf "_law_shuffled" "_law_shuffled" (defArgs sSh) (defBody sSh) (defScope sSh) .none okVf19 odcf19 opmf19 oanf19 ocdf19 octf19), oslf19⟩)
    (cf19 : PySem.W.codeIn K ocdf19 "_law_shuffled" = true)
    (kf19 : PySem.W.keepIn K (.ref gf19) = true)
    (af20 : PySem.W.nsIn K mainGlobals "_law_steady" = some (some (.ref gf20)))
    (lf20 : K.lookup gf20 = some ⟨oocf20, oodf20, .func (PySem.W.fnOf "_law_steady" "_law_steady" (defArgs sSt) (defBody sSt) (defScope sSt) .none okVf20 odcf20 opmf20 oanf20 ocdf20 octf20), oslf20⟩)
    (cf20 : PySem.W.codeIn K ocdf20 "_law_steady" = true)
    (kf20 : PySem.W.keepIn K (.ref gf20) = true)
    (af21 : PySem.W.nsIn K mainGlobals "_law_ranks" = some (some (.ref gf21)))
    (lf21 : K.lookup gf21 = some ⟨oocf21, oodf21, .func (PySem.W.fnOf "_law_ranks" "_law_ranks" (defArgs sRk) (defBody sRk) (defScope sRk) .none okVf21 odcf21 opmf21 oanf21 ocdf21 octf21), oslf21⟩)
    (cf21 : PySem.W.codeIn K ocdf21 "_law_ranks" = true)
    (kf21 : PySem.W.keepIn K (.ref gf21) = true)
    (af22 : PySem.W.nsIn K mainGlobals "_law_classes" = some (some (.ref gf22)))
    (lf22 : K.lookup gf22 = some ⟨oocf22, oodf22, .func (PySem.W.fnOf "_law_classes" "_law_classes" (defArgs sLcl) (defBody sLcl) (defScope sLcl) .none okVf22 odcf22 opmf22 oanf22 ocdf22 octf22), oslf22⟩)
    (cf22 : PySem.W.codeIn K ocdf22 "_law_classes" = true)
    (kf22 : PySem.W.keepIn K (.ref gf22) = true)
    (af23 : PySem.W.nsIn K mainGlobals "_law_small" = some (some (.ref gf23)))
    (lf23 : K.lookup gf23 = some ⟨oocf23, oodf23, .func (PySem.W.fnOf "_law_small" "_law_small" (defArgs sSm) (defBody sSm) (defScope sSm) .none okVf23 odcf23 opmf23 oanf23 ocdf23 octf23), oslf23⟩)
    (cf23 : PySem.W.codeIn K ocdf23 "_law_small" = true)
    (kf23 : PySem.W.keepIn K (.ref gf23) = true)
    (af24 : PySem.W.nsIn K mainGlobals "_law_is_machine" = some (some (.ref gf24)))
    (lf24 : K.lookup gf24 = some ⟨oocf24, oodf24, .func (PySem.W.fnOf "_law_is_machine" "_law_is_machine" (defArgs sIm) (defBody sIm) (defScope sIm) .none okVf24 odcf24 opmf24 oanf24 ocdf24 octf24), oslf24⟩)
    (cf24 : PySem.W.codeIn K ocdf24 "_law_is_machine" = true)
    (kf24 : PySem.W.keepIn K (.ref gf24) = true)
    (af25 : PySem.W.nsIn K mainGlobals "_law_is_least" = some (some (.ref gf25)))
    (lf25 : K.lookup gf25 = some ⟨oocf25, oodf25, .func (PySem.W.fnOf "_law_is_least" "_law_is_least" (defArgs sIl) (defBody sIl) (defScope sIl) .none okVf25 odcf25 opmf25 oanf25 ocdf25 octf25), oslf25⟩)
    (cf25 : PySem.W.codeIn K ocdf25 "_law_is_least" = true)
    (kf25 : PySem.W.keepIn K (.ref gf25) = true)
    (af26 : PySem.W.nsIn K mainGlobals "_law_number" = some (some (.ref gf26)))
    (lf26 : K.lookup gf26 = some ⟨oocf26, oodf26, .func (PySem.W.fnOf "_law_number" "_law_number" (defArgs sNb) (defBody sNb) (defScope sNb) .none okVf26 odcf26 opmf26 oanf26 ocdf26 octf26), oslf26⟩)
    (cf26 : PySem.W.codeIn K ocdf26 "_law_number" = true)
    (kf26 : PySem.W.keepIn K (.ref gf26) = true)
    (af27 : PySem.W.nsIn K mainGlobals "_law_layers" = some (some (.ref gf27)))
    (lf27 : K.lookup gf27 = some ⟨oocf27, oodf27, .func (PySem.W.fnOf "_law_layers" "_law_layers" (defArgs sLay) (defBody sLay) (defScope sLay) .none okVf27 odcf27 opmf27 oanf27 ocdf27 octf27), oslf27⟩)
    (cf27 : PySem.W.codeIn K ocdf27 "_law_layers" = true)
    (kf27 : PySem.W.keepIn K (.ref gf27) = true)
    (af28 : PySem.W.nsIn K mainGlobals "_law_best" = some (some (.ref gf28)))
    (lf28 : K.lookup gf28 = some ⟨oocf28, oodf28, .func (PySem.W.fnOf "_law_best" "_law_best" (defArgs sBs) (defBody sBs) (defScope sBs) .none okVf28 odcf28 opmf28 oanf28 ocdf28 octf28), oslf28⟩)
    (cf28 : PySem.W.codeIn K ocdf28 "_law_best" = true)
    (kf28 : PySem.W.keepIn K (.ref gf28) = true)
    (af29 : PySem.W.nsIn K mainGlobals "_law_refused" = some (some (.ref gf29)))
    (lf29 : K.lookup gf29 = some ⟨oocf29, oodf29, .func (PySem.W.fnOf "_law_refused" "_law_refused" (defArgs sRef) (defBody sRef) (defScope sRef) .none okVf29 odcf29 opmf29 oanf29 ocdf29 octf29), oslf29⟩)
    (cf29 : PySem.W.codeIn K ocdf29 "_law_refused" = true)
    (kf29 : PySem.W.keepIn K (.ref gf29) = true)
    (fcm0_0 : PySem.W.findIn K (.ref C) "__init__" = some (some (.ref gm0_0)))
    (fnm0_0 : PySem.W.isFn K (.ref gm0_0) = true)
    (lm0_0 : K.lookup gm0_0 = some ⟨oocm0_0, oodm0_0, .func (PySem.W.fnOf "__init__" "Machine.__init__" (defArgs sMI) (defBody sMI) (defScope sMI) .none okVm0_0 odcm0_0 opmm0_0 oanm0_0 ocdm0_0 octm0_0), oslm0_0⟩)
    (cm0_0 : PySem.W.codeIn K ocdm0_0 "Machine.__init__" = true)
    (km0_0 : PySem.W.keepIn K (.ref gm0_0) = true)
    (aF : PySem.W.nsIn K mainGlobals "law" = some (some (.ref gLaw)))
    (lF : K.lookup gLaw = some ⟨oocF, oodF, .func (PySem.W.fnOf "law" "law" (defArgs sLaw) (defBody sLaw) (defScope sLaw) .none okVF odcF opmF oanF (.ref cc0) octF), oslF⟩)
    (cF : PySem.W.codeIn K (.ref cc0) "law" = true)
    (nP0 : K.lookup Pt0 = none)
    (hP0 : PySem.W.codeHdIn K cc0 Pt0 = true)
    (nP1 : K.lookup Pt1 = none)
    (hP1 : PySem.W.codeHdIn K cc1 Pt1 = true)
    (nP2 : K.lookup Pt2 = none)
    (hP2 : PySem.W.codeHdIn K cc2 Pt2 = true)
    (neP01 : Pt0 ≠ Pt1)
    (neP02 : Pt0 ≠ Pt2)
    (neP12 : Pt1 ≠ Pt2)
    (ac0 : PySem.W.nsIn K mainGlobals "PRIMES" = some (some (.ref D)))
    (kc0 : tupI K (.ref D) = some [2, 3, 5, 7])
    (z_int : PySem.W.nsIn K mainGlobals "int" = some none)
    (z_bool : PySem.W.nsIn K mainGlobals "bool" = some none)
    (z_tuple : PySem.W.nsIn K mainGlobals "tuple" = some none)
    (z_len : PySem.W.nsIn K mainGlobals "len" = some none)
    (z_list : PySem.W.nsIn K mainGlobals "list" = some none)
    (z_range : PySem.W.nsIn K mainGlobals "range" = some none)
    (z_isinstance : PySem.W.nsIn K mainGlobals "isinstance" = some none)
    (z_repr : PySem.W.nsIn K mainGlobals "repr" = some none)
    (z_all : PySem.W.nsIn K mainGlobals "all" = some none)
    (z_divmod : PySem.W.nsIn K mainGlobals "divmod" = some none)
    (z_reversed : PySem.W.nsIn K mainGlobals "reversed" = some none)
    (z_any : PySem.W.nsIn K mainGlobals "any" = some none)
    (z_zip : PySem.W.nsIn K mainGlobals "zip" = some none)
    (z_min : PySem.W.nsIn K mainGlobals "min" = some none)
    (z_max : PySem.W.nsIn K mainGlobals "max" = some none)
    (z_enumerate : PySem.W.nsIn K mainGlobals "enumerate" = some none)
    (z_sorted : PySem.W.nsIn K mainGlobals "sorted" = some none)
    (z_set : PySem.W.nsIn K mainGlobals "set" = some none)
    (z_dict : PySem.W.nsIn K mainGlobals "dict" = some none)
    (xnn : PySem.W.exmOne K (.ref CN) (.ref CN) = some true)
    : (∀ p ∈ [(cc0, Pt0), (cc1, Pt1), (cc2, Pt2)], K.lookup p.2 = none ∧ PySem.W.codeHdIn K p.1 p.2 = true) ∧ ∃ fd : FuncData, (∀ (s : Shared) (u : Value), BindsTo s fd ⟨[u], []⟩ [("_law_script", u)]) ∧
      ∀ base : Heap, K.In base → base.Ns mainGlobals mg → (∀ p ∈ [(cc0, Pt0), (cc1, Pt1), (cc2, Pt2)], LamX.TabB base mg p.1 p.2) → FnG l.prog w K mg base CX0 11 fa fd ["_law_script"] (spLaw K Pt0 Pt1 Pt2) := by
  have e := hfa.symm.trans (PySem.W.mg_of X G aF)
  cases e
  refine ⟨fun p hp => ?_, PySem.W.fnOf "law" "law" (defArgs sLaw) (defBody sLaw) (defScope sLaw) .none okVF odcF opmF oanF (.ref cc0) octF, fun s v => .of_eq rfl, fun base _ _ TB => ?_⟩
  · obtain rfl | hp := List.mem_cons.mp hp
    · exact ⟨nP0, hP0⟩
    obtain rfl | hp := List.mem_cons.mp hp
    · exact ⟨nP1, hP1⟩
    obtain rfl | hp := List.mem_cons.mp hp
    · exact ⟨nP2, hP2⟩
    · exact (List.not_mem_nil hp).elim
  have Ff0 := fun_mk (st := sIsI) lf0 cf0 kf0
  have E_is_integer : Cl K mg "is_integer" sIsI ["value"] gf0 _ := ⟨Ff0, Ff0.binds (ps := ["value"]) (fun _ _ _ _ _ _ us hl => match us, hl with | [_], _ => rfl), PySem.W.mg_of X G af0⟩
  have Ff1 := fun_mk (st := sIsIs) lf1 cf1 kf1
  have E_is_integers : Cl K mg "is_integers" sIsIs ["value"] gf1 _ := ⟨Ff1, Ff1.binds (ps := ["value"]) (fun _ _ _ _ _ _ us hl => match us, hl with | [_], _ => rfl), PySem.W.mg_of X G af1⟩
  have Ff2 := fun_mk (st := sRow) lf2 cf2 kf2
  have E_is_row : Cl K mg "is_row" sRow ["value", "width"] gf2 _ := ⟨Ff2, Ff2.binds (ps := ["value", "width"]) (fun _ _ _ _ _ _ us hl => match us, hl with | [_, _], _ => rfl), PySem.W.mg_of X G af2⟩
  have Ff3 := fun_mk (st := sCP) lf3 cf3 kf3
  have E_check_prime : Cl K mg "check_prime" sCP ["p"] gf3 _ := ⟨Ff3, Ff3.binds (ps := ["p"]) (fun _ _ _ _ _ _ us hl => match us, hl with | [_], _ => rfl), PySem.W.mg_of X G af3⟩
  have Ff4 := fun_mk (st := sCM) lf4 cf4 kf4
  have E_check_machine : Cl K mg "check_machine" sCM ["p", "moves", "worths"] gf4 _ := ⟨Ff4, Ff4.binds (ps := ["p", "moves", "worths"]) (fun _ _ _ _ _ _ us hl => match us, hl with | [_, _, _], _ => rfl), PySem.W.mg_of X G af4⟩
  have Ff5 := fun_mk (st := sNu) lf5 cf5 kf5
  have E_numbered : Cl K mg "numbered" sNu ["keys"] gf5 _ := ⟨Ff5, Ff5.binds (ps := ["keys"]) (fun _ _ _ _ _ _ us hl => match us, hl with | [_], _ => rfl), PySem.W.mg_of X G af5⟩
  have Ff6 := fun_mk (st := sXf) lf6 cf6 kf6
  have E_explored_from : Cl K mg "explored_from" sXf ["starts", "lead", "many", "most"] gf6 _ := ⟨Ff6, Ff6.binds (ps := ["starts", "lead", "many", "most"]) (fun _ _ _ _ _ _ us hl => match us, hl with | [_, _, _, _], _ => rfl), PySem.W.mg_of X G af6⟩
  have Ff7 := fun_mk (st := sXp) lf7 cf7 kf7
  have E_explored : Cl K mg "explored" sXp ["start", "lead", "many", "most"] gf7 _ := ⟨Ff7, Ff7.binds (ps := ["start", "lead", "many", "most"]) (fun _ _ _ _ _ _ us hl => match us, hl with | [_, _, _, _], _ => rfl), PySem.W.mg_of X G af7⟩
  have Ff8 := fun_mk (st := sGb) lf8 cf8 kf8
  have E_going_by : Cl K mg "going_by" sGb ["moves"] gf8 _ := ⟨Ff8, Ff8.binds (ps := ["moves"]) (fun _ _ _ _ _ _ us hl => match us, hl with | [_], _ => rfl), PySem.W.mg_of X G af8⟩
  have Ff9 := fun_mk (st := sMs) lf9 cf9 kf9
  have E_met_states : Cl K mg "met_states" sMs ["moves", "worths"] gf9 _ := ⟨Ff9, Ff9.binds (ps := ["moves", "worths"]) (fun _ _ _ _ _ _ us hl => match us, hl with | [_, _], _ => rfl), PySem.W.mg_of X G af9⟩
  have Ff10 := fun_mk (st := sCls) lf10 cf10 kf10
  have E_classes_of : Cl K mg "classes_of" sCls ["moves", "worths"] gf10 _ := ⟨Ff10, Ff10.binds (ps := ["moves", "worths"]) (fun _ _ _ _ _ _ us hl => match us, hl with | [_, _], _ => rfl), PySem.W.mg_of X G af10⟩
  have Ff11 := fun_mk (st := sLst) lf11 cf11 kf11
  have E_least_states : Cl K mg "least_states" sLst ["moves", "worths"] gf11 _ := ⟨Ff11, Ff11.binds (ps := ["moves", "worths"]) (fun _ _ _ _ _ _ us hl => match us, hl with | [_, _], _ => rfl), PySem.W.mg_of X G af11⟩
  have Ff12 := fun_mk (st := sLmd) lf12 cf12 kf12
  have E_least_made : Cl K mg "least_made" sLmd ["p", "moves", "worths"] gf12 _ := ⟨Ff12, Ff12.binds (ps := ["p", "moves", "worths"]) (fun _ _ _ _ _ _ us hl => match us, hl with | [_, _, _], _ => rfl), PySem.W.mg_of X G af12⟩
  have Ff13 := fun_mk (st := sLn) lf13 cf13 kf13
  have E_least_numbers : Cl K mg "least_numbers" sLn ["moves", "p"] gf13 _ := ⟨Ff13, Ff13.binds (ps := ["moves", "p"]) (fun _ _ _ _ _ _ us hl => match us, hl with | [_, _], _ => rfl), PySem.W.mg_of X G af13⟩
  have Ff14 := fun_mk (st := sCm) lf14 cf14 kf14
  have E_comes : Cl K mg "comes" sCm ["machine"] gf14 _ := ⟨Ff14, Ff14.binds (ps := ["machine"]) (fun _ _ _ _ _ _ us hl => match us, hl with | [_], _ => rfl), PySem.W.mg_of X G af14⟩
  have Ff15 := fun_mk (st := sMp) lf15 cf15 kf15
  have E_mapped : Cl K mg "mapped" sMp ["machine", "numbers"] gf15 _ := ⟨Ff15, Ff15.binds (ps := ["machine", "numbers"]) (fun _ _ _ _ _ _ us hl => match us, hl with | [_, _], _ => rfl), PySem.W.mg_of X G af15⟩
  have Ff16 := fun_mk (st := sPen) lf16 cf16 kf16
  have E__law_pen : Cl K mg "_law_pen" sPen ["_law_script"] gf16 _ := ⟨Ff16, Ff16.binds (ps := ["_law_script"]) (fun _ _ _ _ _ _ us hl => match us, hl with | [_], _ => rfl), PySem.W.mg_of X G af16⟩
  have Ff17 := fun_mk (st := sDraw) lf17 cf17 kf17
  have E__law_draw : Cl K mg "_law_draw" sDraw ["_law_pen_here", "_law_many"] gf17 _ := ⟨Ff17, Ff17.binds (ps := ["_law_pen_here", "_law_many"]) (fun _ _ _ _ _ _ us hl => match us, hl with | [_, _], _ => rfl), PySem.W.mg_of X G af17⟩
  have Ff18 := fun_mk (st := sPick) lf18 cf18 kf18
  have E__law_pick : Cl K mg "_law_pick" sPick ["_law_pen_here", "_law_some"] gf18 _ := ⟨Ff18, Ff18.binds (ps := ["_law_pen_here", "_law_some"]) (fun _ _ _ _ _ _ us hl => match us, hl with | [_, _], _ => rfl), PySem.W.mg_of X G af18⟩
  have Ff19 := fun_mk (st := sSh) lf19 cf19 kf19
  have E__law_shuffled : Cl K mg "_law_shuffled" sSh ["_law_pen_here", "_law_some"] gf19 _ := ⟨Ff19, Ff19.binds (ps := ["_law_pen_here", "_law_some"]) (fun _ _ _ _ _ _ us hl => match us, hl with | [_, _], _ => rfl), PySem.W.mg_of X G af19⟩
  have Ff20 := fun_mk (st := sSt) lf20 cf20 kf20
  have E__law_steady : Cl K mg "_law_steady" sSt ["_law_pen_here", "_law_p", "_law_most"] gf20 _ := ⟨Ff20, Ff20.binds (ps := ["_law_pen_here", "_law_p", "_law_most"]) (fun _ _ _ _ _ _ us hl => match us, hl with | [_, _, _], _ => rfl), PySem.W.mg_of X G af20⟩
  have Ff21 := fun_mk (st := sRk) lf21 cf21 kf21
  have E__law_ranks : Cl K mg "_law_ranks" sRk ["_law_rows"] gf21 _ := ⟨Ff21, Ff21.binds (ps := ["_law_rows"]) (fun _ _ _ _ _ _ us hl => match us, hl with | [_], _ => rfl), PySem.W.mg_of X G af21⟩
  have Ff22 := fun_mk (st := sLcl) lf22 cf22 kf22
  have E__law_classes : Cl K mg "_law_classes" sLcl ["_law_moves", "_law_worths"] gf22 _ := ⟨Ff22, Ff22.binds (ps := ["_law_moves", "_law_worths"]) (fun _ _ _ _ _ _ us hl => match us, hl with | [_, _], _ => rfl), PySem.W.mg_of X G af22⟩
  have Ff23 := fun_mk (st := sSm) lf23 cf23 kf23
  have E__law_small : Cl K mg "_law_small" sSm ["_law_moves", "_law_worths"] gf23 _ := ⟨Ff23, Ff23.binds (ps := ["_law_moves", "_law_worths"]) (fun _ _ _ _ _ _ us hl => match us, hl with | [_, _], _ => rfl), PySem.W.mg_of X G af23⟩
  have Ff24 := fun_mk (st := sIm) lf24 cf24 kf24
  have E__law_is_machine : Cl K mg "_law_is_machine" sIm ["_law_told", "_law_p", "_law_moves", "_law_worths"] gf24 _ := ⟨Ff24, Ff24.binds (ps := ["_law_told", "_law_p", "_law_moves", "_law_worths"]) (fun _ _ _ _ _ _ us hl => match us, hl with | [_, _, _, _], _ => rfl), PySem.W.mg_of X G af24⟩
  have Ff25 := fun_mk (st := sIl) lf25 cf25 kf25
  have E__law_is_least : Cl K mg "_law_is_least" sIl ["_law_told", "_law_p", "_law_moves", "_law_worths"] gf25 _ := ⟨Ff25, Ff25.binds (ps := ["_law_told", "_law_p", "_law_moves", "_law_worths"]) (fun _ _ _ _ _ _ us hl => match us, hl with | [_, _, _, _], _ => rfl), PySem.W.mg_of X G af25⟩
  have Ff26 := fun_mk (st := sNb) lf26 cf26 kf26
  have E__law_number : Cl K mg "_law_number" sNb ["_law_word", "_law_p"] gf26 _ := ⟨Ff26, Ff26.binds (ps := ["_law_word", "_law_p"]) (fun _ _ _ _ _ _ us hl => match us, hl with | [_, _], _ => rfl), PySem.W.mg_of X G af26⟩
  have Ff27 := fun_mk (st := sLay) lf27 cf27 kf27
  have E__law_layers : Cl K mg "_law_layers" sLay ["_law_moves", "_law_many"] gf27 _ := ⟨Ff27, Ff27.binds (ps := ["_law_moves", "_law_many"]) (fun _ _ _ _ _ _ us hl => match us, hl with | [_, _], _ => rfl), PySem.W.mg_of X G af27⟩
  have Ff28 := fun_mk (st := sBs) lf28 cf28 kf28
  have E__law_best : Cl K mg "_law_best" sBs ["_law_moves", "_law_layers_here", "_law_wanted", "_law_many", "_law_is_least_here"] gf28 _ := ⟨Ff28, Ff28.binds (ps := ["_law_moves", "_law_layers_here", "_law_wanted", "_law_many", "_law_is_least_here"]) (fun _ _ _ _ _ _ us hl => match us, hl with | [_, _, _, _, _], _ => rfl), PySem.W.mg_of X G af28⟩
  have Ff29 := fun_mk (st := sRef) lf29 cf29 kf29
  have E__law_refused : Cl K mg "_law_refused" sRef ["_law_call"] gf29 _ := ⟨Ff29, Ff29.binds (ps := ["_law_call"]) (fun _ _ _ _ _ _ us hl => match us, hl with | [_], _ => rfl), PySem.W.mg_of X G af29⟩
  have Fm0_0 := fun_mk (st := sMI) lm0_0 cm0_0 km0_0
  have B_Machine___init__ := Fm0_0.binds (ps := ["self", "p", "moves", "worths"]) (fun _ _ _ _ _ _ us hl => match us, hl with | [_, _, _, _], _ => rfl)
  have L_Machine : Cls K C := ⟨pg0, hd0, po0, sa0⟩
  have GC_Machine := PySem.W.mg_of X G aC0
  have C_Machine : C8.InsC K C := ⟨L_Machine, ha0, hn0, ht0, hm0, me0⟩
  have M_Machine_init : Meth K C "__init__" gm0_0 := ⟨fcm0_0, fnm0_0, km0_0⟩
  have K_Machine : Mk K C gm0_0 := ⟨mk0, fcm0_0, fnm0_0, kp0⟩
  have R_BadNumber := er_of (x := "BadNumber") (fs := ["what", "number"]) X G e0 j0 (fun g hg => by
    rcases List.mem_cons.mp hg with rfl | hg
    · exact n0_0
    rcases List.mem_cons.mp hg with rfl | hg
    · exact n0_1
    exact (List.not_mem_nil hg).elim) (fun _ _ _ _ _ _ us hl => match us, hl with | [_, _, _], _ => rfl)
  have R_BadRow := er_of (x := "BadRow") (fs := ["row"]) X G e1 j1 (fun g hg => by
    rcases List.mem_cons.mp hg with rfl | hg
    · exact n1_0
    exact (List.not_mem_nil hg).elim) (fun _ _ _ _ _ _ us hl => match us, hl with | [_, _], _ => rfl)
  have R_Unlike := er_of (x := "Unlike") (fs := ["what"]) X G e2 j2 (fun g hg => by
    rcases List.mem_cons.mp hg with rfl | hg
    · exact n2_0
    exact (List.not_mem_nil hg).elim) (fun _ _ _ _ _ _ us hl => match us, hl with | [_, _], _ => rfl)
  have A_PRIMES := PySem.W.mg_of X G ac0
  have Z_int := PySem.W.mg_none_of X G z_int
  have Z_bool := PySem.W.mg_none_of X G z_bool
  have Z_tuple := PySem.W.mg_none_of X G z_tuple
  have Z_len := PySem.W.mg_none_of X G z_len
  have Z_list := PySem.W.mg_none_of X G z_list
  have Z_range := PySem.W.mg_none_of X G z_range
  have Z_isinstance := PySem.W.mg_none_of X G z_isinstance
  have Z_repr := PySem.W.mg_none_of X G z_repr
  have Z_all := PySem.W.mg_none_of X G z_all
  have Z_divmod := PySem.W.mg_none_of X G z_divmod
  have Z_reversed := PySem.W.mg_none_of X G z_reversed
  have Z_any := PySem.W.mg_none_of X G z_any
  have Z_zip := PySem.W.mg_none_of X G z_zip
  have Z_min := PySem.W.mg_none_of X G z_min
  have Z_max := PySem.W.mg_none_of X G z_max
  have Z_enumerate := PySem.W.mg_none_of X G z_enumerate
  have Z_sorted := PySem.W.mg_none_of X G z_sorted
  have Z_set := PySem.W.mg_none_of X G z_set
  have Z_dict := PySem.W.mg_none_of X G z_dict
  have BB : Blt mg := ⟨Z_int, Z_bool, Z_tuple, Z_len, Z_list, Z_range, Z_isinstance, Z_repr, Z_all, Z_divmod, Z_reversed⟩
  have ZZ : McC K mg C := ⟨C_Machine, at0_0, at0_1, at0_2, at0_3, GC_Machine, fun n hn => by
    unfold offOwn at hn
    obtain rfl | hn := List.mem_cons.mp hn
    · exact no0_int
    obtain rfl | hn := List.mem_cons.mp hn
    · exact no0_bool
    obtain rfl | hn := List.mem_cons.mp hn
    · exact no0_NoneType
    obtain rfl | hn := List.mem_cons.mp hn
    · exact no0_str
    obtain rfl | hn := List.mem_cons.mp hn
    · exact no0_list
    obtain rfl | hn := List.mem_cons.mp hn
    · exact no0_tuple
    obtain rfl | hn := List.mem_cons.mp hn
    · exact no0_dict
    exact (List.not_mem_nil hn).elim⟩
  have GCM := ok_cm (P := l.prog) (w := w) (mg := mg) (base := base) E_check_machine.fn BB Z_any Z_zip E_is_integer E_is_integers E_is_row E_check_prime R_BadNumber R_BadRow R_Unlike A_PRIMES kc0
  have GMI := ok_mi (P := l.prog) (w := w) (mg := mg) (base := base) Fm0_0 BB E_check_machine ZZ GCM
  have GXP := ok_xp (P := l.prog) (w := w) (mg := mg) (base := base) E_explored.fn BB Z_enumerate E_explored_from
  have GGB := ok_gb (P := l.prog) (w := w) (mg := mg) (base := base) (T := TT Pt0 Pt1 Pt2) lf8 cf8 (TB _ (.tail _ (.head _))) (.tail _ (.head _)) (fun p hp e => by
    obtain rfl | hp := List.mem_cons.mp hp
    · exact absurd e neP01
    obtain rfl | hp := List.mem_cons.mp hp
    · rfl
    obtain rfl | hp := List.mem_cons.mp hp
    · exact absurd e.symm neP12
    · exact (List.not_mem_nil hp).elim)
  have GMS := ok_ms (P := l.prog) (w := w) (mg := mg) (base := base) (T := TT Pt0 Pt1 Pt2) E_met_states.fn BB E_explored GXP E_going_by.k E_going_by.g E_going_by.b GGB
  have GCL := ok_cls (P := l.prog) (w := w) (mg := mg) (base := base) E_classes_of.fn BB Z_zip Z_max E_numbered
  have GLS := ok_lst (P := l.prog) (w := w) (mg := mg) (base := base) (T := TT Pt0 Pt1 Pt2) BB Z_enumerate lf11 cf11 (TB _ (.tail _ (.tail _ (.head _)))) (.tail _ (.tail _ (.head _))) (fun p hp e => by
    obtain rfl | hp := List.mem_cons.mp hp
    · exact absurd e neP02
    obtain rfl | hp := List.mem_cons.mp hp
    · exact absurd e neP12
    obtain rfl | hp := List.mem_cons.mp hp
    · rfl
    · exact (List.not_mem_nil hp).elim) E_classes_of.k E_classes_of.g E_classes_of.b GCL E_explored.k E_explored.g E_explored.b GXP
  have GLM := ok_lmd (P := l.prog) (w := w) (mg := mg) (base := base) (T := TT Pt0 Pt1 Pt2) E_least_made.fn BB ZZ K_Machine B_Machine___init__ GMI E_met_states.k E_met_states.g E_met_states.b GMS E_least_states.k E_least_states.g E_least_states.b GLS
  have GMP := ok_mp (P := l.prog) (w := w) (mg := mg) (base := base) (T := TT Pt0 Pt1 Pt2) E_mapped.fn BB ZZ Z_sorted R_BadNumber E_met_states GMS E_least_made GLM
  have GLN := ok_ln (P := l.prog) (w := w) (mg := mg) (base := base) E_least_numbers.fn BB Z_enumerate Z_min
  have GCO := ok_cmn (P := l.prog) (w := w) (mg := mg) (base := base) E_comes.fn BB ZZ Z_min Z_sorted E_least_numbers GLN
  have GLL := ok_lcl (P := l.prog) (w := w) (mg := mg) (base := base) E__law_classes.fn BB E__law_ranks
  have GSM := ok_sm (P := l.prog) (w := w) (mg := mg) (base := base) E__law_small.fn BB E__law_classes GLL
  have GIL := ok_il (P := l.prog) (w := w) (mg := mg) (base := base) E__law_is_least.fn BB ZZ E__law_small GSM E__law_is_machine
  have GBS := ok_bs (P := l.prog) (w := w) (mg := mg) (base := base) E__law_best.fn BB E__law_number
  exact ok_law (PL := Pt0) (P0 := Pt1) (P1 := Pt2) lF cF (TB _ (.head _)) neP01 neP02 BB ZZ Z_min Z_sorted Z_set Z_dict K_Machine B_Machine___init__ GMI E__law_pen E__law_draw E__law_pick E__law_steady E__law_shuffled E__law_layers E__law_best GBS E_comes GCO E__law_small GSM E__law_is_least GIL E_mapped GMP E__law_refused ⟨xnn, ⟨e0.ga, e0.gg, e0.be, e0.hd⟩⟩ R_BadNumber
theorem walk {l : PySem.W.OpenLaw} {q : Program} {loose : List Str} {XP : (Str → Option Value) → Heap → Prop} {YP : World → Heap → Prop} {d : DefRec} {K : Params → PySem.W.Frag} {cc0 cc1 cc2 Pt0 Pt1 Pt2 : Addr} (hn : l.most = some 63) (hdf : d.params.defaults = [])
    (hY : ∀ (w : World) (h : Heap), YP w h → (K w.params).In h) (hT : ∀ (w : World) (h : Heap), YP w h → ∀ p ∈ [(cc0, Pt0), (cc1, Pt1), (cc2, Pt2)], h.get? p.2 = some { cls := .none, data := .fields #[] })
    (F : ∀ (w : World) (mg : Str → Option Value) (fa : Addr) (h : Heap), (K w.params).In h → h.Ns mainGlobals mg → mg d.name = some (.ref fa) →
      (∀ p ∈ [(cc0, Pt0), (cc1, Pt1), (cc2, Pt2)], (K w.params).lookup p.2 = none ∧ PySem.W.codeHdIn (K w.params) p.1 p.2 = true) ∧
      ∃ fd : FuncData, (∀ (s : Shared) (u : Value), BindsTo s fd ⟨[u], []⟩ [("_law_script", u)]) ∧ ∀ base : Heap, (K w.params).In base → base.Ns mainGlobals mg → (∀ p ∈ [(cc0, Pt0), (cc1, Pt1), (cc2, Pt2)], LamX.TabB base mg p.1 p.2) → FnG l.prog w (K w.params) mg base CX0 11 fa fd ["_law_script"] (spLaw (K w.params) Pt0 Pt1 Pt2)) :
    PySem.W.WalkO q loose XP YP l.row.toRowW d [] (fun f vs => PySem.call f vs) :=
  walkT (n := 63) (k := 11) (x := "_law_script") (cs := [(cc0, Pt0), (cc1, Pt1), (cc2, Pt2)]) (sp := fun w => spLaw (K w.params) Pt0 Pt1 Pt2) hn (by decide) hdf ⟨rfl, by decide, by decide⟩ hY hT F (fun _ _ a ns _ hP hS => ⟨a, ns, rfl, hS, hP _ (.head _), hP _ (.tail _ (.head _)), hP _ (.tail _ (.tail _ (.head _))), fun _ => rfl⟩)
end K71

open PySem PySem.W PyProof.Rows
set_option maxRecDepth 100000 in
set_option maxHeartbeats 0 in
theorem PySem.Challenge.cw_restcounts_k71_whole_values_that_come_holds : PySem.Challenge.rw_restcounts_k71_whole_values_that_come.Holds := by
  w_on; o_law; k_head; (case hw => w_witness2)
  k_fill
  refine' K71.walk (l := PySem.Challenge.rw_restcounts_k71_whole_values_that_come) (cc0 := ?cc0) (Pt0 := 311) (cc1 := ?cc1) (Pt1 := 159) (cc2 := ?cc2) (Pt2 := 142) rfl rfl (fun w h Y => PySem.W.km_in_of Y) (fun w h Y p hp => ?T) ?F
  case F =>
    intro w mg fa h KX G hmg
    refine' K71.all_mk KX G hmg  ?e0 ?j0 ?n0_0 ?n0_1 ?e1 ?j1 ?n1_0 ?e2 ?j2 ?n2_0 ?aC0 ?pg0 ?hd0 ?po0 ?sa0 ?ha0 ?hn0 ?ht0 ?hm0 ?me0 ?at0_0 ?at0_1 ?at0_2 ?at0_3 ?no0_int ?no0_bool ?no0_NoneType ?no0_str ?no0_list ?no0_tuple ?no0_dict ?ni0 ?mk0 ?kp0 ?af0 ?lf0 ?cf0 ?kf0 ?af1 ?lf1 ?cf1 ?kf1 ?af2 ?lf2 ?cf2 ?kf2 ?af3 ?lf3 ?cf3 ?kf3 ?af4 ?lf4 ?cf4 ?kf4 ?af5 ?lf5 ?cf5 ?kf5 ?af6 ?lf6 ?cf6 ?kf6 ?af7 ?lf7 ?cf7 ?kf7 ?af8 ?lf8 ?cf8 ?kf8 ?af9 ?lf9 ?cf9 ?kf9 ?af10 ?lf10 ?cf10 ?kf10 ?af11 ?lf11 ?cf11 ?kf11 ?af12 ?lf12 ?cf12 ?kf12 ?af13 ?lf13 ?cf13 ?kf13 ?af14 ?lf14 ?cf14 ?kf14 ?af15 ?lf15 ?cf15 ?kf15 ?af16 ?lf16 ?cf16 ?kf16 ?af17 ?lf17 ?cf17 ?kf17 ?af18 ?lf18 ?cf18 ?kf18 ?af19 ?lf19 ?cf19 ?kf19 ?af20 ?lf20 ?cf20 ?kf20 ?af21 ?lf21 ?cf21 ?kf21 ?af22 ?lf22 ?cf22 ?kf22 ?af23 ?lf23 ?cf23 ?kf23 ?af24 ?lf24 ?cf24 ?kf24 ?af25 ?lf25 ?cf25 ?kf25 ?af26 ?lf26 ?cf26 ?kf26 ?af27 ?lf27 ?cf27 ?kf27 ?af28 ?lf28 ?cf28 ?kf28 ?af29 ?lf29 ?cf29 ?kf29 ?fcm0_0 ?fnm0_0 ?lm0_0 ?cm0_0 ?km0_0 ?aF ?lF ?cF ?nP0 ?hP0 ?nP1 ?hP1 ?nP2 ?hP2 ?neP01 ?neP02 ?neP12 ?ac0 ?kc0 ?z_int ?z_bool ?z_tuple ?z_len ?z_list ?z_range ?z_isinstance ?z_repr ?z_all ?z_divmod ?z_reversed ?z_any ?z_zip ?z_min ?z_max ?z_enumerate ?z_sorted ?z_set ?z_dict ?xnn
    (case e0 => (refine' K71.ErIn.mk ?_ ?_ ?_ ?_ ?_ ?_ <;> try k_is))
    (case j0 => (refine' K71.IniIn.mk ?_ ?_ ?_ ?_ ?_ ?_ ?_ ?_ <;> try k_is))
    (case n0_0 => k_is)
    (case n0_1 => k_is)
    (case e1 => (refine' K71.ErIn.mk ?_ ?_ ?_ ?_ ?_ ?_ <;> try k_is))
    (case j1 => (refine' K71.IniIn.mk ?_ ?_ ?_ ?_ ?_ ?_ ?_ ?_ <;> try k_is))
    (case n1_0 => k_is)
    (case e2 => (refine' K71.ErIn.mk ?_ ?_ ?_ ?_ ?_ ?_ <;> try k_is))
    (case j2 => (refine' K71.IniIn.mk ?_ ?_ ?_ ?_ ?_ ?_ ?_ ?_ <;> try k_is))
    (case n2_0 => k_is)
    (case aC0 => k_is)
    (case pg0 => k_is)
    (case hd0 => k_is)
    (case po0 => k_is)
    (case sa0 => k_is)
    (case ha0 => k_is)
    (case hn0 => k_is)
    (case ht0 => k_is)
    (case hm0 => k_is)
    (case me0 => (first | kernel_rfl | k_is | kit_is | decide +kernel))
    (case at0_0 => k_is)
    (case at0_1 => k_is)
    (case at0_2 => k_is)
    (case at0_3 => k_is)
    (case no0_int => (first | kernel_rfl | k_is | kit_is | decide +kernel))
    (case no0_bool => (first | kernel_rfl | k_is | kit_is | decide +kernel))
    (case no0_NoneType => (first | kernel_rfl | k_is | kit_is | decide +kernel))
    (case no0_str => (first | kernel_rfl | k_is | kit_is | decide +kernel))
    (case no0_list => (first | kernel_rfl | k_is | kit_is | decide +kernel))
    (case no0_tuple => (first | kernel_rfl | k_is | kit_is | decide +kernel))
    (case no0_dict => (first | kernel_rfl | k_is | kit_is | decide +kernel))
    (case ni0 => (first | kernel_rfl | k_is | kit_is | decide +kernel))
    (case mk0 => k_is)
    (case kp0 => k_is)
    (case af0 => k_is)
    (case lf0 => k_is)
    (case cf0 => k_is)
    (case kf0 => k_is)
    (case af1 => k_is)
    (case lf1 => k_is)
    (case cf1 => k_is)
    (case kf1 => k_is)
    (case af2 => k_is)
    (case lf2 => k_is)
    (case cf2 => k_is)
    (case kf2 => k_is)
    (case af3 => k_is)
    (case lf3 => k_is)
    (case cf3 => k_is)
    (case kf3 => k_is)
    (case af4 => k_is)
    (case lf4 => k_is)
    (case cf4 => k_is)
    (case kf4 => k_is)
    (case af5 => k_is)
    (case lf5 => k_is)
    (case cf5 => k_is)
    (case kf5 => k_is)
    (case af6 => k_is)
    (case lf6 => k_is)
    (case cf6 => k_is)
    (case kf6 => k_is)
    (case af7 => k_is)
    (case lf7 => k_is)
    (case cf7 => k_is)
    (case kf7 => k_is)
    (case af8 => k_is)
    (case lf8 => k_is)
    (case cf8 => k_is)
    (case kf8 => k_is)
    (case af9 => k_is)
    (case lf9 => k_is)
    (case cf9 => k_is)
    (case kf9 => k_is)
    (case af10 => k_is)
    (case lf10 => k_is)
    (case cf10 => k_is)
    (case kf10 => k_is)
    (case af11 => k_is)
    (case lf11 => k_is)
    (case cf11 => k_is)
    (case kf11 => k_is)
    (case af12 => k_is)
    (case lf12 => k_is)
    (case cf12 => k_is)
    (case kf12 => k_is)
    (case af13 => k_is)
    (case lf13 => k_is)
    (case cf13 => k_is)
    (case kf13 => k_is)
    (case af14 => k_is)
    (case lf14 => k_is)
    (case cf14 => k_is)
    (case kf14 => k_is)
    (case af15 => k_is)
    (case lf15 => k_is)
    (case cf15 => k_is)
    (case kf15 => k_is)
    (case af16 => k_is)
    (case lf16 => k_is)
    (case cf16 => k_is)
    (case kf16 => k_is)
    (case af17 => k_is)
    (case lf17 => k_is)
    (case cf17 => k_is)
    (case kf17 => k_is)
    (case af18 => k_is)
    (case lf18 => k_is)
    (case cf18 => k_is)
    (case kf18 => k_is)
    (case af19 => k_is)
    (case lf19 => k_is)
    (case cf19 => k_is)
    (case kf19 => k_is)
    (case af20 => k_is)
    (case lf20 => k_is)
    (case cf20 => k_is)
    (case kf20 => k_is)
    (case af21 => k_is)
    (case lf21 => k_is)
    (case cf21 => k_is)
    (case kf21 => k_is)
    (case af22 => k_is)
    (case lf22 => k_is)
    (case cf22 => k_is)
    (case kf22 => k_is)
    (case af23 => k_is)
    (case lf23 => k_is)
    (case cf23 => k_is)
    (case kf23 => k_is)
    (case af24 => k_is)
    (case lf24 => k_is)
    (case cf24 => k_is)
    (case kf24 => k_is)
    (case af25 => k_is)
    (case lf25 => k_is)
    (case cf25 => k_is)
    (case kf25 => k_is)
    (case af26 => k_is)
    (case lf26 => k_is)
    (case cf26 => k_is)
    (case kf26 => k_is)
    (case af27 => k_is)
    (case lf27 => k_is)
    (case cf27 => k_is)
    (case kf27 => k_is)
    (case af28 => k_is)
    (case lf28 => k_is)
    (case cf28 => k_is)
    (case kf28 => k_is)
    (case af29 => k_is)
    (case lf29 => k_is)
    (case cf29 => k_is)
    (case kf29 => k_is)
    (case fcm0_0 => k_is)
    (case fnm0_0 => k_is)
    (case lm0_0 => k_is)
    (case cm0_0 => k_is)
    (case km0_0 => k_is)
    (case aF => k_is)
    (case lF => k_is)
    (case cF => k_is)
    (case nP0 => (first | kernel_rfl | k_is | kit_is | decide +kernel))
    (case hP0 => (first | kernel_rfl | k_is | kit_is | decide +kernel))
    (case nP1 => (first | kernel_rfl | k_is | kit_is | decide +kernel))
    (case hP1 => (first | kernel_rfl | k_is | kit_is | decide +kernel))
    (case nP2 => (first | kernel_rfl | k_is | kit_is | decide +kernel))
    (case hP2 => (first | kernel_rfl | k_is | kit_is | decide +kernel))
    (case neP01 => decide)
    (case neP02 => decide)
    (case neP12 => decide)
    (case ac0 => k_is)
    (case kc0 => (first | kernel_rfl | k_is | kit_is | decide +kernel))
    (case z_int => k_is)
    (case z_bool => k_is)
    (case z_tuple => k_is)
    (case z_len => k_is)
    (case z_list => k_is)
    (case z_range => k_is)
    (case z_isinstance => k_is)
    (case z_repr => k_is)
    (case z_all => k_is)
    (case z_divmod => k_is)
    (case z_reversed => k_is)
    (case z_any => k_is)
    (case z_zip => k_is)
    (case z_min => k_is)
    (case z_max => k_is)
    (case z_enumerate => k_is)
    (case z_sorted => k_is)
    (case z_set => k_is)
    (case z_dict => k_is)
    (case xnn => (first | kernel_rfl | k_is | kit_is | decide +kernel))
  case T =>
    obtain z | hp := List.mem_cons.mp hp
    · rw [z]
      exact PySem.W.km_tabs_of Y _ (by decide)
    obtain z | hp := List.mem_cons.mp hp
    · rw [z]
      exact PySem.W.km_tabs_of Y _ (by decide)
    obtain z | hp := List.mem_cons.mp hp
    · rw [z]
      exact PySem.W.km_tabs_of Y _ (by decide)
    · exact (List.not_mem_nil hp).elim

