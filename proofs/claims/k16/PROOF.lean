import PyProof.Rows.All
import Wide.All
import OpenK.AllK
import Wide.FinOn
import HandS.ForMost
import HandS.ExcInit
import HandS.ExcField
import HandS.ExcOwn
import HandS.IsInst
import KE.KExcIs
import HandS.Exc
import HandS.Lambda
import HandS.EndTab
import KE.KNestM
import HandS.Wide
import HandS.Evl
import HandS.Walk
import HandS.WordsExc
import HandS.Rev
import HandS.Dict
import KE.SortData
import HandS.SortKw
import HandS.NoneIn
import HandS.Conv
import KE.KOpsOwn
import HandS.OwnEq
import HandS.SlotsOwn
import HandS.More
import PyProof.P3Eq
import HandS.Codes
import KE.KDictPairs
import KE.KDictDisplayH
import HandS.Style
import HandS.Defaults
import HandS.Text
import HandS.Strs
import HandS.Zip
import KE.GoesMore
import KE.GoesZip
import PyProof.EnumMake
import KE.KEqDict
import HandS.StrMore
import PyProof.ListStr
import PySem.Challenge.RW_restcounts_k16_first_wrong_signs_of_sums
set_option Elab.async false
set_option linter.all false
set_option maxRecDepth 100000
set_option maxHeartbeats 4000000
/-! Gd: defs whose promise leans on there being no repr under way around them; calls of such; a law's end over such. -/
namespace Gd
open PySem PySem.Spec PyProof.Rows L2

/-- a promise kept wherever no guard stands around -/
structure FnG (P : Program) (w : World) (K : PySem.W.Frag) (mg : Str → Option Value) (base : Heap)
    (CX : CXT) (k : Nat) (f : Addr) (fd : FuncData) (ps : List Str) (sp : Sp) : Prop where
  len : ∀ vs H Q E, sp vs H Q E → vs.length = ps.length
  go : ∀ (A : Around) (outer : List Env) (s : Shared) (H : Hp) (args : Args) (us : List Value) (vs : List V) (Q : VK) (E : XK),
    A.guards = some [] → Room k A → Env0 P w K mg base A outer s H →
    BindsTo s fd args (ps.zip us) → Vals vs us → sp vs H Q E →
    codeAny (model P w) A (.call (.ref f) args) (CR CX outer P w H s Q E) s

section
variable {P : Program} {w : World} {K : PySem.W.Frag} {mg : Str → Option Value} {base : Heap} {CX : CXT}

theorem FnG.ofOk {k : Nat} {f : Addr} {fd : FuncData} {ps : List Str} {sp : Sp}
    (F : FnOk P w K mg base CX k f fd ps sp) : FnG P w K mg base CX k f fd ps sp where
  len := F.len
  go := fun A outer s H args us vs Q E _ => F.run A outer s H args us vs Q E

/-- a def by its body, where the guards are none -/
theorem fnG_of {k : Nat} {f : Addr} {name qual : Str} {params : Arguments} {body : List Stmt} {scope : Scope}
    {dV kV doc pm cdv ct oc : Value} {an od : Option Addr} {osl : Array (Option Value)} {N ps : List Str} {sp : Sp}
    (lk : K.lookup f = some ⟨oc, od, .func (PySem.W.fnOf name qual params body scope dV kV doc pm an cdv ct), osl⟩)
    (hcd : PySem.W.codeIn K cdv qual = true) (S : FnScope N ps scope)
    (len : ∀ vs H Q E, sp vs H Q E → vs.length = ps.length)
    (B : ∀ (A : Around) (outer : List Env) (s : Shared) (H : Hp) (vs : List V) (Q : VK) (E : XK),
      A.guards = some [] → Room k (A.deeper (envOfC qual scope s.heap.objs.size f cdv)) → sp vs H Q E →
      ∃ t, PSs (cxOf CX P w K mg base N qual scope f cdv A outer s H E) body t ∧
        t { nx := fun _ H' => Q .non H', rt := Q } (start N vs) H) :
    FnG P w K mg base CX (k + 1) f (PySem.W.fnOf name qual params body scope dV kV doc pm an cdv ct) ps sp where
  len := len
  go := by
    intro A outer s H args us vs Q E hgd room env0 hbind rel hs
    have hlen := len _ _ _ _ hs
    have old : ∀ b o, base.get? b = some o → s.heap.get? b = some o := fun b o h => (env0.bs b o h).1
    have kin := env0.mod.kin.keeps old
    have nolim := env0.mod.nolimit.keeps old
    refine codeAny_call_function room.depth (kin _ _ lk) rfl S.co S.gen rfl
      (PySem.W.codeRec_of kin hcd) (hbind _ _ _ _ ?_)
    refine wpAny_newFunctionEnv_cells S.kind ?kinds fun env he s1 inC => ?_
    case kinds =>
      rintro ⟨n, v⟩ hm
      have hn := S.par n (List.of_mem_zip hm).1
      exact hn.imp (fun q => q) fun q => ⟨q, PySem.W.cellsFrom_some _ _ _ (.inl q)⟩
    subst he
    refine ⟨nolim.keeps inC.toInCall.keep, codeAny_func ?_⟩
    have ⟨t, derived, reading⟩ := B A outer s H vs Q E hgd (room.deeper _) hs
    have inv0 := inv_start (CX := CX) (E := E) S room.hd env0 hlen rel inC
    refine wpAny_mono (derived.run [] s1 (start N vs) H _ inv0 reading) ?_ fun _ _ he => he
    intro fl s' hfl
    match fl, hfl with
    | .ret _, ⟨v, _, H', J, rv, q⟩ => exact ⟨v, H', J.os, J.bare, J.base, J.hok, rv, q⟩
    | .next, ⟨_, H', J, q⟩ => exact ⟨V.non, H', J.os, J.bare, J.base, J.hok, rfl, q⟩
    | .brk, ⟨_, _, _, q⟩ => exact q.elim
    | .cont, ⟨_, _, _, q⟩ => exact q.elim

/-- for a def of the text that no exception leaves -/
theorem okG {x qual : Str} {st : Stmt} {f : Addr} {fd : FuncData} {N ps : List Str} {k : Nat} {sp : Sp}
    (F : Fun K x qual st f fd) (S : FnScope N ps (defScope st)) (len : ∀ vs H Q E, sp vs H Q E → vs.length = ps.length)
    (B : ∀ (cdv : Value) (A : Around) (outer : List Env) (s : Shared) (H : Hp) (vs : List V) (Q : VK) (E : XK),
      A.guards = some [] → Room k (A.deeper (envOfC qual (defScope st) s.heap.objs.size f cdv)) → sp vs H Q E →
      ∃ t, PSs (cxOf CX0 P w K mg base N qual (defScope st) f cdv A outer s H E).nox (defBody st) t ∧
        t { nx := fun _ H' => Q .non H', rt := Q } (start N vs) H) : FnG P w K mg base CX0 (k + 1) f fd ps sp := by
  have ⟨oc, od, kV, doc, pm, an, cdv, ct, osl, e, lk, hcd⟩ := F.ex
  subst e
  refine fnG_of lk hcd S len ?_
  intro A outer s H vs Q E hgd room hs
  have ⟨t, d, q⟩ := B cdv A outer s H vs Q E hgd room hs
  exact ⟨t, d.nox, q⟩
end

section
variable {X : Cx} {CX : CXT} {k : Nat} {f : Addr} {fd : FuncData} {ps : List Str} {sp : Sp} {dvs : List V} {ds : List Value} {E : XK}
/-- the call of such a def -/
theorem run_fnG {pins : List (Addr × Obj)} {σ : L2.St} {H : Hp} {s : Shared} {Q : VK} {us : List Value} {vs : List V}
    (F : FnG X.prog X.w X.K X.mg X.base CX k f fd ps sp) (hgd : X.A.guards = some []) (room : Room k X.A)
    (hb : Binds X.K fd ps ds) (hd : Vals dvs ds) (hx : Passes CX X E) (I : Inv X pins σ H s) (r : Vals vs us)
    (h : sp (vs ++ dvs) H Q E) : wpAny (model X.prog X.w) X.A (call (.ref f) us) (EP X pins σ Q) X.xe s := by
  have rr := r.append hd
  have hlen := F.len _ _ _ _ h
  rw [rr.length] at hlen
  have c := F.go X.A X.stack s H ⟨us, []⟩ (us ++ ds) (vs ++ dvs) Q E hgd room I.env0 (hb s us I.kIn hlen) rr h
  refine wpAny_call (codeAny_mono c ?_)
  intro res s' hres
  match res, hres with
  | .error e, he => exact hx pins σ H s e s' I he
  | .ok (.ret u), he => exact I.after he
  | .ok .next, he => exact he.elim
  | .ok .brk, he => exact he.elim
  | .ok .cont, he => exact he.elim

theorem pe_callG {x : Str} {p pos : Pos} {e : Expr} {es : List Expr} {t : TA}
    (F : FnG X.prog X.w X.K X.mg X.base CX k f fd ps sp) (hgd : X.A.guards = some []) (hr : Room k X.A) (hg : Gl X x)
    (hm : X.mg x = some (.ref f)) (hk : PySem.W.keepIn X.K (.ref f) = true) (hb : Binds X.K fd ps ds) (hd : Vals dvs ds)
    (hx : Passes CX X E) (ha : PA X (e :: es) t) (hdb : (x == ("__debug__" : Str)) = false := by decide)
    (he : starEach (e :: es) X.env = (false, eval e X.env) :: starEach es X.env := by rfl)
    (hpl : (backTo pos (starEach es X.env)).any (·.1) = false := by rfl) :
    PE X (.Call (.Name x p) (e :: es) [] pos) (tCall sp dvs E t) where
  run := by
    intro pins s σ H Q I h
    refine wpAny_Call_Name_kw (ld_glob I hg hm ?_ hdb)
    refine PySem.W.callWith_K (h₀ := X.base) I.ok.mod.kin hk ?_ he hpl
    refine thn (ha.run pos pins s σ H _ I h) ?_
    rintro us s1 ⟨vs, H1, I1, rel, q⟩
    exact ⟨I1.kIn, run_fnG F hgd hr hb hd hx I1 rel q⟩
end

/-! ### repr of data -/
mutual
theorem dp_nodict {K : PySem.W.Frag} {H : Hp} : ∀ (d : PyData) (v : V), Dp K H v d → d.hasDict = false
  | .none, _, _ => by simp only [PyData.hasDict]
  | .bool _, _, _ => by simp only [PyData.hasDict]
  | .int _, _, _ => by simp only [PyData.hasDict]
  | .str _, _, _ => by simp only [PyData.hasDict]
  | .list ds, _, h => by
    cases h with
    | lst _ ha => simp only [PyData.hasDict]; exact dpAll_nodict ds _ ha
  | .tuple ds, _, h => by
    cases h with
    | tup _ ha => simp only [PyData.hasDict]; exact dpAll_nodict ds _ ha
  | .dict _, _, h => by cases h
theorem dpAll_nodict {K : PySem.W.Frag} {H : Hp} : ∀ (ds : List PyData) (vs : List V), DpAll K H vs ds → PyData.hasDictAll ds = false
  | [], _, _ => by simp only [PyData.hasDictAll]
  | d :: ds, _, h => by
    cases h with
    | cons a b => simp only [PyData.hasDictAll, dp_nodict d _ a, dpAll_nodict ds _ b, Bool.or_self]
end

/-- repr(x) of data without dicts -/
def rRepr (K : PySem.W.Frag) : List V → Hp → VK → Prop := fun xs H Q => ∃ x d, xs = [x] ∧ Dp K H x d ∧
  d.showable = true ∧ d.depth ≤ 60 ∧ d.shown.length ≤ sizeLine ∧ Q (.str d.shown) H
theorem call_repr {X : Cx} (hgd : X.A.guards = some []) (hu : X.A.units + 64 < cLine) : CallR X (.builtin "repr") (rRepr X.K) := by
  intro pins s σ H xs us Q I rel h
  obtain ⟨x, d, rfl, dp, sh, hd, hz, q⟩ := h
  cases rel with
  | cons rx rt =>
    cases rt
    rename_i u
    obtain ⟨as, rd⟩ := Dp.reads I d x u dp rx
    have nod := dp_nodict d x dp
    cases dp with
    | non =>
      cases rx
      exact PySem.P.repr_of_none ⟨.str _, H, I.tok _, ⟨_, rfl⟩, q⟩
    | bl b =>
      cases rx
      exact PySem.P.repr_of_bool ⟨.str _, H, I.tok _, ⟨_, rfl⟩, q⟩
    | int i =>
      obtain ⟨t, rfl⟩ := rx
      exact PySem.P.repr_of_int (by simpa [PyData.showable] using sh) ⟨.str _, H, I.tok _, ⟨_, rfl⟩, q⟩
    | str z =>
      obtain ⟨t, rfl⟩ := rx
      exact PySem.P.repr_of_str ⟨.str _, H, I.tok _, ⟨_, rfl⟩, q⟩ (by simpa only [PyData.shown] using hz)
    | lst _ _ =>
      cases rx
      exact repr_of_reads' rd sh (PySem.PyData.noDict_hsm nod) hgd (by omega) (fun _ _ e => e) (fun h' t tk k => ⟨.str _, H, I.kept k, ⟨_, rfl⟩, q⟩) hz
    | tup _ _ =>
      cases rx
      exact repr_of_reads' rd sh (PySem.PyData.noDict_hsm nod) hgd (by omega) (fun _ _ e => e) (fun h' t tk k => ⟨.str _, H, I.kept k, ⟨_, rfl⟩, q⟩) hz
end Gd

/-! Ex: errors of own classes as values: made, their fields read, asked for their class. -/
namespace Gd
open PySem PySem.Spec PyProof.Rows L2

/-- what isinstance and the fields ask of such a class -/
structure ErC (K : PySem.W.Frag) (C : Addr) : Prop where
  ga : PySem.W.findIn K (.ref C) "__getattribute__" = some (some (.builtin "BaseException.__getattribute__"))
  gg : PySem.W.findIn K (.ref C) "__getattr__" = some none
  be : PySem.W.subIn K (.ref C) (.type "BaseException") = some true
  hd : PySem.W.hasDictIn K C = true
  ci : PySem.W.isClsIn K C = true
  cc : PySem.W.findIn K (.ref C) "__class__" = some (some (.builtin "object.__class__"))
  cg : PySem.W.specialIn K (.builtin "object.__class__") "__get__" = some (some (.builtin "getset_descriptor.__get__"))
  ct : PySem.W.takesIn K (.builtin "object.__class__") = some true
  om : PySem.W.mroIn K C (.type "object") = some true

section
variable {X : Cx} {CX : CXT} {pins : List (Addr × Obj)} {σ : L2.St} {H : Hp} {s : Shared}

/-- an error of the class at C stands at a, its fields fs (the last stored first) -/
def ErA (H : Hp) (a C : Addr) (fs : List (Str × V)) : Prop :=
  (H a = some (exo a C none) ∧ fs = []) ∨ ∃ d, H a = some (exo a C (some d)) ∧ H d = some (exd d fs)

/-- such an error, as the library's rules see it -/
theorem inst_of {a C : Addr} {fs : List (Str × V)} (I : Inv X pins σ H s) (e : ErA H a C fs) :
    ∃ ox od, PySem.W.InstAt s.heap a ox C od ∧ ∀ n v, fs.lookup n = some v →
      ∃ u o, od = some o ∧ PySem.W.lookIn n o = some (some u) ∧ RelV v u := by
  obtain ⟨e, rfl⟩ | ⟨d, e, ed⟩ := e
  · obtain ⟨t, ho⟩ := exo_at I.hok e
    exact ⟨_, none, ⟨ho, rfl, rfl, trivial⟩, fun n v z => by cases z⟩
  · obtain ⟨t, ho⟩ := exo_at I.hok e
    obtain ⟨mA, hns, rel⟩ := exd_at I.hok ed
    obtain ⟨od, hod, look⟩ := lookIn_ns hns
    refine ⟨_, some od, ⟨ho, rfl, rfl, hod⟩, fun n v z => ?_⟩
    have rn := rel n
    rw [z] at rn
    cases q : mA n with
    | none => rw [q] at rn; exact rn.elim
    | some u =>
      rw [q] at rn
      exact ⟨u, od, rfl, by rw [look, q], rn⟩

/-- isinstance(e, c) -/
def rIsEr (K : PySem.W.Frag) : List V → Hp → VK → Prop := fun xs H Q => ∃ (a C : Addr) (fs : List (Str × V)) (c : V) (u : Value) (b : Bool),
  xs = [.ref a, c] ∧ ErA H a C fs ∧ ErC K C ∧ ClsV c u ∧ PySem.W.kitOne K (.ref C) u = some b ∧ Q (.bl b) H
theorem call_isEr : CallR X (.builtin "isinstance") (rIsEr X.K) := by
  intro pins s σ H xs us Q I rel h
  obtain ⟨a, C, fs, c, u, b, rfl, ea, T, kc, kit, q⟩ := h
  obtain ⟨u1, u2, rfl, r1, r2⟩ := vals2 rel
  cases (show u1 = Value.ref a from r1)
  have e2 := kc.eq r2
  subst e2
  obtain ⟨ox, od, J, _⟩ := inst_of I ea
  have Z := PySem.W.kitx_exc (x := a) (ox := ox) (od := od) (K := X.K) T.ci T.ga T.gg T.be T.cc T.cg T.ct T.om
  exact PySem.W.kia_one Z I.kIn J kit (fun z => nomatch z) fun tk => ⟨.bl b, H, I.tok tk, rfl, q⟩

/-- e.f -/
def tErF (K : PySem.W.Frag) (f : Str) (te : TE) : TE := fun σ H Q => te σ H fun x H1 => ∃ (a C : Addr) (fs : List (Str × V)) (v : V),
  x = .ref a ∧ ErA H1 a C fs ∧ ErC K C ∧ PySem.W.findIn K (.ref C) f = some none ∧ fs.lookup f = some v ∧ Q v H1
theorem pe_erF {e : Expr} {te : TE} {pos : Pos} {f : Str} (he : PE X e te)
    (hb : attributeBase e f X.env (eval e X.env) = eval e X.env := by rfl) : PE X (.Attribute e f pos) (tErF X.K f te) where
  run := by
    intro pins s σ H Q I h
    refine attr_of hb (thn (he.run pins s σ H _ I h) ?_)
    rintro u s1 ⟨x, H1, I1, rx, a, C, fs, v, ex, ea, T, no, l, q⟩
    subst ex
    cases (show u = Value.ref a from rx)
    obtain ⟨ox, od, J, g⟩ := inst_of I1 ea
    obtain ⟨u, o, rfl, lk, ru⟩ := g f v l
    exact HandSPX.exc_get I1.kIn J T.ga T.gg T.be (PySem.W.findObj_own T.hd no rfl lk) (handed_of ru) ⟨v, H1, I1.tok _, ru, q⟩

/-- C(), an error class without an __init__ of its own -/
def tEr0 (C : Addr) : TE := fun _ H Q => ∀ a, H a = none → Q (.ref a) (upd H a (exo a C none))
theorem pe_er0 {C : Addr} {bmB : List Value} {B newId initId : String} {x : Str} {p pos : Pos} (F : ExcBaseFacts B newId initId bmB)
    (q : PySem.W.excIn X.K C bmB newId = true) (gC : X.mg x = some (.ref C)) (kC : PySem.W.keepIn X.K (.ref C) = true) (hg : Gl X x)
    (hdb : (x == ("__debug__" : Str)) = false := by decide) : PE X (.Call (.Name x p) [] [] pos) (tEr0 C) where
  run := by
    intro pins s σ H Q I h
    refine wpAny_Call_Name_kw (ld_glob I hg gC ?_ hdb)
    refine PySem.W.callWith_K0 I.kIn kC ?_
    obtain ⟨bm, N, nm, qn, bs, hdct, sn, sub, ab, col, dd, k0, k1, k2, k3, k5, mN, hC, hN, hni, T⟩ := exc_obj I.kIn q
    obtain ⟨hp, g, d, t, os⟩ := s
    refine wpAny_call_exc_subT F T hC hN hni ?_ (by show 0 ≤ sizeLine; exact Nat.zero_le _)
    intro h' a hm
    have fresh : H a = none := I.hok.gone hm.new
    obtain ⟨t0, ht, _, _⟩ := hm.there
    have lay : ObjOk X.prog X.w (upd H a (exo a C none)) h' a (exo a C none) := exo_ok ht
    refine ⟨.ref a, _, I.un (t' := t) ?_ ?_, rfl, h a fresh⟩
    · exact {
        keep := fun b u z _ _ _ => hm.keeps b u z
        slot := fun b u z _ _ _ => ⟨u.slots, hm.keeps b u z⟩
        free := fun b u z n _ => by rw [upd_ne (fun e => by rw [e] at z; have := hm.new; rw [this] at z; cases z)]; exact n
        there := fun b u z _ => ⟨u, hm.keeps b u z⟩
        tups := fun b xs z => by rw [upd_ne (ne_of_none z fresh)]; exact z
        frzs := fun b o u z => by rw [upd_ne (ne_of_none z fresh)]; exact z
        tbls := fun b ps z => ⟨#[], by rw [upd_ne (ne_of_none z fresh), z]; simp⟩ }
    · intro b u z
      by_cases e : b = a
      · subst e
        rw [upd_same] at z
        cases z
        exact lay
      · rw [upd_ne e] at z
        exact (I.hok b u z).stay (fun c v _ y => hm.keeps c v y) (fun c y => by rw [upd_ne (ne_of_none y fresh)]; exact y)
          fun c xs y => by rw [upd_ne (ne_of_none y fresh)]; exact y

/-- C(e, ..), C's own __init__ keeping sp -/
def tErI (C : Addr) (sp : Sp) (ta : TA) : TE := fun σ H Q => ta σ H fun vs H1 => vs.length ≤ 1000 ∧ ∀ a, H1 a = none →
  sp (.ref a :: vs) (upd H1 a (exo a C none)) (fun v H2 => v = .non ∧ Q (.ref a) H2) (fun _ _ _ => False)
theorem pe_erI {x : Str} {C fI : Addr} {k : Nat} {fd : FuncData} {ps : List Str} {sp : Sp} {e : Expr} {es : List Expr} {ta : TA} {p pos : Pos}
    (T : OexC X.K C) (iC : PySem.W.findIn X.K (.ref C) "__init__" = some (some (.ref fI))) (tI : PySem.W.typeIn X.K (.ref fI) = some (.type "function"))
    (F1 : FnOk X.prog X.w X.K X.mg X.base CX k fI fd ps sp) (hr : Room (k + 1) X.A) (hb : Binds X.K fd ps [])
    (hx : Passes CX X (fun _ _ _ => False)) (hg : Gl X x) (hm : X.mg x = some (.ref C)) (ha : PA X (e :: es) ta)
    (hdb : (x == ("__debug__" : Str)) = false := by decide)
    (he : starEach (e :: es) X.env = (false, eval e X.env) :: starEach es X.env := by rfl)
    (hpl : (backTo pos (starEach es X.env)).any (·.1) = false := by rfl) :
    PE X (.Call (.Name x p) (e :: es) [] pos) (tErI C sp ta) where
  run := by
    intro pins s σ H Q I h
    obtain ⟨nm, q, N, bs, bm, sn, sub, ab, col, dd, k0, k1, k2, k3, k5, hC, hbm⟩ := T.cls
    refine wpAny_Call_Name_kw (ld_glob I hg hm ?_ hdb)
    refine PySem.W.callWith_K (h₀ := X.base) I.ok.mod.kin T.kC (thn (ha.run pos pins s σ H _ I h) ?_) he hpl
    rintro us s1 ⟨vs, H1, I1, rel, few, next⟩
    refine ⟨I1.kIn, ?_⟩
    show wpAny _ _ (call (.ref C) us) _ _ _
    obtain ⟨hp, g, dr, tk, os⟩ := s1
    have above : hp.objs.size ≤ hp.objs.size + 1 := Nat.le_succ _
    have call := next (hp.objs.size + 1) (I1.hok.fresh above)
    have kept : ∀ b o, hp.get? b = some o → ((hp.push (PySem.W.kdv_tup us)).push (PySem.HandSPX.excO C hp.objs.size)).get? b = some o :=
      fun b o z => Heap.get?_push_of_some _ (Heap.get?_push_of_some _ z)
    have there : ((hp.push (PySem.W.kdv_tup us)).push (PySem.HandSPX.excO C hp.objs.size)).get? (hp.objs.size + 1) = some (PySem.HandSPX.excO C hp.objs.size) := by heap_get
    have I2 := I1.laid (t' := tk) (o := exo (hp.objs.size + 1) C none) kept above (exo_ok there)
    have rel2 : Vals (V.ref (hp.objs.size + 1) :: vs) (Value.ref (hp.objs.size + 1) :: us) := .cons rfl rel
    have len2 : (Value.ref (hp.objs.size + 1) :: us ++ []).length = ps.length := by
      rw [List.append_nil, ← rel2.length]
      exact F1.len _ _ _ _ call
    have usz : us.length ≤ sizeLine := by
      have := Paired.length rel
      rw [sizeLine_eq]
      omega
    have bound := hb _ (Value.ref (hp.objs.size + 1) :: us) I2.kIn len2
    rw [List.append_nil] at bound
    refine wpAny_call (PySem.HandSPX.call_own F.excBase_ValueError (fun Y => PySem.HandSPX.refsVE_contains Y bm hbm) (I1.kIn _ _ hC)
      (PySem.W.looks_findIn I1.kIn iC) (fun self => PySem.W.bind_fn I1.kIn self tI) usz ?_)
    refine codeAny_mono (F1.run _ X.stack _ _ ⟨Value.ref (hp.objs.size + 1) :: us, []⟩ _ _ _ (fun _ _ _ => False) (hr.make C us [])
      (I2.env0.make C us []) bound rel2 call) ?_
    intro r s' hr'
    match r, hr' with
    | .error er, z => exact hx pins σ _ _ er s' I2 z
    | .ok (.ret u), z =>
      obtain ⟨v, H2, I3, rv, ev, q2⟩ := I2.after z
      subst ev
      exact ⟨rv, ⟨V.ref (hp.objs.size + 1), H2, I3, rfl, q2⟩⟩
    | .ok .next, z => exact z.elim
    | .ok .brk, z => exact z.elim
    | .ok .cont, z => exact z.elim
end
end Gd

/-! Ge: the end of a law row over a def of the kind FnG. -/
namespace Gd
open PySem PySem.Spec PyProof.Rows L2

/-- what the law's call finds: an abstract heap that tracks the script at most, a base without it -/
structure Entry (P : Program) (w : World) (K : PySem.W.Frag) (mg : Str → Option Value) (s : Shared) (a : Addr) (ns : List Int)
    (H : Hp) (base : Heap) : Prop where
  only : Only H
  script : SqL K H a (ns.map V.int)
  kin : K.In base
  glob : base.Ns mainGlobals mg
  env : Env0 P w K mg base callerA [] s H
  old : ∀ (H' : Hp) (s' : Shared), Un [] [] H H' s.heap s'.heap → HOk P w H' s'.heap → PySem.OldK s.heap s'.heap

section
variable {P : Program} {w : World} {K : PySem.W.Frag} {mg mb : Str → Option Value} {s : Shared} {a : Addr} {vs : List Value} {ns : List Int}
theorem entry_of {H : Hp} (kin : K.In s.heap) (hns : s.heap.Ns mainGlobals mg) (hb : s.heap.Ns builtinsNs mb)
    (hbb : ∀ x : Str, x ≠ "__name__" → mb x = bootBuiltins x) (hlim : s.heap.NoLimit) (hg : s.gens = #[])
    (ha : s.heap.get? a = some { cls := .type "list", data := .seq vs.toArray })
    (o1 : Only H) (o2 : SqL K H a (ns.map V.int)) (o3 : HOk P w H s.heap) (o4 : ∀ b, H b ≠ none → b = a)
    (o5 : H a ≠ none → K.lookup a = none) : ∃ base, Entry P w K mg s a ns H base := by
  -- whatever isn't the script's own object is in the base
  have stays : ∀ {b : Addr} {o : Obj}, s.heap.get? b = some o → (b = a → H b = none) → (hidT s.heap H).get? b = some o := by
    intro b o e h
    refine hidT_get e ?_
    by_cases z : b = a
    · exact h z
    · exact Classical.byContradiction fun q => z (o4 b q)
  have ns_in : ∀ {b : Addr} {m : Str → Option Value}, s.heap.Ns b m → (hidT s.heap H).Ns b m := by
    rintro b m ⟨o, es, ep, e, d, r⟩
    refine ⟨o, es, ep, stays e fun z => ?_, d, r⟩
    rw [z, ha] at e
    rw [← Option.some.inj e] at d
    cases d
  have kin' : K.In (hidT s.heap H) := by
    intro b o e
    refine stays (kin b o e) fun z => Classical.byContradiction fun q => ?_
    rw [z] at q e
    rw [o5 q] at e
    cases e
  obtain ⟨mc, l1, l2⟩ := hlim
  refine ⟨hidT s.heap H, o1, o2, kin', ns_in hns, ?_, ?_⟩
  · refine ⟨rfl, ⟨kin', ns_in hns, ⟨mb, ns_in hb, hbb⟩, ⟨mc, ns_in l1, l2⟩⟩, fun b o e => of_hidT e, Nat.le_of_eq (hidT_size _ _), trivial, ?_, o3, .of_eq hg⟩
    intro b hm
    exact (List.not_mem_nil hm).elim
  · intro H' s' un ok'
    refine PySem.OldK.of_keep fun b o e => ?_
    cases q : H b with
    | none => exact un.keep b o e q List.not_mem_nil List.not_mem_nil
    | some u =>
      obtain z | ⟨ob, xs, z⟩ := o1 b
      · rw [q] at z
        cases z
      · obtain ⟨was, _⟩ := o3 b _ z
        obtain ⟨still, _⟩ := ok' b _ (un.frzs b ob _ z)
        rw [e] at was
        rw [Option.some.inj was]
        exact still

theorem entry_is (kin : K.In s.heap) (hns : s.heap.Ns mainGlobals mg) (hb : s.heap.Ns builtinsNs mb)
    (hbb : ∀ x : Str, x ≠ "__name__" → mb x = bootBuiltins x) (hlim : s.heap.NoLimit) (hg : s.gens = #[])
    (ha : s.heap.get? a = some { cls := .type "list", data := .seq vs.toArray })
    (hi : IntsAre vs ns) (hl : ns.length ≤ sizeLine) : ∃ H base, Entry P w K mg s a ns H base := by
  have rv := vals_ints hi
  have ln := hi.length
  cases hk : K.lookup a with
  | some o =>
    have e := kin a o hk
    rw [ha] at e
    cases e
    have sq : SqL K (fun _ => none) a (ns.map V.int) :=
      .inr ⟨_, vs.toArray, _, hk, rfl, rfl, rfl, by rw [List.size_toArray, ln]; exact hl, by simpa using rv⟩
    obtain ⟨base, E⟩ := entry_of (P := P) (w := w) kin hns hb hbb hlim hg ha (fun _ => .inl rfl) sq
      (fun b u z => by cases (show (none : Option HO) = some u from z)) (fun b z => absurd rfl z) fun z => absurd rfl z
    exact ⟨_, base, E⟩
  | none =>
    let H : Hp := fun b => if b = a then some (.frz { cls := .type "list", data := .seq vs.toArray } (.lst (ns.map V.int))) else none
    have at_a : H a = some (.frz { cls := .type "list", data := .seq vs.toArray } (.lst (ns.map V.int))) := if_pos rfl
    have off_a : ∀ {b}, b ≠ a → H b = none := fun z => if_neg z
    have ok : HOk P w H s.heap := by
      intro b u z
      by_cases q : b = a
      · subst q
        rw [at_a] at z
        cases z
        exact ⟨ha, by rw [List.length_map]; exact hl, vs, _, rv, ha⟩
      · rw [off_a q] at z
        cases z
    have on : Only H := by
      intro b
      by_cases q : b = a
      · subst q
        exact .inr ⟨_, _, at_a⟩
      · exact .inl (off_a q)
    obtain ⟨base, E⟩ := entry_of (P := P) (w := w) kin hns hb hbb hlim hg ha on (.inl (.inr ⟨_, at_a⟩)) ok
      (fun b z => Classical.byContradiction fun q => z (off_a q)) fun _ => hk
    exact ⟨H, base, E⟩
end

theorem walkG {l : PySem.W.OpenLaw} {n k : Nat} {q : Program} {loose : List Str} {XP : (Str → Option Value) → Heap → Prop}
    {YP : World → Heap → Prop} {d : DefRec} {K : Params → PySem.W.Frag} {sp : World → Sp} {x : Str}
    (hn : l.most = some n) (hn2 : n ≤ sizeLine) (hdf : d.params.defaults = []) (hr : Room k callerA)
    (hY : ∀ (w : World) (h : Heap), YP w h → (K w.params).In h)
    (F : ∀ (w : World) (mg : Str → Option Value) (fa : Addr) (h : Heap), (K w.params).In h → h.Ns mainGlobals mg → mg d.name = some (.ref fa) →
      ∃ fd : FuncData, (∀ (s : Shared) (u : Value), BindsTo s fd ⟨[u], []⟩ [(x, u)]) ∧
        ∀ base : Heap, (K w.params).In base → base.Ns mainGlobals mg → FnG l.prog w (K w.params) mg base CX0 k fa fd [x] (sp w))
    (hsp : ∀ (w : World) (H : Hp) (a : Addr) (ns : List Int), ns.length ≤ n → Only H → SqL (K w.params) H a (ns.map V.int) →
      sp w [.ref a] H (fun v _ => v = .bl true) fun _ _ _ => False) :
    PySem.W.WalkO q loose XP YP l.row.toRowW d [] (fun f vs => PySem.call f vs) := by
  refine Att.attach_call hn hdf ?_
  intro w s₀ s₁ mg mb fa o pm cd doc a vs ns G Y ho hd hcd hmg hobj hints hlen hgens
  have kin := hY w _ Y
  obtain ⟨fd, binds, all⟩ := F w mg fa _ kin G.T.g hmg
  obtain ⟨H, base, E⟩ := entry_is (P := l.prog) (w := w) kin G.T.g G.T.b G.T.builtins G.T.nolimit hgens hobj hints (Nat.le_trans hlen hn2)
  have run := (all base E.kin E.glob).go callerA [] s₁ H ⟨[.ref a], []⟩ [.ref a] [.ref a] _ _ rfl hr E.env (binds s₁ (.ref a)) (.cons rfl .nil)
    (hsp w H a ns hlen E.only E.script)
  refine codeAny_mono run ?_
  intro res s' hres
  match res, hres with
  | .ok (.ret u), ⟨v, H', os, bare, un, ok', rel, e⟩ =>
    subst e
    cases (show u = Value.bool true from rel)
    exact ⟨rfl, E.old H' s' un ok', os, bare⟩
end Gd

/-! Gr: repr of data, lists and tuples and dicts within one another. -/
namespace Gd
open PySem PySem.Spec PyProof.Rows L2
def kD : Key → PyData
  | .inl i => .int i
  | .inr x => .str x
mutual
/-- v is the data d, at the abstract heap -/
inductive Dq (K : PySem.W.Frag) (H : Hp) : V → PyData → Prop
  | non : Dq K H .non .none
  | bl (b : Bool) : Dq K H (.bl b) (.bool b)
  | int (i : Int) : Dq K H (.int i) (.int i)
  | str (x : Str) : Dq K H (.str x) (.str x)
  | lst {a : Addr} {xs : List V} {ds : List PyData} : SqL K H a xs → DqAll K H xs ds → Dq K H (.ref a) (.list ds)
  | tup {a : Addr} {xs : List V} {ds : List PyData} : SqT K H a xs → DqAll K H xs ds → Dq K H (.ref a) (.tuple ds)
  | dct {a : Addr} {kvs : List (Key × V)} {ds : List (PyData × PyData)} : Rd H a (.dK kvs) → DqKv K H kvs ds → Dq K H (.ref a) (.dict ds)
inductive DqAll (K : PySem.W.Frag) (H : Hp) : List V → List PyData → Prop
  | nil : DqAll K H [] []
  | cons {v : V} {vs : List V} {d : PyData} {ds : List PyData} : Dq K H v d → DqAll K H vs ds → DqAll K H (v :: vs) (d :: ds)
inductive DqKv (K : PySem.W.Frag) (H : Hp) : List (Key × V) → List (PyData × PyData) → Prop
  | nil : DqKv K H [] []
  | cons {k : Key} {v : V} {vs : List (Key × V)} {d : PyData} {ds : List (PyData × PyData)} : Dq K H v d → DqKv K H vs ds → DqKv K H ((k, v) :: vs) ((kD k, d) :: ds)
end

theorem ram_nil {h : Heap} {n : Nat} : ReadAtMost h n [] := fun b hb => (List.not_mem_nil hb).elim
/-- a value's own repr, and what it reads -/
structure Rp (prog : Program) (w : World) (h : Heap) (u : Value) (d : PyData) : Prop where
  reads : ∃ as, Reads h u d as
  repr : d.showable = true → d.shown.length ≤ sizeLine → ∃ bs, ReadAtMost h d.depth bs ∧ ReprK prog w bs h d.depth u d.shown
structure RpAll (prog : Program) (w : World) (h : Heap) (us : List Value) (ds : List PyData) : Prop where
  reads : ∃ as, ReadsAll h us ds as
  repr : PyData.showableAll ds = true → (∀ t ∈ PyData.shownAll ds, t.length ≤ sizeLine) →
    ∃ bs, ReadAtMost h (PyData.depthAll ds) bs ∧ ReprAllK prog w bs h (PyData.depthAll ds) us (PyData.shownAll ds)
section
variable {prog : Program} {w : World} {h : Heap}
theorem RpAll.nil : RpAll prog w h [] [] := ⟨⟨_, .nil⟩, fun _ _ => ⟨[], ram_nil, by simp only [PyData.shownAll]; exact .nil⟩⟩
theorem RpAll.cons {u : Value} {d : PyData} {us : List Value} {ds : List PyData} (a : Rp prog w h u d) (b : RpAll prog w h us ds) : RpAll prog w h (u :: us) (d :: ds) where
  reads := by
    obtain ⟨as, r⟩ := a.reads
    obtain ⟨bs, rs⟩ := b.reads
    exact ⟨_, .cons r rs⟩
  repr := by
    intro hs hz
    obtain ⟨s1, s2⟩ : d.showable = true ∧ PyData.showableAll ds = true := by simpa [PyData.showableAll] using hs
    obtain ⟨b1, m1, k1⟩ := a.repr s1 (hz _ (by simp only [PyData.shownAll]; exact List.mem_cons_self ..))
    obtain ⟨b2, m2, k2⟩ := b.repr s2 fun t ht => hz t (by simp only [PyData.shownAll]; exact List.mem_cons_of_mem _ ht)
    refine ⟨b1 ++ b2, ?_, ?_⟩
    · simp only [PyData.depthAll]
      exact (m1.mono (Nat.le_max_left _ _)).append (m2.mono (Nat.le_max_right _ _))
    · simp only [PyData.depthAll, PyData.shownAll]
      have sub1 : ∀ c ∈ b1, c ∈ b1 ++ b2 := fun c hc => List.mem_append_left _ hc
      have sub2 : ∀ c ∈ b2, c ∈ b1 ++ b2 := fun c hc => List.mem_append_right _ hc
      exact .cons ((k1.more sub1).level_le (Nat.le_max_left _ _)) (k2.more_le sub2 (Nat.le_max_right _ _))
theorem Rp.list {a : Addr} {o : Obj} {us : List Value} {n : Nat} {ds : List PyData} (ho : h.get? a = some o) (hc : o.cls = .type "list") (hd : o.data = .seq us.toArray n) (all : RpAll prog w h us ds) : Rp prog w h (.ref a) (.list ds) := by
  obtain ⟨as, rs⟩ := all.reads
  have r : Reads h (.ref a) (.list ds) _ := .list ho hc hd rs
  refine ⟨⟨_, r⟩, fun hs hz => ?_⟩
  have hz' : (listText (PyData.shownAll ds)).length ≤ sizeLine := by simpa only [PyData.shown] using hz
  obtain ⟨bs, m, k⟩ := all.repr (by simpa [PyData.showable] using hs) fun t ht => Nat.le_trans (listText_mem_le ht) hz'
  have deep : PyData.depthAll ds < PyData.depth (.list ds) := by simp only [PyData.depth]; omega
  have off : a ∉ bs := not_mem_of_deeper r deep m
  refine ⟨a :: bs, ReadAtMost.cons r (Nat.le_of_lt deep) m, ?_⟩
  simp only [PyData.depth, PyData.shown]
  cases us with
  | nil =>
    cases rs
    simp only [PyData.shownAll, listText_nil]
    exact ReprK.listEmpty ho hc hd
  | cons u us => exact ReprK.list ho hc hd off (by simpa using k.length_eq) fun i y e => k.item i y (by simpa using e)
theorem Rp.tuple {a : Addr} {o : Obj} {us : List Value} {n : Nat} {ds : List PyData} (ho : h.get? a = some o) (hc : o.cls = .type "tuple") (hd : o.data = .seq us.toArray n) (all : RpAll prog w h us ds) : Rp prog w h (.ref a) (.tuple ds) := by
  obtain ⟨as, rs⟩ := all.reads
  have r : Reads h (.ref a) (.tuple ds) _ := .tuple ho hc hd rs
  refine ⟨⟨_, r⟩, fun hs hz => ?_⟩
  have hz' : (tupleText (PyData.shownAll ds)).length ≤ sizeLine := by simpa only [PyData.shown] using hz
  obtain ⟨bs, m, k⟩ := all.repr (by simpa [PyData.showable] using hs) fun t ht => Nat.le_trans (tupleText_mem_le ht) hz'
  have deep : PyData.depthAll ds < PyData.depth (.tuple ds) := by simp only [PyData.depth]; omega
  refine ⟨a :: bs, ReadAtMost.cons r (Nat.le_of_lt deep) m, ?_⟩
  simp only [PyData.depth, PyData.shown]
  exact ReprK.tuple ho hc hd (not_mem_of_deeper r deep m) k
theorem Rp.dict {a : Addr} {o : Obj} {es : Array DictEntry} {n : Nat} {ds : List (PyData × PyData)} (ho : h.get? a = some o) (hc : o.cls = .type "dict") (hd : o.data = .dict es n) (low : (a == sysModules) = false)
    (ks : RpAll prog w h (es.toList.map (·.key)) (ds.map (·.1))) (vs : RpAll prog w h (es.toList.map (·.val)) (ds.map (·.2))) : Rp prog w h (.ref a) (.dict ds) := by
  obtain ⟨as, r1⟩ := ks.reads
  obtain ⟨bs, r2⟩ := vs.reads
  have r : Reads h (.ref a) (.dict ds) _ := .dict ho hc hd r1 r2
  refine ⟨⟨_, r⟩, fun hs hz => ?_⟩
  have hz' : (dictText (PyData.shownKv ds)).length ≤ sizeLine := by simpa only [PyData.shown] using hz
  obtain ⟨s1, s2⟩ := PyData.showableKv_split ds (by simpa [PyData.showable] using hs)
  obtain ⟨b1, m1, k1⟩ := ks.repr s1 fun t ht => by
    obtain ⟨p, hp, hl⟩ := PyData.shownKv_key_le ds t ht
    exact Nat.le_trans hl (Nat.le_trans (dictText_mem_le hp) hz')
  obtain ⟨b2, m2, k2⟩ := vs.repr s2 fun t ht => by
    obtain ⟨p, hp, hl⟩ := PyData.shownKv_val_le ds t ht
    exact Nat.le_trans hl (Nat.le_trans (dictText_mem_le hp) hz')
  have deep : PyData.depthKv ds < PyData.depth (.dict ds) := by simp only [PyData.depth]; omega
  have m := (m1.mono (PyData.depthAll_keys_le ds)).append (m2.mono (PyData.depthAll_vals_le ds))
  refine ⟨a :: (b1 ++ b2), ReadAtMost.cons r (Nat.le_of_lt deep) m, ?_⟩
  simp only [PyData.depth, PyData.shown, PyData.shownKv_eq]
  have sub1 : ∀ c ∈ b1, c ∈ b1 ++ b2 := fun c hc => List.mem_append_left _ hc
  have sub2 : ∀ c ∈ b2, c ∈ b1 ++ b2 := fun c hc => List.mem_append_right _ hc
  exact ReprK.dict ho hc hd low (not_mem_of_deeper r deep m) (ReprEntriesK.of_two es.toList _ _ (k1.more_le sub1 (PyData.depthAll_keys_le ds)) (k2.more_le sub2 (PyData.depthAll_vals_le ds)))
theorem Rp.int (i : Int) (t : Tok) : Rp prog w h (.int i t) (.int i) :=
  ⟨⟨_, .int i t⟩, fun hs _ => ⟨[], ram_nil, by simp only [PyData.shown]; exact .of_is (ReprIs.int t (by simpa [PyData.showable] using hs)) _ _ _⟩⟩
theorem Rp.str (x : Str) (t : Tok) : Rp prog w h (.str x t) (.str x) :=
  ⟨⟨_, .str x t⟩, fun _ hz => ⟨[], ram_nil, by simp only [PyData.shown]; exact .of_is (ReprIs.str x t (by simpa only [PyData.shown] using hz)) _ _ _⟩⟩
theorem Rp.bool (b : Bool) : Rp prog w h (.bool b) (.bool b) :=
  ⟨⟨_, .bool b⟩, fun _ _ => ⟨[], ram_nil, by simp only [PyData.shown]; exact .of_is (ReprIs.bool b) _ _ _⟩⟩
theorem Rp.none : Rp prog w h .none .none :=
  ⟨⟨_, .none⟩, fun _ _ => ⟨[], ram_nil, by simp only [PyData.shown]; exact .of_is ReprIs.none _ _ _⟩⟩
end
section
variable {X : Cx} {pins : List (Addr × Obj)} {σ : L2.St} {H : Hp} {s : Shared}
theorem key_rp {prog : Program} {w : World} {h : Heap} {k : Key} {u : Value} (e : keyIs k u = true) : Rp prog w h u (kD k) := by
  rcases keyIs_shape e with ⟨i, t, rfl, rfl⟩ | ⟨x, t, rfl, rfl⟩
  · exact Rp.int i t
  · exact Rp.str x t
mutual
theorem Dq.rp (I : Inv X pins σ H s) : ∀ (d : PyData) (v : V) (u : Value), Dq X.K H v d → RelV v u → Rp X.prog X.w s.heap u d
  | .none, _, _, h, r => by cases h; cases r; exact Rp.none
  | .bool b, _, _, h, r => by cases h; cases r; exact Rp.bool b
  | .int i, _, _, h, r => by cases h; obtain ⟨t, rfl⟩ := r; exact Rp.int i t
  | .str x, _, _, h, r => by cases h; obtain ⟨t, rfl⟩ := r; exact Rp.str x t
  | .list ds, _, _, h, r => by
    cases h with
    | lst hs ha =>
      cases r
      obtain ⟨its, rv, ⟨o, n, ho, hc, _, hd⟩, _⟩ := I.list hs
      exact Rp.list ho hc hd (DqAll.rp I ds _ its ha rv)
  | .tuple ds, _, _, h, r => by
    cases h with
    | tup hs ha =>
      cases r
      obtain ⟨its, rv, ⟨o, ho, hc, n, hd⟩, _⟩ := I.tuple hs
      exact Rp.tuple ho hc hd (DqAll.rp I ds _ its ha rv)
  | .dict ds, _, _, h, r => by
    cases h with
    | dct hs ha =>
      cases r
      obtain ⟨_, low, vs, kv, o, es, ep, ho, hx, hd, _, hp, _⟩ := dk_rd I.hok hs
      obtain ⟨k1, k2⟩ := DqKv.rp I ds _ vs es.toList ha kv hp
      exact Rp.dict ho hx.1 hd low k1 k2
theorem DqAll.rp (I : Inv X pins σ H s) : ∀ (ds : List PyData) (vs : List V) (us : List Value), DqAll X.K H vs ds → Vals vs us → RpAll X.prog X.w s.heap us ds
  | [], _, _, h, r => by cases h; cases r; exact RpAll.nil
  | d :: ds, _, _, h, r => by
    cases h with
    | cons h1 h2 =>
      cases r with
      | cons r1 r2 => exact RpAll.cons (Dq.rp I d _ _ h1 r1) (DqAll.rp I ds _ _ h2 r2)
theorem DqKv.rp (I : Inv X pins σ H s) : ∀ (ds : List (PyData × PyData)) (kvs : List (Key × V)) (vs : List (Key × Value)) (es : List DictEntry), DqKv X.K H kvs ds → KV kvs vs → Pairs (mixKind X.prog X.w) es vs →
    RpAll X.prog X.w s.heap (es.map (·.key)) (ds.map (·.1)) ∧ RpAll X.prog X.w s.heap (es.map (·.val)) (ds.map (·.2))
  | [], _, _, _, h, r, p => by cases h; cases r; cases p; exact ⟨RpAll.nil, RpAll.nil⟩
  | (dk, d) :: ds, _, _, _, h, r, p => by
    cases h with
    | cons h1 h2 =>
      cases r with
      | cons r1 r2 =>
        obtain ⟨r0, r1⟩ := r1
        cases p with
        | cons hk hv ht =>
          obtain ⟨a, b⟩ := DqKv.rp I ds _ _ _ h2 r2 ht
          simp only at r0 r1
          subst r0
          exact ⟨RpAll.cons (key_rp hk) a, RpAll.cons (Dq.rp I d _ _ h1 (by rw [← hv] at r1; exact r1)) b⟩
end
end
/-- repr(x) of data -/
def rReprQ (K : PySem.W.Frag) : List V → Hp → VK → Prop := fun xs H Q => ∃ x d, xs = [x] ∧ Dq K H x d ∧
  d.showable = true ∧ d.depth ≤ 60 ∧ d.shown.length ≤ sizeLine ∧ Q (.str d.shown) H
theorem call_reprQ {X : Cx} (hgd : X.A.guards = some []) (hu : X.A.units + 64 < cLine) : CallR X (.builtin "repr") (rReprQ X.K) := by
  intro pins s σ H xs us Q I rel h
  obtain ⟨x, d, rfl, dq, sh, hd, hz, q⟩ := h
  cases rel with
  | cons rx rt =>
    cases rt
    rename_i u
    cases dq with
    | non =>
      cases rx
      exact PySem.P.repr_of_none ⟨.str _, H, I.tok _, ⟨_, rfl⟩, q⟩
    | bl b =>
      cases rx
      exact PySem.P.repr_of_bool ⟨.str _, H, I.tok _, ⟨_, rfl⟩, q⟩
    | int i =>
      obtain ⟨t, rfl⟩ := rx
      exact PySem.P.repr_of_int (by simpa [PyData.showable] using sh) ⟨.str _, H, I.tok _, ⟨_, rfl⟩, q⟩
    | str z =>
      obtain ⟨t, rfl⟩ := rx
      exact PySem.P.repr_of_str ⟨.str _, H, I.tok _, ⟨_, rfl⟩, q⟩ (by simpa only [PyData.shown] using hz)
    | lst hs ha =>
      cases rx
      rename_i a zs ds
      obtain ⟨its, rv, ⟨o, n, ho, hc, _, hdt⟩, _⟩ := I.list hs
      have all := DqAll.rp I ds _ its ha rv
      obtain ⟨as, rs⟩ := all.reads
      have r : Reads s.heap (.ref a) (.list ds) _ := .list ho hc hdt rs
      have hz' : (listText (PyData.shownAll ds)).length ≤ sizeLine := by simpa only [PyData.shown] using hz
      obtain ⟨bs, m, k⟩ := all.repr (by simpa [PyData.showable] using sh) fun t ht => Nat.le_trans (listText_mem_le ht) hz'
      have deep : PyData.depthAll ds < PyData.depth (.list ds) := by simp only [PyData.depth]; omega
      refine call_repr_slot (by omega) ⟨o, ho, hc⟩ F.slot_list_repr.toG ?_
      cases its with
      | nil =>
        cases rs
        refine call_list_repr_empty ⟨o, ho, hc⟩ ho hdt ?_
        exact ⟨_, _, rfl, .str _, H, I.tok _, ⟨_, rfl⟩, by simpa only [PyData.shown, PyData.shownAll, listText_nil] using q⟩
      | cons u0 us0 =>
        refine call_list_reprK ho hc hdt (not_mem_of_deeper r deep m) (by simpa using k.length_eq) (fun i y e => k.item i y (by simpa using e)) hgd (fun b _ => Clear.nil b) (by show X.A.units + 1 + _ < cLine; omega) (fun _ _ e => e) (fun h' t tk kk => ?_) hz'
        exact ⟨_, _, rfl, .str _, H, I.kept kk, ⟨_, rfl⟩, by simpa only [PyData.shown] using q⟩
    | tup hs ha =>
      cases rx
      rename_i a zs ds
      obtain ⟨its, rv, ⟨o, ho, hc, n, hdt⟩, _⟩ := I.tuple hs
      have all := DqAll.rp I ds _ its ha rv
      obtain ⟨as, rs⟩ := all.reads
      have r : Reads s.heap (.ref a) (.tuple ds) _ := .tuple ho hc hdt rs
      have hz' : (tupleText (PyData.shownAll ds)).length ≤ sizeLine := by simpa only [PyData.shown] using hz
      obtain ⟨bs, m, k⟩ := all.repr (by simpa [PyData.showable] using sh) fun t ht => Nat.le_trans (tupleText_mem_le ht) hz'
      have deep : PyData.depthAll ds < PyData.depth (.tuple ds) := by simp only [PyData.depth]; omega
      refine call_repr_slot (by omega) ⟨o, ho, hc⟩ F.slot_tuple_repr ?_
      refine call_tuple_reprK ho hc hdt (not_mem_of_deeper r deep m) k hgd (fun b _ => Clear.nil b) (by show X.A.units + 1 + _ < cLine; omega) (fun _ _ e => e) (fun h' t tk kk => ?_) hz'
      exact ⟨_, _, rfl, .str _, H, I.kept kk, ⟨_, rfl⟩, by simpa only [PyData.shown] using q⟩
    | dct hs ha =>
      cases rx
      rename_i a kvs ds
      obtain ⟨_, low, vs, kv, o, es, ep, ho, hx, hdt, _, hp, _⟩ := dk_rd I.hok hs
      obtain ⟨ks, vals⟩ := DqKv.rp I ds _ vs es.toList ha kv hp
      obtain ⟨as, r1⟩ := ks.reads
      obtain ⟨bs, r2⟩ := vals.reads
      have r : Reads s.heap (.ref a) (.dict ds) _ := .dict ho hx.1 hdt r1 r2
      have hz' : (dictText (PyData.shownKv ds)).length ≤ sizeLine := by simpa only [PyData.shown] using hz
      obtain ⟨s1, s2⟩ := PyData.showableKv_split ds (by simpa [PyData.showable] using sh)
      obtain ⟨b1, m1, k1⟩ := ks.repr s1 fun t ht => by
        obtain ⟨p, hp, hl⟩ := PyData.shownKv_key_le ds t ht
        exact Nat.le_trans hl (Nat.le_trans (dictText_mem_le hp) hz')
      obtain ⟨b2, m2, k2⟩ := vals.repr s2 fun t ht => by
        obtain ⟨p, hp, hl⟩ := PyData.shownKv_val_le ds t ht
        exact Nat.le_trans hl (Nat.le_trans (dictText_mem_le hp) hz')
      have deep : PyData.depthKv ds < PyData.depth (.dict ds) := by simp only [PyData.depth]; omega
      have m := (m1.mono (PyData.depthAll_keys_le ds)).append (m2.mono (PyData.depthAll_vals_le ds))
      have sub1 : ∀ c ∈ b1, c ∈ b1 ++ b2 := fun c hc => List.mem_append_left _ hc
      have sub2 : ∀ c ∈ b2, c ∈ b1 ++ b2 := fun c hc => List.mem_append_right _ hc
      refine call_repr_slot (by omega) ⟨o, ho, hx.1⟩ F.slot_dict_repr ?_
      refine call_dict_reprK ho hx.1 hdt low (not_mem_of_deeper r deep m) (ReprEntriesK.of_two es.toList _ _ (k1.more_le sub1 (PyData.depthAll_keys_le ds)) (k2.more_le sub2 (PyData.depthAll_vals_le ds)))
        hgd (fun b _ => Clear.nil b) (by show X.A.units + 1 + _ < cLine; omega) (fun _ _ e => e) (fun h' t tk kk => ?_) (by rw [← PyData.shownKv_eq]; exact hz')
      exact ⟨_, _, rfl, .str _, H, I.kept kk, ⟨_, rfl⟩, by simpa only [PyData.shown, PyData.shownKv_eq] using q⟩
end Gd

/-! Lw: several clauses `except .. as n`; the end of a law row that makes lambdas, where no guard stands around. -/
namespace Gd
open PySem PySem.Spec PyProof.Rows L2

/-! ### several clauses, each with the name at slot i -/
abbrev Clause := Value × (Addr → Value → Option Addr → TS)
/-- behind the suite the name is gone -/
def offE (i : Nat) (D : Ends) : Ends :=
  { nx := fun σ H => D.nx (σ.set i none) H, rt := D.rt, bk := fun σ H => D.bk (σ.set i none) H, ct := fun σ H => D.ct (σ.set i none) H }
def wAll (K : PySem.W.Frag) (n i : Nat) (W : WX) (D : Ends) : List Clause → WX
  | [] => W
  | (c, ts) :: r => fun cls d σ H => ∃ b, PySem.W.exmOne K cls c = some b ∧
      (b = true → σ.length = n → ∀ a, H a = none → ts a cls d (offE i D) (σ.set i (some (.ref a))) H) ∧ (b = false → wAll K n i W D r cls d σ H)
inductive Clauses (X : Cx) (n : Str) : List ExceptHandler → List Clause → Prop
  | nil : Clauses X n [] []
  | cons {x : Str} {c : Value} {ts : Addr → Value → Option Addr → TS} {st : Stmt} {sts : List Stmt} {p1 p2 : Pos}
      {hds : List ExceptHandler} {l : List Clause} (nm : Names X x c)
      (su : ∀ (a : Addr) (oe : Obj) (cls : Value) (d : Option Addr) (pn : List (Addr × Obj)), Zc cls d oe →
        (∃ vs, oe.data = .fields vs) → PSs (X.suite a ((a, oe) :: pn)) (st :: sts) (ts a cls d))
      (rest : Clauses X n hds l) : Clauses X n (.ExceptHandler (some (.Name x p1)) (some n) (st :: sts) p2 :: hds) ((c, ts) :: l)

section
variable {X : Cx} {n : Str} {i : Nat} {body : List Stmt} {h₀ : ExceptHandler} {hds : List ExceptHandler} {l : List Clause} {pos : Pos} {tb : WX → TS} {W : WX}
theorem ps_tryAll (stk : X.stack = X.env :: X.outer) (frm : X.env.frame = some X.env.locals) (nd : X.N.Nodup) (at_ : X.N[i]? = some n)
    (loc : X.env.kindOf n = some .local) (tk : Takes X W)
    (hb : ∀ (V : WX) (pn : List (Addr × Obj)) (xe : Value → Shared → Prop), Takes (X.tr pn xe) V → PassesOwn (model X.prog X.w) X.A X.env xe →
      PSs (X.tr pn xe) body (tb V)) (hh : Clauses X n (h₀ :: hds) l) :
    PS X (.Try body (h₀ :: hds) [] [] pos) (fun D σ H => tb (wAll X.K X.N.length i W D l) D σ H) where
  run := by
    intro pins s σ H D I h
    have ok := I.ok
    have frames : X.A.frames = some (X.env :: X.outer) := by rw [ok.frames, stk]
    have isLoc : Loc X.env.scope n := .inl loc
    refine wpAny_Try_except (wpAny_mono ((hb (wAll X.K X.N.length i W D l) (X.pn ++ pins)
      (fun e s₁ => wpAny (model X.prog X.w) X.A (noteFrame e X.env)
        (fun _ s₂ => wpAny (model X.prog X.w) X.A (setFlight e none)
          (fun _ s₃ => wpAny (model X.prog X.w) X.A (handleBy e X.env (h₀ :: hds)) (SP X pins D) X.xe s₃) X.xe s₂) X.xe s₁)
      ?caught PassesOwn.looking).run [] s σ H D (I.toTry _) h) ?through fun _ _ z => z)
    case through =>
      intro f s1 q
      match f, q with
      | .next, ⟨σ', H', J, q⟩ => exact wpAny_execs_nil ⟨σ', H', J.ofTry ok, q⟩
      | .brk, ⟨σ', H', J, q⟩ => exact ⟨σ', H', J.ofTry ok, q⟩
      | .cont, ⟨σ', H', J, q⟩ => exact ⟨σ', H', J.ofTry ok, q⟩
      | .ret u, ⟨v, σ', H', J, r, q⟩ => exact ⟨v, σ', H', J.ofTry ok, r, q⟩
    case caught =>
      rintro u s' ⟨a, B, sI, pins', σ', H', cls, d, rfl, J0, nb, up, sky, na, os, ag, w⟩
      have J : Inv X pins σ' H' sI := J0.ofTry ok
      have sk : Sky B (X.env :: X.outer) a (Zc cls d) X.env.locals s'.heap := stk ▸ sky
      show wpAny (model X.prog X.w) X.A (noteFrame (.ref a) X.env) _ _ _
      refine Sky.land Zc.steady frames frm sk ?_
      intro hp fl up2
      have landed : Inv X pins σ' H' { s' with heap := hp } := J.landed nb fl.1 (up.trans up2) os ag
      obtain ⟨ob, vs, atA, zc, dat⟩ := fl.there
      have noFrame : a ∉ frs (X.env :: X.outer) := by
        intro hm
        obtain ⟨_, o', e', no⟩ := fl.2.2.1.mem hm
        rw [atA] at e'
        cases e'
        exact no _ dat
      have neL : a ≠ X.env.locals := fun z => noFrame (List.mem_filterMap.mpr ⟨X.env, List.mem_cons_self, by rw [frm, z]⟩)
      have neF : a ∉ X.fs := by
        intro hm
        obtain ⟨e, he, q⟩ := List.mem_filterMap.mp hm
        exact noFrame (List.mem_filterMap.mpr ⟨e, List.mem_cons_of_mem _ he, q⟩)
      have inSuite := landed.suite atA dat na neL neF
      have go : ∀ {hs : List ExceptHandler} {ls : List Clause}, Clauses X n hs ls → wAll X.K X.N.length i W D ls cls d σ' H' →
          wpAny (model X.prog X.w) X.A (handleBy (.ref a) X.env hs) (SP X pins D) X.xe { s' with heap := hp } := by
        intro hs ls k
        induction k with
        | nil =>
          intro w
          refine wpAny_handleBy_nil ?_
          obtain ⟨_, _, _, oe, vs2, T, oT, ts', he, hz, hd, h1, _⟩ := id fl
          unfold PySem.passOn
          refine wpAny_bind (wpAny_field he hd h1 ?_)
          have ref : ¬ ((Value.ref T == Value.none) = true) := by simp
          rw [if_neg ref]
          have fin : wpAny (model X.prog X.w) X.A (setFlight (.ref a) X.env.frame)
              (fun _ s4 => wpAny (model X.prog X.w) X.A (throw (.ref a) : Sem Flow) (SP X pins D) X.xe s4) X.xe { s' with heap := hp } := by
            rw [frm]
            refine HandSPX.setFlight_upZ fl fun h4 hh4 up4 => wpAny_throw (tk _ _ ?_)
            exact ⟨a, B, sI, pins, σ', H', cls, d, rfl, J, nb, (up.trans up2).trans up4, .inr (.inr (stk ▸ hh4)), na, os, ag, w⟩
          first
            | exact wpAny_bind (wpAny_pure (wpAny_bind fin))
            | exact wpAny_bind fin
        | @cons x c ts st sts p1 p2 hds2 l2 nm su rest ih =>
          rintro ⟨b, hb1, yes, no⟩
          refine wpAny_handleBy_cons (codeAny_handlers_test ?_) (fun q => by cases q)
          have typ : PySem.W.Looks (model X.prog X.w) hp (typeOf (.ref a)) cls :=
            fun A Q E s k q => wpAny_typeOf_ref (k _ _ atA) (by rw [zc.1]; exact q)
          have fits := PySem.W.exm_one (M := model X.prog X.w) (landed.kIn) typ hb1
          have named : ∀ {Q : Value → Shared → Prop} {E : Value → Shared → Prop}, Q c { s' with heap := hp } →
              wpAny (model X.prog X.w) (X.A.mark (some (.ref a))) (eval (.Name x p1) X.env) Q E { s' with heap := hp } := by
            intro Q E q
            obtain ⟨hg, dbg, hm | ⟨hm, hv, hn⟩⟩ := nm
            · exact ld_glob (X := X.suite a ((a, ob) :: (X.pn ++ pins))) inSuite hg hm q dbg
            · exact ld_blt (X := X.suite a ((a, ob) :: (X.pn ++ pins))) inSuite hg hm hv q hn dbg
          refine named (fits.here ?_)
          cases b with
          | false =>
            show wpAny _ X.A (handleBy (.ref a) X.env hds2) _ _ _
            exact ih (no rfl)
          | true =>
            refine codeAny_handlers_suite_as (HandSPX.lands_againZ fl ?_)
            intro h4 fl4 up4
            have land4 : Inv X pins σ' H' { s' with heap := h4 } := J.landed nb fl4.1 ((up.trans up2).trans up4) os ag
            obtain ⟨ob4, vs4, at4, z4, d4⟩ := fl4.there
            have in4 := land4.suite at4 d4 na neL neF
            refine store_ok (X := X.suite a ((a, ob4) :: (X.pn ++ pins))) (v := .ref a) in4 nd at_ isLoc rfl ?_ (.inr loc)
            intro s5 S5
            refine wpAny_mono ((su a ob4 cls d (X.pn ++ pins) z4 ⟨_, d4⟩).run [] s5 _ H' _ S5 (yes rfl J.len a na)) ?_ fun _ _ z => z.elim
            intro f s6 q
            have over : ∀ {σ6 : L2.St} {H6 : Hp} {Q : Shared → Prop}, Inv (X.suite a ((a, ob4) :: (X.pn ++ pins))) [] σ6 H6 s6 →
                (∀ s7, Inv X pins (σ6.set i none) H6 s7 → Q s7) →
                wpAny (model X.prog X.w) X.A (do bindName X.env n .none; unbindBehindTheSuite X.env n p2) (fun _ s7 => Q s7) X.xe s6 :=
              fun S q => gone_ok (S.unsuite ok) nd at_ loc q
            match f, q with
            | .next, ⟨σ6, H6, S6, q6⟩ => exact over S6 fun s7 J7 => ⟨_, _, J7, q6⟩
            | .brk, ⟨σ6, H6, S6, q6⟩ => exact over S6 fun s7 J7 => ⟨_, _, J7, q6⟩
            | .cont, ⟨σ6, H6, S6, q6⟩ => exact over S6 fun s7 J7 => ⟨_, _, J7, q6⟩
            | .ret u, ⟨v6, σ6, H6, S6, r6, q6⟩ => exact over S6 fun s7 J7 => ⟨_, _, _, J7, r6, q6⟩
      exact go hh w
end

/-! ### the law's end, the tables of its makers' code objects tracked -/
open LamX in
/-- what the law's call finds -/
structure EntryT (P : Program) (w : World) (K : PySem.W.Frag) (mg : Str → Option Value) (s : Shared) (a : Addr) (ns : List Int)
    (cs : List (Addr × Addr)) (H : Hp) (base : Heap) : Prop where
  tabs : ∀ p ∈ cs, H p.2 = some (.tbl #[])
  script : SqL K H a (ns.map V.int)
  kin : K.In base
  glob : base.Ns mainGlobals mg
  env : Env0 P w K mg base callerA [] s H
  bs : ∀ p ∈ cs, TabB base mg p.1 p.2
  old : ∀ (H' : Hp) (s' : Shared), Un [] [] H H' s.heap s'.heap → HOk P w H' s'.heap → PySem.OldK s.heap s'.heap

section
variable {P : Program} {w : World} {K : PySem.W.Frag} {mg mb : Str → Option Value} {s : Shared} {a : Addr} {vs : List Value} {ns : List Int} {cs : List (Addr × Addr)}
open LamX in
theorem entryT_of {H : Hp} (kin : K.In s.heap) (hns : s.heap.Ns mainGlobals mg) (hb : s.heap.Ns builtinsNs mb)
    (hbb : ∀ x : Str, x ≠ "__name__" → mb x = bootBuiltins x) (hlim : s.heap.NoLimit) (hg : s.gens = #[])
    (bmain : ∃ (bm : Addr) (ob : Obj), mg "__builtins__" = some (.ref bm) ∧ bm ≠ builtinsNs ∧ s.heap.get? bm = some ob ∧
      ob.cls = .type "module" ∧ ob.dict = some builtinsNs ∧ ob.data = .plain)
    (tabs : ∀ p ∈ cs, s.heap.get? p.2 = some { cls := .none, data := .fields #[] }) (noK : ∀ p ∈ cs, K.lookup p.2 = none)
    (heads : ∀ p ∈ cs, PySem.W.CodeHd s.heap p.1 p.2)
    (ha : s.heap.get? a = some { cls := .type "list", data := .seq vs.toArray })
    (o0 : ∀ p ∈ cs, H p.2 = some (.tbl #[])) (o1 : ∀ b, H b = none ∨ (∃ p ∈ cs, p.2 = b) ∨ ∃ o xs, H b = some (.frz o (.lst xs)))
    (o2 : SqL K H a (ns.map V.int)) (o3 : HOk P w H s.heap) (o4 : ∀ b, H b ≠ none → b = a ∨ ∃ p ∈ cs, p.2 = b)
    (o5 : H a ≠ none → K.lookup a = none) : ∃ base, EntryT P w K mg s a ns cs H base := by
  -- an object that is neither a sequence nor an empty record is in the base
  have stays : ∀ {b : Addr} {o : Obj}, s.heap.get? b = some o → (b = a → H b = none) → o.data ≠ .fields #[] → (hidT s.heap H).get? b = some o := by
    intro b o e h no
    refine hidT_get e (Classical.byContradiction fun q => ?_)
    obtain z | ⟨p, hp, z⟩ := o4 b q
    · exact q (h z)
    · have t := tabs p hp
      rw [z, e] at t
      rw [Option.some.inj t] at no
      exact no rfl
  have other : ∀ {b : Addr} {o : Obj}, s.heap.get? b = some o → (∀ xs n, o.data ≠ .seq xs n) → o.data ≠ .fields #[] → (hidT s.heap H).get? b = some o := by
    intro b o e nos nof
    refine stays e (fun z => ?_) nof
    rw [z, ha] at e
    rw [← Option.some.inj e] at nos
    exact (nos _ _ rfl).elim
  have ns_in : ∀ {b : Addr} {m : Str → Option Value}, s.heap.Ns b m → (hidT s.heap H).Ns b m := by
    rintro b m ⟨o, es, ep, e, d, r⟩
    refine ⟨o, es, ep, other e (fun xs n z => ?_) (fun z => ?_), d, r⟩
    · rw [d] at z
      cases z
    · rw [d] at z
      cases z
  have kin' : K.In (hidT s.heap H) := by
    intro b o e
    refine hidT_get (kin b o e) (Classical.byContradiction fun q => ?_)
    obtain z | ⟨p, hp, z⟩ := o4 b q
    · rw [z] at q e
      rw [o5 q] at e
      cases e
    · rw [← z, noK p hp] at e
      cases e
  have noPlain : ∀ {o : Obj}, o.data = .plain → (∀ xs n, o.data ≠ .seq xs n) ∧ o.data ≠ .fields #[] := by
    intro o d
    rw [d]
    refine ⟨fun xs n z => ?_, fun z => ?_⟩ <;> cases z
  obtain ⟨mc, l1, l2⟩ := hlim
  refine ⟨hidT s.heap H, o0, o2, kin', ns_in hns, ?_, ?_, ?_⟩
  · refine ⟨rfl, ⟨kin', ns_in hns, ⟨mb, ns_in hb, hbb⟩, ⟨mc, ns_in l1, l2⟩⟩, fun b o e => of_hidT e, Nat.le_of_eq (hidT_size _ _), trivial, ?_, o3, .of_eq hg⟩
    intro b hm
    exact (List.not_mem_nil hm).elim
  · intro p hp
    refine ⟨?_, ?_, ?_⟩
    · obtain ⟨o, us, file, tf, flags, tg, inF, text, tt, e1, r1, r2, r3, rest⟩ := heads p hp
      refine ⟨o, us, file, tf, flags, tg, inF, text, tt, other e1 (fun xs n z => ?_) (fun z => ?_), r1, r2, r3, rest⟩
      · rw [r2] at z
        cases z
      · rw [r2] at z
        cases z
        simp at r3
    · obtain ⟨bm, ob, b1, b2, b3, b4, b5, b6⟩ := bmain
      refine ⟨bm, ob, b1, b2, fun z => ?_, fun z => ?_, other b3 (noPlain b6).1 (noPlain b6).2, b4, b5, b6⟩
      · obtain ⟨o, es, ep, e, d, _⟩ := hns
        rw [z, e] at b3
        rw [← Option.some.inj b3, d] at b6
        cases b6
      · rw [z, tabs p hp] at b3
        rw [← Option.some.inj b3] at b6
        cases b6
    · intro z
      obtain ⟨o, es, ep, e, d, _⟩ := hns
      rw [z, tabs p hp] at e
      rw [← Option.some.inj e] at d
      cases d
  · intro H' s' un ok'
    have grown : ∀ p ∈ cs, ∃ more : Array Value, s'.heap.get? p.2 = some { cls := .none, data := .fields more } := by
      intro p hp
      obtain ⟨more, z⟩ := un.tbls p.2 #[] (o0 p hp)
      exact ⟨_, ok' p.2 _ z⟩
    have key : ∀ b o, (∀ p ∈ cs, p.2 ≠ b) → s.heap.get? b = some o → s'.heap.get? b = some o := by
      intro b o nb e
      cases q : H b with
      | none => exact un.keep b o e q List.not_mem_nil List.not_mem_nil
      | some u =>
        obtain z | ⟨p, hp, z⟩ | ⟨ob, xs, z⟩ := o1 b
        · rw [q] at z
          cases z
        · exact (nb p hp z).elim
        · obtain ⟨was, _⟩ := o3 b _ z
          obtain ⟨still, _⟩ := ok' b _ (un.frzs b ob _ z)
          rw [e] at was
          rw [Option.some.inj was]
          exact still
    refine ⟨fun b o e => ?_, fun b o e => ?_⟩
    · by_cases hb' : ∃ p ∈ cs, p.2 = b
      · obtain ⟨p, hp, rfl⟩ := hb'
        obtain ⟨more, hm⟩ := grown p hp
        have t := tabs p hp
        rw [e] at t
        rw [Option.some.inj t]
        exact .inr (.inl ⟨((heads p hp).tab (tabs p hp)).isCodeTable, rfl, #[], more, rfl, by rw [Array.empty_append]; exact hm⟩)
      · exact .inl (key b o (fun p hp z => hb' ⟨p, hp, z⟩) e)
    · by_cases hb' : ∃ p ∈ cs, p.2 = b
      · obtain ⟨p, hp, rfl⟩ := hb'
        obtain ⟨more, hm⟩ := grown p hp
        exact ⟨_, hm⟩
      · exact ⟨o, key b o (fun p hp z => hb' ⟨p, hp, z⟩) e⟩

open LamX in
theorem entryT_is (kin : K.In s.heap) (hns : s.heap.Ns mainGlobals mg) (hb : s.heap.Ns builtinsNs mb)
    (hbb : ∀ x : Str, x ≠ "__name__" → mb x = bootBuiltins x) (hlim : s.heap.NoLimit) (hg : s.gens = #[])
    (bmain : ∃ (bm : Addr) (ob : Obj), mg "__builtins__" = some (.ref bm) ∧ bm ≠ builtinsNs ∧ s.heap.get? bm = some ob ∧
      ob.cls = .type "module" ∧ ob.dict = some builtinsNs ∧ ob.data = .plain)
    (tabs : ∀ p ∈ cs, s.heap.get? p.2 = some { cls := .none, data := .fields #[] }) (noK : ∀ p ∈ cs, K.lookup p.2 = none)
    (heads : ∀ p ∈ cs, PySem.W.CodeHd s.heap p.1 p.2)
    (ha : s.heap.get? a = some { cls := .type "list", data := .seq vs.toArray })
    (hi : IntsAre vs ns) (hl : ns.length ≤ sizeLine) : ∃ H base, EntryT P w K mg s a ns cs H base := by
  have rv := vals_ints hi
  have ln := hi.length
  have noT : ¬ ∃ p ∈ cs, p.2 = a := by
    rintro ⟨p, hp, z⟩
    have t := tabs p hp
    rw [z, ha] at t
    have d := congrArg Obj.data (Option.some.inj t)
    cases d
  let T : Hp := fun b => if ∃ p ∈ cs, p.2 = b then some (.tbl #[]) else none
  have T_in : ∀ {b}, (∃ p ∈ cs, p.2 = b) → T b = some (.tbl #[]) := fun z => if_pos z
  have T_off : ∀ {b}, (¬ ∃ p ∈ cs, p.2 = b) → T b = none := fun z => if_neg z
  have okT : ∀ (H : Hp) b u, T b = some u → ObjOk P w H s.heap b u := by
    intro H b u z
    by_cases q : ∃ p ∈ cs, p.2 = b
    · rw [T_in q] at z
      cases z
      obtain ⟨p, hp, rfl⟩ := q
      exact tabs p hp
    · rw [T_off q] at z
      cases z
  cases hk : K.lookup a with
  | some o =>
    have e := kin a o hk
    rw [ha] at e
    cases e
    have sq : SqL K T a (ns.map V.int) :=
      .inr ⟨_, vs.toArray, _, hk, rfl, rfl, rfl, by rw [List.size_toArray, ln]; exact hl, by simpa using rv⟩
    obtain ⟨base, E⟩ := entryT_of (P := P) (w := w) (H := T) kin hns hb hbb hlim hg bmain tabs noK heads ha (fun p hp => T_in ⟨p, hp, rfl⟩)
      (fun b => by
        by_cases q : ∃ p ∈ cs, p.2 = b
        · exact .inr (.inl q)
        · exact .inl (T_off q)) sq (fun b u z => okT T b u z)
      (fun b z => by
        by_cases q : ∃ p ∈ cs, p.2 = b
        · exact .inr q
        · exact (z (T_off q)).elim) fun z => (z (T_off noT)).elim
    exact ⟨_, base, E⟩
  | none =>
    let H : Hp := fun b => if b = a then some (.frz { cls := .type "list", data := .seq vs.toArray } (.lst (ns.map V.int))) else T b
    have at_a : H a = some (.frz { cls := .type "list", data := .seq vs.toArray } (.lst (ns.map V.int))) := if_pos rfl
    have off_a : ∀ {b}, b ≠ a → H b = T b := fun z => if_neg z
    have H_in : ∀ p ∈ cs, H p.2 = some (.tbl #[]) := by
      intro p hp
      rw [off_a fun z => noT ⟨p, hp, z⟩]
      exact T_in ⟨p, hp, rfl⟩
    have ok : HOk P w H s.heap := by
      intro b u z
      by_cases q : b = a
      · subst q
        rw [at_a] at z
        cases z
        exact ⟨ha, by rw [List.length_map]; exact hl, vs, _, rv, ha⟩
      · rw [off_a q] at z
        exact okT H b u z
    obtain ⟨base, E⟩ := entryT_of (P := P) (w := w) (H := H) kin hns hb hbb hlim hg bmain tabs noK heads ha H_in
      (fun b => by
        by_cases q : b = a
        · subst q
          exact .inr (.inr ⟨_, _, at_a⟩)
        · by_cases r : ∃ p ∈ cs, p.2 = b
          · exact .inr (.inl r)
          · exact .inl ((off_a q).trans (T_off r))) (.inl (.inr ⟨_, at_a⟩)) ok
      (fun b z => by
        by_cases q : b = a
        · exact .inl q
        · rw [off_a q] at z
          by_cases r : ∃ p ∈ cs, p.2 = b
          · exact .inr r
          · exact (z (T_off r)).elim) fun _ => hk
    exact ⟨H, base, E⟩
end

open LamX in
theorem walkT {l : PySem.W.OpenLaw} {n k : Nat} {q : Program} {loose : List Str} {XP : (Str → Option Value) → Heap → Prop}
    {YP : World → Heap → Prop} {d : DefRec} {K : Params → PySem.W.Frag} {cs : List (Addr × Addr)} {sp : World → Sp} {x : Str}
    (hn : l.most = some n) (hn2 : n ≤ sizeLine) (hdf : d.params.defaults = []) (hr : Room k callerA)
    (hY : ∀ (w : World) (h : Heap), YP w h → (K w.params).In h)
    (hT : ∀ (w : World) (h : Heap), YP w h → ∀ p ∈ cs, h.get? p.2 = some { cls := .none, data := .fields #[] })
    (F : ∀ (w : World) (mg : Str → Option Value) (fa : Addr) (h : Heap), (K w.params).In h → h.Ns mainGlobals mg → mg d.name = some (.ref fa) →
      (∀ p ∈ cs, (K w.params).lookup p.2 = none ∧ PySem.W.codeHdIn (K w.params) p.1 p.2 = true) ∧
      ∃ fd : FuncData, (∀ (s : Shared) (u : Value), BindsTo s fd ⟨[u], []⟩ [(x, u)]) ∧
        ∀ base : Heap, (K w.params).In base → base.Ns mainGlobals mg → (∀ p ∈ cs, TabB base mg p.1 p.2) →
          FnG l.prog w (K w.params) mg base CX0 k fa fd [x] (sp w))
    (hsp : ∀ (w : World) (H : Hp) (a : Addr) (ns : List Int), ns.length ≤ n → (∀ p ∈ cs, H p.2 = some (.tbl #[])) → SqL (K w.params) H a (ns.map V.int) →
      sp w [.ref a] H (fun v _ => v = .bl true) fun _ _ _ => False) :
    PySem.W.WalkO q loose XP YP l.row.toRowW d [] (fun f vs => PySem.call f vs) := by
  refine Att.attach_call hn hdf ?_
  intro w s₀ s₁ mg mb fa o pm cd doc a vs ns G Y ho hd hcd hmg hobj hints hlen hgens
  have kin := hY w _ Y
  obtain ⟨heads, fd, binds, all⟩ := F w mg fa _ kin G.T.g hmg
  obtain ⟨H, base, E⟩ := entryT_is (P := l.prog) (w := w) kin G.T.g G.T.b G.T.builtins G.T.nolimit hgens G.T.bmain (hT w _ Y)
    (fun p hp => (heads p hp).1) (fun p hp => PySem.W.codeHd_of_K kin (heads p hp).2) hobj hints (Nat.le_trans hlen hn2)
  have run := (all base E.kin E.glob E.bs).go callerA [] s₁ H ⟨[.ref a], []⟩ [.ref a] [.ref a] _ _ rfl hr E.env (binds s₁ (.ref a)) (.cons rfl .nil)
    (hsp w H a ns hlen E.tabs E.script)
  refine codeAny_mono run ?_
  intro res s' hres
  match res, hres with
  | .ok (.ret u), ⟨v, H', os, bare, un, ok', rel, e⟩ =>
    subst e
    cases (show u = Value.bool true from rel)
    exact ⟨rfl, E.old H' s' un ok', os, bare⟩

/-! ### a lambda's body: what a callee raises leaves it -/
open LamX in
theorem takesLam {X : Cx} {A : Around} {outer : List Env} {s : Shared} {H : Hp} {E : XK} {scope : Scope} {f c : Addr} :
    Passes (L2.CX X.prog X.w) (lamCx X A outer s H E scope f c) E :=
  passes_call (takes_of (X := lamCx X A outer s H E scope f c) (E := E) rfl rfl rfl rfl) fun _ _ _ _ h => h

/-! ### a written dict of ints: each value a tuple of ints -/
def keyI : Value → Option Int
  | .int i _ => some i
  | _ => none
def allI : List Value → Option (List Int)
  | [] => some []
  | v :: r => match keyI v, allI r with
    | some i, some is => some (i :: is)
    | _, _ => none
/-- the ints of the tuple of the written part at a -/
def tupI (K : PySem.W.Frag) : Value → Option (List Int)
  | .ref a => match K.lookup a with
    | some ⟨.type "tuple", none, .seq us _, _⟩ => allI us.toList
    | _ => none
  | _ => none
def rowsI (K : PySem.W.Frag) : List DictEntry → Option (List (Int × List Int))
  | [] => some []
  | e :: r => match keyI e.key, tupI K e.val, rowsI K r with
    | some i, some t, some l => if e.hash = hashInt i then some ((i, t) :: l) else none
    | _, _, _ => none
def dictI (K : PySem.W.Frag) (d : Addr) : Option (List (Int × List Int)) :=
  match K.lookup d with
  | some ⟨.type "dict", none, .dict es _, sl⟩ => if sl.isEmpty && !(d == sysModules) then rowsI K es.toList else none
  | _ => none

theorem keyI_some {v : Value} {i : Int} (h : keyI v = some i) : ∃ t, v = .int i t := by
  cases v <;> simp_all [keyI]
theorem allI_some : ∀ {us : List Value} {is : List Int}, allI us = some is → Vals (is.map V.int) us := by
  intro us
  induction us with
  | nil =>
    intro is h
    cases h
    exact .nil
  | cons v r ih =>
    intro is h
    unfold allI at h
    split at h
    · rename_i i l e1 e2
      cases h
      obtain ⟨t, rfl⟩ := keyI_some e1
      exact .cons ⟨t, rfl⟩ (ih e2)
    · cases h

theorem tupI_some {K : PySem.W.Frag} {v : Value} {is : List Int} (h : tupI K v = some is) :
    ∃ a us n sl, v = .ref a ∧ K.lookup a = some ⟨.type "tuple", none, .seq us n, sl⟩ ∧ Vals (is.map V.int) us.toList := by
  unfold tupI at h
  split at h
  · rename_i a
    split at h
    · rename_i us n sl e
      exact ⟨a, us, n, sl, rfl, e, allI_some h⟩
    · cases h
  · cases h

theorem rowsI_all {K : PySem.W.Frag} : ∀ {es : List DictEntry} {rows : List (Int × List Int)}, rowsI K es = some rows →
    (∀ e ∈ es, ∃ k t, e.key = .int k t ∧ e.hash = hashInt k) ∧
    (∀ k, rows.lookup k = none → (es.find? fun e => Value.isInt k e.key) = none) ∧
    ∀ k is, rows.lookup k = some is → ∃ e, (es.find? fun e => Value.isInt k e.key) = some e ∧ tupI K e.val = some is := by
  intro es
  induction es with
  | nil =>
    intro rows h
    cases h
    exact ⟨fun e he => (List.not_mem_nil he).elim, fun _ _ => rfl, fun k is z => by cases z⟩
  | cons e r ih =>
    intro rows h
    unfold rowsI at h
    split at h
    · rename_i i t l e1 e2 e3
      split at h
      · rename_i hh
        cases h
        obtain ⟨tk, ek⟩ := keyI_some e1
        obtain ⟨h1, h2, h3⟩ := ih e3
        have test : ∀ k, Value.isInt k e.key = decide (i = k) := by
          intro k
          rw [ek]
          show (i == k) = decide (i = k)
          by_cases q : i = k
          · subst q
            rw [beq_self_eq_true, decide_eq_true rfl]
          · rw [beq_eq_false_iff_ne.mpr q, decide_eq_false q]
        refine ⟨fun x hx => ?_, fun k z => ?_, fun k is z => ?_⟩
        · obtain rfl | hx := List.mem_cons.mp hx
          · exact ⟨i, tk, ek, hh⟩
          · exact h1 x hx
        · rw [List.lookup_cons] at z
          rw [List.find?_cons, test]
          by_cases q : k = i
          · subst q
            rw [beq_self_eq_true] at z
            cases z
          · rw [show (k == i) = false from beq_eq_false_iff_ne.mpr q] at z
            rw [show decide (i = k) = false from decide_eq_false fun y => q y.symm]
            exact h2 k z
        · rw [List.lookup_cons] at z
          rw [List.find?_cons, test]
          by_cases q : k = i
          · subst q
            rw [beq_self_eq_true] at z
            cases z
            rw [show decide (k = k) = true from decide_eq_true rfl]
            exact ⟨e, rfl, e2⟩
          · rw [show (k == i) = false from beq_eq_false_iff_ne.mpr q] at z
            rw [show decide (i = k) = false from decide_eq_false fun y => q y.symm]
            exact h3 k is z
      · cases h
    · cases h

/-- what such a dict tells, as the library's dict rules want it -/
theorem dictI_map {K : PySem.W.Frag} {prog : Program} {w : World} {h : Heap} {d : Addr} {rows : List (Int × List Int)} (kin : K.In h)
    (e : dictI K d = some rows) : (d == sysModules) = false ∧ ∃ f : Int → Option Value, h.MapOf (PySem.intKind prog w) d f ∧
      (∀ k, rows.lookup k = none → f k = none) ∧ ∀ k is, rows.lookup k = some is → ∃ v, f k = some v ∧ tupI K v = some is := by
  unfold dictI at e
  split at e
  · rename_i es n sl hl
    split at e
    · rename_i hc
      rw [Bool.and_eq_true] at hc
      obtain ⟨c1, c2⟩ := hc
      obtain ⟨h1, h2, h3⟩ := rowsI_all e
      have c1 : sl = #[] := Array.isEmpty_iff.mp c1
      subst c1
      have same : ∀ k, findBy Value.isInt es k = ((es.toList.find? fun e => Value.isInt k e.key).map (·.val)) := by
        intro k
        obtain ⟨l⟩ := es
        unfold findBy
        rw [List.find?_toArray]
      refine ⟨by simpa using c2, fun k => findBy Value.isInt es k, ⟨_, es, n, kin _ _ hl, ⟨rfl, rfl, rfl⟩, rfl, fun x hx => ?_, fun k => rfl⟩, fun k z => ?_, fun k is z => ?_⟩
      · obtain ⟨k, t, ek, eh⟩ := h1 x (Array.mem_toList_iff.mpr hx)
        exact ⟨k, by rw [ek]; simp [PySem.intKind, Value.isInt], eh⟩
      · show findBy Value.isInt es k = none
        rw [same, h2 k z]
        rfl
      · obtain ⟨x, e1, e2⟩ := h3 k is z
        exact ⟨x.val, by show findBy Value.isInt es k = _; rw [same, e1]; rfl, e2⟩
    · cases e
  · cases e

section
variable {X : Cx}
/-- k not in d, of such a dict -/
def rNotInI (K : PySem.W.Frag) : R2 := fun x y H Q => ∃ (k : Int) (d : Addr) (rows : List (Int × List Int)),
  x = .int k ∧ y = .ref d ∧ dictI K d = some rows ∧ Q (.bl (!(rows.lookup k).isSome)) H
theorem op_notInI : OpR X (compareOp .NotIn) (rNotInI X.K) := by
  intro pins s σ H x y v u Q I rx ry h
  obtain ⟨k, d, rows, rfl, rfl, e, q⟩ := h
  obtain ⟨t, rfl⟩ := rx
  cases (show u = Value.ref d from ry)
  obtain ⟨low, f, hm, f1, f2⟩ := dictI_map (prog := X.prog) (w := X.w) I.kIn e
  refine wpAny_notIn_of (intKind_is X.prog X.w k t) low hm ?_
  have fe : (f k).isSome = (rows.lookup k).isSome := by
    cases z : rows.lookup k with
    | none =>
      rw [f1 k z]
      rfl
    | some is =>
      obtain ⟨v, e1, _⟩ := f2 k is z
      rw [e1]
      rfl
  rw [fe]
  exact ⟨.bl _, H, I.tok _, rfl, q⟩
/-- d[k]: the tuple that stands there -/
def rIxI (K : PySem.W.Frag) : R2 := fun x y H Q => ∃ (k : Int) (d : Addr) (rows : List (Int × List Int)) (is : List Int),
  x = .ref d ∧ y = .int k ∧ dictI K d = some rows ∧ rows.lookup k = some is ∧ is.length ≤ 1000 ∧ ∀ a, SqT K H a (is.map V.int) → Q (.ref a) H
theorem ix_int : IxR X (rIxI X.K) := by
  intro value slice pins s σ H x y v u Q I rx ry h hs
  obtain ⟨k, d, rows, is, rfl, rfl, e, l, few, q⟩ := h
  cases (show v = Value.ref d from rx)
  obtain ⟨t, rfl⟩ := ry
  obtain ⟨low, f, hm, f1, f2⟩ := dictI_map (prog := X.prog) (w := X.w) I.kIn e
  obtain ⟨v, e1, e2⟩ := f2 k is l
  obtain ⟨a, us, n, sl, rfl, ha, rv⟩ := tupI_some e2
  have size : us.size ≤ sizeLine := by
    have z := Paired.length rv
    rw [List.length_map] at z
    have z2 : us.toList.length = us.size := Array.length_toList
    rw [sizeLine_eq]
    omega
  refine tail_any hm.typeIs slot_dict_getitem.lookup (wpAny_getItem_of (intKind_is X.prog X.w k t) hm e1 ⟨.ref a, H, I.tok _, rfl, q a ?_⟩) hs
  exact .inr ⟨_, us, n, ha, rfl, rfl, size, rv⟩
end
end Gd

namespace K16
open PySem L2 Gd
def top (i : Nat) : Stmt := PySem.Challenge.pw_restcounts_k16_first_wrong_signs_of_sums.main.body.getD i (.Pass ⟨0, 0, 0, 0⟩)
abbrev sPen : Stmt := top 42
abbrev sDraw : Stmt := top 43
abbrev sPick : Stmt := top 44
/-! ### the law's pen: where drawn numbers come from -/
abbrev kC : Key := Sum.inr "cells"
abbrev kA : Key := Sum.inr "at"
abbrev kG : Key := Sum.inr "digits"
abbrev kN : Key := Sum.inr "count"
abbrev kF : Key := Sum.inr "fold"
theorem kne : (kA = kC) = False ∧ (kG = kC) = False ∧ (kN = kC) = False ∧ (kF = kC) = False ∧ (kC = kA) = False ∧ (kG = kA) = False ∧ (kN = kA) = False ∧ (kF = kA) = False ∧
    (kC = kG) = False ∧ (kA = kG) = False ∧ (kN = kG) = False ∧ (kF = kG) = False ∧ (kC = kN) = False ∧ (kA = kN) = False ∧ (kG = kN) = False ∧ (kF = kN) = False ∧
    (kC = kF) = False ∧ (kA = kF) = False ∧ (kG = kF) = False ∧ (kN = kF) = False := by
  refine ⟨?_, ?_, ?_, ?_, ?_, ?_, ?_, ?_, ?_, ?_, ?_, ?_, ?_, ?_, ?_, ?_, ?_, ?_, ?_, ?_⟩ <;> exact eq_false (by decide +kernel)
theorem putK_same {kvs : List (Key × V)} {k : Key} {v x : V} (h : valV kvs k = some x) : (putK kvs k v).length = kvs.length := by
  have e := valV_any k kvs
  rw [h, Option.isSome_some] at e
  unfold putK
  rw [if_pos e, List.length_map]
theorem dg {H : Hp} {a : Addr} {kvs : List (Key × V)} (k : Key) {v : V} (hd : H a = some (.dK kvs)) (h : valV kvs k = some v) : DGet H a (kV k) (some v) := h ▸ DGet.k hd
theorem five {n : Nat} (h : n ≤ 5) : n < sizeLine := small1000 (by omega)
theorem put_in {kvs : List (Key × V)} (k j : Key) (v : V) {x : V} (h : valV kvs j = some x) (ne : (j = k) = False) : valV (putK kvs k v) j = some x := by
  rw [valV_put, if_neg (by rw [ne]; exact id)]
  exact h
theorem put_at {kvs : List (Key × V)} (k : Key) (v : V) : valV (putK kvs k v) k = some v := by
  rw [valV_put, if_pos rfl]
/-- the pen at d, its cells at c; n draws were made -/
def Pen (H : Hp) (d c : Addr) (n : Int) : Prop := ∃ (kvs : List (Key × V)) (cs : List Int) (p g f : Int), H d = some (.dK kvs) ∧ H c = some (.lst (cs.map V.int)) ∧
  kvs.length ≤ 5 ∧ valV kvs kC = some (.ref c) ∧ valV kvs kA = some (.int p) ∧ valV kvs kG = some (.int g) ∧ valV kvs kN = some (.int n) ∧ valV kvs kF = some (.int f) ∧
  (0 ≤ p ∧ 0 ≤ g) ∧ (0 ≤ f ∧ f < 2147483648)
theorem Pen.ne {H : Hp} {d c : Addr} {n : Int} (h : Pen H d c n) : c ≠ d := by
  obtain ⟨kvs, cs, p, g, f, h1, h2, _⟩ := h
  exact ne_of h2 h1 (by intro z; cases z)
theorem Pen.keep {H H' : Hp} {d c : Addr} {n : Int} (h : Pen H d c n) (e1 : H' d = H d) (e2 : H' c = H c) : Pen H' d c n := by
  obtain ⟨kvs, cs, p, g, f, h1, h2, r⟩ := h
  exact ⟨kvs, cs, p, g, f, e1.trans h1, e2.trans h2, r⟩
theorem Pen.at {H : Hp} {d c : Addr} {n : Int} (h : Pen H d c n) : ∃ o, H d = some o := let ⟨_, _, _, _, _, h1, _⟩ := h; ⟨_, h1⟩
theorem Pen.atc {H : Hp} {d c : Addr} {n : Int} (h : Pen H d c n) : ∃ o, H c = some o := let ⟨_, _, _, _, _, _, h2, _⟩ := h; ⟨_, h2⟩
/-- new objects do not touch the pen -/
theorem Pen.upd {H : Hp} {d c p : Addr} {n : Int} {o : HO} (h : Pen H d c n) (hp : H p = none) : Pen (upd H p o) d c n := by
  obtain ⟨o1, h1⟩ := h.at
  obtain ⟨o2, h2⟩ := h.atc
  exact h.keep (upd_ne (ne_of_none h1 hp)) (upd_ne (ne_of_none h2 hp))
/-- what a draw leaves -/
structure Drawn (H H' : Hp) (d c : Addr) (n : Int) : Prop where
  pen : Pen H' d c n
  off : ∀ b, b ≠ d → H' b = H b
theorem Drawn.trans {H H1 H2 : Hp} {d c : Addr} {n m : Int} (a : Drawn H H1 d c n) (b : Drawn H1 H2 d c m) : Drawn H H2 d c m := ⟨b.pen, fun x hx => (b.off x hx).trans (a.off x hx)⟩
/-- one step: a number of the pen is put anew -/
theorem pen_put {H : Hp} {d c : Addr} {kvs : List (Key × V)} {k : Key} {v x : V} (hd : H d = some (.dK kvs)) (l : kvs.length ≤ 5) (h : valV kvs k = some x) :
    (upd H d (.dK (putK kvs k v))) d = some (.dK (putK kvs k v)) ∧ (putK kvs k v).length ≤ 5 := ⟨upd_same, by rw [putK_same h]; exact l⟩

def spDraw : Sp := fun vs H Q _ => ∃ (d c : Addr) (n m : Int), vs = [.ref d, .int m] ∧ Pen H d c n ∧ 0 < m ∧ m ≤ 1000000000 ∧ 0 ≤ n ∧ n < 1000000000 ∧
  ∀ (r : Int) (H' : Hp), 0 ≤ r → r < m → Drawn H H' d c (n + 1) → Q (.int r) H'
def spPen (K : PySem.W.Frag) : Sp := fun vs H Q _ => ∃ (a : Addr) (ns : List Int), vs = [.ref a] ∧ SqL K H a (ns.map V.int) ∧
  ∀ (H' : Hp) (d c : Addr), Pen H' d c 0 → (∀ b o, H b = some o → H' b = some o) → H d = none → Q (.ref d) H'
def spPick (K : PySem.W.Frag) : Sp := fun vs H Q _ => ∃ (d c a : Addr) (n : Int) (xs : List V), vs = [.ref d, .ref a] ∧ Pen H d c n ∧ H a = some (.lst xs) ∧ 0 < xs.length ∧ xs.length ≤ 1000 ∧ 0 ≤ n ∧ n < 1000000000 ∧
  ∀ (x : V) (H' : Hp), x ∈ xs → Drawn H H' d c (n + 1) → Q x H'
section
variable {P : Program} {w : World} {K : PySem.W.Frag} {mg : Str → Option Value} {base : Heap}
theorem scDraw : FnScope ["_law_pen_here", "_law_many", "_law_cell", "_law_digit", "_law_mixed"] ["_law_pen_here", "_law_many"] (defScope sDraw) := ⟨rfl, rfl, rfl, by decide +kernel, rfl, by decide +kernel, by decide +kernel⟩
theorem ok_draw {f : Addr} {fd : FuncData} (F : Fun K "_law_draw" "_law_draw" sDraw f fd) (mInt : mg "int" = none) (mLen : mg "len" = none) : FnOk P w K mg base CX0 1 f fd ["_law_pen_here", "_law_many"] spDraw := by
  refine F.ok scDraw (fun vs H Q E h => ?_) (fun cdv A outer s H vs Q E hr h => ?_)
  · obtain ⟨d, c, n, m, rfl, _⟩ := h
    rfl
  · obtain ⟨d, c, n, m, rfl, pen, m0, m1, n0, n1, k⟩ := h
    have hu := hu_of hr
    have ne := pen.ne
    obtain ⟨kvs, cs, p, g, f, hd, hc, hl, vC, vA, vG, vN, vF, ⟨p0, g0⟩, f0, f1⟩ := pen
    refine ⟨_, pss_cons (ps_dput hu (pv 0) pe_str (pe_op op_add (pe_dget hu (pv 0) pe_str (fun _ _ => rfl)) pe_int) rfl)
      (Evl.pss_cut (ps_if (PW.pt (pw_and (pt_cmpR op_eq (pe_dget hu (pv 0) pe_str (fun _ _ => rfl)) pe_int (nomark _))
            (pw_and1 (pt_cmpR op_lt (pe_dget hu (pv 0) pe_str (fun _ _ => rfl)) (pe_callB call_len_seq (by rfl) mLen PySem.boot_len (pa_cons (pe_dget hu (pv 0) pe_str (fun _ _ => rfl)) pa_nil)) (nomark _)))))
          (pss_cons (ps_set (i := 2) scDraw.nd rfl (Or.inl rfl) (pe_ix ix_list (pe_dget hu (pv 0) pe_str (fun _ _ => rfl)) (pe_dget hu (pv 0) pe_str (fun _ _ => rfl)) (fun _ _ => rfl)))
          (pss_cons (ps_dput hu (pv 0) pe_str (pe_op op_add (pe_dget hu (pv 0) pe_str (fun _ _ => rfl)) pe_int) rfl)
          (pss_one (ps_if (pt_cmpR op_ge (pv 2) (pe_op op_pow pe_int pe_int) (nomark _))
            (pss_one (ps_dput hu (pv 0) pe_str (pe_op op_sub (pv 2) (pe_op op_pow pe_int pe_int)) rfl))
            (pss_one (ps_dput hu (pv 0) pe_str (pe_op op_mod (pe_callTy call_int1 (by rfl) mInt (by decide +kernel) (pa_cons (pe_op op_add (pe_op op_mul (pe_dget hu (pv 0) pe_str (fun _ _ => rfl)) pe_int) (pv 2)) pa_nil)) pe_int) rfl))))))
          pss_nil)
      (pss_cons (ps_if (pt_cmpR op_gt (pe_dget hu (pv 0) pe_str (fun _ _ => rfl)) pe_int (nomark _))
          (pss_cons (ps_set (i := 3) scDraw.nd rfl (Or.inl rfl) (pe_op op_mod (pe_callTy call_int1 (by rfl) mInt (by decide +kernel) (pa_cons (pe_dget hu (pv 0) pe_str (fun _ _ => rfl)) pa_nil)) (pv 1)))
          (pss_cons (ps_dput hu (pv 0) pe_str (pe_op op_fdiv (pe_dget hu (pv 0) pe_str (fun _ _ => rfl)) (pv 1)) rfl)
          (pss_one (ps_ret (pv 3)))))
          pss_nil)
      (pss_cons (ps_set (i := 4) scDraw.nd rfl (Or.inl rfl) (pe_op op_add (pe_op op_add (pe_dget hu (pv 0) pe_str (fun _ _ => rfl)) (pe_op op_mul (pe_dget hu (pv 0) pe_str (fun _ _ => rfl)) pe_int)) pe_int))
      (pss_one (ps_ret (pe_op op_mod (pe_op op_fdiv (pe_callTy call_int1 (by rfl) mInt (by decide +kernel) (pa_cons (pe_op op_mod (pe_op op_pow (pv 4) pe_int) pe_int) pa_nil)) pe_int) (pv 1))))))), ?_⟩
    -- pen['count'] = pen['count'] + 1
    obtain ⟨ac, gc, nc, fc, ca, ga, na, fa, cg, ag, ng, fg, cn, an, gn, fn, cf, af, gf, nf⟩ := kne
    have l1 : (putK kvs kN (V.int (n + 1))).length ≤ 5 := by rw [putK_same vN]; exact hl
    have vC1 := put_in kN kC (V.int (n + 1)) vC cn
    have vA1 := put_in kN kA (V.int (n + 1)) vA an
    have vG1 := put_in kN kG (V.int (n + 1)) vG gn
    have vF1 := put_in kN kF (V.int (n + 1)) vF fn
    have vN1 : valV (putK kvs kN (V.int (n + 1))) kN = some (V.int (n + 1)) := put_at kN _
    refine ⟨_, rfl, d, _, rfl, dg kN hd vN, _, _, rfl, rfl, _, rfl, d, _, rfl, DPut.k (k := kN) hd (five hl), ?_⟩
    have hc1 : ∀ o, (L2.upd H d o) c = some (.lst (cs.map V.int)) := fun o => by rw [upd_ne ne]; exact hc
    generalize putK kvs kN (V.int (n + 1)) = kvs1 at *
    clear vC vA vG vN vF
    -- behind the if: a heap that differs at the pen alone
    refine ⟨fun σ' H' => ∃ (kvs : List (Key × V)) (p g f : Int) (z : Option V), σ' = [some (.ref d), some (.int m), z, none, none] ∧ H' d = some (.dK kvs) ∧ (∀ b, b ≠ d → H' b = H b) ∧
      kvs.length ≤ 5 ∧ valV kvs kC = some (.ref c) ∧ valV kvs kA = some (.int p) ∧ valV kvs kG = some (.int g) ∧ valV kvs kN = some (.int (n + 1)) ∧ valV kvs kF = some (.int f) ∧
      (0 ≤ p ∧ 0 ≤ g) ∧ (0 ≤ f ∧ f < 2147483648), ?_, ?_⟩
    · have mid : ∀ (z : Option V) (kvs2 : List (Key × V)) (H2 : Hp) (p g f : Int), H2 d = some (.dK kvs2) → (∀ b, b ≠ d → H2 b = H b) → kvs2.length ≤ 5 → valV kvs2 kC = some (.ref c) → valV kvs2 kA = some (.int p) →
          valV kvs2 kG = some (.int g) → valV kvs2 kN = some (.int (n + 1)) → valV kvs2 kF = some (.int f) → (0 ≤ p ∧ 0 ≤ g) → (0 ≤ f ∧ f < 2147483648) →
          ∃ (kvs : List (Key × V)) (p g f : Int) (z' : Option V), [some (V.ref d), some (V.int m), z, none, none] = [some (V.ref d), some (V.int m), z', none, none] ∧ H2 d = some (.dK kvs) ∧ (∀ b, b ≠ d → H2 b = H b) ∧
            kvs.length ≤ 5 ∧ valV kvs kC = some (.ref c) ∧ valV kvs kA = some (.int p) ∧ valV kvs kG = some (.int g) ∧ valV kvs kN = some (.int (n + 1)) ∧ valV kvs kF = some (.int f) ∧ (0 ≤ p ∧ 0 ≤ g) ∧ (0 ≤ f ∧ f < 2147483648) :=
        fun z kvs2 H2 p g f a1 a2 a3 a4 a5 a6 a7 a8 a9 a10 => ⟨kvs2, p, g, f, z, rfl, a1, a2, a3, a4, a5, a6, a7, a8, a9, a10⟩
      have off : ∀ o b, b ≠ d → (L2.upd H d o) b = H b := fun o b hb => upd_ne hb
      refine ⟨_, rfl, d, _, rfl, dg kG upd_same vG1, rfl, _, rfl, ite2 (fun _ => ?_) (fun _ => ?_)⟩
      · refine ⟨_, rfl, d, _, rfl, dg kA upd_same vA1, _, rfl, d, _, rfl, dg kC upd_same vC1, c, _, rfl, .inl (SqL.of (hc1 _)), _, _, rfl, rfl, _, rfl, ite2 (fun hlt => ?_) (fun _ => ?_)⟩
        · have hlt := of_decide_eq_true hlt
          rw [List.length_map] at hlt
          have hp : p.toNat < cs.length := by omega
          have hat : (cs.map V.int)[p.toNat]? = some (V.int cs[p.toNat]) := by rw [List.getElem?_map, List.getElem?_eq_getElem hp]; rfl
          refine ⟨_, rfl, d, _, rfl, dg kC upd_same vC1, _, rfl, d, _, rfl, dg kA upd_same vA1, c, _, _, _, rfl, rfl, SqL.of (hc1 _), at_of (by omega) hat, ?_⟩
          generalize cs[p.toNat] = x
          -- pen['at'] = pen['at'] + 1
          have l2 : (putK kvs1 kA (V.int (p + 1))).length ≤ 5 := by rw [putK_same vA1]; exact l1
          have vC2 := put_in kA kC (V.int (p + 1)) vC1 ca
          have vG2 := put_in kA kG (V.int (p + 1)) vG1 ga
          have vF2 := put_in kA kF (V.int (p + 1)) vF1 fa
          have vN2 := put_in kA kN (V.int (p + 1)) vN1 na
          have vA2 : valV (putK kvs1 kA (V.int (p + 1))) kA = some (V.int (p + 1)) := put_at kA _
          refine ⟨_, rfl, d, _, rfl, dg kA upd_same vA1, _, _, rfl, rfl, _, rfl, d, _, rfl, DPut.k (k := kA) upd_same (five l1), ?_⟩
          rw [upd_upd]
          generalize putK kvs1 kA (V.int (p + 1)) = kvs2 at *
          refine ⟨_, rfl, _, _, rfl, rfl, ⟨by decide, by decide, by decide⟩, _, _, rfl, rfl, _, rfl, ite2 (fun hge => ?_) (fun _ => ?_)⟩
          · have hge := of_decide_eq_true hge
            refine ⟨_, rfl, _, _, rfl, rfl, ⟨by decide, by decide, by decide⟩, _, _, rfl, rfl, _, rfl, d, _, rfl, DPut.k (k := kG) upd_same (five l2), ?_⟩
            rw [upd_upd]
            have e10 : (10 : Int) ^ (18 : Int).toNat = 1000000000000000000 := by decide
            exact mid _ _ _ (p + 1) _ f upd_same (off _) (by rw [putK_same vG2]; exact l2) (put_in kG kC _ vC2 cg) (put_in kG kA _ vA2 ag) (put_at kG _) (put_in kG kN _ vN2 ng) (put_in kG kF _ vF2 fg) ⟨by omega, by omega⟩ ⟨f0, f1⟩
          · refine ⟨_, rfl, d, _, rfl, dg kF upd_same vF2, _, _, rfl, rfl, .inl ⟨by omega, by omega⟩, _, rfl, _, _, rfl, rfl, .inl ⟨_, rfl, _, _, rfl, rfl, (by show (0 : Int) < 2147483587; decide), _, rfl, d, _, rfl, DPut.k (k := kF) upd_same (five l2), ?_⟩⟩
            rw [upd_upd]
            exact mid _ _ _ (p + 1) g _ upd_same (off _) (by rw [putK_same vF2]; exact l2) (put_in kF kC _ vC2 cf) (put_in kF kA _ vA2 af) (put_in kF kG _ vG2 gf) (put_in kF kN _ vN2 nf) (put_at kF _) ⟨by omega, by omega⟩ ⟨by omega, by omega⟩
        · exact mid _ _ _ p g f upd_same (off _) l1 vC1 vA1 vG1 vN1 vF1 ⟨p0, g0⟩ ⟨f0, f1⟩
      · refine iteF ?_
        exact mid _ _ _ p g f upd_same (off _) l1 vC1 vA1 vG1 vN1 vF1 ⟨p0, g0⟩ ⟨f0, f1⟩
    · clear vC1 vA1 vG1 vF1 vN1 l1 hc1 p0 g0 f0 f1 hl hd
      rintro σ' H2 ⟨kvs2, p2, g2, f2, z, rfl, hd2, off, l2, vC2, vA2, vG2, vN2, vF2, ⟨p0, g0⟩, f0, f1⟩
      have hc2 : H2 c = some (.lst (cs.map V.int)) := (off c ne).trans hc
      have m30 : m < 1073741824 := by omega
      refine ⟨_, rfl, d, _, rfl, dg kG hd2 vG2, _, _, rfl, rfl, _, rfl, ite2 (fun hgt => ?_) (fun _ => ?_)⟩
      · refine ⟨_, rfl, d, _, rfl, dg kG hd2 vG2, .inl ⟨_, rfl, _, rfl, _, _, rfl, rfl, m0, ?_⟩⟩
        refine ⟨_, rfl, d, _, rfl, dg kG hd2 vG2, _, rfl, _, _, rfl, rfl, ⟨m0, m30⟩, _, rfl, d, _, rfl, DPut.k (k := kG) hd2 (five l2), _, rfl, ?_⟩
        have q0 : 0 ≤ g2 / m := Int.ediv_nonneg g0 (by omega)
        refine k _ _ (Int.emod_nonneg _ (by omega)) (Int.emod_lt_of_pos _ m0) ⟨⟨_, cs, p2, g2 / m, f2, upd_same, by rw [upd_ne ne]; exact hc2, by rw [putK_same vG2]; exact l2, put_in kG kC _ vC2 cg, put_in kG kA _ vA2 ag, put_at kG _, put_in kG kN _ vN2 ng, put_in kG kF _ vF2 fg, ⟨p0, q0⟩, f0, f1⟩, fun b hb => by rw [upd_ne hb]; exact off b hb⟩
      · refine ⟨_, rfl, d, _, rfl, dg kF hd2 vF2, _, rfl, d, _, rfl, dg kN hd2 vN2, _, _, rfl, rfl, .inr ⟨by decide, by decide⟩, _, _, rfl, rfl, _, _, rfl, rfl, ?_⟩
        refine ⟨_, rfl, _, _, rfl, rfl, ⟨by decide, by decide, by omega⟩, _, _, rfl, rfl, (by show (0 : Int) < 2305843009213693951; decide), .inl ⟨_, rfl, _, _, rfl, rfl, ⟨by decide, by decide⟩, _, rfl, _, _, rfl, rfl, m0, ?_⟩⟩
        exact k _ _ (Int.emod_nonneg _ (by omega)) (Int.emod_lt_of_pos _ m0) ⟨⟨kvs2, cs, p2, g2, f2, hd2, hc2, l2, vC2, vA2, vG2, vN2, vF2, ⟨p0, g0⟩, f0, f1⟩, off⟩

theorem scPen : FnScope ["_law_script", "_law_fold", "_law_cell"] ["_law_script"] (defScope sPen) := ⟨rfl, rfl, rfl, by decide +kernel, rfl, by decide +kernel, by decide +kernel⟩
theorem ok_pen {f : Addr} {fd : FuncData} (F : Fun K "_law_pen" "_law_pen" sPen f fd) (mInt : mg "int" = none) (mLst : mg "list" = none) : FnOk P w K mg base CX0 1 f fd ["_law_script"] (spPen K) := by
  refine F.ok scPen (fun vs H Q E h => ?_) (fun cdv A outer s H vs Q E hr h => ?_)
  · obtain ⟨a, ns, rfl, _⟩ := h
    rfl
  · obtain ⟨a, ns, rfl, hS, k⟩ := h
    refine ⟨_, pss_cons (ps_set (i := 1) scPen.nd rfl (Or.inl rfl) pe_int)
      (pss_cons (ps_for PassesOwn.never rfl (pi_list (pv 0)) (pg_name (i := 2) scPen.nd rfl (Or.inl rfl))
        (pss_one (ps_set (i := 1) scPen.nd rfl (Or.inl rfl) (pe_op op_mod (pe_callTy call_int1 (by rfl) mInt (by decide +kernel) (pa_cons (pe_op op_add (pe_op op_mul (pv 1) pe_int) (pv 2)) pa_nil)) pe_int))))
      (pss_one (ps_ret (pe_disp (pps_cons pe_str (pe_callTy call_list_of (by rfl) mLst (by decide +kernel) (pa_cons (pv 0) pa_nil))
        (pps_cons pe_str pe_int (pps_cons pe_str pe_int (pps_cons pe_str pe_int (pps_cons pe_str (pv 1) pps_nil))))) rfl rfl (by simp) (by decide))))), ?_⟩
    refine ⟨_, rfl, a, rfl, ⟨_, hS⟩, for_list (K := K) (a := a) (xs := ns.map V.int) (fun _ σ H2 => ∃ (f : Int) (v : Option V), σ = [some (.ref a), some (.int f), v] ∧ H2 = H ∧ 0 ≤ f ∧ f < 1000000007)
      ⟨0, none, rfl, rfl, by decide, by decide⟩ (fun i σ H2 _ ⟨_, _, _, e, _⟩ => e ▸ hS) ?_ ?_⟩
    · rintro i y σ H2 hi ⟨f, v, rfl, rfl, f0, f1⟩
      obtain ⟨z, rfl⟩ : ∃ z, y = V.int z := by
        rw [List.getElem?_map] at hi
        cases e : ns[i]? with
        | none => rw [e] at hi; cases hi
        | some z => rw [e] at hi; exact ⟨z, (Option.some.inj hi).symm⟩
      refine ⟨_, rfl, _, _, rfl, rfl, .inl ⟨by omega, by omega⟩, _, rfl, _, _, rfl, rfl, .inl ⟨_, rfl, _, _, rfl, rfl, (by show (0 : Int) < 1000000007; decide), ?_⟩⟩
      exact ⟨_, _, rfl, rfl, Int.emod_nonneg _ (by decide), Int.emod_lt_of_pos _ (by decide)⟩
    · rintro σ H2 ⟨f, v, rfl, rfl, f0, f1⟩
      intro d hd
      have hS1 : SqL K (L2.upd H2 d (.dK [])) a (ns.map V.int) := Same.seq (fun b o e => by rw [upd_ne (ne_of_none e hd)]; exact e) hS
      refine ⟨_, rfl, a, _, rfl, .inl hS1, fun c hc => ?_⟩
      have ncd : c ≠ d := fun e => by
        rw [e, upd_same] at hc
        cases hc
      have hc0 : H2 c = none := by rw [upd_ne ncd] at hc; exact hc
      refine ⟨_, rfl, by rw [upd_ne ncd.symm, upd_same], [(kC, .ref c), (kA, .int 0), (kG, .int 0), (kN, .int 0), (kF, .int f)], rfl, (by show 5 ≤ 15; decide), ?_⟩
      have lm := length_mergeK [(kC, V.ref c), (kA, .int 0), (kG, .int 0), (kN, .int 0), (kF, .int f)] []
      obtain ⟨ac, gc, nc, fc, ca, ga, na, fa, cg, ag, ng, fg, cn, an, gn, fn, cf, af, gf, nf⟩ := kne
      have em : mergeK [] [(kC, V.ref c), (kA, .int 0), (kG, .int 0), (kN, .int 0), (kF, .int f)] = putK (putK (putK (putK (putK [] kC (.ref c)) kA (.int 0)) kG (.int 0)) kN (.int 0)) kF (.int f) := rfl
      have v1 : valV (mergeK [] [(kC, V.ref c), (kA, .int 0), (kG, .int 0), (kN, .int 0), (kF, .int f)]) kC = some (.ref c) := by
        rw [em]; exact put_in _ _ _ (put_in _ _ _ (put_in _ _ _ (put_in _ _ _ (put_at _ _) ca) cg) cn) cf
      have v2 : valV (mergeK [] [(kC, V.ref c), (kA, .int 0), (kG, .int 0), (kN, .int 0), (kF, .int f)]) kA = some (.int 0) := by
        rw [em]; exact put_in _ _ _ (put_in _ _ _ (put_in _ _ _ (put_at _ _) ag) an) af
      have v3 : valV (mergeK [] [(kC, V.ref c), (kA, .int 0), (kG, .int 0), (kN, .int 0), (kF, .int f)]) kG = some (.int 0) := by
        rw [em]; exact put_in _ _ _ (put_in _ _ _ (put_at _ _) gn) gf
      have v4 : valV (mergeK [] [(kC, V.ref c), (kA, .int 0), (kG, .int 0), (kN, .int 0), (kF, .int f)]) kN = some (.int 0) := by
        rw [em]; exact put_in _ _ _ (put_at _ _) nf
      have v5 : valV (mergeK [] [(kC, V.ref c), (kA, .int 0), (kG, .int 0), (kN, .int 0), (kF, .int f)]) kF = some (.int f) := by
        rw [em]; exact put_at _ _
      have l5 : (mergeK [] [(kC, V.ref c), (kA, .int 0), (kG, .int 0), (kN, .int 0), (kF, .int f)]).length ≤ 5 := lm
      refine k _ d c ⟨_, ns, 0, 0, f, upd_same, by rw [upd_ne ncd, upd_same], l5, v1, v2, v3, v4, v5, by decide, f0, by omega⟩ (fun b o e => ?_) hd
      rw [upd_ne (ne_of_none e hd), upd_ne (ne_of_none e hc0), upd_ne (ne_of_none e hd)]
      exact e
theorem scPick : FnScope ["_law_pen_here", "_law_some"] ["_law_pen_here", "_law_some"] (defScope sPick) := ⟨rfl, rfl, rfl, by decide +kernel, rfl, by decide +kernel, by decide +kernel⟩
theorem ok_pick {f fD : Addr} {fd fdD : FuncData} (F : Fun K "_law_pick" "_law_pick" sPick f fd) (FD : Fun K "_law_draw" "_law_draw" sDraw fD fdD) (bD : Binds K fdD ["_law_pen_here", "_law_many"] []) (mD : mg "_law_draw" = some (.ref fD))
    (mInt : mg "int" = none) (mLen : mg "len" = none) : FnOk P w K mg base CX0 2 f fd ["_law_pen_here", "_law_some"] (spPick K) := by
  have GD : FnOk P w K mg base CX0 1 fD fdD ["_law_pen_here", "_law_many"] spDraw := ok_draw FD mInt mLen
  refine F.ok scPick (fun vs H Q E h => ?_) (fun cdv A outer s H vs Q E hr h => ?_)
  · obtain ⟨d, c, a, n, xs, rfl, _⟩ := h
    rfl
  · obtain ⟨d, c, a, n, xs, rfl, pen, ha, x0, x1, n0, n1, k⟩ := h
    refine ⟨_, pss_one (ps_ret (pe_ix ix_list (pv 1) (pe_call GD hr rfl mD FD.kp bD .nil pass0 (pa_cons (pv 0) (pa_cons (pe_callB call_len_seq (by rfl) mLen PySem.boot_len (pa_cons (pv 1) pa_nil)) pa_nil))) (fun _ _ => rfl))), ?_⟩
    refine ⟨_, rfl, _, rfl, _, rfl, a, _, rfl, .inl (SqL.of ha), d, c, n, _, rfl, pen, by omega, by omega, n0, n1, fun r H' r0 r1 dr => ?_⟩
    have nda : a ≠ d := fun e => by
      obtain ⟨kvs, cs, p, g, f, h1, _⟩ := pen
      rw [e, h1] at ha
      cases ha
    have hr : r.toNat < xs.length := by omega
    refine ⟨a, _, _, _, rfl, rfl, SqL.of ((dr.off a nda).trans ha), at_of (j := r.toNat) (by omega) (List.getElem?_eq_getElem hr), ?_⟩
    exact k _ _ (List.getElem_mem hr) dr
end
/-! ### the errors -/
/-- what an __init__ that keeps its arguments as fields does -/
def spIni (C : Addr) (fs : List Str) : Sp := fun vs H Q _ => ∃ (a : Addr) (ys : List V), vs = .ref a :: ys ∧ ys.length = fs.length ∧ H a = some (exo a C none) ∧
  ∀ (H' : Hp) (dx : Addr), H dx = none → dx ≠ a → (∀ b, b ≠ a → b ≠ dx → H' b = H b) → H' a = some (exo a C (some dx)) → H' dx = some (exd dx (fs.zip ys).reverse) → Q .non H'
section
variable {P : Program} {w : World} {K : PySem.W.Frag} {mg : Str → Option Value} {base : Heap}
abbrev sBadRow : Stmt := inClass (top 10) 0
theorem scBadRow : FnScope ["self", "row"] ["self", "row"] (defScope sBadRow) := ⟨rfl, rfl, rfl, by decide +kernel, rfl, by decide +kernel, by decide +kernel⟩
theorem okBadRow {f C : Addr} {fd : FuncData} (F : Fun K "__init__" "BadRow.__init__" sBadRow f fd) (T : OexC K C) (no : ∀ g ∈ (["row"] : List Str), PySem.W.findIn K (.ref C) g = some none) : FnOk P w K mg base CX0 1 f fd ["self", "row"] (spIni C ["row"]) := by
  refine F.ok scBadRow (fun vs H Q E h => ?_) (fun cdv A outer s H vs Q E hr h => ?_)
  · obtain ⟨a, ys, rfl, hl, _⟩ := h
    show ys.length + 1 = _
    rw [hl]
    rfl
  · obtain ⟨a, ys, rfl, hl, ha, k⟩ := h
    match ys, hl with
    | [y0], _ =>
    refine ⟨_, pss_one (ps_ost (pv 0) (pv 1)), ?_⟩
    refine ⟨_, rfl, _, rfl, a, C, rfl, T, no _ (.head _), .inl ⟨ha, fun dx hdx ne => ?_⟩⟩
    refine k _ dx hdx ne (fun b hb hd => ?_) ?_ ?_
    · rw [upd_ne hb, upd_ne hd]
    · exact upd_same
    · rw [upd_ne ne, upd_same]; rfl
end
end K16

namespace K16
open PySem L2 Gd
/-! ### kinds of values -/
def offInt : List String := ["bool", "NoneType", "str", "list", "tuple", "dict"]
theorem off_int : ∀ n ∈ offInt, kitB n "int" = some (decide (n = "bool")) ∧ kitB n "bool" = some (decide (n = "bool")) := by decide +kernel
theorem on_int : kitB "int" "int" = some true ∧ kitB "int" "bool" = some false := by decide +kernel
/-- no int at all, or a bool -/
def NoInt (K : PySem.W.Frag) (H : Hp) (x : V) : Prop := ∃ n, n ∈ offInt ∧ TyX K H x (.type n)
theorem tyMore {K : PySem.W.Frag} {H H' : Hp} {x : V} {n : String} (e : ∀ b o, H b = some o → H' b = some o) (t : TyX K H x (.type n)) : TyX K H' x (.type n) := by
  cases t with
  | base t =>
    refine .base ?_
    cases t with
    | non => exact .non
    | bl b => exact .bl b
    | int i => exact .int i
    | str z => exact .str z
    | flt z => exact .flt z
    | lst h => exact .lst (e _ _ h)
    | frz h => exact .frz (e _ _ h)
    | tup h => exact .tup (e _ _ h)
    | dK h => exact .dK (e _ _ h)
    | dT h => exact .dT (e _ _ h)
  | byt b => exact .byt b
  | set h => exact .set (e _ _ h)
  | kList h c => exact .kList h c
  | kTuple h c => exact .kTuple h c
  | kDict h c => exact .kDict h c
  | fTuple h => exact .fTuple (e _ _ h)
  | fDict h => exact .fDict (e _ _ h)
theorem NoInt.more {K : PySem.W.Frag} {H H' : Hp} {x : V} (e : ∀ b o, H b = some o → H' b = some o) (h : NoInt K H x) : NoInt K H' x :=
  let ⟨n, m, t⟩ := h; ⟨n, m, tyMore e t⟩
def spIsI (K : PySem.W.Frag) : Sp := fun vs H Q _ => ∃ x, vs = [x] ∧ ((∃ i, x = .int i ∧ Q (.bl true) H) ∨ (NoInt K H x ∧ Q (.bl false) H) ∨ ∃ t, TyX K H x t ∧ PySem.W.kitOne K t (.type "int") = some false ∧ Q (.bl false) H)
section
variable {P : Program} {w : World} {K : PySem.W.Frag} {mg : Str → Option Value} {base : Heap}
abbrev sIsI : Stmt := top 12
theorem scIsI : FnScope ["value"] ["value"] (defScope sIsI) := ⟨rfl, rfl, rfl, by decide +kernel, rfl, by decide +kernel, by decide +kernel⟩
theorem ok_isI {f : Addr} {fd : FuncData} (F : Fun K "is_integer" "is_integer" sIsI f fd) (mIsi : mg "isinstance" = none) (mInt : mg "int" = none) (mBool : mg "bool" = none) : FnOk P w K mg base CX0 1 f fd ["value"] (spIsI K) := by
  refine F.ok scIsI (fun vs H Q E h => ?_) (fun cdv A outer s H vs Q E hr h => ?_)
  · obtain ⟨x, rfl, _⟩ := h
    rfl
  · obtain ⟨x, rfl, h⟩ := h
    refine ⟨_, pss_one (ps_ret (pe_and (pe_callB call_isi (by rfl) mIsi (by decide +kernel) (pa_cons (pv 0) (pa_cons (pe_bltn (v := .ty "int") rfl mInt (by decide +kernel) rfl) pa_nil)))
      (pe_one (pe_not (pe_callB call_isi (by rfl) mIsi (by decide +kernel) (pa_cons (pv 0) (pa_cons (pe_bltn (v := .ty "bool") rfl mBool (by decide +kernel) rfl) pa_nil))))))), ?_⟩
    obtain ⟨i, rfl, q⟩ | ⟨⟨n, hn, t⟩, q⟩ | ⟨t, ty, kt, q⟩ := h
    · refine ⟨_, rfl, _, _, _, _, _, rfl, .ty "int", .base (.int i), kit_ty on_int.1, _, rfl, iteT ?_⟩
      exact ⟨_, rfl, _, _, _, _, _, rfl, .ty "bool", .base (.int i), kit_ty on_int.2, _, rfl, q⟩
    · obtain ⟨k1, k2⟩ := off_int n hn
      refine ⟨_, rfl, _, _, _, _, _, rfl, .ty "int", t, kit_ty k1, _, rfl, ite2 (fun z => ?_) (fun z => q)⟩
      refine ⟨_, rfl, _, _, _, _, _, rfl, .ty "bool", t, kit_ty k2, _, rfl, ?_⟩
      rw [z]
      exact q
    · exact ⟨_, rfl, _, _, _, _, _, rfl, .ty "int", ty, kt, _, rfl, iteF q⟩
end
theorem pi_or {X : Cx} {tg it : Expr} {u v : TI} (a : PI X tg it u) (b : PI X tg it v) : PI X tg it (fun σ H R => u σ H R ∨ v σ H R) where
  run := by
    rintro pins s σ H R I (h | h)
    · exact a.run pins s σ H R I h
    · exact b.run pins s σ H R I h
theorem sqT_more {K : PySem.W.Frag} {H H' : Hp} {a : Addr} {xs : List V} (e : ∀ b o, H b = some o → H' b = some o) : SqT K H a xs → SqT K H' a xs
  | .inl (.inl h) => .inl (.inl (e _ _ h))
  | .inl (.inr ⟨o, h⟩) => .inl (.inr ⟨o, e _ _ h⟩)
  | .inr h => .inr h
/-- a list or a tuple of xs -/
def Sq (K : PySem.W.Frag) (H : Hp) (a : Addr) (xs : List V) : Prop := SqL K H a xs ∨ SqT K H a xs
theorem Sq.more {K : PySem.W.Frag} {H H' : Hp} {a : Addr} {xs : List V} (e : ∀ b o, H b = some o → H' b = some o) : Sq K H a xs → Sq K H' a xs
  | .inl h => .inl (Same.seq e h)
  | .inr h => .inr (sqT_more e h)
/-! ### errors of the program -/
structure Er (K : PySem.W.Frag) (mg : Str → Option Value) (x q : Str) (C fI : Addr) (fs : List Str) (st : Stmt) (fd : FuncData) : Prop where
  T : OexC K C
  iC : PySem.W.findIn K (.ref C) "__init__" = some (some (.ref fI))
  tI : PySem.W.typeIn K (.ref fI) = some (.type "function")
  fn : Fun K "__init__" q st fI fd
  b : Binds K fd ("self" :: fs) []
  no : ∀ g ∈ fs, PySem.W.findIn K (.ref C) g = some none
  g : mg x = some (.ref C)
theorem mk_ini {C : Addr} {fs : List Str} {vs : List V} {H1 : Hp} {Q : XK} (hl : vs.length = fs.length) (h9 : vs.length ≤ 900)
    (h : ∀ d, H1 d = none → Q (.ref C) (some d) (upd H1 d (.xd (fs.zip vs).reverse))) : vs.length ≤ 1000 ∧ ∀ a, H1 a = none →
      spIni C fs (.ref a :: (vs ++ [])) (upd H1 a (exo a C none)) (fun v H2 => v = .non ∧ ∃ (d : Addr) (fs' : List (Str × V)), H2 a = some (exo a C (some d)) ∧
        H2 d = some (exd d fs') ∧ H1 d = none ∧ Q (.ref C) (some d) (upd (del H2 a) d (.xd fs'))) (fun _ _ _ => False) := by
  refine ⟨by omega, fun a ha => ⟨a, vs, by rw [List.append_nil], hl, upd_same, fun H' dx hdx ne off e1 e2 => ⟨rfl, dx, _, e1, e2, ?_, ?_⟩⟩⟩
  · rw [upd_ne ne] at hdx
    exact hdx
  · rw [upd_ne ne] at hdx
    have same : upd (del H' a) dx (.xd (fs.zip vs).reverse) = upd H1 dx (.xd (fs.zip vs).reverse) := by
      funext b
      by_cases q : b = dx
      · subst q
        rw [upd_same, upd_same]
      · rw [upd_ne q, upd_ne q]
        by_cases z : b = a
        · subst z
          rw [del_same, ha]
        · rw [del_ne z, off b z q, upd_ne z]
    rw [same]
    exact h dx hdx
def RRow (CR : Addr) (x : V) (H : Hp) (E : XK) : Prop := ∀ d, H d = none → E (.ref CR) (some d) (upd H d (.xd [("row", x)]))
section
variable {P : Program} {w : World} {K : PySem.W.Frag} {mg : Str → Option Value} {base : Heap}
/-- a def of the text -/
structure Cl (K : PySem.W.Frag) (mg : Str → Option Value) (x : Str) (st : Stmt) (ps : List Str) (f : Addr) (fd : FuncData) : Prop where
  fn : Fun K x x st f fd
  b : Binds K fd ps []
  g : mg x = some (.ref f)
theorem Cl.k {x : Str} {st : Stmt} {ps : List Str} {f : Addr} {fd : FuncData} (h : Cl K mg x st ps f fd) : PySem.W.keepIn K (.ref f) = true := h.fn.kp
structure Blt (mg : Str → Option Value) : Prop where
  int_ : mg "int" = none
  bool_ : mg "bool" = none
  tup_ : mg "tuple" = none
  len_ : mg "len" = none
  list_ : mg "list" = none
  range_ : mg "range" = none
  isi_ : mg "isinstance" = none
  repr_ : mg "repr" = none
  all_ : mg "all" = none
  divmod_ : mg "divmod" = none
  rev_ : mg "reversed" = none
end
abbrev More (H H' : Hp) : Prop := ∀ b o, H b = some o → H' b = some o
theorem More.new {H H' : Hp} {p : Addr} {o : HO} (m : More H H') (hp : H' p = none) : More H (upd H' p o) := fun b u e => by
  rw [upd_ne (ne_of_none (m b u e) hp)]
  exact m b u e
theorem More.at {H H' : Hp} {p : Addr} {o : HO} (m : More H H') (hp : H p = none) : More H (upd H' p o) := fun b u e => by
  rw [upd_ne (ne_of_none e hp)]
  exact m b u e
theorem More.off {H H' : Hp} {p : Addr} (m : More H H') (hp : H' p = none) : H p = none := by
  cases e : H p with
  | none => rfl
  | some o =>
    rw [m p o e] at hp
    cases hp
/-! ### sequences of integers -/
def isI : V → Bool
  | .int _ => true
  | _ => false
theorem noInt_isI {K : PySem.W.Frag} {H : Hp} {y : V} (h : NoInt K H y) : isI y = false := by
  obtain ⟨n, hn, t⟩ := h
  cases y with
  | int i =>
    cases t with
    | base t =>
      cases t
      exact absurd hn (by decide)
  | _ => rfl
theorem tyL {K : PySem.W.Frag} {H : Hp} {a : Addr} {xs : List V} : SqL K H a xs → TyX K H (.ref a) (.type "list")
  | .inl (.inl h) => .base (.lst h)
  | .inl (.inr ⟨o, h⟩) => .base (.frz h)
  | .inr ⟨o, its, n, h, c, _⟩ => .kList h c
theorem tyT {K : PySem.W.Frag} {H : Hp} {a : Addr} {xs : List V} : SqT K H a xs → TyX K H (.ref a) (.type "tuple")
  | .inl (.inl h) => .base (.tup h)
  | .inl (.inr ⟨o, h⟩) => .fTuple h
  | .inr ⟨o, its, n, h, c, _⟩ => .kTuple h c
def noSeq : List String := ["int", "bool", "NoneType", "str", "dict"]
theorem seq_no : ∀ n ∈ noSeq, kitB n "tuple" = some false ∧ kitB n "list" = some false := by decide +kernel
theorem seq_yes : kitB "tuple" "tuple" = some true ∧ kitB "list" "tuple" = some false ∧ kitB "list" "list" = some true := by decide +kernel
def spIsIs (K : PySem.W.Frag) : Sp := fun vs H Q _ => ∃ x, vs = [x] ∧
  ((∃ n, n ∈ noSeq ∧ TyX K H x (.type n) ∧ ∀ H', More H H' → Q (.bl false) H') ∨
    ∃ a xs, x = .ref a ∧ Sq K H a xs ∧ xs.length ≤ 1000 ∧ (∀ y ∈ xs, (∃ i, y = .int i) ∨ NoInt K H y) ∧ ∀ H', More H H' → Q (.bl (xs.all isI)) H')
theorem take_snoc {α : Type} {l : List α} {i : Nat} {x : α} (h : l[i]? = some x) : l.take (i + 1) = l.take i ++ [x] := by
  rw [List.take_succ, h]
  rfl
section
variable {P : Program} {w : World} {K : PySem.W.Frag} {mg : Str → Option Value} {base : Heap}
variable {fI f : Addr} {fdI fd : FuncData}
abbrev sIsIs : Stmt := top 13
theorem scIsIs : FnScope ["value", "item"] ["value"] (defScope sIsIs) := ⟨rfl, rfl, rfl, by decide +kernel, rfl, by decide +kernel, by decide +kernel⟩
theorem ok_isIs (F : Fun K "is_integers" "is_integers" sIsIs f fd) (B : Blt mg) (I : Cl K mg "is_integer" sIsI ["value"] fI fdI) :
    FnOk P w K mg base CX0 2 f fd ["value"] (spIsIs K) := by
  have GI : FnOk P w K mg base CX0 1 fI fdI ["value"] (spIsI K) := ok_isI I.fn B.isi_ B.int_ B.bool_
  refine F.ok scIsIs (fun vs H Q E h => ?_) (fun cdv A outer s H vs Q E hr h => ?_)
  · obtain ⟨x, rfl, _⟩ := h
    rfl
  · obtain ⟨x, rfl, h⟩ := h
    refine ⟨_, pss_one (ps_ret (pe_and (pe_callB call_isiT (by rfl) B.isi_ (by decide +kernel) (pa_cons (pv 0) (pa_cons (pe_tup (pa_cons (pe_bltn (v := .ty "tuple") rfl B.tup_ (by decide +kernel) rfl)
        (pa_cons (pe_bltn (v := .ty "list") rfl B.list_ (by decide +kernel) rfl) pa_nil))) pa_nil)))
      (pe_one (pe_callB (cr_all rfl) (by rfl) B.all_ (by decide +kernel) (pa_cons (pe_lc (own := [("item", 1)]) (g := gName 1) (tt := tYes) rfl scIsIs.nd (pi_or (pi_list (pv 0)) (pi_tup (pv 0)))
        (blkOk_by (N := ["value", "item"]) (sc := defScope sIsIs) (by decide +kernel))
        (fun _ _ _ _ _ => pg_name (i := 1) scIsIs.nd rfl (Or.inl rfl)) (fun _ _ _ _ _ => pts_nil)
        (fun _ _ _ _ _ => pe_call GI hr rfl I.g I.k I.b .nil pass0 (pa_cons (pv 1) pa_nil))) pa_nil))))), ?_⟩
    refine ⟨_, rfl, (by show 2 ≤ sizeLine; decide), fun t ht => ?_⟩
    have m1 : More H (upd H t (.tup [.ty "tuple", .ty "list"])) := More.new (fun _ _ e => e) ht
    obtain ⟨n, hn, ty, q⟩ | ⟨a, xs, rfl, sq, few, all, q⟩ := h
    · obtain ⟨k1, k2⟩ := seq_no n hn
      refine ⟨_, t, _, _, _, false, rfl, upd_same, .cons (.ty "tuple") (.cons (.ty "list") .nil), tyMore m1 ty, kitAny_cons (kit_ty k1) (fun _ => kitAny_cons (kit_ty k2) (fun _ => kitAny_nil) (fun z => nomatch z)) (fun z => nomatch z), _, rfl, iteF ?_⟩
      exact q _ m1
    · have yes : ∃ n, TyX K H (.ref a) (.type n) ∧ PySem.W.kitAny K (.type n) [.type "tuple", .type "list"] = some true := by
        obtain h | h := sq
        · exact ⟨_, tyL h, kitAny_cons (kit_ty seq_yes.2.1) (fun _ => kitAny_cons (kit_ty seq_yes.2.2) (fun z => nomatch z) (fun _ => rfl)) (fun z => nomatch z)⟩
        · exact ⟨_, tyT h, kitAny_cons (kit_ty seq_yes.1) (fun z => nomatch z) (fun _ => rfl)⟩
      obtain ⟨n, ty, ka⟩ := yes
      refine ⟨_, t, _, _, _, true, rfl, upd_same, .cons (.ty "tuple") (.cons (.ty "list") .nil), tyMore m1 ty, ka, _, rfl, iteT ?_⟩
      have sq1 := Sq.more m1 sq
      generalize upd H t (.tup [.ty "tuple", .ty "list"]) = H1 at m1 sq1 ⊢
      have body : ∀ (J : It) (G : Hp → Prop), Walk J xs.length G (YAt xs) → (∀ H', More H1 H' → G H') → ∀ L, H1 L = none → _ :=
        fun J G wk hG L hL => lc_it (w := wk) (vs := [1]) (g := gName 1) (tt := tYes) (σ := [some (.ref a), none]) (D := L) (H1 := H1)
          (te := tCall (spIsI K) [] (fun _ _ _ => False) (tCons (tVar 1) tNil))
          (Qd := fun H' => ∃ (b : Addr) (bs : List Bool), [V.ref L] = [V.ref b] ∧ SqL K H' b (bs.map V.bl) ∧ Q (.bl (bs.all id)) H')
          (fun i H' => H' L = some (.lst ((xs.take i).map fun y => V.bl (isI y))) ∧ More H1 H') ⟨upd_same, More.new (fun _ _ e => e) hL⟩ (fun i H' _ h => hG H' h.2)
          (fun i y H2 H3 hi ⟨e1, m2⟩ ⟨eH, hy⟩ => by
            subst eH
            have la : ((xs.take i).map fun y => V.bl (isI y)).length < sizeLine := by
              rw [List.length_map, List.length_take]
              exact small1000 (by omega)
            have fin : ∀ b, isI y = b → ∃ acc, H3 L = some (.lst acc) ∧ acc.length < sizeLine ∧ (upd H3 L (.lst (acc ++ [V.bl b]))) L = some (.lst ((xs.take (i + 1)).map fun y => V.bl (isI y))) ∧ More H1 (upd H3 L (.lst (acc ++ [V.bl b]))) := by
              intro b hb
              refine ⟨_, e1, la, ?_, m2.at hL⟩
              rw [upd_same, take_snoc hy, List.map_append, List.map_cons, List.map_nil, hb]
            refine ⟨rfl, _, rfl, y, rfl, ?_⟩
            obtain ⟨z, rfl⟩ | no := all y (List.mem_of_getElem? hy)
            · exact .inl ⟨z, rfl, fin _ rfl⟩
            · exact .inr (.inl ⟨no.more fun b o e => m2 b o (m1 b o e), fin _ (noInt_isI no)⟩))
          (fun H' ⟨e1, m2⟩ => by
            rw [List.take_length] at e1
            refine ⟨L, xs.map isI, rfl, SqL.of (by rw [List.map_map]; exact e1), ?_⟩
            have : ((xs.map isI).all id) = xs.all isI := by rw [List.all_map]; rfl
            rw [this]
            exact q _ fun b o e => m2 b o (m1 b o e))
      obtain h | h := sq1
      · exact .inl ⟨_, rfl, a, rfl, ⟨xs, h⟩, body _ _ walk_list fun H' m => Same.seq m h⟩
      · exact .inr ⟨_, rfl, a, rfl, ⟨xs, h⟩, body _ _ walk_tup fun H' m => sqT_more m h⟩
end
end K16

namespace K16
open PySem L2 Gd
/-! ### terms of a sum -/
def NoSq (K : PySem.W.Frag) (H : Hp) (x : V) : Prop := ∃ n, n ∈ noSeq ∧ TyX K H x (.type n)
theorem NoSq.more {K : PySem.W.Frag} {H H' : Hp} {x : V} (e : ∀ b o, H b = some o → H' b = some o) (h : NoSq K H x) : NoSq K H' x := let ⟨n, m, t⟩ := h; ⟨n, m, tyMore e t⟩
def Its (K : PySem.W.Frag) (H : Hp) (ys : List V) : Prop := ys.length ≤ 1000 ∧ ∀ y ∈ ys, (∃ i, y = .int i) ∨ NoInt K H y
theorem Its.more {K : PySem.W.Frag} {H H' : Hp} {ys : List V} (e : ∀ b o, H b = some o → H' b = some o) (h : Its K H ys) : Its K H' ys := ⟨h.1, fun y hy => (h.2 y hy).imp id fun z => z.more e⟩
theorem Its.ints {K : PySem.W.Frag} {H : Hp} {ds : List Int} (h : ds.length ≤ 1000) : Its K H (ds.map V.int) := ⟨by rw [List.length_map]; exact h, fun y hy => by
  obtain ⟨d, _, rfl⟩ := List.mem_map.mp hy
  exact .inl ⟨d, rfl⟩⟩
def spRow (K : PySem.W.Frag) : Sp := fun vs H Q _ => ∃ (x : V) (n : Int), vs = [x, .int n] ∧
  ((NoSq K H x ∧ ∀ H', More H H' → Q (.bl false) H') ∨ ∃ a xs, x = .ref a ∧ Sq K H a xs ∧ Its K H xs ∧ ∀ H', More H H' → Q (.bl (xs.all isI && decide (((xs.length : Nat) : Int) = n))) H')
/-- a list, or a tuple that is tracked itself -/
def Sk (K : PySem.W.Frag) (H : Hp) (b : Addr) (xs : List V) : Prop := SqL K H b xs ∨ H b = some (.tup xs)
theorem Sk.sq {K : PySem.W.Frag} {H : Hp} {b : Addr} {xs : List V} : Sk K H b xs → Sq K H b xs
  | .inl h => .inl h
  | .inr h => .inr (SqT.of h)
theorem Sk.more {K : PySem.W.Frag} {H H' : Hp} {b : Addr} {xs : List V} (e : ∀ b o, H b = some o → H' b = some o) : Sk K H b xs → Sk K H' b xs
  | .inl h => .inl (Same.seq e h)
  | .inr h => .inr (e _ _ h)
def Trm (K : PySem.W.Frag) (H : Hp) (x : V) (ds : List Int) (n : Int) : Prop := ∃ a b, x = .ref a ∧ Sq K H a [.ref b, .int n] ∧ Sk K H b (ds.map V.int) ∧ ds.length = 3
def NoTrm (K : PySem.W.Frag) (H : Hp) (x : V) : Prop := NoSq K H x ∨ (∃ a xs, x = .ref a ∧ Sq K H a xs ∧ xs.length ≠ 2 ∧ xs.length ≤ 1000) ∨
  ∃ a u v, x = .ref a ∧ Sq K H a [u, v] ∧ (NoSq K H u ∨ ∃ b ys, u = .ref b ∧ Sq K H b ys ∧ Its K H ys ∧ ((ys.all isI && decide (((ys.length : Nat) : Int) = 3)) = false ∨ NoInt K H v))
theorem Trm.more {K : PySem.W.Frag} {H H' : Hp} {x : V} {ds : List Int} {n : Int} (e : ∀ b o, H b = some o → H' b = some o) (h : Trm K H x ds n) : Trm K H' x ds n :=
  let ⟨a, b, r, s1, s2, l⟩ := h; ⟨a, b, r, s1.more e, s2.more e, l⟩
theorem NoTrm.more {K : PySem.W.Frag} {H H' : Hp} {x : V} (e : ∀ b o, H b = some o → H' b = some o) (h : NoTrm K H x) : NoTrm K H' x := by
  obtain h | ⟨a, xs, r, s, l⟩ | ⟨a, u, v, r, s, h⟩ := h
  · exact .inl (h.more e)
  · exact .inr (.inl ⟨a, xs, r, s.more e, l⟩)
  · refine .inr (.inr ⟨a, u, v, r, s.more e, ?_⟩)
    obtain h | ⟨b, ys, r, s, i, h⟩ := h
    · exact .inl (h.more e)
    · exact .inr ⟨b, ys, r, s.more e, i.more e, h.imp id fun z => z.more e⟩
def spTerm (K : PySem.W.Frag) : Sp := fun vs H Q _ => ∃ x : V, vs = [x] ∧
  ((∃ ds n, Trm K H x ds n ∧ ∀ H', More H H' → Q (.bl true) H') ∨ (NoTrm K H x ∧ ∀ H', More H H' → Q (.bl false) H'))
theorem deI {i j : Int} : decide (V.int i = V.int j) = decide (i = j) := by simp only [V.int.injEq]
theorem ix_any {K : PySem.W.Frag} {H : Hp} {a : Addr} {xs : List V} {j : Nat} {i : Int} {v : V} {Q : VK} (s : Sq K H a xs) (e : i = (j : Int)) (h : xs[j]? = some v) (q : Q v H) : rIx K (.ref a) (.int i) H Q := by
  obtain s | s := s
  · exact .inl ⟨a, xs, i, v, rfl, rfl, s, at_of e h, q⟩
  · exact .inr (.inl ⟨a, xs, i, v, rfl, rfl, s, at_of e h, q⟩)
theorem isI_all (ds : List Int) : (ds.map V.int).all isI = true := by
  rw [List.all_map, List.all_eq_true]
  intro d _
  rfl
theorem sq_len {K : PySem.W.Frag} {H : Hp} {a : Addr} {xs : List V} (s : Sq K H a xs) : SqL K H a xs ∨ SqT K H a xs := s
section
variable {P : Program} {w : World} {K : PySem.W.Frag} {mg : Str → Option Value} {base : Heap}
variable {fI fS fR f : Addr} {fdI fdS fdR fd : FuncData}
abbrev sRow : Stmt := top 14
abbrev sTerm : Stmt := top 33
theorem scRow : FnScope ["value", "width"] ["value", "width"] (defScope sRow) := ⟨rfl, rfl, rfl, by decide +kernel, rfl, by decide +kernel, by decide +kernel⟩
theorem scTerm : FnScope ["item"] ["item"] (defScope sTerm) := ⟨rfl, rfl, rfl, by decide +kernel, rfl, by decide +kernel, by decide +kernel⟩
theorem ok_row (F : Fun K "is_row" "is_row" sRow f fd) (B : Blt mg) (I : Cl K mg "is_integer" sIsI ["value"] fI fdI) (S : Cl K mg "is_integers" sIsIs ["value"] fS fdS) :
    FnOk P w K mg base CX0 3 f fd ["value", "width"] (spRow K) := by
  have GS : FnOk P w K mg base CX0 2 fS fdS ["value"] (spIsIs K) := ok_isIs S.fn B I
  refine F.ok scRow (fun vs H Q E h => ?_) (fun cdv A outer s H vs Q E hr h => ?_)
  · obtain ⟨x, n, rfl, _⟩ := h
    rfl
  · obtain ⟨x, n, rfl, h⟩ := h
    refine ⟨_, pss_one (ps_ret (pe_and (pe_call GS hr rfl S.g S.k S.b .nil pass0 (pa_cons (pv 0) pa_nil))
      (pe_one (pe_cmpR op_eq (pe_callB call_len_seq (by rfl) B.len_ PySem.boot_len (pa_cons (pv 0) pa_nil)) (pv 1) (nomark _))))), ?_⟩
    obtain ⟨⟨m, hm, t⟩, q⟩ | ⟨a, xs, rfl, s, i, q⟩ := h
    · exact ⟨_, rfl, x, rfl, .inl ⟨m, hm, t, fun H' mo => ⟨_, rfl, iteF (q H' mo)⟩⟩⟩
    · refine ⟨_, rfl, _, rfl, .inr ⟨a, xs, rfl, s, i.1, i.2, fun H' mo => ⟨_, rfl, ?_⟩⟩⟩
      have q := q H' mo
      cases e : xs.all isI with
      | false =>
        rw [e] at q
        exact iteF q
      | true =>
        rw [e] at q
        exact iteT ⟨_, rfl, a, _, rfl, s.more mo, _, rfl, rfl, by rw [deI]; exact q⟩
theorem ok_term (F : Fun K "is_term" "is_term" sTerm f fd) (B : Blt mg) (I : Cl K mg "is_integer" sIsI ["value"] fI fdI) (S : Cl K mg "is_integers" sIsIs ["value"] fS fdS) (R : Cl K mg "is_row" sRow ["value", "width"] fR fdR) :
    FnOk P w K mg base CX0 4 f fd ["item"] (spTerm K) := by
  have GI : FnOk P w K mg base CX0 1 fI fdI ["value"] (spIsI K) := ok_isI I.fn B.isi_ B.int_ B.bool_
  have GR : FnOk P w K mg base CX0 3 fR fdR ["value", "width"] (spRow K) := ok_row R.fn B I S
  refine F.ok scTerm (fun vs H Q E h => ?_) (fun cdv A outer s H vs Q E hr h => ?_)
  · obtain ⟨x, rfl, _⟩ := h
    rfl
  · obtain ⟨x, rfl, h⟩ := h
    refine ⟨_, pss_one (ps_ret (pe_and (pe_callB call_isiT (by rfl) B.isi_ (by decide +kernel) (pa_cons (pv 0) (pa_cons (pe_tup (pa_cons (pe_bltn (v := .ty "tuple") rfl B.tup_ (by decide +kernel) rfl)
        (pa_cons (pe_bltn (v := .ty "list") rfl B.list_ (by decide +kernel) rfl) pa_nil))) pa_nil)))
      (pe_and (pe_cmpR op_eq (pe_callB call_len_seq (by rfl) B.len_ PySem.boot_len (pa_cons (pv 0) pa_nil)) pe_int (nomark _))
      (pe_and (pe_call GR hr rfl R.g R.k R.b .nil pass0 (pa_cons (pe_ix ix_seq (pv 0) pe_int (fun _ _ => rfl)) (pa_cons pe_int pa_nil)))
      (pe_one (pe_call GI (hr.mono (by decide)) rfl I.g I.k I.b .nil pass0 (pa_cons (pe_ix ix_seq (pv 0) pe_int (fun _ _ => rfl)) pa_nil))))))), ?_⟩
    refine ⟨_, rfl, (by show 2 ≤ sizeLine; decide), fun t ht => ?_⟩
    have m1 : More H (upd H t (.tup [.ty "tuple", .ty "list"])) := More.new (fun _ _ e => e) ht
    have yes : ∀ (a : Addr) (xs : List V), Sq K H a xs → ∃ n, TyX K H (.ref a) (.type n) ∧ PySem.W.kitAny K (.type n) [.type "tuple", .type "list"] = some true := by
      rintro a xs (h | h)
      · exact ⟨_, tyL h, kitAny_cons (kit_ty seq_yes.2.1) (fun _ => kitAny_cons (kit_ty seq_yes.2.2) (fun z => nomatch z) (fun _ => rfl)) (fun z => nomatch z)⟩
      · exact ⟨_, tyT h, kitAny_cons (kit_ty seq_yes.1) (fun z => nomatch z) (fun _ => rfl)⟩
    obtain ⟨ds, n, ⟨a, b, rfl, s1, s2, l3⟩, q⟩ | ⟨h, q⟩ := h
    · obtain ⟨n', ty, ka⟩ := yes a _ s1
      refine ⟨_, t, _, _, _, true, rfl, upd_same, .cons (.ty "tuple") (.cons (.ty "list") .nil), tyMore m1 ty, ka, _, rfl, iteT ?_⟩
      refine ⟨_, rfl, a, _, rfl, s1.more m1, rfl, _, rfl, iteT ?_⟩
      refine ⟨_, rfl, ix_any (s1.more m1) rfl (j := 0) rfl ⟨.ref b, 3, rfl, .inr ⟨b, _, rfl, s2.sq.more m1, Its.ints (by omega), fun H' mo => ⟨_, rfl, ?_⟩⟩⟩⟩
      have mo' : More H H' := fun c o e => mo c o (m1 c o e)
      rw [isI_all, List.length_map, l3]
      exact iteT ⟨_, rfl, ix_any (s1.more mo') rfl (j := 1) rfl ⟨.int n, rfl, .inl ⟨n, rfl, q _ mo'⟩⟩⟩
    · have two : ∀ (a : Addr) (xs : List V), x = .ref a → Sq K H a xs → xs.length = 2 → ∃ u v, xs = [u, v] := by
        intro a xs _ _ l
        match xs, l with
        | [u, v], _ => exact ⟨u, v, rfl⟩
      obtain ⟨n, hn, ty⟩ | ⟨a, xs, rfl, s1, l2, _⟩ | ⟨a, u, v, rfl, s1, h⟩ := h
      · obtain ⟨k1, k2⟩ := seq_no n hn
        exact ⟨_, t, _, _, _, false, rfl, upd_same, .cons (.ty "tuple") (.cons (.ty "list") .nil), tyMore m1 ty, kitAny_cons (kit_ty k1) (fun _ => kitAny_cons (kit_ty k2) (fun _ => kitAny_nil) (fun z => nomatch z)) (fun z => nomatch z), _, rfl, iteF (q _ m1)⟩
      · obtain ⟨n', ty, ka⟩ := yes a _ s1
        refine ⟨_, t, _, _, _, true, rfl, upd_same, .cons (.ty "tuple") (.cons (.ty "list") .nil), tyMore m1 ty, ka, _, rfl, iteT ?_⟩
        refine ⟨_, rfl, a, _, rfl, s1.more m1, rfl, _, rfl, ?_⟩
        rw [deI, decide_eq_false (by omega)]
        exact iteF (q _ m1)
      · obtain ⟨n', ty, ka⟩ := yes a _ s1
        refine ⟨_, t, _, _, _, true, rfl, upd_same, .cons (.ty "tuple") (.cons (.ty "list") .nil), tyMore m1 ty, ka, _, rfl, iteT ?_⟩
        refine ⟨_, rfl, a, _, rfl, s1.more m1, rfl, _, rfl, iteT ?_⟩
        obtain nu | ⟨b, ys, rfl, s2, it, h⟩ := h
        · refine ⟨_, rfl, ix_any (s1.more m1) rfl (j := 0) rfl ⟨u, 3, rfl, .inl ⟨nu.more m1, fun H' mo => ⟨_, rfl, iteF (q _ fun c o e => mo c o (m1 c o e))⟩⟩⟩⟩
        · refine ⟨_, rfl, ix_any (s1.more m1) rfl (j := 0) rfl ⟨.ref b, 3, rfl, .inr ⟨b, ys, rfl, s2.more m1, it.more m1, fun H' mo => ⟨_, rfl, ?_⟩⟩⟩⟩
          have mo' : More H H' := fun c o e => mo c o (m1 c o e)
          cases e : (ys.all isI && decide (((ys.length : Nat) : Int) = 3)) with
          | false => exact iteF (q _ mo')
          | true =>
            rw [e] at h
            obtain z | nv := h
            · cases z
            · exact iteT ⟨_, rfl, ix_any (s1.more mo') rfl (j := 1) rfl ⟨v, rfl, .inr (.inl ⟨nv.more mo', q _ mo'⟩)⟩⟩
end
end K16

namespace Ply
open PySem L2
abbrev Po := List (List Int × Int)
def kI (l : List Int) : List Key := l.map Sum.inl
theorem kI_V (l : List Int) : (kI l).map kV = l.map V.int := by
  unfold kI
  rw [List.map_map]
  rfl
theorem kI_inj {a b : List Int} (h : kI a = kI b) : a = b := by
  have z : ∀ a b : List Int, a.map (Sum.inl : Int → Key) = b.map Sum.inl → a = b := by
    intro a
    induction a with
    | nil =>
      intro b h
      cases b with
      | nil => rfl
      | cons y b => cases h
    | cons x a ih =>
      intro b h
      cases b with
      | nil => cases h
      | cons y b =>
        rw [List.map_cons, List.map_cons] at h
        obtain ⟨h1, h2⟩ := List.cons.inj h
        rw [Sum.inl.inj h1, ih b h2]
  exact z a b h
def dk (p : Po) : List (List Key × V) := p.map fun e => (kI e.1, V.int e.2)
def look (p : Po) (k : List Int) : Option Int := (p.find? fun e => decide (e.1 = k)).map (·.2)
def val (p : Po) (k : List Int) : Int := (look p k).getD 0
def put (p : Po) (k : List Int) (n : Int) : Po := if (p.any fun e => decide (e.1 = k)) = true then p.map (fun e => if e.1 = k then (e.1, n) else e) else p ++ [(k, n)]
def ks (p : Po) : List (List Int) := p.map (·.1)
theorem dec_kI (a b : List Int) : decide (kI a = kI b) = decide (a = b) := by
  by_cases h : a = b
  · rw [h, decide_eq_true rfl, decide_eq_true rfl]
  · rw [decide_eq_false h, decide_eq_false fun z => h (kI_inj z)]
theorem look_cons (e : List Int × Int) (p : Po) (k : List Int) : look (e :: p) k = if e.1 = k then some e.2 else look p k := by
  unfold look
  by_cases h : e.1 = k
  · rw [List.find?_cons_of_pos (by simpa using h), if_pos h]
    rfl
  · rw [List.find?_cons_of_neg (by simpa using h), if_neg h]
theorem valV_dk (p : Po) (k : List Int) : valV (dk p) (kI k) = (look p k).map V.int := by
  induction p with
  | nil => rfl
  | cons e p ih =>
    rw [look_cons]
    unfold dk valV at *
    rw [List.map_cons]
    by_cases h : e.1 = k
    · rw [List.find?_cons_of_pos (by rw [dec_kI]; simpa using h), if_pos h]
      rfl
    · rw [List.find?_cons_of_neg (by rw [dec_kI]; simpa using h), if_neg h]
      exact ih
theorem putK_dk (p : Po) (k : List Int) (n : Int) : putK (dk p) (kI k) (.int n) = dk (put p k n) := by
  have ha : ((dk p).any fun kv => decide (kv.1 = kI k)) = p.any fun e => decide (e.1 = k) := by
    unfold dk
    rw [List.any_map]
    congr 1
    funext e
    exact dec_kI e.1 k
  unfold putK put
  rw [ha]
  by_cases h : (p.any fun e => decide (e.1 = k)) = true
  · rw [if_pos h, if_pos h]
    unfold dk
    rw [List.map_map, List.map_map]
    congr 1
    funext e
    by_cases g : e.1 = k
    · show (if kI e.1 = kI k then _ else _) = (kI (if e.1 = k then (e.1, n) else e).1, V.int (if e.1 = k then (e.1, n) else e).2)
      rw [if_pos (by rw [g]), if_pos g]
    · show (if kI e.1 = kI k then _ else _) = (kI (if e.1 = k then (e.1, n) else e).1, V.int (if e.1 = k then (e.1, n) else e).2)
      rw [if_neg (fun z => g (kI_inj z)), if_neg g]
  · rw [if_neg h, if_neg h]
    unfold dk
    rw [List.map_append]
    rfl
theorem any_look (p : Po) (k : List Int) : (p.any fun e => decide (e.1 = k)) = (look p k).isSome := by
  induction p with
  | nil => rfl
  | cons e p ih =>
    rw [look_cons, List.any_cons, ih]
    by_cases h : e.1 = k
    · rw [if_pos h, decide_eq_true h]; rfl
    · rw [if_neg h, decide_eq_false h]; rfl
theorem look_put (p : Po) (k j : List Int) (n : Int) : look (put p k n) j = if j = k then some n else look p j := by
  unfold put
  by_cases h : (p.any fun e => decide (e.1 = k)) = true
  · rw [if_pos h]
    rw [any_look] at h
    have z : ∀ p : Po, look (p.map fun e => if e.1 = k then (e.1, n) else e) j = if j = k then (look p k).map (fun _ => n) else look p j := by
      intro p
      induction p with
      | nil => by_cases e : j = k <;> simp [e, look]
      | cons e p ih =>
        rw [List.map_cons, look_cons, ih, look_cons, look_cons]
        by_cases g : e.1 = k
        · rw [if_pos g]
          by_cases q : j = k
          · subst q
            rw [if_pos rfl]
            simp [g]
          · rw [if_neg q]
            have : ¬ e.1 = j := fun z => q (z.symm.trans g)
            rw [if_neg this]
            simp [q]
            intro z
            exact absurd z this
        · rw [if_neg g]
          by_cases q : j = k
          · subst q
            rw [if_pos rfl, if_neg g]
            simp [g]
          · rw [if_neg q, if_neg q]
    rw [z]
    by_cases q : j = k
    · rw [if_pos q, if_pos q]
      obtain ⟨v, hv⟩ := Option.isSome_iff_exists.mp h
      rw [hv]
      rfl
    · rw [if_neg q, if_neg q]
  · rw [if_neg h]
    rw [any_look, Bool.not_eq_true] at h
    have z : ∀ p : Po, look p k = none → look (p ++ [(k, n)]) j = if j = k then some n else look p j := by
      intro p
      induction p with
      | nil =>
        intro _
        rw [List.nil_append, look_cons]
        by_cases q : j = k
        · rw [if_pos q, if_pos q.symm]
        · rw [if_neg q, if_neg fun z => q z.symm]
      | cons e p ih =>
        intro hn
        rw [look_cons] at hn
        have g : ¬ e.1 = k := fun z => by rw [if_pos z] at hn; cases hn
        rw [if_neg g] at hn
        rw [List.cons_append, look_cons, look_cons, ih hn]
        by_cases q : j = k
        · rw [if_pos q, if_pos q, if_neg (by rw [q]; exact g)]
        · rw [if_neg q, if_neg q]
    exact z p (by cases e : look p k with | none => rfl | some v => rw [e] at h; cases h)
theorem val_put (p : Po) (k j : List Int) (n : Int) : val (put p k n) j = if j = k then n else val p j := by
  unfold val
  rw [look_put]
  by_cases q : j = k
  · rw [if_pos q, if_pos q]; rfl
  · rw [if_neg q, if_neg q]
theorem mem_ks (p : Po) (k : List Int) : k ∈ ks p ↔ (look p k).isSome = true := by
  rw [← any_look, List.any_eq_true]
  unfold ks
  rw [List.mem_map]
  constructor
  · rintro ⟨e, h, rfl⟩
    exact ⟨e, h, decide_eq_true rfl⟩
  · rintro ⟨e, h, g⟩
    exact ⟨e, h, of_decide_eq_true g⟩
theorem ks_put (p : Po) (k : List Int) (n : Int) : ks (put p k n) = if k ∈ ks p then ks p else ks p ++ [k] := by
  have h : (k ∈ ks p) ↔ (p.any fun e => decide (e.1 = k)) = true := by rw [mem_ks, any_look]
  unfold put
  by_cases g : (p.any fun e => decide (e.1 = k)) = true
  · rw [if_pos g, if_pos (h.mpr g)]
    unfold ks
    rw [List.map_map]
    congr 1
    funext e
    show (if e.1 = k then (e.1, n) else e).1 = e.1
    by_cases q : e.1 = k
    · rw [if_pos q]
    · rw [if_neg q]
  · rw [if_neg g, if_neg fun z => g (h.mp z)]
    unfold ks
    rw [List.map_append]
    rfl
theorem nodup_put {p : Po} (h : (ks p).Nodup) (k : List Int) (n : Int) : (ks (put p k n)).Nodup := by
  rw [ks_put]
  by_cases g : k ∈ ks p
  · rw [if_pos g]; exact h
  · rw [if_neg g, List.nodup_append]
    exact ⟨h, by simp, fun a ha b hb e => by
      rw [List.mem_singleton] at hb
      exact g (hb ▸ e ▸ ha)⟩
theorem len_put (p : Po) (k : List Int) (n : Int) : (put p k n).length ≤ p.length + 1 := by
  unfold put
  by_cases g : (p.any fun e => decide (e.1 = k)) = true
  · rw [if_pos g, List.length_map]; omega
  · rw [if_neg g, List.length_append]; exact Nat.le_refl _
theorem mem_put {p : Po} {k : List Int} {n : Int} {e : List Int × Int} (h : e ∈ put p k n) : e = (k, n) ∨ e ∈ p := by
  unfold put at h
  by_cases g : (p.any fun e => decide (e.1 = k)) = true
  · rw [if_pos g] at h
    obtain ⟨x, hx, rfl⟩ := List.mem_map.mp h
    by_cases q : x.1 = k
    · rw [if_pos q, q]; exact .inl rfl
    · rw [if_neg q]; exact .inr hx
  · rw [if_neg g, List.mem_append, List.mem_singleton] at h
    exact h.symm
theorem look_mem {p : Po} {k : List Int} {n : Int} (h : look p k = some n) : (k, n) ∈ p := by
  unfold look at h
  cases e : (p.find? fun e => decide (e.1 = k)) with
  | none => rw [e] at h; cases h
  | some x =>
    rw [e] at h
    cases h
    have := List.find?_some e
    have m := List.mem_of_find?_eq_some e
    rw [of_decide_eq_true this |>.symm]
    exact m
theorem look_at {p : Po} (h : (ks p).Nodup) {e : List Int × Int} (he : e ∈ p) : look p e.1 = some e.2 := by
  induction p with
  | nil => cases he
  | cons x p ih =>
    rw [look_cons]
    unfold ks at h
    rw [List.map_cons, List.nodup_cons] at h
    rcases List.mem_cons.mp he with rfl | he
    · rw [if_pos rfl]
    · rw [if_neg fun z => h.1 (List.mem_map.mpr ⟨e, he, z.symm⟩)]
      exact ih h.2 he
theorem val_at {p : Po} (h : (ks p).Nodup) {e : List Int × Int} (he : e ∈ p) : val p e.1 = e.2 := by
  unfold val
  rw [look_at h he]
  rfl
theorem val_off {p : Po} {k : List Int} (h : val p k ≠ 0) : k ∈ ks p := by
  rw [mem_ks]
  unfold val at h
  cases e : look p k with
  | none => rw [e] at h; exact absurd rfl h
  | some v => rfl
/-! ### sums of terms -/
def tot : Po → List Int → Int
  | [], _ => 0
  | e :: r, k => (if e.1 = k then e.2 else 0) + tot r k
def accum (p : Po) : Po → Po
  | [] => p
  | e :: r => accum (put p e.1 (val p e.1 + e.2)) r
theorem accum_snoc (p l : Po) (e : List Int × Int) : accum p (l ++ [e]) = put (accum p l) e.1 (val (accum p l) e.1 + e.2) := by
  induction l generalizing p with
  | nil => rfl
  | cons x l ih => exact ih _
theorem val_accum (p l : Po) (k : List Int) : val (accum p l) k = val p k + tot l k := by
  induction l generalizing p with
  | nil => show val p k = val p k + 0; omega
  | cons e l ih =>
    show val (accum (put p e.1 (val p e.1 + e.2)) l) k = val p k + ((if e.1 = k then e.2 else 0) + tot l k)
    rw [ih, val_put]
    by_cases q : e.1 = k
    · rw [if_pos q.symm, if_pos q, q]; omega
    · rw [if_neg fun z => q z.symm, if_neg q]; omega
theorem nodup_accum {p : Po} (h : (ks p).Nodup) (l : Po) : (ks (accum p l)).Nodup := by
  induction l generalizing p with
  | nil => exact h
  | cons e l ih => exact ih (nodup_put h _ _)
theorem len_accum (p l : Po) : (accum p l).length ≤ p.length + l.length := by
  induction l generalizing p with
  | nil => exact Nat.le_refl _
  | cons e l ih =>
    have h1 := ih (p := put p e.1 (val p e.1 + e.2))
    have h2 := len_put p e.1 (val p e.1 + e.2)
    show (accum (put p e.1 (val p e.1 + e.2)) l).length ≤ _
    rw [List.length_cons]
    omega
theorem tot_append (a b : Po) (k : List Int) : tot (a ++ b) k = tot a k + tot b k := by
  induction a with
  | nil => show tot b k = 0 + tot b k; omega
  | cons e a ih =>
    show (if e.1 = k then e.2 else 0) + tot (a ++ b) k = _ + tot a k + tot b k
    rw [ih]; omega
theorem tot_perm {a b : Po} (h : a.Perm b) (k : List Int) : tot a k = tot b k := by
  induction h with
  | nil => rfl
  | cons e _ ih => show _ + _ = _ + _; rw [ih]
  | swap x y l => show _ + (_ + _) = _ + (_ + _); omega
  | trans _ _ h1 h2 => exact h1.trans h2
theorem tot_val {p : Po} (h : (ks p).Nodup) (k : List Int) : tot p k = val p k := by
  induction p with
  | nil => rfl
  | cons e p ih =>
    unfold ks at h
    rw [List.map_cons, List.nodup_cons] at h
    show (if e.1 = k then e.2 else 0) + tot p k = val (e :: p) k
    rw [ih h.2]
    unfold val
    rw [look_cons]
    by_cases q : e.1 = k
    · rw [if_pos q, if_pos q]
      have : look p k = none := by
        cases z : look p k with
        | none => rfl
        | some v => exact absurd (List.mem_map.mpr ⟨_, look_mem z, q.symm⟩) h.1
      rw [this]
      show e.2 + 0 = e.2
      omega
    · rw [if_neg q, if_neg q]; omega
/-! ### the one form -/
structure Form (f : List Int → Int) (l : List (List Int)) : Prop where
  up : l.Pairwise (· ≤ ·)
  nd : l.Nodup
  all : ∀ k, k ∈ l ↔ f k ≠ 0
theorem same_of : ∀ (a b : List (List Int)), a.Pairwise (· ≤ ·) → b.Pairwise (· ≤ ·) → a.Nodup → b.Nodup → (∀ k, k ∈ a ↔ k ∈ b) → a = b
  | [], [], _, _, _, _, _ => rfl
  | [], y :: b, _, _, _, _, h => nomatch (h y).mpr (.head _)
  | x :: a, [], _, _, _, _, h => nomatch (h x).mp (.head _)
  | x :: a, y :: b, ha, hb, na, nb, h => by
    rw [List.pairwise_cons] at ha hb
    rw [List.nodup_cons] at na nb
    have xy : x = y := by
      rcases List.mem_cons.mp ((h x).mp (.head _)) with e | hx
      · exact e
      · rcases List.mem_cons.mp ((h y).mpr (.head _)) with e | hy
        · exact e.symm
        · exact List.le_antisymm (ha.1 y hy) (hb.1 x hx)
    subst xy
    rw [same_of a b ha.2 hb.2 na.2 nb.2 fun k => ?_]
    constructor
    · intro hk
      rcases List.mem_cons.mp ((h k).mp (.tail _ hk)) with e | g
      · rw [e] at hk; exact absurd hk na.1
      · exact g
    · intro hk
      rcases List.mem_cons.mp ((h k).mpr (.tail _ hk)) with e | g
      · rw [e] at hk; exact absurd hk nb.1
      · exact g
theorem Form.one {f : List Int → Int} {a b : List (List Int)} (ha : Form f a) (hb : Form f b) : a = b :=
  same_of a b ha.up hb.up ha.nd hb.nd fun k => (ha.all k).trans (hb.all k).symm
end Ply

/-! Dor: a reading put in the place of another; d[k] if k in d else 0. -/
namespace Gd
open PySem L2
theorem pe_imp {X : Cx} {e : Expr} {t u : TE} (h : PE X e t) (i : ∀ σ H Q, u σ H Q → t σ H Q) : PE X e u :=
  ⟨fun pins s σ H Q I q => h.run pins s σ H Q I (i σ H Q q)⟩
theorem pe_dor {X : Cx} {o o' k k' z : Expr} {i j : Nat} {n : Int} {p1 p2 p3 : Pos} (hu : X.A.units + 1 < cLine) (ho : PE X o (tVar i)) (hk : PE X k (tVar j)) (ho' : PE X o' (tVar i)) (hk' : PE X k' (tVar j)) (hs : NoSl k')
    (hz : PE X z (tC (.int n))) (h1 : behindInMarks .In o = false) :
    PE X (.IfExp (.Compare k [.In] [o] p1) (.Subscript o' k' p2) z p3) (tDGet2 (tVar i) (tVar j) (tC (.int n))) := by
  refine pe_imp (pe_ifExp (pt_cmp (pc_din hu hk ho) h1) (pe_dget hu ho' hk' hs) hz) ?_
  rintro σ H Q ⟨x, h1, a, rfl, _, y, h2, o, g, q⟩
  refine ⟨y, h2, _, h1, a, o, rfl, g, _, rfl, ?_⟩
  cases o with
  | none => exact iteF q
  | some v => exact iteT ⟨_, h1, y, h2, a, v, rfl, g, q⟩
end Gd

namespace L2
open PySem PySem.Spec PyProof.Rows PySem.W
/-! ### sorted of a list of tuples of ints, any length -/
def leI (p q : Addr × List Int) : Bool := decide (p.2 ≤ q.2)
theorem dataLe_tups {β : Type} (x : β → List Int) : dataLe false (fun b => .tuple ((x b).map .int)) = fun p q => decide (x p ≤ x q) := by
  have := dataLe_rows x
  exact this
theorem ints_read {h : Heap} : ∀ {us : List Value} {ns : List Int}, IntsAre us ns → ReadsAll h us (ns.map PyData.int) []
  | _, _, .nil => .nil
  | _, _, .cons n t r => .cons (.int n t) (ints_read r)
def rSortTI (K : PySem.W.Frag) : List V → Hp → VK → Prop := fun vs H Q => ∃ (a : Addr) (bs : List (Addr × List Int)), vs = [V.ref a] ∧ SqL K H a (bs.map fun b => V.ref b.1) ∧ (∀ b ∈ bs, SqT K H b.1 (b.2.map V.int) ∧ b.2 ≠ []) ∧
  ∀ p, H p = none → Q (.ref p) (upd H p (.lst ((bs.mergeSort leI).map fun b => V.ref b.1)))
theorem each_refs : ∀ {bs : List (Addr × List Int)} {us : List Value}, Vals (bs.map fun b => V.ref b.1) us → EachIs (fun v (b : Addr × List Int) => v = Value.ref b.1) us bs
  | [], _, r => by
    rw [List.map_nil] at r
    cases r
    exact .nil
  | b :: bs, _, r => by
    rw [List.map_cons] at r
    cases r with
    | cons h t => exact .cons h (each_refs t)
theorem refs_each : ∀ {bs : List (Addr × List Int)} {us : List Value}, EachIs (fun v (b : Addr × List Int) => v = Value.ref b.1) us bs → Vals (bs.map fun b => V.ref b.1) us
  | _, _, .nil => .nil
  | _, _, .cons h t => by
    rw [List.map_cons]
    exact .cons h (refs_each t)
theorem each_mem {α β : Type} {R S : α → β → Prop} : ∀ {as : List α} {bs : List β}, EachIs R as bs → (∀ a, ∀ b ∈ bs, R a b → S a b) → EachIs S as bs
  | _, _, .nil, _ => .nil
  | _, _, .cons h t, k => .cons (k _ _ (.head _) h) (each_mem t fun a b hb => k a b (.tail _ hb))
theorem cr_sortTI {X : Cx} (hu : X.A.units + 64 < cLine) : CallR X (.builtin "sorted") (rSortTI X.K) := by
  intro pins s σ H vs us Q I r h
  obtain ⟨a, bs, rfl, hs, hb, q⟩ := h
  rw [Vals.ref1 r]
  obtain ⟨its, rv, hl, hz⟩ := I.list hs
  rw [List.length_map] at hz
  have er := each_refs rv
  refine sorted_data (β := Addr × List Int) (bs := bs) (enc := fun b => .tuple (b.2.map .int)) hl.isList er (each_mem er fun v b hb1 e => ?_) (AllAlike.of fun b b' => ?_) (.inl fun d hd => ?_) hz (fun b _ => ?_) fun out lo eo => ?_
  · subst e
    obtain ⟨its2, rv2, ⟨o, ho, hc, n, hd⟩, _⟩ := I.tuple (hb b hb1).1
    exact ⟨_, .tuple ho hc hd (by simpa using ints_read rv2.ints)⟩
  · show alike (.tuple _) (.tuple _) = true
    unfold alike
    exact alike_ints _ _
  · obtain ⟨b, hb1, rfl⟩ := List.mem_map.mp hd
    have := (hb b hb1).2
    cases e : b.2 with
    | nil => exact absurd e this
    | cons x r => exact ⟨_, _, rfl⟩
  · show X.A.units + 2 + PyData.depth (.tuple _) < cLine
    rw [PyData.depth, depth_ints]
    omega
  · obtain ⟨ep, he'⟩ := PyProof.Rows.sortedAll_at s.heap its out.toArray
    rw [dataLe_tups] at eo
    have hlen : (((bs.mergeSort leI)).map fun b => V.ref b.1).length ≤ sizeLine := by rw [List.length_map, List.length_mergeSort]; exact hz
    exact ⟨.ref _, upd H (s.heap.objs.size + 1) (.lst ((bs.mergeSort leI).map fun b => V.ref b.1)), I.laid (t' := s.toks) (fun _ _ => PyProof.Rows.sortedAll_old) (Nat.le_succ _) ⟨hlen, out, ep, refs_each eo, he'⟩, rfl, q _ (I.hok.fresh (Nat.le_succ _))⟩
end L2

namespace MxD
open PySem PySem.Spec
/-! ### max(xs, default=d) -/
theorem okArgs (a d : Value) : argsOk "max" ⟨[a], [(Str.ofString "default", d)]⟩ := by unfold argsOk; kernel_rfl
section
variable {prog : Program} {w : World} {A : Around} {R : Result → Shared → Prop} {I : Addr} {fp wr : List Addr} {n : Nat} {P : Nat → Value → Prop} {St : Nat → Heap → Prop}
abbrev Kw (dv : Value) : List (Str × Value) := [(Str.ofString "default", dv)]
theorem lname : (toString "max" ++ toString ".loop" : String) = "max.loop" := by decide
abbrev hd (S I : Addr) (dv : Value) : Code := .builtin "max.loop" ⟨[.ref I, .none, .ref S], Kw dv⟩
/-- from a best item on -/
theorem more (W : Walks prog w A.in1 I fp wr n P St) (bt : Nat → Nat → Bool) (cmp : CmpOf prog w A.in1 .Gt P bt) (S : Addr) (off : S ∉ fp) (dv : Value) : ∀ (left j : Nat) (t : Shared) (best : Value) (c : Nat),
    j + 1 + left = n → St (j + 1) t.heap → P (argBest bt j) best → t.heap.get? S = some { cls := .type "list", data := .seq #[best, best] c } →
    (∀ v h' tk, P (argBest bt (n - 1)) v → (∀ b o, b ∉ wr → b ≠ S → t.heap.get? b = some o → h'.get? b = some o) → R (.ok (.ret v)) { t with heap := h', toks := tk }) → codeAny (model prog w) A (hd S I dv) R t
  | 0, j, t, best, c, hj, st, pb, at_, fin => by
    have offw : S ∉ wr := fun z => off (W.sub _ z)
    refine codeAny_builtin F.entry_max_loop (by
      rw [Around.under_plainId F.plain_max_loop _]
      show wpAny _ A.in1 (seqItems? (.ref S) >>= _) _ _ t
      refine wpAny_bind (wpAny_seqItems at_ rfl (?_ : wpAny _ A.in1 (tryCatch (pyNext (.ref I)) _ >>= _) _ _ t))
      refine wpAny_bind (wpAny_tryCatch (W.done t _ _ (by rw [show n = j + 1 by omega]; exact st) fun h1 tk same => ?_))
      refine (?_ : wpAny _ A.in1 (updateSeq S (fun _ => #[]) >>= _) _ _ _)
      refine wpAny_bind (wpAny_updateSeq (same S _ offw at_) rfl (wpAny_bind (wpAny_letGo (wpAny_pure ?_))))
      exact fin best _ tk (by rw [show n - 1 = j by omega]; exact pb) fun b o z1 z2 e => (Heap.get?_update_other _ _ (Ne.symm z2)).trans (same b o z1 e))
  | left + 1, j, t, best, c, hj, st, pb, at_, fin => by
    have offw : S ∉ wr := fun z => off (W.sub _ z)
    refine codeAny_builtin F.entry_max_loop (by
      rw [Around.under_plainId F.plain_max_loop _]
      show wpAny _ A.in1 (seqItems? (.ref S) >>= _) _ _ t
      refine wpAny_bind (wpAny_seqItems at_ rfl (?_ : wpAny _ A.in1 (tryCatch (pyNext (.ref I)) _ >>= _) _ _ t))
      refine wpAny_bind (wpAny_tryCatch (W.item (j + 1) t _ _ (by omega) st fun v h1 tk pv st1 same => ?_))
      have at1 := same S _ offw at_
      refine (?_ : wpAny _ A.in1 (tryCatch (holding [v, v] (richCompare .Gt v best >>= _)) _ >>= _) _ _ _)
      refine wpAny_bind (wpAny_tryCatch (wpAny_holding (wpAny_bind (cmp (j + 1) (argBest bt j) v best _ _ _ pv pb (wpAny_bind (wpAny_holding (wpAny_truthy_bool (wpAny_bind (wpAny_letGo (wpAny_pure ?_))))))))))
      cases hb : bt (j + 1) (argBest bt j) with
      | true =>
        simp only [if_true]
        refine wpAny_bind (wpAny_updateSeq at1 rfl (wpAny_bind (wpAny_letGo ?_)))
        rw [lname]
        refine wpAny_pure ⟨plainId_quiet F.plain_max_loop _, more W bt cmp S off dv left (j + 1) _ v _ (by omega) (W.frame _ _ _ st1 fun b z o e => ?_) (by simp only [argBest, hb, if_true]; exact pv) (Heap.get?_update_self _ at1 rfl) fun v2 h2 tk2 p2 same2 => ?_⟩
        · exact (Heap.get?_update_other _ _ (fun q : S = b => off (by rw [q]; exact z))).trans e
        · exact fin v2 h2 tk2 p2 fun b o z1 z2 e => same2 b o z1 z2 ((Heap.get?_update_other _ _ (Ne.symm z2)).trans (same b o z1 e))
      | false =>
        simp only [Bool.false_eq_true, if_false]
        refine wpAny_bind (wpAny_letGo (by
          rw [lname]
          refine wpAny_pure ⟨plainId_quiet F.plain_max_loop _, more W bt cmp S off dv left (j + 1) _ best c (by omega) st1 (by simp only [argBest, hb, Bool.false_eq_true, if_false]; exact pb) at1 fun v2 h2 tk2 p2 same2 => ?_⟩
          exact fin v2 h2 tk2 p2 fun b o z1 z2 e => same2 b o z1 z2 (same b o z1 e))))
theorem start (W : Walks prog w A.in1 I fp wr n P St) (bt : Nat → Nat → Bool) (cmp : CmpOf prog w A.in1 .Gt P bt) (S : Addr) (off : S ∉ fp) (dv : Value) {t : Shared} {c : Nat} (st : St 0 t.heap)
    (at_ : t.heap.get? S = some { cls := .type "list", data := .seq #[] c })
    (fin : ∀ v h' tk, ((n = 0 ∧ v = dv) ∨ (0 < n ∧ P (argBest bt (n - 1)) v)) → (∀ b o, b ∉ wr → b ≠ S → t.heap.get? b = some o → h'.get? b = some o) → R (.ok (.ret v)) { t with heap := h', toks := tk }) : codeAny (model prog w) A (hd S I dv) R t := by
  have offw : S ∉ wr := fun z => off (W.sub _ z)
  refine codeAny_builtin F.entry_max_loop (by
    rw [Around.under_plainId F.plain_max_loop _]
    show wpAny _ A.in1 (seqItems? (.ref S) >>= _) _ _ t
    refine wpAny_bind (wpAny_seqItems at_ rfl (?_ : wpAny _ A.in1 (tryCatch (pyNext (.ref I)) _ >>= _) _ _ t))
    by_cases n0 : n = 0
    · refine wpAny_bind (wpAny_tryCatch (W.done t _ _ (by rw [n0]; exact st) fun h1 tk same => ?_))
      refine wpAny_bind (wpAny_rule (wpAny_pure ?_))
      exact fin dv h1 tk (.inl ⟨n0, rfl⟩) fun b o z1 _ e => same b o z1 e
    · refine wpAny_bind (wpAny_tryCatch (W.item 0 t _ _ (by omega) st fun v h1 tk pv st1 same => ?_))
      have at1 := same S _ offw at_
      refine (?_ : wpAny _ A.in1 (updateSeq S (fun _ => #[v, v]) >>= _) _ _ _)
      refine wpAny_bind (wpAny_updateSeq at1 rfl (by
        rw [lname]
        refine wpAny_pure ⟨plainId_quiet F.plain_max_loop _, more W bt cmp S off dv (n - 1) 0 _ v _ (by omega) (W.frame _ _ _ st1 fun b z o e => ?_) pv (Heap.get?_update_self _ at1 rfl) fun v2 h2 tk2 p2 same2 => ?_⟩
        · exact (Heap.get?_update_other _ _ (fun q : S = b => off (by rw [q]; exact z))).trans e
        · exact fin v2 h2 tk2 (.inr ⟨by omega, p2⟩) fun b o z1 z2 e => same2 b o z1 z2 ((Heap.get?_update_other _ _ (Ne.symm z2)).trans (same b o z1 e)))))
theorem params (d : Value) : Builtin.Builtins.bindParams "max" ["key", "default"] 0 ⟨[], Kw d⟩ = pure [none, some d] := rfl
end
section
variable {prog : Program} {w : World} {A : Around} {E : Value → Shared → Prop} {s : Shared}
theorem callD {l : Addr} {its : Array Value} {bt : Nat → Nat → Bool} {d : Value} {Q : Value → Shared → Prop} (hh : A.handled = none) (hl : s.heap.IsList l its)
    (cmp : CmpOf prog w A.in1 .Gt (fun i v => its[i]? = some v) bt)
    (h : ∀ v h' tk, ((its.size = 0 ∧ v = d) ∨ (0 < its.size ∧ its[argBest bt (its.size - 1)]? = some v)) → (∀ b o, s.heap.get? b = some o → h'.get? b = some o) → Q v { s with heap := h', toks := tk }) :
    wpAny (model prog w) A (call (.builtin "max") [.ref l] (Kw d)) Q E s := by
  refine wpAny_call (codeAny_call_builtin F.plain_max F.entry_max ?_)
  have go : wpAny (model prog w) A.in1 (Builtin.«max» ⟨[.ref l], Kw d⟩) (fun fin s' => match fin with
      | .done f => (match (Except.ok f : Result) with | .ok (.ret v) => Q v s' | .ok _ => False | .error e => E e s')
      | .again c' => c'.quiet = true ∧ codeAny (model prog w) A c' (fun r s' => match r with | .ok (.ret v) => Q v s' | .ok _ => False | .error e => E e s') s') E s := by
    show wpAny _ A.in1 (Builtin.Builtins.bindParams "max" ["key", "default"] 0 ⟨[], Kw d⟩ >>= _) _ _ s
    rw [params d]
    refine wpAny_bind (wpAny_pure (wpAny_bind (wpAny_pure (wpAny_bind (wpAny_pyIter_list hl (wpAny_bind (wpAny_newObj_type ?_)))))))
    rw [lname]
    have lt : l < s.heap.objs.size := let ⟨o, ho, _⟩ := hl; Heap.lt_size ho
    generalize hI : s.heap.objs.size = I at *
    have nlI : l ≠ I := Nat.ne_of_lt lt
    have st0 : (s.heap.push { cls := .type "list_iterator", data := .fields #[.ref l, .int 0 0] }).IsListIter I l 0 ∧ (s.heap.push { cls := .type "list_iterator", data := .fields #[.ref l, .int 0 0] }).IsList l its :=
      ⟨⟨_, by rw [← hI]; exact Heap.get?_push_size _ rfl, rfl, rfl⟩, hl.push _⟩
    have sz : (s.heap.push { cls := .type "list_iterator", data := .fields #[.ref l, .int 0 0] }).objs.size = I + 1 := by rw [Heap.size_push, hI]
    have k1 : ∀ b o, s.heap.get? b = some o → (s.heap.push { cls := .type "list_iterator", data := .fields #[.ref l, .int 0 0] }).get? b = some o := fun b o e => Heap.get?_push_of_some _ e
    have W := Walks.list (prog := prog) (w := w) (A := A.in1) hh I l nlI its
    generalize hg1 : s.heap.push { cls := .type "list_iterator", data := .fields #[.ref l, .int 0 0] } = g1 at *
    have W' := Walks.list (prog := prog) (w := w) (A := A.in1) hh I l nlI its
    have ne1 : g1.objs.size ≠ I := by rw [sz]; exact Nat.succ_ne_self I
    have ne2 : g1.objs.size ≠ l := by rw [sz]; exact Nat.ne_of_gt (Nat.lt_succ_of_lt lt)
    have k2 : ∀ b o, g1.get? b = some o → (g1.push { cls := .type "list", data := .seq #[] 0 }).get? b = some o := fun b o e => Heap.get?_push_of_some _ e
    refine wpAny_pure ⟨plainId_quiet F.plain_max_loop _, start W' bt cmp g1.objs.size (by simp only [List.mem_cons, List.not_mem_nil, or_false]; exact fun z => z.elim ne1 ne2) d (W'.frame _ _ _ st0 fun b _ o e => k2 b o e) (Heap.get?_push_size _ rfl) fun v h' tk p same => ?_⟩
    refine h v h' tk p fun b o e => ?_
    have lb : b < I := by rw [← hI]; exact Heap.lt_size e
    exact same b o (by simp only [List.mem_cons, List.not_mem_nil, or_false]; exact Nat.ne_of_lt lb) (by rw [sz]; exact Nat.ne_of_lt (Nat.lt_succ_of_lt lb)) (k2 b o (k1 b o e))
  simp only [checkBuiltinCall, F.kind_max]
  cases hsig : Manifest.signature? "max" with
  | none => exact wpAny_pure go
  | some sig =>
    have ha := okArgs (.ref l) d
    simp only [argsOk, hsig] at ha
    have h2 : Bind.checkArgs "max" sig ⟨[.ref l], Kw d⟩ = pure () := ha
    show wpAny _ A.in1 (Bind.checkArgs "max" sig ⟨[.ref l], Kw d⟩) _ _ s
    rw [h2]
    exact wpAny_pure go
end
end MxD
namespace L2
open PySem PySem.Spec PyProof.Rows
def rMaxDf (K : PySem.W.Frag) : List V → List V → Hp → VK → Prop := fun vs zs H Q => ∃ (a : Addr) (ns : List Int) (d : Int), vs = [V.ref a] ∧ zs = [V.int d] ∧ SqL K H a (ns.map V.int) ∧
  (ns = [] → Q (.int d) H) ∧ ∀ m, m ∈ ns → (∀ y ∈ ns, y ≤ m) → Q (.int m) H
theorem cr_maxDf {X : Cx} (hc : X.calm = true) : CallRK X (.builtin "max") [Str.ofString "default"] (rMaxDf X.K) := by
  intro pins s σ H vs zs us ws Q I r rz h
  obtain ⟨a, ns, d, rfl, rfl, hs, q0, q1⟩ := h
  rw [Vals.ref1 r]
  obtain ⟨u, rfl, t, rfl⟩ := vals1 rz
  obtain ⟨its, rv, hl, _⟩ := I.list hs
  have hi := rv.ints
  obtain ⟨xs, e⟩ := hi.allInts.items
  have hn : numsOf (intItems xs).toList = ns := by rw [← e]; exact hi.numsOf
  rw [nums_intItems] at hn
  have hl1 := hl.isList
  rw [e] at hl1
  refine MxD.callD (I.ok.hd hc) hl1 (CmpOf.ints_gt (numAt xs) (fun _ _ => intItems_at)) fun v h' tk p k => ?_
  have sz : (intItems xs).size = xs.size := by simp [intItems]
  have ln : ns.length = xs.size := by rw [← hn]; simp
  rw [sz] at p
  obtain ⟨z, rfl⟩ | ⟨z, hv⟩ := p
  · have : ns = [] := List.eq_nil_of_length_eq_zero (by omega)
    exact ⟨.int d, H, I.kept k, ⟨_, rfl⟩, q0 this⟩
  · obtain ⟨t2, rfl⟩ := intItems_at hv
    obtain ⟨h1, h2⟩ := argBest_gt (numAt xs) (xs.size - 1)
    refine ⟨.int _, H, I.kept k, ⟨_, rfl⟩, q1 _ ?_ fun y hy => ?_⟩
    · rw [← hn, numAt_eq]
      exact PySem.getD_mem (by rw [List.length_map, Array.length_toList]; omega)
    · rw [← hn] at hy
      obtain ⟨j, hj⟩ := List.getElem?_of_mem hy
      have lj : j < xs.size := by
        have := (List.getElem?_eq_some_iff.mp hj).1
        rw [List.length_map, Array.length_toList] at this
        exact this
      have := h2 j (by omega)
      have ej : numAt xs j = y := by
        rw [numAt_eq, List.getD_eq_getElem?_getD, hj]
        rfl
      rw [ej] at this
      exact this
end L2

namespace K16
open PySem L2 Gd Ply
def gOr (u v : TG) : TG := fun x σ H R => u x σ H R ∨ v x σ H R
theorem pg_or {X : Cx} {tg : Expr} {u v : TG} (a : PG X tg u) (b : PG X tg v) : PG X tg (gOr u v) where
  run := by
    rintro pins s σ H x y R I r (h | h)
    · exact a.run pins s σ H x y R I r h
    · exact b.run pins s σ H x y R I r h
theorem pi_listK {X : Cx} {K : PySem.W.Frag} (hK : X.K = K) {tg e : Expr} {te : TE} (h : PE X e te) : PI X tg e (iList K te) := hK ▸ pi_list h
theorem cr_maxDfK {X : Cx} {K : PySem.W.Frag} (hK : X.K = K) (hc : X.calm = true) : CallRK X (.builtin "max") [Str.ofString "default"] (rMaxDf K) := hK ▸ cr_maxDf hc
/-! ### what a sum of powers is -/
structure It3 where
  p : Addr
  b : Addr
  k : List Int
  n : Int
/-- at t stands the tuple of the terms l -/
def TAt (H : Hp) (t : Addr) (l : Po) : Prop := ∃ L : List It3, H t = some (.tup (L.map fun e => V.ref e.p)) ∧ (∀ e ∈ L, H e.p = some (.tup [.ref e.b, .int e.n]) ∧ H e.b = some (.tup (e.k.map V.int))) ∧ (L.map fun e => (e.k, e.n)) = l
theorem TAt.more {H H' : Hp} {t : Addr} {l : Po} (e : ∀ b o, H b = some o → H' b = some o) (h : TAt H t l) : TAt H' t l :=
  let ⟨L, a, b, c⟩ := h; ⟨L, e _ _ a, fun x hx => ⟨e _ _ (b x hx).1, e _ _ (b x hx).2⟩, c⟩
def Canon (f : List Int → Int) (l : Po) : Prop := ∃ q, Form f q ∧ l = q.map fun k => (k, f k)
theorem Canon.one {f : List Int → Int} {a b : Po} (ha : Canon f a) (hb : Canon f b) : a = b := by
  obtain ⟨q, h1, rfl⟩ := ha
  obtain ⟨q2, h2, rfl⟩ := hb
  rw [h1.one h2]
/-- the greatest size at one place -/
structure Gr (q : List (List Int)) (i : Nat) (m : Int) : Prop where
  on : m = 0 ∨ ∃ k ∈ q, m = (k.getD i 0).natAbs
  low : 0 ≤ m
  up : ∀ k ∈ q, ((k.getD i 0).natAbs : Int) ≤ m
theorem Gr.one {q : List (List Int)} {i : Nat} {m n : Int} (a : Gr q i m) (b : Gr q i n) : m = n := by
  have h : ∀ m n, Gr q i m → Gr q i n → m ≤ n := by
    intro m n a b
    obtain rfl | ⟨k, hk, rfl⟩ := a.on
    · exact b.low
    · exact b.up k hk
  exact Int.le_antisymm (h _ _ a b) (h _ _ b a)
/-- the new object at a, with its three fields, is the sum f -/
structure Pob (H : Hp) (C a : Addr) (f : List Int → Int) : Prop where
  ex : ∃ (dx t r d : Addr) (fs : List (Str × V)) (l p : Po) (m0 m1 m2 : Int), H a = some (.ins C dx fs) ∧ fs.lookup ("terms" : Str) = some (V.ref t) ∧ fs.lookup ("reach" : Str) = some (V.ref r) ∧ fs.lookup ("_numbers" : Str) = some (V.ref d) ∧
    TAt H t l ∧ Canon f l ∧ H r = some (.tup [.int m0, .int m1, .int m2]) ∧ (Gr (ks l) 0 m0 ∧ Gr (ks l) 1 m1 ∧ Gr (ks l) 2 m2) ∧ H d = some (.dT (dk p)) ∧ (ks p).Nodup ∧ (∀ k, val p k = f k) ∧ p.length ≤ 300 ∧ ∀ e ∈ p, e.1.length = 3
theorem Pob.more {H H' : Hp} {C a : Addr} {f : List Int → Int} (e : ∀ b o, H b = some o → H' b = some o) (h : Pob H C a f) : Pob H' C a f :=
  let ⟨dx, t, r, d, fs, l, p, m0, m1, m2, h1, h2, h3, h4, h5, h6, h7, h8, h9, h10⟩ := h.ex
  ⟨dx, t, r, d, fs, l, p, m0, m1, m2, e _ _ h1, h2, h3, h4, h5.more e, h6, e _ _ h7, h8, e _ _ h9, h10⟩
theorem paired_at {α β : Type} {R : α → β → Prop} : ∀ {xs : List α} {l : List β}, Paired R xs l → ∀ {i : Nat} {y : α}, xs[i]? = some y → ∃ e, l[i]? = some e ∧ R y e
  | _, _, .nil, i, y, h => by rw [List.getElem?_nil] at h; cases h
  | _, _, .cons h t, 0, y, e => by cases e; exact ⟨_, rfl, h⟩
  | _, _, .cons h t, i + 1, y, e => by
    rw [List.getElem?_cons_succ] at e
    obtain ⟨z, h1, h2⟩ := paired_at t e
    exact ⟨z, by rw [List.getElem?_cons_succ]; exact h1, h2⟩
theorem valD (p : Po) (k : List Int) : (valV (dk p) (kI k)).getD (.int 0) = .int (val p k) := by
  rw [valV_dk]
  unfold val
  cases look p k <;> rfl
theorem valS {p : Po} {k : List Int} (h : k ∈ ks p) : valV (dk p) (kI k) = some (.int (val p k)) := by
  rw [valV_dk]
  rw [mem_ks] at h
  unfold val
  cases e : look p k with
  | none => rw [e] at h; cases h
  | some v => rfl
theorem dk_len (p : Po) : (dk p).length = p.length := by unfold dk; rw [List.length_map]
theorem sort_form {f : List Int → Int} {bs : List (Addr × List Int)} (nd : (bs.map (·.2)).Nodup) (all : ∀ k, k ∈ bs.map (·.2) ↔ f k ≠ 0) : Form f ((bs.mergeSort leI).map (·.2)) where
  up := by
    rw [List.pairwise_map]
    have h := List.pairwise_mergeSort (le := leI) (fun a b c h1 h2 => by
      unfold leI at *
      rw [decide_eq_true_eq] at *
      exact List.le_trans h1 h2) (fun a b => by
      unfold leI
      rcases List.le_total a.2 b.2 with h | h
      · rw [decide_eq_true h]; rfl
      · rw [decide_eq_true h, Bool.or_true]) bs
    exact h.imp fun h => of_decide_eq_true h
  nd := (((List.mergeSort_perm bs leI).map (·.2)).nodup_iff).mpr nd
  all := fun k => (((List.mergeSort_perm bs leI).map (·.2)).mem_iff).trans (all k)
theorem accum_all {P : List Int → Prop} : ∀ (l p : Po), (∀ e ∈ p, P e.1) → (∀ e ∈ l, P e.1) → ∀ e ∈ accum p l, P e.1
  | [], p, h, _ => h
  | x :: l, p, h, hl => accum_all l (put p x.1 (val p x.1 + x.2)) (fun e he => by
      rcases mem_put he with rfl | he
      · exact hl x (.head _)
      · exact h e he) fun e he => hl e (.tail _ he)
theorem paired_back {α β : Type} {R : α → β → Prop} : ∀ {xs : List α} {l : List β}, Paired R xs l → ∀ e ∈ l, ∃ y, R y e
  | _, _, .nil, e, h => nomatch h
  | _, _, .cons h t, e, he => by
    rcases List.mem_cons.mp he with rfl | he
    · exact ⟨_, h⟩
    · exact paired_back t e he
def spInit (K : PySem.W.Frag) (C CR : Addr) : Sp := fun vs H Q E => ∃ (a t dx : Addr) (xs : List V), vs = [.ref a, .ref t] ∧ H a = some (.ins C dx []) ∧ Sq K H t xs ∧ xs.length ≤ 300 ∧
  ((∃ l : Po, Paired (fun x e => Trm K H x e.1 e.2) xs l ∧ ∀ H', (∀ b o, H b = some o → b ≠ a → H' b = some o) → Pob H' C a (tot l) → Q .non H') ∨
    ∃ (i : Nat) (x : V), xs[i]? = some x ∧ NoTrm K H x ∧ (∀ j y, j < i → xs[j]? = some y → ∃ ds n, Trm K H y ds n) ∧ ∀ H', More H H' → RRow CR x H' E)
section
variable {P : Program} {w : World} {K : PySem.W.Frag} {mg : Str → Option Value} {base : Heap}
variable {fI fS fR fT fB f CR C : Addr} {fdI fdS fdR fdT fdB fd : FuncData}
structure Blt2 (mg : Str → Option Value) : Prop where
  sorted_ : mg "sorted" = none
  max_ : mg "max" = none
  abs_ : mg "abs" = none
  dict_ : mg "dict" = none
abbrev sPw : Stmt := inClass (top 32) 0
abbrev NPw : List Str := ["self", "terms", "item", "numbers", "exponents", "number", "power", "kept", "at", "told"]
def compOf (s : Stmt) : Scope := match s with
  | .Assign _ (.Call _ [.ListComp _ _ sc _] _ _) _ => sc
  | _ => { kind := .function, names := [], isGenerator := false, isCoroutine := false }
theorem scPw : FnScope NPw ["self", "terms"] (defScope sPw) := ⟨rfl, rfl, rfl, by decide +kernel, rfl, by decide +kernel, by decide +kernel⟩
theorem ok_init (F : Fun K "__init__" "Powers.__init__" sPw f fd) (B : Blt mg) (B2 : Blt2 mg) (cl : Cls K C) (n1 : NoAttr K C "terms") (n2 : NoAttr K C "reach") (n3 : NoAttr K C "_numbers")
    (I : Cl K mg "is_integer" sIsI ["value"] fI fdI) (S : Cl K mg "is_integers" sIsIs ["value"] fS fdS) (R : Cl K mg "is_row" sRow ["value", "width"] fR fdR) (T : Cl K mg "is_term" sTerm ["item"] fT fdT)
    (Br : Er K mg "BadRow" "BadRow.__init__" CR fB ["row"] sBadRow fdB) : FnOk P w K mg base (L2.CX P w) 6 f fd ["self", "terms"] (spInit K C CR) := by
  have GT : FnOk P w K mg base CX0 4 fT fdT ["item"] (spTerm K) := ok_term T.fn B I S R
  have GB : FnOk P w K mg base CX0 1 fB fdB ["self", "row"] (spIni CR ["row"]) := okBadRow Br.fn Br.T Br.no
  refine F.okX scPw (fun vs H Q E h => ?_) (fun cdv A outer s H vs Q E hr h => ?_)
  · obtain ⟨a, t, dx, xs, rfl, _⟩ := h
    rfl
  · obtain ⟨a, t, dx, xs, rfl, ha, sq, few, h⟩ := h
    have hu := hu_of hr
    have hu64 := hr.units
    refine ⟨_, Evl.pss_cut (ps_for (passes_of rfl) rfl (pi_or (pi_list (pv 1)) (pi_tup (pv 1))) (pg_name (i := 2) scPw.nd rfl (Or.inl rfl))
        (pss_one (ps_if (pt_not (pt_val (pe_call GT (hr.mono (by decide)) rfl T.g T.k T.b .nil pass0 (pa_cons (pv 2) pa_nil))))
          (pss_one (ps_raise rfl (takes_of rfl rfl rfl rfl) (pmk_oex Br.T Br.iC Br.tI GB (hr.mono (by decide)) Br.b .nil pass0 rfl Br.g (pa_cons (pv 2) pa_nil)))) pss_nil)))
      (pss_cons (ps_set (i := 3) scPw.nd rfl (Or.inr rfl) pe_dnewT)
      (Evl.pss_cut (ps_for (passes_of rfl) rfl (pi_or (pi_list (pv 1)) (pi_tup (pv 1))) (pg_or (pg_tup (by rfl) (pgs_cons (pg_name (i := 4) scPw.nd rfl (Or.inl rfl)) (pgs_cons (pg_name (i := 5) scPw.nd rfl (Or.inl rfl)) pgs_nil)))
            (pg_unl (by rfl) (pgs_cons (pg_name (i := 4) scPw.nd rfl (Or.inl rfl)) (pgs_cons (pg_name (i := 5) scPw.nd rfl (Or.inl rfl)) pgs_nil))))
        (pss_cons (ps_set (i := 6) scPw.nd rfl (Or.inl rfl) (pe_callTy call_tuple_of (by rfl) B.tup_ (by decide +kernel) (pa_cons (pv 4) pa_nil)))
        (pss_one (ps_dput hu (pv 3) (pv 6) (pe_op op_add (pe_dor hu (pv 3) (pv 6) (pv 3) (pv 6) (fun _ _ => rfl) pe_int (by rfl)) (pv 5)) rfl))))
      (pss_cons (ps_set (i := 7) scPw.nd rfl (Or.inr rfl) (pe_callB (cr_sortTI hu64) (by rfl) B2.sorted_ (by decide +kernel) (pa_cons (pe_lock (pe_lc (own := [("power", 6)]) (g := gName 6) rfl scPw.nd (pi_keys (pv 3))
          (blkOk_by (N := NPw) (sc := defScope sPw) (by decide +kernel)) (fun _ _ _ _ _ => pg_name (i := 6) scPw.nd rfl (Or.inl rfl))
          (fun _ _ _ _ _ => pts_one (pt_cmpR op_ne (pe_dget hu (pv 3) (pv 6) (fun _ _ => rfl)) pe_int (nomark _))) (fun _ _ _ _ _ => pv 6))) pa_nil)))
      (pss_cons (ps_fld (pv 0) (pe_callTy call_tuple_of (by rfl) B.tup_ (by decide +kernel) (pa_cons (pe_lc (own := [("power", 6)]) (g := gName 6) (tt := tYes) rfl scPw.nd (pi_list (pv 7))
          (blkOk_by (N := NPw) (sc := defScope sPw) (by decide +kernel)) (fun _ _ _ _ _ => pg_name (i := 6) scPw.nd rfl (Or.inl rfl)) (fun _ _ _ _ _ => pts_nil)
          (fun _ _ _ _ _ => pe_tup (pa_cons (pv 6) (pa_cons (pe_dget hu (pv 3) (pv 6) (fun _ _ => rfl)) pa_nil)))) pa_nil)) rfl)
      (pss_cons (ps_fld (pv 0) (pe_callTy call_tuple_of (by rfl) B.tup_ (by decide +kernel) (pa_cons (pe_lc (own := [("at", 8)]) (g := gName 8) (tt := tYes) rfl scPw.nd (pi_range1 rfl B.range_ (pa_cons pe_int pa_nil))
          (blkOk_by (N := NPw) (sc := defScope sPw) (by decide +kernel)) (fun _ _ _ _ _ => pg_name (i := 8) scPw.nd rfl (Or.inr rfl)) (fun _ _ _ _ _ => pts_nil)
          (fun _ _ _ _ _ => pe_callBK (id := "max") (r := rMaxDf K) (cr_maxDfK rfl rfl) (by rfl) B2.max_ (by decide +kernel) (pa_cons (by exact (pe_lc (own := [("told", 9)]) (g := gName 9) (tt := tYes) rfl scPw.nd (pi_listK (K := K) rfl (pv 7))
            (blkOk_by (N := NPw) (sc := relabel (compOf ((defBody sPw).getD 5 (.Pass ⟨0, 0, 0, 0⟩))) (PyProof.Rows.envOfC "Powers.__init__" (defScope sPw) 0 0 .none)) (by decide +kernel)) (fun _ _ _ _ _ => pg_name (i := 9) scPw.nd rfl (Or.inl rfl)) (fun _ _ _ _ _ => pts_nil)
            (fun _ _ _ _ _ => pe_callB call_abs (by rfl) B2.abs_ (by decide +kernel) (pa_cons (pe_ix (r := rIxT K) ix_tup (pv 9) (pv 8) (fun _ _ => rfl)) pa_nil)))) pa_nil) (pk_cons pe_int pk_nil))) pa_nil)) rfl)
      (pss_one (ps_fld (pv 0) (pv 3) rfl))))))), ?_⟩
    obtain ⟨l, hl, q⟩ | ⟨i0, x0, hx0, no, before, q⟩ := h
    · refine ⟨fun σ' H' => ∃ z, σ' = [some (.ref a), some (.ref t), z, none, none, none, none, none, none, none] ∧ More H H', ?_, ?_⟩
      · have P1 : Nat → L2.St → Hp → Prop := fun i σ' H' => ∃ z, σ' = [some (.ref a), some (.ref t), z, none, none, none, none, none, none, none] ∧ More H H'
        rcases sq with s | s
        · refine .inl ⟨_, rfl, t, rfl, ⟨xs, s⟩, for_it walk_list (fun i σ' H' => ∃ z, σ' = [some (.ref a), some (.ref t), z, none, none, none, none, none, none, none] ∧ More H H') ⟨_, rfl, fun _ _ e => e⟩ (fun i σ' H' _ ⟨_, _, m⟩ => Same.seq m s) ?_ (fun _ _ h => h)⟩
          rintro i y σ2 H2 H3 hi ⟨z, rfl, m2⟩ ⟨rfl, hy⟩
          obtain ⟨e, _, tr⟩ := paired_at hl hy
          exact ⟨_, rfl, y, rfl, .inl ⟨e.1, e.2, tr.more m2, fun H' mo => ⟨_, rfl, iteF ⟨_, rfl, fun b o q => mo b o (m2 b o q)⟩⟩⟩⟩
        · refine .inr ⟨_, rfl, t, rfl, ⟨xs, s⟩, for_it walk_tup (fun i σ' H' => ∃ z, σ' = [some (.ref a), some (.ref t), z, none, none, none, none, none, none, none] ∧ More H H') ⟨_, rfl, fun _ _ e => e⟩ (fun i σ' H' _ ⟨_, _, m⟩ => sqT_more m s) ?_ (fun _ _ h => h)⟩
          rintro i y σ2 H2 H3 hi ⟨z, rfl, m2⟩ ⟨rfl, hy⟩
          obtain ⟨e, _, tr⟩ := paired_at hl hy
          exact ⟨_, rfl, y, rfl, .inl ⟨e.1, e.2, tr.more m2, fun H' mo => ⟨_, rfl, iteF ⟨_, rfl, fun b o q => mo b o (m2 b o q)⟩⟩⟩⟩
      · rintro σ1 H1 ⟨z, rfl, m1⟩
        intro d hd
        have hd0 : H d = none := More.off m1 hd
        have nad : a ≠ d := ne_of_none ha hd0
        have dl : xs.length = l.length := Paired.length hl
        have turn : ∀ (i : Nat) (y : V) (H2 : Hp), xs[i]? = some y → H2 d = some (.dT (dk (accum [] (l.take i)))) → More H H2 → ∃ e, l[i]? = some e ∧ ∃ a' b, y = .ref a' ∧ Sq K H2 a' [.ref b, .int e.2] ∧ Sk K H2 b (e.1.map V.int) ∧ e.1.length = 3 ∧
            accum [] (l.take (i + 1)) = put (accum [] (l.take i)) e.1 (val (accum [] (l.take i)) e.1 + e.2) ∧ (dk (accum [] (l.take i))).length < sizeLine := by
          intro i y H2 hy h2 m2
          obtain ⟨e, he, tr⟩ := paired_at hl hy
          obtain ⟨a', b, r1, r2, r3, r4⟩ := tr.more m2
          refine ⟨e, he, a', b, r1, r2, r3, r4, ?_, ?_⟩
          · rw [take_snoc he, accum_snoc]
          · rw [dk_len]
            have := len_accum [] (l.take i)
            rw [List.length_take, List.length_nil] at this
            exact small1000 (by omega)
        refine ⟨fun σ' H' => ∃ z4 z5 z6, σ' = [some (.ref a), some (.ref t), z, some (.ref d), z4, z5, z6, none, none, none] ∧ H' d = some (.dT (dk (accum [] l))) ∧ More H H', ?_, ?_⟩
        · have fin : ∀ (i : Nat) (H2 : Hp) (e : List Int × Int) (b : Addr), H2 d = some (.dT (dk (accum [] (l.take i)))) → More H H2 → H2 b = some (.tup (e.1.map V.int)) → (dk (accum [] (l.take i))).length < sizeLine →
              accum [] (l.take (i + 1)) = put (accum [] (l.take i)) e.1 (val (accum [] (l.take i)) e.1 + e.2) →
              DGet H2 d (.ref b) (valV (dk (accum [] (l.take i))) (kI e.1)) ∧ DPut H2 d (.ref b) (.int (val (accum [] (l.take i)) e.1 + e.2)) (upd H2 d (.dT (dk (accum [] (l.take (i + 1)))))) ∧ More H (upd H2 d (.dT (dk (accum [] (l.take (i + 1)))))) := by
            intro i H2 e b h2 m2 hb len ea
            have hb' : H2 b = some (.tup ((kI e.1).map kV)) := by rw [kI_V]; exact hb
            refine ⟨DGet.t h2 hb', ?_, m2.at hd0⟩
            rw [ea, ← putK_dk]
            exact DPut.t h2 hb' len
          rcases sq with s0 | s0
          · refine .inl ⟨_, rfl, t, rfl, ⟨xs, Same.seq (m1.at hd0) s0⟩, for_it (walk_list (xs := xs)) (fun i σ' H' => ∃ z4 z5 z6, σ' = [some (.ref a), some (.ref t), z, some (.ref d), z4, z5, z6, none, none, none] ∧ H' d = some (.dT (dk (accum [] (l.take i)))) ∧ More H H')
              ⟨none, none, none, rfl, (by exact upd_same), (by exact m1.at hd0)⟩ (fun i σ' H' _ ⟨_, _, _, _, _, m⟩ => Same.seq m s0) ?_ (fun σ' H' h => ?_)⟩
            · rintro i y σ2 H2 H3 hi ⟨z4, z5, z6, rfl, h2, m2⟩ ⟨rfl, hy⟩
              obtain ⟨e, he, a', b, rfl, s1, s2, l3, ea, len⟩ := turn i y H3 hy h2 m2
              have go : ∀ (b' : Addr) (H4 : Hp), H4 d = some (.dT (dk (accum [] (l.take i)))) → More H H4 → H4 b' = some (.tup (e.1.map V.int)) →
                  ∃ o, DGet H4 d (.ref b') o ∧ o.getD (.int 0) = .int (val (accum [] (l.take i)) e.1) ∧ DPut H4 d (.ref b') (.int (val (accum [] (l.take i)) e.1 + e.2)) (upd H4 d (.dT (dk (accum [] (l.take (i + 1)))))) ∧ More H (upd H4 d (.dT (dk (accum [] (l.take (i + 1)))))) := by
                intro b' H4 g1 g2 g3
                obtain ⟨f1, f2, f3⟩ := fin i H4 e b' g1 g2 g3 len ea
                exact ⟨_, f1, valD _ _, f2, f3⟩
              rcases s1 with s1 | s1
              · refine .inr ⟨a', _, rfl, s1, rfl, _, _, rfl, _, _, rfl, rfl, ?_⟩
                rcases s2 with s2 | s2
                · refine ⟨_, rfl, b, _, rfl, .inl ⟨s2, fun p np => ?_⟩⟩
                  have npd : p ≠ d := fun z => by rw [z, h2] at np; cases np
                  obtain ⟨o, g1, g2, g3, g4⟩ := go p (upd H3 p (.tup (e.1.map V.int))) (by rw [upd_ne npd.symm]; exact h2) (m2.new np) upd_same
                  exact ⟨_, rfl, d, rfl, .inr ⟨_, .inl (by rw [upd_ne npd.symm]; exact h2)⟩, _, rfl, o, g1, _, rfl, _, _, g2, rfl, _, rfl, _, rfl, d, _, rfl, g3, _, _, _, rfl, upd_same, g4⟩
                · refine ⟨_, rfl, b, _, rfl, .inr ⟨SqT.of s2, ?_⟩⟩
                  obtain ⟨o, g1, g2, g3, g4⟩ := go b H3 h2 m2 s2
                  exact ⟨_, rfl, d, rfl, .inr ⟨_, .inl h2⟩, _, rfl, o, g1, _, rfl, _, _, g2, rfl, _, rfl, _, rfl, d, _, rfl, g3, _, _, _, rfl, upd_same, g4⟩
              · refine .inl ⟨a', _, rfl, s1, rfl, _, _, rfl, _, _, rfl, rfl, ?_⟩
                rcases s2 with s2 | s2
                · refine ⟨_, rfl, b, _, rfl, .inl ⟨s2, fun p np => ?_⟩⟩
                  have npd : p ≠ d := fun z => by rw [z, h2] at np; cases np
                  obtain ⟨o, g1, g2, g3, g4⟩ := go p (upd H3 p (.tup (e.1.map V.int))) (by rw [upd_ne npd.symm]; exact h2) (m2.new np) upd_same
                  exact ⟨_, rfl, d, rfl, .inr ⟨_, .inl (by rw [upd_ne npd.symm]; exact h2)⟩, _, rfl, o, g1, _, rfl, _, _, g2, rfl, _, rfl, _, rfl, d, _, rfl, g3, _, _, _, rfl, upd_same, g4⟩
                · refine ⟨_, rfl, b, _, rfl, .inr ⟨SqT.of s2, ?_⟩⟩
                  obtain ⟨o, g1, g2, g3, g4⟩ := go b H3 h2 m2 s2
                  exact ⟨_, rfl, d, rfl, .inr ⟨_, .inl h2⟩, _, rfl, o, g1, _, rfl, _, _, g2, rfl, _, rfl, _, rfl, d, _, rfl, g3, _, _, _, rfl, upd_same, g4⟩
            · obtain ⟨z4, z5, z6, rfl, h2, m2⟩ := h
              rw [dl, List.take_length] at h2
              exact ⟨z4, z5, z6, rfl, h2, m2⟩
          · refine .inr ⟨_, rfl, t, rfl, ⟨xs, sqT_more (m1.at hd0) s0⟩, for_it (walk_tup (xs := xs)) (fun i σ' H' => ∃ z4 z5 z6, σ' = [some (.ref a), some (.ref t), z, some (.ref d), z4, z5, z6, none, none, none] ∧ H' d = some (.dT (dk (accum [] (l.take i)))) ∧ More H H')
              ⟨none, none, none, rfl, (by exact upd_same), (by exact m1.at hd0)⟩ (fun i σ' H' _ ⟨_, _, _, _, _, m⟩ => sqT_more m s0) ?_ (fun σ' H' h => ?_)⟩
            · rintro i y σ2 H2 H3 hi ⟨z4, z5, z6, rfl, h2, m2⟩ ⟨rfl, hy⟩
              obtain ⟨e, he, a', b, rfl, s1, s2, l3, ea, len⟩ := turn i y H3 hy h2 m2
              have go : ∀ (b' : Addr) (H4 : Hp), H4 d = some (.dT (dk (accum [] (l.take i)))) → More H H4 → H4 b' = some (.tup (e.1.map V.int)) →
                  ∃ o, DGet H4 d (.ref b') o ∧ o.getD (.int 0) = .int (val (accum [] (l.take i)) e.1) ∧ DPut H4 d (.ref b') (.int (val (accum [] (l.take i)) e.1 + e.2)) (upd H4 d (.dT (dk (accum [] (l.take (i + 1)))))) ∧ More H (upd H4 d (.dT (dk (accum [] (l.take (i + 1)))))) := by
                intro b' H4 g1 g2 g3
                obtain ⟨f1, f2, f3⟩ := fin i H4 e b' g1 g2 g3 len ea
                exact ⟨_, f1, valD _ _, f2, f3⟩
              rcases s1 with s1 | s1
              · refine .inr ⟨a', _, rfl, s1, rfl, _, _, rfl, _, _, rfl, rfl, ?_⟩
                rcases s2 with s2 | s2
                · refine ⟨_, rfl, b, _, rfl, .inl ⟨s2, fun p np => ?_⟩⟩
                  have npd : p ≠ d := fun z => by rw [z, h2] at np; cases np
                  obtain ⟨o, g1, g2, g3, g4⟩ := go p (upd H3 p (.tup (e.1.map V.int))) (by rw [upd_ne npd.symm]; exact h2) (m2.new np) upd_same
                  exact ⟨_, rfl, d, rfl, .inr ⟨_, .inl (by rw [upd_ne npd.symm]; exact h2)⟩, _, rfl, o, g1, _, rfl, _, _, g2, rfl, _, rfl, _, rfl, d, _, rfl, g3, _, _, _, rfl, upd_same, g4⟩
                · refine ⟨_, rfl, b, _, rfl, .inr ⟨SqT.of s2, ?_⟩⟩
                  obtain ⟨o, g1, g2, g3, g4⟩ := go b H3 h2 m2 s2
                  exact ⟨_, rfl, d, rfl, .inr ⟨_, .inl h2⟩, _, rfl, o, g1, _, rfl, _, _, g2, rfl, _, rfl, _, rfl, d, _, rfl, g3, _, _, _, rfl, upd_same, g4⟩
              · refine .inl ⟨a', _, rfl, s1, rfl, _, _, rfl, _, _, rfl, rfl, ?_⟩
                rcases s2 with s2 | s2
                · refine ⟨_, rfl, b, _, rfl, .inl ⟨s2, fun p np => ?_⟩⟩
                  have npd : p ≠ d := fun z => by rw [z, h2] at np; cases np
                  obtain ⟨o, g1, g2, g3, g4⟩ := go p (upd H3 p (.tup (e.1.map V.int))) (by rw [upd_ne npd.symm]; exact h2) (m2.new np) upd_same
                  exact ⟨_, rfl, d, rfl, .inr ⟨_, .inl (by rw [upd_ne npd.symm]; exact h2)⟩, _, rfl, o, g1, _, rfl, _, _, g2, rfl, _, rfl, _, rfl, d, _, rfl, g3, _, _, _, rfl, upd_same, g4⟩
                · refine ⟨_, rfl, b, _, rfl, .inr ⟨SqT.of s2, ?_⟩⟩
                  obtain ⟨o, g1, g2, g3, g4⟩ := go b H3 h2 m2 s2
                  exact ⟨_, rfl, d, rfl, .inr ⟨_, .inl h2⟩, _, rfl, o, g1, _, rfl, _, _, g2, rfl, _, rfl, _, rfl, d, _, rfl, g3, _, _, _, rfl, upd_same, g4⟩
            · obtain ⟨z4, z5, z6, rfl, h2, m2⟩ := h
              rw [dl, List.take_length] at h2
              exact ⟨z4, z5, z6, rfl, h2, m2⟩
        · rintro σ2 H2 ⟨z4, z5, z6, rfl, h2, m2⟩
          have nd : (ks (accum [] l)).Nodup := nodup_accum (by exact List.nodup_nil) l
          have va : ∀ k, val (accum [] l) k = tot l k := fun k => by
            rw [val_accum]
            show (0 : Int) + _ = _
            omega
          have lA : (accum [] l).length ≤ 300 := by
            have := len_accum [] l
            rw [List.length_nil] at this
            omega
          have l3 : ∀ e ∈ accum [] l, e.1.length = 3 := accum_all (P := fun k => k.length = 3) l [] (fun _ h => nomatch h) fun e he => by
            obtain ⟨y, _, _, _, _, _, z⟩ := paired_back hl e he
            exact z
          have tv : ∀ k, tot l k = val (accum [] l) k := fun k => (va k).symm
          generalize hA : accum [] l = A at *
          refine ⟨d, .dT (dk A), h2, trivial, fun od => ?_⟩
          have ndA : A.length < sizeLine := small1000 (by omega)
          refine ⟨_, rfl, d, od, rfl, .inr ⟨_, upd_same, fun D hD => lc_it (walk_keysT (kvs := dk A)) (fun i H' => ∃ bs : List (Addr × List Int), H' D = some (.lst (bs.map fun b => V.ref b.1)) ∧ (∀ b ∈ bs, H' b.1 = some (.tup (b.2.map V.int))) ∧
              bs.map (·.2) = (ks (A.take i)).filter (fun k => decide (val A k ≠ 0)) ∧ H' d = some (.frz od (.dT (dk A))) ∧ (∀ b o, b ≠ d → H2 b = some o → H' b = some o)) ⟨[], upd_same, fun _ h => (List.not_mem_nil h).elim, rfl, ?_, ?_⟩ ?_ ?_ ?_⟩⟩
          · have : D ≠ d := fun z => by rw [z, upd_same] at hD; cases hD
            rw [upd_ne this.symm]
            exact upd_same
          · intro b o nb e
            have e' : (upd H2 d (.frz od (.dT (dk A)))) b = some o := by rw [upd_ne nb]; exact e
            rw [upd_ne (ne_of_none e' hD)]
            exact e'
          · exact fun i H' _ ⟨_, _, _, _, h, _⟩ => h
          · rintro i x H3 H4 hi ⟨bs, e1, e2, e3, e4, e5⟩ ⟨rfl, k, v, b, hk, rfl, hb⟩
            obtain ⟨e, he, rfl, rfl⟩ : ∃ e, A[i]? = some e ∧ k = kI e.1 ∧ v = .int e.2 := by
              unfold dk at hk
              rw [List.getElem?_map] at hk
              cases z : A[i]? with
              | none => rw [z] at hk; cases hk
              | some e =>
                rw [z] at hk
                cases hk
                exact ⟨e, rfl, rfl, rfl⟩
            rw [kI_V] at hb
            have mem : e ∈ A := List.mem_of_getElem? he
            have ve : val A e.1 = e.2 := val_at nd mem
            have dg : DGet H4 d (.ref b) (some (.int e.2)) := .inr ⟨dk A, kI e.1, b, .inr ⟨od, e4⟩, rfl, by rw [kI_V]; exact hb, by rw [valS (List.mem_map.mpr ⟨e, mem, rfl⟩), ve]⟩
            have tk : ks (A.take (i + 1)) = ks (A.take i) ++ [e.1] := by
              rw [take_snoc he]
              unfold ks
              rw [List.map_append]
              rfl
            refine ⟨rfl, _, rfl, _, rfl, d, _, rfl, dg, rfl, _, rfl, ?_⟩
            rw [show (!decide (V.int e.2 = V.int 0)) = decide (e.2 ≠ 0) by rw [deI]; by_cases z : e.2 = 0 <;> simp [z]]
            refine ite2 (fun z => ?_) (fun z => ?_)
            · have z := of_decide_eq_true z
              refine ⟨_, rfl, _, e1, ?_, bs ++ [(b, e.1)], ?_, ?_, ?_, ?_, ?_⟩
              · have l1 : (bs.map (·.2)).length ≤ (ks (A.take i)).length := by rw [e3]; exact List.length_filter_le _ _
                unfold ks at l1
                rw [List.length_map, List.length_map, List.length_take] at l1
                rw [List.length_map]
                exact small1000 (by omega)
              · rw [upd_same, List.map_append]; rfl
              · intro c hc
                rcases List.mem_append.mp hc with hc | hc
                · rw [upd_ne (ne_of (e2 c hc) e1 (by intro z; cases z))]
                  exact e2 c hc
                · rw [List.mem_singleton] at hc
                  subst hc
                  rw [upd_ne (ne_of hb e1 (by intro z; cases z))]
                  exact hb
              · rw [List.map_append, e3, tk, List.filter_append, List.filter_cons_of_pos (by rw [ve]; exact decide_eq_true z)]
                rfl
              · rw [upd_ne (ne_of e4 e1 (by intro z; cases z))]
                exact e4
              · intro c o nc ec
                have e' : (upd H2 d (.frz od (.dT (dk A)))) c = some o := by rw [upd_ne nc]; exact ec
                rw [upd_ne (ne_of_none e' hD)]
                exact e5 c o nc ec
            · refine ⟨bs, e1, e2, ?_, e4, e5⟩
              rw [e3, tk, List.filter_append, List.filter_cons_of_neg (by rw [ve]; exact fun q => z q)]
              exact (List.append_nil _).symm
          · rintro H3 ⟨bs, e1, e2, e3, e4, e5⟩
            rw [show (dk A).length = A.length from dk_len A, List.take_length] at e3
            have nDd : D ≠ d := ne_of e1 e4 (by intro z; cases z)
            have off : ∀ b o, b ≠ d → H3 b = some o → (upd H3 d (.dT (dk A))) b = some o := fun b o nb e => by rw [upd_ne nb]; exact e
            have l0 : ∀ b ∈ bs, b.2.length = 3 := fun b hb => by
              have : b.2 ∈ (ks A).filter (fun k => decide (val A k ≠ 0)) := by rw [← e3]; exact List.mem_map.mpr ⟨b, hb, rfl⟩
              obtain ⟨e, he, q⟩ := List.mem_map.mp (List.mem_filter.mp this).1
              rw [← q]
              exact l3 e he
            refine ⟨e4, D, bs, rfl, SqL.of (off _ _ nDd e1), fun b hb => ⟨SqT.of (off _ _ (ne_of (e2 b hb) e4 (by intro z; cases z)) (e2 b hb)), fun z => by have := l0 b hb; rw [z] at this; cases this⟩, fun p np => ?_⟩
            have fm : Form (tot l) ((bs.mergeSort leI).map (·.2)) := sort_form (by rw [e3]; exact List.Pairwise.filter _ nd) fun k => by
              rw [e3, List.mem_filter, decide_eq_true_eq, va]
              exact ⟨fun z => z.2, fun z => ⟨val_off (by rw [va]; exact z), z⟩⟩
            have perm := List.mergeSort_perm bs leI
            have sl : ∀ b ∈ bs.mergeSort leI, (upd (upd H3 d (.dT (dk A))) p (.lst ((bs.mergeSort leI).map fun b => V.ref b.1))) b.1 = some (.tup (b.2.map V.int)) ∧ b.2.length = 3 ∧ b.2 ∈ ks A := fun b hb => by
              have hb := perm.mem_iff.mp hb
              have h1 := off _ _ (ne_of (e2 b hb) e4 (by intro z; cases z)) (e2 b hb)
              refine ⟨by rw [upd_ne (ne_of_none h1 np)]; exact h1, l0 b hb, ?_⟩
              have : b.2 ∈ (ks A).filter (fun k => decide (val A k ≠ 0)) := by rw [← e3]; exact List.mem_map.mpr ⟨b, hb, rfl⟩
              exact (List.mem_filter.mp this).1
            have slen : (bs.mergeSort leI).length ≤ 300 := by
              rw [List.length_mergeSort]
              have l1 : (bs.map (·.2)).length ≤ (ks A).length := by rw [e3]; exact List.length_filter_le _ _
              unfold ks at l1
              rw [List.length_map, List.length_map] at l1
              omega
            have d5 : (upd (upd H3 d (.dT (dk A))) p (.lst ((bs.mergeSort leI).map fun b => V.ref b.1))) d = some (.dT (dk A)) := by
              have h1 : (upd H3 d (.dT (dk A))) d = some (.dT (dk A)) := upd_same
              rw [upd_ne (ne_of_none h1 np)]
              exact h1
            have m5 : ∀ b o, b ≠ d → H2 b = some o → (upd (upd H3 d (.dT (dk A))) p (.lst ((bs.mergeSort leI).map fun b => V.ref b.1))) b = some o := fun b o nb e => by
              have h1 := off b o nb (e5 b o nb e)
              rw [upd_ne (ne_of_none h1 np)]
              exact h1
            have p5 : (upd (upd H3 d (.dT (dk A))) p (.lst ((bs.mergeSort leI).map fun b => V.ref b.1))) p = some (.lst ((bs.mergeSort leI).map fun b => V.ref b.1)) := upd_same
            generalize upd (upd H3 d (.dT (dk A))) p (.lst ((bs.mergeSort leI).map fun b => V.ref b.1)) = H5 at sl d5 m5 p5 ⊢
            generalize bs.mergeSort leI = sb at *
            clear e1 e2 e3 perm
            have ha5 : H5 a = some (.ins C dx []) := m5 a _ nad (m2 a _ ha)
            have mH5 : ∀ b o, H b = some o → H5 b = some o := fun b o e => m5 b o (ne_of_none e hd0) (m2 b o e)
            -- self.terms
            refine ⟨_, rfl, p, rfl, ⟨_, SqL.of p5⟩, fun D1 hD1 => lc_it (walk_list (xs := sb.map fun b => V.ref b.1)) (fun i H' => ∃ L : List It3, H' D1 = some (.lst (L.map fun e => V.ref e.p)) ∧
                (∀ e ∈ L, H' e.p = some (.tup [.ref e.b, .int e.n]) ∧ H' e.b = some (.tup (e.k.map V.int))) ∧ (L.map fun e => (e.k, e.n)) = (sb.take i).map (fun b => (b.2, tot l b.2)) ∧ More H5 H')
              ⟨[], upd_same, fun _ h => (List.not_mem_nil h).elim, rfl, More.new (fun _ _ e => e) hD1⟩ (fun i H' _ ⟨_, _, _, _, m⟩ => SqL.of (m _ _ p5)) ?_ ?_⟩
            · rintro i x H6 H7 hi ⟨L, g1, g2, g3, g4⟩ ⟨rfl, hx⟩
              obtain ⟨b0, hb0, rfl⟩ : ∃ b0, sb[i]? = some b0 ∧ x = .ref b0.1 := by
                rw [List.getElem?_map] at hx
                cases z : sb[i]? with
                | none => rw [z] at hx; cases hx
                | some b0 => rw [z] at hx; exact ⟨b0, rfl, (Option.some.inj hx).symm⟩
              obtain ⟨q1, q2, q3⟩ := sl b0 (List.mem_of_getElem? hb0)
              have dg : DGet H7 d (.ref b0.1) (some (.int (tot l b0.2))) := by
                have z := DGet.t (k := kI b0.2) (g4 _ _ d5) (by rw [kI_V]; exact g4 _ _ q1)
                rw [valS q3, va] at z
                exact z
              refine ⟨rfl, _, rfl, _, rfl, _, rfl, d, _, rfl, dg, (by show 2 ≤ sizeLine; decide), fun q nq => ?_⟩
              have nqD : D1 ≠ q := ne_of_none g1 nq
              have ll : L.length ≤ 300 := by
                have := congrArg List.length g3
                rw [List.length_map, List.length_map, List.length_take] at this
                omega
              refine ⟨_, by rw [upd_ne nqD]; exact g1, by rw [List.length_map]; exact small1000 (by omega), L ++ [⟨q, b0.1, b0.2, tot l b0.2⟩], ?_, ?_, ?_, ?_⟩
              · rw [upd_same, List.map_append]; rfl
              · intro e he
                have off : ∀ c o, c ≠ D1 → H7 c = some o → (upd (upd H7 q (.tup [.ref b0.1, .int (tot l b0.2)])) D1 (.lst ((L.map fun e => V.ref e.p) ++ [.ref q]))) c = some o := fun c o nc e => by
                  rw [upd_ne nc, upd_ne (ne_of_none e nq)]; exact e
                rcases List.mem_append.mp he with he | he
                · obtain ⟨k1, k2⟩ := g2 e he
                  exact ⟨off _ _ (ne_of k1 g1 (by intro z; cases z)) k1, off _ _ (ne_of k2 g1 (by intro z; cases z)) k2⟩
                · rw [List.mem_singleton] at he
                  subst he
                  refine ⟨?_, off _ _ (ne_of (g4 _ _ q1) g1 (by intro z; cases z)) (g4 _ _ q1)⟩
                  show (upd (upd H7 q (.tup [.ref b0.1, .int (tot l b0.2)])) D1 _) q = _
                  rw [upd_ne nqD.symm, upd_same]
              · rw [List.map_append, g3, take_snoc hb0, List.map_append]; rfl
              · intro c o e
                have e' := g4 c o e
                rw [upd_ne (ne_of_none e hD1), upd_ne (ne_of_none e' nq)]
                exact e'
            · rintro H6 ⟨L, g1, g2, g3, g4⟩
              rw [List.length_map, List.take_length] at g3
              refine ⟨D1, _, rfl, .inl ⟨SqL.of g1, fun t1 nt1 => ?_⟩⟩
              have nat1 : a ≠ t1 := ne_of_none (g4 _ _ ha5) nt1
              refine ⟨_, rfl, a, C, dx, [], rfl, by rw [upd_ne nat1]; exact g4 _ _ ha5, cl, n1, by show 0 < 1000; decide, ?_⟩
              have off : ∀ c o, c ≠ a → H6 c = some o → (upd (upd H6 t1 (.tup (L.map fun e => V.ref e.p))) a (.ins C dx (putF "terms" (.ref t1) []))) c = some o := fun c o nc e => by
                rw [upd_ne nc, upd_ne (ne_of_none e nt1)]; exact e
              have T7 : TAt (upd (upd H6 t1 (.tup (L.map fun e => V.ref e.p))) a (.ins C dx (putF "terms" (.ref t1) []))) t1 ((sb.map (·.2)).map fun k => (k, tot l k)) := by
                refine ⟨L, by rw [upd_ne nat1.symm, upd_same], fun e he => ?_, by rw [g3, List.map_map]; rfl⟩
                obtain ⟨k1, k2⟩ := g2 e he
                exact ⟨off _ _ (ne_of k1 (g4 _ _ ha5) (by intro z; cases z)) k1, off _ _ (ne_of k2 (g4 _ _ ha5) (by intro z; cases z)) k2⟩
              have ha7 : (upd (upd H6 t1 (.tup (L.map fun e => V.ref e.p))) a (.ins C dx (putF "terms" (.ref t1) []))) a = some (.ins C dx [("terms", .ref t1)]) := upd_same
              have m7 : ∀ c o, c ≠ a → H5 c = some o → (upd (upd H6 t1 (.tup (L.map fun e => V.ref e.p))) a (.ins C dx (putF "terms" (.ref t1) []))) c = some o := fun c o nc e => off c o nc (g4 c o e)
              generalize upd (upd H6 t1 (.tup (L.map fun e => V.ref e.p))) a (.ins C dx (putF "terms" (.ref t1) [])) = H7 at T7 ha7 m7 ⊢
              clear g1 g2 g3 g4
              have p7 := m7 p _ (ne_of p5 ha5 (by intro z; cases z)) p5
              have sl7 : ∀ b ∈ sb, H7 b.1 = some (.tup (b.2.map V.int)) ∧ b.2.length = 3 := fun b hb => ⟨m7 _ _ (ne_of (sl b hb).1 ha5 (by intro z; cases z)) (sl b hb).1, (sl b hb).2.1⟩
              -- self.reach
              refine ⟨3, rfl, by decide, by decide, fun D2 hD2 => lc_range (lo := 0) (n := 3) (fun i H' => ∃ ms : List Int, H' D2 = some (.lst (ms.map V.int)) ∧ ms.length = i ∧ (∀ j m, ms[j]? = some m → Gr (sb.map (·.2)) j m) ∧ More H7 H')
                ⟨[], upd_same, rfl, fun j m h => (by rw [List.getElem?_nil] at h; cases h), More.new (fun _ _ e => e) hD2⟩ ?_ ?_⟩
              · rintro i H8 hi ⟨ms, g1, g2, g3, g4⟩
                have fin : ∀ (H9 : Hp) (m : Int), More H8 H9 → Gr (sb.map (·.2)) i m → ∃ acc, H9 D2 = some (.lst acc) ∧ acc.length < sizeLine ∧ ∃ ms : List Int, (upd H9 D2 (.lst (acc ++ [V.int m]))) D2 = some (.lst (ms.map V.int)) ∧ ms.length = i + 1 ∧
                    (∀ j m, ms[j]? = some m → Gr (sb.map (·.2)) j m) ∧ More H7 (upd H9 D2 (.lst (acc ++ [V.int m]))) := by
                  intro H9 m m9 gr
                  refine ⟨_, m9 _ _ g1, by rw [List.length_map]; exact small1000 (by omega), ms ++ [m], by rw [upd_same, List.map_append]; rfl, by rw [List.length_append, g2]; rfl, fun j m' hj => ?_, fun c o e => ?_⟩
                  · by_cases lt : j < ms.length
                    · rw [List.getElem?_append_left lt] at hj
                      exact g3 j m' hj
                    · have := (List.getElem?_eq_some_iff.mp hj).1
                      rw [List.length_append] at this
                      have this : j < ms.length + 1 := this
                      have ej : j = ms.length := by omega
                      subst ej
                      rw [List.getElem?_append_right (Nat.le_refl _), Nat.sub_self] at hj
                      cases hj
                      rw [g2]
                      exact gr
                  · rw [upd_ne (ne_of_none e hD2)]
                    exact m9 c o (g4 c o e)
                refine ⟨rfl, _, rfl, p, rfl, ⟨_, SqL.of (g4 _ _ p7)⟩, fun D3 hD3 => lc_it (walk_list (xs := sb.map fun b => V.ref b.1)) (fun j H' => H' D3 = some (.lst (((sb.take j).map fun b => ((b.2.getD i 0).natAbs : Int)).map V.int)) ∧ More H8 H')
                  ⟨upd_same, More.new (fun _ _ e => e) hD3⟩ (fun i H' _ h => SqL.of (h.2 _ _ (g4 _ _ p7))) ?_ ?_⟩
                · rintro j x H9 H10 hj ⟨k1, k2⟩ ⟨rfl, hx⟩
                  obtain ⟨b0, hb0, rfl⟩ : ∃ b0, sb[j]? = some b0 ∧ x = .ref b0.1 := by
                    rw [List.getElem?_map] at hx
                    cases z : sb[j]? with
                    | none => rw [z] at hx; cases hx
                    | some b0 => rw [z] at hx; exact ⟨b0, rfl, (Option.some.inj hx).symm⟩
                  obtain ⟨q1, q2⟩ := sl7 b0 (List.mem_of_getElem? hb0)
                  have li : i < b0.2.length := by rw [q2]; exact hi
                  have at_ : (b0.2.map V.int)[i]? = some (V.int (b0.2.getD i 0)) := by
                    rw [List.getElem?_map, List.getD_eq_getElem?_getD, List.getElem?_eq_getElem li]
                    rfl
                  refine ⟨rfl, _, rfl, _, rfl, b0.1, _, _, _, rfl, rfl, SqT.of (k2 _ _ (g4 _ _ q1)), at_of (Int.zero_add _) at_, _, rfl, _, k1, ?_, ?_, ?_⟩
                  · rw [List.length_map, List.length_map, List.length_take]
                    exact small1000 (by omega)
                  · rw [upd_same, take_snoc hb0, List.map_append, List.map_append]
                    have : (if b0.2.getD i 0 < 0 then -b0.2.getD i 0 else b0.2.getD i 0) = ((b0.2.getD i 0).natAbs : Int) := by
                      generalize b0.2.getD i 0 = y
                      by_cases z : y < 0
                      · rw [if_pos z]; omega
                      · rw [if_neg z]; omega
                    rw [this]
                    rfl
                  · intro c o e
                    rw [upd_ne (ne_of_none e hD3)]
                    exact k2 c o e
                · rintro H9 ⟨k1, k2⟩
                  rw [List.length_map, List.take_length] at k1
                  refine ⟨D3, _, 0, rfl, rfl, SqL.of k1, fun z => ?_, fun m hm up => ?_⟩
                  · have z : sb = [] := List.map_eq_nil_iff.mp z
                    refine fin H9 0 k2 ⟨.inl rfl, by decide, fun k hk => ?_⟩
                    rw [z] at hk
                    cases hk
                  · obtain ⟨b0, hb0, rfl⟩ := List.mem_map.mp hm
                    refine fin H9 _ k2 ⟨.inr ⟨b0.2, List.mem_map.mpr ⟨b0, hb0, rfl⟩, rfl⟩, by omega, fun k hk => ?_⟩
                    obtain ⟨b1, hb1, rfl⟩ := List.mem_map.mp hk
                    exact up _ (List.mem_map.mpr ⟨b1, hb1, rfl⟩)
              · rintro H8 ⟨ms, g1, g2, g3, g4⟩
                match ms, g2 with
                | [r0, r1, r2], _ =>
                refine ⟨D2, _, rfl, .inl ⟨SqL.of g1, fun t2 nt2 => ?_⟩⟩
                have ha8 := g4 _ _ ha7
                have nat2 : a ≠ t2 := ne_of_none ha8 nt2
                refine ⟨_, rfl, a, C, dx, _, rfl, by rw [upd_ne nat2]; exact ha8, cl, n2, by show 1 < 1000; decide, ?_⟩
                refine ⟨_, rfl, _, rfl, a, C, dx, _, rfl, upd_same, cl, n3, by show 2 < 1000; decide, ?_⟩
                rw [upd_upd]
                have off : ∀ (o' : HO) c o, c ≠ a → H7 c = some o → (upd (upd H8 t2 (.tup ([r0, r1, r2].map V.int))) a o') c = some o := fun o' c o nc e => by
                  have e' := g4 c o e
                  rw [upd_ne nc, upd_ne (ne_of_none e' nt2)]
                  exact e'
                obtain ⟨L, u1, u2, u3⟩ := T7
                have ek : ks ((sb.map (·.2)).map fun k => (k, tot l k)) = sb.map (·.2) := by
                  unfold ks
                  rw [List.map_map]
                  exact List.map_id _
                refine q _ (fun b o e nb => ?_) ⟨dx, t1, t2, d, _, _, A, r0, r1, r2, upd_same, rfl, rfl, rfl, ⟨L, off _ _ _ (ne_of u1 ha7 (by intro z; cases z)) u1, fun e he => ?_, u3⟩, ⟨_, fm, rfl⟩, ?_, ?_, ?_, nd, va, lA, l3⟩
                · exact off _ _ _ nb (m7 _ _ nb (mH5 b o e))
                · obtain ⟨k1, k2⟩ := u2 e he
                  exact ⟨off _ _ _ (ne_of k1 ha7 (by intro z; cases z)) k1, off _ _ _ (ne_of k2 ha7 (by intro z; cases z)) k2⟩
                · rw [upd_ne nat2.symm, upd_same]
                  rfl
                · rw [ek]
                  exact ⟨g3 0 r0 rfl, g3 1 r1 rfl, g3 2 r2 rfl⟩
                · exact off _ _ _ nad.symm (m7 _ _ nad.symm d5)
    · refine ⟨fun _ _ => False, ?_, fun _ _ h => h.elim⟩
      have li : i0 < xs.length := (List.getElem?_eq_some_iff.mp hx0).1
      rcases sq with s | s
      · refine .inl ⟨_, rfl, t, rfl, ⟨xs, s⟩, for_it walk_list (fun i σ' H' => i ≤ i0 ∧ ∃ z, σ' = [some (.ref a), some (.ref t), z, none, none, none, none, none, none, none] ∧ More H H') ⟨Nat.zero_le _, _, rfl, fun _ _ e => e⟩ (fun i σ' H' _ ⟨_, _, _, m⟩ => Same.seq m s) ?_ (fun _ _ h => by have := h.1; omega)⟩
        rintro i y σ2 H2 H3 hi ⟨le, z, rfl, m2⟩ ⟨rfl, hy⟩
        by_cases e : i = i0
        · subst e
          rw [hx0] at hy
          cases hy
          exact ⟨_, rfl, x0, rfl, .inr ⟨no.more m2, fun H' mo => ⟨_, rfl, iteT ⟨_, rfl, mk_ini rfl (by show 1 ≤ 900; decide) (q H' fun b o q => mo b o (m2 b o q))⟩⟩⟩⟩
        · obtain ⟨ds, n, tr⟩ := before i y (by omega) hy
          exact ⟨_, rfl, y, rfl, .inl ⟨ds, n, tr.more m2, fun H' mo => ⟨_, rfl, iteF ⟨by omega, _, rfl, fun b o q => mo b o (m2 b o q)⟩⟩⟩⟩
      · refine .inr ⟨_, rfl, t, rfl, ⟨xs, s⟩, for_it walk_tup (fun i σ' H' => i ≤ i0 ∧ ∃ z, σ' = [some (.ref a), some (.ref t), z, none, none, none, none, none, none, none] ∧ More H H') ⟨Nat.zero_le _, _, rfl, fun _ _ e => e⟩ (fun i σ' H' _ ⟨_, _, _, m⟩ => sqT_more m s) ?_ (fun _ _ h => by have := h.1; omega)⟩
        rintro i y σ2 H2 H3 hi ⟨le, z, rfl, m2⟩ ⟨rfl, hy⟩
        by_cases e : i = i0
        · subst e
          rw [hx0] at hy
          cases hy
          exact ⟨_, rfl, x0, rfl, .inr ⟨no.more m2, fun H' mo => ⟨_, rfl, iteT ⟨_, rfl, mk_ini rfl (by show 1 ≤ 900; decide) (q H' fun b o q => mo b o (m2 b o q))⟩⟩⟩⟩
        · obtain ⟨ds, n, tr⟩ := before i y (by omega) hy
          exact ⟨_, rfl, y, rfl, .inl ⟨ds, n, tr.more m2, fun H' mo => ⟨_, rfl, iteF ⟨by omega, _, rfl, fun b o q => mo b o (m2 b o q)⟩⟩⟩⟩
end
end K16

namespace L2
open PySem PySem.Spec PyProof.Rows
/-! ### x == y, x != y by an own __eq__ of the class of x -/
section
variable {X : Cx} {CX : CXT} {C f : Addr} {fd : FuncData} {ps : List Str} {sp : Sp} {n : Nat} {E : XK}
def OthT (K : PySem.W.Frag) (H : Hp) (C : Addr) (y : V) (t : Value) : Prop := TyX K H y t ∨ ∃ b dy gs, y = .ref b ∧ H b = some (.ins C dy gs) ∧ t = .ref C
def rOwnE (K : PySem.W.Frag) (C : Addr) (sp : Sp) (E : XK) : R2 := fun x y H Q => ∃ a dx fs t, x = .ref a ∧ H a = some (.ins C dx fs) ∧ OthT K H C y t ∧ PySem.W.notFirst K C t = true ∧ sp [x, y] H Q E
theorem oth_looks {pins : List (Addr × Obj)} {σ : L2.St} {H : Hp} {s : Shared} {y : V} {u t : Value} (I : Inv X pins σ H s) (ry : RelV y u) (o : OthT X.K H C y t) : PySem.W.Looks (model X.prog X.w) s.heap (typeOf u) t := by
  obtain ty | ⟨b, dy, gs, rfl, hb, rfl⟩ := o
  · obtain ⟨P, k, p, _⟩ := kit_of I ry ty
    exact k.ty _ _ I.kIn p
  · cases ry
    obtain ⟨mB, J, _⟩ := ins_get I.hok hb
    obtain ⟨od, J, _⟩ := J.look
    exact J.type
theorem rc_own {op : CmpOp} (hs : PySem.W.findIn X.K (.ref C) (cmpInfo op).2.1 = some (some (.ref f))) (hf : PySem.W.isFn X.K (.ref f) = true) (F : FnR X.prog X.w X.K X.mg X.base CX n f sp)
    (hr : Room n X.A) (hx : Passes CX X E) : OpR X (fun a b => richCompare op a b) (rOwnE X.K C sp E) := by
  intro pins s σ H x y v u Q I rx ry h
  obtain ⟨a, dx, fs, t, rfl, ha, o, hn, q⟩ := h
  cases (show v = Value.ref a from rx)
  obtain ⟨mA, J, _⟩ := ins_get I.hok ha
  obtain ⟨od, J, _⟩ := J.look
  obtain ⟨m, hF⟩ := I.fr
  refine PySem.W.cmp_K (op := op) (tb := t) hr.units0 hF I.ok.mod.kin J (oth_looks I ry o) hn hs hf ?_
  refine wpAny_mono (wpAny_call (run_fnR (us := [.ref a, u]) (vs := [.ref a, y]) F hr hx I (.cons rfl (.cons ry .nil)) q)) (fun w s' z => ?_) fun _ _ x => x
  obtain ⟨z', H', I', rz, qz⟩ := z
  exact SlX.cmpback rz ⟨z', H', I', rz, qz⟩
theorem op_eqOwn (hs : PySem.W.findIn X.K (.ref C) "__eq__" = some (some (.ref f))) (hf : PySem.W.isFn X.K (.ref f) = true) (F : FnOk X.prog X.w X.K X.mg X.base CX n f fd ps sp) (hb : Binds X.K fd ps [])
    (hr : Room n X.A) (hx : Passes CX X E) : OpR X (compareOp .Eq) (rOwnE X.K C sp E) := by
  intro pins s σ H x y v u Q I rx ry h
  have F2 := F.raw (sp := sp) hb .nil
  obtain ⟨a, dx, fs, t, e1, ha, o, hn, q⟩ := h
  exact rc_own (op := .Eq) hs hf F2 hr hx pins s σ H x y v u Q I rx ry ⟨a, dx, fs, t, e1, ha, o, hn, by show sp ([x, y] ++ []) H Q E; rw [List.append_nil]; exact q⟩
end
end L2

namespace K16
open PySem L2 Gd Ply
/-! ### terms as data -/
def dI (k : List Int) : PyData := .tuple (k.map .int)
def dE (e : List Int × Int) : PyData := .tuple [dI e.1, .int e.2]
def dT (l : Po) : PyData := .tuple (l.map dE)
theorem lay_ints : ∀ k : List Int, PyData.canLayAll0 (k.map .int) = true
  | [] => by simp [PyData.canLayAll0]
  | x :: k => by
    rw [List.map_cons]
    simp only [PyData.canLayAll0, PyData.canLay0, lay_ints k, Bool.and_self]
theorem lay_es : ∀ l : Po, PyData.canLayAll0 (l.map dE) = true
  | [] => by simp [PyData.canLayAll0]
  | e :: l => by
    rw [List.map_cons]
    simp only [PyData.canLayAll0, dE, dI, PyData.canLay0, lay_ints, lay_es l, Bool.and_self]
theorem dep_ints : ∀ k : List Int, PyData.depthAll (k.map .int) = 0
  | [] => by simp [PyData.depthAll]
  | x :: k => by
    rw [List.map_cons]
    simp [PyData.depthAll, PyData.depth, dep_ints k]
theorem dep_es : ∀ l : Po, PyData.depthAll (l.map dE) ≤ 2
  | [] => by simp [PyData.depthAll]
  | e :: l => by
    have := dep_es l
    rw [List.map_cons]
    simp only [PyData.depthAll, dE, dI, PyData.depth, dep_ints]
    omega
theorem lay_T (l : Po) : (dT l).canLay0 = true := by
  unfold dT
  simp only [PyData.canLay0, lay_es]
theorem shaped_T (l : Po) : SeqAt.shaped (dT l) = true := by
  unfold SeqAt.shaped
  rw [lay_T, Bool.true_and, decide_eq_true_eq]
  have := dep_es l
  unfold dT
  simp only [PyData.depth]
  omega
/-- the two have the same terms -/
def same (l m : Po) : Bool := PyData.eqv (dT l) (dT m)
theorem same_refl (l : Po) : same l l = true := SeqAt.eqv_refl _ (lay_T l)
theorem dp_ints {K : PySem.W.Frag} {H : Hp} : ∀ k : List Int, DpAll K H (k.map V.int) (k.map .int)
  | [] => .nil
  | x :: k => .cons (.int x) (dp_ints k)
theorem dp_T {K : PySem.W.Frag} {H : Hp} {t : Addr} {l : Po} (h : TAt H t l) : Dp K H (.ref t) (dT l) := by
  obtain ⟨L, h1, h2, rfl⟩ := h
  have all : ∀ L : List It3, (∀ e ∈ L, H e.p = some (.tup [.ref e.b, .int e.n]) ∧ H e.b = some (.tup (e.k.map V.int))) → DpAll K H (L.map fun e => V.ref e.p) ((L.map fun e => (e.k, e.n)).map dE) := by
    intro L
    induction L with
    | nil => intro _; exact .nil
    | cons e L ih =>
      intro h
      obtain ⟨h3, h4⟩ := h e (.head _)
      exact .cons (.tup (SqT.of h3) (.cons (.tup (SqT.of h4) (dp_ints _)) (.cons (.int _) .nil))) (ih fun x hx => h x (.tail _ hx))
  exact .tup (SqT.of h1) (all L h2)
def cst (n : Int) : Po := if n = 0 then [] else [([0, 0, 0], n)]
def spCt (K : PySem.W.Frag) : Sp := fun vs H Q _ => ∃ n : Int, vs = [.int n] ∧ ∀ H' r, More H H' → Dp K H' (.ref r) (dT (cst n)) → Q (.ref r) H'
def spEq (K : PySem.W.Frag) (C : Addr) : Sp := fun vs H Q _ => ∃ (a : Addr) (y : V) (f : List Int → Int), vs = [.ref a, y] ∧ Pob H C a f ∧
  ((∃ n, y = .int n ∧ ∀ l H', Canon f l → More H H' → Q (.bl (same l (cst n))) H') ∨ (NoInt K H y ∧ ∀ H', More H H' → Q (.bl false) H') ∨
    ∃ b g, y = .ref b ∧ Pob H C b g ∧ ∀ l m H', Canon f l → Canon g m → More H H' → Q (.bl (same l m)) H')
section
variable {P : Program} {w : World} {K : PySem.W.Frag} {mg : Str → Option Value} {base : Heap}
variable {fI fT f C N0 : Addr} {fdI fdT fd : FuncData}
abbrev sCt : Stmt := top 35
abbrev sEq : Stmt := inClass (top 32) 8
theorem scCt : FnScope ["number"] ["number"] (defScope sCt) := ⟨rfl, rfl, rfl, by decide +kernel, rfl, by decide +kernel, by decide +kernel⟩
theorem scEq : FnScope ["self", "other"] ["self", "other"] (defScope sEq) := ⟨rfl, rfl, rfl, by decide +kernel, rfl, by decide +kernel, by decide +kernel⟩
/-- what is asked of the class -/
structure PwC (K : PySem.W.Frag) (mg : Str → Option Value) (C : Addr) : Prop where
  ic : C8.InsC K C
  n1 : NoAttr K C "terms"
  n2 : NoAttr K C "reach"
  n3 : NoAttr K C "_numbers"
  g : mg "Powers" = some (.ref C)
  ni : PySem.W.kitOne K (.ref C) (.type "int") = some false
  no : ∀ n ∈ offInt, PySem.W.kitOne K (.type n) (.ref C) = some false
theorem Pob.ty (W : PwC K mg C) {H : Hp} {a : Addr} {g : List Int → Int} (h : Pob H C a g) : TyX K H (.ref a) (.ref C) := by
  obtain ⟨dx, t, r, d, fs, l, p, m0, m1, m2, h1, _⟩ := h.ex
  exact .base (.ins h1 W.ic.cl W.ic.ha W.ic.hn W.ic.htk W.ic.hm)
theorem ok_ct (F : Fun K "constant_terms" "constant_terms" sCt f fd) (gN : mg "NO_LETTER" = some (.ref N0)) (tN : tupI K (.ref N0) = some [0, 0, 0]) : FnOk P w K mg base CX0 1 f fd ["number"] (spCt K) := by
  refine F.ok scCt (fun vs H Q E h => ?_) (fun cdv A outer s H vs Q E hr h => ?_)
  · obtain ⟨n, rfl, _⟩ := h
    rfl
  · obtain ⟨n, rfl, q⟩ := h
    have hT : ∀ H, SqT K H N0 ([0, 0, 0].map V.int) := by
      intro H
      obtain ⟨a, us, n, sl, ea, hk, rv⟩ := tupI_some tN
      cases ea
      refine .inr ⟨_, us, n, hk, rfl, rfl, ?_, rv⟩
      have z := Paired.length rv
      have z2 : us.toList.length = us.size := Array.length_toList
      rw [← z2, ← z, sizeLine_eq]
      show 3 ≤ 16777216
      decide
    refine ⟨_, pss_one (ps_ret (pe_ifExp (pt_cmpR op_ne (pv 0) pe_int (nomark _)) (pe_tup (pa_cons (pe_tup (pa_cons (pe_glob (v := .ref N0) rfl gN rfl) (pa_cons (pv 0) pa_nil))) pa_nil)) (pe_tup pa_nil))), ?_⟩
    refine ⟨_, rfl, rfl, _, rfl, ?_⟩
    rw [show (!decide (V.int n = V.int 0)) = decide (n ≠ 0) by rw [deI]; by_cases z : n = 0 <;> simp [z]]
    refine ite2 (fun z => ?_) (fun z => ?_)
    · have z := of_decide_eq_true z
      refine ⟨_, rfl, by show 2 ≤ sizeLine; decide, fun p np => ⟨by show 1 ≤ sizeLine; decide, fun r nr => q _ _ ((More.new (fun _ _ e => e) np).new nr) ?_⟩⟩
      unfold cst
      rw [if_neg z]
      exact .tup (SqT.of upd_same) (.cons (.tup (SqT.of (by rw [upd_ne (ne_of_none upd_same nr)]; exact upd_same)) (.cons (.tup (hT _) (dp_ints _)) (.cons (.int _) .nil))) .nil)
    · have z : n = 0 := by
        by_cases e : n = 0
        · exact e
        · exact absurd (decide_eq_true e) z
      refine ⟨by show 0 ≤ sizeLine; decide, fun r nr => q _ _ (More.new (fun _ _ e => e) nr) ?_⟩
      unfold cst
      rw [if_pos z]
      exact .tup (SqT.of upd_same) .nil
theorem ok_eq (F : Fun K "__eq__" "Powers.__eq__" sEq f fd) (B : Blt mg) (W : PwC K mg C) (I : Cl K mg "is_integer" sIsI ["value"] fI fdI) (T : Cl K mg "constant_terms" sCt ["number"] fT fdT)
    (gN : mg "NO_LETTER" = some (.ref N0)) (tN : tupI K (.ref N0) = some [0, 0, 0]) : FnOk P w K mg base CX0 2 f fd ["self", "other"] (spEq K C) := by
  have GI : FnOk P w K mg base CX0 1 fI fdI ["value"] (spIsI K) := ok_isI I.fn B.isi_ B.int_ B.bool_
  have GT : FnOk P w K mg base CX0 1 fT fdT ["number"] (spCt K) := ok_ct T.fn gN tN
  refine F.ok scEq (fun vs H Q E h => ?_) (fun cdv A outer s H vs Q E hr h => ?_)
  · obtain ⟨a, y, f, rfl, _⟩ := h
    rfl
  · obtain ⟨a, y, g, rfl, pa, h⟩ := h
    have hu64 := hr.units
    refine ⟨_, pss_cons (ps_if (pt_val (pe_call GI hr rfl I.g I.k I.b .nil pass0 (pa_cons (pv 1) pa_nil)))
        (pss_one (ps_ret (pe_cmpR (op_eqD hu64) (pe_fld (pv 0) rfl) (pe_call GT hr rfl T.g T.k T.b .nil pass0 (pa_cons (pv 1) pa_nil)) (nomark _)))) pss_nil)
      (pss_one (ps_ret (pe_and (pe_callB call_isi (by rfl) B.isi_ (by decide +kernel) (pa_cons (pv 1) (pa_cons (pe_glob (v := .ref C) rfl W.g rfl) pa_nil)))
        (pe_one (pe_cmpR (op_eqD hu64) (pe_fld (pv 0) rfl) (pe_fld (pv 1) rfl) (nomark _)))))), ?_⟩
    obtain ⟨dx, t, r, d, fs, l, p, m0, m1, m2, h1, h2, h3, h4, h5, h6, _⟩ := pa.ex
    obtain ⟨n, rfl, q⟩ | ⟨no, q⟩ | ⟨b, g2, rfl, pb, q⟩ := h
    · refine ⟨_, rfl, _, rfl, .inl ⟨n, rfl, _, rfl, iteT ?_⟩⟩
      refine ⟨_, rfl, a, C, dx, fs, _, rfl, h1, W.ic.cl, W.n1, h2, _, rfl, n, rfl, fun H' x mo dp => ?_⟩
      exact ⟨_, _, dp_T (h5.more mo), dp, shaped_T _, shaped_T _, q l H' h6 mo⟩
    · refine ⟨_, rfl, y, rfl, .inr (.inl ⟨no, _, rfl, iteF ?_⟩)⟩
      obtain ⟨n, hn, ty⟩ := no
      exact ⟨_, rfl, y, .ref C, _, _, _, rfl, .own C, ty, W.no n hn, _, rfl, iteF (q H fun _ _ e => e)⟩
    · obtain ⟨dx2, t2, r2, d2, fs2, l2, p2, _, _, _, k1, k2, k3, k4, k5, k6, _⟩ := pb.ex
      refine ⟨_, rfl, _, rfl, .inr (.inr ⟨_, pb.ty W, W.ni, _, rfl, iteF ?_⟩)⟩
      refine ⟨_, rfl, _, .ref C, _, _, _, rfl, .own C, pb.ty W, W.ic.me, _, rfl, iteT ?_⟩
      exact ⟨_, rfl, a, C, dx, fs, _, rfl, h1, W.ic.cl, W.n1, h2, _, rfl, b, C, dx2, fs2, _, rfl, k1, W.ic.cl, W.n1, k2, _, _, dp_T h5, dp_T k5, shaped_T _, shaped_T _, q l l2 H h6 k6 fun _ _ e => e⟩
end
end K16

namespace Td
open PySem L2 PySem.Spec PyProof.Rows
/-! ### dict(list of pairs) whose keys are tuples -/
section
variable {κ : Type} [DecidableEq κ]
theorem atKey_off {xs : List (κ × Addr × Value)} {k : κ} (h : k ∉ xs.map (·.1)) : atKey xs k = none := by
  unfold atKey
  have : (xs.find? fun x => decide (x.1 = k)) = none := by
    rw [List.find?_eq_none]
    intro x hx e
    exact h (List.mem_map.mpr ⟨x, hx, of_decide_eq_true e⟩)
  rw [this]
  rfl
theorem storedAll_nodup : ∀ (ps acc : List (κ × Addr × Value)), ((acc ++ ps).map (·.1)).Nodup → storedAllH acc ps = acc ++ ps
  | [], acc, _ => by rw [List.append_nil]; rfl
  | p :: ps, acc, h => by
    have h1 : p.1 ∉ acc.map (·.1) := by
      rw [List.map_append, List.map_cons, List.nodup_append] at h
      intro z
      exact h.2.2 _ z _ (.head _) rfl
    show storedAllH (storedH acc p.1 p.2.1 p.2.2) ps = _
    rw [storedH_new (atKey_off h1)]
    have e : acc ++ p :: ps = (acc ++ [p]) ++ ps := by rw [List.append_assoc]; rfl
    rw [e] at h ⊢
    exact storedAll_nodup ps _ h
end
/-- one pair of the list: the tuple, its key, where the key stands, the value -/
structure It2 where
  p : Addr
  k : List Key
  b : Addr
  v : V
def rDictPT (K : PySem.W.Frag) : List V → Hp → VK → Prop := fun xs H Q => ∃ (a : Addr) (L : List It2), xs = [.ref a] ∧ SqL K H a (L.map fun e => V.ref e.p) ∧
  (∀ e ∈ L, SqT K H e.p [.ref e.b, e.v] ∧ H e.b = some (.tup (e.k.map kV))) ∧ (L.map (·.k)).Nodup ∧ ∀ d, H d = none → Q (.ref d) (upd H d (.dT (L.map fun e => (e.k, e.v))))
section
variable {X : Cx} {pins : List (Addr × Obj)} {σ : L2.St} {H : Hp} {s : Shared}
theorem pairs_at (I : Inv X pins σ H s) : ∀ (L : List It2), (∀ e ∈ L, SqT X.K H e.p [.ref e.b, e.v] ∧ H e.b = some (.tup (e.k.map kV))) →
    ∃ us : List Value, us.length = L.length ∧ KT H (L.map fun e => (e.k, e.v)) ((L.zip us).map fun z => (z.1.k, z.1.b, z.2)) ∧
      ∀ (j : Nat) (e : It2) (u : Value), L[j]? = some e → us[j]? = some u → IsTup s.heap e.p #[.ref e.b, u]
  | [], _ => ⟨[], rfl, .nil, fun j e u h => nomatch h⟩
  | e :: L, h => by
    obtain ⟨us, hl, kt, at_⟩ := pairs_at I L fun x hx => h x (.tail _ hx)
    obtain ⟨h1, h2⟩ := h e (.head _)
    obtain ⟨its, rv, ht, _⟩ := I.tuple h1
    obtain ⟨u, y, rfl, ru, ry⟩ := vals2 rv
    cases ru
    refine ⟨y :: us, by rw [List.length_cons, List.length_cons, hl], .cons ⟨rfl, h2, ry⟩ kt, fun j e' u' h3 h4 => ?_⟩
    cases j with
    | zero =>
      cases h3
      cases h4
      exact ht
    | succ j => exact at_ j e' u' h3 h4
theorem isTup_pair {h : Heap} {t : Addr} {k v : Value} (x : IsTup h t #[k, v]) : PairAt h t k v := .inl x
theorem call_dictPT (hc : X.calm = true) (hu : X.A.units + 8 < cLine) : CallR X (.type "dict") (rDictPT X.K) := by
  intro pins s σ H xs us Q I r h
  obtain ⟨a, L, rfl, hS, hL, nd, q⟩ := h
  rw [Vals.ref1 r]
  obtain ⟨its, rv, ⟨o, n, ho, hcl, hd, hdat⟩, hz⟩ := I.list hS
  have ei : its = L.map fun e => Value.ref e.p := by
    have : L.map (fun e => V.ref e.p) = (L.map (·.p)).map V.ref := by rw [List.map_map]; rfl
    rw [this] at rv
    rw [refs_at rv, List.map_map]
    rfl
  subst ei
  rw [List.length_map] at hz
  obtain ⟨ws, hl, kt, at_⟩ := pairs_at I L hL
  have lz : (L.zip ws).length = L.length := by rw [List.length_zip, hl, Nat.min_self]
  have zat : ∀ (j : Nat) (e : It2) (u : Value), (L.zip ws)[j]? = some (e, u) → L[j]? = some e ∧ ws[j]? = some u := by
    intro j e u z
    rw [List.getElem?_zip_eq_some] at z
    exact z
  refine call_dict_pairsH (knd := tupleKind (mixKind X.prog X.w)) (ps := (L.zip ws).map fun z => (z.1.k, z.1.b, z.2))
    (PairArg.list a (L.map fun e => Value.ref e.p).toArray (fun j => (L[j]?.map (·.p)).getD 0) ((L.zip ws).map fun z => (Value.ref z.1.b, z.2)))
    (I.ok.hd hc) (by show X.A.units + 1 + 1 < cLine; omega) ⟨⟨o, n, ho, hcl, hd, hdat⟩, ?_, ?_⟩ ⟨by rw [List.length_map, List.length_map], ?_⟩ ?_ (by rw [List.length_map, lz]; exact hz) ?_
  · rw [List.size_toArray, List.length_map, List.length_map, lz]
  · intro j k v hj
    rw [List.getElem?_map] at hj
    cases e : (L.zip ws)[j]? with
    | none => rw [e] at hj; cases hj
    | some z =>
      rw [e] at hj
      cases hj
      obtain ⟨h1, h2⟩ := zat j z.1 z.2 e
      refine ⟨?_, ?_⟩
      · rw [List.getElem?_toArray, List.getElem?_map, h1]
        show _ = some (Value.ref ((L[j]?.map (·.p)).getD 0))
        rw [h1]
        rfl
      · show PairAt s.heap ((L[j]?.map (·.p)).getD 0) _ _
        rw [h1]
        exact isTup_pair (at_ j _ _ h1 h2)
  · intro i key v hi
    have hi : ((L.zip ws).map fun z => (Value.ref z.1.b, z.2))[i]? = some (key, v) := hi
    rw [List.getElem?_map] at hi
    cases e : (L.zip ws)[i]? with
    | none => rw [e] at hi; cases hi
    | some z =>
      rw [e] at hi
      cases hi
      exact ⟨z.1.k, z.1.b, by rw [List.getElem?_map, e]; rfl, rfl⟩
  · intro h' hk x hx
    obtain ⟨z, hz1, rfl⟩ := List.mem_map.mp hx
    obtain ⟨j, hj⟩ := List.getElem?_of_mem hz1
    obtain ⟨h1, _⟩ := zat j z.1 z.2 hj
    have h2 := (hL z.1 (List.mem_of_getElem? h1)).2
    obtain ⟨o', its', n', h3, h4, h5, h6⟩ := key_of I.hok h2
    exact ⟨o', its', n', hk _ _ (Nat.ne_of_lt (Heap.lt_size h3)) (by simp) h3, h4, h5, h6⟩
  · intro h' tk hd' hk
    have ek : ((L.zip ws).map fun z => (z.1.k, z.1.b, z.2)).map (·.1) = L.map (·.k) := by
      rw [List.map_map]
      show (L.zip ws).map (fun z => z.1.k) = _
      rw [show (fun z : It2 × Value => z.1.k) = (fun e : It2 => e.k) ∘ Prod.fst from rfl, ← List.map_map, List.map_fst_zip (by omega)]
    rw [storedAll_nodup _ _ (by rw [List.nil_append, ek]; exact nd), List.nil_append] at hd'
    obtain ⟨o2, es, ep, g1, g2, g3, g4, g5, g6⟩ := hd'
    have hb : H s.heap.objs.size = none := I.hok.fresh (Nat.le_refl _)
    have hm : (s.heap.objs.size == sysModules) = false := beq_eq_false_iff_ne.mpr (Nat.ne_of_gt I.big)
    refine ⟨.ref s.heap.objs.size, upd H s.heap.objs.size (.dT (L.map fun e => (e.k, e.v))), I.laid (t' := tk) (fun b o e => hk b o (by simp) e) (Nat.le_refl _) ⟨by rw [List.length_map]; exact hz, hm, _, ?_, o2, es, ep, g1, g2, g3, g4, g6⟩, rfl, q _ hb⟩
    have keep : ∀ {l : List (List Key × V)} {m : List (List Key × Addr × Value)}, KT H l m → Paired (fun (p : List Key × V) (q : List Key × Addr × Value) => p.1 = q.1 ∧ (upd H s.heap.objs.size (.dT (L.map fun e => (e.k, e.v)))) q.2.1 = some (.tup (p.1.map kV)) ∧ RelV p.2 q.2.2) l m := by
      intro l m q
      induction q with
      | nil => exact .nil
      | cons hq t ih => exact .cons ⟨hq.1, by rw [upd_ne (ne_of_none hq.2.1 hb)]; exact hq.2.1, hq.2.2⟩ ih
    exact keep kt
end
end Td

namespace Td
open PySem L2 PySem.Spec PyProof.Rows
/-! ### {(..): v, ..}: a display whose keys are tuples -/
structure It1 where
  k : List Key
  b : Addr
  v : V
def tDispT (trs : List (TE × TE)) : TE := fun σ H Q => ∀ p, H p = none → tPairs trs σ (upd H p (.dT [])) fun ps H2 => H2 p = some (.dT []) ∧ ∃ L : List It1, ps = L.map (fun e => (V.ref e.b, e.v)) ∧ L.length ≤ 15 ∧
  (∀ e ∈ L, H2 e.b = some (.tup (e.k.map kV))) ∧ (L.map (·.k)).Nodup ∧ Q (.ref p) (upd H2 p (.dT (L.map fun e => (e.k, e.v))))
theorem carriesT {P : Program} {w : World} {H : Hp} {h : Heap} (ok : HOk P w H h) : ∀ {L : List It1} {ws : List (Value × Value)}, (∀ e ∈ L, H e.b = some (.tup (e.k.map kV))) → VV (L.map fun e => (V.ref e.b, e.v)) ws →
    ∃ ps : List (List Key × Addr × Value), CarriesH (tupleKind (mixKind P w)) h ws ps ∧ ps.map (·.1) = L.map (·.k) ∧
      Paired (fun (p : List Key × V) (q : List Key × Addr × Value) => p.1 = q.1 ∧ H q.2.1 = some (.tup (p.1.map kV)) ∧ RelV p.2 q.2.2) (L.map fun e => (e.k, e.v)) ps
  | [], _, _, r => by rw [List.map_nil] at r; cases r; exact ⟨[], trivial, rfl, .nil⟩
  | e :: L, _, hk, r => by
    rw [List.map_cons] at r
    cases r with
    | @cons a b as bs h1 t =>
      obtain ⟨ps, c, m, q⟩ := carriesT ok (fun x hx => hk x (.tail _ hx)) t
      obtain ⟨b1, b2⟩ := b
      obtain ⟨g1, g2⟩ := h1
      exact ⟨(e.k, e.b, b2) :: ps, ⟨g1, rfl, key_of ok (hk e (.head _)), c⟩, by rw [List.map_cons, List.map_cons, m], .cons ⟨rfl, hk e (.head _), g2⟩ q⟩
theorem pe_dispT {X : Cx} {pos : Pos} {keys : List (Option Expr)} {values : List Expr} {trs : List (TE × TE)} (hu : X.A.units + 8 < cLine) (h : PPs X pos keys values trs) (hall : keys.all (·.isSome) = true) (hl : keys.length = values.length) (h0 : keys ≠ [])
    (h15 : keys.length ≤ 15) : PE X (.Dict keys values pos) (tDispT trs) := by
  refine ⟨fun pins s σ H Q I q => ?_⟩
  have hn := I.hok.fresh (Nat.le_refl s.heap.objs.size)
  have I1 := I.laid (a := s.heap.objs.size) (o := .dT []) (h' := s.heap.push { cls := .type "dict", data := .dict #[] }) (t' := s.toks) (fun _ _ q => Heap.get?_push_of_some _ q) (Nat.le_refl _) (dt_empty s.heap I.big)
  have hz := pairTrees_length keys values X.env pos hall hl
  rw [arm_eval_Dict, zip_pairTrees keys values X.env pos hall hl, dictDisplay_pairs (pairTrees keys values X.env pos) (fun e => by rw [e] at hz; exact h0 (List.length_eq_zero_iff.mp hz.symm)) (by omega)]
  refine wpAny_bind (wpAny_standAt (wpAny_bind (wpAny_subDictH (knd := tupleKind (mixKind X.prog X.w)) (by show X.A.units < cLine; omega) (by omega) (thn (h.run pins _ σ _ _ I1 (q _ hn)) fun ws s2 ⟨ps, H2, I2, rel, e, L, ep, few, hk, nd, q2⟩ => ?_))))
  subst ep
  obtain ⟨rs, c, m, rk⟩ := carriesT (w := X.w) I2.hok hk rel
  obtain ⟨z, hd, xs0, kt0, dd⟩ := dt_of I2.hok e
  cases kt0
  refine ⟨rs, c, dd, fun h' tk dd' hs => wpAny_pure ⟨.ref s.heap.objs.size, _, ?_, rfl, q2⟩⟩
  rw [storedAll_nodup _ _ (by rw [List.nil_append, m]; exact nd), List.nil_append] at dd'
  obtain ⟨o2, es, ep, g1, g2, g3, g4, g5, g6⟩ := dd'
  refine d_write I2 (by rw [e]; exact True.intro) hs ⟨o2, g1⟩ ⟨by rw [List.length_map, sizeLine_eq]; omega, hd, rs, ?_, o2, es, ep, g1, g2, g3, g4, g6⟩
  have keep : ∀ {l : List (List Key × V)} {m : List (List Key × Addr × Value)}, Paired (fun (p : List Key × V) (q : List Key × Addr × Value) => p.1 = q.1 ∧ H2 q.2.1 = some (.tup (p.1.map kV)) ∧ RelV p.2 q.2.2) l m →
      Paired (fun (p : List Key × V) (q : List Key × Addr × Value) => p.1 = q.1 ∧ (upd H2 s.heap.objs.size (.dT (L.map fun e => (e.k, e.v)))) q.2.1 = some (.tup (p.1.map kV)) ∧ RelV p.2 q.2.2) l m := by
    intro l m q
    induction q with
    | nil => exact .nil
    | cons hq t ih => exact .cons ⟨hq.1, by rw [upd_ne (ne_of hq.2.1 e (by intro z; cases z))]; exact hq.2.1, hq.2.2⟩ ih
  exact keep rk
end Td

namespace K16
open PySem L2 Gd Ply
abbrev Off (d : Addr) (H H' : Hp) : Prop := ∀ b o, H b = some o → b ≠ d → H' b = some o
theorem Off.trans {d : Addr} {H H1 H2 : Hp} (a : Off d H H1) (b : Off d H1 H2) : Off d H H2 := fun x o e n => b x o (a x o e n) n
theorem Off.of {d : Addr} {H H' : Hp} (m : More H H') : Off d H H' := fun b o e _ => m b o e
theorem Off.dr {d c : Addr} {n : Int} {H H' : Hp} (h : Drawn H H' d c n) : Off d H H' := fun b o e nb => (h.off b nb).trans e
theorem new_more {H : Hp} {p : Addr} {o : HO} (hp : H p = none) : More H (upd H p o) := More.new (fun _ _ e => e) hp
theorem nodup_kI : ∀ {l : List (List Int)}, l.Nodup → (l.map kI).Nodup
  | [], _ => List.nodup_nil
  | k :: l, h => by
    rw [List.nodup_cons] at h
    rw [List.map_cons, List.nodup_cons]
    refine ⟨fun z => ?_, nodup_kI h.2⟩
    obtain ⟨k', hk, e⟩ := List.mem_map.mp z
    rw [kI_inj e] at hk
    exact h.1 hk
theorem nodup_sub {p q : Po} (h : (ks p).Nodup) (s : q.Sublist p) : (ks q).Nodup := List.Nodup.sublist (s.map _) h
/-- at D stands the law's own sum p -/
structure PD (H : Hp) (D : Addr) (p : Po) (B C : Nat) : Prop where
  at_ : H D = some (.dT (dk p))
  nd : (ks p).Nodup
  few : p.length ≤ 5
  three : ∀ e ∈ p, e.1.length = 3
  exp : ∀ e ∈ p, ∀ i ∈ e.1, i.natAbs ≤ B
  num : ∀ e ∈ p, e.2.natAbs ≤ C
def spPoly : Sp := fun vs H Q _ => ∃ (d c : Addr) (n l r m : Int), vs = [.ref d, .int l, .int r, .int m] ∧ Pen H d c n ∧ 0 ≤ n ∧ n < 800000000 ∧ 1 ≤ r ∧ r ≤ 9 ∧ 1 ≤ m ∧ m ≤ 5 ∧
  ∀ (D : Addr) (p : Po) (n' : Int) (H' : Hp), n ≤ n' → n' ≤ n + 100 → Pen H' d c n' → Off d H H' → H D = none → PD H' D p 9 100 → Q (.ref D) H'
section
variable {P : Program} {w : World} {K : PySem.W.Frag} {mg : Str → Option Value} {base : Heap}
variable {g1 g2 f : Addr} {d1 d2 fd : FuncData}
abbrev sPoly : Stmt := top 45
abbrev NPo : List Str := ["_law_pen_here", "_law_letters", "_law_reach", "_law_many", "_law_found", "_law_k", "_law_place", "_law_number", "_law_at"]
theorem scPoly : FnScope NPo ["_law_pen_here", "_law_letters", "_law_reach", "_law_many"] (defScope sPoly) := ⟨rfl, rfl, rfl, by decide +kernel, rfl, by decide +kernel, by decide +kernel⟩
theorem ok_poly (F : Fun K "_law_poly" "_law_poly" sPoly f fd) (B : Blt mg) (B2 : Blt2 mg) (Dr : Cl K mg "_law_draw" sDraw ["_law_pen_here", "_law_many"] g1 d1) (Pi : Cl K mg "_law_pick" sPick ["_law_pen_here", "_law_some"] g2 d2) :
    FnOk P w K mg base CX0 3 f fd ["_law_pen_here", "_law_letters", "_law_reach", "_law_many"] spPoly := by
  have G1 : FnOk P w K mg base CX0 1 g1 d1 ["_law_pen_here", "_law_many"] spDraw := ok_draw Dr.fn B.int_ B.len_
  have G2 : FnOk P w K mg base CX0 2 g2 d2 ["_law_pen_here", "_law_some"] (spPick K) := ok_pick Pi.fn Dr.fn Dr.b Dr.g B.int_ B.len_
  refine F.ok scPoly (fun vs H Q E h => ?_) (fun cdv A outer s H vs Q E hr h => ?_)
  · obtain ⟨d, c, n, l, r, m, rfl, _⟩ := h
    rfl
  · obtain ⟨d, c, n, l, r, m, rfl, pen, n0, n1, r1, r9, m1, m5, q⟩ := h
    have hu := hu_of hr
    have hu64 := hr.units
    have hu8 := Nat.lt_of_le_of_lt (Nat.add_le_add_left (show 8 ≤ 64 by decide) _) hu64
    have hr1 : Room 1 _ := hr.mono (by decide)
    refine ⟨_, pss_cons (ps_set (i := 4) scPoly.nd rfl (Or.inr rfl) pe_dnewT)
      (Evl.pss_cut (ps_for PassesOwn.never rfl (pi_range1 rfl B.range_ (pa_cons (pe_op op_add pe_int (pe_call G1 hr1 rfl Dr.g Dr.k Dr.b .nil pass0 (pa_cons (pv 0) (pa_cons (pv 3) pa_nil)))) pa_nil)) (pg_name (i := 5) scPoly.nd rfl (Or.inl rfl))
        (pss_cons (ps_setLc (i := 6) (own := [("_law_at", 8)]) (g := gName 8) (tt := tYes) rfl scPoly.nd rfl rfl (sw_true rfl rfl rfl (by decide +kernel)) (pi_range1 rfl B.range_ (pa_cons pe_int pa_nil))
            (blkOk_by (N := NPo) (sc := defScope sPoly) (by decide +kernel)) (fun _ _ _ _ _ => pg_name (i := 8) scPoly.nd rfl (Or.inl rfl)) (fun _ _ _ _ _ => pts_nil)
            (fun _ _ _ _ _ => pe_ifExp (pt_cmpR op_lt (pv 8) (pv 1) (nomark _)) (pe_op op_sub (pe_call G1 hr1 rfl Dr.g Dr.k Dr.b .nil pass0 (pa_cons (pv 0) (pa_cons (pe_op op_add (pe_op op_mul pe_int (pv 2)) pe_int) pa_nil))) (pv 2)) pe_int))
        (pss_cons (ps_set (i := 7) scPoly.nd rfl (Or.inl rfl) (pe_call G2 (hr.mono (by decide)) rfl Pi.g Pi.k Pi.b .nil pass0 (pa_cons (pv 0) (pa_cons (pe_lst (pa_cons pe_int (pa_cons pe_int (pa_cons pe_int (pa_cons (pe_un un_neg pe_int) (pa_cons pe_int (pa_cons pe_int
            (pa_cons (pe_op op_sub (pe_call G1 hr1 rfl Dr.g Dr.k Dr.b .nil pass0 (pa_cons (pv 0) (pa_cons pe_int pa_nil))) pe_int) pa_nil)))))))) pa_nil))))
        (pss_cons (ps_set (i := 6) scPoly.nd rfl (Or.inl rfl) (pe_tup (pa_cons (pe_ix ix_list (pv 6) pe_int (fun _ _ => rfl)) (pa_cons (pe_ix ix_list (pv 6) pe_int (fun _ _ => rfl)) (pa_cons (pe_ix ix_list (pv 6) pe_int (fun _ _ => rfl)) pa_nil)))))
        (pss_one (ps_dput hu (pv 4) (pv 6) (pe_op op_add (pe_dget2 hu (pv 4) (pv 6) pe_int ⟨rfl, rfl, rfl, rfl⟩) (pv 7)) rfl))))))
      (pss_one (ps_ret (pe_callTy (Td.call_dictPT rfl hu8) (by rfl) B2.dict_ (by decide +kernel) (pa_cons (pe_lock (pe_lc (own := [("_law_place", 6)]) (g := gName 6) rfl scPoly.nd (pi_keys (pv 4))
          (blkOk_by (N := NPo) (sc := defScope sPoly) (by decide +kernel)) (fun _ _ _ _ _ => pg_name (i := 6) scPoly.nd rfl (Or.inl rfl))
          (fun _ _ _ _ _ => pts_one (pt_cmpR op_ne (pe_dget hu (pv 4) (pv 6) (fun _ _ => rfl)) pe_int (nomark _)))
          (fun _ _ _ _ _ => pe_tup (pa_cons (pv 6) (pa_cons (pe_dget hu (pv 4) (pv 6) (fun _ _ => rfl)) pa_nil))))) pa_nil))))), ?_⟩
    intro F0 hF
    have nFd : F0 ≠ d := fun z => by
      obtain ⟨o, ho⟩ := pen.at
      rw [z, ho] at hF
      cases hF
    have pen0 := pen.upd (o := .dT []) hF
    -- the loop's own state
    refine ⟨fun σ' H' => ∃ z5 z6 z7 n' p, σ' = [some (.ref d), some (.int l), some (.int r), some (.int m), some (.ref F0), z5, z6, z7, none] ∧ H' F0 = some (.dT (dk p)) ∧ (ks p).Nodup ∧ p.length ≤ 5 ∧ (∀ e ∈ p, e.1.length = 3) ∧ (∀ e ∈ p, ∀ i ∈ e.1, i.natAbs ≤ 9) ∧
        (∀ e ∈ p, e.2.natAbs ≤ 100) ∧ Pen H' d c n' ∧ n ≤ n' ∧ n' ≤ n + 60 ∧ Off d H H', ?_, ?_⟩
    · refine ⟨_, rfl, _, rfl, d, c, n, m, rfl, pen0, by omega, by omega, n0, by omega, fun k H1 k0 k1 dr => ?_⟩
      refine ⟨1, k, rfl, rfl, _, rfl, by omega, by omega, for_range (lo := 0) (n := (1 + k).toNat) (fun i σ' H' => ∃ z5 z6 z7 n' p, σ' = [some (.ref d), some (.int l), some (.int r), some (.int m), some (.ref F0), z5, z6, z7, none] ∧ H' F0 = some (.dT (dk p)) ∧ (ks p).Nodup ∧ p.length ≤ i ∧ (∀ e ∈ p, e.1.length = 3) ∧ (∀ e ∈ p, ∀ i ∈ e.1, i.natAbs ≤ 9) ∧
        (∀ e ∈ p, e.2.natAbs ≤ 20 * i) ∧ Pen H' d c n' ∧ n ≤ n' ∧ n' ≤ n + 1 + 5 * (i : Int) ∧ Off d H H') ⟨none, none, none, n + 1, [], rfl, ?_, List.nodup_nil, Nat.le_refl _, (fun _ h => nomatch h), (fun _ h => nomatch h), (fun _ h => nomatch h), dr.pen, by omega, by omega, ?_⟩ ?_ ?_⟩
      · exact (dr.off F0 nFd).trans upd_same
      · exact Off.trans (Off.of (new_more hF)) (Off.dr dr)
      · rintro i σ2 H2 hi ⟨z5, z6, z7, n2, p, rfl, e1, e2, e3, e4, e5, e6, pn, b1, b2, of⟩
        have hi5 : i ≤ 4 := by omega
        refine ⟨3, rfl, by decide, by decide, fun D hD => lc_range (lo := 0) (n := 3) (fun j H' => ∃ (xs : List Int) (n3 : Int), H' D = some (.lst (xs.map V.int)) ∧ xs.length = j ∧ (∀ x ∈ xs, x.natAbs ≤ 9) ∧ Pen H' d c n3 ∧ n2 ≤ n3 ∧ n3 ≤ n2 + (j : Int) ∧ Off d H2 H')
          ⟨[], n2, upd_same, rfl, (fun _ h => nomatch h), pn.upd hD, by omega, by omega, Off.of (new_more hD)⟩ ?_ ?_⟩
        · rintro j H3 hj ⟨xs, n3, f1, f2, f3, f4, f5, f6, f7⟩
          have fin : ∀ (x : Int) (H4 : Hp) (n4 : Int), x.natAbs ≤ 9 → Pen H4 d c n4 → n3 ≤ n4 → n4 ≤ n3 + 1 → Off d H3 H4 → ∃ acc, H4 D = some (.lst acc) ∧ acc.length < sizeLine ∧ ∃ (xs : List Int) (n3 : Int),
              (upd H4 D (.lst (acc ++ [V.int x]))) D = some (.lst (xs.map V.int)) ∧ xs.length = j + 1 ∧ (∀ x ∈ xs, x.natAbs ≤ 9) ∧ Pen (upd H4 D (.lst (acc ++ [V.int x]))) d c n3 ∧ n2 ≤ n3 ∧ n3 ≤ n2 + ((j + 1 : Nat) : Int) ∧ Off d H2 (upd H4 D (.lst (acc ++ [V.int x]))) := by
            intro x H4 n4 hx p4 c1 c2 o4
            have nDd : D ≠ d := fun z => by
              obtain ⟨o, ho⟩ := pn.at
              rw [z, ho] at hD
              cases hD
            have nDc : c ≠ D := fun z => by
              obtain ⟨o, ho⟩ := pn.atc
              rw [← z, ho] at hD
              cases hD
            have f1' := o4 _ _ f1 nDd
            refine ⟨_, f1', by rw [List.length_map]; exact small1000 (by omega), xs ++ [x], n4, by rw [upd_same, List.map_append]; rfl, by rw [List.length_append, f2]; rfl, fun y hy => ?_, p4.keep (upd_ne nDd.symm) (upd_ne nDc), by omega, by omega, fun b o e nb => ?_⟩
            · rcases List.mem_append.mp hy with hy | hy
              · exact f3 y hy
              · rw [List.mem_singleton] at hy
                subst hy
                exact hx
            · rw [upd_ne (ne_of_none e hD)]
              exact o4 _ _ (f7 _ _ e nb) nb
          refine ⟨rfl, _, rfl, _, rfl, _, _, rfl, rfl, _, rfl, ite2 (fun _ => ?_) (fun _ => ?_)⟩
          · refine ⟨_, rfl, _, rfl, _, _, rfl, rfl, .inl ⟨by decide, by decide⟩, _, _, rfl, rfl, d, c, n3, 2 * r + 1, rfl, f4, by omega, by omega, by omega, by omega, fun x H4 x0 x1 dr4 => ?_⟩
            refine ⟨_, rfl, _, _, rfl, rfl, fin _ H4 (n3 + 1) (by omega) dr4.pen (by omega) (by omega) (Off.dr dr4)⟩
          · exact fin 0 H3 n3 (by decide) f4 (by omega) (by omega) fun _ _ e _ => e
        · rintro H3 ⟨xs, n3, f1, f2, f3, f4, f5, f6, f7⟩
          match xs, f2 with
          | [x0, x1, x2], _ =>
          have o3 := of.trans f7
          refine ⟨_, rfl, 1, rfl, _, rfl, d, c, n3, 41, rfl, f4, by decide, by decide, by omega, by omega, fun y H4 y0 y1 dr4 => ?_⟩
          refine ⟨y, 20, rfl, rfl, by show 7 ≤ sizeLine; decide, fun u nu => ?_⟩
          have p4 := dr4.pen.upd (o := .lst [.int 1, .int 1, .int 1, .int (-1), .int 2, .int 3, .int (y - 20)]) nu
          refine ⟨d, c, u, n3 + 1, _, rfl, p4, upd_same, by show 0 < 7; decide, by show 7 ≤ 1000; decide, by omega, by omega, fun v H5 hv dr5 => ?_⟩
          obtain ⟨w0, rfl, hw⟩ : ∃ w0 : Int, v = .int w0 ∧ w0.natAbs ≤ 20 := by
            rcases List.mem_cons.mp hv with rfl | hv
            · exact ⟨_, rfl, by decide⟩
            rcases List.mem_cons.mp hv with rfl | hv
            · exact ⟨_, rfl, by decide⟩
            rcases List.mem_cons.mp hv with rfl | hv
            · exact ⟨_, rfl, by decide⟩
            rcases List.mem_cons.mp hv with rfl | hv
            · exact ⟨_, rfl, by decide⟩
            rcases List.mem_cons.mp hv with rfl | hv
            · exact ⟨_, rfl, by decide⟩
            rcases List.mem_cons.mp hv with rfl | hv
            · exact ⟨_, rfl, by decide⟩
            rw [List.mem_singleton] at hv
            exact ⟨_, hv, by omega⟩
          have nDd : D ≠ d := fun z => by
            obtain ⟨o, ho⟩ := pn.at
            rw [z, ho] at hD
            cases hD
          have offs : Off d H3 H5 := Off.trans (Off.dr dr4) (Off.trans (Off.of (new_more nu)) (Off.dr dr5))
          have D5 := offs _ _ f1 nDd
          have F5 := offs _ _ (f7 _ _ e1 nFd) nFd
          have sq := SqL.of (K := K) D5
          refine ⟨_, rfl, D, _, 0, _, rfl, rfl, sq, at_of (j := 0) rfl rfl, _, rfl, D, _, 1, _, rfl, rfl, sq, at_of (j := 1) rfl rfl, _, rfl, D, _, 2, _, rfl, rfl, sq, at_of (j := 2) rfl rfl, by show 3 ≤ sizeLine; decide, fun t nt => ?_⟩
          have nFt : F0 ≠ t := ne_of_none F5 nt
          have F6 : (upd H5 t (.tup [.int x0, .int x1, .int x2])) F0 = some (.dT (dk p)) := by rw [upd_ne nFt]; exact F5
          have key : (upd H5 t (.tup [.int x0, .int x1, .int x2])) t = some (.tup ((kI [x0, x1, x2]).map kV)) := upd_same
          refine ⟨_, rfl, F0, rfl, .inr ⟨_, .inl F6⟩, _, rfl, _, DGet.t F6 key, _, rfl, _, _, valD _ _, rfl, _, rfl, _, rfl, F0, _, rfl, DPut.t F6 key (by rw [dk_len]; exact small1000 (by omega)), ?_⟩
          rw [putK_dk]
          have bd : ∀ e ∈ put p [x0, x1, x2] (val p [x0, x1, x2] + w0), e = ([x0, x1, x2], val p [x0, x1, x2] + w0) ∨ e ∈ p := fun e he => mem_put he
          have vb : (val p [x0, x1, x2]).natAbs ≤ 20 * i := by
            unfold val
            cases z : look p [x0, x1, x2] with
            | none => exact Nat.zero_le _
            | some v => exact e6 _ (look_mem z)
          have pen6 : Pen (upd (upd H5 t (.tup [.int x0, .int x1, .int x2])) F0 (.dT (dk (put p [x0, x1, x2] (val p [x0, x1, x2] + w0))))) d c (n3 + 1 + 1) := by
            refine (dr5.pen.upd nt).keep (upd_ne nFd.symm) (upd_ne fun z => ?_)
            obtain ⟨o, ho⟩ := pen.atc
            rw [z, hF] at ho
            cases ho
          refine ⟨_, _, _, n3 + 1 + 1, _, rfl, upd_same, nodup_put e2 _ _, Nat.le_trans (len_put _ _ _) (by omega), fun e he => ?_, fun e he => ?_, fun e he => ?_, pen6, by omega, by omega, fun b o e nb => ?_⟩
          · rcases bd e he with rfl | he
            · rfl
            · exact e4 e he
          · rcases bd e he with rfl | he
            · exact f3
            · exact e5 e he
          · rcases bd e he with rfl | he
            · show (val p [x0, x1, x2] + w0).natAbs ≤ _
              omega
            · have := e6 e he
              omega
          · have e' := offs _ _ (o3 _ _ e nb) nb
            rw [upd_ne (ne_of_none e hF), upd_ne (ne_of_none e' nt)]
            exact e'
      · rintro σ2 H2 ⟨z5, z6, z7, n2, p, rfl, e1, e2, e3, e4, e5, e6, pn, b1, b2, of⟩
        exact ⟨z5, z6, z7, n2, p, rfl, e1, e2, by omega, e4, e5, fun e he => by have := e6 e he; omega, pn, b1, by omega, of⟩
    · rintro σ2 H2 ⟨z5, z6, z7, n2, p, rfl, e1, e2, e3, e4, e5, e6, pn, b1, b2, of⟩
      refine ⟨F0, .dT (dk p), e1, trivial, fun od => ?_⟩
      refine ⟨_, rfl, F0, od, rfl, .inr ⟨_, upd_same, fun D hD => lc_it (walk_keysT (kvs := dk p)) (fun i H' => ∃ L : List Td.It2, H' D = some (.lst (L.map fun e => V.ref e.p)) ∧ (∀ e ∈ L, H' e.p = some (.tup [.ref e.b, e.v]) ∧ H' e.b = some (.tup (e.k.map kV))) ∧
          (L.map fun e => (e.k, e.v)) = dk ((p.take i).filter fun e => decide (e.2 ≠ 0)) ∧ H' F0 = some (.frz od (.dT (dk p))) ∧ (∀ b o, b ≠ F0 → H2 b = some o → H' b = some o)) ⟨[], upd_same, (fun _ h => nomatch h), rfl, ?_, ?_⟩ ?_ ?_ ?_⟩⟩
      · have : D ≠ F0 := fun z => by rw [z, upd_same] at hD; cases hD
        rw [upd_ne this.symm]
        exact upd_same
      · intro b o nb e
        have e' : (upd H2 F0 (.frz od (.dT (dk p)))) b = some o := by rw [upd_ne nb]; exact e
        rw [upd_ne (ne_of_none e' hD)]
        exact e'
      · exact fun i H' _ ⟨_, _, _, _, h, _⟩ => h
      · rintro i x H3 H4 hi ⟨L, f1, f2, f3, f4, f5⟩ ⟨rfl, k, v, b, hk, rfl, hb⟩
        obtain ⟨e, he, rfl, rfl⟩ : ∃ e, p[i]? = some e ∧ k = kI e.1 ∧ v = .int e.2 := by
          unfold dk at hk
          rw [List.getElem?_map] at hk
          cases z : p[i]? with
          | none => rw [z] at hk; cases hk
          | some e =>
            rw [z] at hk
            cases hk
            exact ⟨e, rfl, rfl, rfl⟩
        have mem : e ∈ p := List.mem_of_getElem? he
        have dg : DGet H4 F0 (.ref b) (some (.int e.2)) := .inr ⟨dk p, kI e.1, b, .inr ⟨od, f4⟩, rfl, hb, by rw [valS (List.mem_map.mpr ⟨e, mem, rfl⟩), val_at e2 mem]⟩
        refine ⟨rfl, _, rfl, _, rfl, F0, _, rfl, dg, rfl, _, rfl, ?_⟩
        rw [show (!decide (V.int e.2 = V.int 0)) = decide (e.2 ≠ 0) by rw [deI]; by_cases z : e.2 = 0 <;> simp [z]]
        refine ite2 (fun z => ?_) (fun z => ?_)
        · refine ⟨_, rfl, _, rfl, _, rfl, F0, _, rfl, dg, by show 2 ≤ sizeLine; decide, fun q nq => ?_⟩
          have nDq : D ≠ q := ne_of_none f1 nq
          have ll : L.length ≤ 5 := by
            have := congrArg List.length f3
            rw [List.length_map, dk_len] at this
            have := List.length_filter_le (fun e : List Int × Int => decide (e.2 ≠ 0)) (p.take i)
            rw [List.length_take] at this
            omega
          have off : ∀ (o' : HO) c o, c ≠ D → H4 c = some o → (upd (upd H4 q (.tup [.ref b, .int e.2])) D o') c = some o := fun o' c o nc ec => by
            rw [upd_ne nc, upd_ne (ne_of_none ec nq)]
            exact ec
          refine ⟨_, by rw [upd_ne nDq]; exact f1, by rw [List.length_map]; exact small1000 (by omega), L ++ [⟨q, kI e.1, b, .int e.2⟩], by rw [upd_same, List.map_append]; rfl, fun y hy => ?_, ?_, off _ _ _ (ne_of f4 f1 (by intro z; cases z)) f4, fun c o nc ec => ?_⟩
          · rcases List.mem_append.mp hy with hy | hy
            · obtain ⟨k1, k2⟩ := f2 y hy
              exact ⟨off _ _ _ (ne_of k1 f1 (by intro z; cases z)) k1, off _ _ _ (ne_of k2 f1 (by intro z; cases z)) k2⟩
            · rw [List.mem_singleton] at hy
              subst hy
              refine ⟨?_, off _ _ _ (ne_of hb f1 (by intro z; cases z)) hb⟩
              show (upd (upd H4 q (.tup [.ref b, .int e.2])) D _) q = _
              rw [upd_ne nDq.symm, upd_same]
          · rw [List.map_append, f3, take_snoc he, List.filter_append, List.filter_cons_of_pos (p := fun e : List Int × Int => decide (e.2 ≠ 0)) z]
            unfold dk
            rw [List.map_append]
            rfl
          · have e' : (upd H2 F0 (.frz od (.dT (dk p)))) c = some o := by rw [upd_ne nc]; exact ec
            exact off _ _ _ (ne_of_none e' hD) (f5 c o nc ec)
        · refine ⟨L, f1, f2, ?_, f4, f5⟩
          rw [f3, take_snoc he, List.filter_append, List.filter_cons_of_neg (p := fun e : List Int × Int => decide (e.2 ≠ 0)) z]
          exact congrArg dk (List.append_nil _).symm
      · rintro H3 ⟨L, f1, f2, f3, f4, f5⟩
        rw [show (dk p).length = p.length from dk_len p, List.take_length] at f3
        have nDF : D ≠ F0 := ne_of f1 f4 (by intro z; cases z)
        have off : ∀ b o, b ≠ F0 → H3 b = some o → (upd H3 F0 (.dT (dk p))) b = some o := fun b o nb e => by rw [upd_ne nb]; exact e
        have sub : (p.filter fun e => decide (e.2 ≠ 0)).Sublist p := List.filter_sublist
        refine ⟨f4, D, L, rfl, SqL.of (off _ _ nDF f1), fun e he => ?_, ?_, fun R hR => ?_⟩
        · obtain ⟨k1, k2⟩ := f2 e he
          exact ⟨SqT.of (off _ _ (ne_of k1 f4 (by intro z; cases z)) k1), off _ _ (ne_of k2 f4 (by intro z; cases z)) k2⟩
        · have ek : L.map (·.k) = (ks (p.filter fun e => decide (e.2 ≠ 0))).map kI := by
            have := congrArg (List.map Prod.fst) f3
            unfold dk at this
            rw [List.map_map, List.map_map] at this
            unfold ks
            rw [List.map_map]
            exact this
          rw [ek]
          exact nodup_kI (nodup_sub e2 sub)
        · rw [f3]
          have gone : ∀ b o, H b = some o → b ≠ d → (upd (upd H3 F0 (.dT (dk p))) R (.dT (dk (p.filter fun e => decide (e.2 ≠ 0))))) b = some o := fun b o e nb => by
            have z := off _ _ (ne_of_none e hF) (f5 b o (ne_of_none e hF) (of b o e nb))
            rw [upd_ne (ne_of_none z hR)]
            exact z
          have dd : (upd H3 F0 (.dT (dk p))) d = H2 d ∧ (upd H3 F0 (.dT (dk p))) c = H2 c := by
            obtain ⟨o, ho⟩ := pn.at
            obtain ⟨o2, ho2⟩ := pn.atc
            have ncF : c ≠ F0 := fun z => by
              obtain ⟨o, ho⟩ := pen.atc
              rw [z, hF] at ho
              cases ho
            exact ⟨(off _ _ nFd.symm (f5 _ _ nFd.symm ho)).trans ho.symm, (off _ _ ncF (f5 _ _ ncF ho2)).trans ho2.symm⟩
          have hRH : H R = none := by
            cases z : H R with
            | none => rfl
            | some o =>
              by_cases e : R = d
              · subst e
                obtain ⟨o, ho⟩ := pn.at
                rw [dd.1, ho] at hR
                cases hR
              · have z2 := off _ _ (ne_of_none z hF) (f5 R o (ne_of_none z hF) (of R o z e))
                rw [z2] at hR
                cases hR
          refine q R _ n2 _ b1 (by omega) ((pn.keep dd.1 dd.2).upd hR) gone hRH ⟨upd_same, nodup_sub e2 sub, ?_, fun e he => e4 e (sub.subset he), fun e he => e5 e (sub.subset he), fun e he => e6 e (sub.subset he)⟩
          have := sub.length_le
          omega
end
end K16

namespace Td
open PySem L2 PySem.Spec PyProof.Rows
/-! tuple(list), the new tuple known as it is; dict of such a tuple of pairs -/
def rTupF (K : PySem.W.Frag) : List V → Hp → VK → Prop := fun xs H Q => ∃ p ys, xs = [.ref p] ∧ SqL K H p ys ∧ ∀ l o, H l = none → o.dict = none → Q (.ref l) (upd H l (.frz o (.tup ys)))
def rDictPTt (K : PySem.W.Frag) : List V → Hp → VK → Prop := fun xs H Q => ∃ (a : Addr) (o : Obj) (L : List It2), xs = [.ref a] ∧ H a = some (.frz o (.tup (L.map fun e => V.ref e.p))) ∧ o.dict = none ∧
  (∀ e ∈ L, SqT K H e.p [.ref e.b, e.v] ∧ H e.b = some (.tup (e.k.map kV))) ∧ (L.map (·.k)).Nodup ∧ ∀ d, H d = none → Q (.ref d) (upd H d (.dT (L.map fun e => (e.k, e.v))))
section
variable {X : Cx} {pins : List (Addr × Obj)} {σ : L2.St} {H : Hp} {s : Shared}
theorem call_tupF : CallR X (.type "tuple") (rTupF X.K) := by
  intro pins s σ H xs us Q I r h
  obtain ⟨p, ys, rfl, hq, q⟩ := h
  obtain ⟨u, rfl, rx⟩ := vals1 r
  cases rx
  obtain ⟨its, r', pl, hz⟩ := I.list hq
  have hlen := r'.length
  refine call_tuple_list pl.isList (fun h' kp => ?_) (by simp only [List.size_toArray] <;> omega)
  have I1 : Inv X pins σ H { s with heap := h' } := I.kept (t' := s.toks) kp
  have I2 : Inv X pins σ (upd H h'.objs.size (.frz { cls := .type "tuple", data := .seq its.toArray } (.tup ys))) { s with heap := h'.push { cls := .type "tuple", data := .seq its.toArray } } :=
    I1.laid (t' := s.toks) (fun b o e => Heap.get?_push_of_some _ e) (Nat.le_refl _) ⟨Heap.get?_push_size _ rfl, hz, its, r', IsTup.new _ _⟩
  exact ⟨.ref h'.objs.size, _, I2, rfl, q _ _ (I1.hok.fresh (Nat.le_refl _)) rfl⟩
theorem call_dictPTt (hc : X.calm = true) (hu : X.A.units + 8 < cLine) : CallR X (.type "dict") (rDictPTt X.K) := by
  intro pins s σ H xs us Q I r h
  obtain ⟨a, ob, L, rfl, hF, hdn, hL, nd, q⟩ := h
  rw [Vals.ref1 r]
  obtain ⟨ho0, hz, its, rv, o, ho, hcl, n, hdat⟩ := I.hok a _ hF
  have eo : o = ob := by
    rw [ho] at ho0
    exact Option.some.inj ho0
  subst eo
  have hd := hdn
  have ei : its = L.map fun e => Value.ref e.p := by
    have : L.map (fun e => V.ref e.p) = (L.map (·.p)).map V.ref := by rw [List.map_map]; rfl
    rw [this] at rv
    rw [refs_at rv, List.map_map]
    rfl
  subst ei
  rw [List.length_map] at hz
  obtain ⟨ws, hl, kt, at_⟩ := pairs_at I L hL
  have lz : (L.zip ws).length = L.length := by rw [List.length_zip, hl, Nat.min_self]
  have zat : ∀ (j : Nat) (e : It2) (u : Value), (L.zip ws)[j]? = some (e, u) → L[j]? = some e ∧ ws[j]? = some u := by
    intro j e u z
    rw [List.getElem?_zip_eq_some] at z
    exact z
  refine call_dict_pairsH (knd := tupleKind (mixKind X.prog X.w)) (ps := (L.zip ws).map fun z => (z.1.k, z.1.b, z.2))
    (PairArg.tuple a (L.map fun e => Value.ref e.p).toArray (fun j => (L[j]?.map (·.p)).getD 0) ((L.zip ws).map fun z => (Value.ref z.1.b, z.2)))
    (I.ok.hd hc) (by show X.A.units + 1 + 1 < cLine; omega) ⟨⟨o, n, ho, hcl, hd, hdat⟩, ?_, ?_⟩ ⟨by rw [List.length_map, List.length_map], ?_⟩ ?_ (by rw [List.length_map, lz]; exact hz) ?_
  · rw [List.size_toArray, List.length_map, List.length_map, lz]
  · intro j k v hj
    rw [List.getElem?_map] at hj
    cases e : (L.zip ws)[j]? with
    | none => rw [e] at hj; cases hj
    | some z =>
      rw [e] at hj
      cases hj
      obtain ⟨h1, h2⟩ := zat j z.1 z.2 e
      refine ⟨?_, ?_⟩
      · rw [List.getElem?_toArray, List.getElem?_map, h1]
        show _ = some (Value.ref ((L[j]?.map (·.p)).getD 0))
        rw [h1]
        rfl
      · show PairAt s.heap ((L[j]?.map (·.p)).getD 0) _ _
        rw [h1]
        exact isTup_pair (at_ j _ _ h1 h2)
  · intro i key v hi
    have hi : ((L.zip ws).map fun z => (Value.ref z.1.b, z.2))[i]? = some (key, v) := hi
    rw [List.getElem?_map] at hi
    cases e : (L.zip ws)[i]? with
    | none => rw [e] at hi; cases hi
    | some z =>
      rw [e] at hi
      cases hi
      exact ⟨z.1.k, z.1.b, by rw [List.getElem?_map, e]; rfl, rfl⟩
  · intro h' hk x hx
    obtain ⟨z, hz1, rfl⟩ := List.mem_map.mp hx
    obtain ⟨j, hj⟩ := List.getElem?_of_mem hz1
    obtain ⟨h1, _⟩ := zat j z.1 z.2 hj
    have h2 := (hL z.1 (List.mem_of_getElem? h1)).2
    obtain ⟨o', its', n', h3, h4, h5, h6⟩ := key_of I.hok h2
    exact ⟨o', its', n', hk _ _ (Nat.ne_of_lt (Heap.lt_size h3)) (by simp) h3, h4, h5, h6⟩
  · intro h' tk hd' hk
    have ek : ((L.zip ws).map fun z => (z.1.k, z.1.b, z.2)).map (·.1) = L.map (·.k) := by
      rw [List.map_map]
      show (L.zip ws).map (fun z => z.1.k) = _
      rw [show (fun z : It2 × Value => z.1.k) = (fun e : It2 => e.k) ∘ Prod.fst from rfl, ← List.map_map, List.map_fst_zip (by omega)]
    rw [storedAll_nodup _ _ (by rw [List.nil_append, ek]; exact nd), List.nil_append] at hd'
    obtain ⟨o2, es, ep, g1, g2, g3, g4, g5, g6⟩ := hd'
    have hb : H s.heap.objs.size = none := I.hok.fresh (Nat.le_refl _)
    have hm : (s.heap.objs.size == sysModules) = false := beq_eq_false_iff_ne.mpr (Nat.ne_of_gt I.big)
    refine ⟨.ref s.heap.objs.size, upd H s.heap.objs.size (.dT (L.map fun e => (e.k, e.v))), I.laid (t' := tk) (fun b o e => hk b o (by simp) e) (Nat.le_refl _) ⟨by rw [List.length_map]; exact hz, hm, _, ?_, o2, es, ep, g1, g2, g3, g4, g6⟩, rfl, q _ hb⟩
    have keep : ∀ {l : List (List Key × V)} {m : List (List Key × Addr × Value)}, KT H l m → Paired (fun (p : List Key × V) (q : List Key × Addr × Value) => p.1 = q.1 ∧ (upd H s.heap.objs.size (.dT (L.map fun e => (e.k, e.v)))) q.2.1 = some (.tup (p.1.map kV)) ∧ RelV p.2 q.2.2) l m := by
      intro l m q
      induction q with
      | nil => exact .nil
      | cons hq t ih => exact .cons ⟨hq.1, by rw [upd_ne (ne_of_none hq.2.1 hb)]; exact hq.2.1, hq.2.2⟩ ih
    exact keep kt
end
end Td

namespace K16
open PySem L2 Gd Ply
/-- a dict of the law: its sum p -/
structure PX (H : Hp) (D : Addr) (p : Po) : Prop where
  at_ : H D = some (.dT (dk p))
  nd : (ks p).Nodup
  few : p.length ≤ 300
  three : ∀ e ∈ p, e.1.length = 3
theorem PD.px {H : Hp} {D : Addr} {p : Po} {B C : Nat} (h : PD H D p B C) : PX H D p := ⟨h.at_, h.nd, by have := h.few; omega, h.three⟩
theorem PX.more {H H' : Hp} {D : Addr} {p : Po} (m : More H H') (h : PX H D p) : PX H' D p := ⟨m _ _ h.at_, h.nd, h.few, h.three⟩
def spTerms : Sp := fun vs H Q _ => ∃ (D : Addr) (p : Po), vs = [.ref D] ∧ PX H D p ∧ ∀ (t : Addr) (o : Obj) (L : List It3) (H' : Hp), H' t = some (.frz o (.tup (L.map fun e => V.ref e.p))) → o.dict = none → (∀ e ∈ L, H' e.p = some (.tup [.ref e.b, .int e.n]) ∧ H' e.b = some (.tup (e.k.map V.int))) → Canon (val p) (L.map fun e => (e.k, e.n)) → More H H' → Q (.ref t) H'
theorem keys_of : ∀ {p : Po} {H : Hp} {bs : List Addr}, IsKeys H (dk p) bs → ∃ bz : List (Addr × List Int), bz.map (·.1) = bs ∧ bz.map (·.2) = ks p ∧ ∀ b ∈ bz, H b.1 = some (.tup (b.2.map V.int))
  | [], _, _, h => by
    cases h
    exact ⟨[], rfl, rfl, fun _ h => nomatch h⟩
  | e :: p, H, _, h => by
    have h : Paired (fun (p : List Key × V) b => H b = some (.tup (p.1.map kV))) ((kI e.1, V.int e.2) :: dk p) _ := h
    cases h with
    | @cons _ b _ bs h1 t =>
      obtain ⟨bz, a1, a2, a3⟩ := keys_of t
      refine ⟨(b, e.1) :: bz, by rw [List.map_cons, a1], by rw [List.map_cons, a2]; rfl, fun x hx => ?_⟩
      rcases List.mem_cons.mp hx with rfl | hx
      · rw [kI_V] at h1
        exact h1
      · exact a3 x hx
section
variable {P : Program} {w : World} {K : PySem.W.Frag} {mg : Str → Option Value} {base : Heap}
variable {gT f C : Addr} {dT' fd : FuncData}
abbrev sTerms : Stmt := top 48
theorem scTerms : FnScope ["_law_poly_here", "_law_place"] ["_law_poly_here"] (defScope sTerms) := ⟨rfl, rfl, rfl, by decide +kernel, rfl, by decide +kernel, by decide +kernel⟩
theorem ok_terms (F : Fun K "_law_terms" "_law_terms" sTerms f fd) (B : Blt mg) (B2 : Blt2 mg) : FnOk P w K mg base CX0 1 f fd ["_law_poly_here"] spTerms := by
  refine F.ok scTerms (fun vs H Q E h => ?_) (fun cdv A outer s H vs Q E hr h => ?_)
  · obtain ⟨D, p, rfl, _⟩ := h
    rfl
  · obtain ⟨D, p, rfl, px, q⟩ := h
    have hu := hu_of hr
    have hu64 := hr.units
    refine ⟨_, pss_one (ps_ret (pe_callTy Td.call_tupF (by rfl) B.tup_ (by decide +kernel) (pa_cons (pe_lc (own := [("_law_place", 1)]) (g := gName 1) rfl scTerms.nd
        (pi_list (pe_callB (cr_sortTI hu64) (by rfl) B2.sorted_ (by decide +kernel) (pa_cons (pe_callTy (call_list_dT rfl) (by rfl) B.list_ (by decide +kernel) (pa_cons (pv 0) pa_nil)) pa_nil)))
        (blkOk_by (N := ["_law_poly_here", "_law_place"]) (sc := defScope sTerms) (by decide +kernel)) (fun _ _ _ _ _ => pg_name (i := 1) scTerms.nd rfl (Or.inl rfl))
        (fun _ _ _ _ _ => pts_one (pt_cmpR op_ne (pe_dget hu (pv 0) (pv 1) (fun _ _ => rfl)) pe_int (nomark _)))
        (fun _ _ _ _ _ => pe_tup (pa_cons (pv 1) (pa_cons (pe_dget hu (pv 0) (pv 1) (fun _ _ => rfl)) pa_nil)))) pa_nil))), ?_⟩
    obtain ⟨hD, nd, few, three⟩ := px
    refine ⟨_, rfl, D, _, rfl, .inl hD, fun L0 bs nL ik => ?_⟩
    obtain ⟨bz, b1, b2, b3⟩ := keys_of ik
    have er : bs.map V.ref = bz.map fun b => V.ref b.1 := by rw [← b1, List.map_map]; rfl
    have z3 : ∀ b ∈ bz, b.2.length = 3 ∧ b.2 ∈ ks p := fun b hb => by
      have m : b.2 ∈ ks p := by rw [← b2]; exact List.mem_map.mpr ⟨b, hb, rfl⟩
      obtain ⟨e, he, z⟩ := List.mem_map.mp m
      exact ⟨by rw [← z]; exact three e he, m⟩
    rw [er]
    refine ⟨L0, bz, rfl, SqL.of upd_same, fun b hb => ⟨SqT.of (by rw [upd_ne (ne_of_none (b3 b hb) nL)]; exact b3 b hb), fun z => by have := (z3 b hb).1; rw [z] at this; cases this⟩, fun L1 nL1 => ?_⟩
    have m1 : More H (upd (upd H L0 (.lst (bz.map fun b => V.ref b.1))) L1 (.lst ((bz.mergeSort leI).map fun b => V.ref b.1))) := (new_more nL).new nL1
    have e1 : (upd (upd H L0 (.lst (bz.map fun b => V.ref b.1))) L1 (.lst ((bz.mergeSort leI).map fun b => V.ref b.1))) L1 = some (.lst ((bz.mergeSort leI).map fun b => V.ref b.1)) := upd_same
    generalize upd (upd H L0 (.lst (bz.map fun b => V.ref b.1))) L1 (.lst ((bz.mergeSort leI).map fun b => V.ref b.1)) = H1 at m1 e1 ⊢
    have perm := List.mergeSort_perm bz leI
    have up : ((bz.mergeSort leI).map (·.2)).Pairwise (· ≤ ·) ∧ ((bz.mergeSort leI).map (·.2)).Nodup ∧ ∀ k, k ∈ (bz.mergeSort leI).map (·.2) ↔ k ∈ ks p := by
      have f := sort_form (f := fun k => if k ∈ ks p then 1 else 0) (bs := bz) (by rw [b2]; exact nd) (fun k => by rw [b2]; by_cases z : k ∈ ks p <;> simp [z])
      exact ⟨f.up, f.nd, fun k => (f.all k).trans (by by_cases z : k ∈ ks p <;> simp [z])⟩
    have sl : ∀ b ∈ bz.mergeSort leI, H1 b.1 = some (.tup (b.2.map V.int)) ∧ b.2 ∈ ks p := fun b hb => ⟨m1 _ _ (b3 b (perm.mem_iff.mp hb)), (z3 b (perm.mem_iff.mp hb)).2⟩
    have slen : (bz.mergeSort leI).length ≤ 300 := by
      rw [List.length_mergeSort]
      have := congrArg List.length b2
      unfold ks at this
      rw [List.length_map, List.length_map] at this
      omega
    generalize bz.mergeSort leI = sb at *
    refine ⟨L1, rfl, ⟨_, SqL.of e1⟩, fun D1 hD1 => lc_it (walk_list (xs := sb.map fun b => V.ref b.1)) (fun i H' => ∃ L : List It3, H' D1 = some (.lst (L.map fun e => V.ref e.p)) ∧
        (∀ e ∈ L, H' e.p = some (.tup [.ref e.b, .int e.n]) ∧ H' e.b = some (.tup (e.k.map V.int))) ∧ (L.map fun e => (e.k, e.n)) = (((sb.take i).map (·.2)).filter fun k => decide (val p k ≠ 0)).map (fun k => (k, val p k)) ∧ More H1 H')
      ⟨[], upd_same, (fun _ h => nomatch h), rfl, More.new (fun _ _ e => e) hD1⟩ (fun i H' _ ⟨_, _, _, _, m⟩ => SqL.of (m _ _ e1)) ?_ ?_⟩
    · rintro i x H6 H7 hi ⟨L, g1, g2, g3, g4⟩ ⟨rfl, hx⟩
      obtain ⟨b0, hb0, rfl⟩ : ∃ b0, sb[i]? = some b0 ∧ x = .ref b0.1 := by
        rw [List.getElem?_map] at hx
        cases z : sb[i]? with
        | none => rw [z] at hx; cases hx
        | some b0 => rw [z] at hx; exact ⟨b0, rfl, (Option.some.inj hx).symm⟩
      obtain ⟨q1, q3⟩ := sl b0 (List.mem_of_getElem? hb0)
      have dg : DGet H7 D (.ref b0.1) (some (.int (val p b0.2))) := by
        have z := DGet.t (k := kI b0.2) (g4 _ _ (m1 _ _ hD)) (by rw [kI_V]; exact g4 _ _ q1)
        rw [valS q3] at z
        exact z
      have tk : ((sb.take (i + 1)).map (·.2)) = (sb.take i).map (·.2) ++ [b0.2] := by rw [take_snoc hb0, List.map_append]; rfl
      refine ⟨rfl, _, rfl, _, rfl, D, _, rfl, dg, rfl, _, rfl, ?_⟩
      rw [show (!decide (V.int (val p b0.2) = V.int 0)) = decide (val p b0.2 ≠ 0) by rw [deI]; by_cases z : val p b0.2 = 0 <;> simp [z]]
      refine ite2 (fun z => ?_) (fun z => ?_)
      · refine ⟨_, rfl, _, rfl, _, rfl, D, _, rfl, dg, by show 2 ≤ sizeLine; decide, fun q nq => ?_⟩
        have nqD : D1 ≠ q := ne_of_none g1 nq
        have ll : L.length ≤ 300 := by
          have := congrArg List.length g3
          rw [List.length_map, List.length_map] at this
          have h2 := List.length_filter_le (fun k => decide (val p k ≠ 0)) ((sb.take i).map (·.2))
          rw [List.length_map, List.length_take] at h2
          omega
        refine ⟨_, by rw [upd_ne nqD]; exact g1, by rw [List.length_map]; exact small1000 (by omega), L ++ [⟨q, b0.1, b0.2, val p b0.2⟩], ?_, ?_, ?_, ?_⟩
        · rw [upd_same, List.map_append]; rfl
        · intro e he
          have off : ∀ c o, c ≠ D1 → H7 c = some o → (upd (upd H7 q (.tup [.ref b0.1, .int (val p b0.2)])) D1 (.lst ((L.map fun e => V.ref e.p) ++ [.ref q]))) c = some o := fun c o nc e => by
            rw [upd_ne nc, upd_ne (ne_of_none e nq)]; exact e
          rcases List.mem_append.mp he with he | he
          · obtain ⟨k1, k2⟩ := g2 e he
            exact ⟨off _ _ (ne_of k1 g1 (by intro z; cases z)) k1, off _ _ (ne_of k2 g1 (by intro z; cases z)) k2⟩
          · rw [List.mem_singleton] at he
            subst he
            refine ⟨?_, off _ _ (ne_of (g4 _ _ q1) g1 (by intro z; cases z)) (g4 _ _ q1)⟩
            show (upd (upd H7 q (.tup [.ref b0.1, .int (val p b0.2)])) D1 _) q = _
            rw [upd_ne nqD.symm, upd_same]
        · rw [List.map_append, g3, tk, List.filter_append, List.filter_cons_of_pos (p := fun k => decide (val p k ≠ 0)) z, List.map_append]; rfl
        · intro c o e
          have e' := g4 c o e
          rw [upd_ne (ne_of_none e hD1), upd_ne (ne_of_none e' nq)]
          exact e'
      · refine ⟨L, g1, g2, ?_, g4⟩
        rw [g3, tk, List.filter_append, List.filter_cons_of_neg (p := fun k => decide (val p k ≠ 0)) z, List.filter_nil, List.append_nil]
    · rintro H6 ⟨L, g1, g2, g3, g4⟩
      rw [List.length_map, List.take_length] at g3
      refine ⟨D1, _, rfl, SqL.of g1, fun t1 o1 nt1 od => ?_⟩
      refine q t1 o1 L _ upd_same od (fun e he => ?_) ?_ fun b o e => ?_
      · obtain ⟨k1, k2⟩ := g2 e he
        exact ⟨by rw [upd_ne (ne_of_none k1 nt1)]; exact k1, by rw [upd_ne (ne_of_none k2 nt1)]; exact k2⟩
      · rw [g3]
        refine ⟨_, ⟨List.Pairwise.filter _ up.1, List.Pairwise.filter _ up.2.1, fun k => ?_⟩, rfl⟩
        rw [List.mem_filter, decide_eq_true_eq, up.2.2]
        exact ⟨fun z => z.2, fun z => ⟨val_off z, z⟩⟩
      · have e' := g4 _ _ (m1 _ _ e)
        rw [upd_ne (ne_of_none e' nt1)]
        exact e'
end
end K16

namespace K16
open PySem L2 Gd Ply
abbrev big20 : Nat := 1000000000000000000000
def spSome : Sp := fun vs H Q _ => ∃ (d c : Addr) (n : Int), vs = [.ref d] ∧ Pen H d c n ∧ 0 ≤ n ∧ n < 700000000 ∧
  ∀ (D : Addr) (p : Po) (n' : Int) (H' : Hp), n ≤ n' → n' ≤ n + 300 → Pen H' d c n' → Off d H H' → PD H' D p big20 big20 → Q (.ref D) H'
/-- a display of one entry was made -/
theorem disp_one {H : Hp} {p t : Addr} {i j h v : Int} (np : H p = none) (nt : (upd H p (HO.dT [])) t = none) (hi : i.natAbs ≤ 10) (hj : j.natAbs ≤ 10) (hh : h.natAbs ≤ 10) (hv : v.natAbs ≤ 10) :
    (upd (upd H p (.dT [])) t (.tup [.int i, .int j, .int h])) p = some (HO.dT []) ∧ (∀ e ∈ [(⟨kI [i, j, h], t, .int v⟩ : Td.It1)], (upd (upd H p (HO.dT [])) t (.tup [.int i, .int j, .int h])) e.b = some (HO.tup (e.k.map kV))) ∧
      More H (upd (upd (upd H p (.dT [])) t (.tup [.int i, .int j, .int h])) p (.dT ([(⟨kI [i, j, h], t, .int v⟩ : Td.It1)].map fun e => (e.k, e.v)))) ∧
      PD (upd (upd (upd H p (.dT [])) t (.tup [.int i, .int j, .int h])) p (.dT ([(⟨kI [i, j, h], t, .int v⟩ : Td.It1)].map fun e => (e.k, e.v)))) p [([i, j, h], v)] 10 10 := by
  have npt : p ≠ t := fun z => by rw [z, upd_same] at nt; cases nt
  refine ⟨by rw [upd_ne npt, upd_same], fun e he => ?_, fun b o h => ?_, ⟨upd_same, by simp [ks], by show 1 ≤ 5; decide, fun e he => ?_, fun e he x hx => ?_, fun e he => ?_⟩⟩
  · rw [List.mem_singleton] at he
    subst he
    exact upd_same
  · have z := new_more (o := .dT []) np b o h
    rw [upd_ne (ne_of_none h np), upd_ne (ne_of_none z nt)]
    exact z
  · rw [List.mem_singleton] at he
    subst he
    rfl
  · rw [List.mem_singleton] at he
    subst he
    simp only [List.mem_cons, List.not_mem_nil, or_false] at hx
    obtain rfl | rfl | rfl := hx <;> assumption
  · rw [List.mem_singleton] at he
    subst he
    exact hv
theorem PD.more {H H' : Hp} {D : Addr} {p : Po} {B C B' C' : Nat} (m : H' D = H D) (hB : B ≤ B') (hC : C ≤ C') (h : PD H D p B C) : PD H' D p B' C' :=
  ⟨m.trans h.at_, h.nd, h.few, h.three, fun e he i hi => Nat.le_trans (h.exp e he i hi) hB, fun e he => Nat.le_trans (h.num e he) hC⟩
section
variable {P : Program} {w : World} {K : PySem.W.Frag} {mg : Str → Option Value} {base : Heap}
variable {g1 g2 g3 f : Addr} {d1 d2 d3 fd : FuncData}
abbrev sSome : Stmt := top 49
abbrev NSo : List Str := ["_law_pen_here", "_law_way", "_law_poly_here", "_law_big", "_law_found", "_law_place", "_law_row"]
theorem scSome : FnScope NSo ["_law_pen_here"] (defScope sSome) := ⟨rfl, rfl, rfl, by decide +kernel, rfl, by decide +kernel, by decide +kernel⟩
theorem ok_some (F : Fun K "_law_some_poly" "_law_some_poly" sSome f fd) (B : Blt mg) (B2 : Blt2 mg) (Dr : Cl K mg "_law_draw" sDraw ["_law_pen_here", "_law_many"] g1 d1) (Pi : Cl K mg "_law_pick" sPick ["_law_pen_here", "_law_some"] g2 d2)
    (Po' : Cl K mg "_law_poly" sPoly ["_law_pen_here", "_law_letters", "_law_reach", "_law_many"] g3 d3) : FnOk P w K mg base CX0 4 f fd ["_law_pen_here"] spSome := by
  have G1 : FnOk P w K mg base CX0 1 g1 d1 ["_law_pen_here", "_law_many"] spDraw := ok_draw Dr.fn B.int_ B.len_
  have G2 : FnOk P w K mg base CX0 2 g2 d2 ["_law_pen_here", "_law_some"] (spPick K) := ok_pick Pi.fn Dr.fn Dr.b Dr.g B.int_ B.len_
  have G3 : FnOk P w K mg base CX0 3 g3 d3 ["_law_pen_here", "_law_letters", "_law_reach", "_law_many"] spPoly := ok_poly Po'.fn B B2 Dr Pi
  refine F.ok scSome (fun vs H Q E h => ?_) (fun cdv A outer s H vs Q E hr h => ?_)
  · obtain ⟨d, c, n, rfl, _⟩ := h
    rfl
  · obtain ⟨d, c, n, rfl, pen, n0, n1, q⟩ := h
    have hu := hu_of hr
    have hu64 := hr.units
    have hu8 := Nat.lt_of_le_of_lt (Nat.add_le_add_left (show 8 ≤ 64 by decide) _) hu64
    have hr1 : Room 1 _ := hr.mono (by decide)
    have hr2 : Room 2 _ := hr.mono (by decide)
    refine ⟨_, pss_cons (ps_set (i := 1) scSome.nd rfl (Or.inl rfl) (pe_call G1 hr1 rfl Dr.g Dr.k Dr.b .nil pass0 (pa_cons (pv 0) (pa_cons pe_int pa_nil))))
      (pss_cons (ps_if (pt_cmpR op_eq (pv 1) pe_int (nomark _)) (pss_one (ps_ret (pe_call G2 hr2 rfl Pi.g Pi.k Pi.b .nil pass0 (pa_cons (pv 0) (pa_cons (pe_lst (pa_cons pe_dnewT
          (pa_cons (Td.pe_dispT hu8 (pps_cons (pe_tup (pa_cons pe_int (pa_cons pe_int (pa_cons pe_int pa_nil)))) pe_int pps_nil) rfl rfl (by simp) (by decide))
          (pa_cons (Td.pe_dispT hu8 (pps_cons (pe_tup (pa_cons pe_int (pa_cons pe_int (pa_cons pe_int pa_nil)))) (pe_un un_neg pe_int) pps_nil) rfl rfl (by simp) (by decide))
          (pa_cons (Td.pe_dispT hu8 (pps_cons (pe_tup (pa_cons (pe_un un_neg pe_int) (pa_cons pe_int (pa_cons pe_int pa_nil)))) pe_int pps_nil) rfl rfl (by simp) (by decide)) pa_nil))))) pa_nil))))) pss_nil)
      (pss_cons (ps_set (i := 2) scSome.nd rfl (Or.inl rfl) (pe_call G3 hr rfl Po'.g Po'.k Po'.b .nil pass0 (pa_cons (pv 0) (pa_cons (pe_op op_add pe_int (pe_call G1 hr1 rfl Dr.g Dr.k Dr.b .nil pass0 (pa_cons (pv 0) (pa_cons pe_int pa_nil))))
          (pa_cons (pe_call G2 hr2 rfl Pi.g Pi.k Pi.b .nil pass0 (pa_cons (pv 0) (pa_cons (pe_lst (pa_cons pe_int (pa_cons pe_int (pa_cons pe_int (pa_cons pe_int pa_nil))))) pa_nil))) (pa_cons pe_int pa_nil))))))
      (pss_cons (ps_if (pt_cmpR op_gt (pv 1) pe_int (nomark _)) (pss_one (ps_ret (pv 2))) pss_nil)
      (pss_cons (ps_set (i := 3) scSome.nd rfl (Or.inl rfl) (pe_op op_add (pe_op op_pow pe_int pe_int) (pe_call G1 hr1 rfl Dr.g Dr.k Dr.b .nil pass0 (pa_cons (pv 0) (pa_cons (pe_op op_pow pe_int pe_int) pa_nil)))))
      (pss_cons (ps_set (i := 4) scSome.nd rfl (Or.inl rfl) pe_dnewT)
      (Evl.pss_cut (ps_lock (ps_for PassesOwn.never rfl (pi_keys (pv 2)) (pg_name (i := 5) scSome.nd rfl (Or.inl rfl))
        (pss_cons (ps_set (i := 6) scSome.nd rfl (Or.inl rfl) (pe_tup (pa_cons (pe_ix ix_tup (pv 5) pe_int (fun _ _ => rfl)) (pa_cons (pe_op op_mul (pe_ix ix_tup (pv 5) pe_int (fun _ _ => rfl))
            (pe_call G2 hr2 rfl Pi.g Pi.k Pi.b .nil pass0 (pa_cons (pv 0) (pa_cons (pe_lst (pa_cons pe_int (pa_cons pe_int (pa_cons (pv 3) pa_nil)))) pa_nil)))) (pa_cons (pe_ix ix_tup (pv 5) pe_int (fun _ _ => rfl)) pa_nil)))))
        (pss_one (ps_dput hu (pv 4) (pv 6) (pe_op op_mul (pe_dget hu (pv 2) (pv 5) (fun _ _ => rfl)) (pe_call G2 hr2 rfl Pi.g Pi.k Pi.b .nil pass0 (pa_cons (pv 0) (pa_cons (pe_lst (pa_cons pe_int (pa_cons (pv 3) pa_nil))) pa_nil)))) rfl)))))
      (pss_one (ps_ret (pv 4))))))))), ?_⟩
    refine ⟨_, rfl, d, c, n, 6, rfl, pen, by decide, by decide, n0, by omega, fun way H1 w0 w1 dr1 => ?_⟩
    refine ⟨_, rfl, rfl, _, rfl, ite2 (fun _ => ?_) (fun _ => ?_)⟩
    · refine ⟨_, rfl, fun p0 np0 => ?_⟩
      have b0 : PD (upd H1 p0 (.dT [])) p0 [] 10 10 := ⟨upd_same, List.nodup_nil, Nat.zero_le _, (fun _ h => nomatch h), (fun _ h => nomatch h), (fun _ h => nomatch h)⟩
      have m0 : More H1 (upd H1 p0 (.dT [])) := new_more np0
      generalize upd H1 p0 (HO.dT []) = J0 at b0 m0 ⊢
      refine fun p1 np1 => ⟨by show 3 ≤ sizeLine; decide, fun t1 nt1 => ?_⟩
      obtain ⟨x1, y1, m1, b1⟩ := disp_one (i := 0) (j := 0) (h := 0) (v := 1) np1 nt1 (by decide) (by decide) (by decide) (by decide)
      refine ⟨x1, [⟨kI [0, 0, 0], t1, .int 1⟩], rfl, by show 1 ≤ 15; decide, y1, by simp, ?_⟩
      generalize upd (upd (upd J0 p1 (.dT [])) t1 (.tup [.int 0, .int 0, .int 0])) p1 (.dT ([(⟨kI [0, 0, 0], t1, .int 1⟩ : Td.It1)].map fun e => (e.k, e.v))) = J1 at b1 m1 ⊢
      refine fun p2 np2 => ⟨by show 3 ≤ sizeLine; decide, fun t2 nt2 => ?_⟩
      obtain ⟨x2, y2, m2, b2⟩ := disp_one (i := 0) (j := 0) (h := 0) (v := -7) np2 nt2 (by decide) (by decide) (by decide) (by decide)
      refine ⟨7, rfl, x2, [⟨kI [0, 0, 0], t2, .int (-7)⟩], rfl, by show 1 ≤ 15; decide, y2, by simp, ?_⟩
      generalize upd (upd (upd J1 p2 (.dT [])) t2 (.tup [.int 0, .int 0, .int 0])) p2 (.dT ([(⟨kI [0, 0, 0], t2, .int (-7)⟩ : Td.It1)].map fun e => (e.k, e.v))) = J2 at b2 m2 ⊢
      refine fun p3 np3 => ⟨1, rfl, by show 3 ≤ sizeLine; decide, fun t3 nt3 => ?_⟩
      obtain ⟨x3, y3, m3, b3⟩ := disp_one (i := -1) (j := 0) (h := 2) (v := 1) np3 nt3 (by decide) (by decide) (by decide) (by decide)
      refine ⟨x3, [⟨kI [-1, 0, 2], t3, .int 1⟩], rfl, by show 1 ≤ 15; decide, y3, by simp, ?_⟩
      generalize upd (upd (upd J2 p3 (.dT [])) t3 (.tup [.int (-1), .int 0, .int 2])) p3 (.dT ([(⟨kI [-1, 0, 2], t3, .int 1⟩ : Td.It1)].map fun e => (e.k, e.v))) = J3 at b3 m3 ⊢
      refine ⟨by show 4 ≤ sizeLine; decide, fun u nu => ?_⟩
      have mA : More H1 J3 := fun b o e => m3 b o (m2 b o (m1 b o (m0 b o e)))
      have penA : Pen J3 d c (n + 1) := by
        obtain ⟨o1, h1⟩ := dr1.pen.at
        obtain ⟨o2, h2⟩ := dr1.pen.atc
        exact dr1.pen.keep ((mA _ _ h1).trans h1.symm) ((mA _ _ h2).trans h2.symm)
      refine ⟨d, c, u, n + 1, [.ref p0, .ref p1, .ref p2, .ref p3], rfl, penA.upd nu, upd_same, by show 0 < 4; decide, by show 4 ≤ 1000; decide, by omega, by omega, fun x H5 hx dr => ?_⟩
      have fin : ∀ (D : Addr) (p : Po), PD J3 D p 10 10 → x = .ref D → Q x H5 := by
        intro D p pd ex
        subst ex
        have nDd : D ≠ d := fun z => by
          obtain ⟨kvs, cs, _, _, _, h1, _⟩ := penA
          have := pd.at_
          rw [z, h1] at this
          cases this
        refine q D p (n + 1 + 1) H5 (by omega) (by omega) dr.pen (fun b o e nb => ?_) (pd.more (by rw [dr.off D nDd, upd_ne (ne_of_none pd.at_ nu)]) (by decide) (by decide))
        have z := mA _ _ ((dr1.off b nb).trans e)
        rw [dr.off b nb, upd_ne (ne_of_none z nu)]
        exact z
      have up1 : ∀ {D p}, PD J0 D p 10 10 → PD J1 D p 10 10 := fun h => h.more ((m1 _ _ h.at_).trans h.at_.symm) (Nat.le_refl _) (Nat.le_refl _)
      have up2 : ∀ {D p}, PD J1 D p 10 10 → PD J2 D p 10 10 := fun h => h.more ((m2 _ _ h.at_).trans h.at_.symm) (Nat.le_refl _) (Nat.le_refl _)
      have up3 : ∀ {D p}, PD J2 D p 10 10 → PD J3 D p 10 10 := fun h => h.more ((m3 _ _ h.at_).trans h.at_.symm) (Nat.le_refl _) (Nat.le_refl _)
      rcases List.mem_cons.mp hx with z | hx
      · exact fin p0 _ (up3 (up2 (up1 b0))) z
      rcases List.mem_cons.mp hx with z | hx
      · exact fin p1 _ (up3 (up2 b1)) z
      rcases List.mem_cons.mp hx with z | hx
      · exact fin p2 _ (up3 b2) z
      rw [List.mem_singleton] at hx
      exact fin p3 _ b3 hx
    · refine ⟨_, rfl, _, rfl, d, c, n + 1, 3, rfl, dr1.pen, by decide, by decide, by omega, by omega, fun l0 H2 l0' l1' dr2 => ⟨1, l0, rfl, rfl, ?_⟩⟩
      refine ⟨_, rfl, by show 4 ≤ sizeLine; decide, fun u nu => ?_⟩
      refine ⟨d, c, u, n + 1 + 1, [.int 1, .int 2, .int 4, .int 9], rfl, dr2.pen.upd nu, upd_same, by show 0 < 4; decide, by show 4 ≤ 1000; decide, by omega, by omega, fun x H3 hx dr3 => ?_⟩
      obtain ⟨r, rfl, r1, r9⟩ : ∃ r : Int, x = .int r ∧ 1 ≤ r ∧ r ≤ 9 := by
        rcases List.mem_cons.mp hx with rfl | hx
        · exact ⟨_, rfl, by decide, by decide⟩
        rcases List.mem_cons.mp hx with rfl | hx
        · exact ⟨_, rfl, by decide, by decide⟩
        rcases List.mem_cons.mp hx with rfl | hx
        · exact ⟨_, rfl, by decide, by decide⟩
        rw [List.mem_singleton] at hx
        exact ⟨_, hx, by decide, by decide⟩
      refine ⟨d, c, n + 1 + 1 + 1, 1 + l0, r, 5, rfl, dr3.pen, by omega, by omega, r1, r9, by decide, by decide, fun D p n2 H4 c1 c2 pn of4 hD0 pd => ?_⟩
      have of : Off d H H4 := (Off.dr dr1).trans ((Off.dr dr2).trans ((Off.of (new_more nu)).trans ((Off.dr dr3).trans of4)))
      refine ⟨_, rfl, _, _, rfl, rfl, _, rfl, ite2 (fun _ => ⟨_, rfl, q D p n2 H4 (by omega) (by omega) pn of (pd.more rfl (by decide) (by decide))⟩) (fun _ => ?_)⟩
      refine ⟨10, 18, rfl, rfl, ⟨by decide, by decide, by decide⟩, _, rfl, 10, 9, rfl, rfl, ⟨by decide, by decide, by decide⟩, d, c, n2, _, rfl, pn, by decide, by decide, by omega, by omega, fun y H5 y0 y1 dr5 => ?_⟩
      refine ⟨_, y, rfl, rfl, ?_⟩
      have hB : ((10 : Int) ^ (18 : Int).toNat + y).natAbs ≤ 2000000000000000000 := by
        have e1 : (10 : Int) ^ (18 : Int).toNat = 1000000000000000000 := by decide
        have e2 : (10 : Int) ^ (9 : Int).toNat = 1000000000 := by decide
        rw [e2] at y1
        rw [e1]
        omega
      obtain ⟨Bg, eB⟩ : ∃ Bg : Int, Bg = (10 : Int) ^ (18 : Int).toNat + y := ⟨_, rfl⟩
      rw [← eB] at hB
      intro F0 hF
      have ndD : d ≠ D := by
        obtain ⟨kvs, cs, _, _, _, h1, _⟩ := pn
        exact ne_of h1 pd.at_ (by intro z; cases z)
      have ncD : c ≠ D := by
        obtain ⟨kvs, cs, _, _, _, _, h1, _⟩ := pn
        exact ne_of h1 pd.at_ (by intro z; cases z)
      have D5 : H5 D = some (.dT (dk p)) := (dr5.off D ndD.symm).trans pd.at_
      have nFD : F0 ≠ D := fun z => by rw [z, D5] at hF; cases hF
      have nFd : F0 ≠ d := fun z => by obtain ⟨o, ho⟩ := dr5.pen.at; rw [z, ho] at hF; cases hF
      have nFc : F0 ≠ c := fun z => by obtain ⟨o, ho⟩ := dr5.pen.atc; rw [z, ho] at hF; cases hF
      refine ⟨fun σ' H' => ∃ z5 z6 p2 n', σ' = [some (.ref d), some (.int way), some (.ref D), some (.int Bg), some (.ref F0), z5, z6] ∧ PD H' F0 p2 big20 big20 ∧ Pen H' d c n' ∧ n2 ≤ n' ∧ n' ≤ n2 + 1 + 10 ∧ Off d H4 H', ?_, ?_⟩
      · refine ⟨D, .dT (dk p), by rw [upd_ne nFD.symm]; exact D5, trivial, fun od => ⟨_, rfl, D, od, rfl, .inr ⟨_, upd_same, for_it (walk_keysT (kvs := dk p)) (fun i σ' H' => ∃ z5 z6 p2 n', σ' = [some (.ref d), some (.int way), some (.ref D), some (.int Bg), some (.ref F0), z5, z6] ∧
            H' F0 = some (.dT (dk p2)) ∧ (ks p2).Nodup ∧ p2.length ≤ i ∧ (∀ e ∈ p2, e.1.length = 3) ∧ (∀ e ∈ p2, ∀ i ∈ e.1, i.natAbs ≤ big20) ∧ (∀ e ∈ p2, e.2.natAbs ≤ big20) ∧ H' D = some (.frz od (.dT (dk p))) ∧ Pen H' d c n' ∧ n2 ≤ n' ∧ n' ≤ n2 + 1 + 2 * (i : Int) ∧
            (∀ b o, H4 b = some o → b ≠ d → b ≠ D → H' b = some o)) ⟨none, none, [], n2 + 1, (by rw [eB]; rfl), by rw [upd_ne nFD, upd_same]; rfl, List.nodup_nil, Nat.le_refl _, (fun _ h => nomatch h), (fun _ h => nomatch h), (fun _ h => nomatch h), upd_same, (dr5.pen.upd hF).keep (upd_ne ndD) (upd_ne ncD), by omega, by omega, ?_⟩ ?_ ?_ ?_⟩⟩⟩
        · intro b o e nb nD
          have z := (dr5.off b nb).trans e
          rw [upd_ne nD, upd_ne (ne_of_none z hF)]
          exact z
        · exact fun i σ' H' _ ⟨_, _, _, _, _, _, _, _, _, _, _, h, _⟩ => h
        · rintro i x σ2 J3 J4 hi ⟨z5, z6, p2, n3, rfl, e1, e2, e3, e4, e5, e6, e7, pn3, b1, b2, of3⟩ ⟨rfl, k, v, b, hk, rfl, hb⟩
          obtain ⟨e, he, rfl, rfl⟩ : ∃ e, p[i]? = some e ∧ k = kI e.1 ∧ v = .int e.2 := by
            unfold dk at hk
            rw [List.getElem?_map] at hk
            cases z : p[i]? with
            | none => rw [z] at hk; cases hk
            | some e =>
              rw [z] at hk
              cases hk
              exact ⟨e, rfl, rfl, rfl⟩
          have hi : i < p.length := (List.getElem?_eq_some_iff.mp he).1
          have fewp := pd.few
          have mem : e ∈ p := List.mem_of_getElem? he
          have l3 := pd.three e mem
          have ex := pd.exp e mem
          have nm := pd.num e mem
          have vat := val_at pd.nd mem
          have kin : e.1 ∈ ks p := List.mem_map.mpr ⟨e, mem, rfl⟩
          obtain ⟨k3, v3⟩ := e
          match k3, l3 with
          | [x0, x1, x2], _ =>
          rw [kI_V] at hb
          have hb : J4 b = some (.tup [.int x0, .int x1, .int x2]) := hb
          have dg : ∀ J5, J5 D = some (.frz od (.dT (dk p))) → J5 b = some (.tup [.int x0, .int x1, .int x2]) → DGet J5 D (.ref b) (some (.int v3)) := fun J5 h1 h2 =>
            .inr ⟨dk p, kI [x0, x1, x2], b, .inr ⟨od, h1⟩, rfl, h2, by rw [valS kin, vat]⟩
          have hx1 : x1.natAbs ≤ 9 := ex x1 (by simp)
          have hx0 : x0.natAbs ≤ 9 := ex x0 (by simp)
          have hx2 : x2.natAbs ≤ 9 := ex x2 (by simp)
          have nm : v3.natAbs ≤ 100 := nm
          have nbd : b ≠ d := fun z => by
            obtain ⟨kvs, cs, _, _, _, h1, _⟩ := pn3
            rw [← z, hb] at h1
            cases h1
          refine ⟨_, rfl, b, _, 0, _, rfl, rfl, SqT.of hb, at_of (j := 0) rfl rfl, _, rfl, b, _, 1, _, rfl, rfl, SqT.of hb, at_of (j := 1) rfl rfl, _, rfl, _, rfl, by show 3 ≤ sizeLine; decide, fun u1 nu1 => ?_⟩
          refine ⟨d, c, u1, n3, [.int 1, .int 1, .int Bg], rfl, pn3.upd nu1, upd_same, by show 0 < 3; decide, by show 3 ≤ 1000; decide, by omega, by omega, fun y J5 hy dr6 => ?_⟩
          obtain ⟨g, rfl, hg⟩ : ∃ g : Int, y = .int g ∧ g.natAbs ≤ 2000000000000000000 := by
            rcases List.mem_cons.mp hy with rfl | hy
            · exact ⟨_, rfl, by decide⟩
            rcases List.mem_cons.mp hy with rfl | hy
            · exact ⟨_, rfl, by decide⟩
            rw [List.mem_singleton] at hy
            exact ⟨_, hy, hB⟩
          have off5 : ∀ c o, c ≠ d → J4 c = some o → J5 c = some o := fun c o nc h => by
            rw [dr6.off c nc, upd_ne (ne_of_none h nu1)]
            exact h
          have b5 := off5 _ _ nbd hb
          refine ⟨_, _, rfl, rfl, .inl ⟨by omega, by omega⟩, _, rfl, b, _, 2, _, rfl, rfl, SqT.of b5, at_of (j := 2) rfl rfl, by show 3 ≤ sizeLine; decide, fun t nt => ?_⟩
          have t5 : (upd J5 t (.tup [.int x0, .int (x1 * g), .int x2])) t = some (.tup [.int x0, .int (x1 * g), .int x2]) := upd_same
          have off6 : ∀ c o, c ≠ d → J4 c = some o → (upd J5 t (.tup [.int x0, .int (x1 * g), .int x2])) c = some o := fun c o nc h => by
            have z := off5 c o nc h
            rw [upd_ne (ne_of_none z nt)]
            exact z
          have pen6 := dr6.pen.upd (o := .tup [.int x0, .int (x1 * g), .int x2]) nt
          generalize upd J5 t (HO.tup [.int x0, .int (x1 * g), .int x2]) = J6 at t5 off6 pen6 ⊢
          refine ⟨_, rfl, _, rfl, D, _, rfl, dg J6 (off6 _ _ ndD.symm e7) (off6 _ _ nbd hb), _, rfl, _, rfl, by show 2 ≤ sizeLine; decide, fun u2 nu2 => ?_⟩
          refine ⟨d, c, u2, n3 + 1, [.int 1, .int Bg], rfl, pen6.upd nu2, upd_same, by show 0 < 2; decide, by show 2 ≤ 1000; decide, by omega, by omega, fun y J7 hy dr7 => ?_⟩
          obtain ⟨g2, rfl, hg2⟩ : ∃ g : Int, y = .int g ∧ g.natAbs ≤ 2000000000000000000 := by
            rcases List.mem_cons.mp hy with rfl | hy
            · exact ⟨_, rfl, by decide⟩
            rw [List.mem_singleton] at hy
            exact ⟨_, hy, hB⟩
          have off7 : ∀ c o, c ≠ d → J6 c = some o → J7 c = some o := fun c o nc h => by
            rw [dr7.off c nc, upd_ne (ne_of_none h nu2)]
            exact h
          have td : t ≠ d := fun z => by
            obtain ⟨kvs, cs, _, _, _, h1, _⟩ := pen6
            rw [← z, t5] at h1
            cases h1
          have F7 := off7 _ _ nFd (off6 _ _ nFd e1)
          have key : J7 t = some (.tup ((kI [x0, x1 * g, x2]).map kV)) := off7 _ _ td t5
          refine ⟨_, _, rfl, rfl, .inl ⟨by omega, by omega⟩, _, rfl, _, rfl, F0, _, rfl, DPut.t F7 key (by rw [dk_len]; exact small1000 (by omega)), ?_⟩
          rw [putK_dk]
          have mg : (x1 * g).natAbs ≤ big20 := by
            rw [Int.natAbs_mul]
            exact Nat.le_trans (Nat.mul_le_mul hx1 hg) (by decide)
          have mg2 : (v3 * g2).natAbs ≤ big20 := by
            rw [Int.natAbs_mul]
            exact Nat.le_trans (Nat.mul_le_mul nm hg2) (by decide)
          refine ⟨_, _, _, n3 + 1 + 1, rfl, upd_same, nodup_put e2 _ _, Nat.le_trans (len_put _ _ _) (by omega), fun e' he' => ?_, fun e' he' => ?_, fun e' he' => ?_, by rw [upd_ne nFD.symm]; exact off7 _ _ ndD.symm (off6 _ _ ndD.symm e7), dr7.pen.keep (upd_ne nFd.symm) (upd_ne nFc.symm), by omega, by omega, fun b' o eb nb nD => ?_⟩
          · rcases mem_put he' with rfl | he'
            · rfl
            · exact e4 e' he'
          · rcases mem_put he' with rfl | he'
            · intro i hi
              have hi : i ∈ [x0, x1 * g, x2] := hi
              simp only [List.mem_cons, List.not_mem_nil, or_false] at hi
              obtain rfl | rfl | rfl := hi
              · exact Nat.le_trans hx0 (by decide)
              · exact mg
              · exact Nat.le_trans hx2 (by decide)
            · exact e5 e' he'
          · rcases mem_put he' with rfl | he'
            · exact mg2
            · exact e6 e' he'
          · have z := (dr5.off b' nb).trans eb
            rw [upd_ne (ne_of_none z hF)]
            exact off7 _ _ nb (off6 _ _ nb (of3 b' o eb nb nD))
        · rintro σ2 J3 ⟨z5, z6, p2, n3, rfl, e1, e2, e3, e4, e5, e6, e7, pn3, b1, b2, of3⟩
          rw [dk_len] at e3 b2
          have fewp := pd.few
          refine ⟨e7, z5, z6, p2, n3, rfl, ⟨by rw [upd_ne nFD]; exact e1, e2, by omega, e4, e5, e6⟩, pn3.keep (upd_ne ndD) (upd_ne ncD), b1, by omega, fun b o h nb => ?_⟩
          by_cases z : b = D
          · subst z
            rw [upd_same, ← pd.at_]
            exact h
          · rw [upd_ne z]
            exact of3 b o h nb z
      · rintro σ2 J3 ⟨z5, z6, p2, n3, rfl, pd2, pn3, b1, b2, of3⟩
        exact ⟨_, rfl, q F0 p2 n3 J3 (by omega) (by omega) pn3 (of.trans of3) pd2⟩
end
end K16

namespace K16
open PySem L2 Gd Ply
/-! ### what reading a text means -/
def skp : List Nat → List Nat
  | [] => []
  | c :: r => if c = 32 then skp r else c :: r
theorem skp_len : ∀ R, (skp R).length ≤ R.length
  | [] => Nat.le_refl _
  | c :: r => by
    unfold skp
    split
    · have := skp_len r
      rw [List.length_cons]
      omega
    · exact Nat.le_refl _
theorem skp_ne {c : Nat} {r : List Nat} (h : c ≠ 32) : skp (c :: r) = c :: r := by
  unfold skp
  rw [if_neg h]
theorem skp_sp (r : List Nat) : skp (32 :: r) = skp r := by
  conv => lhs; unfold skp
  rw [if_pos rfl]
theorem skp_head : ∀ R c r, skp R = c :: r → c ≠ 32
  | [], _, _, h => nomatch h
  | d :: l, c, r, h => by
    unfold skp at h
    split at h
    · exact skp_head l c r h
    · rename_i n
      cases h
      exact n
theorem skp_skp (R : List Nat) : skp (skp R) = skp R := by
  cases e : skp R with
  | nil => rfl
  | cons c r => exact skp_ne (skp_head R c r e)
theorem skp_gap (k : Nat) (R : List Nat) : skp (List.replicate k 32 ++ R) = skp R := by
  induction k with
  | zero => rfl
  | succ k ih => rw [List.replicate_succ, List.cons_append, skp_sp, ih]
theorem skp_drop : ∀ R : List Nat, ∃ k, k ≤ R.length ∧ skp R = R.drop k ∧ R.take k = List.replicate k 32
  | [] => ⟨0, Nat.le_refl _, rfl, rfl⟩
  | c :: r => by
    by_cases h : c = 32
    · subst h
      obtain ⟨k, a, b, d⟩ := skp_drop r
      refine ⟨k + 1, by rw [List.length_cons]; omega, by rw [skp_sp, b]; rfl, ?_⟩
      rw [List.take_succ_cons, d, List.replicate_succ]
    · exact ⟨0, Nat.zero_le _, skp_ne h, rfl⟩
def isDg (c : Nat) : Bool := decide (48 ≤ c ∧ c ≤ 57)
def hdDg : List Nat → Bool
  | [] => false
  | c :: _ => isDg c
def Fig (R : List Nat) (n : Nat) (R' : List Nat) : Prop := skp R = TL.numL n ++ R' ∧ hdDg R' = false
def No (c : Nat) (R : List Nat) : Prop := ∀ r, R ≠ c :: r
def RExp (R : List Nat) (e : Int) (R' : List Nat) : Prop :=
  (No 94 (skp R) ∧ e = 1 ∧ R' = skp R) ∨
  ∃ R1, skp R = 94 :: R1 ∧ ((∃ R2 n, skp R1 = 45 :: R2 ∧ Fig R2 n R' ∧ n < 10 ^ 50 ∧ e = -(n : Int)) ∨ (No 45 (skp R1) ∧ ∃ n : Nat, Fig (skp R1) n R' ∧ n < 10 ^ 50 ∧ e = (n : Int)))
inductive Eff where
  | lt (at_ : Nat) (e : Int)
  | num (n : Nat)
def Step (R : List Nat) : Eff → List Nat → Prop
  | .lt a e, R' => a < 3 ∧ ∃ R1, skp R = (120 + a) :: R1 ∧ RExp R1 e R'
  | .num n, R' => n < 10 ^ 50 ∧ Fig R n R'
inductive Facs : List Nat → List Eff → List Nat → Prop
  | last {R R1 f} : Step R f R1 → No 42 (skp R1) → Facs R [f] (skp R1)
  | more {R R1 R2 f fs R'} : Step R f R1 → skp R1 = 42 :: R2 → Facs R2 fs R' → Facs R (f :: fs) R'
/-- what a factor does to the exponents and the number -/
def run1 (s : List Int × Int) : Eff → List Int × Int
  | .lt a e => (s.1.set a (s.1.getD a 0 + e), s.2)
  | .num n => (s.1, s.2 * n)
def run (fs : List Eff) (s : List Int × Int) : List Int × Int := fs.foldl run1 s
inductive Rest : List Nat → List (Int × List Eff) → List Nat → Prop
  | nil {R} : No 43 (skp R) → No 45 (skp R) → Rest R [] (skp R)
  | plus {R R1 R2 fs its R'} : skp R = 43 :: R1 → Facs R1 fs R2 → Rest R2 its R' → Rest R ((1, fs) :: its) R'
  | minus {R R1 R2 fs its R'} : skp R = 45 :: R1 → Facs R1 fs R2 → Rest R2 its R' → Rest R ((-1, fs) :: its) R'
def Pows (R : List Nat) (its : List (Int × List Eff)) (R' : List Nat) : Prop :=
  (∃ R1 R2 fs its', skp R = 45 :: R1 ∧ Facs R1 fs R2 ∧ Rest R2 its' R' ∧ its = (-1, fs) :: its') ∨
  (∃ R2 fs its', No 45 (skp R) ∧ Facs (skp R) fs R2 ∧ Rest R2 its' R' ∧ its = (1, fs) :: its')
def termOf (it : Int × List Eff) : List Int × Int := run it.2 ([0, 0, 0], it.1)
/-! ### digits of a number -/
theorem numL_head : ∀ n : Nat, 0 < n → ∃ c r, TL.numL n = c :: r ∧ c ≠ 48 := by
  intro n
  induction n using Nat.strongRecOn with
  | _ n ih =>
    intro h
    by_cases l : n < 10
    · exact ⟨48 + n, [], TL.numL_lt l, by omega⟩
    · obtain ⟨c, r, e, d⟩ := ih (n / 10) (by omega) (by omega)
      exact ⟨c, r ++ [48 + n % 10], by rw [TL.numL_step (by omega), e]; rfl, d⟩
theorem numL_zero : TL.numL 0 = [48] := TL.numL_lt (by decide)
theorem numL_dg {n c : Nat} (h : c ∈ TL.numL n) : isDg c = true := decide_eq_true (by have := TL.numL_digits n c h; omega)
theorem numL_few {n : Nat} (h : n < 10 ^ 50) : (TL.numL n).length ≤ 50 := TL.numL_len (by decide) h
/-! ### parts of a text -/
theorem sIx_at (n d i : Nat) (h : i ≤ n) : HT.sIx n d (some (i : Int)) = i := by
  unfold HT.sIx
  simp only
  split <;> omega
theorem sIx_up (n d i : Nat) : HT.sIx n d (some ((i : Int) + 1)) = min (i + 1) n := by
  unfold HT.sIx
  simp only
  split <;> omega
theorem cut_one (T : List Nat) (i : Nat) (h : i ≤ T.length) : cutS (SX.S T) (some (i : Int)) (some ((i : Int) + 1)) = SX.S ((T.drop i).take 1) := by
  unfold cutS
  rw [SX.S_len T, sIx_at _ _ _ h, sIx_up]
  show SX.S ((T.drop i).take (min (i + 1) T.length - i)) = _
  have : (T.drop i).take (min (i + 1) T.length - i) = (T.drop i).take 1 := by
    by_cases z : i = T.length
    · subst z
      rw [List.drop_length, List.take_nil, List.take_nil]
    · rw [show min (i + 1) T.length - i = 1 by omega]
  rw [this]
theorem cut_run (T : List Nat) (i j : Nat) (h : i ≤ j) (hj : j ≤ T.length) : cutS (SX.S T) (some (i : Int)) (some (j : Int)) = SX.S ((T.drop i).take (j - i)) := by
  unfold cutS
  rw [SX.S_len T, sIx_at _ _ _ (Nat.le_trans h hj), sIx_at _ _ _ hj]
end K16

namespace K16
open PySem L2 Gd Ply
/-! ### the law's states of reading -/
/-- the states in which a text may end -/
def fin (q : Nat) : Bool := q == 78 || q == 90 || q == 76 || q == 88 || q == 79 || q == 65
def sp (q : Nat) : Nat := if q = 78 ∨ q = 90 ∨ q = 88 ∨ q = 79 then 65 else q
/-- a state and a sign: the next state, 0 if there is none -/
def nx (q c : Nat) : Nat :=
  if c = 32 then sp q
  else if 48 ≤ c ∧ c ≤ 57 then
    if q = 78 ∨ q = 88 then q else if q = 83 ∨ q = 70 then (if c = 48 then 90 else 78) else if q = 69 ∨ q = 77 then (if c = 48 then 79 else 88) else 0
  else if 120 ≤ c ∧ c ≤ 122 then (if q = 83 ∨ q = 70 then 76 else 0)
  else if c = 94 then (if q = 76 then 69 else 0)
  else if c = 45 ∧ (q = 83 ∨ q = 69) then (if q = 83 then 70 else 77)
  else if (c = 42 ∨ c = 43 ∨ c = 45) ∧ fin q = true then 70 else 0
/-- the column, 0 if there is none -/
def col : Nat → List Nat → Nat → Nat
  | q, [], i => if fin q then 0 else i + 1
  | q, c :: r, i => if nx q c = 0 then i + 1 else col (nx q c) r (i + 1)
theorem sp_sp (q : Nat) : sp (sp q) = sp q := by
  unfold sp
  split <;> rfl
theorem sp_ne {q : Nat} (h : q ≠ 0) : sp q ≠ 0 := by
  unfold sp
  split
  · decide
  · exact h
theorem nx_sp (q : Nat) : nx q 32 = sp q := by unfold nx; rw [if_pos rfl]
theorem col_sp {q : Nat} (h : q ≠ 0) (r : List Nat) (i : Nat) : col q (32 :: r) i = col (sp q) r (i + 1) := by
  show (if nx q 32 = 0 then _ else col (nx q 32) r (i + 1)) = _
  rw [nx_sp, if_neg (sp_ne h)]
/-- spaces are read -/
theorem col_skp : ∀ (R : List Nat) (q i : Nat), q ≠ 0 → (skp R = R ∧ True) ∨ (col q R i = col (sp q) (skp R) (i + (R.length - (skp R).length)) ∧ (skp R).length < R.length)
  | [], _, _, _ => .inl ⟨rfl, trivial⟩
  | c :: r, q, i, hq => by
    by_cases h : c = 32
    · subst h
      rw [skp_sp]
      have l := skp_len r
      refine .inr ⟨?_, by rw [List.length_cons]; omega⟩
      rw [col_sp hq]
      obtain ⟨e, _⟩ | ⟨e, l2⟩ := col_skp r (sp q) (i + 1) (sp_ne hq)
      · rw [e, List.length_cons]
        congr 1
        omega
      · rw [e, sp_sp, List.length_cons]
        congr 1
        omega
    · exact .inl ⟨skp_ne h, trivial⟩
theorem fin_ne {q : Nat} (h : fin q = true) : q ≠ 0 := by rintro rfl; cases h
theorem fin_cases {q : Nat} (h : fin q = true) : q = 78 ∨ q = 90 ∨ q = 76 ∨ q = 88 ∨ q = 79 ∨ q = 65 := by
  unfold fin at h
  simp only [Bool.or_eq_true, beq_iff_eq] at h
  omega
theorem fin_sp {q : Nat} (h : fin q = true) : fin (sp q) = true := by
  obtain rfl | rfl | rfl | rfl | rfl | rfl := fin_cases h <;> decide
/-- the sign that stands next is wrong -/
def Wrong (q : Nat) : List Nat → Prop
  | [] => fin q = false
  | c :: _ => nx q c = 0
theorem wrong_col {q : Nat} {R : List Nat} {i : Nat} (h : Wrong q R) : col q R i = i + 1 := by
  cases R with
  | nil =>
    have h : fin q = false := h
    show (if fin q then _ else _) = _
    rw [h]
    rfl
  | cons c r =>
    have h : nx q c = 0 := h
    show (if nx q c = 0 then _ else _) = _
    rw [if_pos h]
end K16

/-! Fd: defs of the text whose last parameters have defaults. -/
namespace Gd
open PySem PySem.Spec PyProof.Rows L2
/-- a def of the text with the defaults dvs -/
structure FunE (K : PySem.W.Frag) (x qual : Str) (st : Stmt) (dvs : List V) (f : Addr) (fd : FuncData) : Prop where
  fn : FunD K x qual (defArgs st) (defBody st) (defScope st) dvs [] f fd
section
variable {P : Program} {w : World} {K : PySem.W.Frag} {mg : Str → Option Value} {base : Heap} {x qual : Str} {st : Stmt} {dvs : List V} {f : Addr} {fd : FuncData}
theorem FunE.kp (F : FunE K x qual st dvs f fd) : PySem.W.keepIn K (.ref f) = true := F.fn.kp
theorem funE_mk {oc dV kV doc pm cdv ct : Value} {od an : Option Addr} {osl : Array (Option Value)} (l : K.lookup f = some ⟨oc, od, .func (PySem.W.fnOf x qual (defArgs st) (defBody st) (defScope st) dV kV doc pm an cdv ct), osl⟩)
    (c : PySem.W.codeIn K cdv qual = true) (k : PySem.W.keepIn K (.ref f) = true) (d : DflV K dV dvs) : FunE K x qual st dvs f (PySem.W.fnOf x qual (defArgs st) (defBody st) (defScope st) dV kV doc pm an cdv ct) :=
  ⟨⟨⟨oc, od, dV, kV, doc, pm, an, cdv, ct, osl, rfl, l, c, d, .inl rfl⟩, k⟩⟩
theorem FunE.ok {N ps : List Str} {k : Nat} {sp : Sp} (F : FunE K x qual st dvs f fd) (S : FnScope N ps (defScope st)) (len : ∀ vs H Q E, sp vs H Q E → vs.length = ps.length)
    (hbody : ∀ (cdv : Value) (A : Around) (outer : List Env) (s : Shared) (H : Hp) (vs : List V) (Q : VK) (E : XK), Room k (A.deeper (envOfC qual (defScope st) s.heap.objs.size f cdv)) → sp vs H Q E →
      ∃ t, PSs (cxOf CX0 P w K mg base N qual (defScope st) f cdv A outer s H E).nox (defBody st) t ∧ t { nx := fun _ H' => Q .non H', rt := Q } (start N vs) H) : FnOk P w K mg base CX0 (k + 1) f fd ps sp := by
  refine F.fn.ok S len fun cdv A outer s H vs Q E hr hsp => ?_
  obtain ⟨t, h, q⟩ := hbody cdv A outer s H vs Q E hr hsp
  exact ⟨t, h.nox, q⟩
theorem FunE.okX {N ps : List Str} {k : Nat} {sp : Sp} (F : FunE K x qual st dvs f fd) (S : FnScope N ps (defScope st)) (len : ∀ vs H Q E, sp vs H Q E → vs.length = ps.length)
    (hbody : ∀ (cdv : Value) (A : Around) (outer : List Env) (s : Shared) (H : Hp) (vs : List V) (Q : VK) (E : XK), Room k (A.deeper (envOfC qual (defScope st) s.heap.objs.size f cdv)) → sp vs H Q E →
      ∃ t, PSs (cxOf (L2.CX P w) P w K mg base N qual (defScope st) f cdv A outer s H E) (defBody st) t ∧ t { nx := fun _ H' => Q .non H', rt := Q } (start N vs) H) : FnOk P w K mg base (L2.CX P w) (k + 1) f fd ps sp :=
  F.fn.ok S len hbody
/-- one default is left, and it is None -/
theorem FunE.binds1 {ps : List Str} (F : FunE K x qual st dvs f fd) (n j : Nat) (hd : dvs ≠ []) (hj : dvs.drop j = [.non]) (hn : n + 1 = ps.length)
    (h : ∀ (T : Addr) (kV doc pm : Value) (an : Option Addr) (cdv ct : Value) (us its : List Value), us.length = n → its.length = dvs.length →
      ∃ k, bindArgs (PySem.W.fnOf x qual (defArgs st) (defBody st) (defScope st) (.ref T) kV doc pm an cdv ct) ⟨us, []⟩ = seqItems? (.ref T) >>= k ∧ k (some its.toArray) = pure (ps.zip (us ++ its.drop j))) : Binds K fd ps [Value.none] := by
  have hl : dvs.length - j = 1 := by rw [← List.length_drop, hj]; rfl
  obtain ⟨ds, rv, b⟩ := F.fn.binds1 n j hd (by rw [hl]; exact hn) h
  rw [hj] at rv
  cases rv with
  | cons r t =>
    cases t
    cases r
    exact b
end
end Gd

namespace K16
open PySem L2 Gd Ply
/-! ### the scanner -/
structure At (C s : Addr) (T : List Nat) (i : Nat) (H : Hp) : Prop where
  ex : ∃ dx, H s = some (.ins C dx [("text", .str (SX.S T)), ("known", .non), ("place", .int (i : Int))])
  le : i ≤ T.length
  few : T.length ≤ 1000
structure ScC (K : PySem.W.Frag) (C : Addr) : Prop where
  cl : Cls K C
  n1 : NoAttr K C "text"
  n2 : NoAttr K C "place"
  n3 : NoAttr K C "known"
/-- a method of the class -/
structure Mt (K : PySem.W.Frag) (C : Addr) (m q : Str) (st : Stmt) (ps : List Str) (f : Addr) (fd : FuncData) : Prop where
  fn : Fun K m q st f fd
  b : Binds K fd ps []
  m : Meth K C m f
/-- a method whose last parameter has the default None -/
structure MtD (K : PySem.W.Frag) (C : Addr) (m q : Str) (st : Stmt) (ps : List Str) (f : Addr) (fd : FuncData) : Prop where
  fn : FunE K m q st [.non, .non] f fd
  b : Binds K fd ps [Value.none]
  m : Meth K C m f
/-- a test that is never asked -/
theorem deadT {X : Cx} {e : Expr} : PT X e (fun _ _ _ => False) := ⟨fun _ _ _ _ _ _ h => h.elim⟩
theorem At.off {C s : Addr} {T : List Nat} {i : Nat} {H H' : Hp} (h : At C s T i H) (e : H' s = H s) : At C s T i H' := ⟨let ⟨dx, h1⟩ := h.ex; ⟨dx, e.trans h1⟩, h.le, h.few⟩
def spHere (C : Addr) : Sp := fun vs H Q _ => ∃ s T i, vs = [.ref s] ∧ At C s T i H ∧ Q (.str (SX.S ((T.drop i).take 1))) H
def spStep (C : Addr) : Sp := fun vs H Q _ => ∃ s T i, vs = [.ref s] ∧ At C s T i H ∧ i < T.length ∧ ∀ H', At C s T (i + 1) H' → Off s H H' → Q .non H'
def spSkip (C : Addr) : Sp := fun vs H Q _ => ∃ s T i, vs = [.ref s] ∧ At C s T i H ∧ ∀ H' j, At C s T j H' → T.drop j = skp (T.drop i) → Off s H H' → Q .non H'
def spAtF (C : Addr) : Sp := fun vs H Q _ => ∃ s T i, vs = [.ref s] ∧ At C s T i H ∧ Q (.bl (hdDg (T.drop i))) H
def spTook (C : Addr) : Sp := fun vs H Q _ => ∃ s T i c, vs = [.ref s, .str (SX.S [c])] ∧ At C s T i H ∧ ∀ H' j (b : Bool), At C s T j H' → Off s H H' → (b = true → skp (T.drop i) = c :: T.drop j) → (b = false → T.drop j = skp (T.drop i) ∧ No c (skp (T.drop i))) → Q (.bl b) H'
def spSI (C : Addr) : Sp := fun vs H Q _ => ∃ s dx T, vs = [.ref s, .str (SX.S T), .non] ∧ H s = some (.ins C dx []) ∧ T.length ≤ 1000 ∧ ∀ H', At C s T 0 H' → Off s H H' → Q .non H'
def RCol (CB s : Addr) (V : Nat) (H : Hp) (E : XK) : Prop := ∀ H1, Off s H H1 → ∀ d, H1 d = none → V ≠ 0 → E (.ref CB) (some d) (upd H1 d (.xd [("column", .int (V : Int))]))
def spFail (C CB : Addr) : Sp := fun vs H _ E => ∃ s T i, vs = [.ref s] ∧ At C s T i H ∧ RCol CB s (i + 1) H E
section
variable {P : Program} {w : World} {K : PySem.W.Frag} {mg : Str → Option Value} {base : Heap}
variable {C CB f fH fS fK fF fA fB : Addr} {fd dH dS dK dF dA fdB : FuncData} {tk : Tok}
abbrev sBadText : Stmt := inClass (top 9) 0
theorem scBadText : FnScope ["self", "column"] ["self", "column"] (defScope sBadText) := ⟨rfl, rfl, rfl, by decide +kernel, rfl, by decide +kernel, by decide +kernel⟩
theorem okBadText {f C : Addr} {fd : FuncData} (F : Fun K "__init__" "BadText.__init__" sBadText f fd) (T : OexC K C) (no : ∀ g ∈ (["column"] : List Str), PySem.W.findIn K (.ref C) g = some none) : FnOk P w K mg base CX0 1 f fd ["self", "column"] (spIni C ["column"]) := by
  refine F.ok scBadText (fun vs H Q E h => ?_) (fun cdv A outer s H vs Q E hr h => ?_)
  · obtain ⟨a, ys, rfl, hl, _⟩ := h
    show ys.length + 1 = _
    rw [hl]
    rfl
  · obtain ⟨a, ys, rfl, hl, ha, k⟩ := h
    match ys, hl with
    | [y0], _ =>
    refine ⟨_, pss_one (ps_ost (pv 0) (pv 1)), ?_⟩
    refine ⟨_, rfl, _, rfl, a, C, rfl, T, no _ (.head _), .inl ⟨ha, fun dx hdx ne => ?_⟩⟩
    refine k _ dx hdx ne (fun b hb hd => ?_) ?_ ?_
    · rw [upd_ne hb, upd_ne hd]
    · exact upd_same
    · rw [upd_ne ne, upd_same]; rfl
abbrev sIni : Stmt := inClass (top 28) 0
abbrev sHere : Stmt := inClass (top 28) 1
abbrev sStep : Stmt := inClass (top 28) 2
abbrev sSkip : Stmt := inClass (top 28) 3
abbrev sFail : Stmt := inClass (top 28) 4
abbrev sAtF : Stmt := inClass (top 28) 5
abbrev sTook : Stmt := inClass (top 28) 7
abbrev sFig : Stmt := inClass (top 28) 8
abbrev sEnd : Stmt := inClass (top 28) 15
theorem scIni : FnScope ["self", "text", "known"] ["self", "text", "known"] (defScope sIni) := ⟨rfl, rfl, rfl, by decide +kernel, rfl, by decide +kernel, by decide +kernel⟩
theorem scHere : FnScope ["self"] ["self"] (defScope sHere) := ⟨rfl, rfl, rfl, by decide +kernel, rfl, by decide +kernel, by decide +kernel⟩
theorem scStep : FnScope ["self"] ["self"] (defScope sStep) := ⟨rfl, rfl, rfl, by decide +kernel, rfl, by decide +kernel, by decide +kernel⟩
theorem scSkip : FnScope ["self"] ["self"] (defScope sSkip) := ⟨rfl, rfl, rfl, by decide +kernel, rfl, by decide +kernel, by decide +kernel⟩
theorem scFail : FnScope ["self"] ["self"] (defScope sFail) := ⟨rfl, rfl, rfl, by decide +kernel, rfl, by decide +kernel, by decide +kernel⟩
theorem scAtF : FnScope ["self"] ["self"] (defScope sAtF) := ⟨rfl, rfl, rfl, by decide +kernel, rfl, by decide +kernel, by decide +kernel⟩
theorem scTook : FnScope ["self", "sign", "found"] ["self", "sign"] (defScope sTook) := ⟨rfl, rfl, rfl, by decide +kernel, rfl, by decide +kernel, by decide +kernel⟩
theorem scFig : FnScope ["self", "most", "greatest", "begin"] ["self", "most", "greatest"] (defScope sFig) := ⟨rfl, rfl, rfl, by decide +kernel, rfl, by decide +kernel, by decide +kernel⟩
theorem scEnd : FnScope ["self"] ["self"] (defScope sEnd) := ⟨rfl, rfl, rfl, by decide +kernel, rfl, by decide +kernel, by decide +kernel⟩
theorem ok_fail (F : Fun K "fail" "Scanner.fail" sFail f fd) (Z : ScC K C) (Br : Er K mg "BadText" "BadText.__init__" CB fB ["column"] sBadText fdB) : FnOk P w K mg base (L2.CX P w) 3 f fd ["self"] (spFail C CB) := by
  have GB : FnOk P w K mg base CX0 1 fB fdB ["self", "column"] (spIni CB ["column"]) := okBadText Br.fn Br.T Br.no
  refine F.okX scFail (fun vs H Q E h => ?_) (fun cdv A outer s H vs Q E hr h => ?_)
  · obtain ⟨s, T, i, rfl, _⟩ := h
    rfl
  · obtain ⟨s, T, i, rfl, at_, q⟩ := h
    refine ⟨_, pss_one (ps_raise rfl (takes_of rfl rfl rfl rfl) (pmk_oex Br.T Br.iC Br.tI GB hr Br.b .nil pass0 rfl Br.g (pa_cons (pe_op op_add (pe_fld (pv 0) rfl) pe_int) pa_nil))), ?_⟩
    obtain ⟨dx, h1⟩ := at_.ex
    refine ⟨_, rfl, s, C, dx, _, _, rfl, h1, Z.cl, Z.n2, rfl, _, _, rfl, rfl, mk_ini rfl (by show 1 ≤ 900; decide) (fun d nd => q H (fun _ _ h _ => h) d nd (Nat.succ_ne_zero _))⟩
theorem ok_here (F : Fun K "here" "Scanner.here" sHere f fd) (Z : ScC K C) : FnOk P w K mg base CX0 1 f fd ["self"] (spHere C) := by
  refine F.ok scHere (fun vs H Q E h => ?_) (fun cdv A outer s H vs Q E hr h => ?_)
  · obtain ⟨s, T, i, rfl, _⟩ := h
    rfl
  · obtain ⟨s, T, i, rfl, at_, q⟩ := h
    refine ⟨_, pss_one (ps_ret (pe_slice sl_str (pe_fld (pv 0) rfl) (po_some (pe_fld (pv 0) rfl)) (po_some (pe_op op_add (pe_fld (pv 0) rfl) pe_int)))), ?_⟩
    obtain ⟨dx, h1⟩ := at_.ex
    refine ⟨_, rfl, s, C, dx, _, _, rfl, h1, Z.cl, Z.n1, rfl, _, rfl, s, C, dx, _, _, rfl, h1, Z.cl, Z.n2, rfl, _, rfl, _, rfl, s, C, dx, _, _, rfl, h1, Z.cl, Z.n2, rfl, _, _, rfl, rfl, _, rfl, _, rfl, ?_, ?_⟩
    · rw [SX.S_len]; exact Nat.le_of_lt (small1000 at_.few)
    · rw [cut_one T i at_.le]
      exact q
theorem ok_step (F : Fun K "step_on" "Scanner.step_on" sStep f fd) (Z : ScC K C) : FnOk P w K mg base CX0 1 f fd ["self"] (spStep C) := by
  refine F.ok scStep (fun vs H Q E h => ?_) (fun cdv A outer s H vs Q E hr h => ?_)
  · obtain ⟨s, T, i, rfl, _⟩ := h
    rfl
  · obtain ⟨s, T, i, rfl, at_, lt, q⟩ := h
    refine ⟨_, pss_one (ps_fld (pv 0) (pe_op op_add (pe_fld (pv 0) rfl) pe_int) rfl), ?_⟩
    obtain ⟨dx, h1⟩ := at_.ex
    refine ⟨_, rfl, s, C, dx, _, _, rfl, h1, Z.cl, Z.n2, rfl, _, _, rfl, rfl, _, rfl, s, C, dx, _, rfl, h1, Z.cl, Z.n2, by show 3 < 1000; decide, ?_⟩
    refine q _ ⟨⟨dx, upd_same⟩, lt, at_.few⟩ fun b o e nb => ?_
    rw [upd_ne nb]
    exact e
theorem head_is {R : List Nat} {c : Nat} (h : R.head? = some c) : ∃ r, R = c :: r := by
  match R, h with
  | d :: r, h =>
    cases h
    exact ⟨r, rfl⟩
theorem head_no {R : List Nat} {c : Nat} (h : ¬ R.head? = some c) : No c R := fun r e => h (by rw [e]; rfl)
theorem take_one_sp (R : List Nat) : decide (V.str (SX.S (R.take 1)) = V.str " ") = decide (R.head? = some 32) := by
  have e : (" " : Str) = SX.S [32] := rfl
  rw [decide_eq_decide, e]
  constructor
  · intro h
    have h := SX.S_inj (V.str.inj h)
    match R, h with
    | c :: r, h =>
      rw [List.take_succ_cons, List.take_zero] at h
      cases h
      rfl
  · intro h
    match R, h with
    | d :: r, h =>
      cases h
      rfl
theorem take_one_is (R : List Nat) (c : Nat) : decide (V.str (SX.S (R.take 1)) = V.str (SX.S [c])) = decide (R.head? = some c) := by
  rw [decide_eq_decide]
  constructor
  · intro h
    have h := SX.S_inj (V.str.inj h)
    match R, h with
    | c :: r, h =>
      rw [List.take_succ_cons, List.take_zero] at h
      cases h
      rfl
  · intro h
    match R, h with
    | d :: r, h =>
      cases h
      rfl
theorem take_one_no (R : List Nat) : decide (V.str (SX.S (R.take 1)) = V.str "") = decide (R = []) := by
  have e : ("" : Str) = SX.S [] := rfl
  rw [decide_eq_decide, e]
  constructor
  · intro h
    have h := SX.S_inj (V.str.inj h)
    match R, h with
    | [], _ => rfl
  · rintro rfl
    rfl
theorem drop_lt {T : List Nat} {i : Nat} {c : Nat} {r : List Nat} (h : T.drop i = c :: r) : i < T.length ∧ T.drop (i + 1) = r := by
  have l : i < T.length := by
    rcases Nat.lt_or_ge i T.length with z | z
    · exact z
    · rw [List.drop_eq_nil_of_le z] at h
      cases h
  refine ⟨l, ?_⟩
  rw [← List.tail_drop, h]
  rfl
theorem ok_skip (F : Fun K "skip" "Scanner.skip" sSkip f fd) (Z : ScC K C) (Hr : Mt K C "here" "Scanner.here" sHere ["self"] fH dH) (St : Mt K C "step_on" "Scanner.step_on" sStep ["self"] fS dS) : FnOk P w K mg base CX0 2 f fd ["self"] (spSkip C) := by
  have GH : FnOk P w K mg base CX0 1 fH dH ["self"] (spHere C) := ok_here Hr.fn Z
  have GS : FnOk P w K mg base CX0 1 fS dS ["self"] (spStep C) := ok_step St.fn Z
  refine F.ok scSkip (fun vs H Q E h => ?_) (fun cdv A outer s H vs Q E hr h => ?_)
  · obtain ⟨s, T, i, rfl, _⟩ := h
    rfl
  · obtain ⟨s, T, i, rfl, at_, q⟩ := h
    refine ⟨_, pss_one (ps_while PassesOwn.never (pt_cmpR op_eq (pe_meth0 (pv 0) Z.cl Hr.m GH hr Hr.b .nil pass0) pe_str (nomark _))
      (pss_one (ps_expr (pe_meth0 (pv 0) Z.cl St.m GS hr St.b .nil pass0)))), ?_⟩
    refine while_by (fun σ H2 => ∃ j, σ = [some (.ref s)] ∧ At C s T j H2 ∧ skp (T.drop j) = skp (T.drop i) ∧ Off s H H2) (fun _ H2 => match H2 s with | some (.ins _ _ [_, _, (_, .int j)]) => T.length - j.toNat | _ => 0)
      ⟨i, rfl, at_, rfl, fun _ _ e _ => e⟩ ?_ ?_
    · rintro σ H2 ⟨j, rfl, a2, sk, of⟩
      obtain ⟨dx, h1⟩ := a2.ex
      refine ⟨_, rfl, s, dx, _, rfl, h1, rfl, s, T, j, rfl, a2, rfl, _, rfl, ?_⟩
      rw [take_one_sp]
      refine ite2 (fun z => ?_) (fun z => ?_)
      · obtain ⟨r, er⟩ := head_is (of_decide_eq_true z)
        obtain ⟨l1, l2⟩ := drop_lt er
        refine ⟨_, rfl, s, dx, _, rfl, h1, rfl, s, T, j, rfl, a2, l1, fun H3 a3 o3 => ?_⟩
        refine ⟨⟨j + 1, rfl, a3, ?_, of.trans o3⟩, ?_⟩
        · rw [l2, ← sk, er, skp_sp]
        · obtain ⟨dx3, h3⟩ := a3.ex
          rw [h1, h3]
          show T.length - (((j + 1 : Nat) : Int)).toNat < T.length - ((j : Nat) : Int).toNat
          omega
      · have nz : (T.drop j).head? ≠ some 32 := fun y => z (decide_eq_true y)
        refine q _ j a2 ?_ of
        rw [← sk]
        cases e : T.drop j with
        | nil => rfl
        | cons c r => exact (skp_ne (fun y => nz (by rw [e, y]; rfl))).symm
    · rintro σ H2 Q1 Q2 f ⟨v, e, a, dx, fs, e1, h1, nm, s, T, i, e2, at_, p1, y, p2, q2⟩
      exact ⟨v, e, a, dx, fs, e1, h1, nm, s, T, i, e2, at_, p1, y, p2, f _ _ q2⟩
theorem ok_atf (F : Fun K "at_figure" "Scanner.at_figure" sAtF f fd) (Z : ScC K C) (Hr : Mt K C "here" "Scanner.here" sHere ["self"] fH dH) (gF : mg "FIGURES_scanning" = some (.str "0123456789" tk)) : FnOk P w K mg base CX0 2 f fd ["self"] (spAtF C) := by
  have GH : FnOk P w K mg base CX0 1 fH dH ["self"] (spHere C) := ok_here Hr.fn Z
  refine F.ok scAtF (fun vs H Q E h => ?_) (fun cdv A outer s H vs Q E hr h => ?_)
  · obtain ⟨s, T, i, rfl, _⟩ := h
    rfl
  · obtain ⟨s, T, i, rfl, at_, q⟩ := h
    refine ⟨_, pss_one (ps_ret (pe_and (pe_cmpR op_ne (pe_meth0 (pv 0) Z.cl Hr.m GH hr Hr.b .nil pass0) pe_str (nomark _))
      (pe_one (pe_cmpR op_in_sign (pe_meth0 (pv 0) Z.cl Hr.m GH hr Hr.b .nil pass0) (pe_glob (v := .str "0123456789") rfl gF ⟨_, rfl⟩) (by rfl))))), ?_⟩
    obtain ⟨dx, h1⟩ := at_.ex
    refine ⟨_, rfl, s, dx, _, rfl, h1, rfl, s, T, i, rfl, at_, rfl, _, rfl, ?_⟩
    rw [take_one_no]
    cases e : T.drop i with
    | nil =>
      rw [e] at q
      exact iteF q
    | cons c r =>
      refine iteT ⟨_, rfl, s, dx, _, rfl, h1, rfl, s, T, i, rfl, at_, c, _, by rw [e]; rfl, rfl, ?_⟩
      rw [e] at q
      have z : decide (c ∈ ("0123456789" : Str).cps.toList) = isDg c := by
        rw [show ("0123456789" : Str).cps.toList = [48, 49, 50, 51, 52, 53, 54, 55, 56, 57] from rfl]
        unfold isDg
        rw [decide_eq_decide]
        constructor
        · intro h
          simp only [List.mem_cons, List.not_mem_nil, or_false] at h
          omega
        · intro h
          simp only [List.mem_cons, List.not_mem_nil, or_false]
          omega
      rw [z]
      exact q
theorem ok_took (F : Fun K "took" "Scanner.took" sTook f fd) (Z : ScC K C) (Hr : Mt K C "here" "Scanner.here" sHere ["self"] fH dH) (St : Mt K C "step_on" "Scanner.step_on" sStep ["self"] fS dS)
    (Sk : Mt K C "skip" "Scanner.skip" sSkip ["self"] fK dK) : FnOk P w K mg base CX0 3 f fd ["self", "sign"] (spTook C) := by
  have GH : FnOk P w K mg base CX0 1 fH dH ["self"] (spHere C) := ok_here Hr.fn Z
  have GS : FnOk P w K mg base CX0 1 fS dS ["self"] (spStep C) := ok_step St.fn Z
  have GK : FnOk P w K mg base CX0 2 fK dK ["self"] (spSkip C) := ok_skip Sk.fn Z Hr St
  refine F.ok scTook (fun vs H Q E h => ?_) (fun cdv A outer s H vs Q E hr h => ?_)
  · obtain ⟨s, T, i, c, rfl, _⟩ := h
    rfl
  · obtain ⟨s, T, i, c, rfl, at_, q⟩ := h
    refine ⟨_, pss_cons (ps_expr (pe_meth0 (pv 0) Z.cl Sk.m GK hr Sk.b .nil pass0))
      (pss_cons (ps_set (i := 2) scTook.nd rfl (Or.inl rfl) (pe_cmpR op_eq (pe_meth0 (pv 0) Z.cl Hr.m GH (hr.mono (by decide)) Hr.b .nil pass0) (pv 1) (nomark _)))
      (pss_cons (ps_if (pt_val (pv 2)) (pss_one (ps_expr (pe_meth0 (pv 0) Z.cl St.m GS (hr.mono (by decide)) St.b .nil pass0))) pss_nil)
      (pss_one (ps_ret (pv 2))))), ?_⟩
    obtain ⟨dx, h1⟩ := at_.ex
    refine ⟨_, rfl, s, dx, _, rfl, h1, rfl, s, T, i, rfl, at_, fun H2 j a2 ej o2 => ?_⟩
    obtain ⟨dx2, h2⟩ := a2.ex
    refine ⟨_, rfl, s, dx2, _, rfl, h2, rfl, s, T, j, rfl, a2, _, rfl, rfl, _, rfl, ?_⟩
    rw [take_one_is]
    by_cases z : (T.drop j).head? = some c
    · obtain ⟨r, er⟩ := head_is z
      obtain ⟨l1, l2⟩ := drop_lt er
      rw [decide_eq_true z]
      refine ⟨_, rfl, iteT ⟨_, rfl, s, dx2, _, rfl, h2, rfl, s, T, j, rfl, a2, l1, fun H3 a3 o3 => ?_⟩⟩
      refine ⟨_, rfl, q H3 (j + 1) true a3 (o2.trans o3) (fun _ => ?_) (fun y => nomatch y)⟩
      rw [← ej, er, l2]
    · rw [decide_eq_false z]
      refine ⟨_, rfl, iteF ⟨_, rfl, q H2 j false a2 o2 (fun y => nomatch y) (fun _ => ⟨ej, ?_⟩)⟩⟩
      rw [← ej]
      exact head_no z
theorem ok_sini (F : FunE K "__init__" "Scanner.__init__" sIni [.non] f fd) (Z : ScC K C) : FnOk P w K mg base CX0 1 f fd ["self", "text", "known"] (spSI C) := by
  refine F.ok scIni (fun vs H Q E h => ?_) (fun cdv A outer s H vs Q E hr h => ?_)
  · obtain ⟨s, dx, T, rfl, _⟩ := h
    rfl
  · obtain ⟨s, dx, T, rfl, h1, few, q⟩ := h
    refine ⟨_, pss_cons (ps_fld (pv 0) (pv 1) rfl) (pss_cons (ps_fld (pv 0) (pv 2) rfl) (pss_one (ps_fld (pv 0) pe_int rfl))), ?_⟩
    refine ⟨_, rfl, _, rfl, s, C, dx, _, rfl, h1, Z.cl, Z.n1, by show 0 < 1000; decide, ?_⟩
    refine ⟨_, rfl, _, rfl, s, C, dx, _, rfl, upd_same, Z.cl, Z.n3, by show 1 < 1000; decide, ?_⟩
    rw [upd_upd]
    refine ⟨_, rfl, s, C, dx, _, rfl, upd_same, Z.cl, Z.n2, by show 2 < 1000; decide, ?_⟩
    rw [upd_upd]
    refine q _ ⟨⟨dx, upd_same⟩, Nat.zero_le _, few⟩ fun b o e nb => ?_
    rw [upd_ne nb]
    exact e
end
end K16

namespace K16
open PySem L2 Gd Ply
def allDg (w : List Nat) : Bool := w.all isDg
/-- what reading figures finds -/
def FigOk (T : List Nat) (i q j q' : Nat) (w : List Nat) : Prop := allDg w = true ∧ w ≠ [] ∧ i + w.length ≤ j ∧ col q (T.drop i) i = col q' (T.drop j) j ∧ (((q = 83 ∨ q = 70) ∧ (q' = 78 ∨ q' = 90)) ∨ ((q = 69 ∨ q = 77) ∧ (q' = 88 ∨ q' = 79))) ∧ hdDg (T.drop j) = false
def Due (q : Nat) (R : List Nat) : Prop := (q = 83 ∨ q = 70 ∨ q = 69 ∨ q = 77) ∧ ∀ c r, skp R = c :: r → isDg c = false → nx q c = 0
def spFig (C CB : Addr) : Sp := fun vs H Q E => ∃ s T i q, vs = [.ref s, .non, .non] ∧ At C s T i H ∧ Due q (T.drop i) ∧ (∀ H' j q' w, At C s T j H' → Off s H H' → FigOk T i q j q' w → Q (.str (SX.S w)) H') ∧ RCol CB s (col q (T.drop i) i) H E
theorem due_ne {q : Nat} {R : List Nat} (h : Due q R) : q ≠ 0 ∧ sp q = q ∧ fin q = false := by
  obtain ⟨rfl | rfl | rfl | rfl, _⟩ := h <;> decide
theorem due_dg {q c : Nat} {R : List Nat} (h : Due q R) (d : isDg c = true) : nx q c = (if c = 48 then nx q 48 else nx q 49) ∧ nx q 48 ≠ 0 ∧ nx q 49 ≠ 0 ∧ nx (nx q 48) c = 0 ∧ nx (nx q 49) c = nx q 49 ∧
    (((q = 83 ∨ q = 70) ∧ nx q 49 = 78 ∧ nx q 48 = 90) ∨ ((q = 69 ∨ q = 77) ∧ nx q 49 = 88 ∧ nx q 48 = 79)) := by
  have d := of_decide_eq_true d
  have g : ∀ q : Nat, (q = 83 ∨ q = 70 ∨ q = 69 ∨ q = 77) → ∀ c : Nat, c < 58 → 48 ≤ c → (nx q c = (if c = 48 then nx q 48 else nx q 49) ∧ nx (nx q 48) c = 0 ∧ nx (nx q 49) c = nx q 49) := by
    rintro q (rfl | rfl | rfl | rfl) <;> decide +kernel
  obtain ⟨e1, e2, e3⟩ := g q h.1 c (by omega) (by omega)
  refine ⟨e1, ?_, ?_, e2, e3, ?_⟩
  all_goals obtain ⟨rfl | rfl | rfl | rfl, _⟩ := h <;> decide
theorem col_cons {q c : Nat} {r : List Nat} {i : Nat} (h : nx q c ≠ 0) : col q (c :: r) i = col (nx q c) r (i + 1) := by
  show (if nx q c = 0 then _ else _) = _
  rw [if_neg h]
/-- the state behind so many figures -/
def qat (q : Nat) (w : List Nat) : Nat := match w with | [] => q | c :: _ => if c = 48 then nx q 48 else nx q 49
theorem drop_cons {T : List Nat} {i : Nat} (h : i < T.length) : T.drop i = T[i] :: T.drop (i + 1) := List.drop_eq_getElem_cons h
section
variable {P : Program} {w : World} {K : PySem.W.Frag} {mg : Str → Option Value} {base : Heap}
variable {C CB f fH fS fK fF fA fB : Addr} {fd dH dS dK dF dA fdB : FuncData} {tk : Tok}
theorem skp_at {T : List Nat} {i j q : Nat} (hq : q ≠ 0) (hi : i ≤ T.length) (hj : j ≤ T.length) (e : T.drop j = skp (T.drop i)) (pos : T.drop j ≠ [] ∨ True) : (sp q = q → col q (T.drop i) i = col q (T.drop j) j) ∧ i ≤ j ∧ (i = j ∨ col q (T.drop i) i = col (sp q) (T.drop j) j) := by
  have l1 := congrArg List.length e
  have l2 := skp_len (T.drop i)
  rw [List.length_drop] at l1 l2
  have ij : i ≤ j := by omega
  obtain ⟨e1, _⟩ | ⟨e1, l3⟩ := col_skp (T.drop i) q i hq
  · have ej : j = i := by
      rw [e1, List.length_drop] at l1
      omega
    subst ej
    exact ⟨fun _ => rfl, Nat.le_refl _, .inl rfl⟩
  · have ej : i + ((T.drop i).length - (skp (T.drop i)).length) = j := by
      rw [List.length_drop] at l3 ⊢
      omega
    rw [ej, ← e] at e1
    exact ⟨fun z => by rw [e1, z], ij, .inr e1⟩
theorem ok_fig (F : FunE K "figures" "Scanner.figures" sFig [.non, .non] f fd) (Z : ScC K C) (Hr : Mt K C "here" "Scanner.here" sHere ["self"] fH dH) (St : Mt K C "step_on" "Scanner.step_on" sStep ["self"] fS dS)
    (Sk : Mt K C "skip" "Scanner.skip" sSkip ["self"] fK dK) (Fa : Mt K C "fail" "Scanner.fail" sFail ["self"] fF dF) (Af : Mt K C "at_figure" "Scanner.at_figure" sAtF ["self"] fA dA) (gF : mg "FIGURES_scanning" = some (.str "0123456789" tk))
    (Br : Er K mg "BadText" "BadText.__init__" CB fB ["column"] sBadText fdB) :
    FnOk P w K mg base (L2.CX P w) 5 f fd ["self", "most", "greatest"] (spFig C CB) := by
  have GS : FnOk P w K mg base CX0 1 fS dS ["self"] (spStep C) := ok_step St.fn Z
  have GF : FnOk P w K mg base (L2.CX P w) 3 fF dF ["self"] (spFail C CB) := ok_fail Fa.fn Z Br
  have GK : FnOk P w K mg base CX0 2 fK dK ["self"] (spSkip C) := ok_skip Sk.fn Z Hr St
  have GA : FnOk P w K mg base CX0 2 fA dA ["self"] (spAtF C) := ok_atf Af.fn Z Hr gF
  refine F.okX scFig (fun vs H Q E h => ?_) (fun cdv A outer s H vs Q E hr h => ?_)
  · obtain ⟨s, T, i, q, rfl, _⟩ := h
    rfl
  · obtain ⟨s, T, i, q, rfl, at_, due, q1, qe⟩ := h
    have hr1 : Room 1 _ := hr.mono (by decide)
    have hr2 : Room 2 _ := hr.mono (by decide)
    have hr3 : Room 3 _ := hr.mono (by decide)
    refine ⟨_, pss_cons (ps_expr (pe_meth0 (pv 0) Z.cl Sk.m GK hr2 Sk.b .nil pass0))
      (pss_cons (ps_set (i := 3) scFig.nd rfl (Or.inl rfl) (pe_fld (pv 0) rfl))
      (pss_cons (ps_if (pt_not (pt_val (pe_meth0 (pv 0) Z.cl Af.m GA hr2 Af.b .nil pass0))) (pss_one (ps_expr (pe_meth0 (pv 0) Z.cl Fa.m GF hr3 Fa.b .nil (passes_call (takes_of rfl rfl rfl rfl) (fun _ _ _ _ h => h))))) pss_nil)
      (pss_cons (ps_while (passes_of rfl) (pt_val (pe_meth0 (pv 0) Z.cl Af.m GA hr2 Af.b .nil pass0))
        (pss_cons (ps_if (PW.pt (pw_and (pt_cmpR op_eq (pe_ix ix_str (pe_fld (pv 0) rfl) (pv 3) (fun _ _ => rfl)) pe_str (nomark _)) (pw_and1 (pt_cmpR op_gt (pe_fld (pv 0) rfl) (pv 3) (nomark _)))))
          (pss_one (ps_expr (pe_meth0 (pv 0) Z.cl Fa.m GF hr3 Fa.b .nil (passes_call (takes_of rfl rfl rfl rfl) (fun _ _ _ _ h => h))))) pss_nil)
        (pss_cons (ps_if (PW.pt (pw_and (pt_cmpR op_notN (pv 1) pe_non (nomark _)) (pw_and1 (pt_cmpR op_ge (pe_op op_sub (pe_fld (pv 0) rfl) (pv 3)) (pv 1) (nomark _)))))
          (pss_one (ps_expr (pe_meth0 (pv 0) Z.cl Fa.m GF hr3 Fa.b .nil (passes_call (takes_of rfl rfl rfl rfl) (fun _ _ _ _ h => h))))) pss_nil)
        (pss_cons (ps_if (PW.pt (pw_and (pt_cmpR op_notN (pv 2) pe_non (nomark _)) (pw_and1 deadT)))
          (pss_one (ps_expr (pe_meth0 (pv 0) Z.cl Fa.m GF hr3 Fa.b .nil (passes_call (takes_of rfl rfl rfl rfl) (fun _ _ _ _ h => h))))) pss_nil)
        (pss_one (ps_expr (pe_meth0 (pv 0) Z.cl St.m GS hr1 St.b .nil pass0)))))))
      (pss_one (ps_ret (pe_slice sl_str (pe_fld (pv 0) rfl) (po_some (pv 3)) (po_some (pe_fld (pv 0) rfl)))))))), ?_⟩
    obtain ⟨dx, h1⟩ := at_.ex
    obtain ⟨q0, qs, qf⟩ := due_ne due
    refine ⟨_, rfl, s, dx, _, rfl, h1, rfl, s, T, i, rfl, at_, fun H2 b a2 eb o2 => ?_⟩
    obtain ⟨dx2, h2⟩ := a2.ex
    obtain ⟨c1, ib, _⟩ := skp_at q0 at_.le a2.le eb (.inr trivial)
    have c1 := c1 qs
    refine ⟨_, rfl, s, C, dx2, _, _, rfl, h2, Z.cl, Z.n2, rfl, ?_⟩
    refine ⟨_, rfl, s, dx2, _, rfl, h2, rfl, s, T, b, rfl, a2, ?_⟩
    cases hd0 : hdDg (T.drop b) with
    | false =>
      refine ⟨_, rfl, iteT ⟨_, rfl, s, dx2, _, rfl, h2, rfl, s, T, b, rfl, a2, fun H3 o3 d nd => ?_⟩⟩
      have wr : Wrong q (T.drop b) := by
        cases e : T.drop b with
        | nil => exact qf
        | cons c r =>
          rw [e] at hd0 eb
          exact due.2 c r eb.symm hd0
      have := qe H3 (o2.trans o3) d nd
      rw [c1, wrong_col wr] at this
      exact this
    | true =>
    refine ⟨_, rfl, iteF ?_⟩
    refine while_by (fun σ H3 => ∃ k, σ = [some (.ref s), some .non, some .non, some (.int (b : Int))] ∧ At C s T (b + k) H3 ∧ Off s H H3 ∧ allDg ((T.drop b).take k) = true ∧ col q (T.drop b) b = col (qat q ((T.drop b).take k)) (T.drop (b + k)) (b + k)) (fun _ H3 => match H3 s with | some (.ins _ _ [_, _, (_, .int j)]) => T.length - j.toNat | _ => 0)
      ⟨0, rfl, a2, o2, rfl, rfl⟩ ?_ ?_
    · rintro σ H3 ⟨k, rfl, a3, o3, dg, ck⟩
      obtain ⟨dx3, h3⟩ := a3.ex
      have bT : b < T.length := by
        rcases Nat.lt_or_ge b T.length with z | z
        · exact z
        · rw [List.drop_eq_nil_of_le z] at hd0
          cases hd0
      have eb0 := drop_cons bT
      refine ⟨_, rfl, s, dx3, _, rfl, h3, rfl, s, T, b + k, rfl, a3, ?_⟩
      have lk : ((T.drop b).take k).length = k := by
        rw [List.length_take, List.length_drop]
        have := a3.le
        omega
      cases hd : hdDg (T.drop (b + k)) with
      | false =>
        refine ⟨_, rfl, ?_⟩
        refine ⟨_, rfl, s, C, dx3, _, _, rfl, h3, Z.cl, Z.n1, rfl, _, rfl, _, rfl, _, rfl, s, C, dx3, _, _, rfl, h3, Z.cl, Z.n2, rfl, _, rfl, _, rfl, ?_, ?_⟩
        · rw [SX.S_len]; exact Nat.le_of_lt (small1000 a3.few)
        · rw [cut_run T b (b + k) (by omega) a3.le, show b + k - b = k by omega]
          have kp : k ≠ 0 := by
            rintro rfl
            rw [Nat.add_zero, hd0] at hd
            cases hd
          have dq := due_dg due (c := T[b]) (by rw [eb0] at hd0; exact hd0)
          have ew : (T.drop b).take k = T[b] :: (T.drop (b + 1)).take (k - 1) := by
            rw [eb0]
            cases k with
            | zero => exact absurd rfl kp
            | succ k => rfl
          refine q1 H3 (b + k) (qat q ((T.drop b).take k)) _ a3 o3 ⟨dg, fun z => ?_, by rw [lk]; omega, c1.trans ck, ?_, hd⟩
          · rw [z] at lk
            exact kp lk.symm
          · rw [ew]
            show ((q = 83 ∨ q = 70) ∧ ((if T[b] = 48 then nx q 48 else nx q 49) = 78 ∨ (if T[b] = 48 then nx q 48 else nx q 49) = 90)) ∨ ((q = 69 ∨ q = 77) ∧ ((if T[b] = 48 then nx q 48 else nx q 49) = 88 ∨ (if T[b] = 48 then nx q 48 else nx q 49) = 79))
            obtain ⟨z, e1, e2⟩ | ⟨z, e1, e2⟩ := dq.2.2.2.2.2
            · refine .inl ⟨z, ?_⟩
              split
              · exact .inr e2
              · exact .inl e1
            · refine .inr ⟨z, ?_⟩
              split
              · exact .inr e2
              · exact .inl e1
      | true =>
        have bk : b + k < T.length := by
          rcases Nat.lt_or_ge (b + k) T.length with z | z
          · exact z
          · rw [List.drop_eq_nil_of_le z] at hd
            cases hd
        have ek := drop_cons bk
        have dk : isDg T[b + k] = true := by rw [ek] at hd; exact hd
        have db : isDg T[b] = true := by rw [eb0] at hd0; exact hd0
        have dq := due_dg due dk
        have go : ∀ H4, (k = 0 ∨ T[b] ≠ 48) → At C s T (b + k + 1) H4 → Off s H3 H4 → (∃ k', [some (V.ref s), some .non, some .non, some (.int (b : Int))] = [some (V.ref s), some .non, some .non, some (.int (b : Int))] ∧ At C s T (b + k') H4 ∧ Off s H H4 ∧ allDg ((T.drop b).take k') = true ∧ col q (T.drop b) b = col (qat q ((T.drop b).take k')) (T.drop (b + k')) (b + k')) ∧
            (match H4 s with | some (.ins _ _ [_, _, (_, .int j)]) => T.length - j.toNat | _ => 0) < (match H3 s with | some (.ins _ _ [_, _, (_, .int j)]) => T.length - j.toNat | _ => 0) := by
          intro H4 hk a4 o4
          have tk1 : (T.drop b).take (k + 1) = (T.drop b).take k ++ [T[b + k]] := by
            rw [List.take_succ, List.getElem?_drop, List.getElem?_eq_getElem bk]
            rfl
          refine ⟨⟨k + 1, rfl, a4, o3.trans o4, ?_, ?_⟩, ?_⟩
          · rw [tk1]
            unfold allDg at dg ⊢
            rw [List.all_append, dg, Bool.true_and]
            show (isDg _ && true) = true
            rw [dk]
            rfl
          · rw [ck, ek]
            have nxe : nx (qat q ((T.drop b).take k)) T[b + k] = qat q ((T.drop b).take (k + 1)) ∧ nx (qat q ((T.drop b).take k)) T[b + k] ≠ 0 := by
              rcases Nat.eq_zero_or_pos k with rfl | kp
              · have e1 : qat q ((T.drop b).take (0 + 1)) = if T[b] = 48 then nx q 48 else nx q 49 := by rw [eb0]; rfl
                rw [e1]
                show nx q T[b] = _ ∧ nx q T[b] ≠ 0
                rw [(due_dg due db).1]
                refine ⟨rfl, ?_⟩
                split
                · exact dq.2.1
                · exact dq.2.2.1
              · have n48 : T[b] ≠ 48 := hk.resolve_left (by omega)
                have e1 : ∀ m, 0 < m → qat q ((T.drop b).take m) = nx q 49 := by
                  intro m hm
                  rw [eb0]
                  cases m with
                  | zero => cases hm
                  | succ m =>
                    show (if T[b] = 48 then _ else _) = _
                    rw [if_neg n48]
                rw [e1 k kp, e1 (k + 1) (by omega), dq.2.2.2.2.1]
                exact ⟨rfl, dq.2.2.1⟩
            rw [col_cons nxe.2, nxe.1]
            rfl
          · obtain ⟨dx4, h4⟩ := a4.ex
            rw [h3, h4]
            show T.length - (((b + k + 1 : Nat) : Int)).toNat < T.length - ((b + k : Nat) : Int).toNat
            omega
        have g0 : ((SX.S T).cps.toList)[b]? = some T[b] := by
          show T[b]? = _
          exact List.getElem?_eq_getElem bT
        refine ⟨_, rfl, ?_⟩
        refine ⟨_, rfl, s, C, dx3, _, _, rfl, h3, Z.cl, Z.n1, rfl, _, rfl, _, _, T[b], rfl, rfl, by rw [SX.S_len]; exact Nat.le_of_lt (small1000 a3.few), atI_nat g0, rfl, _, rfl, ?_⟩
        refine ite2 (fun z => ?_) (fun z => ?_)
        · have z : T[b] = 48 := by
            have z := V.str.inj (of_decide_eq_true z)
            have z := SX.S_inj (a := [T[b]]) (b := [48]) z
            injection z with z
          refine ⟨_, rfl, s, C, dx3, _, _, rfl, h3, Z.cl, Z.n2, rfl, _, rfl, _, _, rfl, rfl, _, rfl, ?_⟩
          rcases Nat.eq_zero_or_pos k with rfl | kp
          · rw [show decide ((b : Int) < ((b + 0 : Nat) : Int)) = false from decide_eq_false (by omega)]
            exact iteF ⟨_, rfl, rfl, _, rfl, iteF ⟨_, rfl, rfl, _, rfl, iteF ⟨_, rfl, s, dx3, _, rfl, h3, rfl, s, T, b + 0, rfl, a3, bk, fun H4 => go H4 (.inl rfl)⟩⟩⟩
          · rw [show decide ((b : Int) < ((b + k : Nat) : Int)) = true from decide_eq_true (by omega)]
            refine iteT ⟨_, rfl, s, dx3, _, rfl, h3, rfl, s, T, b + k, rfl, a3, fun H4 o4 d nd => ?_⟩
            have wr : Wrong (qat q ((T.drop b).take k)) (T.drop (b + k)) := by
              rw [ek]
              have e1 : qat q ((T.drop b).take k) = nx q 48 := by
                rw [eb0]
                cases k with
                | zero => cases kp
                | succ k =>
                  show (if T[b] = 48 then _ else _) = _
                  rw [if_pos z]
              show nx _ T[b + k] = 0
              rw [e1]
              exact dq.2.2.2.1
            have := qe H4 (o3.trans o4) d nd
            rw [c1, ck, wrong_col wr] at this
            exact this
        · have z : T[b] ≠ 48 := fun y => z (decide_eq_true (by rw [y]; rfl))
          exact ⟨_, rfl, rfl, _, rfl, iteF ⟨_, rfl, rfl, _, rfl, iteF ⟨_, rfl, s, dx3, _, rfl, h3, rfl, s, T, b + k, rfl, a3, bk, fun H4 => go H4 (.inr z)⟩⟩⟩
    · rintro σ H2 Q1 Q2 f ⟨v, e, a, dx, fs, e1, h1, nm, s, T, i, e2, at_, y, p2, q2⟩
      exact ⟨v, e, a, dx, fs, e1, h1, nm, s, T, i, e2, at_, y, p2, f _ _ q2⟩
end
end K16

namespace K16
open PySem L2 Gd Ply
def spPo : Sp := fun vs H Q _ => ∃ n : Nat, vs = [.int 10, .int (n : Int)] ∧ n ≤ 60 ∧ Q (.int ((10 ^ n : Nat) : Int)) H
def spNw : Sp := fun vs H Q _ => ∃ w : List Nat, vs = [.str (SX.S w)] ∧ allDg w = true ∧ w ≠ [] ∧ w.length ≤ 590 ∧ ∀ m : Nat, m < 10 ^ w.length → Q (.int (m : Int)) H
/-- what reading an exponent finds -/
def ExpOk (T : List Nat) (i j q' : Nat) : Prop := i ≤ j ∧ col 76 (T.drop i) i = col q' (T.drop j) j ∧ ((q' = 76 ∧ ∀ c r, T.drop j = c :: r → c ≠ 32 ∧ c ≠ 94) ∨ ((q' = 88 ∨ q' = 79) ∧ hdDg (T.drop j) = false))
def spRe (C CB : Addr) : Sp := fun vs H Q E => ∃ s T i, vs = [.ref s] ∧ At C s T i H ∧ T.length ≤ 590 ∧ (∀ H' j q' (e : Int), At C s T j H' → Off s H H' → ExpOk T i j q' → Q (.int e) H') ∧ RCol CB s (col 76 (T.drop i) i) H E
theorem dv_lt : ∀ (w : List Nat) (a : Nat), w.all isDg = true → w.foldl (fun acc c => acc * 10 + (c - 48)) a < (a + 1) * 10 ^ w.length
  | [], a, _ => by show a < (a + 1) * 1; omega
  | c :: w, a, h => by
    rw [List.all_cons, Bool.and_eq_true] at h
    have d := of_decide_eq_true h.1
    have := dv_lt w (a * 10 + (c - 48)) h.2
    show w.foldl _ (a * 10 + (c - 48)) < (a + 1) * 10 ^ (w.length + 1)
    refine Nat.lt_of_lt_of_le this ?_
    rw [Nat.pow_succ, Nat.mul_comm (10 ^ w.length) 10, ← Nat.mul_assoc]
    exact Nat.mul_le_mul_right _ (by omega)
theorem dv_bound {w : List Nat} (h : allDg w = true) : NumText.digitsVal w < 10 ^ w.length := by
  have := dv_lt w 0 h
  rw [Nat.zero_add, Nat.one_mul] at this
  exact this
theorem dg_all {w : List Nat} (h : allDg w = true) : w.all (fun c => decide (48 ≤ c) && decide (c ≤ 57)) = true := by
  unfold allDg at h
  rw [List.all_eq_true] at h ⊢
  intro c hc
  have := of_decide_eq_true (h c hc)
  rw [Bool.and_eq_true, decide_eq_true_eq, decide_eq_true_eq]
  exact this
theorem dg_sub {w v : List Nat} (h : allDg w = true) (s : ∀ c ∈ v, c ∈ w) : allDg v = true := by
  unfold allDg at h ⊢
  rw [List.all_eq_true] at h ⊢
  exact fun c hc => h c (s c hc)
theorem ten_small {n : Nat} (h : n ≤ 590) : 10 ^ n < 2 ^ 2400 := by
  have h1 : 10 ^ n ≤ 10 ^ 590 := Nat.pow_le_pow_right (by decide) h
  have h2 : (10 : Nat) ^ 590 ≤ 16 ^ 590 := Nat.pow_le_pow_left (by decide) 590
  have h3 : (16 : Nat) ^ 590 = 2 ^ (4 * 590) := by rw [Nat.pow_mul]
  have h4 : (2 : Nat) ^ (4 * 590) < 2 ^ 2400 := Nat.pow_lt_pow_right (by decide) (by decide)
  omega
section
variable {P : Program} {w : World} {K : PySem.W.Frag} {mg : Str → Option Value} {base : Heap}
variable {C CB f fP fN fH fS fK fF fA fT fG fB : Addr} {fd dP dN dH dS dK dF dA dT' dG fdB : FuncData} {tk tf : Tok}
abbrev sPo : Stmt := top 4
abbrev sNw : Stmt := top 5
abbrev sRe : Stmt := top 40
theorem scPo : FnScope ["base", "exponent", "found", "_"] ["base", "exponent"] (defScope sPo) := ⟨rfl, rfl, rfl, by decide +kernel, rfl, by decide +kernel, by decide +kernel⟩
theorem scNw : FnScope ["figures", "number", "place", "piece"] ["figures"] (defScope sNw) := ⟨rfl, rfl, rfl, by decide +kernel, rfl, by decide +kernel, by decide +kernel⟩
theorem scRe : FnScope ["scanner", "sign"] ["scanner"] (defScope sRe) := ⟨rfl, rfl, rfl, by decide +kernel, rfl, by decide +kernel, by decide +kernel⟩
theorem ok_po (F : Fun K "power_of" "power_of" sPo f fd) (B : Blt mg) : FnOk P w K mg base CX0 1 f fd ["base", "exponent"] spPo := by
  refine F.ok scPo (fun vs H Q E h => ?_) (fun cdv A outer s H vs Q E hr h => ?_)
  · obtain ⟨n, rfl, _⟩ := h
    rfl
  · obtain ⟨n, rfl, few, q⟩ := h
    refine ⟨_, pss_cons (ps_set (i := 2) scPo.nd rfl (Or.inl rfl) pe_int)
      (pss_cons (ps_for PassesOwn.never rfl (pi_range1 rfl B.range_ (pa_cons (pv 1) pa_nil)) (pg_name (i := 3) scPo.nd rfl (Or.inl rfl))
        (pss_one (ps_set (i := 2) scPo.nd rfl (Or.inl rfl) (pe_op op_mul (pv 2) (pv 0)))))
      (pss_one (ps_ret (pv 2)))), ?_⟩
    refine ⟨_, rfl, n, rfl, by omega, by omega, for_range (lo := 0) (n := (n : Int).toNat) (fun i σ H2 => ∃ (z : Option V), σ = [some (.int 10), some (.int n), some (.int ((10 ^ i : Nat) : Int)), z] ∧ H2 = H) ⟨none, rfl, rfl⟩ ?_ ?_⟩
    · rintro i σ H2 hi ⟨z, rfl, rfl⟩
      refine ⟨_, rfl, _, rfl, _, _, rfl, rfl, .inr ⟨by omega, by omega⟩, some (V.int (0 + (i : Int))), ?_, rfl⟩
      show [some (V.int 10), some (V.int n), some (V.int (((10 ^ i : Nat) : Int) * 10)), _] = [_, _, some (V.int ((10 ^ (i + 1) : Nat) : Int)), _]
      rw [Nat.pow_succ, Int.natCast_mul]
      rfl
    · rintro σ H2 ⟨z, rfl, rfl⟩
      rw [Int.toNat_natCast]
      exact ⟨_, rfl, q⟩
theorem rg60 : ∀ L : Nat, L < 600 → 0 < L → (Builtin.Range.small 0 (L : Int) 60 = true ∧ Builtin.Range.rangeSize 0 (L : Int) 60 = (L + 59) / 60) := by decide +kernel
theorem ok_nw (F : Fun K "number_with" "number_with" sNw f fd) (B : Blt mg) (Pw : Cl K mg "power_of" sPo ["base", "exponent"] fP dP) (gF : mg "FIGURES_arithmetic" = some (.int 60 tf)) : FnOk P w K mg base CX0 2 f fd ["figures"] spNw := by
  have GP : FnOk P w K mg base CX0 1 fP dP ["base", "exponent"] spPo := ok_po Pw.fn B
  refine F.ok scNw (fun vs H Q E h => ?_) (fun cdv A outer s H vs Q E hr h => ?_)
  · obtain ⟨n, rfl, _⟩ := h
    rfl
  · obtain ⟨W, rfl, dg, ne, few, q⟩ := h
    have pos : 0 < W.length := List.length_pos_iff.mpr ne
    refine ⟨_, pss_cons (ps_set (i := 1) scNw.nd rfl (Or.inl rfl) pe_int)
      (pss_cons (ps_for PassesOwn.never rfl (pi_range3 rfl B.range_ (pa_cons pe_int (pa_cons (pe_callB call_len_str (by rfl) B.len_ PySem.boot_len (pa_cons (pv 0) pa_nil)) (pa_cons (pe_glob (v := .int 60) rfl gF ⟨_, rfl⟩) pa_nil)))) (pg_name (i := 2) scNw.nd rfl (Or.inl rfl))
        (pss_cons (ps_set (i := 3) scNw.nd rfl (Or.inl rfl) (pe_slice sl_str (pv 0) (po_some (pv 2)) (po_some (pe_op op_add (pv 2) (pe_glob (v := .int 60) rfl gF ⟨_, rfl⟩)))))
        (pss_one (ps_set (i := 1) scNw.nd rfl (Or.inl rfl) (pe_op op_add (pe_op op_mulW (pv 1) (pe_call GP hr rfl Pw.g Pw.k Pw.b .nil pass0 (pa_cons pe_int (pa_cons (pe_callB call_len_str (by rfl) B.len_ PySem.boot_len (pa_cons (pv 3) pa_nil)) pa_nil))))
          (pe_callTy call_int_str (by rfl) B.int_ (by decide +kernel) (pa_cons (pv 3) pa_nil)))))))
      (pss_one (ps_ret (pv 1)))), ?_⟩
    have sl : (SX.S W).length ≤ sizeLine := by rw [SX.S_len]; exact Nat.le_of_lt (small1000 (by omega))
    obtain ⟨r1, r2⟩ := rg60 W.length (by omega) pos
    refine ⟨_, rfl, _, rfl, sl, 0, _, 60, (W.length + 59) / 60, rfl, ?_, ?_⟩
    · rw [SX.S_len]
      exact ⟨by decide, by decide, r1, r2⟩
    refine for_rangeC (lo := 0) (c := 60) (n := (W.length + 59) / 60) (fun i σ H2 => ∃ (m : Nat) (z1 z2 : Option V), σ = [some (.str (SX.S W)), some (.int (m : Int)), z1, z2] ∧ m < 10 ^ (min (60 * i) W.length) ∧ H2 = H) ⟨0, none, none, rfl, by simp, rfl⟩ ?_ ?_
    · rintro i σ H2 hi ⟨m, z1, z2, rfl, hm, rfl⟩
      have lo : 60 * i < W.length := by omega
      have cut : cutS (SX.S W) (some (0 + (i : Int) * 60)) (some (0 + (i : Int) * 60 + 60)) = SX.S ((W.drop (60 * i)).take (min (60 * i + 60) W.length - 60 * i)) := by
        unfold cutS
        rw [SX.S_len, show (0 + (i : Int) * 60) = ((60 * i : Nat) : Int) by omega, show (((60 * i : Nat) : Int) + 60) = ((60 * i + 60 : Nat) : Int) by omega, HT.sIx_nat, HT.sIx_nat, Nat.min_eq_left (Nat.le_of_lt lo)]
      have pl : ((W.drop (60 * i)).take (min (60 * i + 60) W.length - 60 * i)).length = min (60 * i + 60) W.length - 60 * i := by
        rw [List.length_take, List.length_drop]
        omega
      have pd : allDg ((W.drop (60 * i)).take (min (60 * i + 60) W.length - 60 * i)) = true := dg_sub dg fun c hc => List.mem_of_mem_drop (List.mem_of_mem_take hc)
      refine ⟨_, rfl, _, rfl, _, rfl, _, rfl, _, _, rfl, rfl, _, rfl, _, rfl, sl, ?_⟩
      rw [cut]
      generalize (W.drop (60 * i)).take (min (60 * i + 60) W.length - 60 * i) = p at pl pd ⊢
      have psl : (SX.S p).length ≤ sizeLine := by rw [SX.S_len]; exact Nat.le_of_lt (small1000 (by omega))
      have pne : p ≠ [] := by
        rintro rfl
        have : (0 : Nat) = min (60 * i + 60) W.length - 60 * i := pl
        omega
      refine ⟨_, rfl, _, rfl, _, rfl, psl, p.length, by rw [SX.S_len]; rfl, by omega, ?_⟩
      have b1 : ((m : Int)).natAbs < 2 ^ 2400 := by
        have := ten_small (n := min (60 * i) W.length) (by omega)
        show m < _
        omega
      have b2 : (((10 ^ p.length : Nat) : Int)).natAbs < 2 ^ 2400 := by
        have := ten_small (n := p.length) (by omega)
        show 10 ^ p.length < _
        omega
      refine ⟨_, _, rfl, rfl, wide_mul b1 b2 (by decide) (by decide) (by decide), _, rfl, _, _, rfl, SX.int_S (dg_all pd) pne (by omega), by rw [SX.S_len]; omega, _, _, rfl, rfl, ?_⟩
      refine ⟨m * 10 ^ p.length + NumText.digitsVal p, some (V.int (0 + (i : Int) * 60)), some (V.str (SX.S p)), ?_, ?_, rfl⟩
      · show [some (V.str (SX.S W)), some (V.int ((m : Int) * ((10 ^ p.length : Nat) : Int) + ((NumText.digitsVal p : Nat) : Int))), _, _] = _
        rw [Int.natCast_add, Int.natCast_mul]
      · have dv := dv_bound pd
        have e : min (60 * (i + 1)) W.length = min (60 * i) W.length + p.length := by omega
        rw [e, Nat.pow_add]
        have : m * 10 ^ p.length + NumText.digitsVal p < (m + 1) * 10 ^ p.length := by
          rw [Nat.add_mul, Nat.one_mul]
          omega
        exact Nat.lt_of_lt_of_le this (Nat.mul_le_mul_right _ hm)
    · rintro σ H2 ⟨m, z1, z2, rfl, hm, rfl⟩
      rw [Nat.min_eq_right (by omega)] at hm
      exact ⟨_, rfl, q m hm⟩
theorem took_col {T : List Nat} {i j q c : Nat} (hq : q ≠ 0) (hi : i ≤ T.length) (hj : j ≤ T.length) (e : skp (T.drop i) = c :: T.drop j) : i < j ∧ ∃ q1, (q1 = q ∨ q1 = sp q) ∧ (nx q1 c ≠ 0 → col q (T.drop i) i = col (nx q1 c) (T.drop j) j) := by
  have l1 := congrArg List.length e
  have l2 := skp_len (T.drop i)
  rw [List.length_cons, List.length_drop] at l1
  rw [List.length_drop] at l2
  obtain ⟨e1, _⟩ | ⟨e1, l3⟩ := col_skp (T.drop i) q i hq
  · rw [e1, List.length_drop] at l1
    have ej : j = i + 1 := by omega
    subst ej
    refine ⟨Nat.lt_succ_self _, q, .inl rfl, fun n => ?_⟩
    rw [← e1, e]
    exact col_cons n
  · rw [List.length_drop] at l3 e1
    have ej : i + (T.length - i - (skp (T.drop i)).length) + 1 = j := by omega
    refine ⟨by omega, sp q, .inr rfl, fun n => ?_⟩
    rw [e1, e, col_cons n, ← e, ej]
theorem due_of {q : Nat} {R : List Nat} (hq : q = 83 ∨ q = 70 ∨ q = 69 ∨ q = 77) (h45 : (q = 83 ∨ q = 69) → No 45 (skp R)) (hl : (q = 83 ∨ q = 70) → ∀ c r, skp R = c :: r → ¬ (120 ≤ c ∧ c ≤ 122)) : Due q R := by
  refine ⟨hq, fun c r e d => ?_⟩
  have c32 := skp_head R c r e
  have d := of_decide_eq_false d
  have n45 : (q = 83 ∨ q = 69) → c ≠ 45 := fun z y => h45 z r (by rw [e, y])
  have nl := fun z => hl z c r e
  have ff : fin q = false := by obtain rfl | rfl | rfl | rfl := hq <;> decide
  unfold nx
  rw [if_neg c32, if_neg d, ff]
  obtain rfl | rfl | rfl | rfl := hq
  · have a := n45 (.inl rfl)
    have b := nl (.inl rfl)
    repeat' split
    all_goals first | rfl | omega | simp_all
  · have b := nl (.inr rfl)
    repeat' split
    all_goals first | rfl | omega | simp_all
  · have a := n45 (.inr rfl)
    repeat' split
    all_goals first | rfl | omega | simp_all
  · repeat' split
    all_goals first | rfl | omega | simp_all
theorem ok_re (F : Fun K "read_exponent" "read_exponent" sRe f fd) (B : Blt mg) (Z : ScC K C) (Nw : Cl K mg "number_with" sNw ["figures"] fN dN) (Pw : Cl K mg "power_of" sPo ["base", "exponent"] fP dP) (gF : mg "FIGURES_arithmetic" = some (.int 60 tf))
    (Tk : Mt K C "took" "Scanner.took" sTook ["self", "sign"] fT dT') (Fg : MtD K C "figures" "Scanner.figures" sFig ["self", "most", "greatest"] fG dG)
    (GT : FnOk P w K mg base CX0 3 fT dT' ["self", "sign"] (spTook C)) (GG : FnOk P w K mg base (L2.CX P w) 5 fG dG ["self", "most", "greatest"] (spFig C CB)) : FnOk P w K mg base (L2.CX P w) 6 f fd ["scanner"] (spRe C CB) := by
  have GN : FnOk P w K mg base CX0 2 fN dN ["figures"] spNw := ok_nw Nw.fn B Pw gF
  refine F.okX scRe (fun vs H Q E h => ?_) (fun cdv A outer s H vs Q E hr h => ?_)
  · obtain ⟨s, T, i, rfl, _⟩ := h
    rfl
  · obtain ⟨s, T, i, rfl, at_, l590, q, qe⟩ := h
    have hr2 : Room 2 _ := hr.mono (by decide)
    have hr3 : Room 3 _ := hr.mono (by decide)
    refine ⟨_, pss_cons (ps_if (pt_not (pt_val (pe_meth (pv 0) Z.cl Tk.m GT hr3 Tk.b .nil pass0 (pa_cons pe_str pa_nil)))) (pss_one (ps_ret pe_int)) pss_nil)
      (Evl.pss_cut (ps_set (i := 1) scRe.nd rfl (Or.inl rfl) (pe_ifExp (pt_val (pe_meth (pv 0) Z.cl Tk.m GT hr3 Tk.b .nil pass0 (pa_cons pe_str pa_nil))) (pe_un un_neg pe_int) pe_int))
      (pss_one (ps_ret (pe_op op_mul (pv 1) (pe_call GN hr2 rfl Nw.g Nw.k Nw.b .nil pass0 (pa_cons (pe_meth (pv 0) Z.cl Fg.m GG hr Fg.b (.cons (show RelV V.non Value.none from rfl) .nil) (passes_call (takes_of rfl rfl rfl rfl) (fun _ _ _ _ h => h)) (pa_cons pe_non pa_nil)) pa_nil)))))), ?_⟩
    obtain ⟨dx, h1⟩ := at_.ex
    refine ⟨_, rfl, s, dx, _, rfl, h1, rfl, s, T, i, 94, rfl, at_, fun H2 j b a2 o2 yes no => ?_⟩
    obtain ⟨dx2, h2⟩ := a2.ex
    cases b with
    | false =>
      obtain ⟨e, n94⟩ := no rfl
      obtain ⟨c1, ij, _⟩ := skp_at (q := 76) (by decide) at_.le a2.le e (.inr trivial)
      refine ⟨_, rfl, iteT (q H2 j 76 1 a2 o2 ⟨ij, c1 rfl, .inl ⟨rfl, fun c r z => ⟨skp_head _ c r (by rw [← e]; exact z), fun y => n94 r (by rw [← e, z, y])⟩⟩⟩)⟩
    | true =>
      obtain ⟨ij, q1, hq1, c1⟩ := took_col (q := 76) (by decide) at_.le a2.le (yes rfl)
      have c1 : col 76 (T.drop i) i = col 69 (T.drop j) j := by
        obtain rfl | rfl := hq1 <;> exact c1 (by decide)
      refine ⟨_, rfl, iteF ?_⟩
      refine ⟨fun σ' H3 => ∃ (k q2 : Nat) (sg : Int), σ' = [some (.ref s), some (.int sg)] ∧ (sg = 1 ∨ sg = -1) ∧ At C s T k H3 ∧ Off s H H3 ∧ j ≤ k ∧ col 69 (T.drop j) j = col q2 (T.drop k) k ∧ Due q2 (T.drop k) ∧ (q2 = 69 ∨ q2 = 77), ?_, ?_⟩
      · refine ⟨_, rfl, s, dx2, _, rfl, h2, rfl, s, T, j, 45, rfl, a2, fun H3 k b3 a3 o3 yes3 no3 => ?_⟩
        cases b3 with
        | true =>
          obtain ⟨jk, q2, hq2, c2⟩ := took_col (q := 69) (by decide) a2.le a3.le (yes3 rfl)
          have c2 : col 69 (T.drop j) j = col 77 (T.drop k) k := by
            obtain rfl | rfl := hq2 <;> exact c2 (by decide)
          exact ⟨_, rfl, iteT ⟨_, rfl, k, 77, -1, rfl, .inr rfl, a3, o2.trans o3, Nat.le_of_lt jk, c2, due_of (.inr (.inr (.inr rfl))) (fun z => by omega) (fun z => by omega), .inr rfl⟩⟩
        | false =>
          obtain ⟨e, n45⟩ := no3 rfl
          obtain ⟨c2, jk, _⟩ := skp_at (q := 69) (by decide) a2.le a3.le e (.inr trivial)
          exact ⟨_, rfl, iteF ⟨k, 69, 1, rfl, .inl rfl, a3, o2.trans o3, jk, c2 rfl, due_of (.inr (.inr (.inl rfl))) (fun _ => by rw [e, skp_skp]; exact n45) (fun z => by omega), .inl rfl⟩⟩
      · rintro σ' H3 ⟨k, q2, sg, rfl, hsg, a3, o3, jk, c2, due, hq2⟩
        obtain ⟨dx3, h3⟩ := a3.ex
        refine ⟨_, rfl, _, rfl, s, dx3, _, rfl, h3, rfl, s, T, k, q2, rfl, a3, due, fun H4 l q' W a4 o4 fo => ?_, ?_⟩
        · obtain ⟨f1, f2, f3, f4, f5, f6⟩ := fo
          have wl : W.length ≤ 590 := by
            have := a4.le
            omega
          refine ⟨W, rfl, f1, f2, wl, fun m hm => ?_⟩
          refine ⟨_, _, rfl, rfl, .inl ⟨by omega, by omega⟩, ?_⟩
          refine q H4 l q' _ a4 (o3.trans o4) ⟨by omega, c1.trans (c2.trans f4), .inr ⟨?_, f6⟩⟩
          omega
        · rw [← c2, ← c1]
          exact fun H4 o4 => qe H4 (o3.trans o4)
end
end K16

namespace K16
open PySem L2 Gd Ply
theorem while_T {tb : TS} {D : Ends} {σ : L2.St} {H : Hp} (W : Nat → L2.St → Hp → Prop) (m : Nat) (h0 : W m σ H)
    (hs : ∀ m σ H, W m σ H → tb { D with nx := fun σ' H' => ∃ m', m' < m ∧ W m' σ' H', ct := fun σ' H' => ∃ m', m' < m ∧ W m' σ' H', bk := D.nx } σ H) : tWhile (fun σ H Q => ∃ b, V.bl true = V.bl b ∧ Q b H) tb D σ H :=
  ⟨W, ⟨m, h0⟩, fun m σ H h => ⟨true, rfl, iteT ⟨_, fun _ _ h => h, hs m σ H h⟩⟩⟩
/-! ### a written tuple of texts -/
def keyS : Value → Option Str
  | .str z _ => some z
  | _ => none
def allS : List Value → Option (List Str)
  | [] => some []
  | v :: r => match keyS v, allS r with
    | some i, some is => some (i :: is)
    | _, _ => none
def tupS (K : PySem.W.Frag) : Value → Option (List Str)
  | .ref a => match K.lookup a with
    | some ⟨.type "tuple", none, .seq us _, _⟩ => allS us.toList
    | _ => none
  | _ => none
theorem keyS_some {v : Value} {i : Str} (h : keyS v = some i) : ∃ t, v = .str i t := by
  cases v <;> simp_all [keyS]
theorem allS_some : ∀ {us : List Value} {is : List Str}, allS us = some is → Vals (is.map V.str) us := by
  intro us
  induction us with
  | nil =>
    intro is h
    cases h
    exact .nil
  | cons v r ih =>
    intro is h
    unfold allS at h
    split at h
    · rename_i i l e1 e2
      cases h
      obtain ⟨t, rfl⟩ := keyS_some e1
      exact .cons ⟨t, rfl⟩ (ih e2)
    · cases h
theorem tupS_in {K : PySem.W.Frag} {a : Addr} {is : List Str} (h : tupS K (.ref a) = some is) (few : is.length ≤ 1000) (H : Hp) : SqT K H a (is.map V.str) := by
  unfold tupS at h
  simp only at h
  split at h
  · rename_i us n sl e
    have rv := allS_some h
    refine .inr ⟨_, us, n, e, rfl, rfl, ?_, rv⟩
    have z := Paired.length rv
    have z2 : us.toList.length = us.size := Array.length_toList
    rw [← z2, ← z, List.length_map]
    exact Nat.le_of_lt (small1000 few)
  · cases h
abbrev xyz : List V := (["x", "y", "z"] : List Str).map V.str
theorem xyz_in (c : Nat) : inV (.str (SX.S [c])) xyz = decide (120 ≤ c ∧ c ≤ 122) := by
  have e : ∀ d : Nat, (SX.S [d] == SX.S [c]) = decide (d = c) := fun d => by
    rw [SX.S_beq_eq, decide_eq_decide]
    exact ⟨fun h => by injection h, fun h => by rw [h]⟩
  show ((SX.S [120] == SX.S [c]) || ((SX.S [121] == SX.S [c]) || ((SX.S [122] == SX.S [c]) || false))) = _
  rw [e, e, e, Bool.or_false, ← Bool.decide_or, ← Bool.decide_or, decide_eq_decide]
  omega
theorem xyz_e : inV (.str (SX.S [])) xyz = false := by decide +kernel
theorem xyz_yes : ∀ a : Nat, a < 3 → (["x", "y", "z"] : List Str)[a]? = some (SX.S [120 + a]) ∧ ∀ m, m < a → (["x", "y", "z"] : List Str)[m]? ≠ some (SX.S [120 + a]) := by
  intro a h
  match a, h with
  | 0, _ => exact ⟨rfl, fun m h => absurd h (Nat.not_lt_zero _)⟩
  | 1, _ => exact ⟨rfl, fun m h => by
      obtain rfl : m = 0 := by omega
      decide +kernel⟩
  | 2, _ => exact ⟨rfl, fun m h => by
      match m, h with
      | 0, _ => decide +kernel
      | 1, _ => decide +kernel⟩
/-- behind a term -/
def TermOk (T : List Nat) (i q j q' : Nat) : Prop := i < j ∧ col q (T.drop i) i = col q' (T.drop j) j ∧ fin q' = true ∧ ∀ c r, T.drop j = c :: r → c ≠ 32 ∧ c ≠ 42 ∧ (c ≠ 43 → c ≠ 45 → nx q' c = 0)
def spRt (C CB : Addr) : Sp := fun vs H Q E => ∃ s T i q g, vs = [.ref s, .int g] ∧ At C s T i H ∧ T.length ≤ 590 ∧ (q = 83 ∨ q = 70) ∧ (q = 83 → No 45 (skp (T.drop i))) ∧ g.natAbs ≤ 1 ∧
  (∀ H' j q' t b (k : List Int) n, At C s T j H' → Off s H H' → TermOk T i q j q' → H' t = some (.tup [.ref b, .int n]) → H' b = some (.tup (k.map V.int)) → k.length = 3 → Q (.ref t) H') ∧ RCol CB s (col q (T.drop i) i) H E
theorem nx_zero {q c : Nat} (f : fin q = true) (h32 : c ≠ 32) (h42 : c ≠ 42) (h43 : c ≠ 43) (h45 : c ≠ 45) (hd : (q = 78 ∨ q = 88) → isDg c = false) (h94 : q = 76 → c ≠ 94) : nx q c = 0 := by
  have hd : (q = 78 ∨ q = 88) → ¬ (48 ≤ c ∧ c ≤ 57) := fun z => of_decide_eq_false (hd z)
  unfold nx
  rw [if_neg h32]
  obtain rfl | rfl | rfl | rfl | rfl | rfl := fin_cases f
  · have a := hd (.inl rfl)
    repeat' split
    all_goals first | rfl | omega | simp_all
  · repeat' split
    all_goals first | rfl | omega | simp_all
  · have a := h94 rfl
    repeat' split
    all_goals first | rfl | omega | simp_all
  · have a := hd (.inr rfl)
    repeat' split
    all_goals first | rfl | omega | simp_all
  · repeat' split
    all_goals first | rfl | omega | simp_all
  · repeat' split
    all_goals first | rfl | omega | simp_all
theorem nx_sign {q c : Nat} (f : fin q = true) (h : c = 42 ∨ c = 43 ∨ c = 45) : nx q c = 70 := by
  have g : ∀ q, (q = 78 ∨ q = 90 ∨ q = 76 ∨ q = 88 ∨ q = 79 ∨ q = 65) → ∀ c, (c = 42 ∨ c = 43 ∨ c = 45) → nx q c = 70 := by
    rintro q (rfl | rfl | rfl | rfl | rfl | rfl) c (rfl | rfl | rfl) <;> decide
  exact g q (fin_cases f) c h
/-- behind a factor -/
def AF (q : Nat) (R : List Nat) : Prop := (q = 76 ∧ ∀ c r, R = c :: r → c ≠ 32 ∧ c ≠ 94) ∨ ((q = 88 ∨ q = 79 ∨ q = 78 ∨ q = 90) ∧ hdDg R = false)
theorem AF.fin {q : Nat} {R : List Nat} (h : AF q R) : fin q = true := by
  obtain ⟨rfl, _⟩ | ⟨rfl | rfl | rfl | rfl, _⟩ := h <;> decide
end K16

namespace K16
open PySem L2 Gd Ply
/-- what the loop keeps -/
def RtI (C s x : Addr) (T : List Nat) (H : Hp) (i q : Nat) (m : Nat) (σ : L2.St) (H2 : Hp) : Prop :=
  ∃ (j q1 : Nat) (k : List Int) (n : Int) (z3 z4 : Option V), σ = [some (.ref s), some (.int n), some (.ref x), z3, z4] ∧ T.length - j = m ∧ H2 x = some (.lst (k.map V.int)) ∧ k.length = 3 ∧ At C s T j H2 ∧ (q1 = 83 ∨ q1 = 70) ∧ (q1 = 83 → No 45 (skp (T.drop j))) ∧ i ≤ j ∧
    col q (T.drop i) i = col q1 (T.drop j) j ∧ n.natAbs < 2 ^ (1 + 4 * j) ∧ Off s H H2
theorem ten_pow (n : Nat) : 10 ^ n ≤ 2 ^ (4 * n) := by
  rw [Nat.pow_mul]
  exact Nat.pow_le_pow_left (by decide) n
section
variable {P : Program} {w : World} {K : PySem.W.Frag} {mg : Str → Option Value} {base : Heap}
variable {C CB f fP fN fH fS fK fT fG fR LP : Addr} {fd dP dN dH dS dK dT' dG dR : FuncData} {tk tf : Tok}
abbrev sRt : Stmt := top 39
abbrev NRt : List Str := ["scanner", "number", "exponents", "letter", "at"]
theorem scRt : FnScope NRt ["scanner", "number"] (defScope sRt) := ⟨rfl, rfl, rfl, by decide +kernel, rfl, by decide +kernel, by decide +kernel⟩
theorem ok_rt (F : Fun K "read_term" "read_term" sRt f fd) (B : Blt mg) (Z : ScC K C) (gL : mg "LETTERS_powers" = some (.ref LP)) (tL : tupS K (.ref LP) = some (["x", "y", "z"] : List Str))
    (Hr : Mt K C "here" "Scanner.here" sHere ["self"] fH dH) (St : Mt K C "step_on" "Scanner.step_on" sStep ["self"] fS dS) (Sk : Mt K C "skip" "Scanner.skip" sSkip ["self"] fK dK)
    (Tk : Mt K C "took" "Scanner.took" sTook ["self", "sign"] fT dT') (Fg : MtD K C "figures" "Scanner.figures" sFig ["self", "most", "greatest"] fG dG)
    (Nw : Cl K mg "number_with" sNw ["figures"] fN dN) (Re : Cl K mg "read_exponent" sRe ["scanner"] fR dR)
    (GH : FnOk P w K mg base CX0 1 fH dH ["self"] (spHere C)) (GS : FnOk P w K mg base CX0 1 fS dS ["self"] (spStep C)) (GK : FnOk P w K mg base CX0 2 fK dK ["self"] (spSkip C))
    (GT : FnOk P w K mg base CX0 3 fT dT' ["self", "sign"] (spTook C)) (GG : FnOk P w K mg base (L2.CX P w) 5 fG dG ["self", "most", "greatest"] (spFig C CB))
    (GN : FnOk P w K mg base CX0 2 fN dN ["figures"] spNw) (GR : FnOk P w K mg base (L2.CX P w) 6 fR dR ["scanner"] (spRe C CB)) : FnOk P w K mg base (L2.CX P w) 7 f fd ["scanner", "number"] (spRt C CB) := by
  refine F.okX scRt (fun vs H Q E h => ?_) (fun cdv A outer s0 H vs Q E hr h => ?_)
  · obtain ⟨s, T, i, q, g, rfl, _⟩ := h
    rfl
  · obtain ⟨s, T, i, q, g, rfl, at_, l590, hq, h45, g1, qk, qe⟩ := h
    have hr1 : Room 1 _ := hr.mono (by decide)
    have hr2 : Room 2 _ := hr.mono (by decide)
    have hr3 : Room 3 _ := hr.mono (by decide)
    have hr5 : Room 5 _ := hr.mono (by decide)
    have hL : ∀ H, SqT K H LP xyz := fun H => tupS_in tL (by decide) H
    refine ⟨_, pss_cons (ps_set (i := 2) scRt.nd rfl (Or.inl rfl) (pe_lst (pa_cons pe_int (pa_cons pe_int (pa_cons pe_int pa_nil)))))
      (pss_one (ps_while (passes_of rfl) (pt_val pe_bl)
        (pss_cons (ps_expr (pe_meth0 (pv 0) Z.cl Sk.m GK hr2 Sk.b .nil pass0))
        (pss_cons (ps_set (i := 3) scRt.nd rfl (Or.inl rfl) (pe_meth0 (pv 0) Z.cl Hr.m GH hr1 Hr.b .nil pass0))
        (Evl.pss_cut (ps_if (pt_cmpR op_in_seq (pv 3) (pe_glob (v := .ref LP) rfl gL rfl) (by rfl))
            (pss_cons (ps_expr (pe_meth0 (pv 0) Z.cl St.m GS hr1 St.b .nil pass0))
            (pss_cons (ps_set (i := 4) scRt.nd rfl (Or.inl rfl) (pe_bm PySem.F.plainAttrs_tuple PySem.F.slot_tuple_index PySem.F.type_tuple_index mt_tup_index (pe_glob (v := .ref LP) rfl gL rfl) (pa_cons (pv 3) pa_nil)))
            (pss_one (ps_asg (pe_op op_add (pe_ix ix_list (pv 2) (pv 4) (fun _ _ => rfl)) (pe_call GR hr rfl Re.g Re.k Re.b .nil (passes_call (takes_of rfl rfl rfl rfl) (fun _ _ _ _ h => h)) (pa_cons (pv 0) pa_nil))) (pg_sub (pv 2) (pv 4) set_list)))))
            (pss_one (ps_set (i := 1) scRt.nd rfl (Or.inl rfl) (pe_op op_mulW (pv 1) (pe_call GN hr2 rfl Nw.g Nw.k Nw.b .nil pass0 (pa_cons (pe_meth (pv 0) Z.cl Fg.m GG hr5 Fg.b (.cons (show RelV V.non Value.none from rfl) .nil) (passes_call (takes_of rfl rfl rfl rfl) (fun _ _ _ _ h => h)) (pa_cons pe_non pa_nil)) pa_nil))))))
        (pss_one (ps_if (pt_not (pt_val (pe_meth (pv 0) Z.cl Tk.m GT hr3 Tk.b .nil pass0 (pa_cons pe_str pa_nil))))
          (pss_one (ps_ret (pe_tup (pa_cons (pe_callTy call_tuple_of (by rfl) B.tup_ (by decide +kernel) (pa_cons (pv 2) pa_nil)) (pa_cons (pv 1) pa_nil))))) pss_nil))))))), ?_⟩
    refine ⟨by show 3 ≤ sizeLine; decide, fun x nx0 => ?_⟩
    have o1 : Off s H (upd H x (.lst [.int 0, .int 0, .int 0])) := Off.of (new_more nx0)
    obtain ⟨dx0, hs0⟩ := at_.ex
    have nsx : s ≠ x := ne_of_none hs0 nx0
    have a1 : At C s T i (upd H x (.lst [.int 0, .int 0, .int 0])) := at_.off (upd_ne nsx)
    have hx1 : (upd H x (.lst [.int 0, .int 0, .int 0])) x = some (.lst (([0, 0, 0] : List Int).map V.int)) := upd_same
    generalize upd H x (.lst [.int 0, .int 0, .int 0]) = H1 at o1 a1 hx1 ⊢
    refine while_T (RtI C s x T H i q) (T.length - i) ⟨i, q, [0, 0, 0], g, _, _, rfl, rfl, hx1, rfl, a1, hq, h45, Nat.le_refl _, rfl, ?_, o1⟩ ?_
    · exact Nat.lt_of_le_of_lt g1 (Nat.one_lt_two_pow (by omega))
    clear o1 a1 hx1 g1
    rintro m σ H2 ⟨j, q1, k, n, z3, z4, rfl, rfl, hx2, k3, a2, hq1, n45, ij, cc, nb, o2⟩
    obtain ⟨dx2, h2⟩ := a2.ex
    refine ⟨_, rfl, s, dx2, _, rfl, h2, rfl, s, T, j, rfl, a2, fun H3 j3 a3 e3 o3 => ?_⟩
    obtain ⟨dx3, h3⟩ := a3.ex
    have hx3 := o3 x _ hx2 nsx.symm
    have q0 : q1 ≠ 0 ∧ sp q1 = q1 := by obtain rfl | rfl := hq1 <;> decide
    obtain ⟨c3, j3j, _⟩ := skp_at q0.1 a2.le a3.le e3 (.inr trivial)
    have c3 := c3 q0.2
    have o23 := o2.trans o3
    refine ⟨_, rfl, s, dx3, _, rfl, h3, rfl, s, T, j3, rfl, a3, ?_⟩
    refine ⟨fun σ' H' => ∃ (j5 q5 : Nat) (k5 : List Int) (n5 : Int) (z3 z4 : Option V), σ' = [some (.ref s), some (.int n5), some (.ref x), z3, z4] ∧ H' x = some (.lst (k5.map V.int)) ∧ k5.length = 3 ∧ At C s T j5 H' ∧ j3 < j5 ∧ col q1 (T.drop j3) j3 = col q5 (T.drop j5) j5 ∧ AF q5 (T.drop j5) ∧
      n5.natAbs < 2 ^ (1 + 4 * j5) ∧ Off s H H', ?_, ?_⟩
    · refine ⟨_, rfl, LP, _, rfl, .inr (hL _), rfl, flat_strs _, _, rfl, ?_⟩
      by_cases let_ : ∃ a r, a < 3 ∧ T.drop j3 = (120 + a) :: r
      · obtain ⟨a, r, a3', er⟩ := let_
        obtain ⟨lt3, d3⟩ := drop_lt er
        obtain ⟨y2, y3⟩ := xyz_yes a a3'
        have e1 : (T.drop j3).take 1 = [120 + a] := by rw [er]; rfl
        rw [e1]
        have y1 : inV (.str (SX.S [120 + a])) xyz = true := by rw [xyz_in]; exact decide_eq_true (by omega)
        refine ite2 (fun _ => ?_) (fun z => absurd y1 z)
        refine ⟨_, rfl, s, dx3, _, rfl, h3, rfl, s, T, j3, rfl, a3, lt3, fun H4 a4 o4 => ?_⟩
        obtain ⟨dx4, h4⟩ := a4.ex
        have hx4 := o4 x _ hx3 nsx.symm
        obtain ⟨lo, hlo⟩ : ∃ lo, K.lookup LP = some lo ∧ lo.cls = .type "tuple" ∧ lo.dict = none := by
          have t := tL
          unfold tupS at t
          simp only at t
          split at t
          · rename_i ea
            exact ⟨_, ea, rfl, rfl⟩
          · cases t
        refine ⟨.inr (.inl ⟨rfl, lo, hlo⟩), _, rfl, LP, _, _, a, rfl, rfl, hL _, y2, y3, ?_⟩
        have ka : a < k.length := by omega
        have hka : (k.map V.int)[a]? = some (V.int (k.getD a 0)) := by
          rw [List.getElem?_map, List.getD_eq_getElem?_getD, List.getElem?_eq_getElem ka]
          rfl
        have nx7 : nx q1 (120 + a) = 76 := by
          have g : ∀ a : Nat, a < 3 → nx 83 (120 + a) = 76 ∧ nx 70 (120 + a) = 76 := by decide
          obtain rfl | rfl := hq1
          · exact (g a a3').1
          · exact (g a a3').2
        have c4 : col q1 (T.drop j3) j3 = col 76 (T.drop (j3 + 1)) (j3 + 1) := by
          rw [er, col_cons (by rw [nx7]; decide), nx7, d3]
        refine ⟨_, rfl, _, rfl, x, _, _, _, rfl, rfl, SqL.of hx4, atI_nat hka, _, rfl, s, T, j3 + 1, rfl, a4, l590, fun H5 j5 q' e a5 o5 eo => ?_, ?_⟩
        · have hx5 := o5 x _ hx4 nsx.symm
          obtain ⟨f1, f2, f3⟩ := eo
          refine ⟨_, _, rfl, rfl, _, rfl, _, rfl, x, _, _, a, rfl, rfl, hx5, ?_, ?_⟩
          · unfold ixN
            rw [List.length_map, if_pos (Int.natCast_nonneg _), if_pos (by omega), Int.toNat_natCast]
          · refine ⟨j5, q', k.set a (k.getD a 0 + e), n, _, _, rfl, ?_, by rw [List.length_set]; exact k3, a5.off (upd_ne nsx), by omega, c4.trans f2, ?_, ?_, fun b o hb nb => ?_⟩
            · rw [upd_same, List.map_set]
            · obtain ⟨z1, z2⟩ | ⟨z1 | z1, z2⟩ := f3
              · exact .inl ⟨z1, z2⟩
              · exact .inr ⟨.inl z1, z2⟩
              · exact .inr ⟨.inr (.inl z1), z2⟩
            · exact Nat.lt_of_lt_of_le nb (Nat.pow_le_pow_right (by decide) (by omega))
            · rw [upd_ne (ne_of_none hb nx0)]
              exact (o23.trans (o4.trans o5)) b o hb nb
        · rw [← c4, ← c3, ← cc]
          exact fun H5 o5 => qe H5 ((o23.trans o4).trans o5)
      · have y1 : inV (.str (SX.S ((T.drop j3).take 1))) xyz = false := by
          cases e : T.drop j3 with
          | nil => exact xyz_e
          | cons c r =>
            show inV (.str (SX.S [c])) xyz = false
            rw [xyz_in]
            exact decide_eq_false fun z => let_ ⟨c - 120, r, by omega, by rw [e, show 120 + (c - 120) = c by omega]⟩
        refine ite2 (fun z => absurd z (by rw [y1]; decide)) (fun _ => ?_)
        have due : Due q1 (T.drop j3) := by
          refine due_of (hq1.imp id fun z => .inl z) (fun z => ?_) (fun _ c r e z => let_ ⟨c - 120, r, by omega, ?_⟩)
          · rw [e3, skp_skp]
            exact n45 (by omega)
          · rw [e3, skp_skp] at e
            rw [e3, e, show 120 + (c - 120) = c by omega]
        refine ⟨_, rfl, _, rfl, s, dx3, _, rfl, h3, rfl, s, T, j3, q1, rfl, a3, due, fun H4 j5 q' W a4 o4 fo => ?_, ?_⟩
        · have hx4 := o4 x _ hx3 nsx.symm
          obtain ⟨f1, f2, f3, f4, f5, f6⟩ := fo
          have wp : 0 < W.length := List.length_pos_iff.mpr f2
          have a4l := a4.le
          refine ⟨W, rfl, f1, f2, by omega, fun m hm => ?_⟩
          have mb : ((m : Int)).natAbs < 2 ^ (4 * W.length) := Nat.lt_of_lt_of_le hm (ten_pow _)
          refine ⟨_, _, rfl, rfl, wide_mul nb mb (by omega) (by omega) (by omega), ?_⟩
          refine ⟨j5, q', k, n * m, _, _, rfl, hx4, k3, a4, by omega, f4, .inr ⟨by omega, f6⟩, ?_, o23.trans o4⟩
          exact Nat.lt_of_lt_of_le (wide_lt nb mb) (Nat.pow_le_pow_right (by decide) (by omega))
        · rw [← c3, ← cc]
          exact fun H5 o5 => qe H5 (o23.trans o5)
    · rintro σ5 H5 ⟨j5, q5, k5, n5, z3, z4, rfl, hx5, k5l, a5, jj5, c5, af, nb5, o5⟩
      obtain ⟨dx5, h5⟩ := a5.ex
      have ff := af.fin
      refine ⟨_, rfl, s, dx5, _, rfl, h5, rfl, s, T, j5, 42, rfl, a5, fun H6 j6 b a6 o6 yes no => ?_⟩
      have hx6 := o6 x _ hx5 nsx.symm
      have o56 := o5.trans o6
      have a6l := a6.le
      cases b with
      | true =>
        obtain ⟨jj6, q6, hq6, c6⟩ := took_col (fin_ne ff) a5.le a6.le (yes rfl)
        have f6 : fin q6 = true := by
          obtain rfl | rfl := hq6
          · exact ff
          · exact fin_sp ff
        have n6 := nx_sign f6 (c := 42) (.inl rfl)
        have c6 := c6 (by rw [n6]; decide)
        rw [n6] at c6
        refine ⟨_, rfl, iteF ⟨T.length - j6, by omega, j6, 70, k5, n5, _, _, rfl, rfl, hx6, k5l, a6, .inr rfl, (fun z => by cases z), by omega, cc.trans (c3.trans (c5.trans c6)), Nat.lt_of_lt_of_le nb5 (Nat.pow_le_pow_right (by decide) (by omega)), o56⟩⟩
      | false =>
        obtain ⟨e6, n42⟩ := no rfl
        obtain ⟨_, jj6, cs⟩ := skp_at (fin_ne ff) a5.le a6.le e6 (.inr trivial)
        refine ⟨_, rfl, iteT ⟨_, rfl, x, _, rfl, .inl ⟨SqL.of hx6, fun t nt => ⟨_, rfl, by show 2 ≤ sizeLine; decide, fun t2 nt2 => ?_⟩⟩⟩⟩
        have nst : s ≠ t := by
          obtain ⟨dx6, h6⟩ := a6.ex
          exact ne_of_none h6 nt
        have nst2 : s ≠ t2 := by
          obtain ⟨dx6, h6⟩ := a6.ex
          exact ne_of_none (new_more nt _ _ h6) nt2
        obtain ⟨q6, f6, c6, w6⟩ : ∃ q6, fin q6 = true ∧ col q5 (T.drop j5) j5 = col q6 (T.drop j6) j6 ∧ ∀ c r, T.drop j6 = c :: r → c ≠ 32 ∧ c ≠ 42 ∧ (c ≠ 43 → c ≠ 45 → nx q6 c = 0) := by
          have hd : ∀ c r, T.drop j6 = c :: r → c ≠ 32 ∧ c ≠ 42 := fun c r z => ⟨skp_head _ c r (by rw [← e6]; exact z), fun y => n42 r (by rw [← e6, z, y])⟩
          obtain rfl | cs := cs
          · refine ⟨q5, ff, rfl, fun c r z => ⟨(hd c r z).1, (hd c r z).2, fun n43 n45 => ?_⟩⟩
            refine nx_zero ff (hd c r z).1 (hd c r z).2 n43 n45 (fun y => ?_) (fun y => ?_)
            · obtain ⟨y2, _⟩ | ⟨_, y2⟩ := af
              · omega
              · rw [z] at y2
                exact y2
            · obtain ⟨_, y2⟩ | ⟨y2, _⟩ := af
              · exact (y2 c r z).2
              · omega
          · by_cases y7 : q5 = 76
            · subst y7
              have e5 : T.drop j6 = T.drop j5 := by
                obtain ⟨_, y2⟩ | ⟨y2, _⟩ := af
                · rw [e6]
                  cases z : T.drop j5 with
                  | nil => rfl
                  | cons c r => exact skp_ne (y2 c r z).1
                · omega
              refine ⟨76, rfl, cs, fun c r z => ⟨(hd c r z).1, (hd c r z).2, fun n43 n45 => ?_⟩⟩
              refine nx_zero (q := 76) (by decide) (hd c r z).1 (hd c r z).2 n43 n45 (fun y => by omega) (fun _ => ?_)
              obtain ⟨_, y2⟩ | ⟨y2, _⟩ := af
              · exact (y2 c r (by rw [← e5]; exact z)).2
              · omega
            · have e65 : sp q5 = 65 := by
                obtain ⟨y2, _⟩ | ⟨rfl | rfl | rfl | rfl, _⟩ := af
                · exact absurd y2 y7
                all_goals decide
              rw [e65] at cs
              exact ⟨65, rfl, cs, fun c r z => ⟨(hd c r z).1, (hd c r z).2, fun n43 n45 => nx_zero (q := 65) (by decide) (hd c r z).1 (hd c r z).2 n43 n45 (fun y => by omega) (fun y => by omega)⟩⟩
        refine qk _ j6 q6 t2 t k5 n5 ((a6.off (upd_ne nst)).off (upd_ne nst2)) (o56.trans (Off.of ((new_more nt).new nt2))) ⟨by omega, cc.trans (c3.trans (c5.trans c6)), f6, w6⟩ upd_same ?_ k5l
        rw [upd_ne (ne_of_none upd_same nt2)]
        exact upd_same
end
end K16

namespace K16
open PySem L2 Gd Ply
theorem terms_ok {K : PySem.W.Frag} {H : Hp} {L : List It3} (h : ∀ e ∈ L, H e.p = some (.tup [.ref e.b, .int e.n]) ∧ H e.b = some (.tup (e.k.map V.int))) (t : ∀ e ∈ L, e.k.length = 3) :
    Paired (fun x (e : List Int × Int) => Trm K H x e.1 e.2) (L.map fun e => V.ref e.p) (L.map fun e => (e.k, e.n)) := by
  induction L with
  | nil => exact .nil
  | cons e L ih =>
    obtain ⟨h1, h2⟩ := h e (.head _)
    exact .cons ⟨e.p, e.b, rfl, .inr (SqT.of h1), .inr h2, t e (.head _)⟩ (ih (fun x hx => h x (.tail _ hx)) fun x hx => t x (.tail _ hx))
theorem rt_new {H : Hp} {L : List It3} {t b : Addr} {k : List Int} {n : Int} (h : ∀ e ∈ L, H e.p = some (.tup [.ref e.b, .int e.n]) ∧ H e.b = some (.tup (e.k.map V.int))) (h1 : H t = some (.tup [.ref b, .int n])) (h2 : H b = some (.tup (k.map V.int))) :
    ∀ e ∈ L ++ [(⟨t, b, k, n⟩ : It3)], H e.p = some (.tup [.ref e.b, .int e.n]) ∧ H e.b = some (.tup (e.k.map V.int)) := by
  intro e he
  rcases List.mem_append.mp he with he | he
  · exact h e he
  · rw [List.mem_singleton] at he
    subst he
    exact ⟨h1, h2⟩
theorem at_lst {C s l : Addr} {T : List Nat} {i : Nat} {H : Hp} {xs : List V} (a : At C s T i H) (h : H l = some (.lst xs)) : l ≠ s := by
  obtain ⟨dx, h1⟩ := a.ex
  exact ne_of h h1 (by intro z; cases z)
theorem o3none {C s l : Addr} {T : List Nat} {j : Nat} {H H3 : Hp} {o : HO} (o3 : Off s H H3) (nl : H3 l = none) (hs : H s = some o) (a3 : At C s T j H3) : H l = none := by
  cases e : H l with
  | none => rfl
  | some u =>
    have ne : l ≠ s := fun z => by
      obtain ⟨dx, h⟩ := a3.ex
      rw [z, h] at nl
      cases nl
    rw [o3 l u e ne] at nl
    cases nl
theorem drop_inj {T : List Nat} {i j : Nat} (hi : i ≤ T.length) (hj : j ≤ T.length) (e : T.drop i = T.drop j) : i = j := by
  have l := congrArg List.length e
  rw [List.length_drop, List.length_drop] at l
  omega
/-- behind a sum -/
def SumOk (T : List Nat) (j q' : Nat) : Prop := col 83 T 0 = col q' (T.drop j) j ∧ fin q' = true ∧ ∀ c r, T.drop j = c :: r → c ≠ 32 ∧ nx q' c = 0
def spEnd (C CB : Addr) : Sp := fun vs H Q E => ∃ s T i, vs = [.ref s] ∧ At C s T i H ∧ skp (T.drop i) = T.drop i ∧ (T.drop i = [] → ∀ H', Off s H H' → Q .non H') ∧ (T.drop i ≠ [] → RCol CB s (i + 1) H E)
def spRp (C CB : Addr) : Sp := fun vs H Q E => ∃ s T, vs = [.ref s] ∧ At C s T 0 H ∧ T.length ≤ 590 ∧ (∀ H' j q' a, At C s T j H' → Off s H H' → SumOk T j q' → Q (.ref a) H') ∧ RCol CB s (col 83 T 0) H E
def spPf (CB : Addr) : Sp := fun vs H Q E => ∃ T, vs = [.str (SX.S T)] ∧ T.length ≤ 590 ∧ (col 83 T 0 = 0 → ∀ H' a, More H H' → Q (.ref a) H') ∧
  (col 83 T 0 ≠ 0 → ∀ H1, More H H1 → ∀ d, H1 d = none → E (.ref CB) (some d) (upd H1 d (.xd [("column", .int (col 83 T 0 : Int))])))
/-- what the loop keeps -/
def RpI (C s L0 : Addr) (T : List Nat) (H : Hp) (m : Nat) (σ : L2.St) (H2 : Hp) : Prop :=
  ∃ (j q1 : Nat) (L : List It3), σ = [some (.ref s), some (.ref L0)] ∧ T.length - j = m ∧ 2 * L.length ≤ j + 1 ∧ H2 L0 = some (.lst (L.map fun e => V.ref e.p)) ∧
    (∀ e ∈ L, H2 e.p = some (.tup [.ref e.b, .int e.n]) ∧ H2 e.b = some (.tup (e.k.map V.int))) ∧ (∀ e ∈ L, e.k.length = 3) ∧ At C s T j H2 ∧
    col 83 T 0 = col q1 (T.drop j) j ∧ fin q1 = true ∧ (∀ c r, T.drop j = c :: r → c ≠ 32 ∧ c ≠ 42 ∧ (c ≠ 43 → c ≠ 45 → nx q1 c = 0)) ∧ Off s H H2 ∧ H L0 = none
section
variable {P : Program} {w : World} {K : PySem.W.Frag} {mg : Str → Option Value} {base : Heap}
variable {C CP CB CR f fT fRt fI gi gs gr gt gb fH fS fK fF fB : Addr} {fd dT' dRt dI' di ds dr' dt db dH dS dK dF fdB : FuncData}
abbrev sRp : Stmt := top 38
abbrev sPf : Stmt := top 37
theorem scRp : FnScope ["scanner", "terms"] ["scanner"] (defScope sRp) := ⟨rfl, rfl, rfl, by decide +kernel, rfl, by decide +kernel, by decide +kernel⟩
theorem scPf : FnScope ["text", "scanner", "powers"] ["text"] (defScope sPf) := ⟨rfl, rfl, rfl, by decide +kernel, rfl, by decide +kernel, by decide +kernel⟩
theorem ok_end (F : Fun K "end" "Scanner.end" sEnd f fd) (Z : ScC K C) (Hr : Mt K C "here" "Scanner.here" sHere ["self"] fH dH) (St : Mt K C "step_on" "Scanner.step_on" sStep ["self"] fS dS)
    (Sk : Mt K C "skip" "Scanner.skip" sSkip ["self"] fK dK) (Fa : Mt K C "fail" "Scanner.fail" sFail ["self"] fF dF) (Br : Er K mg "BadText" "BadText.__init__" CB fB ["column"] sBadText fdB) : FnOk P w K mg base (L2.CX P w) 4 f fd ["self"] (spEnd C CB) := by
  have GH : FnOk P w K mg base CX0 1 fH dH ["self"] (spHere C) := ok_here Hr.fn Z
  have GF : FnOk P w K mg base (L2.CX P w) 3 fF dF ["self"] (spFail C CB) := ok_fail Fa.fn Z Br
  have GK : FnOk P w K mg base CX0 2 fK dK ["self"] (spSkip C) := ok_skip Sk.fn Z Hr St
  refine F.okX scEnd (fun vs H Q E h => ?_) (fun cdv A outer s H vs Q E hr h => ?_)
  · obtain ⟨s, T, i, rfl, _⟩ := h
    rfl
  · obtain ⟨s, T, i, rfl, at_, sk, q, qe⟩ := h
    refine ⟨_, pss_cons (ps_expr (pe_meth0 (pv 0) Z.cl Sk.m GK (hr.mono (by decide)) Sk.b .nil pass0))
      (pss_one (ps_if (pt_cmpR op_ne (pe_meth0 (pv 0) Z.cl Hr.m GH (hr.mono (by decide)) Hr.b .nil pass0) pe_str (nomark _))
        (pss_one (ps_expr (pe_meth0 (pv 0) Z.cl Fa.m GF (hr.mono (by decide)) Fa.b .nil (passes_call (takes_of rfl rfl rfl rfl) (fun _ _ _ _ h => h))))) pss_nil)), ?_⟩
    obtain ⟨dx, h1⟩ := at_.ex
    refine ⟨_, rfl, s, dx, _, rfl, h1, rfl, s, T, i, rfl, at_, fun H2 j a2 ej o2 => ?_⟩
    obtain ⟨dx2, h2⟩ := a2.ex
    rw [sk] at ej
    obtain rfl := drop_inj a2.le at_.le ej
    refine ⟨_, rfl, s, dx2, _, rfl, h2, rfl, s, T, j, rfl, a2, rfl, _, rfl, ?_⟩
    rw [take_one_no]
    by_cases e : T.drop j = []
    · rw [decide_eq_true e]
      exact iteF (q e H2 o2)
    · rw [decide_eq_false e]
      exact iteT ⟨_, rfl, s, dx2, _, rfl, h2, rfl, s, T, j, rfl, a2, fun H3 o3 => qe e H3 (o2.trans o3)⟩
theorem ok_rp (F : Fun K "read_powers" "read_powers" sRp f fd) (B : Blt mg) (B2 : Blt2 mg) (Z : ScC K C) (W : PwC K mg CP) (M : Mk K CP fI) (FI : Fun K "__init__" "Powers.__init__" sPw fI dI') (bI : Binds K dI' ["self", "terms"] [])
    (I : Cl K mg "is_integer" sIsI ["value"] gi di) (S : Cl K mg "is_integers" sIsIs ["value"] gs ds) (R : Cl K mg "is_row" sRow ["value", "width"] gr dr') (T : Cl K mg "is_term" sTerm ["item"] gt dt)
    (Br : Er K mg "BadRow" "BadRow.__init__" CR gb ["row"] sBadRow db)
    (Tk : Mt K C "took" "Scanner.took" sTook ["self", "sign"] fT dT') (GT : FnOk P w K mg base CX0 3 fT dT' ["self", "sign"] (spTook C))
    (Rt : Cl K mg "read_term" sRt ["scanner", "number"] fRt dRt) (GR : FnOk P w K mg base (L2.CX P w) 7 fRt dRt ["scanner", "number"] (spRt C CB)) : FnOk P w K mg base (L2.CX P w) 8 f fd ["scanner"] (spRp C CB) := by
  have GI : FnOk P w K mg base (L2.CX P w) 6 fI dI' ["self", "terms"] (spInit K CP CR) := ok_init FI B B2 W.ic.cl W.n1 W.n2 W.n3 I S R T Br
  refine F.okX scRp (fun vs H Q E h => ?_) (fun cdv A outer s0 H vs Q E hr h => ?_)
  · obtain ⟨s, T, rfl, _⟩ := h
    rfl
  · obtain ⟨s, T, rfl, at_, l590, q, qe⟩ := h
    have hr3 : Room 3 _ := hr.mono (by decide)
    have hr7 : Room 7 _ := hr.mono (by decide)
    have hr6 : Room 6 _ := hr.mono (by decide)
    refine ⟨_, Evl.pss_cut (ps_set (i := 1) scRp.nd rfl (Or.inl rfl) (pe_lst (pa_cons (pe_call GR hr7 rfl Rt.g Rt.k Rt.b .nil (passes_call (takes_of rfl rfl rfl rfl) (fun _ _ _ _ h => h)) (pa_cons (pv 0) (pa_cons (pe_ifExp (pt_val (pe_meth (pv 0) Z.cl Tk.m GT hr3 Tk.b .nil pass0 (pa_cons pe_str pa_nil))) (pe_un un_neg pe_int) pe_int) pa_nil))) pa_nil)))
      (pss_one (ps_while (passes_of rfl) (pt_val pe_bl)
        (pss_one (ps_if (pt_val (pe_meth (pv 0) Z.cl Tk.m GT hr3 Tk.b .nil pass0 (pa_cons pe_str pa_nil)))
          (pss_one (ps_expr (pe_bm PySem.F.plainAttrs_list PySem.F.slot_list_append PySem.F.type_list_append mt_append (pv 1) (pa_cons (pe_call GR hr7 rfl Rt.g Rt.k Rt.b .nil (passes_call (takes_of rfl rfl rfl rfl) (fun _ _ _ _ h => h)) (pa_cons (pv 0) (pa_cons pe_int pa_nil))) pa_nil))))
          (pss_one (ps_if (pt_val (pe_meth (pv 0) Z.cl Tk.m GT hr3 Tk.b .nil pass0 (pa_cons pe_str pa_nil)))
            (pss_one (ps_expr (pe_bm PySem.F.plainAttrs_list PySem.F.slot_list_append PySem.F.type_list_append mt_append (pv 1) (pa_cons (pe_call GR hr7 rfl Rt.g Rt.k Rt.b .nil (passes_call (takes_of rfl rfl rfl rfl) (fun _ _ _ _ h => h)) (pa_cons (pv 0) (pa_cons (pe_un un_neg pe_int) pa_nil))) pa_nil))))
            (pss_one (ps_ret (pe_make M GI hr7 rfl W.g bI .nil (passes_call (takes_of rfl rfl rfl rfl) (fun _ _ _ _ h => h)) (pa_cons (pv 1) pa_nil)))))))))), ?_⟩
    obtain ⟨dx0, hs0⟩ := at_.ex
    refine ⟨fun σ' H' => ∃ l0 m, σ' = [some (.ref s), some (.ref l0)] ∧ RpI C s l0 T H m σ' H', ?_, ?_⟩
    · refine ⟨_, rfl, _, rfl, s, dx0, _, rfl, hs0, rfl, s, T, 0, 45, rfl, at_, fun H2 j2 b a2 o2 yes no => ?_⟩
      have fst : ∀ (q2 : Nat), (q2 = 83 ∨ q2 = 70) → (q2 = 83 → No 45 (skp (T.drop j2))) → col 83 T 0 = col q2 (T.drop j2) j2 → ∀ g : Int, g.natAbs ≤ 1 →
          spRt C CB [.ref s, .int g] H2 (fun v H' => (([v] : List V).length ≤ sizeLine ∧ ∀ l0, H' l0 = none → ∃ l1 m, [some (V.ref s), some (V.ref l0)] = [some (V.ref s), some (V.ref l1)] ∧ RpI C s l1 T H m [some (.ref s), some (.ref l0)] (upd H' l0 (.lst [v])))) E := by
        intro q2 hq2 h45 cc g hg
        refine ⟨s, T, j2, q2, g, rfl, a2, l590, hq2, h45, hg, fun H3 j3 q3 t b' k n a3 o3 tok h1 h2 k3 => ⟨by show 1 ≤ sizeLine; decide, fun l0 nl => ⟨l0, T.length - j3, rfl, ?_⟩⟩, ?_⟩
        · obtain ⟨t1, t2, t3, t4⟩ := tok
          obtain ⟨dx3, hs3⟩ := a3.ex
          refine ⟨j3, q3, [⟨t, b', k, n⟩], rfl, rfl, by show 2 * 1 ≤ _; omega, upd_same, ?_, ?_, a3.off (upd_ne (ne_of_none hs3 nl)), cc.trans t2, t3, t4, (o2.trans o3).trans (Off.of (new_more nl)), o3none (o2.trans o3) nl hs0 a3⟩
          · intro e' he
            rw [List.mem_singleton] at he
            subst he
            exact ⟨new_more nl _ _ h1, new_more nl _ _ h2⟩
          · intro e' he
            rw [List.mem_singleton] at he
            subst he
            exact k3
        · rw [← cc]
          exact fun H5 o5 => qe H5 (o2.trans o5)
      cases b with
      | true =>
        obtain ⟨_, q2, hq2, c2⟩ := took_col (q := 83) (by decide) at_.le a2.le (yes rfl)
        have c2 : col 83 T 0 = col 70 (T.drop j2) j2 := by
          obtain rfl | rfl := hq2 <;> exact c2 (by decide)
        exact ⟨_, rfl, iteT ⟨_, rfl, fst 70 (.inr rfl) (fun z => by cases z) c2 (-1) (by decide)⟩⟩
      | false =>
        obtain ⟨e2, n45⟩ := no rfl
        obtain ⟨c2, _, _⟩ := skp_at (q := 83) (by decide) at_.le a2.le e2 (.inr trivial)
        refine ⟨_, rfl, iteF (fst 83 (.inl rfl) (fun _ => ?_) (c2 rfl) 1 (by decide))⟩
        rw [e2, skp_skp]
        exact n45
    rintro σ0 H0 ⟨l0, m0, rfl, st0⟩
    refine while_T (RpI C s l0 T H) m0 st0 ?_
    rintro m σ H2 ⟨j, q1, L, rfl, rfl, fewL, hL, hT, h3, a2, cc, ff, nx0, o2, hl0⟩
    obtain ⟨dx2, h2⟩ := a2.ex
    have nls : l0 ≠ s := at_lst a2 hL
    have sk : skp (T.drop j) = T.drop j := by
      cases e : T.drop j with
      | nil => rfl
      | cons c r => exact skp_ne (nx0 c r e).1
    have jT := a2.le
    -- one more term
    have more : ∀ (g : Int) (c : Nat) (j3 : Nat) (H3 : Hp), g.natAbs ≤ 1 → (c = 43 ∨ c = 45) → Off s H2 H3 → At C s T j3 H3 → skp (T.drop j) = c :: T.drop j3 →
        spRt C CB [.ref s, .int g] H3 (fun v H4 => H4 l0 = some (.lst (L.map fun e => V.ref e.p)) ∧ (L.map fun e => V.ref e.p).length < sizeLine ∧ (∃ m', m' < T.length - j ∧ RpI C s l0 T H m' [some (.ref s), some (.ref l0)] (upd H4 l0 (.lst ((L.map fun e => V.ref e.p) ++ [v]))))) E := by
      intro g c j3 H3 hg hc o3 a3 e3
      obtain ⟨jj3, q2, hq2, c2⟩ := took_col (fin_ne ff) a2.le a3.le e3
      have f2 : fin q2 = true := by
        obtain rfl | rfl := hq2
        · exact ff
        · exact fin_sp ff
      have n2 := nx_sign f2 (c := c) (.inr hc)
      have c2 := c2 (by rw [n2]; decide)
      rw [n2] at c2
      refine ⟨s, T, j3, 70, g, rfl, a3, l590, .inr rfl, (fun z => by cases z), hg, fun H4 j4 q4 t b k n a4 o4 tok g1 g2 k3 => ?_, ?_⟩
      · obtain ⟨t1, t2, t3, t4⟩ := tok
        have o24 := o3.trans o4
        have hL4 := o24 _ _ hL nls
        have hT4 : ∀ e ∈ L, H4 e.p = some (.tup [.ref e.b, .int e.n]) ∧ H4 e.b = some (.tup (e.k.map V.int)) := fun e he =>
          ⟨o24 _ _ (hT e he).1 (ne_of (hT e he).1 h2 (by intro z; cases z)), o24 _ _ (hT e he).2 (ne_of (hT e he).2 h2 (by intro z; cases z))⟩
        have a4l := a4.le
        refine ⟨hL4, by rw [List.length_map]; exact small1000 (by omega), T.length - j4, by omega, j4, q4, L ++ [⟨t, b, k, n⟩], rfl, rfl, by rw [List.length_append]; show 2 * (_ + 1) ≤ _; omega,
          by rw [upd_same, List.map_append]; rfl, ?_, ?_, ?_, cc.trans (c2.trans t2), t3, t4, ?_, hl0⟩
        · have z := rt_new hT4 g1 g2
          intro e' he
          obtain ⟨z1, z2⟩ := z e' he
          exact ⟨by rw [upd_ne (ne_of z1 hL4 (by intro z; cases z))]; exact z1, by rw [upd_ne (ne_of z2 hL4 (by intro z; cases z))]; exact z2⟩
        · intro e' he
          rcases List.mem_append.mp he with he | he
          · exact h3 e' he
          · rw [List.mem_singleton] at he
            subst he
            exact k3
        · exact a4.off (upd_ne nls.symm)
        · intro b' o hb nb
          rw [upd_ne (ne_of_none hb hl0)]
          exact (o2.trans o24) b' o hb nb
      · rw [← c2, ← cc]
        exact fun H5 o5 => qe H5 ((o2.trans o3).trans o5)
    refine ⟨_, rfl, s, dx2, _, rfl, h2, rfl, s, T, j, 43, rfl, a2, fun H3 j3 b a3 o3 yes no => ?_⟩
    obtain ⟨dx3, hs3⟩ := a3.ex
    have hL3 := o3 _ _ hL nls
    cases b with
    | true =>
      refine ⟨_, rfl, iteT ⟨_, rfl, .inl ⟨rfl, _, SqL.of hL3⟩, _, rfl, ?_⟩⟩
      obtain ⟨s', T', j', q', g', e1, a', l', hq', h45', hg', k1, k2⟩ := more 1 43 j3 H3 (by decide) (.inl rfl) o3 a3 (yes rfl)
      refine ⟨s', T', j', q', g', e1, a', l', hq', h45', hg', fun H4 j4 q4 t b k n a4 o4 tok g1 g2 k3 => ?_, k2⟩
      obtain ⟨u1, u2, u3⟩ := k1 H4 j4 q4 t b k n a4 o4 tok g1 g2 k3
      exact ⟨l0, _, _, rfl, rfl, u1, u2, u3⟩
    | false =>
      obtain ⟨d3, n43⟩ := no rfl
      rw [sk] at d3 n43
      obtain rfl := drop_inj a3.le a2.le d3
      refine ⟨_, rfl, iteF ⟨_, rfl, s, dx3, _, rfl, hs3, rfl, s, T, j3, 45, rfl, a3, fun H4 j4 b a4 o4 yes4 no4 => ?_⟩⟩
      have hL4 := o4 _ _ hL3 nls
      have o34 := o3.trans o4
      cases b with
      | true =>
        refine ⟨_, rfl, iteT ⟨_, rfl, .inl ⟨rfl, _, SqL.of hL4⟩, _, rfl, _, rfl, ?_⟩⟩
        obtain ⟨s', T', j', q', g', e1, a', l', hq', h45', hg', k1, k2⟩ := more (-1) 45 j4 H4 (by decide) (.inr rfl) o34 a4 (yes4 rfl)
        refine ⟨s', T', j', q', g', e1, a', l', hq', h45', hg', fun H5 j5 q5 t b k n a5 o5 tok g1 g2 k3 => ?_, k2⟩
        obtain ⟨u1, u2, u3⟩ := k1 H5 j5 q5 t b k n a5 o5 tok g1 g2 k3
        exact ⟨l0, _, _, rfl, rfl, u1, u2, u3⟩
      | false =>
        obtain ⟨d4, n45⟩ := no4 rfl
        rw [sk] at d4 n45
        obtain rfl := drop_inj a4.le a3.le d4
        refine ⟨_, rfl, iteF ⟨_, rfl, fun x dx nx ndx nne => ?_⟩⟩
        have hT4 : ∀ e ∈ L, H4 e.p = some (.tup [.ref e.b, .int e.n]) ∧ H4 e.b = some (.tup (e.k.map V.int)) := fun e he =>
          ⟨o34 _ _ (hT e he).1 (ne_of (hT e he).1 h2 (by intro z; cases z)), o34 _ _ (hT e he).2 (ne_of (hT e he).2 h2 (by intro z; cases z))⟩
        have mH : More H4 (upd (upd H4 dx (.own x)) x (.ins CP dx [])) := fun b o h => by
          rw [upd_ne (ne_of_none h nx), upd_ne (ne_of_none h ndx)]
          exact h
        refine ⟨x, l0, dx, _, rfl, upd_same, .inl (SqL.of (mH _ _ hL4)), by rw [List.length_map]; omega, .inl ⟨_, terms_ok (fun e he => ⟨mH _ _ (hT4 e he).1, mH _ _ (hT4 e he).2⟩) h3, fun H7 off7 pob => ⟨rfl, ?_⟩⟩⟩
        have m7 : More H4 H7 := fun b o h => off7 _ _ (mH _ _ h) (ne_of_none h nx)
        obtain ⟨dx4, hs4⟩ := a4.ex
        refine q H7 j4 q1 x (a4.off ((m7 _ _ hs4).trans hs4.symm)) ((o2.trans o34).trans (Off.of m7)) ⟨cc, ff, fun c r e => ⟨(nx0 c r e).1, (nx0 c r e).2.2 (fun z => n43 r (by rw [e, z])) (fun z => n45 r (by rw [e, z]))⟩⟩
end
end K16

namespace K16
open PySem L2 Gd Ply
section
variable {P : Program} {w : World} {K : PySem.W.Frag} {mg : Str → Option Value} {base : Heap}
variable {C CP CB f fI fRp fE : Addr} {fd dI' dRp dE' : FuncData}
theorem ok_pf (F : Fun K "powers_of" "powers_of" sPf f fd) (Z : ScC K C) (M : Mk K C fI) (gS : mg "Scanner" = some (.ref C)) (FI : FunE K "__init__" "Scanner.__init__" sIni [.non] fI dI') (bI : Binds K dI' ["self", "text", "known"] [Value.none])
    (Rp : Cl K mg "read_powers" sRp ["scanner"] fRp dRp) (GR : FnOk P w K mg base (L2.CX P w) 8 fRp dRp ["scanner"] (spRp C CB))
    (En : Mt K C "end" "Scanner.end" sEnd ["self"] fE dE') (GE : FnOk P w K mg base (L2.CX P w) 4 fE dE' ["self"] (spEnd C CB)) : FnOk P w K mg base (L2.CX P w) 9 f fd ["text"] (spPf CB) := by
  have GI : FnOk P w K mg base CX0 1 fI dI' ["self", "text", "known"] (spSI C) := ok_sini FI Z
  refine F.okX scPf (fun vs H Q E h => ?_) (fun cdv A outer s0 H vs Q E hr h => ?_)
  · obtain ⟨T, rfl, _⟩ := h
    rfl
  · obtain ⟨T, rfl, len, q, qe⟩ := h
    have hr2 : Room 2 _ := hr.mono (by decide)
    have hr4 : Room 4 _ := hr.mono (by decide)
    refine ⟨_, pss_cons (ps_set (i := 1) scPf.nd rfl (Or.inl rfl) (pe_make M GI hr2 rfl gS bI (.cons (show RelV V.non Value.none from rfl) .nil) pass0 (pa_cons (pv 0) pa_nil)))
      (pss_cons (ps_set (i := 2) scPf.nd rfl (Or.inl rfl) (pe_call GR hr rfl Rp.g Rp.k Rp.b .nil (passes_call (takes_of rfl rfl rfl rfl) (fun _ _ _ _ h => h)) (pa_cons (pv 1) pa_nil)))
      (pss_cons (ps_expr (pe_meth0 (pv 1) Z.cl En.m GE hr4 En.b .nil (passes_call (takes_of rfl rfl rfl rfl) (fun _ _ _ _ h => h))))
      (pss_one (ps_ret (pv 2))))), ?_⟩
    refine ⟨_, rfl, fun x dx nx0 ndx nne => ?_⟩
    refine ⟨x, dx, T, rfl, upd_same, by omega, fun H1 a1 o1 => ⟨rfl, ?_⟩⟩
    have m1 : More H H1 := fun b o h => by
      refine o1 _ _ ?_ (ne_of_none h nx0)
      rw [upd_ne (ne_of_none h nx0), upd_ne (ne_of_none h ndx)]
      exact h
    have mo : ∀ H', Off x H1 H' → More H H' := fun H' o b v h => o _ _ (m1 _ _ h) (ne_of_none h nx0)
    refine ⟨_, rfl, x, T, rfl, a1, len, fun H2 j q' a a2 o2 ok => ?_, ?_⟩
    · obtain ⟨c1, ff, c2⟩ := ok
      obtain ⟨dx2, h2⟩ := a2.ex
      refine ⟨_, rfl, x, dx2, _, rfl, h2, rfl, x, T, j, rfl, a2, ?_, fun e H3 o3 => ?_, fun e H3 o3 d nd _ => ?_⟩
      · cases e : T.drop j with
        | nil => rfl
        | cons c r => exact skp_ne (c2 c r e).1
      · refine ⟨_, rfl, q ?_ H3 a (mo H3 (o2.trans o3))⟩
        rw [c1, e]
        show (if fin q' = true then 0 else _) = 0
        rw [if_pos ff]
      · have e3 : col 83 T 0 = j + 1 := by
          rw [c1]
          cases z : T.drop j with
          | nil => exact absurd z e
          | cons c r =>
            show (if nx q' c = 0 then _ else _) = _
            rw [if_pos (c2 c r z).2]
        have := qe (by omega) H3 (mo H3 (o2.trans o3)) d nd
        rw [e3] at this
        exact this
    · exact fun H3 o3 d nd e => qe e H3 (mo H3 o3) d nd
end
end K16

namespace K16
open PySem L2 Gd Ply
/-- the states of the law -/
def St (q : Nat) : Prop := q = 83 ∨ q = 70 ∨ q = 69 ∨ q = 77 ∨ q = 78 ∨ q = 90 ∨ q = 76 ∨ q = 88 ∨ q = 79 ∨ q = 65
def stS (q : Nat) : Str := if q = 0 then SX.S [] else SX.S [q]
theorem st_nx {q c : Nat} (h : St q) : nx q c = 0 ∨ St (nx q c) := by
  obtain rfl | rfl | rfl | rfl | rfl | rfl | rfl | rfl | rfl | rfl := h <;> (unfold nx; repeat' split) <;> first | exact .inl rfl | exact .inr (by unfold St; decide)
theorem in_l (q : Nat) (l : List Nat) : inV (.str (SX.S [q])) (l.map fun a => V.str (SX.S [a])) = decide (q ∈ l) := by
  induction l with
  | nil => rfl
  | cons a l ih =>
    show ((SX.S [a] == SX.S [q]) || inV (.str (SX.S [q])) (l.map fun a => V.str (SX.S [a]))) = _
    rw [ih, SX.S_beq_eq, ← Bool.decide_or, decide_eq_decide, List.mem_cons]
    constructor
    · rintro (h | h)
      · injection h with h
        exact .inl h.symm
      · exact .inr h
    · rintro (h | h)
      · exact .inl (by rw [h])
      · exact .inr h
theorem eq_l (q a : Nat) : decide (V.str (SX.S [q]) = V.str (SX.S [a])) = decide (q = a) := by
  rw [decide_eq_decide]
  constructor
  · intro h
    have h := SX.S_inj (V.str.inj h)
    injection h
  · rintro rfl
    rfl
abbrev kvA : List (Key × V) := [(Sum.inr (SX.S [78]), .str (SX.S [65])), (Sum.inr (SX.S [90]), .str (SX.S [65])), (Sum.inr (SX.S [88]), .str (SX.S [65])), (Sum.inr (SX.S [79]), .str (SX.S [65]))]
theorem get_sp {q : Nat} (h : St q) : (valV (mergeK [] kvA) (Sum.inr (SX.S [q]))).getD (.str (SX.S [q])) = .str (stS (sp q)) := by
  obtain rfl | rfl | rfl | rfl | rfl | rfl | rfl | rfl | rfl | rfl := h <;> decide +kernel
def spNx : Sp := fun vs H Q _ => ∃ q c, vs = [.str (SX.S [q]), .str (SX.S [c])] ∧ St q ∧ ∀ H', More H H' → Q (.str (stS (nx q c))) H'
theorem in_sg (c : Nat) (l : List Nat) : decide (c ∈ (SX.S l).cps.toList) = decide (c ∈ l) := rfl
theorem in2 (q a b : Nat) : inV (.str (SX.S [q])) [.str (SX.S [a]), .str (SX.S [b])] = decide (q = a ∨ q = b) := by
  refine (in_l q [a, b]).trans ?_
  rw [decide_eq_decide, List.mem_cons, List.mem_singleton]
theorem in6 (q : Nat) : inV (.str (SX.S [q])) [.str (SX.S [78]), .str (SX.S [90]), .str (SX.S [76]), .str (SX.S [88]), .str (SX.S [79]), .str (SX.S [65])] = fin q := by
  refine (in_l q [78, 90, 76, 88, 79, 65]).trans ?_
  unfold fin
  rw [Bool.eq_iff_iff, decide_eq_true_iff]
  simp only [List.mem_cons, List.not_mem_nil, or_false, Bool.or_eq_true, beq_iff_eq]
  omega
theorem dg_in (c : Nat) : c ∈ ([48, 49, 50, 51, 52, 53, 54, 55, 56, 57] : List Nat) ↔ 48 ≤ c ∧ c ≤ 57 := by
  simp only [List.mem_cons, List.not_mem_nil, or_false]
  omega
theorem xy_in (c : Nat) : c ∈ ([120, 121, 122] : List Nat) ↔ 120 ≤ c ∧ c ≤ 122 := by
  simp only [List.mem_cons, List.not_mem_nil, or_false]
  omega
theorem sg_in (c : Nat) : c ∈ ([42, 43, 45] : List Nat) ↔ c = 42 ∨ c = 43 ∨ c = 45 := by
  simp only [List.mem_cons, List.not_mem_nil, or_false]
section
variable {P : Program} {w : World} {K : PySem.W.Frag} {mg : Str → Option Value} {base : Heap}
variable {f : Addr} {fd : FuncData}
abbrev sNx : Stmt := top 50
theorem scNx : FnScope ["_law_state", "_law_sign"] ["_law_state", "_law_sign"] (defScope sNx) := ⟨rfl, rfl, rfl, by decide +kernel, rfl, by decide +kernel, by decide +kernel⟩
theorem flat_l (l : List Nat) : (l.map fun a => V.str (SX.S [a])).all flatV = true := by
  rw [List.all_map]
  exact List.all_eq_true.mpr fun _ _ => rfl
theorem ok_nx (F : Fun K "_law_next" "_law_next" sNx f fd) : FnOk P w K mg base CX0 1 f fd ["_law_state", "_law_sign"] spNx := by
  refine F.ok scNx (fun vs H Q E h => ?_) (fun cdv A outer s H vs Q E hr h => ?_)
  · obtain ⟨q, c, rfl, _⟩ := h
    rfl
  · obtain ⟨q, c, rfl, hq, k⟩ := h
    have hu := hu_of hr
    refine ⟨_, pss_cons (ps_if (pt_cmpR op_eq (pv 1) pe_str (nomark _)) (pss_one (ps_ret (pe_dget2 hu (pe_disp (pps_cons pe_str pe_str (pps_cons pe_str pe_str (pps_cons pe_str pe_str (pps_cons pe_str pe_str pps_nil)))) rfl rfl (by simp) (by decide)) (pv 0) (pv 0) ⟨rfl, rfl, rfl, rfl⟩))) pss_nil)
      (pss_cons (ps_if (pt_cmpR op_in_sign (pv 1) pe_str (by rfl))
        (pss_cons (ps_if (pt_cmpR op_in_seq (pv 0) (pe_lst (pa_cons pe_str (pa_cons pe_str pa_nil))) (by rfl)) (pss_one (ps_ret (pv 0))) pss_nil)
        (pss_cons (ps_if (pt_cmpR op_in_seq (pv 0) (pe_lst (pa_cons pe_str (pa_cons pe_str pa_nil))) (by rfl)) (pss_one (ps_ret (pe_ifExp (pt_cmpR op_eq (pv 1) pe_str (nomark _)) pe_str pe_str))) pss_nil)
        (pss_one (ps_ret (pe_ifExp (pt_cmpR op_in_seq (pv 0) (pe_lst (pa_cons pe_str (pa_cons pe_str pa_nil))) (by rfl)) (pe_ifExp (pt_cmpR op_eq (pv 1) pe_str (nomark _)) pe_str pe_str) pe_str))))) pss_nil)
      (pss_cons (ps_if (pt_cmpR op_in_sign (pv 1) pe_str (by rfl)) (pss_one (ps_ret (pe_ifExp (pt_cmpR op_in_seq (pv 0) (pe_lst (pa_cons pe_str (pa_cons pe_str pa_nil))) (by rfl)) pe_str pe_str))) pss_nil)
      (pss_cons (ps_if (pt_cmpR op_eq (pv 1) pe_str (nomark _)) (pss_one (ps_ret (pe_ifExp (pt_cmpR op_eq (pv 0) pe_str (nomark _)) pe_str pe_str))) pss_nil)
      (Evl.pss_cut (ps_if (PW.pt (pw_and (pt_cmpR op_eq (pv 1) pe_str (nomark _)) (pw_and1 (pt_cmpR op_in_seq (pv 0) (pe_lst (pa_cons pe_str (pa_cons pe_str pa_nil))) (by rfl))))) (pss_one (ps_ret (pe_ifExp (pt_cmpR op_eq (pv 0) pe_str (nomark _)) pe_str pe_str))) pss_nil)
      (pss_one (ps_ret (pe_ifExp (PW.pt (pw_and (pt_cmpR op_in_sign (pv 1) pe_str (by rfl)) (pw_and1 (pt_cmpR op_in_seq (pv 0) (pe_lst (pa_cons pe_str (pa_cons pe_str (pa_cons pe_str (pa_cons pe_str (pa_cons pe_str (pa_cons pe_str pa_nil)))))) ) (by rfl))))) pe_str pe_str))))))), ?_⟩
    have fin1 : ∀ (H' : Hp) (v : Str), More H H' → v = stS (nx q c) → Q (.str v) H' := fun H' v m e => by rw [e]; exact k H' m
    have nl : ∀ {H1 : Hp} {p : Addr} {o : HO}, More H H1 → H1 p = none → More H (upd H1 p o) := fun m n => m.new n
    refine ⟨_, rfl, rfl, _, rfl, ite2 (fun z => ?_) (fun z => ?_)⟩
    · have z : c = 32 := of_decide_eq_true ((eq_l c 32).symm.trans z)
      subst z
      refine fun p np => ⟨upd_same, kvA, rfl, by decide, p, rfl, .inl ⟨_, .inl upd_same⟩, _, rfl, _, rfl, _, DGet.k (k := Sum.inr (SX.S [q])) upd_same, ?_⟩
      rw [get_sp hq]
      refine fin1 _ _ ?_ (by rw [nx_sp])
      rw [upd_upd]
      exact new_more np
    have c32 : c ≠ 32 := fun y => z ((eq_l c 32).trans (decide_eq_true y))
    refine ⟨_, rfl, c, _, rfl, rfl, _, rfl, ite2 (fun z => ?_) (fun z => ?_)⟩
    · have dg := (dg_in c).mp (of_decide_eq_true z)
      have e1 : nx q c = if q = 78 ∨ q = 88 then q else if q = 83 ∨ q = 70 then (if c = 48 then 90 else 78) else if q = 69 ∨ q = 77 then (if c = 48 then 79 else 88) else 0 := by
        unfold nx
        rw [if_neg c32, if_pos dg]
      refine ⟨_, rfl, by show 2 ≤ sizeLine; decide, fun p1 np1 => ⟨p1, _, rfl, .inl (SqL.of upd_same), rfl, rfl, _, rfl, ite2 (fun z => ?_) (fun z => ?_)⟩⟩
      · have z : q = 78 ∨ q = 88 := of_decide_eq_true ((in2 q 78 88).symm.trans z)
        refine ⟨_, rfl, fin1 _ _ (new_more np1) ?_⟩
        rw [e1, if_pos z]
        unfold stS
        rw [if_neg (by omega)]
      have z1 : ¬ (q = 78 ∨ q = 88) := fun y => z ((in2 q 78 88).trans (decide_eq_true y))
      have m1 : More H (upd H p1 (.lst [.str "N", .str "X"])) := new_more np1
      refine ⟨_, rfl, by show 2 ≤ sizeLine; decide, fun p2 np2 => ⟨p2, _, rfl, .inl (SqL.of upd_same), rfl, rfl, _, rfl, ite2 (fun z => ?_) (fun z => ?_)⟩⟩
      · have z : q = 83 ∨ q = 70 := of_decide_eq_true ((in2 q 83 70).symm.trans z)
        refine ⟨_, rfl, rfl, _, rfl, ite2 (fun y => ?_) (fun y => ?_)⟩
        · have y : c = 48 := of_decide_eq_true ((eq_l c 48).symm.trans y)
          exact fin1 _ _ (m1.new np2) (by rw [e1, if_neg z1, if_pos z, if_pos y]; rfl)
        · have y : c ≠ 48 := fun x => y ((eq_l c 48).trans (decide_eq_true x))
          exact fin1 _ _ (m1.new np2) (by rw [e1, if_neg z1, if_pos z, if_neg y]; rfl)
      have z2 : ¬ (q = 83 ∨ q = 70) := fun y => z ((in2 q 83 70).trans (decide_eq_true y))
      have m2 := m1.new (o := .lst [.str "S", .str "F"]) np2
      refine ⟨_, rfl, by show 2 ≤ sizeLine; decide, fun p3 np3 => ⟨p3, _, rfl, .inl (SqL.of upd_same), rfl, rfl, _, rfl, ite2 (fun z => ?_) (fun z => ?_)⟩⟩
      · have z : q = 69 ∨ q = 77 := of_decide_eq_true ((in2 q 69 77).symm.trans z)
        refine ⟨_, rfl, rfl, _, rfl, ite2 (fun y => ?_) (fun y => ?_)⟩
        · have y : c = 48 := of_decide_eq_true ((eq_l c 48).symm.trans y)
          exact fin1 _ _ (m2.new np3) (by rw [e1, if_neg z1, if_neg z2, if_pos z, if_pos y]; rfl)
        · have y : c ≠ 48 := fun x => y ((eq_l c 48).trans (decide_eq_true x))
          exact fin1 _ _ (m2.new np3) (by rw [e1, if_neg z1, if_neg z2, if_pos z, if_neg y]; rfl)
      · have z : ¬ (q = 69 ∨ q = 77) := fun y => z ((in2 q 69 77).trans (decide_eq_true y))
        exact fin1 _ _ (m2.new np3) (by rw [e1, if_neg z1, if_neg z2, if_neg z]; rfl)
    have dg : ¬ (48 ≤ c ∧ c ≤ 57) := fun y => z (decide_eq_true ((dg_in c).mpr y))
    refine ⟨_, rfl, c, _, rfl, rfl, _, rfl, ite2 (fun z => ?_) (fun z => ?_)⟩
    · have xy := (xy_in c).mp (of_decide_eq_true z)
      have e1 : nx q c = if q = 83 ∨ q = 70 then 76 else 0 := by
        unfold nx
        rw [if_neg c32, if_neg dg, if_pos xy]
      refine ⟨_, rfl, by show 2 ≤ sizeLine; decide, fun p1 np1 => ⟨p1, _, rfl, .inl (SqL.of upd_same), rfl, rfl, _, rfl, ite2 (fun z => ?_) (fun z => ?_)⟩⟩
      · have z : q = 83 ∨ q = 70 := of_decide_eq_true ((in2 q 83 70).symm.trans z)
        exact fin1 _ _ (new_more np1) (by rw [e1, if_pos z]; rfl)
      · have z : ¬ (q = 83 ∨ q = 70) := fun y => z ((in2 q 83 70).trans (decide_eq_true y))
        exact fin1 _ _ (new_more np1) (by rw [e1, if_neg z]; rfl)
    have xy : ¬ (120 ≤ c ∧ c ≤ 122) := fun y => z (decide_eq_true ((xy_in c).mpr y))
    refine ⟨_, rfl, rfl, _, rfl, ite2 (fun z => ?_) (fun z => ?_)⟩
    · have z : c = 94 := of_decide_eq_true ((eq_l c 94).symm.trans z)
      have e1 : nx q c = if q = 76 then 69 else 0 := by
        unfold nx
        rw [if_neg c32, if_neg dg, if_neg xy, if_pos z]
      refine ⟨_, rfl, rfl, _, rfl, ite2 (fun y => ?_) (fun y => ?_)⟩
      · have y : q = 76 := of_decide_eq_true ((eq_l q 76).symm.trans y)
        exact fin1 _ _ (fun _ _ e => e) (by rw [e1, if_pos y]; rfl)
      · have y : q ≠ 76 := fun x => y ((eq_l q 76).trans (decide_eq_true x))
        exact fin1 _ _ (fun _ _ e => e) (by rw [e1, if_neg y]; rfl)
    have c94 : c ≠ 94 := fun y => z ((eq_l c 94).trans (decide_eq_true y))
    have e0 : nx q c = if c = 45 ∧ (q = 83 ∨ q = 69) then (if q = 83 then 70 else 77) else if (c = 42 ∨ c = 43 ∨ c = 45) ∧ fin q = true then 70 else 0 := by
      unfold nx
      rw [if_neg c32, if_neg dg, if_neg xy, if_neg c94]
    refine ⟨fun σ' H' => σ' = [some (.str (SX.S [q])), some (.str (SX.S [c]))] ∧ More H H' ∧ ¬ (c = 45 ∧ (q = 83 ∨ q = 69)), ?_, ?_⟩
    · refine ⟨_, rfl, rfl, _, rfl, ite2 (fun z => ?_) (fun z => ?_)⟩
      · have z : c = 45 := of_decide_eq_true ((eq_l c 45).symm.trans z)
        refine ⟨_, rfl, by show 2 ≤ sizeLine; decide, fun p1 np1 => ⟨p1, _, rfl, .inl (SqL.of upd_same), rfl, rfl, _, rfl, ite2 (fun y => ?_) (fun y => ?_)⟩⟩
        · have y : q = 83 ∨ q = 69 := of_decide_eq_true ((in2 q 83 69).symm.trans y)
          rw [if_pos ⟨z, y⟩] at e0
          refine ⟨_, rfl, rfl, _, rfl, ite2 (fun x => ?_) (fun x => ?_)⟩
          · have x : q = 83 := of_decide_eq_true ((eq_l q 83).symm.trans x)
            exact fin1 _ _ (new_more np1) (by rw [e0, if_pos x]; rfl)
          · have x : q ≠ 83 := fun u => x ((eq_l q 83).trans (decide_eq_true u))
            exact fin1 _ _ (new_more np1) (by rw [e0, if_neg x]; rfl)
        · have y : ¬ (q = 83 ∨ q = 69) := fun u => y ((in2 q 83 69).trans (decide_eq_true u))
          exact ⟨rfl, new_more np1, fun u => y u.2⟩
      · have z : c ≠ 45 := fun u => z ((eq_l c 45).trans (decide_eq_true u))
        exact ⟨rfl, fun _ _ e => e, fun u => z u.1⟩
    · rintro σ' H1 ⟨rfl, m1, nn⟩
      rw [if_neg nn] at e0
      refine ⟨_, rfl, c, _, rfl, rfl, _, rfl, ite2 (fun z => ?_) (fun z => ?_)⟩
      · have z := (sg_in c).mp (of_decide_eq_true z)
        refine ⟨_, rfl, by show 6 ≤ sizeLine; decide, fun p1 np1 => ⟨p1, _, rfl, .inl (SqL.of upd_same), rfl, rfl, _, rfl, ite2 (fun y => ?_) (fun y => ?_)⟩⟩
        · have y : fin q = true := (in6 q).symm.trans y
          exact fin1 _ _ (m1.new np1) (by rw [e0, if_pos ⟨z, y⟩]; rfl)
        · have y : ¬ fin q = true := fun u => y ((in6 q).trans u)
          exact fin1 _ _ (m1.new np1) (by rw [e0, if_neg (fun u => y u.2)]; rfl)
      · have z : ¬ (c = 42 ∨ c = 43 ∨ c = 45) := fun y => z (decide_eq_true ((sg_in c).mpr y))
        exact fin1 _ _ m1 (by rw [e0, if_neg (fun u => z u.1)]; rfl)
end
end K16

namespace ZipG
open PySem L2 PySem.Spec PyProof.Rows
/-! zip of any two of: a list, a tuple, a text -/
inductive Src where
  | l (a : Addr)
  | t (a : Addr)
  | s (z : Str)
def Src.v : Src → V
  | .l a => .ref a
  | .t a => .ref a
  | .s z => .str z
/-- its items as they stand -/
def Src.has (K : PySem.W.Frag) : Src → List V → Hp → Prop
  | .l a, xs, H => SqL K H a xs
  | .t a, xs, H => SqT K H a xs
  | .s z, xs, _ => xs = z.cps.toList.map fun c => V.str ⟨#[c]⟩
def Src.it : Src → Addr → Nat → Heap → Prop
  | .l a, it, i, h => h.IsListIter it a i
  | .t a, it, i, h => h.IsTupleIter it a i
  | .s z, it, i, h => ∃ t, h.IsStrIter it (strIterType z) z t i
def Src.low (n : Nat) : Src → Prop
  | .l a => a < n
  | .t a => a < n
  | .s _ => True
def ItG (K : PySem.W.Frag) (S1 S2 : Src) : It :=
  ⟨fun i H => ∃ xs ys, S1.has K xs H ∧ S2.has K ys H ∧ i < xs.length ∧ i < ys.length,
    fun i H v H' => ∃ T x y, v = .ref T ∧ H T = none ∧ H' = upd H T (.tup [x, y]) ∧ (∀ xs, S1.has K xs H → xs[i]? = some x) ∧ ∀ ys, S2.has K ys H → ys[i]? = some y,
    fun i H => ∃ xs ys : List V, S1.has K xs H ∧ S2.has K ys H ∧ i ≤ xs.length ∧ i ≤ ys.length ∧ (i = xs.length ∨ i = ys.length)⟩
theorem vals_back : ∀ {xs : List V} {us : List Value} {i : Nat} {u : Value}, Vals xs us → us[i]? = some u → ∃ x, xs[i]? = some x ∧ RelV x u
  | _, _, _, _, .nil, e => by simp at e
  | _, _, 0, _, .cons r _, e => by simp at e; subst e; exact ⟨_, rfl, r⟩
  | _, _, i + 1, u, .cons _ t, e => by
    rw [List.getElem?_cons_succ] at e
    obtain ⟨x, h1, h2⟩ := vals_back t e
    exact ⟨x, by rw [List.getElem?_cons_succ]; exact h1, h2⟩
section
variable {X : Cx} {pins : List (Addr × Obj)} {σ : L2.St} {H : Hp} {s : Shared} {A : Around}
theorem src_draw (hh : A.handled = none) (S : Src) (I : Inv X pins σ H s) {it i n : Nat} {xs : List V} (st : S.it it i s.heap) (low : S.low n) (hit : n ≤ it) (h : S.has X.K xs H) :
    ∃ (fp : List Addr) (P : Nat → Value → Prop) (St : Nat → Heap → Prop), Draws X.prog X.w A it fp xs.length P St ∧ St i s.heap ∧ (∀ j h', St j h' → S.it it j h') ∧ it ∈ fp ∧ (∀ b ∈ fp, b = it ∨ b < n) ∧ ∀ j u, P j u → ∃ x, xs[j]? = some x ∧ RelV x u := by
  cases S with
  | l a =>
    obtain ⟨its, rv, p, _⟩ := I.list h
    have hl := rv.length
    have e : its.toArray.size = xs.length := by rw [List.size_toArray, hl]
    have low : a < n := low
    refine ⟨_, _, _, e ▸ Draws.list hh it a (Nat.ne_of_lt (Nat.lt_of_lt_of_le low hit)) its.toArray, ⟨st, p.isList⟩, fun j h' z => z.1, by simp, fun b hb => ?_, fun j u hu => ?_⟩
    · have hb : b = it ∨ b = a := by simpa using hb
      rcases hb with rfl | rfl
      · exact .inl rfl
      · exact .inr low
    · have hu : its[j]? = some u := by simpa using hu
      exact vals_back rv hu
  | t a =>
    obtain ⟨its, rv, p, _⟩ := I.tuple h
    have hl := rv.length
    have e : its.toArray.size = xs.length := by rw [List.size_toArray, hl]
    have low : a < n := low
    refine ⟨_, _, _, e ▸ Draws.tuple hh it a (Nat.ne_of_lt (Nat.lt_of_lt_of_le low hit)) its.toArray, ⟨st, p⟩, fun j h' z => z.1, by simp, fun b hb => ?_, fun j u hu => ?_⟩
    · have hb : b = it ∨ b = a := by simpa using hb
      rcases hb with rfl | rfl
      · exact .inl rfl
      · exact .inr low
    · have hu : its[j]? = some u := by simpa using hu
      exact vals_back rv hu
  | s z =>
    obtain ⟨t, st⟩ := st
    have h : xs = z.cps.toList.map fun c => V.str ⟨#[c]⟩ := h
    subst h
    have e : z.cps.size = (z.cps.toList.map fun c => V.str ⟨#[c]⟩).length := by simp
    refine ⟨_, _, _, e ▸ Draws.text hh it z t, st, fun j h' z => ⟨t, z⟩, by simp, fun b hb => .inl (by simpa using hb), fun j u hu => ?_⟩
    obtain ⟨c, u', hc, rfl⟩ := hu
    refine ⟨.str ⟨#[c]⟩, ?_, u', rfl⟩
    rw [List.getElem?_map, Array.getElem?_toList, hc]
    rfl
theorem src_it {S : Src} {it i : Nat} {h h' : Heap} (st : S.it it i h) (k : ∀ o, h.get? it = some o → h'.get? it = some o) : S.it it i h' := by
  cases S with
  | l a => exact Heap.IsListIter.at st k
  | t a => exact Heap.IsTupleIter.at st k
  | s z =>
    obtain ⟨t, o, e, r⟩ := st
    exact ⟨t, o, k _ e, r⟩
theorem src_obj {S : Src} {it i : Nat} {h : Heap} (st : S.it it i h) : ∃ o, h.get? it = some o ∧ ∀ v, o.data ≠ .cell v := by
  cases S with
  | l a => obtain ⟨o, e, _, d⟩ := st; exact ⟨o, e, fun v q => by rw [d] at q; cases q⟩
  | t a => obtain ⟨o, e, _, d⟩ := st; exact ⟨o, e, fun v q => by rw [d] at q; cases q⟩
  | s z => obtain ⟨t, o, e, _, d⟩ := st; exact ⟨o, e, fun v q => by rw [d] at q; cases q⟩
theorem has_inj {S : Src} (I : Inv X pins σ H s) {xs ys : List V} (h1 : S.has X.K xs H) (h2 : S.has X.K ys H) : xs = ys := by
  cases S with
  | l a => exact I.list_inj h1 h2
  | t a => exact I.tuple_inj h1 h2
  | s z => exact h1.trans h2.symm
theorem nn {a b : Nat} (h : a ≠ b) : @Ne Addr a b := h
theorem ee {a b : Addr} (h : a = b) : @Eq Nat a b := h
abbrev fpG (n : Nat) : List Addr := [n + 4, n + 2, n + 3, n, n + 1]
theorem turn_zipG {P : Program} {w : World} {K : PySem.W.Frag} {elts : List Expr} {kk : Nat} {tpos : Pos} {n : Nat} {S1 S2 : Src} (l1 : S1.low n) (l2 : S2.low n) :
    Turn P w K (.Tuple elts kk tpos) (ItG K S1 S2) (fpG n) (n + 4) (fun i h => IsZip h (n + 4) (n + 2) (n + 3) .none ∧ IsTupOf2 h (n + 2) (.ref n) (.ref (n + 1)) ∧ (∃ x y, IsTupOf2 h (n + 3) x y) ∧ S1.it n i h ∧ S2.it (n + 1) i h) where
  mem := by simp
  obj := fun i h st c hc => by
    obtain ⟨hz, hTI, ⟨x, y, hTO⟩, h1, h2⟩ := st
    have e' : c = n + 4 ∨ c = n + 2 ∨ c = n + 3 ∨ c = n ∨ c = n + 1 := by simpa using hc
    rcases e' with q | q | q | q | q
    · rw [q]; exact ⟨_, hz, fun v q => nomatch q⟩
    · rw [q]; exact ⟨_, hTI, fun v q => nomatch q⟩
    · rw [q]; exact ⟨_, hTO, fun v q => nomatch q⟩
    · rw [q]; exact src_obj h1
    · rw [q]; exact src_obj h2
  keep := fun i h h' st k => by
    obtain ⟨hz, hTI, ⟨x, y, hTO⟩, h1, h2⟩ := st
    exact ⟨k _ (by simp) _ hz, k _ (by simp) _ hTI, ⟨x, y, k _ (by simp) _ hTO⟩, src_it h1 fun o q => k n (by simp) o q, src_it h2 fun o q => k (n + 1) (by simp) o q⟩
  item := by
    intro X hP hw hK hc i pins s σ H E I hf st hg
    subst hP hw hK
    obtain ⟨hz, hTI, ⟨x0, y0, hTO⟩, h1, h2⟩ := st
    obtain ⟨xs, ys, hx, hy, lx, ly⟩ := hg
    have hh : X.A.in1.handled = none := I.ok.hd hc
    obtain ⟨fp1, P1, St1, D1, s1, back1, m1, f1, r1⟩ := src_draw hh S1 I h1 l1 (Nat.le_refl _) hx
    obtain ⟨fp2, P2, St2, D2, s2, back2, m2, f2, r2⟩ := src_draw hh S2 I h2 l2 (Nat.le_succ _) hy
    have no1 : ∀ c : Nat, n < c → c ∉ fp1 := fun c hc hm => by
      rcases f1 c hm with e | e
      · have := ee e
        omega
      · have e : (c : Nat) < n := e
        omega
    have no2 : ∀ c : Nat, n ≤ c → c ≠ n + 1 → c ∉ fp2 := fun c hc hn hm => by
      rcases f2 c hm with e | e
      · exact hn e
      · have e : (c : Nat) < n := e
        omega
    have S : ZipSep2 (n + 4) (n + 2) (n + 3) n (n + 1) fp1 fp2 := ⟨nn (by omega), nn (by omega), nn (by omega), nn (by omega), m1, no1 (n + 4) (by omega), no1 (n + 3) (by omega), nn (by omega), m2, no2 (n + 4) (by omega) (by omega), no2 (n + 3) (by omega) (by omega), no2 n (by omega) (by omega), no1 (n + 1) (by omega)⟩
    have hzl : n + 4 < s.heap.objs.size := Heap.lt_size hz
    refine wpAny_pyNext_zipD2_item S D1 D2 hz hTI hTO s1 s2 lx ly fun u u2 h' tk p1 p2 z' TO' h1' h2' hT hsz hk => ?_
    obtain ⟨x, ex, ru⟩ := r1 _ _ p1
    obtain ⟨y, ey, ru2⟩ := r2 _ _ p2
    refine ⟨_, rfl, wpAny_letOwnedTupleGo_zip (s := { s with heap := h', toks := tk }) z' fun h'' z'' sb => ?_⟩
    have hT2 : h''.get? s.heap.objs.size = some { cls := .type "tuple", data := .seq #[u, u2] } := (sb.2 _ (Nat.ne_of_gt hzl)).trans hT
    have new : ObjOk X.prog X.w (upd H s.heap.objs.size (.tup [x, y])) h'' s.heap.objs.size (.tup [x, y]) :=
      ⟨by show 2 ≤ sizeLine; decide, [u, u2], .cons ru (.cons ru2 .nil), ⟨_, hT2, rfl, _, rfl⟩⟩
    have I1 : Inv X pins σ (upd H s.heap.objs.size (.tup [x, y])) { s with heap := h'', toks := tk } :=
      I.turnedNew (t' := tk) (ch := fpG n) (fun c o hb q => (sb.2 c (fun q' => hb (by simp [q']))).trans (hk c o (fun q' => hb (by simp [q'])) (fun q' => hb (by simp [q'])) (fun q' => hb (by simp [q'])) (fun q' => hb (by simp [q'])) q)) hf (Nat.le_refl _) new
    refine ⟨.ref s.heap.objs.size, _, I1, rfl, ⟨_, x, y, rfl, I.hok.fresh (Nat.le_refl _), rfl, fun l hl => by rw [has_inj I hl hx]; exact ex, fun l hl => by rw [has_inj I hl hy]; exact ey⟩, ⟨z'', ?_, ⟨u, u2, ?_⟩, ?_, ?_⟩, fun c hcm => ?_⟩
    · exact (sb.2 _ (nn (by omega))).trans (hk _ _ (nn (by omega)) (nn (by omega)) (nn (by omega)) (nn (by omega)) hTI)
    · exact (sb.2 _ (nn (by omega))).trans TO'
    · exact src_it (back1 _ _ h1') fun o q => (sb.2 _ (nn (by omega))).trans q
    · exact src_it (back2 _ _ h2') fun o q => (sb.2 _ (nn (by omega))).trans q
    · have hlt : c < s.heap.objs.size := by
        have e' : @Eq Nat c (n + 4) ∨ @Eq Nat c (n + 2) ∨ @Eq Nat c (n + 3) ∨ @Eq Nat c n ∨ @Eq Nat c (n + 1) := by simpa using hcm
        have go : ∀ k : Nat, k ≤ 4 → @Eq Nat c (n + k) → c < s.heap.objs.size := fun k hk e => Nat.lt_of_le_of_lt (Nat.le_trans (Nat.le_of_eq e) (Nat.add_le_add_left hk n)) hzl
        rcases e' with e | e | e | e | e
        · exact go 4 (by decide) e
        · exact go 2 (by decide) e
        · exact go 3 (by decide) e
        · exact go 0 (by decide) e
        · exact go 1 (by decide) e
      rw [upd_ne (Nat.ne_of_lt hlt)]
      exact (hf c hcm).1
  done := by
    intro X hP hw hK hc i pins s σ H E I hf st hg
    subst hP hw hK
    obtain ⟨hz, hTI, ⟨x0, y0, hTO⟩, h1, h2⟩ := st
    obtain ⟨xs, ys, hx, hy, lx, ly, he⟩ := hg
    have hh : X.A.in1.handled = none := I.ok.hd hc
    obtain ⟨fp1, P1, St1, D1, s1, back1, m1, f1, r1⟩ := src_draw hh S1 I h1 l1 (Nat.le_refl _) hx
    obtain ⟨fp2, P2, St2, D2, s2, back2, m2, f2, r2⟩ := src_draw hh S2 I h2 l2 (Nat.le_succ _) hy
    have no1 : ∀ c : Nat, n < c → c ∉ fp1 := fun c hc hm => by
      rcases f1 c hm with e | e
      · have := ee e
        omega
      · have e : (c : Nat) < n := e
        omega
    have no2 : ∀ c : Nat, n ≤ c → c ≠ n + 1 → c ∉ fp2 := fun c hc hn hm => by
      rcases f2 c hm with e | e
      · exact hn e
      · have e : (c : Nat) < n := e
        omega
    have S : ZipSep2 (n + 4) (n + 2) (n + 3) n (n + 1) fp1 fp2 := ⟨nn (by omega), nn (by omega), nn (by omega), nn (by omega), m1, no1 (n + 4) (by omega), no1 (n + 3) (by omega), nn (by omega), m2, no2 (n + 4) (by omega) (by omega), no2 (n + 3) (by omega) (by omega), no2 n (by omega) (by omega), no1 (n + 1) (by omega)⟩
    exact wpAny_pyNext_zipD2_end S D1 D2 hz hTI hTO s1 s2 lx ly he fun h' tk hk => ⟨rfl, I.turnedL (t' := tk) (ch := fpG n) (fun c o hb q =>
      hk c o (fun q' => hb (by simp [q'])) (fun q' => hb (by simp [q'])) (fun q' => hb (by simp [q'])) (fun q' => hb (by simp [q'])) q) hf⟩
  self := fun A i s Q E st h => wpAny_pyIter_zip st.1 h
def iZipG (K : PySem.W.Frag) (ta : TA) : TI := fun σ H R => ta σ H fun vs H1 => ∃ (S1 S2 : Src) (xs ys : List V), vs = [S1.v, S2.v] ∧ S1.has K xs H1 ∧ S2.has K ys H1 ∧ R (ItG K S1 S2) H1
theorem src_begin (S : Src) (I : Inv X pins σ H s) {xs : List V} {u : Value} (h : S.has X.K xs H) (r : RelV S.v u) :
    ∃ (o : Obj) (Hp0 : Heap → Prop), Begins u o Hp0 ∧ Hp0 s.heap ∧ S.low s.heap.objs.size ∧ ∀ (h' : Heap) (it : Addr), h'.get? it = some o → S.it it 0 h' := by
  cases S with
  | l a =>
    obtain ⟨its, rv, p, _⟩ := I.list h
    cases r
    exact ⟨_, _, begins_list a its.toArray, p.isList, p.lt, fun h' it e => ⟨_, e, rfl, rfl⟩⟩
  | t a =>
    obtain ⟨its, rv, p, _⟩ := I.tuple h
    cases r
    exact ⟨_, _, begins_tuple a its.toArray, p, p.lt, fun h' it e => ⟨_, e, rfl, rfl⟩⟩
  | s z =>
    obtain ⟨t, rfl⟩ := r
    exact ⟨_, _, begins_text z t, trivial, trivial, fun h' it e => ⟨t, _, e, rfl, rfl⟩⟩
theorem pi_zipG {X : Cx} {e e2 : Expr} {ta : TA} {p pos tpos : Pos} {elts : List Expr} {kk : Nat} (hg : Gl X "zip") (hm : X.mg "zip" = none) (ha : PA X [e, e2] ta)
    (hs : starEach [e, e2] X.env = (false, eval e X.env) :: starEach [e2] X.env := by rfl) (hpl : (backTo pos (starEach [e2] X.env)).any (·.1) = false := by rfl) :
    PI X (.Tuple elts kk tpos) (.Call (.Name "zip" p) [e, e2] [] pos) (iZipG X.K ta) := by
  refine ⟨fun pins s σ H R I h => ?_⟩
  refine Call_ (ld_blt I hg hm PyProof.Rows.boot_zip (PyProof.Rows.callWith_type1 (thn (ha.run pos pins s σ H _ I h) fun us s1 ⟨vs, H1, I1, r1, q1⟩ => ?_) hs hpl))
  obtain ⟨S1, S2, xs, ys, ex, hx, hy, q⟩ := q1
  subst ex
  cases r1 with
  | cons r rr =>
    cases rr with
    | cons r' rr =>
      cases rr
      obtain ⟨o1, G1, B1, g1, low1, b1⟩ := src_begin S1 I1 hx r
      obtain ⟨o2, G2, B2, g2, low2, b2⟩ := src_begin S2 I1 hy r'
      have fresh5 : ∀ c, c ∈ fpG s1.heap.objs.size → FpOk X pins H1 c := fun c hcm => by
        have e' : @Eq Nat c (s1.heap.objs.size + 4) ∨ @Eq Nat c (s1.heap.objs.size + 2) ∨ @Eq Nat c (s1.heap.objs.size + 3) ∨ @Eq Nat c s1.heap.objs.size ∨ @Eq Nat c (s1.heap.objs.size + 1) := by simpa using hcm
        have go : ∀ k : Nat, @Eq Nat c (s1.heap.objs.size + k) → s1.heap.objs.size ≤ c := fun k e => Nat.le_trans (Nat.le_add_right _ k) (Nat.le_of_eq e.symm)
        have hle : s1.heap.objs.size ≤ c := by
          rcases e' with e | e | e | e | e
          · exact go 4 e
          · exact go 2 e
          · exact go 3 e
          · exact go 0 e
          · exact go 1 e
        exact I1.fpOk hle (I1.hok.fresh hle)
      refine zip_begins2 B1 B2 g1 g2 fun h' hz hTI hTO h1 h2 hsz hk => wpAny_pyIter_zip hz ?_
      have I2 : Inv X pins σ H1 { s1 with heap := h' } := I1.kept (t' := s1.toks) hk
      exact ⟨s1.heap.objs.size + 4, fpG s1.heap.objs.size, _, _, H1, rfl, I2, turn_zipG low1 low2, ⟨hz, hTI, ⟨_, _, hTO⟩, b1 _ _ h1, b2 _ _ h2⟩, fresh5, q⟩
theorem walk_zipG {K : PySem.W.Frag} {S1 S2 : Src} {xs ys : List V} {n : Nat} (hn : n = min xs.length ys.length) : Walk (ItG K S1 S2) n (fun H => S1.has K xs H ∧ S2.has K ys H) (YPair (fun i => xs[i]?) (fun i => ys[i]?)) where
  goes := fun i H hi h => ⟨xs, ys, h.1, h.2, by omega, by omega⟩
  stops := fun H h => ⟨xs, ys, h.1, h.2, by omega, by omega, by omega⟩
  yields := fun i H v H' hi h ⟨T, x, y, e1, e2, e3, e4, e5⟩ => ⟨T, x, y, e1, e2, e3, e4 xs h.1, e5 ys h.2⟩
end
end ZipG

namespace ZipG
open PySem L2 PySem.Spec PyProof.Rows
/-! enumerate of a text -/
def ItES (z : Str) : It :=
  ⟨fun i _ => i < z.cps.size,
    fun i H v H' => ∃ T c, v = .ref T ∧ H T = none ∧ H' = upd H T (.tup [.int (i : Nat), .str ⟨#[c]⟩]) ∧ z.cps[i]? = some c,
    fun i _ => i = z.cps.size⟩
theorem turn_enumS {P : Program} {w : World} {K : PySem.W.Frag} {elts : List Expr} {kk : Nat} {tpos : Pos} (z : Str) (n : Nat) :
    Turn P w K (.Tuple elts kk tpos) (ItES z) [n + 1, n] (n + 1) (fun i h => (∃ old, IsEnum h (n + 1) n ((i : Nat) : Int) old) ∧ (Src.s z).it n i h) where
  mem := by simp
  obj := fun i h st b hb => by
    obtain ⟨⟨old, he⟩, hi⟩ := st
    have e' : b = n + 1 ∨ b = n := by simpa using hb
    rcases e' with q | q
    · rw [q]; exact ⟨_, he, fun v q => nomatch q⟩
    · rw [q]; exact src_obj hi
  keep := fun i h h' st k => let ⟨⟨old, he⟩, hi⟩ := st; ⟨⟨old, k (n + 1) (by simp) _ he⟩, src_it hi fun o q => k n (by simp) o q⟩
  item := by
    intro X hP hw hK hc i pins s σ H E I hf st hg
    subst hP hw hK
    obtain ⟨⟨old, he⟩, t, hit⟩ := st
    have hel : n + 1 < s.heap.objs.size := Heap.lt_size he
    have D := Draws.text (prog := X.prog) (w := X.w) (A := X.A.in1) (I.ok.hd hc) n z t
    refine wpAny_pyNext_enum_itemD D he hit hg (nn (by omega)) (by simp) fun u h' tk hu ho hit' hT hsz hk => ?_
    obtain ⟨c, tc, hc', rfl⟩ := hu
    refine ⟨_, rfl, wpAny_letOwnedTupleGo_enum (s := { s with heap := h', toks := tk + 1 }) ho fun h'' he' sb => ?_⟩
    have hT2 : h''.get? s.heap.objs.size = some { cls := .type "tuple", data := .seq #[.int i tk, .str ⟨#[c]⟩ tc] } := (sb.2 _ (Nat.ne_of_gt hel)).trans hT
    have new : ObjOk X.prog X.w (upd H s.heap.objs.size (.tup [.int (i : Nat), .str ⟨#[c]⟩])) h'' s.heap.objs.size (.tup [.int (i : Nat), .str ⟨#[c]⟩]) :=
      ⟨by show 2 ≤ sizeLine; decide, [.int i tk, .str ⟨#[c]⟩ tc], .cons ⟨_, rfl⟩ (.cons ⟨_, rfl⟩ .nil), ⟨_, hT2, rfl, _, rfl⟩⟩
    have I1 : Inv X pins σ (upd H s.heap.objs.size (.tup [.int (i : Nat), .str ⟨#[c]⟩])) { s with heap := h'', toks := tk + 1 } :=
      I.turnedNew (t' := tk + 1) (ch := [n + 1, n]) (fun b ob hb q => (sb.2 b (fun z => hb (by simp [z]))).trans (hk b ob (fun z => hb (by simp [z])) (fun z => hb (by simp [z])) q)) hf (Nat.le_refl _) new
    refine ⟨.ref s.heap.objs.size, _, I1, rfl, ⟨_, c, rfl, I.hok.fresh (Nat.le_refl _), rfl, hc'⟩, ⟨⟨.str ⟨#[c]⟩ tc, ?_⟩, src_it (S := .s z) ⟨t, hit'⟩ fun o q => (sb.2 n (nn (by omega))).trans q⟩, fun b hb => ?_⟩
    · have e1 : ((i + 1 : Nat) : Int) = (i : Int) + 1 := by omega
      rw [e1]; exact he'
    · have go : ∀ k : Nat, k ≤ 1 → @Eq Nat b (n + k) → b < s.heap.objs.size := fun k hk e => Nat.lt_of_le_of_lt (Nat.le_trans (Nat.le_of_eq e) (Nat.add_le_add_left hk n)) hel
      have e' : @Eq Nat b (n + 1) ∨ @Eq Nat b n := by simpa using hb
      have hb' : b < s.heap.objs.size := by
        rcases e' with e | e
        · exact go 1 (by decide) e
        · exact go 0 (by decide) e
      rw [upd_ne (Nat.ne_of_lt hb')]
      exact (hf b hb).1
  done := by
    intro X hP hw hK hc i pins s σ H E I hf st hg
    subst hP hw hK
    obtain ⟨⟨old, he⟩, t, hit⟩ := st
    obtain ⟨f0, f1, f2, f3, f4, f5⟩ := hf n (by simp)
    have D := Draws.text (prog := X.prog) (w := X.w) (A := X.A.in1) (I.ok.hd hc) n z t
    have hg : i = z.cps.size := hg
    subst hg
    exact wpAny_pyNext_enum_endD D he hit fun h' eb => ⟨rfl, I.turned (t' := s.toks) (fun b o hb q => eb b o hb q) f0 f1 f3 f4 f5⟩
  self := fun A i s Q E st h => let ⟨⟨_, he⟩, _⟩ := st; wpAny_pyIter_enum he h
def iEnumS (ta : TA) : TI := fun σ H R => ta σ H fun vs H1 => ∃ z, vs = [.str z] ∧ R (ItES z) H1
theorem pi_enumS {X : Cx} {e : Expr} {ta : TA} {p pos tpos : Pos} {elts : List Expr} {kk : Nat} (hg : Gl X "enumerate") (hm : X.mg "enumerate" = none) (ha : PA X [e] ta) (hs : starEach [e] X.env = [(false, eval e X.env)] := by rfl) :
    PI X (.Tuple elts kk tpos) (.Call (.Name "enumerate" p) [e] [] pos) (iEnumS ta) := by
  refine ⟨fun pins s σ H R I h => ?_⟩
  refine Call_ (ld_blt I hg hm boot_enumerate (PyProof.Rows.callWith_type1 (thn (ha.run pos pins s σ H _ I h) fun us s1 ⟨vs, H1, I1, r1, q1⟩ => ?_) hs rfl))
  obtain ⟨z, ex, q⟩ := q1
  subst ex
  cases r1 with
  | cons r rr =>
    cases rr
    obtain ⟨t, rfl⟩ := r
    refine call_enumerate_str fun h' he hit hsz hk => wpAny_pyIter_enum he ?_
    have I2 : Inv X pins σ H1 { s1 with heap := h' } := I1.kept (t' := s1.toks) hk
    refine ⟨s1.heap.objs.size + 1, [s1.heap.objs.size + 1, s1.heap.objs.size], _, _, H1, rfl, I2, turn_enumS z s1.heap.objs.size, ⟨⟨.none, he⟩, t, hit⟩, fun b hb => ?_, q⟩
    have e' : b = s1.heap.objs.size + 1 ∨ b = s1.heap.objs.size := by simpa using hb
    have hle : s1.heap.objs.size ≤ b := by
      rcases e' with z | z
      · rw [z]; exact Nat.le_add_right _ _
      · rw [z]; exact Nat.le_refl _
    exact I1.fpOk hle (I1.hok.fresh hle)
theorem walk_enumS {z : Str} : Walk (ItES z) z.cps.size (fun _ => True) (fun i H v H' => ∃ T c, v = .ref T ∧ H T = none ∧ H' = upd H T (.tup [.int (i : Nat), .str ⟨#[c]⟩]) ∧ z.cps[i]? = some c) where
  goes := fun i H hi _ => hi
  stops := fun H _ => rfl
  yields := fun i H v H' hi _ h => h
end ZipG

namespace K16
open PySem L2 Gd Ply
theorem st_ne {q : Nat} (h : St q) : q ≠ 0 := by
  rintro rfl
  unfold St at h
  omega
theorem stS_st {q : Nat} (h : St q) : stS q = SX.S [q] := by
  unfold stS
  rw [if_neg (st_ne h)]
def spCo : Sp := fun vs H Q _ => ∃ T, vs = [.str (SX.S T)] ∧ T.length ≤ 590 ∧ ∀ H', More H H' → Q (.int (col 83 T 0 : Int)) H'
section
variable {P : Program} {w : World} {K : PySem.W.Frag} {mg : Str → Option Value} {base : Heap}
variable {f g1 : Addr} {fd d1 : FuncData}
abbrev sCo : Stmt := top 51
abbrev NCo : List Str := ["_law_text", "_law_state", "_law_at", "_law_sign"]
theorem scCo : FnScope NCo ["_law_text"] (defScope sCo) := ⟨rfl, rfl, rfl, by decide +kernel, rfl, by decide +kernel, by decide +kernel⟩
theorem ok_co (F : Fun K "_law_column" "_law_column" sCo f fd) (B : Blt mg) (mEn : mg "enumerate" = none) (Nx : Cl K mg "_law_next" sNx ["_law_state", "_law_sign"] g1 d1) : FnOk P w K mg base CX0 2 f fd ["_law_text"] spCo := by
  have G1 : FnOk P w K mg base CX0 1 g1 d1 ["_law_state", "_law_sign"] spNx := ok_nx Nx.fn
  refine F.ok scCo (fun vs H Q E h => ?_) (fun cdv A outer s H vs Q E hr h => ?_)
  · obtain ⟨T, rfl, _⟩ := h
    rfl
  · obtain ⟨T, rfl, len, k⟩ := h
    refine ⟨_, pss_cons (ps_set (i := 1) scCo.nd rfl (Or.inl rfl) pe_str)
      (pss_cons (ps_for PassesOwn.never rfl (ZipG.pi_enumS rfl mEn (pa_cons (pv 0) pa_nil)) (pg_tup (by rfl) (pgs_cons (pg_name (i := 2) scCo.nd rfl (Or.inl rfl)) (pgs_cons (pg_name (i := 3) scCo.nd rfl (Or.inl rfl)) pgs_nil)))
        (pss_cons (ps_set (i := 1) scCo.nd rfl (Or.inl rfl) (pe_call G1 hr rfl Nx.g Nx.k Nx.b .nil pass0 (pa_cons (pv 1) (pa_cons (pv 3) pa_nil))))
        (pss_one (ps_if (pt_cmpR op_eq (pv 1) pe_str (nomark _)) (pss_one (ps_ret (pe_op op_add (pv 2) pe_int))) pss_nil))))
      (pss_one (ps_ret (pe_ifExp (pt_cmpR op_in_seq (pv 1) (pe_lst (pa_cons pe_str (pa_cons pe_str (pa_cons pe_str (pa_cons pe_str (pa_cons pe_str (pa_cons pe_str pa_nil)))))) ) (by rfl)) pe_int (pe_op op_add (pe_callB call_len_str (by rfl) B.len_ PySem.boot_len (pa_cons (pv 0) pa_nil)) pe_int))))), ?_⟩
    refine ⟨_, rfl, _, rfl, ?_⟩
    refine for_it (ZipG.walk_enumS (z := SX.S T)) (fun i σ H' => ∃ z2 z3 q, σ = [some (.str (SX.S T)), some (.str (SX.S [q])), z2, z3] ∧ St q ∧ col 83 T 0 = col q (T.drop i) i ∧ More H H') ⟨_, _, 83, rfl, .inl rfl, rfl, fun _ _ e => e⟩ (fun _ _ _ _ _ => trivial) ?_ ?_
    · rintro i x σ H1 H2 hi ⟨z2, z3, q, rfl, hq, cc, m1⟩ ⟨Z, c, rfl, nZ, rfl, hc⟩
      have hi : i < T.length := hi
      have ec : T[i]? = some c := by simpa [SX.S] using hc
      have er : T.drop i = c :: T.drop (i + 1) := by
        rw [drop_cons hi]
        rw [List.getElem?_eq_getElem hi] at ec
        rw [Option.some.inj ec]
      refine ⟨Z, _, rfl, SqT.of upd_same, rfl, _, _, rfl, _, _, rfl, rfl, ?_⟩
      have m2 : More H (upd H1 Z (.tup [.int (i : Nat), .str ⟨#[c]⟩])) := m1.new nZ
      refine ⟨_, rfl, _, rfl, q, c, rfl, hq, fun H3 m3 => ⟨_, rfl, rfl, _, rfl, ite2 (fun z => ?_) (fun z => ?_)⟩⟩
      · have z : stS (nx q c) = SX.S [] := V.str.inj (of_decide_eq_true z)
        have e0 : nx q c = 0 := by
          refine Classical.byContradiction fun n => ?_
          unfold stS at z
          rw [if_neg n] at z
          have z := SX.S_inj z
          cases z
        refine ⟨_, rfl, _, _, rfl, rfl, ?_⟩
        have e1 : col 83 T 0 = i + 1 := by
          rw [cc, er]
          show (if nx q c = 0 then _ else _) = _
          rw [if_pos e0]
        have := k H3 (fun b o e => m3 b o (m2 b o e))
        rw [e1] at this
        exact this
      · have e0 : nx q c ≠ 0 := fun e => z (decide_eq_true (by rw [e]; rfl))
        have hq2 : St (nx q c) := (st_nx hq).resolve_left e0
        rw [stS_st hq2]
        exact ⟨_, _, nx q c, rfl, hq2, by rw [cc, er, col_cons e0], fun b o e => m3 b o (m2 b o e)⟩
    · rintro σ H1 ⟨z2, z3, q, rfl, hq, cc, m1⟩
      have cc : col 83 T 0 = if fin q then 0 else T.length + 1 := by
        rw [cc, show (SX.S T).cps.size = T.length from rfl, List.drop_length]
        rfl
      refine ⟨_, rfl, by show 6 ≤ sizeLine; decide, fun p1 np1 => ⟨p1, _, rfl, .inl (SqL.of upd_same), rfl, rfl, _, rfl, ite2 (fun y => ?_) (fun y => ?_)⟩⟩
      · have y : fin q = true := (in6 q).symm.trans y
        have := k _ (m1.new np1 (o := .lst [.str "N", .str "Z", .str "L", .str "X", .str "O", .str "A"]))
        rw [cc, if_pos y] at this
        exact this
      · have y : ¬ fin q = true := fun u => y ((in6 q).trans u)
        have := k _ (m1.new np1 (o := .lst [.str "N", .str "Z", .str "L", .str "X", .str "O", .str "A"]))
        rw [cc, if_neg y] at this
        refine ⟨_, rfl, _, rfl, by rw [SX.S_len]; exact Nat.le_of_lt (small1000 (by omega)), _, _, rfl, rfl, ?_⟩
        rw [SX.S_len]
        exact this
end
end K16

namespace K16
open PySem L2 Gd Ply
def spRef : Sp := fun vs H Q _ => ∃ T, vs = [.str (SX.S T)] ∧ T.length ≤ 590 ∧ ∀ H', More H H' → Q (.int (col 83 T 0 : Int)) H'
section
variable {P : Program} {w : World} {K : PySem.W.Frag} {mg : Str → Option Value} {base : Heap}
variable {f gP CB : Addr} {fd dP : FuncData}
abbrev sRef : Stmt := top 52
abbrev NRef : List Str := ["_law_text", "e"]
theorem scRef : FnScope NRef ["_law_text"] (defScope sRef) := ⟨rfl, rfl, rfl, by decide +kernel, rfl, by decide +kernel, by decide +kernel⟩
theorem ok_ref (F : Fun K "_law_refused" "_law_refused" sRef f fd) (rr : PySem.W.exmOne K (.ref CB) (.ref CB) = some true) (xr : XfC K CB) (gR : mg "BadText" = some (.ref CB)) (nR : PySem.W.findIn K (.ref CB) "column" = some none)
    (Pf : Cl K mg "powers_of" sPf ["text"] gP dP) (GP : FnOk P w K mg base (L2.CX P w) 9 gP dP ["text"] (spPf CB)) : FnOk P w K mg base CX0 10 f fd ["_law_text"] spRef := by
  refine F.ok scRef (fun vs H Q E h => ?_) (fun cdv A outer s H vs Q E hr h => ?_)
  · obtain ⟨T, rfl, _⟩ := h
    rfl
  · obtain ⟨T, rfl, len, k⟩ := h
    refine ⟨_, pss_cons (ps_try_as (i := 1) (tb := fun W => tSeq (tDrop (tCallS (spPf CB) (WE W) (tCons (tVar 0) tNil))) tNext) (ts := fun a cls d => tSeq (tRet (tXf a cls d CB "column" (tVar 1))) tNext) rfl rfl scRef.nd rfl rfl ⟨rfl, by decide, .inl gR⟩ LamX.takes0 (fun W pn xe tk _ => ?_) (fun a oe cls d pn hz hf => pss_cons (ps_ret (pe_xf xr nR hz hf (pv 1))) pss_nil))
      (pss_one (ps_ret pe_int)), ?_⟩
    · exact pss_cons (ps_expr (pe_callS GP hr rfl Pf.g Pf.k Pf.b (fun σ => passAt tk σ) (pa_cons (pv 0) pa_nil))) pss_nil
    · refine ⟨_, rfl, T, rfl, len, fun e H' a m => ?_, fun n H1 m d nd => ?_⟩
      · have := k H' m
        rw [e] at this
        exact this
      · refine ⟨true, rr, fun _ a na => ?_, fun z => nomatch z⟩
        exact ⟨_, rfl, rfl, rfl, d, _, _, rfl, upd_same, rfl, k _ (fun b o e => by rw [upd_ne (ne_of_none (m b o e) nd)]; exact m b o e)⟩
end
end K16

namespace EqE
open PySem PySem.W PySem.Calls PyProof.Rows PySem.Spec L2
/-! a dict with tuples as keys == {}: only the numbers of entries are looked at -/
/-- what is known of a dict here -/
def Sized (h : Heap) (a : Addr) (n : Nat) : Prop := (a == sysModules) = false ∧ ∃ o es ep, h.get? a = some o ∧ o.ExactDict ∧ o.data = .dict es ep ∧ Array.size es = n
section
variable {prog : Program} {w : World} {A : Around} {E : Value → Shared → Prop} {s : Shared} {a b : Addr} {n : Nat}
theorem Sized.ty (h : Sized s.heap a n) : s.TypeIs (.ref a) "dict" := let ⟨_, o, _, _, g, x, _⟩ := h; ⟨o, g, x.1⟩
theorem pairs_zero {nm : String} {Q : Bool → Shared → Prop} (x : Sized s.heap a n) (y : Sized s.heap b 0) (h : Q (decide (n = 0)) s) : wpAny (model prog w) A (Builtin.Dict.samePairs nm a b) Q E s := by
  obtain ⟨na, o1, e1, p1, g1, _, t1, rfl⟩ := x
  obtain ⟨nb, o2, e2, p2, g2, _, t2, z2⟩ := y
  have no : ∀ {c : Addr}, (c == sysModules) = false → ¬ (c == sysModules) = true := fun e z => by rw [e] at z; cases z
  unfold Builtin.Dict.samePairs Builtin.Dict.showsAll
  simp only [if_neg (no na), if_neg (no nb)]
  refine wpAny_bind (wpAny_pure (wpAny_bind (wpAny_pure (wpAny_bind (wpAny_dictEntries g1 t1 (wpAny_bind (wpAny_dictEntries g2 t2 ?_)))))))
  rcases Nat.eq_zero_or_pos (Array.size e1) with z | z
  · have k : Q true s := by simpa [z] using h
    simp only [z, z2, bne_self_eq_false, Bool.false_eq_true, if_false]
    refine wpAny_bind (wpAny_dictEpoch g1 t1 (wpAny_bind ?_))
    simp only [Std.Legacy.Range.forIn_eq_forIn_range', Std.Legacy.Range.size, Nat.sub_zero, Nat.add_sub_cancel, Nat.div_one]
    exact wpAny_pure (wpAny_pure k)
  · have ne : Array.size e1 ≠ 0 := Nat.ne_of_gt z
    have k : Q false s := by simpa [ne] using h
    have d : (Array.size e1 != Array.size e2) = true := by simpa [z2] using ne
    rw [if_pos d]
    exact wpAny_bind (wpAny_rule (wpAny_pure k))
theorem eq_zero {Q : Value → Shared → Prop} (x : Sized s.heap a n) (y : Sized s.heap b 0) (hu : A.units < cLine) (h : Q (.bool (decide (n = 0))) s) : wpAny (model prog w) A (compareOp .Eq (.ref a) (.ref b)) Q E s := by
  apply wpAny_richCompare_same_room (op := .Eq) x.ty y.ty PySem.F.slot_dict_eq _ hu
  apply wpAny_call_entry PySem.F.slot_dict_eq x.ty PySem.F.entry_dict_eq _ (PySem.F.args_dict_eq_2 _ _)
  apply wpAny_bind
  unfold Builtin.Dict.dictSlotArgs
  apply wpAny_bind (wpAny_notOrdered_dict x.ty _)
  apply wpAny_pure
  apply wpAny_bind (wpAny_isInstance (T := "dict") y.ty PySem.F.sub_dict_dict _)
  simp only [Bool.not_true, Bool.false_eq_true, if_false]
  refine wpAny_bind (wpAny_pure (wpAny_bind (wpAny_pure (wpAny_bind (pairs_zero x y ?_)))))
  refine wpAny_pure ⟨_, rfl, (fun z => nomatch z), ?_⟩
  simpa using h
end
section
variable {X : Cx}
def rEqE : R2 := fun x y H Q => ∃ a b kvs, x = .ref a ∧ y = .ref b ∧ H a = some (.dT kvs) ∧ H b = some (.dT []) ∧ Q (.bl kvs.isEmpty) H
theorem sized {pins : List (Addr × Obj)} {σ : L2.St} {H : Hp} {s : Shared} {a : Addr} {kvs : List (List Key × V)} (I : L2.Inv X pins σ H s) (e : H a = some (.dT kvs)) : Sized s.heap a kvs.length := by
  obtain ⟨_, ya, xs, ra, o, es, ep, g, x, t, l, _⟩ := dt_of I.hok e
  exact ⟨ya, o, es, ep, g, x, t, (PySem.size_of_entries l).trans (Paired.length ra).symm⟩
theorem op_eqE (hu : X.A.units < cLine) : OpR X (compareOp .Eq) rEqE := by
  intro pins s σ H x y v u Q I rx ry h
  obtain ⟨a, b, kvs, rfl, rfl, ea, eb, q⟩ := h
  obtain rfl : v = Value.ref a := rx
  obtain rfl : u = Value.ref b := ry
  refine eq_zero (sized I ea) (sized I eb) hu (fin_bl I q ?_)
  cases kvs <;> rfl
end
end EqE

namespace K16
open PySem L2 Gd Ply
theorem size_ok {n : Nat} (h : n ≤ 1000) : n ≤ sizeLine := Nat.le_of_lt (small1000 h)
theorem lt50 {n : Nat} (h : n < 10 ^ 50) : n.log2 < 1920 := by
  rcases Nat.eq_zero_or_pos n with rfl | p
  · decide
  · have : n < 2 ^ 170 := Nat.lt_trans h (by decide)
    have := (Nat.log2_lt (by omega)).mpr this
    omega
/-- an int as a text -/
theorem int_text {i : Int} (h : i.natAbs ≤ big20) : ∃ L : List Nat, Str.ofString (toString i) = SX.S L ∧ L.length ≤ 23 := by
  refine ⟨TL.tl (Str.ofString (toString i)), TL.ext_tl (TL.tl_mk _).symm, ?_⟩
  have e : (TL.tl (Str.ofString (toString i))).length = (Str.ofString (toString i)).length := Array.length_toList
  rw [e]
  cases i with
  | ofNat n =>
    have h : n ≤ big20 := h
    have := PyProof.Rows.toString_length_le (v := Int.ofNat n) (Int.natCast_nonneg n) (k := 22) (by decide) (by
      show ((n : Nat) : Int) < 10 ^ 22
      have : big20 < 10 ^ 22 := by decide
      omega)
    omega
  | negSucc m =>
    have h : m + 1 ≤ big20 := h
    have e2 : toString (Int.negSucc m) = "-" ++ toString ((m + 1 : Nat) : Int) := rfl
    have := PyProof.Rows.toString_length_le (v := ((m + 1 : Nat) : Int)) (Int.natCast_nonneg _) (k := 22) (by decide) (by
      have : big20 < 10 ^ 22 := by decide
      omega)
    rw [PyProof.Rows.ofString_length] at this ⊢
    rw [e2, String.toList_append, List.length_append]
    show 1 + _ ≤ 23
    omega
theorem joinL_le (k : Nat) : ∀ (ws : List (List Nat)), (∀ W ∈ ws, W.length ≤ k) → (TL.joinL [42] ws).length ≤ (k + 1) * ws.length
  | [], _ => Nat.le_refl _
  | [W], h => by
    have := h W (.head _)
    show W.length ≤ (k + 1) * 1
    omega
  | W :: W2 :: ws, h => by
    have h1 := h W (.head _)
    have h2 := joinL_le k (W2 :: ws) fun x hx => h x (.tail _ hx)
    show (W ++ ([42] ++ TL.joinL [42] (W2 :: ws))).length ≤ _
    rw [List.length_append, List.length_append, List.length_cons (a := W), Nat.mul_succ]
    show W.length + (1 + _) ≤ _
    omega
def spTt : Sp := fun vs H Q _ => ∃ (n : Int) (p : Addr) (k : List Int), vs = [.int n, .ref p] ∧ n.natAbs ≤ big20 ∧ H p = some (.tup (k.map V.int)) ∧ k.length = 3 ∧ (∀ i ∈ k, i.natAbs ≤ big20) ∧ ∀ (H' : Hp) (W : List Nat), More H H' → W.length ≤ 104 → Q (.str (SX.S W)) H'
section
variable {P : Program} {w : World} {K : PySem.W.Frag} {mg : Str → Option Value} {base : Heap}
variable {f : Addr} {fd : FuncData}
abbrev sTt : Stmt := top 46
abbrev NTt : List Str := ["_law_number", "_law_place", "_law_parts", "_law_letter", "_law_exponent"]
theorem scTt : FnScope NTt ["_law_number", "_law_place"] (defScope sTt) := ⟨rfl, rfl, rfl, by decide +kernel, rfl, by decide +kernel, by decide +kernel⟩
theorem ok_tt (F : Fun K "_law_term_text" "_law_term_text" sTt f fd) (B : Blt mg) (mStr : mg "str" = none) (mZip : mg "zip" = none) : FnOk P w K mg base CX0 1 f fd ["_law_number", "_law_place"] spTt := by
  refine F.ok scTt (fun vs H Q E h => ?_) (fun cdv A outer s H vs Q E hr h => ?_)
  · obtain ⟨n, p, k, rfl, _⟩ := h
    rfl
  · obtain ⟨n, p, k, rfl, nb, hp, k3, kb, q⟩ := h
    have hu := hu_of hr
    have hu64 := hr.units
    refine ⟨_, Evl.pss_cut (ps_set (i := 2) scTt.nd rfl (Or.inl rfl) (pe_ifExp (PW.pt (pw_and (pt_cmpR op_eq (pv 0) pe_int (nomark _)) (pw_and1 (pt_cmpR (op_neD hu64) (pv 1) (pe_tup (pa_cons pe_int (pa_cons pe_int (pa_cons pe_int pa_nil)))) (by rfl)))))
        (pe_lst pa_nil) (pe_lst (pa_cons (pe_callTy call_str_int (by rfl) mStr (by decide +kernel) (pa_cons (pv 0) pa_nil)) pa_nil))))
      (pss_cons (ps_for PassesOwn.never rfl (ZipG.pi_zipG rfl mZip (pa_cons pe_str (pa_cons (pv 1) pa_nil))) (pg_tup (by rfl) (pgs_cons (pg_name (i := 3) scTt.nd rfl (Or.inl rfl)) (pgs_cons (pg_name (i := 4) scTt.nd rfl (Or.inl rfl)) pgs_nil)))
        (pss_one (ps_if (pt_cmpR op_ne (pv 4) pe_int (nomark _))
          (pss_one (ps_expr (pe_bm PySem.F.plainAttrs_list PySem.F.slot_list_append PySem.F.type_list_append mt_append (pv 2) (pa_cons (pe_ifExp (pt_cmpR op_eq (pv 4) pe_int (nomark _)) (pv 3)
            (pe_op op_add_str (pe_op op_add_str (pv 3) pe_str) (pe_callTy call_str_int (by rfl) mStr (by decide +kernel) (pa_cons (pv 4) pa_nil)))) pa_nil)))) pss_nil)))
      (pss_one (ps_ret (pe_join pe_str (pv 2))))), ?_⟩
    refine ⟨fun σ' H' => ∃ (l : Addr) (ws : List (List Nat)), σ' = [some (.int n), some (.ref p), some (.ref l), none, none] ∧ H' l = some (.lst ((ws.map SX.S).map V.str)) ∧ H l = none ∧ More H H' ∧ ws.length ≤ 1 ∧ ∀ W ∈ ws, W.length ≤ 25, ?_, ?_⟩
    · have one : ∀ H1 : Hp, More H H1 → ∀ l, H1 l = none → ∃ ws : List (List Nat), (upd H1 l (.lst [.str (Str.ofString (toString n))])) l = some (.lst ((ws.map SX.S).map V.str)) ∧ H l = none ∧ More H (upd H1 l (.lst [.str (Str.ofString (toString n))])) ∧ ws.length ≤ 1 ∧ ∀ W ∈ ws, W.length ≤ 25 := by
        intro H1 m1 l nl
        obtain ⟨L, eL, lL⟩ := int_text nb
        refine ⟨[L], ?_, More.off m1 nl, m1.new nl, Nat.le_refl _, ?_⟩
        · rw [upd_same, eL]
          rfl
        · intro W hW
          rw [List.mem_singleton] at hW
          subst hW
          omega
      refine ⟨_, rfl, rfl, _, rfl, ite2 (fun z => ?_) (fun z => ?_)⟩
      · refine ⟨_, rfl, by show 3 ≤ sizeLine; decide, fun t nt => ?_⟩
        match k, k3 with
        | [k0, k1, k2], _ =>
        have hp1 : (upd H t (.tup [.int 0, .int 0, .int 0])) p = some (.tup (([k0, k1, k2] : List Int).map V.int)) := new_more nt _ _ hp
        refine ⟨.tuple [.int k0, .int k1, .int k2], .tuple [.int 0, .int 0, .int 0], .tup (SqT.of hp1) (dp_ints [k0, k1, k2]), .tup (SqT.of upd_same) (dp_ints [0, 0, 0]), rfl, rfl, _, rfl, ite2 (fun y => ?_) (fun y => ?_)⟩
        · refine ⟨by show 0 ≤ sizeLine; decide, fun l nl => ⟨l, [], rfl, upd_same, More.off (new_more nt) nl, (new_more nt).new nl, Nat.zero_le _, fun _ h => nomatch h⟩⟩
        · refine ⟨_, rfl, _, rfl, lt50 (Nat.lt_of_le_of_lt nb (by decide)), by show 1 ≤ sizeLine; decide, fun l nl => ?_⟩
          obtain ⟨ws, e1, e2, e3, e4, e5⟩ := one _ (new_more nt) l nl
          exact ⟨l, ws, rfl, e1, e2, e3, e4, e5⟩
      · refine ⟨_, rfl, _, rfl, lt50 (Nat.lt_of_le_of_lt nb (by decide)), by show 1 ≤ sizeLine; decide, fun l nl => ?_⟩
        obtain ⟨ws, e1, e2, e3, e4, e5⟩ := one H (fun _ _ e => e) l nl
        exact ⟨l, ws, rfl, e1, e2, e3, e4, e5⟩
    · rintro σ' H1 ⟨l, ws, rfl, hl, nl, m1, wl, w25⟩
      have hp1 := m1 _ _ hp
      refine ⟨_, rfl, .s "xyz", .t p, _, _, rfl, rfl, SqT.of hp1, ?_⟩
      refine for_it (ZipG.walk_zipG (n := 3) (xs := ("xyz" : Str).cps.toList.map fun c => V.str ⟨#[c]⟩) (ys := k.map V.int) (by simp [k3]; rfl)) (fun i σ H' => ∃ (ws : List (List Nat)) (z3 z4 : Option V), σ = [some (.int n), some (.ref p), some (.ref l), z3, z4] ∧ H' l = some (.lst ((ws.map SX.S).map V.str)) ∧ More H H' ∧ ws.length ≤ 1 + i ∧ ∀ W ∈ ws, W.length ≤ 25)
        ⟨ws, _, _, rfl, hl, m1, by omega, w25⟩ (fun i σ H' _ ⟨_, _, _, _, _, m, _⟩ => ⟨rfl, SqT.of (m _ _ hp)⟩) ?_ ?_
      · rintro i x σ H2 H3 hi ⟨ws, z3, z4, rfl, hl2, m2, wl2, w2⟩ ⟨T, x, y, rfl, nT, rfl, hx, hy⟩
        obtain ⟨c, rfl⟩ : ∃ c, x = .str (SX.S [c]) := by
          have hx : ((("xyz" : Str).cps.toList).map fun c => V.str ⟨#[c]⟩)[i]? = some x := hx
          rw [List.getElem?_map] at hx
          cases e : (("xyz" : Str).cps.toList)[i]? with
          | none => rw [e] at hx; cases hx
          | some c => rw [e] at hx; exact ⟨c, (Option.some.inj hx).symm⟩
        obtain ⟨e, rfl, he⟩ : ∃ e : Int, y = .int e ∧ e ∈ k := by
          have hy : (k.map V.int)[i]? = some y := hy
          rw [List.getElem?_map] at hy
          cases z : k[i]? with
          | none => rw [z] at hy; cases hy
          | some e => rw [z] at hy; exact ⟨e, (Option.some.inj hy).symm, List.mem_of_getElem? z⟩
        have nTl : T ≠ l := fun z => by rw [z, hl2] at nT; cases nT
        have hl3 : (upd H2 T (.tup [.str (SX.S [c]), .int e])) l = some (.lst ((ws.map SX.S).map V.str)) := new_more nT _ _ hl2
        have m3 : More H (upd H2 T (.tup [.str (SX.S [c]), .int e])) := m2.new nT
        have t3 : (upd H2 T (.tup [.str (SX.S [c]), .int e])) T = some (.tup [.str (SX.S [c]), .int e]) := upd_same
        generalize upd H2 T (HO.tup [.str (SX.S [c]), .int e]) = H3 at hl3 m3 t3 ⊢
        have app : ∀ (W : List Nat), W.length ≤ 25 → ((ws.map SX.S).map V.str).length < sizeLine ∧ ∃ (ws' : List (List Nat)) (z3 z4 : Option V), [some (V.int n), some (V.ref p), some (V.ref l), some (.str (SX.S [c])), some (.int e)] = [some (.int n), some (.ref p), some (.ref l), z3, z4] ∧
            (upd H3 l (.lst (((ws.map SX.S).map V.str) ++ [.str (SX.S W)]))) l = some (.lst ((ws'.map SX.S).map V.str)) ∧ More H (upd H3 l (.lst (((ws.map SX.S).map V.str) ++ [.str (SX.S W)]))) ∧ ws'.length ≤ 1 + (i + 1) ∧ ∀ W ∈ ws', W.length ≤ 25 := by
          intro W hW
          refine ⟨by rw [List.length_map, List.length_map]; exact small1000 (by omega), ws ++ [W], _, _, rfl, ?_, fun b o hb => ?_, by rw [List.length_append]; show _ + 1 ≤ _; omega, fun W' h' => ?_⟩
          · rw [upd_same, List.map_append, List.map_append]
            rfl
          · rw [upd_ne (ne_of_none hb nl)]
            exact m3 b o hb
          · rcases List.mem_append.mp h' with h' | h'
            · exact w2 W' h'
            · rw [List.mem_singleton] at h'
              rw [h']
              exact hW
        refine ⟨T, _, rfl, SqT.of t3, rfl, _, _, rfl, _, _, rfl, rfl, ?_⟩
        refine ⟨_, rfl, rfl, _, rfl, ite2 (fun z => ?_) (fun z => ?_)⟩
        · refine ⟨_, rfl, .inl ⟨rfl, _, SqL.of hl3⟩, _, rfl, rfl, _, rfl, ite2 (fun y => ?_) (fun y => ?_)⟩
          · obtain ⟨a, b⟩ := app [c] (by show 1 ≤ 25; omega)
            exact ⟨_, rfl, l, _, _, rfl, rfl, hl3, a, b⟩
          · obtain ⟨L, eL, lL⟩ := int_text (kb e he)
            obtain ⟨a, b⟩ := app (([c] ++ [94]) ++ L) (by rw [List.length_append]; show 2 + _ ≤ _; omega)
            refine ⟨_, rfl, _, _, rfl, rfl, by rw [SX.S_len]; exact size_ok (by show 1 + 1 ≤ 1000; omega), _, rfl, _, rfl, lt50 (Nat.lt_of_le_of_lt (kb e he) (by decide)), ?_⟩
            rw [eL]
            refine ⟨_, _, rfl, rfl, by rw [show ("^" : Str) = SX.S [94] from rfl, SX.S_cat, SX.S_len, SX.S_len]; exact size_ok (by show 2 + _ ≤ 1000; omega), ?_⟩
            rw [show ("^" : Str) = SX.S [94] from rfl, SX.S_cat, SX.S_cat]
            exact ⟨l, _, _, rfl, rfl, hl3, a, b⟩
        · exact ⟨ws, _, _, rfl, hl3, m3, by omega, w2⟩
      · rintro σ H2 ⟨ws, z3, z4, rfl, hl2, m2, wl2, w2⟩
        have jl := joinL_le 25 ws w2
        refine ⟨⟨_, rfl⟩, _, rfl, _, l, ws.map SX.S, rfl, rfl, .inl (SqL.of hl2), ?_, ?_⟩
        · have e1 : ((ws.map SX.S).map (·.length)).sum ≤ 25 * ws.length := by
            clear hl2 jl wl2
            induction ws with
            | nil => exact Nat.le_refl _
            | cons W ws ih =>
              have h1 := w2 W (.head _)
              have h2 := ih fun x hx => w2 x (.tail _ hx)
              simp only [List.map_cons, List.sum_cons, List.length_cons, SX.S_len] at h2 ⊢
              omega
          have e2 : (ws.map SX.S).length = ws.length := List.length_map _
          rw [e2]
          show _ + ws.length * 1 ≤ _
          omega
        · rw [show ("*" : Str) = SX.S [42] from rfl, SX.join_S]
          exact q H2 _ m2 (by omega)
end
end K16

namespace K16
open PySem L2 Gd Ply
def spPt : Sp := fun vs H Q _ => ∃ (D : Addr) (p : Po), vs = [.ref D] ∧ PD H D p big20 big20 ∧ ∀ (H' : Hp) (W : List Nat), More H H' → W.length ≤ 540 → Q (.str (SX.S W)) H'
section
variable {P : Program} {w : World} {K : PySem.W.Frag} {mg : Str → Option Value} {base : Heap}
variable {f g1 : Addr} {fd d1 : FuncData}
abbrev sPt : Stmt := top 47
abbrev NPt : List Str := ["_law_poly_here", "_law_text", "_law_place", "_law_number", "_law_sign"]
theorem scPt : FnScope NPt ["_law_poly_here"] (defScope sPt) := ⟨rfl, rfl, rfl, by decide +kernel, rfl, by decide +kernel, by decide +kernel⟩
theorem ok_pt (F : Fun K "_law_poly_text" "_law_poly_text" sPt f fd) (B : Blt mg) (B2 : Blt2 mg) (mStr : mg "str" = none) (mZip : mg "zip" = none) (Tt : Cl K mg "_law_term_text" sTt ["_law_number", "_law_place"] g1 d1) : FnOk P w K mg base CX0 2 f fd ["_law_poly_here"] spPt := by
  have G1 : FnOk P w K mg base CX0 1 g1 d1 ["_law_number", "_law_place"] spTt := ok_tt Tt.fn B mStr mZip
  refine F.ok scPt (fun vs H Q E h => ?_) (fun cdv A outer s H vs Q E hr h => ?_)
  · obtain ⟨D, p, rfl, _⟩ := h
    rfl
  · obtain ⟨D, p, rfl, pd, q⟩ := h
    have hu := hu_of hr
    have hu64 := hr.units
    have hu0 := Nat.lt_of_le_of_lt (Nat.le_add_right _ 64) hu64
    refine ⟨_, pss_cons (ps_if (pt_cmpR (EqE.op_eqE hu0) (pv 0) pe_dnewT (by rfl)) (pss_one (ps_ret pe_str)) pss_nil)
      (pss_cons (ps_set (i := 1) scPt.nd rfl (Or.inl rfl) pe_str)
      (pss_cons (ps_for PassesOwn.never rfl (pi_list (pe_callB (cr_sortTI hu64) (by rfl) B2.sorted_ (by decide +kernel) (pa_cons (pe_callTy (call_list_dT rfl) (by rfl) B.list_ (by decide +kernel) (pa_cons (pv 0) pa_nil)) pa_nil))) (pg_name (i := 2) scPt.nd rfl (Or.inl rfl))
        (pss_cons (ps_set (i := 3) scPt.nd rfl (Or.inl rfl) (pe_dget hu (pv 0) (pv 2) (fun _ _ => rfl)))
        (Evl.pss_cut (ps_set (i := 4) scPt.nd rfl (Or.inl rfl) (pe_ifExp (pt_cmpR op_eq (pv 1) pe_str (nomark _)) (pe_ifExp (pt_cmpR op_lt (pv 3) pe_int (nomark _)) pe_str pe_str) (pe_ifExp (pt_cmpR op_lt (pv 3) pe_int (nomark _)) pe_str pe_str)))
        (pss_one (ps_set (i := 1) scPt.nd rfl (Or.inl rfl) (pe_op op_add_str (pe_op op_add_str (pv 1) (pv 4)) (pe_call G1 hr rfl Tt.g Tt.k Tt.b .nil pass0 (pa_cons (pe_callB call_abs (by rfl) B2.abs_ (by decide +kernel) (pa_cons (pv 3) pa_nil)) (pa_cons (pv 2) pa_nil)))))))))
      (pss_one (ps_ret (pv 1))))), ?_⟩
    obtain ⟨hD, nd, few, three, exb, nmb⟩ := pd
    refine ⟨_, rfl, fun p0 np0 => ?_⟩
    have m0 : More H (upd H p0 (.dT [])) := new_more np0
    have hD0 := m0 _ _ hD
    refine ⟨D, p0, _, rfl, rfl, hD0, upd_same, _, rfl, ite2 (fun _ => q _ [48] m0 (by show 1 ≤ 540; decide)) (fun _ => ?_)⟩
    generalize upd H p0 (HO.dT []) = H0 at m0 hD0 ⊢
    refine ⟨_, rfl, D, _, rfl, .inl hD0, fun L0 bs nL ik => ?_⟩
    obtain ⟨bz, b1, b2, b3⟩ := keys_of ik
    have er : bs.map V.ref = bz.map fun b => V.ref b.1 := by rw [← b1, List.map_map]; rfl
    have z3 : ∀ b ∈ bz, b.2.length = 3 ∧ b.2 ∈ ks p := fun b hb => by
      have m : b.2 ∈ ks p := by rw [← b2]; exact List.mem_map.mpr ⟨b, hb, rfl⟩
      obtain ⟨e, he, z⟩ := List.mem_map.mp m
      exact ⟨by rw [← z]; exact three e he, m⟩
    rw [er]
    refine ⟨L0, bz, rfl, SqL.of upd_same, fun b hb => ⟨SqT.of (by rw [upd_ne (ne_of_none (b3 b hb) nL)]; exact b3 b hb), fun z => by have := (z3 b hb).1; rw [z] at this; cases this⟩, fun L1 nL1 => ?_⟩
    have m1 : More H0 (upd (upd H0 L0 (.lst (bz.map fun b => V.ref b.1))) L1 (.lst ((bz.mergeSort leI).map fun b => V.ref b.1))) := (new_more nL).new nL1
    have e1 : (upd (upd H0 L0 (.lst (bz.map fun b => V.ref b.1))) L1 (.lst ((bz.mergeSort leI).map fun b => V.ref b.1))) L1 = some (.lst ((bz.mergeSort leI).map fun b => V.ref b.1)) := upd_same
    generalize upd (upd H0 L0 (.lst (bz.map fun b => V.ref b.1))) L1 (.lst ((bz.mergeSort leI).map fun b => V.ref b.1)) = H1 at m1 e1 ⊢
    have perm := List.mergeSort_perm bz leI
    have sl : ∀ b ∈ bz.mergeSort leI, H1 b.1 = some (.tup (b.2.map V.int)) ∧ b.2 ∈ ks p := fun b hb => ⟨m1 _ _ (b3 b (perm.mem_iff.mp hb)), (z3 b (perm.mem_iff.mp hb)).2⟩
    have slen : (bz.mergeSort leI).length ≤ 5 := by
      rw [List.length_mergeSort]
      have := congrArg List.length b2
      unfold ks at this
      rw [List.length_map, List.length_map] at this
      omega
    generalize bz.mergeSort leI = sb at *
    refine ⟨L1, rfl, ⟨_, SqL.of e1⟩, for_list (K := K) (a := L1) (xs := sb.map fun b => V.ref b.1) (fun i σ H' => ∃ (W : List Nat) (z2 z3 z4 : Option V), σ = [some (.ref D), some (.str (SX.S W)), z2, z3, z4] ∧ W.length ≤ 107 * i ∧ More H1 H')
      ⟨[], _, _, _, rfl, Nat.zero_le _, fun _ _ e => e⟩ (fun i σ H' _ ⟨_, _, _, _, _, _, m⟩ => SqL.of (m _ _ e1)) ?_ ?_⟩
    · rintro i x σ H2 hx ⟨W, z2, z3, z4, rfl, wl, m2⟩
      obtain ⟨b0, hb0, rfl⟩ : ∃ b0, sb[i]? = some b0 ∧ x = .ref b0.1 := by
        rw [List.getElem?_map] at hx
        cases z : sb[i]? with
        | none => rw [z] at hx; cases hx
        | some b0 => rw [z] at hx; exact ⟨b0, rfl, (Option.some.inj hx).symm⟩
      have hi : i < 5 := by
        have := (List.getElem?_eq_some_iff.mp hb0).1
        omega
      obtain ⟨q1, q3⟩ := sl b0 (List.mem_of_getElem? hb0)
      have dg : DGet H2 D (.ref b0.1) (some (.int (val p b0.2))) := by
        have z := DGet.t (k := kI b0.2) (m2 _ _ (m1 _ _ hD0)) (by rw [kI_V]; exact m2 _ _ q1)
        rw [valS q3] at z
        exact z
      obtain ⟨e, he, ek⟩ := List.mem_map.mp q3
      have vb : (val p b0.2).natAbs ≤ big20 := by
        rw [← ek, val_at nd he]
        exact nmb e he
      have kb : ∀ i ∈ b0.2, i.natAbs ≤ big20 := by
        rw [← ek]
        exact exb e he
      have k3 : b0.2.length = 3 := by
        rw [← ek]
        exact three e he
      generalize val p b0.2 = n at dg vb
      refine ⟨_, rfl, _, rfl, D, _, rfl, dg, ?_⟩
      refine ⟨fun σ' H' => ∃ S : List Nat, σ' = [some (.ref D), some (.str (SX.S W)), some (.ref b0.1), some (.int n), some (.str (SX.S S))] ∧ H' = H2 ∧ S.length ≤ 3, ?_, ?_⟩
      · refine ⟨_, rfl, rfl, _, rfl, ite2 (fun _ => ⟨_, rfl, _, _, rfl, rfl, _, rfl, ite2 (fun _ => ⟨[45], rfl, rfl, by decide⟩) (fun _ => ⟨[], rfl, rfl, by decide⟩)⟩) (fun _ => ⟨_, rfl, _, _, rfl, rfl, _, rfl, ite2 (fun _ => ⟨[32, 45, 32], rfl, rfl, by decide⟩) (fun _ => ⟨[32, 43, 32], rfl, rfl, by decide⟩)⟩)⟩
      · rintro σ' H' ⟨S, rfl, rfl, s3⟩
        refine ⟨_, rfl, _, rfl, _, _, rfl, rfl, by rw [SX.S_len, SX.S_len]; exact size_ok (by omega), _, rfl, _, rfl, _, rfl, _, b0.1, b0.2, rfl, ?_, m2 _ _ q1, k3, kb, fun H3 Z m3 zl => ?_⟩
        · split <;> omega
        · rw [SX.S_cat]
          refine ⟨_, _, rfl, rfl, by rw [SX.S_len, SX.S_len, List.length_append]; exact size_ok (by omega), ?_⟩
          rw [SX.S_cat]
          exact ⟨_, _, _, _, rfl, by rw [List.length_append, List.length_append]; omega, fun b o e => m3 b o (m2 b o e)⟩
    · rintro σ H2 ⟨W, z2, z3, z4, rfl, wl, m2⟩
      rw [List.length_map] at wl
      exact ⟨_, rfl, q H2 W (fun b o e => m2 _ _ (m1 _ _ (m0 _ _ e))) (by omega)⟩
end
end K16

namespace ListS
open PySem L2 PySem.Spec PyProof.Rows
/-! list of a text: its signs -/
theorem vals_of : ∀ (ys : List V) (us : List Value), ys.length = us.length → (∀ (i : Nat) (y : V) (u : Value), ys[i]? = some y → us[i]? = some u → RelV y u) → Vals ys us
  | [], [], _, _ => .nil
  | y :: ys, u :: us, hl, h => .cons (h 0 y u rfl rfl) (vals_of ys us (by simpa using hl) fun i y' u' h1 h2 => h (i + 1) y' u' (by rw [List.getElem?_cons_succ]; exact h1) (by rw [List.getElem?_cons_succ]; exact h2))
def signs (z : Str) : List V := z.cps.toList.map fun c => V.str ⟨#[c]⟩
section
variable {X : Cx}
theorem call_list_text (hc : X.calm = true) : CallR X (.type "list") (fun xs H Q => ∃ z, xs = [.str z] ∧ z.length ≤ sizeLine ∧ ∀ l, H l = none → Q (.ref l) (upd H l (.lst (signs z)))) := by
  intro pins s σ H xs us Q I r h
  obtain ⟨z, rfl, hz, q⟩ := h
  obtain ⟨u, rfl, t, rfl⟩ := vals1 r
  refine call_list_str (I.ok.hd hc) z t (fun h' tk acc' c' kp e it => ?_) hz
  have hv : Vals (signs z) acc'.toList := by
    refine vals_of _ _ ?_ fun i y u h1 h2 => ?_
    · unfold signs
      rw [List.length_map, Array.length_toList, Array.length_toList, it.1]
    · rw [Array.getElem?_toList] at h2
      obtain ⟨c, t, hc, rfl⟩ := it.2 i u h2
      unfold signs at h1
      rw [List.getElem?_map, Array.getElem?_toList, hc] at h1
      cases h1
      exact ⟨t, rfl⟩
  have hl : (signs z).length ≤ sizeLine := by
    unfold signs
    rw [List.length_map, Array.length_toList]
    exact hz
  exact ⟨.ref s.heap.objs.size, _, I.laid (t' := tk) kp (Nat.le_refl _) (show ObjOk X.prog X.w _ h' _ (.lst (signs z)) from ⟨hl, acc'.toList, c', hv, by rw [Array.toArray_toList]; exact e⟩), rfl, q _ (I.hok.fresh (Nat.le_refl _))⟩
end
end ListS

namespace K16
open PySem L2 Gd Ply
theorem nodup_len {α : Type} [DecidableEq α] : ∀ (a b : List α), a.Nodup → (∀ x ∈ a, x ∈ b) → a.length ≤ b.length
  | [], b, _, _ => Nat.zero_le _
  | x :: a, b, nd, h => by
    rw [List.nodup_cons] at nd
    have hx := h x (.head _)
    have := nodup_len a (b.erase x) nd.2 fun y hy => (List.mem_erase_of_ne (fun e => by rw [e] at hy; exact nd.1 hy)).mpr (h y (.tail _ hy))
    rw [List.length_erase_of_mem hx] at this
    have pos : 0 < b.length := List.length_pos_of_mem hx
    rw [List.length_cons]
    omega
/-- the terms of a sum are its entries -/
theorem canon_pd {H H' : Hp} {D D' : Addr} {p l : Po} {B C : Nat} (h : PD H D p B C) (c : Canon (val p) l) (e : H' D' = some (.dT (dk l))) : PD H' D' l B C := by
  obtain ⟨q, fm, rfl⟩ := c
  have kq : ks (q.map fun k => (k, val p k)) = q := by
    unfold ks
    rw [List.map_map]
    exact List.map_id' q
  have mem : ∀ k ∈ q, ∃ x ∈ p, x.1 = k ∧ x.2 = val p k := fun k hk => by
    obtain ⟨x, hx, rfl⟩ := List.mem_map.mp (val_off ((fm.all k).mp hk))
    exact ⟨x, hx, rfl, (val_at h.nd hx).symm⟩
  refine ⟨e, by rw [kq]; exact fm.nd, ?_, fun x hx => ?_, fun x hx => ?_, fun x hx => ?_⟩
  · rw [List.length_map]
    have z := nodup_len q (ks p) fm.nd fun k hk => val_off ((fm.all k).mp hk)
    have y : (ks p).length = p.length := List.length_map _
    have := h.few
    omega
  all_goals
    obtain ⟨k, hk, rfl⟩ := List.mem_map.mp hx
    obtain ⟨y, hy, rfl, ey⟩ := mem k hk
  · exact h.three y hy
  · exact h.exp y hy
  · show (val p y.1).natAbs ≤ C
    rw [← ey]
    exact h.num y hy
theorem cut_to (T : List Nat) (n : Int) (h : 0 ≤ n) : ∃ X, cutS (SX.S T) none (some n) = SX.S X ∧ X.length ≤ n.toNat ∧ X.length ≤ T.length := by
  refine ⟨_, rfl, ?_, ?_⟩
  · rw [List.length_take]
    show min (HT.sIx _ _ (some n) - 0) _ ≤ _
    have : HT.sIx (SX.S T).length (SX.S T).length (some n) ≤ n.toNat := by
      unfold HT.sIx
      simp only
      rw [if_neg (by omega)]
      exact Nat.min_le_left _ _
    omega
  · rw [List.length_take, List.length_drop]
    show min _ (T.length - _) ≤ _
    omega
theorem cut_from (T : List Nat) (n : Int) (h : 0 ≤ n) : ∃ X, cutS (SX.S T) (some n) none = SX.S X ∧ X.length ≤ T.length - n.toNat := by
  refine ⟨_, rfl, ?_⟩
  rw [List.length_take, List.length_drop]
  have : HT.sIx (SX.S T).length 0 (some n) = min n.toNat T.length := by
    unfold HT.sIx
    simp only
    rw [if_neg (by omega), SX.S_len]
  rw [this]
  show min _ (T.length - _) ≤ _
  omega
theorem Pen.mo {H H' : Hp} {d c : Addr} {n : Int} (h : Pen H d c n) (m : More H H') : Pen H' d c n := by
  obtain ⟨o1, h1⟩ := h.at
  obtain ⟨o2, h2⟩ := h.atc
  exact h.keep ((m _ _ h1).trans h1.symm) ((m _ _ h2).trans h2.symm)
theorem nx_q : col 83 [] 0 = 1 ∧ col 83 [32, 32] 0 = 3 := by decide
theorem signs_of {x : V} {z : Str} (h : x ∈ ListS.signs z) : ∃ c, x = .str (SX.S [c]) := by
  unfold ListS.signs at h
  obtain ⟨c, _, rfl⟩ := List.mem_map.mp h
  exact ⟨c, rfl⟩
def spLaw (K : PySem.W.Frag) : Sp := fun vs H Q _ => ∃ (a : Addr) (ns : List Int), vs = [.ref a] ∧ SqL K H a (ns.map V.int) ∧ ∀ H', Q (.bl true) H'
section
variable {P : Program} {w : World} {K : PySem.W.Frag} {mg : Str → Option Value} {base : Heap}
variable {g0 g1 g2 g3 gS gT gX gP gR gC f : Addr} {d0 d1 d2 d3 dS dT' dX dP' dR dC fd : FuncData}
abbrev sLaw : Stmt := top 53
abbrev NLaw : List Str := ["_law_script", "_law_pen_here", "_law_lap", "_law_text", "_law_k", "_law_at", "_law_sign", "_law_head", "_law_tail"]
theorem scLaw : FnScope NLaw ["_law_script"] (defScope sLaw) := ⟨rfl, rfl, rfl, by decide +kernel, rfl, by decide +kernel, by decide +kernel⟩
theorem ok_law (F : Fun K "law" "law" sLaw f fd) (B : Blt mg) (B2 : Blt2 mg) (Pe : Cl K mg "_law_pen" sPen ["_law_script"] g0 d0) (Dr : Cl K mg "_law_draw" sDraw ["_law_pen_here", "_law_many"] g1 d1) (Pi : Cl K mg "_law_pick" sPick ["_law_pen_here", "_law_some"] g2 d2)
    (Po' : Cl K mg "_law_poly" sPoly ["_law_pen_here", "_law_letters", "_law_reach", "_law_many"] g3 d3) (So : Cl K mg "_law_some_poly" sSome ["_law_pen_here"] gS dS) (Tm : Cl K mg "_law_terms" sTerms ["_law_poly_here"] gT dT')
    (Pt : Cl K mg "_law_poly_text" sPt ["_law_poly_here"] gP dP') (GPt : FnOk P w K mg base CX0 2 gP dP' ["_law_poly_here"] spPt) (Rf : Cl K mg "_law_refused" sRef ["_law_text"] gR dR) (GRf : FnOk P w K mg base CX0 10 gR dR ["_law_text"] spRef)
    (Co : Cl K mg "_law_column" sCo ["_law_text"] gC dC) (GCo : FnOk P w K mg base CX0 2 gC dC ["_law_text"] spCo) :
    FnG P w K mg base CX0 11 f fd ["_law_script"] (spLaw K) := by
  have G0 : FnOk P w K mg base CX0 1 g0 d0 ["_law_script"] (spPen K) := ok_pen Pe.fn B.int_ B.list_
  have G1 : FnOk P w K mg base CX0 1 g1 d1 ["_law_pen_here", "_law_many"] spDraw := ok_draw Dr.fn B.int_ B.len_
  have G2 : FnOk P w K mg base CX0 2 g2 d2 ["_law_pen_here", "_law_some"] (spPick K) := ok_pick Pi.fn Dr.fn Dr.b Dr.g B.int_ B.len_
  have GTm : FnOk P w K mg base CX0 1 gT dT' ["_law_poly_here"] spTerms := ok_terms Tm.fn B B2
  have GSo : FnOk P w K mg base CX0 4 gS dS ["_law_pen_here"] spSome := ok_some So.fn B B2 Dr Pi Po'
  refine okG F scLaw (fun vs H Q E h => ?_) (fun cdv A outer s H vs Q E hgd hr h => ?_)
  · obtain ⟨a, ns, rfl, _⟩ := h
    rfl
  · obtain ⟨a, ns, rfl, hS, q⟩ := h
    have hu := hu_of hr
    have hu64 := hr.units
    have hu8 := Nat.lt_of_le_of_lt (Nat.add_le_add_left (show 8 ≤ 64 by decide) _) hu64
    have hr1 : Room 1 _ := hr.mono (by decide)
    have hr2 : Room 2 _ := hr.mono (by decide)
    have hr4 : Room 4 _ := hr.mono (by decide)
    refine ⟨_, pss_cons (ps_set (i := 1) scLaw.nd rfl (Or.inl rfl) (pe_call G0 hr1 rfl Pe.g Pe.k Pe.b .nil pass0 (pa_cons (pv 0) pa_nil)))
      (pss_cons (ps_for PassesOwn.never rfl (pi_range1 rfl B.range_ (pa_cons pe_int pa_nil)) (pg_name (i := 2) scLaw.nd rfl (Or.inl rfl))
        (pss_cons (ps_set (i := 3) scLaw.nd rfl (Or.inl rfl) (pe_call GPt hr2 rfl Pt.g Pt.k Pt.b .nil pass0 (pa_cons (pe_callTy (Td.call_dictPTt rfl hu8) (by rfl) B2.dict_ (by decide +kernel) (pa_cons (pe_call GTm hr1 rfl Tm.g Tm.k Tm.b .nil pass0
            (pa_cons (pe_call GSo hr4 rfl So.g So.k So.b .nil pass0 (pa_cons (pv 1) pa_nil)) pa_nil)) pa_nil)) pa_nil)))
        (Evl.pss_cut (ps_for PassesOwn.never rfl (pi_range1 rfl B.range_ (pa_cons (pe_call G1 hr1 rfl Dr.g Dr.k Dr.b .nil pass0 (pa_cons (pv 1) (pa_cons pe_int pa_nil))) pa_nil)) (pg_name (i := 4) scLaw.nd rfl (Or.inl rfl))
          (pss_cons (ps_set (i := 5) scLaw.nd rfl (Or.inl rfl) (pe_call G1 hr1 rfl Dr.g Dr.k Dr.b .nil pass0 (pa_cons (pv 1) (pa_cons (pe_op op_add (pe_callB call_len_str (by rfl) B.len_ PySem.boot_len (pa_cons (pv 3) pa_nil)) pe_int) pa_nil))))
          (pss_cons (ps_set (i := 6) scLaw.nd rfl (Or.inl rfl) (pe_call G2 hr2 rfl Pi.g Pi.k Pi.b .nil pass0 (pa_cons (pv 1) (pa_cons (pe_callTy (ListS.call_list_text rfl) (by rfl) B.list_ (by decide +kernel) (pa_cons pe_str pa_nil)) pa_nil))))
          (pss_cons (ps_par (i := 7) (j := 8) rfl scLaw.nd rfl rfl (by decide) rfl rfl (pa_cons (pe_slice sl_str (pv 3) po_none (po_some (pv 5))) (pa_cons (pe_slice sl_str (pv 3) (po_some (pv 5)) po_none) pa_nil)) (by rfl))
          (pss_one (ps_set (i := 3) scLaw.nd rfl (Or.inl rfl) (pe_op op_add_str (pv 7) (pe_call G2 hr2 rfl Pi.g Pi.k Pi.b .nil pass0 (pa_cons (pv 1) (pa_cons (pe_lst (pa_cons (pe_op op_add_str (pv 6) (pv 8))
              (pa_cons (pe_slice sl_str (pv 8) (po_some pe_int) po_none) (pa_cons (pe_op op_add_str (pv 6) (pe_slice sl_str (pv 8) (po_some pe_int) po_none)) pa_nil)))) pa_nil))))))))))
        (Evl.pss_cut (ps_set (i := 3) scLaw.nd rfl (Or.inl rfl) (pe_ifExp (pt_cmpR op_eq (pe_call G1 hr1 rfl Dr.g Dr.k Dr.b .nil pass0 (pa_cons (pv 1) (pa_cons pe_int pa_nil))) pe_int (nomark _))
            (pe_slice sl_str (pv 3) po_none (po_some (pe_call G1 hr1 rfl Dr.g Dr.k Dr.b .nil pass0 (pa_cons (pv 1) (pa_cons (pe_op op_add (pe_callB call_len_str (by rfl) B.len_ PySem.boot_len (pa_cons (pv 3) pa_nil)) pe_int) pa_nil))))) (pv 3)))
        (pss_one (ps_if (pt_cmpR op_ne (pe_call GRf hr rfl Rf.g Rf.k Rf.b .nil pass0 (pa_cons (pv 3) pa_nil)) (pe_call GCo hr2 rfl Co.g Co.k Co.b .nil pass0 (pa_cons (pv 3) pa_nil)) (nomark _))
          (pss_one (ps_ret pe_bl)) pss_nil))))))
      (pss_one (ps_ret (pe_and (pe_cmpR op_eq (pe_call GRf hr rfl Rf.g Rf.k Rf.b .nil pass0 (pa_cons pe_str pa_nil)) pe_int (nomark _)) (pe_one (pe_cmpR op_eq (pe_call GRf hr rfl Rf.g Rf.k Rf.b .nil pass0 (pa_cons pe_str pa_nil)) pe_int (nomark _))))))), ?_⟩
    refine ⟨_, rfl, a, ns, rfl, hS, fun H0 d c pen0 _ _ => ?_⟩
    refine ⟨12, rfl, by decide, by decide, for_range (lo := 0) (n := 12) (fun i σ' H' => ∃ (z2 z3 z4 z5 z6 z7 z8 : Option V) (m : Int), σ' = [some (.ref a), some (.ref d), z2, z3, z4, z5, z6, z7, z8] ∧ Pen H' d c m ∧ 0 ≤ m ∧ m ≤ 400 * (i : Int)) ⟨none, none, none, none, none, none, none, 0, rfl, pen0, by decide, by decide⟩ ?_ ?_⟩
    · rintro i0 σ0 H1 hi0 ⟨z2, z3, z4, z5, z6, z7, z8, m, rfl, pen1, m0, m1⟩
      refine ⟨_, rfl, d, c, m, rfl, pen1, m0, by omega, fun D p n2 H2 c1 c2 pen2 of2 pd => ?_⟩
      refine ⟨D, p, rfl, pd.px, fun t o L H3 ht od hL cn m3 => ?_⟩
      refine ⟨t, o, L.map (fun e => (⟨e.p, kI e.k, e.b, .int e.n⟩ : Td.It2)), rfl, by rw [ht, List.map_map]; rfl, od, fun x hx => ?_, ?_, fun d2 nd2 => ?_⟩
      · obtain ⟨e, he, rfl⟩ := List.mem_map.mp hx
        exact ⟨SqT.of (hL e he).1, by rw [kI_V]; exact (hL e he).2⟩
      · rw [List.map_map]
        obtain ⟨q0, fm, eq⟩ := cn
        have e2 : (L.map ((fun x => x.k) ∘ fun e => (⟨e.p, kI e.k, e.b, .int e.n⟩ : Td.It2))) = (((L.map fun e => (e.k, e.n)).map (·.1)).map kI) := by rw [List.map_map, List.map_map]; rfl
        have e3 : (q0.map fun k => (k, val p k)).map (·.1) = q0 := by
          rw [List.map_map]
          exact List.map_id' q0
        rw [e2, eq, e3]
        exact nodup_kI fm.nd
      have pd2 : PD (upd H3 d2 (.dT ((L.map (fun e => (⟨e.p, kI e.k, e.b, .int e.n⟩ : Td.It2))).map fun e => (e.k, e.v)))) d2 (L.map fun e => (e.k, e.n)) big20 big20 := canon_pd pd cn (by
        rw [upd_same]
        unfold dk
        rw [List.map_map, List.map_map]
        rfl)
      refine ⟨d2, _, rfl, pd2, fun H4 W m4 wl => ?_⟩
      have pen4 : Pen H4 d c n2 := ((pen2.mo m3).upd nd2).mo m4
      clear pd2 m4 nd2 hL cn m3 pd of2 pen2 ht
      refine ⟨fun σ' H' => ∃ (T : List Nat) (z2 z4 z5 z6 z7 z8 : Option V) (n : Int), σ' = [some (.ref a), some (.ref d), z2, some (.str (SX.S T)), z4, z5, z6, z7, z8] ∧ T.length ≤ 545 ∧ Pen H' d c n ∧ n2 ≤ n ∧ n ≤ n2 + 20, ?_, ?_⟩
      · refine ⟨_, rfl, d, c, n2, 3, rfl, pen4, by decide, by decide, by omega, by omega, fun r H5 r0 r1 dr5 => ⟨r, rfl, by omega, by omega, for_range (lo := 0) (n := r.toNat)
          (fun i σ' H' => ∃ (T : List Nat) (z2 z4 z5 z6 z7 z8 : Option V) (n : Int), σ' = [some (.ref a), some (.ref d), z2, some (.str (SX.S T)), z4, z5, z6, z7, z8] ∧ T.length ≤ 540 + i ∧ Pen H' d c n ∧ n2 ≤ n ∧ n ≤ n2 + 1 + 4 * (i : Int)) ⟨W, _, _, _, _, _, _, n2 + 1, rfl, wl, dr5.pen, by omega, by omega⟩ ?_ ?_⟩⟩
        · rintro i σ3 H6 hi ⟨T, z2, z4, z5, z6, z7, z8, n, rfl, tl, pen6, b0, b1⟩
          have hi : i < 3 := by omega
          refine ⟨_, rfl, _, rfl, _, rfl, by rw [SX.S_len]; exact size_ok (by omega), _, _, rfl, rfl, d, c, n, _, rfl, pen6, by omega, by rw [SX.S_len]; omega, by omega, by omega, fun at_ H7 a0 a1 dr7 => ?_⟩
          rw [SX.S_len] at a1
          refine ⟨_, rfl, _, rfl, by decide, fun l nl => ?_⟩
          refine ⟨d, c, l, n + 1, _, rfl, dr7.pen.upd nl, upd_same, by decide +kernel, by decide +kernel, by omega, by omega, fun x H8 hx dr8 => ?_⟩
          obtain ⟨sg, rfl⟩ := signs_of hx
          obtain ⟨X, eX, x1, x2⟩ := cut_to T at_ a0
          obtain ⟨Y, eY, y1⟩ := cut_from T at_ a0
          have lenT : (SX.S T).length ≤ sizeLine := by rw [SX.S_len]; exact size_ok (by omega)
          refine ⟨_, rfl, _, rfl, _, rfl, _, rfl, lenT, ?_⟩
          rw [eX]
          refine ⟨_, rfl, _, rfl, _, rfl, _, rfl, lenT, ?_⟩
          rw [eY]
          refine ⟨_, _, rfl, ?_⟩
          obtain ⟨Y1, eY1, y2⟩ := cut_from Y 1 (by decide)
          have lenY : (SX.S Y).length ≤ sizeLine := by rw [SX.S_len]; exact size_ok (by omega)
          have yT : X.length + Y.length ≤ T.length := by omega
          have yT1 : Y1.length ≤ Y.length := by omega
          refine ⟨_, rfl, _, rfl, _, rfl, _, rfl, _, _, rfl, rfl, by rw [SX.S_len, SX.S_len]; exact size_ok (by show 1 + _ ≤ 1000; omega), _, rfl, _, rfl, _, rfl, lenY, ?_⟩
          rw [eY1, SX.S_cat]
          refine ⟨_, rfl, _, rfl, _, rfl, _, rfl, lenY, ?_⟩
          rw [eY1]
          refine ⟨_, _, rfl, rfl, by rw [SX.S_len, SX.S_len]; exact size_ok (by show 1 + _ ≤ 1000; omega), by show 3 ≤ sizeLine; decide, fun l2 nl2 => ?_⟩
          rw [SX.S_cat]
          refine ⟨d, c, l2, n + 1 + 1, _, rfl, dr8.pen.upd nl2, upd_same, by show 0 < 3; decide, by show 3 ≤ 1000; decide, by omega, by omega, fun y H9 hy dr9 => ?_⟩
          obtain ⟨Z, rfl, zl⟩ : ∃ Z, y = .str (SX.S Z) ∧ Z.length ≤ 1 + Y.length := by
            rcases List.mem_cons.mp hy with rfl | hy
            · exact ⟨_, rfl, by rw [List.length_append]; show 1 + _ ≤ _; omega⟩
            rcases List.mem_cons.mp hy with rfl | hy
            · exact ⟨_, rfl, by omega⟩
            rw [List.mem_singleton] at hy
            exact ⟨_, hy, by rw [List.length_append]; show 1 + _ ≤ _; omega⟩
          refine ⟨_, _, rfl, rfl, by rw [SX.S_len, SX.S_len]; exact size_ok (by omega), ?_⟩
          rw [SX.S_cat]
          exact ⟨X ++ Z, _, _, _, _, _, _, n + 1 + 1 + 1, rfl, by rw [List.length_append]; omega, dr9.pen, by omega, by omega⟩
        · rintro σ3 H6 ⟨T, z2, z4, z5, z6, z7, z8, n, rfl, tl, pen6, b0, b1⟩
          exact ⟨T, _, _, _, _, _, _, n, rfl, by omega, pen6, b0, by omega⟩
      · rintro σ2 H5 ⟨T, z2, z4, z5, z6, z7, z8, n, rfl, tl, pen5, b0, b1⟩
        refine ⟨fun σ' H' => ∃ (T : List Nat) (z2 z4 z5 z6 z7 z8 : Option V) (n : Int), σ' = [some (.ref a), some (.ref d), z2, some (.str (SX.S T)), z4, z5, z6, z7, z8] ∧ T.length ≤ 545 ∧ Pen H' d c n ∧ n2 ≤ n ∧ n ≤ n2 + 30, ?_, ?_⟩
        · refine ⟨_, rfl, d, c, n, 4, rfl, pen5, by decide, by decide, by omega, by omega, fun r6 H6 _ _ dr6 => ?_⟩
          refine ⟨rfl, _, rfl, ite2 (fun _ => ?_) (fun _ => ⟨_, rfl, T, _, _, _, _, _, _, n + 1, rfl, tl, dr6.pen, by omega, by omega⟩)⟩
          refine ⟨_, rfl, _, rfl, _, rfl, _, rfl, by rw [SX.S_len]; exact size_ok (by omega), _, _, rfl, rfl, d, c, n + 1, _, rfl, dr6.pen, by omega, by rw [SX.S_len]; omega, by omega, by omega, fun at_ H7 a0 a1 dr7 => ?_⟩
          obtain ⟨X, eX, x1, x2⟩ := cut_to T at_ a0
          refine ⟨_, rfl, _, rfl, by rw [SX.S_len]; exact size_ok (by omega), ?_⟩
          rw [eX]
          exact ⟨X, _, _, _, _, _, _, n + 1 + 1, rfl, by omega, dr7.pen, by omega, by omega⟩
        · rintro σ3 H6 ⟨T, z2, z4, z5, z6, z7, z8, n, rfl, tl, pen6, b0, b1⟩
          refine ⟨_, rfl, T, rfl, by omega, fun H7 m7 => ?_⟩
          refine ⟨_, rfl, T, rfl, by omega, fun H8 m8 => ?_⟩
          refine ⟨rfl, _, rfl, ?_⟩
          rw [decide_eq_true (p := V.int (col 83 T 0 : Int) = V.int (col 83 T 0 : Int)) rfl]
          exact iteF ⟨_, _, _, _, _, _, _, n, rfl, (pen6.mo m7).mo m8, by omega, by omega⟩
    · rintro σ0 H1 ⟨z2, z3, z4, z5, z6, z7, z8, m, rfl, pen1, m0, m1⟩
      refine ⟨[], rfl, by decide, fun H2 m2 => ?_⟩
      rw [nx_q.1]
      refine ⟨rfl, _, rfl, iteT ⟨[32, 32], rfl, by decide, fun H3 m3 => ?_⟩⟩
      rw [nx_q.2]
      exact ⟨rfl, q H3⟩
end
end K16

namespace K16
open PySem L2 Gd Ply
/-! ### what the top has written -/
structure ErIn (K : PySem.W.Frag) (x : Str) (C : Addr) : Prop where
  aC : PySem.W.nsIn K mainGlobals x = some (some (.ref C))
  kC : PySem.W.keepIn K (.ref C) = true
  ga : PySem.W.findIn K (.ref C) "__getattribute__" = some (some (.builtin "BaseException.__getattribute__"))
  gg : PySem.W.findIn K (.ref C) "__getattr__" = some none
  be : PySem.W.subIn K (.ref C) (.type "BaseException") = some true
  hd : PySem.W.hasDictIn K C = true
structure IniIn (K : PySem.W.Frag) (q : Str) (st : Stmt) (C fI : Addr) (oc kV dc pm cd ct : Value) (od an : Option Addr) (sl : Array (Option Value)) (nm q' : Str) (N : Addr) (bs : List Value) (ce : Addr) (sn : List Str) (sub : List Value) (ab : Bool) (col : Option Bool) (dd : Option Addr) (m0 m1 m2 m3 m5 : Option Value) : Prop where
  xL : K.lookup C = some (excClassObj nm q' C N bs [.ref ce, .type "ValueError", .type "Exception", .type "BaseException", .type "object"] true sn sub ab col dd m0 m1 m2 m3 m5 "ValueError.__new__")
  sa : PySem.W.findIn K (.ref C) "__setattr__" = some (some (.builtin "object.__setattr__"))
  tC : PySem.W.typeIn K (.ref C) = some (.type "type")
  iC : PySem.W.findIn K (.ref C) "__init__" = some (some (.ref fI))
  tI : PySem.W.typeIn K (.ref fI) = some (.type "function")
  lI : K.lookup fI = some ⟨oc, od, .func (PySem.W.fnOf "__init__" q (defArgs st) (defBody st) (defScope st) .none kV dc pm an cd ct), sl⟩
  cI : PySem.W.codeIn K cd q = true
  kI : PySem.W.keepIn K (.ref fI) = true
theorem er_of {K : PySem.W.Frag} {h : Heap} {mg : Str → Option Value} (X : K.In h) (G : h.Ns mainGlobals mg) {x q : Str} {st : Stmt} {fs : List Str} {C fI : Addr} {oc kV dc pm cd ct : Value} {od an : Option Addr} {sl : Array (Option Value)} {nm q' : Str} {N : Addr} {bs : List Value} {ce : Addr} {sn : List Str} {sub : List Value} {ab : Bool} {col : Option Bool} {dd : Option Addr} {m0 m1 m2 m3 m5 : Option Value}
    (E : ErIn K x C) (I : IniIn K q st C fI oc kV dc pm cd ct od an sl nm q' N bs ce sn sub ab col dd m0 m1 m2 m3 m5) (no : ∀ g ∈ fs, PySem.W.findIn K (.ref C) g = some none)
    (b : ∀ (kV doc pm : Value) (an : Option Addr) (cdv ct : Value) (us : List Value), us.length = (("self" : Str) :: fs).length → bindArgs (PySem.W.fnOf "__init__" q (defArgs st) (defBody st) (defScope st) .none kV doc pm an cdv ct) ⟨us, []⟩ = pure ((("self" : Str) :: fs).zip us)) :
    Er K mg x q C fI fs st (PySem.W.fnOf "__init__" q (defArgs st) (defBody st) (defScope st) .none kV dc pm an cd ct) := by
  have F := fun_mk (st := st) I.lI I.cI I.kI
  exact ⟨⟨⟨nm, q', N, bs, _, sn, sub, ab, col, dd, m0, m1, m2, m3, m5, I.xL, by show PySem.HandSPX.refsVE [.type "ValueError", .type "Exception", .type "BaseException", .type "object"] = true; decide +kernel⟩, I.sa, E.be, I.tC, E.kC⟩, I.iC, I.tI, F, F.binds b, no, PySem.W.mg_of X G E.aC⟩
theorem all_mk {l : PySem.W.OpenLaw} {w : World} {K : PySem.W.Frag} {h : Heap} {mg : Str → Option Value} {fa gLaw CR CB CP CS LP ce : Addr} (X : K.In h) (G : h.Ns mainGlobals mg) (hfa : mg "law" = some (.ref fa))
    {i0 : Addr} {oc0 kV0 dc0 pm0 cd0 ct0 : Value} {od0 an0 : Option Addr} {sl0 : Array (Option Value)} {nm0 q0 : Str} {N0 : Addr} {bs0 : List Value} {sn0 : List Str} {sub0 : List Value} {ab0 : Bool} {col0 : Option Bool} {dd0 : Option Addr} {m00 m10 m20 m30 m50 : Option Value}
    {i1 : Addr} {oc1 kV1 dc1 pm1 cd1 ct1 : Value} {od1 an1 : Option Addr} {sl1 : Array (Option Value)} {nm1 q1 : Str} {N1 : Addr} {bs1 : List Value} {sn1 : List Str} {sub1 : List Value} {ab1 : Bool} {col1 : Option Bool} {dd1 : Option Addr} {m01 m11 m21 m31 m51 : Option Value}
    {gf0 : Addr} {oodf0 oanf0 : Option Addr} {oslf0 : Array (Option Value)} {oocf0 okVf0 odcf0 opmf0 ocdf0 octf0 : Value}
    {gf1 : Addr} {oodf1 oanf1 : Option Addr} {oslf1 : Array (Option Value)} {oocf1 okVf1 odcf1 opmf1 ocdf1 octf1 : Value}
    {gf2 : Addr} {oodf2 oanf2 : Option Addr} {oslf2 : Array (Option Value)} {oocf2 okVf2 odcf2 opmf2 ocdf2 octf2 : Value}
    {gf3 : Addr} {oodf3 oanf3 : Option Addr} {oslf3 : Array (Option Value)} {oocf3 okVf3 odcf3 opmf3 ocdf3 octf3 : Value}
    {gf4 : Addr} {oodf4 oanf4 : Option Addr} {oslf4 : Array (Option Value)} {oocf4 okVf4 odcf4 opmf4 ocdf4 octf4 : Value}
    {gf5 : Addr} {oodf5 oanf5 : Option Addr} {oslf5 : Array (Option Value)} {oocf5 okVf5 odcf5 opmf5 ocdf5 octf5 : Value}
    {gf6 : Addr} {oodf6 oanf6 : Option Addr} {oslf6 : Array (Option Value)} {oocf6 okVf6 odcf6 opmf6 ocdf6 octf6 : Value}
    {gf7 : Addr} {oodf7 oanf7 : Option Addr} {oslf7 : Array (Option Value)} {oocf7 okVf7 odcf7 opmf7 ocdf7 octf7 : Value}
    {gf8 : Addr} {oodf8 oanf8 : Option Addr} {oslf8 : Array (Option Value)} {oocf8 okVf8 odcf8 opmf8 ocdf8 octf8 : Value}
    {gf9 : Addr} {oodf9 oanf9 : Option Addr} {oslf9 : Array (Option Value)} {oocf9 okVf9 odcf9 opmf9 ocdf9 octf9 : Value}
    {gf10 : Addr} {oodf10 oanf10 : Option Addr} {oslf10 : Array (Option Value)} {oocf10 okVf10 odcf10 opmf10 ocdf10 octf10 : Value}
    {gf11 : Addr} {oodf11 oanf11 : Option Addr} {oslf11 : Array (Option Value)} {oocf11 okVf11 odcf11 opmf11 ocdf11 octf11 : Value}
    {gf12 : Addr} {oodf12 oanf12 : Option Addr} {oslf12 : Array (Option Value)} {oocf12 okVf12 odcf12 opmf12 ocdf12 octf12 : Value}
    {gf13 : Addr} {oodf13 oanf13 : Option Addr} {oslf13 : Array (Option Value)} {oocf13 okVf13 odcf13 opmf13 ocdf13 octf13 : Value}
    {gf14 : Addr} {oodf14 oanf14 : Option Addr} {oslf14 : Array (Option Value)} {oocf14 okVf14 odcf14 opmf14 ocdf14 octf14 : Value}
    {gf15 : Addr} {oodf15 oanf15 : Option Addr} {oslf15 : Array (Option Value)} {oocf15 okVf15 odcf15 opmf15 ocdf15 octf15 : Value}
    {gf16 : Addr} {oodf16 oanf16 : Option Addr} {oslf16 : Array (Option Value)} {oocf16 okVf16 odcf16 opmf16 ocdf16 octf16 : Value}
    {gf17 : Addr} {oodf17 oanf17 : Option Addr} {oslf17 : Array (Option Value)} {oocf17 okVf17 odcf17 opmf17 ocdf17 octf17 : Value}
    {gf18 : Addr} {oodf18 oanf18 : Option Addr} {oslf18 : Array (Option Value)} {oocf18 okVf18 odcf18 opmf18 ocdf18 octf18 : Value}
    {gf19 : Addr} {oodf19 oanf19 : Option Addr} {oslf19 : Array (Option Value)} {oocf19 okVf19 odcf19 opmf19 ocdf19 octf19 : Value}
    {gf20 : Addr} {oodf20 oanf20 : Option Addr} {oslf20 : Array (Option Value)} {oocf20 okVf20 odcf20 opmf20 ocdf20 octf20 : Value}
    {gm0_0 : Addr} {oodm0_0 oanm0_0 : Option Addr} {oslm0_0 : Array (Option Value)} {oocm0_0 okVm0_0 odcm0_0 opmm0_0 ocdm0_0 octm0_0 : Value}
    {gm1_0 : Addr} {oodm1_0 oanm1_0 : Option Addr} {oslm1_0 : Array (Option Value)} {oocm1_0 okVm1_0 odcm1_0 opmm1_0 ocdm1_0 octm1_0 : Value}
    {gm1_1 : Addr} {oodm1_1 oanm1_1 : Option Addr} {oslm1_1 : Array (Option Value)} {oocm1_1 okVm1_1 odcm1_1 opmm1_1 ocdm1_1 octm1_1 : Value}
    {gm1_2 : Addr} {oodm1_2 oanm1_2 : Option Addr} {oslm1_2 : Array (Option Value)} {oocm1_2 okVm1_2 odcm1_2 opmm1_2 ocdm1_2 octm1_2 : Value}
    {gm1_3 : Addr} {oodm1_3 oanm1_3 : Option Addr} {oslm1_3 : Array (Option Value)} {oocm1_3 okVm1_3 odcm1_3 opmm1_3 ocdm1_3 octm1_3 : Value}
    {gm1_4 : Addr} {oodm1_4 oanm1_4 : Option Addr} {oslm1_4 : Array (Option Value)} {oocm1_4 okVm1_4 odcm1_4 opmm1_4 ocdm1_4 octm1_4 : Value}
    {gm1_5 : Addr} {oodm1_5 oanm1_5 : Option Addr} {oslm1_5 : Array (Option Value)} {oocm1_5 okVm1_5 odcm1_5 opmm1_5 ocdm1_5 octm1_5 : Value}
    {gm1_6 : Addr} {oodm1_6 oanm1_6 : Option Addr} {oslm1_6 : Array (Option Value)} {oocm1_6 okVm1_6 odcm1_6 opmm1_6 ocdm1_6 octm1_6 : Value}
    {gm1_7 : Addr} {oodm1_7 oanm1_7 : Option Addr} {oslm1_7 : Array (Option Value)} {oocm1_7 okVm1_7 odcm1_7 opmm1_7 ocdm1_7 octm1_7 : Value}
    {gm1_8 : Addr} {oodm1_8 oanm1_8 : Option Addr} {oslm1_8 : Array (Option Value)} {oocm1_8 okVm1_8 odcm1_8 opmm1_8 ocdm1_8 octm1_8 : Value}
    {oodF oanF : Option Addr} {oslF : Array (Option Value)} {oocF okVF odcF opmF ocdF octF : Value}
    {TDm1_0 : Addr} {tcm1_0 : Value} {tdm1_0 : Option Addr} {tnm1_0 : Nat} {tsm1_0 : Array (Option Value)}
    {TDm1_7 : Addr} {tcm1_7 : Value} {tdm1_7 : Option Addr} {tnm1_7 : Nat} {tsm1_7 : Array (Option Value)}
    {tg0 : Tok}
    {tg1 : Tok}
    (e0 : ErIn K "BadRow" CR)
    (j0 : IniIn K "BadRow.__init__" sBadRow CR i0 oc0 kV0 dc0 pm0 cd0 ct0 od0 an0 sl0 nm0 q0 N0 bs0 ce sn0 sub0 ab0 col0 dd0 m00 m10 m20 m30 m50)
    (n0_0 : PySem.W.findIn K (.ref CR) "row" = some none)
    (e1 : ErIn K "BadText" CB)
    (j1 : IniIn K "BadText.__init__" sBadText CB i1 oc1 kV1 dc1 pm1 cd1 ct1 od1 an1 sl1 nm1 q1 N1 bs1 ce sn1 sub1 ab1 col1 dd1 m01 m11 m21 m31 m51)
    (n1_0 : PySem.W.findIn K (.ref CB) "column" = some none)
    (aC0 : PySem.W.nsIn K mainGlobals "Powers" = some (some (.ref CP)))
    (pg0 : PySem.W.plainGet K CP Str.empty = true)
    (hd0 : PySem.W.hasDictIn K CP = true)
    (po0 : PySem.W.plainOver K CP = true)
    (sa0 : PySem.W.findIn K (.ref CP) "__setattr__" = some (some (.builtin "object.__setattr__")))
    (ha0 : PySem.W.findIn K (.ref CP) "__class__" = some (some (.builtin "object.__class__")))
    (hn0 : PySem.W.specialIn K (.builtin "object.__class__") "__get__" = some (some (.builtin "getset_descriptor.__get__")))
    (ht0 : PySem.W.takesIn K (.builtin "object.__class__") = some true)
    (hm0 : PySem.W.mroIn K CP (.type "object") = some true)
    (me0 : PySem.W.kitOne K (.ref CP) (.ref CP) = some true)
    (at0_0 : PySem.W.findIn K (.ref CP) "terms" = some none)
    (at0_1 : PySem.W.findIn K (.ref CP) "reach" = some none)
    (at0_2 : PySem.W.findIn K (.ref CP) "_numbers" = some none)
    (no0_bool : PySem.W.kitOne K (.type "bool") (.ref CP) = some false)
    (no0_NoneType : PySem.W.kitOne K (.type "NoneType") (.ref CP) = some false)
    (no0_str : PySem.W.kitOne K (.type "str") (.ref CP) = some false)
    (no0_list : PySem.W.kitOne K (.type "list") (.ref CP) = some false)
    (no0_tuple : PySem.W.kitOne K (.type "tuple") (.ref CP) = some false)
    (no0_dict : PySem.W.kitOne K (.type "dict") (.ref CP) = some false)
    (ni0 : PySem.W.kitOne K (.ref CP) (.type "int") = some false)
    (mk0 : PySem.W.makesIn K CP = true)
    (kp0 : PySem.W.keepIn K (.ref CP) = true)
    (aC1 : PySem.W.nsIn K mainGlobals "Scanner" = some (some (.ref CS)))
    (pg1 : PySem.W.plainGet K CS Str.empty = true)
    (hd1 : PySem.W.hasDictIn K CS = true)
    (po1 : PySem.W.plainOver K CS = true)
    (sa1 : PySem.W.findIn K (.ref CS) "__setattr__" = some (some (.builtin "object.__setattr__")))
    (at1_0 : PySem.W.findIn K (.ref CS) "text" = some none)
    (at1_1 : PySem.W.findIn K (.ref CS) "place" = some none)
    (at1_2 : PySem.W.findIn K (.ref CS) "known" = some none)
    (mk1 : PySem.W.makesIn K CS = true)
    (kp1 : PySem.W.keepIn K (.ref CS) = true)
    (af0 : PySem.W.nsIn K mainGlobals "is_integer" = some (some (.ref gf0)))
    (lf0 : K.lookup gf0 = some ⟨oocf0, oodf0, .func (PySem.W.fnOf "is_integer" "is_integer" (defArgs sIsI) (defBody sIsI) (defScope sIsI) .none okVf0 odcf0 opmf0 oanf0 ocdf0 octf0), oslf0⟩)
    (cf0 : PySem.W.codeIn K ocdf0 "is_integer" = true)
    (kf0 : PySem.W.keepIn K (.ref gf0) = true)
    (af1 : PySem.W.nsIn K mainGlobals "is_integers" = some (some (.ref gf1)))
    (lf1 : K.lookup gf1 = some ⟨oocf1, oodf1, .func (PySem.W.fnOf "is_integers" "is_integers" (defArgs sIsIs) (defBody sIsIs) (defScope sIsIs) .none okVf1 odcf1 opmf1 oanf1 ocdf1 octf1), oslf1⟩)
    (cf1 : PySem.W.codeIn K ocdf1 "is_integers" = true)
    (kf1 : PySem.W.keepIn K (.ref gf1) = true)
    (af2 : PySem.W.nsIn K mainGlobals "is_row" = some (some (.ref gf2)))
    (lf2 : K.lookup gf2 = some ⟨oocf2, oodf2, .func (PySem.W.fnOf "is_row" "is_row" (defArgs sRow) (defBody sRow) (defScope sRow) .none okVf2 odcf2 opmf2 oanf2 ocdf2 octf2), oslf2⟩)
    (cf2 : PySem.W.codeIn K ocdf2 "is_row" = true)
    (kf2 : PySem.W.keepIn K (.ref gf2) = true)
    (af3 : PySem.W.nsIn K mainGlobals "is_term" = some (some (.ref gf3)))
    (lf3 : K.lookup gf3 = some ⟨oocf3, oodf3, .func (PySem.W.fnOf "is_term" "is_term" (defArgs sTerm) (defBody sTerm) (defScope sTerm) .none okVf3 odcf3 opmf3 oanf3 ocdf3 octf3), oslf3⟩)
    (cf3 : PySem.W.codeIn K ocdf3 "is_term" = true)
    (kf3 : PySem.W.keepIn K (.ref gf3) = true)
    (af4 : PySem.W.nsIn K mainGlobals "power_of" = some (some (.ref gf4)))
    (lf4 : K.lookup gf4 = some ⟨oocf4, oodf4, .func (PySem.W.fnOf "power_of" "power_of" (defArgs sPo) (defBody sPo) (defScope sPo) .none okVf4 odcf4 opmf4 oanf4 ocdf4 octf4), oslf4⟩)
    (cf4 : PySem.W.codeIn K ocdf4 "power_of" = true)
    (kf4 : PySem.W.keepIn K (.ref gf4) = true)
    (af5 : PySem.W.nsIn K mainGlobals "number_with" = some (some (.ref gf5)))
    (lf5 : K.lookup gf5 = some ⟨oocf5, oodf5, .func (PySem.W.fnOf "number_with" "number_with" (defArgs sNw) (defBody sNw) (defScope sNw) .none okVf5 odcf5 opmf5 oanf5 ocdf5 octf5), oslf5⟩)
    (cf5 : PySem.W.codeIn K ocdf5 "number_with" = true)
    (kf5 : PySem.W.keepIn K (.ref gf5) = true)
    (af6 : PySem.W.nsIn K mainGlobals "read_exponent" = some (some (.ref gf6)))
    (lf6 : K.lookup gf6 = some ⟨oocf6, oodf6, .func (PySem.W.fnOf "read_exponent" "read_exponent" (defArgs sRe) (defBody sRe) (defScope sRe) .none okVf6 odcf6 opmf6 oanf6 ocdf6 octf6), oslf6⟩)
    (cf6 : PySem.W.codeIn K ocdf6 "read_exponent" = true)
    (kf6 : PySem.W.keepIn K (.ref gf6) = true)
    (af7 : PySem.W.nsIn K mainGlobals "read_term" = some (some (.ref gf7)))
    (lf7 : K.lookup gf7 = some ⟨oocf7, oodf7, .func (PySem.W.fnOf "read_term" "read_term" (defArgs sRt) (defBody sRt) (defScope sRt) .none okVf7 odcf7 opmf7 oanf7 ocdf7 octf7), oslf7⟩)
    (cf7 : PySem.W.codeIn K ocdf7 "read_term" = true)
    (kf7 : PySem.W.keepIn K (.ref gf7) = true)
    (af8 : PySem.W.nsIn K mainGlobals "read_powers" = some (some (.ref gf8)))
    (lf8 : K.lookup gf8 = some ⟨oocf8, oodf8, .func (PySem.W.fnOf "read_powers" "read_powers" (defArgs sRp) (defBody sRp) (defScope sRp) .none okVf8 odcf8 opmf8 oanf8 ocdf8 octf8), oslf8⟩)
    (cf8 : PySem.W.codeIn K ocdf8 "read_powers" = true)
    (kf8 : PySem.W.keepIn K (.ref gf8) = true)
    (af9 : PySem.W.nsIn K mainGlobals "powers_of" = some (some (.ref gf9)))
    (lf9 : K.lookup gf9 = some ⟨oocf9, oodf9, .func (PySem.W.fnOf "powers_of" "powers_of" (defArgs sPf) (defBody sPf) (defScope sPf) .none okVf9 odcf9 opmf9 oanf9 ocdf9 octf9), oslf9⟩)
    (cf9 : PySem.W.codeIn K ocdf9 "powers_of" = true)
    (kf9 : PySem.W.keepIn K (.ref gf9) = true)
    (af10 : PySem.W.nsIn K mainGlobals "_law_pen" = some (some (.ref gf10)))
    (lf10 : K.lookup gf10 = some ⟨oocf10, oodf10, .func (PySem.W.fnOf "_law_pen" "_law_pen" (defArgs sPen) (defBody sPen) (defScope sPen) .none okVf10 odcf10 opmf10 oanf10 ocdf10 octf10), oslf10⟩)
    (cf10 : PySem.W.codeIn K ocdf10 "_law_pen" = true)
    (kf10 : PySem.W.keepIn K (.ref gf10) = true)
    (af11 : PySem.W.nsIn K mainGlobals "_law_draw" = some (some (.ref gf11)))
    (lf11 : K.lookup gf11 = some ⟨oocf11, oodf11, .func (PySem.W.fnOf "_law_draw" "_law_draw" (defArgs sDraw) (defBody sDraw) (defScope sDraw) .none okVf11 odcf11 opmf11 oanf11 ocdf11 octf11), oslf11⟩)
    (cf11 : PySem.W.codeIn K ocdf11 "_law_draw" = true)
    (kf11 : PySem.W.keepIn K (.ref gf11) = true)
    (af12 : PySem.W.nsIn K mainGlobals "_law_pick" = some (some (.ref gf12)))
    (lf12 : K.lookup gf12 = some ⟨oocf12, oodf12, .func (PySem.W.fnOf "_law_pick" "_law_pick" (defArgs sPick) (defBody sPick) (defScope sPick) .none okVf12 odcf12 opmf12 oanf12 ocdf12 octf12), oslf12⟩)
    (cf12 : PySem.W.codeIn K ocdf12 "_law_pick" = true)
    (kf12 : PySem.W.keepIn K (.ref gf12) = true)
    (af13 : PySem.W.nsIn K mainGlobals "_law_poly" = some (some (.ref gf13)))
    (lf13 : K.lookup gf13 = some ⟨oocf13, oodf13, .func (PySem.W.fnOf "_law_poly" "_law_poly" (defArgs sPoly) (defBody sPoly) (defScope sPoly) .none okVf13 odcf13 opmf13 oanf13 ocdf13 octf13), oslf13⟩)
    (cf13 : PySem.W.codeIn K ocdf13 "_law_poly" = true)
    (kf13 : PySem.W.keepIn K (.ref gf13) = true)
    (af14 : PySem.W.nsIn K mainGlobals "_law_term_text" = some (some (.ref gf14)))
    (lf14 : K.lookup gf14 = some ⟨oocf14, oodf14, .func (PySem.W.fnOf "_law_term_text" "_law_term_text" (defArgs sTt) (defBody sTt) (defScope sTt) .none okVf14 odcf14 opmf14 oanf14 ocdf14 octf14), oslf14⟩)
    (cf14 : PySem.W.codeIn K ocdf14 "_law_term_text" = true)
    (kf14 : PySem.W.keepIn K (.ref gf14) = true)
    (af15 : PySem.W.nsIn K mainGlobals "_law_poly_text" = some (some (.ref gf15)))
    (lf15 : K.lookup gf15 = some ⟨oocf15, oodf15, .func (PySem.W.fnOf "_law_poly_text" "_law_poly_text" (defArgs sPt) (defBody sPt) (defScope sPt) .none okVf15 odcf15 opmf15 oanf15 ocdf15 octf15), oslf15⟩)
    (cf15 : PySem.W.codeIn K ocdf15 "_law_poly_text" = true)
    (kf15 : PySem.W.keepIn K (.ref gf15) = true)
    (af16 : PySem.W.nsIn K mainGlobals "_law_terms" = some (some (.ref gf16)))
    (lf16 : K.lookup gf16 = some ⟨oocf16, oodf16, .func (PySem.W.fnOf "_law_terms" "_law_terms" (defArgs sTerms) (defBody sTerms) (defScope sTerms) .none okVf16 odcf16 opmf16 oanf16 ocdf16 octf16), oslf16⟩)
    (cf16 : PySem.W.codeIn K ocdf16 "_law_terms" = true)
    (kf16 : PySem.W.keepIn K (.ref gf16) = true)
    (af17 : PySem.W.nsIn K mainGlobals "_law_some_poly" = some (some (.ref gf17)))
    (lf17 : K.lookup gf17 = some ⟨oocf17, oodf17, .func (PySem.W.fnOf "_law_some_poly" "_law_some_poly" (defArgs sSome) (defBody sSome) (defScope sSome) .none okVf17 odcf17 opmf17 oanf17 ocdf17 octf17), oslf17⟩)
    (cf17 : PySem.W.codeIn K ocdf17 "_law_some_poly" = true)
    (kf17 : PySem.W.keepIn K (.ref gf17) = true)
    (af18 : PySem.W.nsIn K mainGlobals "_law_next" = some (some (.ref gf18)))
    (lf18 : K.lookup gf18 = some ⟨oocf18, oodf18, .func (PySem.W.fnOf "_law_next" "_law_next" (defArgs sNx) (defBody sNx) (defScope sNx) .none okVf18 odcf18 opmf18 oanf18 ocdf18 octf18), oslf18⟩)
    (cf18 : PySem.W.codeIn K ocdf18 "_law_next" = true)
    (kf18 : PySem.W.keepIn K (.ref gf18) = true)
    (af19 : PySem.W.nsIn K mainGlobals "_law_column" = some (some (.ref gf19)))
    (lf19 : K.lookup gf19 = some ⟨oocf19, oodf19, .func (PySem.W.fnOf "_law_column" "_law_column" (defArgs sCo) (defBody sCo) (defScope sCo) .none okVf19 odcf19 opmf19 oanf19 ocdf19 octf19), oslf19⟩)
    (cf19 : PySem.W.codeIn K ocdf19 "_law_column" = true)
    (kf19 : PySem.W.keepIn K (.ref gf19) = true)
    (af20 : PySem.W.nsIn K mainGlobals "_law_refused" = some (some (.ref gf20)))
    (lf20 : K.lookup gf20 = some ⟨oocf20, oodf20, .func (PySem.W.fnOf "_law_refused" "_law_refused" (defArgs sRef) (defBody sRef) (defScope sRef) .none okVf20 odcf20 opmf20 oanf20 ocdf20 octf20), oslf20⟩)
    (cf20 : PySem.W.codeIn K ocdf20 "_law_refused" = true)
    (kf20 : PySem.W.keepIn K (.ref gf20) = true)
    (fcm0_0 : PySem.W.findIn K (.ref CP) "__init__" = some (some (.ref gm0_0)))
    (fnm0_0 : PySem.W.isFn K (.ref gm0_0) = true)
    (lm0_0 : K.lookup gm0_0 = some ⟨oocm0_0, oodm0_0, .func (PySem.W.fnOf "__init__" "Powers.__init__" (defArgs sPw) (defBody sPw) (defScope sPw) .none okVm0_0 odcm0_0 opmm0_0 oanm0_0 ocdm0_0 octm0_0), oslm0_0⟩)
    (cm0_0 : PySem.W.codeIn K ocdm0_0 "Powers.__init__" = true)
    (km0_0 : PySem.W.keepIn K (.ref gm0_0) = true)
    (fcm1_0 : PySem.W.findIn K (.ref CS) "__init__" = some (some (.ref gm1_0)))
    (fnm1_0 : PySem.W.isFn K (.ref gm1_0) = true)
    (lm1_0 : K.lookup gm1_0 = some ⟨oocm1_0, oodm1_0, .func (PySem.W.fnOf "__init__" "Scanner.__init__" (defArgs sIni) (defBody sIni) (defScope sIni) (.ref TDm1_0) okVm1_0 odcm1_0 opmm1_0 oanm1_0 ocdm1_0 octm1_0), oslm1_0⟩)
    (lTm1_0 : K.lookup TDm1_0 = some ⟨tcm1_0, tdm1_0, .seq #[.none] tnm1_0, tsm1_0⟩)
    (cm1_0 : PySem.W.codeIn K ocdm1_0 "Scanner.__init__" = true)
    (km1_0 : PySem.W.keepIn K (.ref gm1_0) = true)
    (fcm1_1 : PySem.W.findIn K (.ref CS) "here" = some (some (.ref gm1_1)))
    (fnm1_1 : PySem.W.isFn K (.ref gm1_1) = true)
    (lm1_1 : K.lookup gm1_1 = some ⟨oocm1_1, oodm1_1, .func (PySem.W.fnOf "here" "Scanner.here" (defArgs sHere) (defBody sHere) (defScope sHere) .none okVm1_1 odcm1_1 opmm1_1 oanm1_1 ocdm1_1 octm1_1), oslm1_1⟩)
    (cm1_1 : PySem.W.codeIn K ocdm1_1 "Scanner.here" = true)
    (km1_1 : PySem.W.keepIn K (.ref gm1_1) = true)
    (fcm1_2 : PySem.W.findIn K (.ref CS) "step_on" = some (some (.ref gm1_2)))
    (fnm1_2 : PySem.W.isFn K (.ref gm1_2) = true)
    (lm1_2 : K.lookup gm1_2 = some ⟨oocm1_2, oodm1_2, .func (PySem.W.fnOf "step_on" "Scanner.step_on" (defArgs sStep) (defBody sStep) (defScope sStep) .none okVm1_2 odcm1_2 opmm1_2 oanm1_2 ocdm1_2 octm1_2), oslm1_2⟩)
    (cm1_2 : PySem.W.codeIn K ocdm1_2 "Scanner.step_on" = true)
    (km1_2 : PySem.W.keepIn K (.ref gm1_2) = true)
    (fcm1_3 : PySem.W.findIn K (.ref CS) "skip" = some (some (.ref gm1_3)))
    (fnm1_3 : PySem.W.isFn K (.ref gm1_3) = true)
    (lm1_3 : K.lookup gm1_3 = some ⟨oocm1_3, oodm1_3, .func (PySem.W.fnOf "skip" "Scanner.skip" (defArgs sSkip) (defBody sSkip) (defScope sSkip) .none okVm1_3 odcm1_3 opmm1_3 oanm1_3 ocdm1_3 octm1_3), oslm1_3⟩)
    (cm1_3 : PySem.W.codeIn K ocdm1_3 "Scanner.skip" = true)
    (km1_3 : PySem.W.keepIn K (.ref gm1_3) = true)
    (fcm1_4 : PySem.W.findIn K (.ref CS) "fail" = some (some (.ref gm1_4)))
    (fnm1_4 : PySem.W.isFn K (.ref gm1_4) = true)
    (lm1_4 : K.lookup gm1_4 = some ⟨oocm1_4, oodm1_4, .func (PySem.W.fnOf "fail" "Scanner.fail" (defArgs sFail) (defBody sFail) (defScope sFail) .none okVm1_4 odcm1_4 opmm1_4 oanm1_4 ocdm1_4 octm1_4), oslm1_4⟩)
    (cm1_4 : PySem.W.codeIn K ocdm1_4 "Scanner.fail" = true)
    (km1_4 : PySem.W.keepIn K (.ref gm1_4) = true)
    (fcm1_5 : PySem.W.findIn K (.ref CS) "at_figure" = some (some (.ref gm1_5)))
    (fnm1_5 : PySem.W.isFn K (.ref gm1_5) = true)
    (lm1_5 : K.lookup gm1_5 = some ⟨oocm1_5, oodm1_5, .func (PySem.W.fnOf "at_figure" "Scanner.at_figure" (defArgs sAtF) (defBody sAtF) (defScope sAtF) .none okVm1_5 odcm1_5 opmm1_5 oanm1_5 ocdm1_5 octm1_5), oslm1_5⟩)
    (cm1_5 : PySem.W.codeIn K ocdm1_5 "Scanner.at_figure" = true)
    (km1_5 : PySem.W.keepIn K (.ref gm1_5) = true)
    (fcm1_6 : PySem.W.findIn K (.ref CS) "took" = some (some (.ref gm1_6)))
    (fnm1_6 : PySem.W.isFn K (.ref gm1_6) = true)
    (lm1_6 : K.lookup gm1_6 = some ⟨oocm1_6, oodm1_6, .func (PySem.W.fnOf "took" "Scanner.took" (defArgs sTook) (defBody sTook) (defScope sTook) .none okVm1_6 odcm1_6 opmm1_6 oanm1_6 ocdm1_6 octm1_6), oslm1_6⟩)
    (cm1_6 : PySem.W.codeIn K ocdm1_6 "Scanner.took" = true)
    (km1_6 : PySem.W.keepIn K (.ref gm1_6) = true)
    (fcm1_7 : PySem.W.findIn K (.ref CS) "figures" = some (some (.ref gm1_7)))
    (fnm1_7 : PySem.W.isFn K (.ref gm1_7) = true)
    (lm1_7 : K.lookup gm1_7 = some ⟨oocm1_7, oodm1_7, .func (PySem.W.fnOf "figures" "Scanner.figures" (defArgs sFig) (defBody sFig) (defScope sFig) (.ref TDm1_7) okVm1_7 odcm1_7 opmm1_7 oanm1_7 ocdm1_7 octm1_7), oslm1_7⟩)
    (lTm1_7 : K.lookup TDm1_7 = some ⟨tcm1_7, tdm1_7, .seq #[.none, .none] tnm1_7, tsm1_7⟩)
    (cm1_7 : PySem.W.codeIn K ocdm1_7 "Scanner.figures" = true)
    (km1_7 : PySem.W.keepIn K (.ref gm1_7) = true)
    (fcm1_8 : PySem.W.findIn K (.ref CS) "end" = some (some (.ref gm1_8)))
    (fnm1_8 : PySem.W.isFn K (.ref gm1_8) = true)
    (lm1_8 : K.lookup gm1_8 = some ⟨oocm1_8, oodm1_8, .func (PySem.W.fnOf "end" "Scanner.end" (defArgs sEnd) (defBody sEnd) (defScope sEnd) .none okVm1_8 odcm1_8 opmm1_8 oanm1_8 ocdm1_8 octm1_8), oslm1_8⟩)
    (cm1_8 : PySem.W.codeIn K ocdm1_8 "Scanner.end" = true)
    (km1_8 : PySem.W.keepIn K (.ref gm1_8) = true)
    (aF : PySem.W.nsIn K mainGlobals "law" = some (some (.ref gLaw)))
    (lF : K.lookup gLaw = some ⟨oocF, oodF, .func (PySem.W.fnOf "law" "law" (defArgs sLaw) (defBody sLaw) (defScope sLaw) .none okVF odcF opmF oanF ocdF octF), oslF⟩)
    (cF : PySem.W.codeIn K ocdF "law" = true)
    (kF : PySem.W.keepIn K (.ref gLaw) = true)
    (gl0 : PySem.W.nsIn K mainGlobals "FIGURES_arithmetic" = some (some (.int 60 tg0)))
    (gl1 : PySem.W.nsIn K mainGlobals "FIGURES_scanning" = some (some (.str "0123456789" tg1)))
    (ac0 : PySem.W.nsIn K mainGlobals "LETTERS_powers" = some (some (.ref LP)))
    (kc0 : tupS K (.ref LP) = some (["x", "y", "z"] : List Str))
    (z_int : PySem.W.nsIn K mainGlobals "int" = some none)
    (z_bool : PySem.W.nsIn K mainGlobals "bool" = some none)
    (z_tuple : PySem.W.nsIn K mainGlobals "tuple" = some none)
    (z_len : PySem.W.nsIn K mainGlobals "len" = some none)
    (z_list : PySem.W.nsIn K mainGlobals "list" = some none)
    (z_range : PySem.W.nsIn K mainGlobals "range" = some none)
    (z_isinstance : PySem.W.nsIn K mainGlobals "isinstance" = some none)
    (z_repr : PySem.W.nsIn K mainGlobals "repr" = some none)
    (z_all : PySem.W.nsIn K mainGlobals "all" = some none)
    (z_divmod : PySem.W.nsIn K mainGlobals "divmod" = some none)
    (z_reversed : PySem.W.nsIn K mainGlobals "reversed" = some none)
    (z_sorted : PySem.W.nsIn K mainGlobals "sorted" = some none)
    (z_max : PySem.W.nsIn K mainGlobals "max" = some none)
    (z_abs : PySem.W.nsIn K mainGlobals "abs" = some none)
    (z_dict : PySem.W.nsIn K mainGlobals "dict" = some none)
    (z_str : PySem.W.nsIn K mainGlobals "str" = some none)
    (z_enumerate : PySem.W.nsIn K mainGlobals "enumerate" = some none)
    (z_zip : PySem.W.nsIn K mainGlobals "zip" = some none)
    (rr1 : PySem.W.exmOne K (.ref CB) (.ref CB) = some true)
    : ∃ fd : FuncData, (∀ (s : Shared) (u : Value), BindsTo s fd ⟨[u], []⟩ [("_law_script", u)]) ∧
      ∀ base : Heap, K.In base → base.Ns mainGlobals mg → FnG l.prog w K mg base CX0 11 fa fd ["_law_script"] (spLaw K) := by
  have e := hfa.symm.trans (PySem.W.mg_of X G aF)
  cases e
  have FL := fun_mk (st := sLaw) lF cF kF
  refine ⟨PySem.W.fnOf "law" "law" (defArgs sLaw) (defBody sLaw) (defScope sLaw) .none okVF odcF opmF oanF ocdF octF, fun s v => .of_eq rfl, fun base _ _ => ?_⟩
  have Ff0 := fun_mk (st := sIsI) lf0 cf0 kf0
  have E_is_integer : Cl K mg "is_integer" sIsI ["value"] gf0 _ := ⟨Ff0, Ff0.binds (ps := ["value"]) (fun _ _ _ _ _ _ us hl => match us, hl with | [_], _ => rfl), PySem.W.mg_of X G af0⟩
  have Ff1 := fun_mk (st := sIsIs) lf1 cf1 kf1
  have E_is_integers : Cl K mg "is_integers" sIsIs ["value"] gf1 _ := ⟨Ff1, Ff1.binds (ps := ["value"]) (fun _ _ _ _ _ _ us hl => match us, hl with | [_], _ => rfl), PySem.W.mg_of X G af1⟩
  have Ff2 := fun_mk (st := sRow) lf2 cf2 kf2
  have E_is_row : Cl K mg "is_row" sRow ["value", "width"] gf2 _ := ⟨Ff2, Ff2.binds (ps := ["value", "width"]) (fun _ _ _ _ _ _ us hl => match us, hl with | [_, _], _ => rfl), PySem.W.mg_of X G af2⟩
  have Ff3 := fun_mk (st := sTerm) lf3 cf3 kf3
  have E_is_term : Cl K mg "is_term" sTerm ["item"] gf3 _ := ⟨Ff3, Ff3.binds (ps := ["item"]) (fun _ _ _ _ _ _ us hl => match us, hl with | [_], _ => rfl), PySem.W.mg_of X G af3⟩
  have Ff4 := fun_mk (st := sPo) lf4 cf4 kf4
  have E_power_of : Cl K mg "power_of" sPo ["base", "exponent"] gf4 _ := ⟨Ff4, Ff4.binds (ps := ["base", "exponent"]) (fun _ _ _ _ _ _ us hl => match us, hl with | [_, _], _ => rfl), PySem.W.mg_of X G af4⟩
  have Ff5 := fun_mk (st := sNw) lf5 cf5 kf5
  have E_number_with : Cl K mg "number_with" sNw ["figures"] gf5 _ := ⟨Ff5, Ff5.binds (ps := ["figures"]) (fun _ _ _ _ _ _ us hl => match us, hl with | [_], _ => rfl), PySem.W.mg_of X G af5⟩
  have Ff6 := fun_mk (st := sRe) lf6 cf6 kf6
  have E_read_exponent : Cl K mg "read_exponent" sRe ["scanner"] gf6 _ := ⟨Ff6, Ff6.binds (ps := ["scanner"]) (fun _ _ _ _ _ _ us hl => match us, hl with | [_], _ => rfl), PySem.W.mg_of X G af6⟩
  have Ff7 := fun_mk (st := sRt) lf7 cf7 kf7
  have E_read_term : Cl K mg "read_term" sRt ["scanner", "number"] gf7 _ := ⟨Ff7, Ff7.binds (ps := ["scanner", "number"]) (fun _ _ _ _ _ _ us hl => match us, hl with | [_, _], _ => rfl), PySem.W.mg_of X G af7⟩
  have Ff8 := fun_mk (st := sRp) lf8 cf8 kf8
  have E_read_powers : Cl K mg "read_powers" sRp ["scanner"] gf8 _ := ⟨Ff8, Ff8.binds (ps := ["scanner"]) (fun _ _ _ _ _ _ us hl => match us, hl with | [_], _ => rfl), PySem.W.mg_of X G af8⟩
  have Ff9 := fun_mk (st := sPf) lf9 cf9 kf9
  have E_powers_of : Cl K mg "powers_of" sPf ["text"] gf9 _ := ⟨Ff9, Ff9.binds (ps := ["text"]) (fun _ _ _ _ _ _ us hl => match us, hl with | [_], _ => rfl), PySem.W.mg_of X G af9⟩
  have Ff10 := fun_mk (st := sPen) lf10 cf10 kf10
  have E__law_pen : Cl K mg "_law_pen" sPen ["_law_script"] gf10 _ := ⟨Ff10, Ff10.binds (ps := ["_law_script"]) (fun _ _ _ _ _ _ us hl => match us, hl with | [_], _ => rfl), PySem.W.mg_of X G af10⟩
  have Ff11 := fun_mk (st := sDraw) lf11 cf11 kf11
  have E__law_draw : Cl K mg "_law_draw" sDraw ["_law_pen_here", "_law_many"] gf11 _ := ⟨Ff11, Ff11.binds (ps := ["_law_pen_here", "_law_many"]) (fun _ _ _ _ _ _ us hl => match us, hl with | [_, _], _ => rfl), PySem.W.mg_of X G af11⟩
  have Ff12 := fun_mk (st := sPick) lf12 cf12 kf12
  have E__law_pick : Cl K mg "_law_pick" sPick ["_law_pen_here", "_law_some"] gf12 _ := ⟨Ff12, Ff12.binds (ps := ["_law_pen_here", "_law_some"]) (fun _ _ _ _ _ _ us hl => match us, hl with | [_, _], _ => rfl), PySem.W.mg_of X G af12⟩
  have Ff13 := fun_mk (st := sPoly) lf13 cf13 kf13
  have E__law_poly : Cl K mg "_law_poly" sPoly ["_law_pen_here", "_law_letters", "_law_reach", "_law_many"] gf13 _ := ⟨Ff13, Ff13.binds (ps := ["_law_pen_here", "_law_letters", "_law_reach", "_law_many"]) (fun _ _ _ _ _ _ us hl => match us, hl with | [_, _, _, _], _ => rfl), PySem.W.mg_of X G af13⟩
  have Ff14 := fun_mk (st := sTt) lf14 cf14 kf14
  have E__law_term_text : Cl K mg "_law_term_text" sTt ["_law_number", "_law_place"] gf14 _ := ⟨Ff14, Ff14.binds (ps := ["_law_number", "_law_place"]) (fun _ _ _ _ _ _ us hl => match us, hl with | [_, _], _ => rfl), PySem.W.mg_of X G af14⟩
  have Ff15 := fun_mk (st := sPt) lf15 cf15 kf15
  have E__law_poly_text : Cl K mg "_law_poly_text" sPt ["_law_poly_here"] gf15 _ := ⟨Ff15, Ff15.binds (ps := ["_law_poly_here"]) (fun _ _ _ _ _ _ us hl => match us, hl with | [_], _ => rfl), PySem.W.mg_of X G af15⟩
  have Ff16 := fun_mk (st := sTerms) lf16 cf16 kf16
  have E__law_terms : Cl K mg "_law_terms" sTerms ["_law_poly_here"] gf16 _ := ⟨Ff16, Ff16.binds (ps := ["_law_poly_here"]) (fun _ _ _ _ _ _ us hl => match us, hl with | [_], _ => rfl), PySem.W.mg_of X G af16⟩
  have Ff17 := fun_mk (st := sSome) lf17 cf17 kf17
  have E__law_some_poly : Cl K mg "_law_some_poly" sSome ["_law_pen_here"] gf17 _ := ⟨Ff17, Ff17.binds (ps := ["_law_pen_here"]) (fun _ _ _ _ _ _ us hl => match us, hl with | [_], _ => rfl), PySem.W.mg_of X G af17⟩
  have Ff18 := fun_mk (st := sNx) lf18 cf18 kf18
  have E__law_next : Cl K mg "_law_next" sNx ["_law_state", "_law_sign"] gf18 _ := ⟨Ff18, Ff18.binds (ps := ["_law_state", "_law_sign"]) (fun _ _ _ _ _ _ us hl => match us, hl with | [_, _], _ => rfl), PySem.W.mg_of X G af18⟩
  have Ff19 := fun_mk (st := sCo) lf19 cf19 kf19
  have E__law_column : Cl K mg "_law_column" sCo ["_law_text"] gf19 _ := ⟨Ff19, Ff19.binds (ps := ["_law_text"]) (fun _ _ _ _ _ _ us hl => match us, hl with | [_], _ => rfl), PySem.W.mg_of X G af19⟩
  have Ff20 := fun_mk (st := sRef) lf20 cf20 kf20
  have E__law_refused : Cl K mg "_law_refused" sRef ["_law_text"] gf20 _ := ⟨Ff20, Ff20.binds (ps := ["_law_text"]) (fun _ _ _ _ _ _ us hl => match us, hl with | [_], _ => rfl), PySem.W.mg_of X G af20⟩
  have Fm0_0 := fun_mk (st := sPw) lm0_0 cm0_0 km0_0
  have B_Powers___init__ := Fm0_0.binds (ps := ["self", "terms"]) (fun _ _ _ _ _ _ us hl => match us, hl with | [_, _], _ => rfl)
  have Fm1_0 := funE_mk (st := sIni) (dvs := [.non]) lm1_0 cm1_0 km1_0 (.inr ⟨nofun, TDm1_0, _, [.none], _, rfl, lTm1_0, rfl, (.cons (show RelV V.non Value.none from rfl) .nil)⟩)
  have B_Scanner___init__ := Fm1_0.binds1 (ps := ["self", "text", "known"]) 2 0 nofun rfl rfl (fun _ _ _ _ _ _ _ us its hl hi => match us, its, hl, hi with | [_, _], [_], _, _ => ⟨_, rfl, rfl⟩)
  have Fm1_1 := fun_mk (st := sHere) lm1_1 cm1_1 km1_1
  have B_Scanner_here := Fm1_1.binds (ps := ["self"]) (fun _ _ _ _ _ _ us hl => match us, hl with | [_], _ => rfl)
  have Fm1_2 := fun_mk (st := sStep) lm1_2 cm1_2 km1_2
  have B_Scanner_step_on := Fm1_2.binds (ps := ["self"]) (fun _ _ _ _ _ _ us hl => match us, hl with | [_], _ => rfl)
  have Fm1_3 := fun_mk (st := sSkip) lm1_3 cm1_3 km1_3
  have B_Scanner_skip := Fm1_3.binds (ps := ["self"]) (fun _ _ _ _ _ _ us hl => match us, hl with | [_], _ => rfl)
  have Fm1_4 := fun_mk (st := sFail) lm1_4 cm1_4 km1_4
  have B_Scanner_fail := Fm1_4.binds (ps := ["self"]) (fun _ _ _ _ _ _ us hl => match us, hl with | [_], _ => rfl)
  have Fm1_5 := fun_mk (st := sAtF) lm1_5 cm1_5 km1_5
  have B_Scanner_at_figure := Fm1_5.binds (ps := ["self"]) (fun _ _ _ _ _ _ us hl => match us, hl with | [_], _ => rfl)
  have Fm1_6 := fun_mk (st := sTook) lm1_6 cm1_6 km1_6
  have B_Scanner_took := Fm1_6.binds (ps := ["self", "sign"]) (fun _ _ _ _ _ _ us hl => match us, hl with | [_, _], _ => rfl)
  have Fm1_7 := funE_mk (st := sFig) (dvs := [.non, .non]) lm1_7 cm1_7 km1_7 (.inr ⟨nofun, TDm1_7, _, [.none, .none], _, rfl, lTm1_7, rfl, (.cons (show RelV V.non Value.none from rfl) (.cons (show RelV V.non Value.none from rfl) .nil))⟩)
  have B_Scanner_figures := Fm1_7.binds1 (ps := ["self", "most", "greatest"]) 2 1 nofun rfl rfl (fun _ _ _ _ _ _ _ us its hl hi => match us, its, hl, hi with | [_, _], [_, _], _, _ => ⟨_, rfl, rfl⟩)
  have Fm1_8 := fun_mk (st := sEnd) lm1_8 cm1_8 km1_8
  have B_Scanner_end := Fm1_8.binds (ps := ["self"]) (fun _ _ _ _ _ _ us hl => match us, hl with | [_], _ => rfl)
  have L_Powers : Cls K CP := ⟨pg0, hd0, po0, sa0⟩
  have GC_Powers := PySem.W.mg_of X G aC0
  have C_Powers : C8.InsC K CP := ⟨L_Powers, ha0, hn0, ht0, hm0, me0⟩
  have M_Powers_init : Meth K CP "__init__" gm0_0 := ⟨fcm0_0, fnm0_0, km0_0⟩
  have K_Powers : Mk K CP gm0_0 := ⟨mk0, fcm0_0, fnm0_0, kp0⟩
  have L_Scanner : Cls K CS := ⟨pg1, hd1, po1, sa1⟩
  have GC_Scanner := PySem.W.mg_of X G aC1
  have M_Scanner_init : Meth K CS "__init__" gm1_0 := ⟨fcm1_0, fnm1_0, km1_0⟩
  have K_Scanner : Mk K CS gm1_0 := ⟨mk1, fcm1_0, fnm1_0, kp1⟩
  have M_Scanner_here : Meth K CS "here" gm1_1 := ⟨fcm1_1, fnm1_1, km1_1⟩
  have M_Scanner_step_on : Meth K CS "step_on" gm1_2 := ⟨fcm1_2, fnm1_2, km1_2⟩
  have M_Scanner_skip : Meth K CS "skip" gm1_3 := ⟨fcm1_3, fnm1_3, km1_3⟩
  have M_Scanner_fail : Meth K CS "fail" gm1_4 := ⟨fcm1_4, fnm1_4, km1_4⟩
  have M_Scanner_at_figure : Meth K CS "at_figure" gm1_5 := ⟨fcm1_5, fnm1_5, km1_5⟩
  have M_Scanner_took : Meth K CS "took" gm1_6 := ⟨fcm1_6, fnm1_6, km1_6⟩
  have M_Scanner_figures : Meth K CS "figures" gm1_7 := ⟨fcm1_7, fnm1_7, km1_7⟩
  have M_Scanner_end : Meth K CS "end" gm1_8 := ⟨fcm1_8, fnm1_8, km1_8⟩
  have R_BadRow := er_of (x := "BadRow") (fs := ["row"]) X G e0 j0 (fun g hg => by
    rcases List.mem_cons.mp hg with rfl | hg
    · exact n0_0
    exact (List.not_mem_nil hg).elim) (fun _ _ _ _ _ _ us hl => match us, hl with | [_, _], _ => rfl)
  have R_BadText := er_of (x := "BadText") (fs := ["column"]) X G e1 j1 (fun g hg => by
    rcases List.mem_cons.mp hg with rfl | hg
    · exact n1_0
    exact (List.not_mem_nil hg).elim) (fun _ _ _ _ _ _ us hl => match us, hl with | [_, _], _ => rfl)
  have G_FIGURES_arithmetic := PySem.W.mg_of X G gl0
  have G_FIGURES_scanning := PySem.W.mg_of X G gl1
  have A_LETTERS_powers := PySem.W.mg_of X G ac0
  have Z_int := PySem.W.mg_none_of X G z_int
  have Z_bool := PySem.W.mg_none_of X G z_bool
  have Z_tuple := PySem.W.mg_none_of X G z_tuple
  have Z_len := PySem.W.mg_none_of X G z_len
  have Z_list := PySem.W.mg_none_of X G z_list
  have Z_range := PySem.W.mg_none_of X G z_range
  have Z_isinstance := PySem.W.mg_none_of X G z_isinstance
  have Z_repr := PySem.W.mg_none_of X G z_repr
  have Z_all := PySem.W.mg_none_of X G z_all
  have Z_divmod := PySem.W.mg_none_of X G z_divmod
  have Z_reversed := PySem.W.mg_none_of X G z_reversed
  have Z_sorted := PySem.W.mg_none_of X G z_sorted
  have Z_max := PySem.W.mg_none_of X G z_max
  have Z_abs := PySem.W.mg_none_of X G z_abs
  have Z_dict := PySem.W.mg_none_of X G z_dict
  have Z_str := PySem.W.mg_none_of X G z_str
  have Z_enumerate := PySem.W.mg_none_of X G z_enumerate
  have Z_zip := PySem.W.mg_none_of X G z_zip
  have BB : Blt mg := ⟨Z_int, Z_bool, Z_tuple, Z_len, Z_list, Z_range, Z_isinstance, Z_repr, Z_all, Z_divmod, Z_reversed⟩
  have B2 : Blt2 mg := ⟨Z_sorted, Z_max, Z_abs, Z_dict⟩
  have WW : PwC K mg CP := ⟨C_Powers, at0_0, at0_1, at0_2, GC_Powers, ni0, fun n hn => by
    unfold offInt at hn
    obtain rfl | hn := List.mem_cons.mp hn
    · exact no0_bool
    obtain rfl | hn := List.mem_cons.mp hn
    · exact no0_NoneType
    obtain rfl | hn := List.mem_cons.mp hn
    · exact no0_str
    obtain rfl | hn := List.mem_cons.mp hn
    · exact no0_list
    obtain rfl | hn := List.mem_cons.mp hn
    · exact no0_tuple
    obtain rfl | hn := List.mem_cons.mp hn
    · exact no0_dict
    exact (List.not_mem_nil hn).elim⟩
  have ZZ : ScC K CS := ⟨L_Scanner, at1_0, at1_1, at1_2⟩
  have tHere : Mt K CS "here" "Scanner.here" sHere ["self"] gm1_1 _ := ⟨Fm1_1, B_Scanner_here, M_Scanner_here⟩
  have tStep : Mt K CS "step_on" "Scanner.step_on" sStep ["self"] gm1_2 _ := ⟨Fm1_2, B_Scanner_step_on, M_Scanner_step_on⟩
  have tSkip : Mt K CS "skip" "Scanner.skip" sSkip ["self"] gm1_3 _ := ⟨Fm1_3, B_Scanner_skip, M_Scanner_skip⟩
  have tFail : Mt K CS "fail" "Scanner.fail" sFail ["self"] gm1_4 _ := ⟨Fm1_4, B_Scanner_fail, M_Scanner_fail⟩
  have tAtF : Mt K CS "at_figure" "Scanner.at_figure" sAtF ["self"] gm1_5 _ := ⟨Fm1_5, B_Scanner_at_figure, M_Scanner_at_figure⟩
  have tTook : Mt K CS "took" "Scanner.took" sTook ["self", "sign"] gm1_6 _ := ⟨Fm1_6, B_Scanner_took, M_Scanner_took⟩
  have tFig : MtD K CS "figures" "Scanner.figures" sFig ["self", "most", "greatest"] gm1_7 _ := ⟨Fm1_7, B_Scanner_figures, M_Scanner_figures⟩
  have tEnd : Mt K CS "end" "Scanner.end" sEnd ["self"] gm1_8 _ := ⟨Fm1_8, B_Scanner_end, M_Scanner_end⟩
  have GT := ok_took (P := l.prog) (w := w) (mg := mg) (base := base) tTook.fn ZZ tHere tStep tSkip
  have GFg := ok_fig (P := l.prog) (w := w) (mg := mg) (base := base) tFig.fn ZZ tHere tStep tSkip tFail tAtF G_FIGURES_scanning R_BadText
  have GNw := ok_nw (P := l.prog) (w := w) (mg := mg) (base := base) E_number_with.fn BB E_power_of G_FIGURES_arithmetic
  have GRe := ok_re (P := l.prog) (w := w) (mg := mg) (base := base) E_read_exponent.fn BB ZZ E_number_with E_power_of G_FIGURES_arithmetic tTook tFig GT GFg
  have GRt := ok_rt (P := l.prog) (w := w) (mg := mg) (base := base) E_read_term.fn BB ZZ A_LETTERS_powers kc0 tHere tStep tSkip tTook tFig E_number_with E_read_exponent (ok_here tHere.fn ZZ) (ok_step tStep.fn ZZ) (ok_skip tSkip.fn ZZ tHere tStep) GT GFg GNw GRe
  have GRp := ok_rp (P := l.prog) (w := w) (mg := mg) (base := base) E_read_powers.fn BB B2 ZZ WW K_Powers Fm0_0 B_Powers___init__ E_is_integer E_is_integers E_is_row E_is_term R_BadRow tTook GT E_read_term GRt
  have GPf := ok_pf (P := l.prog) (w := w) (mg := mg) (base := base) E_powers_of.fn ZZ K_Scanner GC_Scanner Fm1_0 B_Scanner___init__ E_read_powers GRp tEnd (ok_end tEnd.fn ZZ tHere tStep tSkip tFail R_BadText)
  have GRf := ok_ref (P := l.prog) (w := w) (mg := mg) (base := base) E__law_refused.fn rr1 ⟨e1.ga, e1.gg, e1.be, e1.hd⟩ R_BadText.g (R_BadText.no _ (.head _)) E_powers_of GPf
  have GCo := ok_co (P := l.prog) (w := w) (mg := mg) (base := base) E__law_column.fn BB Z_enumerate E__law_next
  have GPt := ok_pt (P := l.prog) (w := w) (mg := mg) (base := base) E__law_poly_text.fn BB B2 Z_str Z_zip E__law_term_text
  exact ok_law FL BB B2 E__law_pen E__law_draw E__law_pick E__law_poly E__law_some_poly E__law_terms E__law_poly_text GPt E__law_refused GRf E__law_column GCo
theorem walk {l : PySem.W.OpenLaw} {q : Program} {loose : List Str} {XP : (Str → Option Value) → Heap → Prop} {YP : World → Heap → Prop} {d : DefRec} {K : Params → PySem.W.Frag} (hn : l.most = some 63) (hdf : d.params.defaults = [])
    (hY : ∀ (w : World) (h : Heap), YP w h → (K w.params).In h)
    (F : ∀ (w : World) (mg : Str → Option Value) (fa : Addr) (h : Heap), (K w.params).In h → h.Ns mainGlobals mg → mg d.name = some (.ref fa) →
      ∃ fd : FuncData, (∀ (s : Shared) (u : Value), BindsTo s fd ⟨[u], []⟩ [("_law_script", u)]) ∧ ∀ base : Heap, (K w.params).In base → base.Ns mainGlobals mg → FnG l.prog w (K w.params) mg base CX0 11 fa fd ["_law_script"] (spLaw (K w.params))) :
    PySem.W.WalkO q loose XP YP l.row.toRowW d [] (fun f vs => PySem.call f vs) :=
  walkG (n := 63) (k := 11) (x := "_law_script") (sp := fun w => spLaw (K w.params)) hn (by decide) hdf ⟨rfl, by decide, by decide⟩ hY F (fun _ _ a ns _ _ hS => ⟨a, ns, rfl, hS, fun _ => rfl⟩)
end K16

open PySem PySem.W PyProof.Rows
set_option maxRecDepth 100000 in
set_option maxHeartbeats 0 in
theorem PySem.Challenge.cw_restcounts_k16_first_wrong_signs_of_sums_holds : PySem.Challenge.rw_restcounts_k16_first_wrong_signs_of_sums.Holds := by
  w_on; o_law; k_head; (case hw => w_witness2)
  k_fill
  refine K16.walk (l := PySem.Challenge.rw_restcounts_k16_first_wrong_signs_of_sums) rfl rfl (fun w h Y => PySem.W.kIn_of Y) ?F
  case F =>
    intro w mg fa h KX G hmg
    refine' K16.all_mk KX G hmg  ?e0 ?j0 ?n0_0 ?e1 ?j1 ?n1_0 ?aC0 ?pg0 ?hd0 ?po0 ?sa0 ?ha0 ?hn0 ?ht0 ?hm0 ?me0 ?at0_0 ?at0_1 ?at0_2 ?no0_bool ?no0_NoneType ?no0_str ?no0_list ?no0_tuple ?no0_dict ?ni0 ?mk0 ?kp0 ?aC1 ?pg1 ?hd1 ?po1 ?sa1 ?at1_0 ?at1_1 ?at1_2 ?mk1 ?kp1 ?af0 ?lf0 ?cf0 ?kf0 ?af1 ?lf1 ?cf1 ?kf1 ?af2 ?lf2 ?cf2 ?kf2 ?af3 ?lf3 ?cf3 ?kf3 ?af4 ?lf4 ?cf4 ?kf4 ?af5 ?lf5 ?cf5 ?kf5 ?af6 ?lf6 ?cf6 ?kf6 ?af7 ?lf7 ?cf7 ?kf7 ?af8 ?lf8 ?cf8 ?kf8 ?af9 ?lf9 ?cf9 ?kf9 ?af10 ?lf10 ?cf10 ?kf10 ?af11 ?lf11 ?cf11 ?kf11 ?af12 ?lf12 ?cf12 ?kf12 ?af13 ?lf13 ?cf13 ?kf13 ?af14 ?lf14 ?cf14 ?kf14 ?af15 ?lf15 ?cf15 ?kf15 ?af16 ?lf16 ?cf16 ?kf16 ?af17 ?lf17 ?cf17 ?kf17 ?af18 ?lf18 ?cf18 ?kf18 ?af19 ?lf19 ?cf19 ?kf19 ?af20 ?lf20 ?cf20 ?kf20 ?fcm0_0 ?fnm0_0 ?lm0_0 ?cm0_0 ?km0_0 ?fcm1_0 ?fnm1_0 ?lm1_0 ?lTm1_0 ?cm1_0 ?km1_0 ?fcm1_1 ?fnm1_1 ?lm1_1 ?cm1_1 ?km1_1 ?fcm1_2 ?fnm1_2 ?lm1_2 ?cm1_2 ?km1_2 ?fcm1_3 ?fnm1_3 ?lm1_3 ?cm1_3 ?km1_3 ?fcm1_4 ?fnm1_4 ?lm1_4 ?cm1_4 ?km1_4 ?fcm1_5 ?fnm1_5 ?lm1_5 ?cm1_5 ?km1_5 ?fcm1_6 ?fnm1_6 ?lm1_6 ?cm1_6 ?km1_6 ?fcm1_7 ?fnm1_7 ?lm1_7 ?lTm1_7 ?cm1_7 ?km1_7 ?fcm1_8 ?fnm1_8 ?lm1_8 ?cm1_8 ?km1_8 ?aF ?lF ?cF ?kF ?gl0 ?gl1 ?ac0 ?kc0 ?z_int ?z_bool ?z_tuple ?z_len ?z_list ?z_range ?z_isinstance ?z_repr ?z_all ?z_divmod ?z_reversed ?z_sorted ?z_max ?z_abs ?z_dict ?z_str ?z_enumerate ?z_zip ?rr1
    (case e0 => (refine' K16.ErIn.mk ?_ ?_ ?_ ?_ ?_ ?_ <;> try k_is))
    (case j0 => (refine' K16.IniIn.mk ?_ ?_ ?_ ?_ ?_ ?_ ?_ ?_ <;> try k_is))
    (case n0_0 => k_is)
    (case e1 => (refine' K16.ErIn.mk ?_ ?_ ?_ ?_ ?_ ?_ <;> try k_is))
    (case j1 => (refine' K16.IniIn.mk ?_ ?_ ?_ ?_ ?_ ?_ ?_ ?_ <;> try k_is))
    (case n1_0 => k_is)
    (case aC0 => k_is)
    (case pg0 => k_is)
    (case hd0 => k_is)
    (case po0 => k_is)
    (case sa0 => k_is)
    (case ha0 => k_is)
    (case hn0 => k_is)
    (case ht0 => k_is)
    (case hm0 => k_is)
    (case me0 => (first | kernel_rfl | k_is | kit_is | decide +kernel))
    (case at0_0 => k_is)
    (case at0_1 => k_is)
    (case at0_2 => k_is)
    (case no0_bool => (first | kernel_rfl | k_is | kit_is | decide +kernel))
    (case no0_NoneType => (first | kernel_rfl | k_is | kit_is | decide +kernel))
    (case no0_str => (first | kernel_rfl | k_is | kit_is | decide +kernel))
    (case no0_list => (first | kernel_rfl | k_is | kit_is | decide +kernel))
    (case no0_tuple => (first | kernel_rfl | k_is | kit_is | decide +kernel))
    (case no0_dict => (first | kernel_rfl | k_is | kit_is | decide +kernel))
    (case ni0 => (first | kernel_rfl | k_is | kit_is | decide +kernel))
    (case mk0 => k_is)
    (case kp0 => k_is)
    (case aC1 => k_is)
    (case pg1 => k_is)
    (case hd1 => k_is)
    (case po1 => k_is)
    (case sa1 => k_is)
    (case at1_0 => k_is)
    (case at1_1 => k_is)
    (case at1_2 => k_is)
    (case mk1 => k_is)
    (case kp1 => k_is)
    (case af0 => k_is)
    (case lf0 => k_is)
    (case cf0 => k_is)
    (case kf0 => k_is)
    (case af1 => k_is)
    (case lf1 => k_is)
    (case cf1 => k_is)
    (case kf1 => k_is)
    (case af2 => k_is)
    (case lf2 => k_is)
    (case cf2 => k_is)
    (case kf2 => k_is)
    (case af3 => k_is)
    (case lf3 => k_is)
    (case cf3 => k_is)
    (case kf3 => k_is)
    (case af4 => k_is)
    (case lf4 => k_is)
    (case cf4 => k_is)
    (case kf4 => k_is)
    (case af5 => k_is)
    (case lf5 => k_is)
    (case cf5 => k_is)
    (case kf5 => k_is)
    (case af6 => k_is)
    (case lf6 => k_is)
    (case cf6 => k_is)
    (case kf6 => k_is)
    (case af7 => k_is)
    (case lf7 => k_is)
    (case cf7 => k_is)
    (case kf7 => k_is)
    (case af8 => k_is)
    (case lf8 => k_is)
    (case cf8 => k_is)
    (case kf8 => k_is)
    (case af9 => k_is)
    (case lf9 => k_is)
    (case cf9 => k_is)
    (case kf9 => k_is)
    (case af10 => k_is)
    (case lf10 => k_is)
    (case cf10 => k_is)
    (case kf10 => k_is)
    (case af11 => k_is)
    (case lf11 => k_is)
    (case cf11 => k_is)
    (case kf11 => k_is)
    (case af12 => k_is)
    (case lf12 => k_is)
    (case cf12 => k_is)
    (case kf12 => k_is)
    (case af13 => k_is)
    (case lf13 => k_is)
    (case cf13 => k_is)
    (case kf13 => k_is)
    (case af14 => k_is)
    (case lf14 => k_is)
    (case cf14 => k_is)
    (case kf14 => k_is)
    (case af15 => k_is)
    (case lf15 => k_is)
    (case cf15 => k_is)
    (case kf15 => k_is)
    (case af16 => k_is)
    (case lf16 => k_is)
    (case cf16 => k_is)
    (case kf16 => k_is)
    (case af17 => k_is)
    (case lf17 => k_is)
    (case cf17 => k_is)
    (case kf17 => k_is)
    (case af18 => k_is)
    (case lf18 => k_is)
    (case cf18 => k_is)
    (case kf18 => k_is)
    (case af19 => k_is)
    (case lf19 => k_is)
    (case cf19 => k_is)
    (case kf19 => k_is)
    (case af20 => k_is)
    (case lf20 => k_is)
    (case cf20 => k_is)
    (case kf20 => k_is)
    (case fcm0_0 => k_is)
    (case fnm0_0 => k_is)
    (case lm0_0 => k_is)
    (case cm0_0 => k_is)
    (case km0_0 => k_is)
    (case fcm1_0 => k_is)
    (case fnm1_0 => k_is)
    (case lm1_0 => k_is)
    (case lTm1_0 => k_is)
    (case cm1_0 => k_is)
    (case km1_0 => k_is)
    (case fcm1_1 => k_is)
    (case fnm1_1 => k_is)
    (case lm1_1 => k_is)
    (case cm1_1 => k_is)
    (case km1_1 => k_is)
    (case fcm1_2 => k_is)
    (case fnm1_2 => k_is)
    (case lm1_2 => k_is)
    (case cm1_2 => k_is)
    (case km1_2 => k_is)
    (case fcm1_3 => k_is)
    (case fnm1_3 => k_is)
    (case lm1_3 => k_is)
    (case cm1_3 => k_is)
    (case km1_3 => k_is)
    (case fcm1_4 => k_is)
    (case fnm1_4 => k_is)
    (case lm1_4 => k_is)
    (case cm1_4 => k_is)
    (case km1_4 => k_is)
    (case fcm1_5 => k_is)
    (case fnm1_5 => k_is)
    (case lm1_5 => k_is)
    (case cm1_5 => k_is)
    (case km1_5 => k_is)
    (case fcm1_6 => k_is)
    (case fnm1_6 => k_is)
    (case lm1_6 => k_is)
    (case cm1_6 => k_is)
    (case km1_6 => k_is)
    (case fcm1_7 => k_is)
    (case fnm1_7 => k_is)
    (case lm1_7 => k_is)
    (case lTm1_7 => k_is)
    (case cm1_7 => k_is)
    (case km1_7 => k_is)
    (case fcm1_8 => k_is)
    (case fnm1_8 => k_is)
    (case lm1_8 => k_is)
    (case cm1_8 => k_is)
    (case km1_8 => k_is)
    (case aF => k_is)
    (case lF => k_is)
    (case cF => k_is)
    (case kF => k_is)
    (case gl0 => k_is)
    (case gl1 => k_is)
    (case ac0 => k_is)
    (case kc0 => (first | kernel_rfl | k_is | kit_is | decide +kernel))
    (case z_int => k_is)
    (case z_bool => k_is)
    (case z_tuple => k_is)
    (case z_len => k_is)
    (case z_list => k_is)
    (case z_range => k_is)
    (case z_isinstance => k_is)
    (case z_repr => k_is)
    (case z_all => k_is)
    (case z_divmod => k_is)
    (case z_reversed => k_is)
    (case z_sorted => k_is)
    (case z_max => k_is)
    (case z_abs => k_is)
    (case z_dict => k_is)
    (case z_str => k_is)
    (case z_enumerate => k_is)
    (case z_zip => k_is)
    (case rr1 => (first | kernel_rfl | k_is | kit_is | decide +kernel))

