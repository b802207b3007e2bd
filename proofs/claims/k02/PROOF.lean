import PyProof.Rows.All
import Wide.All
import OpenK.AllK
import Wide.FinOn
import HandS.ForMost
import HandS.ExcInit
import HandS.ExcField
import HandS.ExcOwn
import HandS.IsInst
import KE.KExcIs
import HandS.Exc
import HandS.Lambda
import HandS.EndTab
import KE.KNestM
import HandS.Wide
import HandS.Evl
import HandS.Walk
import HandS.WordsExc
import HandS.Rev
import HandS.NestedK
import HandS.Words
import HandS.Zip
import KE.GoesMore
import KE.GoesZip
import PyProof.P3Eq
import KE.KOpsOwn
import HandS.OwnEq
import HandS.SlotsOwn
import HandS.More
import HandS.Codes
import HandS.DictComp
import HandS.Dict
import HandS.IntHex
import HandS.WideBits
import HandS.Iter
import HandS.SortKw
import HandS.SortInts
import HandS.TupAny
import HandS.Deep
import HandS.Gcd
import HandS.Flow
import HandS.TupMul
import PyProof.NeKinds
import HandS.Steps
import HandS.Defaults
import HandS.DeepEq
import HandS.Conv
import HandS.Style
import PySem.Challenge.RW_restcounts_k02_whole_one_form_of_lots
set_option Elab.async false
set_option linter.all false
set_option maxRecDepth 100000
set_option maxHeartbeats 4000000
/-! Gd: defs whose promise leans on there being no repr under way around them; calls of such; a law's end over such. -/
namespace Gd
open PySem PySem.Spec PyProof.Rows L2

/-- a promise kept wherever no guard stands around -/
structure FnG (P : Program) (w : World) (K : PySem.W.Frag) (mg : Str → Option Value) (base : Heap)
    (CX : CXT) (k : Nat) (f : Addr) (fd : FuncData) (ps : List Str) (sp : Sp) : Prop where
  len : ∀ vs H Q E, sp vs H Q E → vs.length = ps.length
  go : ∀ (A : Around) (outer : List Env) (s : Shared) (H : Hp) (args : Args) (us : List Value) (vs : List V) (Q : VK) (E : XK),
    A.guards = some [] → Room k A → Env0 P w K mg base A outer s H →
    BindsTo s fd args (ps.zip us) → Vals vs us → sp vs H Q E →
    codeAny (model P w) A (.call (.ref f) args) (CR CX outer P w H s Q E) s

section
variable {P : Program} {w : World} {K : PySem.W.Frag} {mg : Str → Option Value} {base : Heap} {CX : CXT}

theorem FnG.ofOk {k : Nat} {f : Addr} {fd : FuncData} {ps : List Str} {sp : Sp}
    (F : FnOk P w K mg base CX k f fd ps sp) : FnG P w K mg base CX k f fd ps sp where
  len := F.len
  go := fun A outer s H args us vs Q E _ => F.run A outer s H args us vs Q E

/-- a def by its body, where the guards are none -/
theorem fnG_of {k : Nat} {f : Addr} {name qual : Str} {params : Arguments} {body : List Stmt} {scope : Scope}
    {dV kV doc pm cdv ct oc : Value} {an od : Option Addr} {osl : Array (Option Value)} {N ps : List Str} {sp : Sp}
    (lk : K.lookup f = some ⟨oc, od, .func (PySem.W.fnOf name qual params body scope dV kV doc pm an cdv ct), osl⟩)
    (hcd : PySem.W.codeIn K cdv qual = true) (S : FnScope N ps scope)
    (len : ∀ vs H Q E, sp vs H Q E → vs.length = ps.length)
    (B : ∀ (A : Around) (outer : List Env) (s : Shared) (H : Hp) (vs : List V) (Q : VK) (E : XK),
      A.guards = some [] → Room k (A.deeper (envOfC qual scope s.heap.objs.size f cdv)) → sp vs H Q E →
      ∃ t, PSs (cxOf CX P w K mg base N qual scope f cdv A outer s H E) body t ∧
        t { nx := fun _ H' => Q .non H', rt := Q } (start N vs) H) :
    FnG P w K mg base CX (k + 1) f (PySem.W.fnOf name qual params body scope dV kV doc pm an cdv ct) ps sp where
  len := len
  go := by
    intro A outer s H args us vs Q E hgd room env0 hbind rel hs
    have hlen := len _ _ _ _ hs
    have old : ∀ b o, base.get? b = some o → s.heap.get? b = some o := fun b o h => (env0.bs b o h).1
    have kin := env0.mod.kin.keeps old
    have nolim := env0.mod.nolimit.keeps old
    refine codeAny_call_function room.depth (kin _ _ lk) rfl S.co S.gen rfl
      (PySem.W.codeRec_of kin hcd) (hbind _ _ _ _ ?_)
    refine wpAny_newFunctionEnv_cells S.kind ?kinds fun env he s1 inC => ?_
    case kinds =>
      rintro ⟨n, v⟩ hm
      have hn := S.par n (List.of_mem_zip hm).1
      exact hn.imp (fun q => q) fun q => ⟨q, PySem.W.cellsFrom_some _ _ _ (.inl q)⟩
    subst he
    refine ⟨nolim.keeps inC.toInCall.keep, codeAny_func ?_⟩
    have ⟨t, derived, reading⟩ := B A outer s H vs Q E hgd (room.deeper _) hs
    have inv0 := inv_start (CX := CX) (E := E) S room.hd env0 hlen rel inC
    refine wpAny_mono (derived.run [] s1 (start N vs) H _ inv0 reading) ?_ fun _ _ he => he
    intro fl s' hfl
    match fl, hfl with
    | .ret _, ⟨v, _, H', J, rv, q⟩ => exact ⟨v, H', J.os, J.bare, J.base, J.hok, rv, q⟩
    | .next, ⟨_, H', J, q⟩ => exact ⟨V.non, H', J.os, J.bare, J.base, J.hok, rfl, q⟩
    | .brk, ⟨_, _, _, q⟩ => exact q.elim
    | .cont, ⟨_, _, _, q⟩ => exact q.elim

/-- for a def of the text that no exception leaves -/
theorem okG {x qual : Str} {st : Stmt} {f : Addr} {fd : FuncData} {N ps : List Str} {k : Nat} {sp : Sp}
    (F : Fun K x qual st f fd) (S : FnScope N ps (defScope st)) (len : ∀ vs H Q E, sp vs H Q E → vs.length = ps.length)
    (B : ∀ (cdv : Value) (A : Around) (outer : List Env) (s : Shared) (H : Hp) (vs : List V) (Q : VK) (E : XK),
      A.guards = some [] → Room k (A.deeper (envOfC qual (defScope st) s.heap.objs.size f cdv)) → sp vs H Q E →
      ∃ t, PSs (cxOf CX0 P w K mg base N qual (defScope st) f cdv A outer s H E).nox (defBody st) t ∧
        t { nx := fun _ H' => Q .non H', rt := Q } (start N vs) H) : FnG P w K mg base CX0 (k + 1) f fd ps sp := by
  have ⟨oc, od, kV, doc, pm, an, cdv, ct, osl, e, lk, hcd⟩ := F.ex
  subst e
  refine fnG_of lk hcd S len ?_
  intro A outer s H vs Q E hgd room hs
  have ⟨t, d, q⟩ := B cdv A outer s H vs Q E hgd room hs
  exact ⟨t, d.nox, q⟩
end

section
variable {X : Cx} {CX : CXT} {k : Nat} {f : Addr} {fd : FuncData} {ps : List Str} {sp : Sp} {dvs : List V} {ds : List Value} {E : XK}
/-- the call of such a def -/
theorem run_fnG {pins : List (Addr × Obj)} {σ : L2.St} {H : Hp} {s : Shared} {Q : VK} {us : List Value} {vs : List V}
    (F : FnG X.prog X.w X.K X.mg X.base CX k f fd ps sp) (hgd : X.A.guards = some []) (room : Room k X.A)
    (hb : Binds X.K fd ps ds) (hd : Vals dvs ds) (hx : Passes CX X E) (I : Inv X pins σ H s) (r : Vals vs us)
    (h : sp (vs ++ dvs) H Q E) : wpAny (model X.prog X.w) X.A (call (.ref f) us) (EP X pins σ Q) X.xe s := by
  have rr := r.append hd
  have hlen := F.len _ _ _ _ h
  rw [rr.length] at hlen
  have c := F.go X.A X.stack s H ⟨us, []⟩ (us ++ ds) (vs ++ dvs) Q E hgd room I.env0 (hb s us I.kIn hlen) rr h
  refine wpAny_call (codeAny_mono c ?_)
  intro res s' hres
  match res, hres with
  | .error e, he => exact hx pins σ H s e s' I he
  | .ok (.ret u), he => exact I.after he
  | .ok .next, he => exact he.elim
  | .ok .brk, he => exact he.elim
  | .ok .cont, he => exact he.elim

theorem pe_callG {x : Str} {p pos : Pos} {e : Expr} {es : List Expr} {t : TA}
    (F : FnG X.prog X.w X.K X.mg X.base CX k f fd ps sp) (hgd : X.A.guards = some []) (hr : Room k X.A) (hg : Gl X x)
    (hm : X.mg x = some (.ref f)) (hk : PySem.W.keepIn X.K (.ref f) = true) (hb : Binds X.K fd ps ds) (hd : Vals dvs ds)
    (hx : Passes CX X E) (ha : PA X (e :: es) t) (hdb : (x == ("__debug__" : Str)) = false := by decide)
    (he : starEach (e :: es) X.env = (false, eval e X.env) :: starEach es X.env := by rfl)
    (hpl : (backTo pos (starEach es X.env)).any (·.1) = false := by rfl) :
    PE X (.Call (.Name x p) (e :: es) [] pos) (tCall sp dvs E t) where
  run := by
    intro pins s σ H Q I h
    refine wpAny_Call_Name_kw (ld_glob I hg hm ?_ hdb)
    refine PySem.W.callWith_K (h₀ := X.base) I.ok.mod.kin hk ?_ he hpl
    refine thn (ha.run pos pins s σ H _ I h) ?_
    rintro us s1 ⟨vs, H1, I1, rel, q⟩
    exact ⟨I1.kIn, run_fnG F hgd hr hb hd hx I1 rel q⟩
end

/-! ### repr of data -/
mutual
theorem dp_nodict {K : PySem.W.Frag} {H : Hp} : ∀ (d : PyData) (v : V), Dp K H v d → d.hasDict = false
  | .none, _, _ => by simp only [PyData.hasDict]
  | .bool _, _, _ => by simp only [PyData.hasDict]
  | .int _, _, _ => by simp only [PyData.hasDict]
  | .str _, _, _ => by simp only [PyData.hasDict]
  | .list ds, _, h => by
    cases h with
    | lst _ ha => simp only [PyData.hasDict]; exact dpAll_nodict ds _ ha
  | .tuple ds, _, h => by
    cases h with
    | tup _ ha => simp only [PyData.hasDict]; exact dpAll_nodict ds _ ha
  | .dict _, _, h => by cases h
theorem dpAll_nodict {K : PySem.W.Frag} {H : Hp} : ∀ (ds : List PyData) (vs : List V), DpAll K H vs ds → PyData.hasDictAll ds = false
  | [], _, _ => by simp only [PyData.hasDictAll]
  | d :: ds, _, h => by
    cases h with
    | cons a b => simp only [PyData.hasDictAll, dp_nodict d _ a, dpAll_nodict ds _ b, Bool.or_self]
end

/-- repr(x) of data without dicts -/
def rRepr (K : PySem.W.Frag) : List V → Hp → VK → Prop := fun xs H Q => ∃ x d, xs = [x] ∧ Dp K H x d ∧
  d.showable = true ∧ d.depth ≤ 60 ∧ d.shown.length ≤ sizeLine ∧ Q (.str d.shown) H
theorem call_repr {X : Cx} (hgd : X.A.guards = some []) (hu : X.A.units + 64 < cLine) : CallR X (.builtin "repr") (rRepr X.K) := by
  intro pins s σ H xs us Q I rel h
  obtain ⟨x, d, rfl, dp, sh, hd, hz, q⟩ := h
  cases rel with
  | cons rx rt =>
    cases rt
    rename_i u
    obtain ⟨as, rd⟩ := Dp.reads I d x u dp rx
    have nod := dp_nodict d x dp
    cases dp with
    | non =>
      cases rx
      exact PySem.P.repr_of_none ⟨.str _, H, I.tok _, ⟨_, rfl⟩, q⟩
    | bl b =>
      cases rx
      exact PySem.P.repr_of_bool ⟨.str _, H, I.tok _, ⟨_, rfl⟩, q⟩
    | int i =>
      obtain ⟨t, rfl⟩ := rx
      exact PySem.P.repr_of_int (by simpa [PyData.showable] using sh) ⟨.str _, H, I.tok _, ⟨_, rfl⟩, q⟩
    | str z =>
      obtain ⟨t, rfl⟩ := rx
      exact PySem.P.repr_of_str ⟨.str _, H, I.tok _, ⟨_, rfl⟩, q⟩ (by simpa only [PyData.shown] using hz)
    | lst _ _ =>
      cases rx
      exact repr_of_reads' rd sh (PySem.PyData.noDict_hsm nod) hgd (by omega) (fun _ _ e => e) (fun h' t tk k => ⟨.str _, H, I.kept k, ⟨_, rfl⟩, q⟩) hz
    | tup _ _ =>
      cases rx
      exact repr_of_reads' rd sh (PySem.PyData.noDict_hsm nod) hgd (by omega) (fun _ _ e => e) (fun h' t tk k => ⟨.str _, H, I.kept k, ⟨_, rfl⟩, q⟩) hz
end Gd

/-! Ex: errors of own classes as values: made, their fields read, asked for their class. -/
namespace Gd
open PySem PySem.Spec PyProof.Rows L2

/-- what isinstance and the fields ask of such a class -/
structure ErC (K : PySem.W.Frag) (C : Addr) : Prop where
  ga : PySem.W.findIn K (.ref C) "__getattribute__" = some (some (.builtin "BaseException.__getattribute__"))
  gg : PySem.W.findIn K (.ref C) "__getattr__" = some none
  be : PySem.W.subIn K (.ref C) (.type "BaseException") = some true
  hd : PySem.W.hasDictIn K C = true
  ci : PySem.W.isClsIn K C = true
  cc : PySem.W.findIn K (.ref C) "__class__" = some (some (.builtin "object.__class__"))
  cg : PySem.W.specialIn K (.builtin "object.__class__") "__get__" = some (some (.builtin "getset_descriptor.__get__"))
  ct : PySem.W.takesIn K (.builtin "object.__class__") = some true
  om : PySem.W.mroIn K C (.type "object") = some true

section
variable {X : Cx} {CX : CXT} {pins : List (Addr × Obj)} {σ : L2.St} {H : Hp} {s : Shared}

/-- an error of the class at C stands at a, its fields fs (the last stored first) -/
def ErA (H : Hp) (a C : Addr) (fs : List (Str × V)) : Prop :=
  (H a = some (exo a C none) ∧ fs = []) ∨ ∃ d, H a = some (exo a C (some d)) ∧ H d = some (exd d fs)

/-- such an error, as the library's rules see it -/
theorem inst_of {a C : Addr} {fs : List (Str × V)} (I : Inv X pins σ H s) (e : ErA H a C fs) :
    ∃ ox od, PySem.W.InstAt s.heap a ox C od ∧ ∀ n v, fs.lookup n = some v →
      ∃ u o, od = some o ∧ PySem.W.lookIn n o = some (some u) ∧ RelV v u := by
  obtain ⟨e, rfl⟩ | ⟨d, e, ed⟩ := e
  · obtain ⟨t, ho⟩ := exo_at I.hok e
    exact ⟨_, none, ⟨ho, rfl, rfl, trivial⟩, fun n v z => by cases z⟩
  · obtain ⟨t, ho⟩ := exo_at I.hok e
    obtain ⟨mA, hns, rel⟩ := exd_at I.hok ed
    obtain ⟨od, hod, look⟩ := lookIn_ns hns
    refine ⟨_, some od, ⟨ho, rfl, rfl, hod⟩, fun n v z => ?_⟩
    have rn := rel n
    rw [z] at rn
    cases q : mA n with
    | none => rw [q] at rn; exact rn.elim
    | some u =>
      rw [q] at rn
      exact ⟨u, od, rfl, by rw [look, q], rn⟩

/-- isinstance(e, c) -/
def rIsEr (K : PySem.W.Frag) : List V → Hp → VK → Prop := fun xs H Q => ∃ (a C : Addr) (fs : List (Str × V)) (c : V) (u : Value) (b : Bool),
  xs = [.ref a, c] ∧ ErA H a C fs ∧ ErC K C ∧ ClsV c u ∧ PySem.W.kitOne K (.ref C) u = some b ∧ Q (.bl b) H
theorem call_isEr : CallR X (.builtin "isinstance") (rIsEr X.K) := by
  intro pins s σ H xs us Q I rel h
  obtain ⟨a, C, fs, c, u, b, rfl, ea, T, kc, kit, q⟩ := h
  obtain ⟨u1, u2, rfl, r1, r2⟩ := vals2 rel
  cases (show u1 = Value.ref a from r1)
  have e2 := kc.eq r2
  subst e2
  obtain ⟨ox, od, J, _⟩ := inst_of I ea
  have Z := PySem.W.kitx_exc (x := a) (ox := ox) (od := od) (K := X.K) T.ci T.ga T.gg T.be T.cc T.cg T.ct T.om
  exact PySem.W.kia_one Z I.kIn J kit (fun z => nomatch z) fun tk => ⟨.bl b, H, I.tok tk, rfl, q⟩

/-- e.f -/
def tErF (K : PySem.W.Frag) (f : Str) (te : TE) : TE := fun σ H Q => te σ H fun x H1 => ∃ (a C : Addr) (fs : List (Str × V)) (v : V),
  x = .ref a ∧ ErA H1 a C fs ∧ ErC K C ∧ PySem.W.findIn K (.ref C) f = some none ∧ fs.lookup f = some v ∧ Q v H1
theorem pe_erF {e : Expr} {te : TE} {pos : Pos} {f : Str} (he : PE X e te)
    (hb : attributeBase e f X.env (eval e X.env) = eval e X.env := by rfl) : PE X (.Attribute e f pos) (tErF X.K f te) where
  run := by
    intro pins s σ H Q I h
    refine attr_of hb (thn (he.run pins s σ H _ I h) ?_)
    rintro u s1 ⟨x, H1, I1, rx, a, C, fs, v, ex, ea, T, no, l, q⟩
    subst ex
    cases (show u = Value.ref a from rx)
    obtain ⟨ox, od, J, g⟩ := inst_of I1 ea
    obtain ⟨u, o, rfl, lk, ru⟩ := g f v l
    exact HandSPX.exc_get I1.kIn J T.ga T.gg T.be (PySem.W.findObj_own T.hd no rfl lk) (handed_of ru) ⟨v, H1, I1.tok _, ru, q⟩

/-- C(), an error class without an __init__ of its own -/
def tEr0 (C : Addr) : TE := fun _ H Q => ∀ a, H a = none → Q (.ref a) (upd H a (exo a C none))
theorem pe_er0 {C : Addr} {bmB : List Value} {B newId initId : String} {x : Str} {p pos : Pos} (F : ExcBaseFacts B newId initId bmB)
    (q : PySem.W.excIn X.K C bmB newId = true) (gC : X.mg x = some (.ref C)) (kC : PySem.W.keepIn X.K (.ref C) = true) (hg : Gl X x)
    (hdb : (x == ("__debug__" : Str)) = false := by decide) : PE X (.Call (.Name x p) [] [] pos) (tEr0 C) where
  run := by
    intro pins s σ H Q I h
    refine wpAny_Call_Name_kw (ld_glob I hg gC ?_ hdb)
    refine PySem.W.callWith_K0 I.kIn kC ?_
    obtain ⟨bm, N, nm, qn, bs, hdct, sn, sub, ab, col, dd, k0, k1, k2, k3, k5, mN, hC, hN, hni, T⟩ := exc_obj I.kIn q
    obtain ⟨hp, g, d, t, os⟩ := s
    refine wpAny_call_exc_subT F T hC hN hni ?_ (by show 0 ≤ sizeLine; exact Nat.zero_le _)
    intro h' a hm
    have fresh : H a = none := I.hok.gone hm.new
    obtain ⟨t0, ht, _, _⟩ := hm.there
    have lay : ObjOk X.prog X.w (upd H a (exo a C none)) h' a (exo a C none) := exo_ok ht
    refine ⟨.ref a, _, I.un (t' := t) ?_ ?_, rfl, h a fresh⟩
    · exact {
        keep := fun b u z _ _ _ => hm.keeps b u z
        slot := fun b u z _ _ _ => ⟨u.slots, hm.keeps b u z⟩
        free := fun b u z n _ => by rw [upd_ne (fun e => by rw [e] at z; have := hm.new; rw [this] at z; cases z)]; exact n
        there := fun b u z _ => ⟨u, hm.keeps b u z⟩
        tups := fun b xs z => by rw [upd_ne (ne_of_none z fresh)]; exact z
        frzs := fun b o u z => by rw [upd_ne (ne_of_none z fresh)]; exact z
        tbls := fun b ps z => ⟨#[], by rw [upd_ne (ne_of_none z fresh), z]; simp⟩ }
    · intro b u z
      by_cases e : b = a
      · subst e
        rw [upd_same] at z
        cases z
        exact lay
      · rw [upd_ne e] at z
        exact (I.hok b u z).stay (fun c v _ y => hm.keeps c v y) (fun c y => by rw [upd_ne (ne_of_none y fresh)]; exact y)
          fun c xs y => by rw [upd_ne (ne_of_none y fresh)]; exact y

/-- C(e, ..), C's own __init__ keeping sp -/
def tErI (C : Addr) (sp : Sp) (ta : TA) : TE := fun σ H Q => ta σ H fun vs H1 => vs.length ≤ 1000 ∧ ∀ a, H1 a = none →
  sp (.ref a :: vs) (upd H1 a (exo a C none)) (fun v H2 => v = .non ∧ Q (.ref a) H2) (fun _ _ _ => False)
theorem pe_erI {x : Str} {C fI : Addr} {k : Nat} {fd : FuncData} {ps : List Str} {sp : Sp} {e : Expr} {es : List Expr} {ta : TA} {p pos : Pos}
    (T : OexC X.K C) (iC : PySem.W.findIn X.K (.ref C) "__init__" = some (some (.ref fI))) (tI : PySem.W.typeIn X.K (.ref fI) = some (.type "function"))
    (F1 : FnOk X.prog X.w X.K X.mg X.base CX k fI fd ps sp) (hr : Room (k + 1) X.A) (hb : Binds X.K fd ps [])
    (hx : Passes CX X (fun _ _ _ => False)) (hg : Gl X x) (hm : X.mg x = some (.ref C)) (ha : PA X (e :: es) ta)
    (hdb : (x == ("__debug__" : Str)) = false := by decide)
    (he : starEach (e :: es) X.env = (false, eval e X.env) :: starEach es X.env := by rfl)
    (hpl : (backTo pos (starEach es X.env)).any (·.1) = false := by rfl) :
    PE X (.Call (.Name x p) (e :: es) [] pos) (tErI C sp ta) where
  run := by
    intro pins s σ H Q I h
    obtain ⟨nm, q, N, bs, bm, sn, sub, ab, col, dd, k0, k1, k2, k3, k5, hC, hbm⟩ := T.cls
    refine wpAny_Call_Name_kw (ld_glob I hg hm ?_ hdb)
    refine PySem.W.callWith_K (h₀ := X.base) I.ok.mod.kin T.kC (thn (ha.run pos pins s σ H _ I h) ?_) he hpl
    rintro us s1 ⟨vs, H1, I1, rel, few, next⟩
    refine ⟨I1.kIn, ?_⟩
    show wpAny _ _ (call (.ref C) us) _ _ _
    obtain ⟨hp, g, dr, tk, os⟩ := s1
    have above : hp.objs.size ≤ hp.objs.size + 1 := Nat.le_succ _
    have call := next (hp.objs.size + 1) (I1.hok.fresh above)
    have kept : ∀ b o, hp.get? b = some o → ((hp.push (PySem.W.kdv_tup us)).push (PySem.HandSPX.excO C hp.objs.size)).get? b = some o :=
      fun b o z => Heap.get?_push_of_some _ (Heap.get?_push_of_some _ z)
    have there : ((hp.push (PySem.W.kdv_tup us)).push (PySem.HandSPX.excO C hp.objs.size)).get? (hp.objs.size + 1) = some (PySem.HandSPX.excO C hp.objs.size) := by heap_get
    have I2 := I1.laid (t' := tk) (o := exo (hp.objs.size + 1) C none) kept above (exo_ok there)
    have rel2 : Vals (V.ref (hp.objs.size + 1) :: vs) (Value.ref (hp.objs.size + 1) :: us) := .cons rfl rel
    have len2 : (Value.ref (hp.objs.size + 1) :: us ++ []).length = ps.length := by
      rw [List.append_nil, ← rel2.length]
      exact F1.len _ _ _ _ call
    have usz : us.length ≤ sizeLine := by
      have := Paired.length rel
      rw [sizeLine_eq]
      omega
    have bound := hb _ (Value.ref (hp.objs.size + 1) :: us) I2.kIn len2
    rw [List.append_nil] at bound
    refine wpAny_call (PySem.HandSPX.call_own F.excBase_ValueError (fun Y => PySem.HandSPX.refsVE_contains Y bm hbm) (I1.kIn _ _ hC)
      (PySem.W.looks_findIn I1.kIn iC) (fun self => PySem.W.bind_fn I1.kIn self tI) usz ?_)
    refine codeAny_mono (F1.run _ X.stack _ _ ⟨Value.ref (hp.objs.size + 1) :: us, []⟩ _ _ _ (fun _ _ _ => False) (hr.make C us [])
      (I2.env0.make C us []) bound rel2 call) ?_
    intro r s' hr'
    match r, hr' with
    | .error er, z => exact hx pins σ _ _ er s' I2 z
    | .ok (.ret u), z =>
      obtain ⟨v, H2, I3, rv, ev, q2⟩ := I2.after z
      subst ev
      exact ⟨rv, ⟨V.ref (hp.objs.size + 1), H2, I3, rfl, q2⟩⟩
    | .ok .next, z => exact z.elim
    | .ok .brk, z => exact z.elim
    | .ok .cont, z => exact z.elim
end
end Gd

/-! Ge: the end of a law row over a def of the kind FnG. -/
namespace Gd
open PySem PySem.Spec PyProof.Rows L2

/-- what the law's call finds: an abstract heap that tracks the script at most, a base without it -/
structure Entry (P : Program) (w : World) (K : PySem.W.Frag) (mg : Str → Option Value) (s : Shared) (a : Addr) (ns : List Int)
    (H : Hp) (base : Heap) : Prop where
  only : Only H
  script : SqL K H a (ns.map V.int)
  kin : K.In base
  glob : base.Ns mainGlobals mg
  env : Env0 P w K mg base callerA [] s H
  old : ∀ (H' : Hp) (s' : Shared), Un [] [] H H' s.heap s'.heap → HOk P w H' s'.heap → PySem.OldK s.heap s'.heap

section
variable {P : Program} {w : World} {K : PySem.W.Frag} {mg mb : Str → Option Value} {s : Shared} {a : Addr} {vs : List Value} {ns : List Int}
theorem entry_of {H : Hp} (kin : K.In s.heap) (hns : s.heap.Ns mainGlobals mg) (hb : s.heap.Ns builtinsNs mb)
    (hbb : ∀ x : Str, x ≠ "__name__" → mb x = bootBuiltins x) (hlim : s.heap.NoLimit) (hg : s.gens = #[])
    (ha : s.heap.get? a = some { cls := .type "list", data := .seq vs.toArray })
    (o1 : Only H) (o2 : SqL K H a (ns.map V.int)) (o3 : HOk P w H s.heap) (o4 : ∀ b, H b ≠ none → b = a)
    (o5 : H a ≠ none → K.lookup a = none) : ∃ base, Entry P w K mg s a ns H base := by
  -- whatever isn't the script's own object is in the base
  have stays : ∀ {b : Addr} {o : Obj}, s.heap.get? b = some o → (b = a → H b = none) → (hidT s.heap H).get? b = some o := by
    intro b o e h
    refine hidT_get e ?_
    by_cases z : b = a
    · exact h z
    · exact Classical.byContradiction fun q => z (o4 b q)
  have ns_in : ∀ {b : Addr} {m : Str → Option Value}, s.heap.Ns b m → (hidT s.heap H).Ns b m := by
    rintro b m ⟨o, es, ep, e, d, r⟩
    refine ⟨o, es, ep, stays e fun z => ?_, d, r⟩
    rw [z, ha] at e
    rw [← Option.some.inj e] at d
    cases d
  have kin' : K.In (hidT s.heap H) := by
    intro b o e
    refine stays (kin b o e) fun z => Classical.byContradiction fun q => ?_
    rw [z] at q e
    rw [o5 q] at e
    cases e
  obtain ⟨mc, l1, l2⟩ := hlim
  refine ⟨hidT s.heap H, o1, o2, kin', ns_in hns, ?_, ?_⟩
  · refine ⟨rfl, ⟨kin', ns_in hns, ⟨mb, ns_in hb, hbb⟩, ⟨mc, ns_in l1, l2⟩⟩, fun b o e => of_hidT e, Nat.le_of_eq (hidT_size _ _), trivial, ?_, o3, .of_eq hg⟩
    intro b hm
    exact (List.not_mem_nil hm).elim
  · intro H' s' un ok'
    refine PySem.OldK.of_keep fun b o e => ?_
    cases q : H b with
    | none => exact un.keep b o e q List.not_mem_nil List.not_mem_nil
    | some u =>
      obtain z | ⟨ob, xs, z⟩ := o1 b
      · rw [q] at z
        cases z
      · obtain ⟨was, _⟩ := o3 b _ z
        obtain ⟨still, _⟩ := ok' b _ (un.frzs b ob _ z)
        rw [e] at was
        rw [Option.some.inj was]
        exact still

theorem entry_is (kin : K.In s.heap) (hns : s.heap.Ns mainGlobals mg) (hb : s.heap.Ns builtinsNs mb)
    (hbb : ∀ x : Str, x ≠ "__name__" → mb x = bootBuiltins x) (hlim : s.heap.NoLimit) (hg : s.gens = #[])
    (ha : s.heap.get? a = some { cls := .type "list", data := .seq vs.toArray })
    (hi : IntsAre vs ns) (hl : ns.length ≤ sizeLine) : ∃ H base, Entry P w K mg s a ns H base := by
  have rv := vals_ints hi
  have ln := hi.length
  cases hk : K.lookup a with
  | some o =>
    have e := kin a o hk
    rw [ha] at e
    cases e
    have sq : SqL K (fun _ => none) a (ns.map V.int) :=
      .inr ⟨_, vs.toArray, _, hk, rfl, rfl, rfl, by rw [List.size_toArray, ln]; exact hl, by simpa using rv⟩
    obtain ⟨base, E⟩ := entry_of (P := P) (w := w) kin hns hb hbb hlim hg ha (fun _ => .inl rfl) sq
      (fun b u z => by cases (show (none : Option HO) = some u from z)) (fun b z => absurd rfl z) fun z => absurd rfl z
    exact ⟨_, base, E⟩
  | none =>
    let H : Hp := fun b => if b = a then some (.frz { cls := .type "list", data := .seq vs.toArray } (.lst (ns.map V.int))) else none
    have at_a : H a = some (.frz { cls := .type "list", data := .seq vs.toArray } (.lst (ns.map V.int))) := if_pos rfl
    have off_a : ∀ {b}, b ≠ a → H b = none := fun z => if_neg z
    have ok : HOk P w H s.heap := by
      intro b u z
      by_cases q : b = a
      · subst q
        rw [at_a] at z
        cases z
        exact ⟨ha, by rw [List.length_map]; exact hl, vs, _, rv, ha⟩
      · rw [off_a q] at z
        cases z
    have on : Only H := by
      intro b
      by_cases q : b = a
      · subst q
        exact .inr ⟨_, _, at_a⟩
      · exact .inl (off_a q)
    obtain ⟨base, E⟩ := entry_of (P := P) (w := w) kin hns hb hbb hlim hg ha on (.inl (.inr ⟨_, at_a⟩)) ok
      (fun b z => Classical.byContradiction fun q => z (off_a q)) fun _ => hk
    exact ⟨H, base, E⟩
end

theorem walkG {l : PySem.W.OpenLaw} {n k : Nat} {q : Program} {loose : List Str} {XP : (Str → Option Value) → Heap → Prop}
    {YP : World → Heap → Prop} {d : DefRec} {K : Params → PySem.W.Frag} {sp : World → Sp} {x : Str}
    (hn : l.most = some n) (hn2 : n ≤ sizeLine) (hdf : d.params.defaults = []) (hr : Room k callerA)
    (hY : ∀ (w : World) (h : Heap), YP w h → (K w.params).In h)
    (F : ∀ (w : World) (mg : Str → Option Value) (fa : Addr) (h : Heap), (K w.params).In h → h.Ns mainGlobals mg → mg d.name = some (.ref fa) →
      ∃ fd : FuncData, (∀ (s : Shared) (u : Value), BindsTo s fd ⟨[u], []⟩ [(x, u)]) ∧
        ∀ base : Heap, (K w.params).In base → base.Ns mainGlobals mg → FnG l.prog w (K w.params) mg base CX0 k fa fd [x] (sp w))
    (hsp : ∀ (w : World) (H : Hp) (a : Addr) (ns : List Int), ns.length ≤ n → Only H → SqL (K w.params) H a (ns.map V.int) →
      sp w [.ref a] H (fun v _ => v = .bl true) fun _ _ _ => False) :
    PySem.W.WalkO q loose XP YP l.row.toRowW d [] (fun f vs => PySem.call f vs) := by
  refine Att.attach_call hn hdf ?_
  intro w s₀ s₁ mg mb fa o pm cd doc a vs ns G Y ho hd hcd hmg hobj hints hlen hgens
  have kin := hY w _ Y
  obtain ⟨fd, binds, all⟩ := F w mg fa _ kin G.T.g hmg
  obtain ⟨H, base, E⟩ := entry_is (P := l.prog) (w := w) kin G.T.g G.T.b G.T.builtins G.T.nolimit hgens hobj hints (Nat.le_trans hlen hn2)
  have run := (all base E.kin E.glob).go callerA [] s₁ H ⟨[.ref a], []⟩ [.ref a] [.ref a] _ _ rfl hr E.env (binds s₁ (.ref a)) (.cons rfl .nil)
    (hsp w H a ns hlen E.only E.script)
  refine codeAny_mono run ?_
  intro res s' hres
  match res, hres with
  | .ok (.ret u), ⟨v, H', os, bare, un, ok', rel, e⟩ =>
    subst e
    cases (show u = Value.bool true from rel)
    exact ⟨rfl, E.old H' s' un ok', os, bare⟩
end Gd

/-! Gr: repr of data, lists and tuples and dicts within one another. -/
namespace Gd
open PySem PySem.Spec PyProof.Rows L2
def kD : Key → PyData
  | .inl i => .int i
  | .inr x => .str x
mutual
/-- v is the data d, at the abstract heap -/
inductive Dq (K : PySem.W.Frag) (H : Hp) : V → PyData → Prop
  | non : Dq K H .non .none
  | bl (b : Bool) : Dq K H (.bl b) (.bool b)
  | int (i : Int) : Dq K H (.int i) (.int i)
  | str (x : Str) : Dq K H (.str x) (.str x)
  | lst {a : Addr} {xs : List V} {ds : List PyData} : SqL K H a xs → DqAll K H xs ds → Dq K H (.ref a) (.list ds)
  | tup {a : Addr} {xs : List V} {ds : List PyData} : SqT K H a xs → DqAll K H xs ds → Dq K H (.ref a) (.tuple ds)
  | dct {a : Addr} {kvs : List (Key × V)} {ds : List (PyData × PyData)} : Rd H a (.dK kvs) → DqKv K H kvs ds → Dq K H (.ref a) (.dict ds)
inductive DqAll (K : PySem.W.Frag) (H : Hp) : List V → List PyData → Prop
  | nil : DqAll K H [] []
  | cons {v : V} {vs : List V} {d : PyData} {ds : List PyData} : Dq K H v d → DqAll K H vs ds → DqAll K H (v :: vs) (d :: ds)
inductive DqKv (K : PySem.W.Frag) (H : Hp) : List (Key × V) → List (PyData × PyData) → Prop
  | nil : DqKv K H [] []
  | cons {k : Key} {v : V} {vs : List (Key × V)} {d : PyData} {ds : List (PyData × PyData)} : Dq K H v d → DqKv K H vs ds → DqKv K H ((k, v) :: vs) ((kD k, d) :: ds)
end

theorem ram_nil {h : Heap} {n : Nat} : ReadAtMost h n [] := fun b hb => (List.not_mem_nil hb).elim
/-- a value's own repr, and what it reads -/
structure Rp (prog : Program) (w : World) (h : Heap) (u : Value) (d : PyData) : Prop where
  reads : ∃ as, Reads h u d as
  repr : d.showable = true → d.shown.length ≤ sizeLine → ∃ bs, ReadAtMost h d.depth bs ∧ ReprK prog w bs h d.depth u d.shown
structure RpAll (prog : Program) (w : World) (h : Heap) (us : List Value) (ds : List PyData) : Prop where
  reads : ∃ as, ReadsAll h us ds as
  repr : PyData.showableAll ds = true → (∀ t ∈ PyData.shownAll ds, t.length ≤ sizeLine) →
    ∃ bs, ReadAtMost h (PyData.depthAll ds) bs ∧ ReprAllK prog w bs h (PyData.depthAll ds) us (PyData.shownAll ds)
section
variable {prog : Program} {w : World} {h : Heap}
theorem RpAll.nil : RpAll prog w h [] [] := ⟨⟨_, .nil⟩, fun _ _ => ⟨[], ram_nil, by simp only [PyData.shownAll]; exact .nil⟩⟩
theorem RpAll.cons {u : Value} {d : PyData} {us : List Value} {ds : List PyData} (a : Rp prog w h u d) (b : RpAll prog w h us ds) : RpAll prog w h (u :: us) (d :: ds) where
  reads := by
    obtain ⟨as, r⟩ := a.reads
    obtain ⟨bs, rs⟩ := b.reads
    exact ⟨_, .cons r rs⟩
  repr := by
    intro hs hz
    obtain ⟨s1, s2⟩ : d.showable = true ∧ PyData.showableAll ds = true := by simpa [PyData.showableAll] using hs
    obtain ⟨b1, m1, k1⟩ := a.repr s1 (hz _ (by simp only [PyData.shownAll]; exact List.mem_cons_self ..))
    obtain ⟨b2, m2, k2⟩ := b.repr s2 fun t ht => hz t (by simp only [PyData.shownAll]; exact List.mem_cons_of_mem _ ht)
    refine ⟨b1 ++ b2, ?_, ?_⟩
    · simp only [PyData.depthAll]
      exact (m1.mono (Nat.le_max_left _ _)).append (m2.mono (Nat.le_max_right _ _))
    · simp only [PyData.depthAll, PyData.shownAll]
      have sub1 : ∀ c ∈ b1, c ∈ b1 ++ b2 := fun c hc => List.mem_append_left _ hc
      have sub2 : ∀ c ∈ b2, c ∈ b1 ++ b2 := fun c hc => List.mem_append_right _ hc
      exact .cons ((k1.more sub1).level_le (Nat.le_max_left _ _)) (k2.more_le sub2 (Nat.le_max_right _ _))
theorem Rp.list {a : Addr} {o : Obj} {us : List Value} {n : Nat} {ds : List PyData} (ho : h.get? a = some o) (hc : o.cls = .type "list") (hd : o.data = .seq us.toArray n) (all : RpAll prog w h us ds) : Rp prog w h (.ref a) (.list ds) := by
  obtain ⟨as, rs⟩ := all.reads
  have r : Reads h (.ref a) (.list ds) _ := .list ho hc hd rs
  refine ⟨⟨_, r⟩, fun hs hz => ?_⟩
  have hz' : (listText (PyData.shownAll ds)).length ≤ sizeLine := by simpa only [PyData.shown] using hz
  obtain ⟨bs, m, k⟩ := all.repr (by simpa [PyData.showable] using hs) fun t ht => Nat.le_trans (listText_mem_le ht) hz'
  have deep : PyData.depthAll ds < PyData.depth (.list ds) := by simp only [PyData.depth]; omega
  have off : a ∉ bs := not_mem_of_deeper r deep m
  refine ⟨a :: bs, ReadAtMost.cons r (Nat.le_of_lt deep) m, ?_⟩
  simp only [PyData.depth, PyData.shown]
  cases us with
  | nil =>
    cases rs
    simp only [PyData.shownAll, listText_nil]
    exact ReprK.listEmpty ho hc hd
  | cons u us => exact ReprK.list ho hc hd off (by simpa using k.length_eq) fun i y e => k.item i y (by simpa using e)
theorem Rp.tuple {a : Addr} {o : Obj} {us : List Value} {n : Nat} {ds : List PyData} (ho : h.get? a = some o) (hc : o.cls = .type "tuple") (hd : o.data = .seq us.toArray n) (all : RpAll prog w h us ds) : Rp prog w h (.ref a) (.tuple ds) := by
  obtain ⟨as, rs⟩ := all.reads
  have r : Reads h (.ref a) (.tuple ds) _ := .tuple ho hc hd rs
  refine ⟨⟨_, r⟩, fun hs hz => ?_⟩
  have hz' : (tupleText (PyData.shownAll ds)).length ≤ sizeLine := by simpa only [PyData.shown] using hz
  obtain ⟨bs, m, k⟩ := all.repr (by simpa [PyData.showable] using hs) fun t ht => Nat.le_trans (tupleText_mem_le ht) hz'
  have deep : PyData.depthAll ds < PyData.depth (.tuple ds) := by simp only [PyData.depth]; omega
  refine ⟨a :: bs, ReadAtMost.cons r (Nat.le_of_lt deep) m, ?_⟩
  simp only [PyData.depth, PyData.shown]
  exact ReprK.tuple ho hc hd (not_mem_of_deeper r deep m) k
theorem Rp.dict {a : Addr} {o : Obj} {es : Array DictEntry} {n : Nat} {ds : List (PyData × PyData)} (ho : h.get? a = some o) (hc : o.cls = .type "dict") (hd : o.data = .dict es n) (low : (a == sysModules) = false)
    (ks : RpAll prog w h (es.toList.map (·.key)) (ds.map (·.1))) (vs : RpAll prog w h (es.toList.map (·.val)) (ds.map (·.2))) : Rp prog w h (.ref a) (.dict ds) := by
  obtain ⟨as, r1⟩ := ks.reads
  obtain ⟨bs, r2⟩ := vs.reads
  have r : Reads h (.ref a) (.dict ds) _ := .dict ho hc hd r1 r2
  refine ⟨⟨_, r⟩, fun hs hz => ?_⟩
  have hz' : (dictText (PyData.shownKv ds)).length ≤ sizeLine := by simpa only [PyData.shown] using hz
  obtain ⟨s1, s2⟩ := PyData.showableKv_split ds (by simpa [PyData.showable] using hs)
  obtain ⟨b1, m1, k1⟩ := ks.repr s1 fun t ht => by
    obtain ⟨p, hp, hl⟩ := PyData.shownKv_key_le ds t ht
    exact Nat.le_trans hl (Nat.le_trans (dictText_mem_le hp) hz')
  obtain ⟨b2, m2, k2⟩ := vs.repr s2 fun t ht => by
    obtain ⟨p, hp, hl⟩ := PyData.shownKv_val_le ds t ht
    exact Nat.le_trans hl (Nat.le_trans (dictText_mem_le hp) hz')
  have deep : PyData.depthKv ds < PyData.depth (.dict ds) := by simp only [PyData.depth]; omega
  have m := (m1.mono (PyData.depthAll_keys_le ds)).append (m2.mono (PyData.depthAll_vals_le ds))
  refine ⟨a :: (b1 ++ b2), ReadAtMost.cons r (Nat.le_of_lt deep) m, ?_⟩
  simp only [PyData.depth, PyData.shown, PyData.shownKv_eq]
  have sub1 : ∀ c ∈ b1, c ∈ b1 ++ b2 := fun c hc => List.mem_append_left _ hc
  have sub2 : ∀ c ∈ b2, c ∈ b1 ++ b2 := fun c hc => List.mem_append_right _ hc
  exact ReprK.dict ho hc hd low (not_mem_of_deeper r deep m) (ReprEntriesK.of_two es.toList _ _ (k1.more_le sub1 (PyData.depthAll_keys_le ds)) (k2.more_le sub2 (PyData.depthAll_vals_le ds)))
theorem Rp.int (i : Int) (t : Tok) : Rp prog w h (.int i t) (.int i) :=
  ⟨⟨_, .int i t⟩, fun hs _ => ⟨[], ram_nil, by simp only [PyData.shown]; exact .of_is (ReprIs.int t (by simpa [PyData.showable] using hs)) _ _ _⟩⟩
theorem Rp.str (x : Str) (t : Tok) : Rp prog w h (.str x t) (.str x) :=
  ⟨⟨_, .str x t⟩, fun _ hz => ⟨[], ram_nil, by simp only [PyData.shown]; exact .of_is (ReprIs.str x t (by simpa only [PyData.shown] using hz)) _ _ _⟩⟩
theorem Rp.bool (b : Bool) : Rp prog w h (.bool b) (.bool b) :=
  ⟨⟨_, .bool b⟩, fun _ _ => ⟨[], ram_nil, by simp only [PyData.shown]; exact .of_is (ReprIs.bool b) _ _ _⟩⟩
theorem Rp.none : Rp prog w h .none .none :=
  ⟨⟨_, .none⟩, fun _ _ => ⟨[], ram_nil, by simp only [PyData.shown]; exact .of_is ReprIs.none _ _ _⟩⟩
end
section
variable {X : Cx} {pins : List (Addr × Obj)} {σ : L2.St} {H : Hp} {s : Shared}
theorem key_rp {prog : Program} {w : World} {h : Heap} {k : Key} {u : Value} (e : keyIs k u = true) : Rp prog w h u (kD k) := by
  rcases keyIs_shape e with ⟨i, t, rfl, rfl⟩ | ⟨x, t, rfl, rfl⟩
  · exact Rp.int i t
  · exact Rp.str x t
mutual
theorem Dq.rp (I : Inv X pins σ H s) : ∀ (d : PyData) (v : V) (u : Value), Dq X.K H v d → RelV v u → Rp X.prog X.w s.heap u d
  | .none, _, _, h, r => by cases h; cases r; exact Rp.none
  | .bool b, _, _, h, r => by cases h; cases r; exact Rp.bool b
  | .int i, _, _, h, r => by cases h; obtain ⟨t, rfl⟩ := r; exact Rp.int i t
  | .str x, _, _, h, r => by cases h; obtain ⟨t, rfl⟩ := r; exact Rp.str x t
  | .list ds, _, _, h, r => by
    cases h with
    | lst hs ha =>
      cases r
      obtain ⟨its, rv, ⟨o, n, ho, hc, _, hd⟩, _⟩ := I.list hs
      exact Rp.list ho hc hd (DqAll.rp I ds _ its ha rv)
  | .tuple ds, _, _, h, r => by
    cases h with
    | tup hs ha =>
      cases r
      obtain ⟨its, rv, ⟨o, ho, hc, n, hd⟩, _⟩ := I.tuple hs
      exact Rp.tuple ho hc hd (DqAll.rp I ds _ its ha rv)
  | .dict ds, _, _, h, r => by
    cases h with
    | dct hs ha =>
      cases r
      obtain ⟨_, low, vs, kv, o, es, ep, ho, hx, hd, _, hp, _⟩ := dk_rd I.hok hs
      obtain ⟨k1, k2⟩ := DqKv.rp I ds _ vs es.toList ha kv hp
      exact Rp.dict ho hx.1 hd low k1 k2
theorem DqAll.rp (I : Inv X pins σ H s) : ∀ (ds : List PyData) (vs : List V) (us : List Value), DqAll X.K H vs ds → Vals vs us → RpAll X.prog X.w s.heap us ds
  | [], _, _, h, r => by cases h; cases r; exact RpAll.nil
  | d :: ds, _, _, h, r => by
    cases h with
    | cons h1 h2 =>
      cases r with
      | cons r1 r2 => exact RpAll.cons (Dq.rp I d _ _ h1 r1) (DqAll.rp I ds _ _ h2 r2)
theorem DqKv.rp (I : Inv X pins σ H s) : ∀ (ds : List (PyData × PyData)) (kvs : List (Key × V)) (vs : List (Key × Value)) (es : List DictEntry), DqKv X.K H kvs ds → KV kvs vs → Pairs (mixKind X.prog X.w) es vs →
    RpAll X.prog X.w s.heap (es.map (·.key)) (ds.map (·.1)) ∧ RpAll X.prog X.w s.heap (es.map (·.val)) (ds.map (·.2))
  | [], _, _, _, h, r, p => by cases h; cases r; cases p; exact ⟨RpAll.nil, RpAll.nil⟩
  | (dk, d) :: ds, _, _, _, h, r, p => by
    cases h with
    | cons h1 h2 =>
      cases r with
      | cons r1 r2 =>
        obtain ⟨r0, r1⟩ := r1
        cases p with
        | cons hk hv ht =>
          obtain ⟨a, b⟩ := DqKv.rp I ds _ _ _ h2 r2 ht
          simp only at r0 r1
          subst r0
          exact ⟨RpAll.cons (key_rp hk) a, RpAll.cons (Dq.rp I d _ _ h1 (by rw [← hv] at r1; exact r1)) b⟩
end
end
/-- repr(x) of data -/
def rReprQ (K : PySem.W.Frag) : List V → Hp → VK → Prop := fun xs H Q => ∃ x d, xs = [x] ∧ Dq K H x d ∧
  d.showable = true ∧ d.depth ≤ 60 ∧ d.shown.length ≤ sizeLine ∧ Q (.str d.shown) H
theorem call_reprQ {X : Cx} (hgd : X.A.guards = some []) (hu : X.A.units + 64 < cLine) : CallR X (.builtin "repr") (rReprQ X.K) := by
  intro pins s σ H xs us Q I rel h
  obtain ⟨x, d, rfl, dq, sh, hd, hz, q⟩ := h
  cases rel with
  | cons rx rt =>
    cases rt
    rename_i u
    cases dq with
    | non =>
      cases rx
      exact PySem.P.repr_of_none ⟨.str _, H, I.tok _, ⟨_, rfl⟩, q⟩
    | bl b =>
      cases rx
      exact PySem.P.repr_of_bool ⟨.str _, H, I.tok _, ⟨_, rfl⟩, q⟩
    | int i =>
      obtain ⟨t, rfl⟩ := rx
      exact PySem.P.repr_of_int (by simpa [PyData.showable] using sh) ⟨.str _, H, I.tok _, ⟨_, rfl⟩, q⟩
    | str z =>
      obtain ⟨t, rfl⟩ := rx
      exact PySem.P.repr_of_str ⟨.str _, H, I.tok _, ⟨_, rfl⟩, q⟩ (by simpa only [PyData.shown] using hz)
    | lst hs ha =>
      cases rx
      rename_i a zs ds
      obtain ⟨its, rv, ⟨o, n, ho, hc, _, hdt⟩, _⟩ := I.list hs
      have all := DqAll.rp I ds _ its ha rv
      obtain ⟨as, rs⟩ := all.reads
      have r : Reads s.heap (.ref a) (.list ds) _ := .list ho hc hdt rs
      have hz' : (listText (PyData.shownAll ds)).length ≤ sizeLine := by simpa only [PyData.shown] using hz
      obtain ⟨bs, m, k⟩ := all.repr (by simpa [PyData.showable] using sh) fun t ht => Nat.le_trans (listText_mem_le ht) hz'
      have deep : PyData.depthAll ds < PyData.depth (.list ds) := by simp only [PyData.depth]; omega
      refine call_repr_slot (by omega) ⟨o, ho, hc⟩ F.slot_list_repr.toG ?_
      cases its with
      | nil =>
        cases rs
        refine call_list_repr_empty ⟨o, ho, hc⟩ ho hdt ?_
        exact ⟨_, _, rfl, .str _, H, I.tok _, ⟨_, rfl⟩, by simpa only [PyData.shown, PyData.shownAll, listText_nil] using q⟩
      | cons u0 us0 =>
        refine call_list_reprK ho hc hdt (not_mem_of_deeper r deep m) (by simpa using k.length_eq) (fun i y e => k.item i y (by simpa using e)) hgd (fun b _ => Clear.nil b) (by show X.A.units + 1 + _ < cLine; omega) (fun _ _ e => e) (fun h' t tk kk => ?_) hz'
        exact ⟨_, _, rfl, .str _, H, I.kept kk, ⟨_, rfl⟩, by simpa only [PyData.shown] using q⟩
    | tup hs ha =>
      cases rx
      rename_i a zs ds
      obtain ⟨its, rv, ⟨o, ho, hc, n, hdt⟩, _⟩ := I.tuple hs
      have all := DqAll.rp I ds _ its ha rv
      obtain ⟨as, rs⟩ := all.reads
      have r : Reads s.heap (.ref a) (.tuple ds) _ := .tuple ho hc hdt rs
      have hz' : (tupleText (PyData.shownAll ds)).length ≤ sizeLine := by simpa only [PyData.shown] using hz
      obtain ⟨bs, m, k⟩ := all.repr (by simpa [PyData.showable] using sh) fun t ht => Nat.le_trans (tupleText_mem_le ht) hz'
      have deep : PyData.depthAll ds < PyData.depth (.tuple ds) := by simp only [PyData.depth]; omega
      refine call_repr_slot (by omega) ⟨o, ho, hc⟩ F.slot_tuple_repr ?_
      refine call_tuple_reprK ho hc hdt (not_mem_of_deeper r deep m) k hgd (fun b _ => Clear.nil b) (by show X.A.units + 1 + _ < cLine; omega) (fun _ _ e => e) (fun h' t tk kk => ?_) hz'
      exact ⟨_, _, rfl, .str _, H, I.kept kk, ⟨_, rfl⟩, by simpa only [PyData.shown] using q⟩
    | dct hs ha =>
      cases rx
      rename_i a kvs ds
      obtain ⟨_, low, vs, kv, o, es, ep, ho, hx, hdt, _, hp, _⟩ := dk_rd I.hok hs
      obtain ⟨ks, vals⟩ := DqKv.rp I ds _ vs es.toList ha kv hp
      obtain ⟨as, r1⟩ := ks.reads
      obtain ⟨bs, r2⟩ := vals.reads
      have r : Reads s.heap (.ref a) (.dict ds) _ := .dict ho hx.1 hdt r1 r2
      have hz' : (dictText (PyData.shownKv ds)).length ≤ sizeLine := by simpa only [PyData.shown] using hz
      obtain ⟨s1, s2⟩ := PyData.showableKv_split ds (by simpa [PyData.showable] using sh)
      obtain ⟨b1, m1, k1⟩ := ks.repr s1 fun t ht => by
        obtain ⟨p, hp, hl⟩ := PyData.shownKv_key_le ds t ht
        exact Nat.le_trans hl (Nat.le_trans (dictText_mem_le hp) hz')
      obtain ⟨b2, m2, k2⟩ := vals.repr s2 fun t ht => by
        obtain ⟨p, hp, hl⟩ := PyData.shownKv_val_le ds t ht
        exact Nat.le_trans hl (Nat.le_trans (dictText_mem_le hp) hz')
      have deep : PyData.depthKv ds < PyData.depth (.dict ds) := by simp only [PyData.depth]; omega
      have m := (m1.mono (PyData.depthAll_keys_le ds)).append (m2.mono (PyData.depthAll_vals_le ds))
      have sub1 : ∀ c ∈ b1, c ∈ b1 ++ b2 := fun c hc => List.mem_append_left _ hc
      have sub2 : ∀ c ∈ b2, c ∈ b1 ++ b2 := fun c hc => List.mem_append_right _ hc
      refine call_repr_slot (by omega) ⟨o, ho, hx.1⟩ F.slot_dict_repr ?_
      refine call_dict_reprK ho hx.1 hdt low (not_mem_of_deeper r deep m) (ReprEntriesK.of_two es.toList _ _ (k1.more_le sub1 (PyData.depthAll_keys_le ds)) (k2.more_le sub2 (PyData.depthAll_vals_le ds)))
        hgd (fun b _ => Clear.nil b) (by show X.A.units + 1 + _ < cLine; omega) (fun _ _ e => e) (fun h' t tk kk => ?_) (by rw [← PyData.shownKv_eq]; exact hz')
      exact ⟨_, _, rfl, .str _, H, I.kept kk, ⟨_, rfl⟩, by simpa only [PyData.shown, PyData.shownKv_eq] using q⟩
end Gd

/-! Lw: several clauses `except .. as n`; the end of a law row that makes lambdas, where no guard stands around. -/
namespace Gd
open PySem PySem.Spec PyProof.Rows L2

/-! ### several clauses, each with the name at slot i -/
abbrev Clause := Value × (Addr → Value → Option Addr → TS)
/-- behind the suite the name is gone -/
def offE (i : Nat) (D : Ends) : Ends :=
  { nx := fun σ H => D.nx (σ.set i none) H, rt := D.rt, bk := fun σ H => D.bk (σ.set i none) H, ct := fun σ H => D.ct (σ.set i none) H }
def wAll (K : PySem.W.Frag) (n i : Nat) (W : WX) (D : Ends) : List Clause → WX
  | [] => W
  | (c, ts) :: r => fun cls d σ H => ∃ b, PySem.W.exmOne K cls c = some b ∧
      (b = true → σ.length = n → ∀ a, H a = none → ts a cls d (offE i D) (σ.set i (some (.ref a))) H) ∧ (b = false → wAll K n i W D r cls d σ H)
inductive Clauses (X : Cx) (n : Str) : List ExceptHandler → List Clause → Prop
  | nil : Clauses X n [] []
  | cons {x : Str} {c : Value} {ts : Addr → Value → Option Addr → TS} {st : Stmt} {sts : List Stmt} {p1 p2 : Pos}
      {hds : List ExceptHandler} {l : List Clause} (nm : Names X x c)
      (su : ∀ (a : Addr) (oe : Obj) (cls : Value) (d : Option Addr) (pn : List (Addr × Obj)), Zc cls d oe →
        (∃ vs, oe.data = .fields vs) → PSs (X.suite a ((a, oe) :: pn)) (st :: sts) (ts a cls d))
      (rest : Clauses X n hds l) : Clauses X n (.ExceptHandler (some (.Name x p1)) (some n) (st :: sts) p2 :: hds) ((c, ts) :: l)

section
variable {X : Cx} {n : Str} {i : Nat} {body : List Stmt} {h₀ : ExceptHandler} {hds : List ExceptHandler} {l : List Clause} {pos : Pos} {tb : WX → TS} {W : WX}
theorem ps_tryAll (stk : X.stack = X.env :: X.outer) (frm : X.env.frame = some X.env.locals) (nd : X.N.Nodup) (at_ : X.N[i]? = some n)
    (loc : X.env.kindOf n = some .local) (tk : Takes X W)
    (hb : ∀ (V : WX) (pn : List (Addr × Obj)) (xe : Value → Shared → Prop), Takes (X.tr pn xe) V → PassesOwn (model X.prog X.w) X.A X.env xe →
      PSs (X.tr pn xe) body (tb V)) (hh : Clauses X n (h₀ :: hds) l) :
    PS X (.Try body (h₀ :: hds) [] [] pos) (fun D σ H => tb (wAll X.K X.N.length i W D l) D σ H) where
  run := by
    intro pins s σ H D I h
    have ok := I.ok
    have frames : X.A.frames = some (X.env :: X.outer) := by rw [ok.frames, stk]
    have isLoc : Loc X.env.scope n := .inl loc
    refine wpAny_Try_except (wpAny_mono ((hb (wAll X.K X.N.length i W D l) (X.pn ++ pins)
      (fun e s₁ => wpAny (model X.prog X.w) X.A (noteFrame e X.env)
        (fun _ s₂ => wpAny (model X.prog X.w) X.A (setFlight e none)
          (fun _ s₃ => wpAny (model X.prog X.w) X.A (handleBy e X.env (h₀ :: hds)) (SP X pins D) X.xe s₃) X.xe s₂) X.xe s₁)
      ?caught PassesOwn.looking).run [] s σ H D (I.toTry _) h) ?through fun _ _ z => z)
    case through =>
      intro f s1 q
      match f, q with
      | .next, ⟨σ', H', J, q⟩ => exact wpAny_execs_nil ⟨σ', H', J.ofTry ok, q⟩
      | .brk, ⟨σ', H', J, q⟩ => exact ⟨σ', H', J.ofTry ok, q⟩
      | .cont, ⟨σ', H', J, q⟩ => exact ⟨σ', H', J.ofTry ok, q⟩
      | .ret u, ⟨v, σ', H', J, r, q⟩ => exact ⟨v, σ', H', J.ofTry ok, r, q⟩
    case caught =>
      rintro u s' ⟨a, B, sI, pins', σ', H', cls, d, rfl, J0, nb, up, sky, na, os, ag, w⟩
      have J : Inv X pins σ' H' sI := J0.ofTry ok
      have sk : Sky B (X.env :: X.outer) a (Zc cls d) X.env.locals s'.heap := stk ▸ sky
      show wpAny (model X.prog X.w) X.A (noteFrame (.ref a) X.env) _ _ _
      refine Sky.land Zc.steady frames frm sk ?_
      intro hp fl up2
      have landed : Inv X pins σ' H' { s' with heap := hp } := J.landed nb fl.1 (up.trans up2) os ag
      obtain ⟨ob, vs, atA, zc, dat⟩ := fl.there
      have noFrame : a ∉ frs (X.env :: X.outer) := by
        intro hm
        obtain ⟨_, o', e', no⟩ := fl.2.2.1.mem hm
        rw [atA] at e'
        cases e'
        exact no _ dat
      have neL : a ≠ X.env.locals := fun z => noFrame (List.mem_filterMap.mpr ⟨X.env, List.mem_cons_self, by rw [frm, z]⟩)
      have neF : a ∉ X.fs := by
        intro hm
        obtain ⟨e, he, q⟩ := List.mem_filterMap.mp hm
        exact noFrame (List.mem_filterMap.mpr ⟨e, List.mem_cons_of_mem _ he, q⟩)
      have inSuite := landed.suite atA dat na neL neF
      have go : ∀ {hs : List ExceptHandler} {ls : List Clause}, Clauses X n hs ls → wAll X.K X.N.length i W D ls cls d σ' H' →
          wpAny (model X.prog X.w) X.A (handleBy (.ref a) X.env hs) (SP X pins D) X.xe { s' with heap := hp } := by
        intro hs ls k
        induction k with
        | nil =>
          intro w
          refine wpAny_handleBy_nil ?_
          obtain ⟨_, _, _, oe, vs2, T, oT, ts', he, hz, hd, h1, _⟩ := id fl
          unfold PySem.passOn
          refine wpAny_bind (wpAny_field he hd h1 ?_)
          have ref : ¬ ((Value.ref T == Value.none) = true) := by simp
          rw [if_neg ref]
          have fin : wpAny (model X.prog X.w) X.A (setFlight (.ref a) X.env.frame)
              (fun _ s4 => wpAny (model X.prog X.w) X.A (throw (.ref a) : Sem Flow) (SP X pins D) X.xe s4) X.xe { s' with heap := hp } := by
            rw [frm]
            refine HandSPX.setFlight_upZ fl fun h4 hh4 up4 => wpAny_throw (tk _ _ ?_)
            exact ⟨a, B, sI, pins, σ', H', cls, d, rfl, J, nb, (up.trans up2).trans up4, .inr (.inr (stk ▸ hh4)), na, os, ag, w⟩
          first
            | exact wpAny_bind (wpAny_pure (wpAny_bind fin))
            | exact wpAny_bind fin
        | @cons x c ts st sts p1 p2 hds2 l2 nm su rest ih =>
          rintro ⟨b, hb1, yes, no⟩
          refine wpAny_handleBy_cons (codeAny_handlers_test ?_) (fun q => by cases q)
          have typ : PySem.W.Looks (model X.prog X.w) hp (typeOf (.ref a)) cls :=
            fun A Q E s k q => wpAny_typeOf_ref (k _ _ atA) (by rw [zc.1]; exact q)
          have fits := PySem.W.exm_one (M := model X.prog X.w) (landed.kIn) typ hb1
          have named : ∀ {Q : Value → Shared → Prop} {E : Value → Shared → Prop}, Q c { s' with heap := hp } →
              wpAny (model X.prog X.w) (X.A.mark (some (.ref a))) (eval (.Name x p1) X.env) Q E { s' with heap := hp } := by
            intro Q E q
            obtain ⟨hg, dbg, hm | ⟨hm, hv, hn⟩⟩ := nm
            · exact ld_glob (X := X.suite a ((a, ob) :: (X.pn ++ pins))) inSuite hg hm q dbg
            · exact ld_blt (X := X.suite a ((a, ob) :: (X.pn ++ pins))) inSuite hg hm hv q hn dbg
          refine named (fits.here ?_)
          cases b with
          | false =>
            show wpAny _ X.A (handleBy (.ref a) X.env hds2) _ _ _
            exact ih (no rfl)
          | true =>
            refine codeAny_handlers_suite_as (HandSPX.lands_againZ fl ?_)
            intro h4 fl4 up4
            have land4 : Inv X pins σ' H' { s' with heap := h4 } := J.landed nb fl4.1 ((up.trans up2).trans up4) os ag
            obtain ⟨ob4, vs4, at4, z4, d4⟩ := fl4.there
            have in4 := land4.suite at4 d4 na neL neF
            refine store_ok (X := X.suite a ((a, ob4) :: (X.pn ++ pins))) (v := .ref a) in4 nd at_ isLoc rfl ?_ (.inr loc)
            intro s5 S5
            refine wpAny_mono ((su a ob4 cls d (X.pn ++ pins) z4 ⟨_, d4⟩).run [] s5 _ H' _ S5 (yes rfl J.len a na)) ?_ fun _ _ z => z.elim
            intro f s6 q
            have over : ∀ {σ6 : L2.St} {H6 : Hp} {Q : Shared → Prop}, Inv (X.suite a ((a, ob4) :: (X.pn ++ pins))) [] σ6 H6 s6 →
                (∀ s7, Inv X pins (σ6.set i none) H6 s7 → Q s7) →
                wpAny (model X.prog X.w) X.A (do bindName X.env n .none; unbindBehindTheSuite X.env n p2) (fun _ s7 => Q s7) X.xe s6 :=
              fun S q => gone_ok (S.unsuite ok) nd at_ loc q
            match f, q with
            | .next, ⟨σ6, H6, S6, q6⟩ => exact over S6 fun s7 J7 => ⟨_, _, J7, q6⟩
            | .brk, ⟨σ6, H6, S6, q6⟩ => exact over S6 fun s7 J7 => ⟨_, _, J7, q6⟩
            | .cont, ⟨σ6, H6, S6, q6⟩ => exact over S6 fun s7 J7 => ⟨_, _, J7, q6⟩
            | .ret u, ⟨v6, σ6, H6, S6, r6, q6⟩ => exact over S6 fun s7 J7 => ⟨_, _, _, J7, r6, q6⟩
      exact go hh w
end

/-! ### the law's end, the tables of its makers' code objects tracked -/
open LamX in
/-- what the law's call finds -/
structure EntryT (P : Program) (w : World) (K : PySem.W.Frag) (mg : Str → Option Value) (s : Shared) (a : Addr) (ns : List Int)
    (cs : List (Addr × Addr)) (H : Hp) (base : Heap) : Prop where
  tabs : ∀ p ∈ cs, H p.2 = some (.tbl #[])
  script : SqL K H a (ns.map V.int)
  kin : K.In base
  glob : base.Ns mainGlobals mg
  env : Env0 P w K mg base callerA [] s H
  bs : ∀ p ∈ cs, TabB base mg p.1 p.2
  old : ∀ (H' : Hp) (s' : Shared), Un [] [] H H' s.heap s'.heap → HOk P w H' s'.heap → PySem.OldK s.heap s'.heap

section
variable {P : Program} {w : World} {K : PySem.W.Frag} {mg mb : Str → Option Value} {s : Shared} {a : Addr} {vs : List Value} {ns : List Int} {cs : List (Addr × Addr)}
open LamX in
theorem entryT_of {H : Hp} (kin : K.In s.heap) (hns : s.heap.Ns mainGlobals mg) (hb : s.heap.Ns builtinsNs mb)
    (hbb : ∀ x : Str, x ≠ "__name__" → mb x = bootBuiltins x) (hlim : s.heap.NoLimit) (hg : s.gens = #[])
    (bmain : ∃ (bm : Addr) (ob : Obj), mg "__builtins__" = some (.ref bm) ∧ bm ≠ builtinsNs ∧ s.heap.get? bm = some ob ∧
      ob.cls = .type "module" ∧ ob.dict = some builtinsNs ∧ ob.data = .plain)
    (tabs : ∀ p ∈ cs, s.heap.get? p.2 = some { cls := .none, data := .fields #[] }) (noK : ∀ p ∈ cs, K.lookup p.2 = none)
    (heads : ∀ p ∈ cs, PySem.W.CodeHd s.heap p.1 p.2)
    (ha : s.heap.get? a = some { cls := .type "list", data := .seq vs.toArray })
    (o0 : ∀ p ∈ cs, H p.2 = some (.tbl #[])) (o1 : ∀ b, H b = none ∨ (∃ p ∈ cs, p.2 = b) ∨ ∃ o xs, H b = some (.frz o (.lst xs)))
    (o2 : SqL K H a (ns.map V.int)) (o3 : HOk P w H s.heap) (o4 : ∀ b, H b ≠ none → b = a ∨ ∃ p ∈ cs, p.2 = b)
    (o5 : H a ≠ none → K.lookup a = none) : ∃ base, EntryT P w K mg s a ns cs H base := by
  -- an object that is neither a sequence nor an empty record is in the base
  have stays : ∀ {b : Addr} {o : Obj}, s.heap.get? b = some o → (b = a → H b = none) → o.data ≠ .fields #[] → (hidT s.heap H).get? b = some o := by
    intro b o e h no
    refine hidT_get e (Classical.byContradiction fun q => ?_)
    obtain z | ⟨p, hp, z⟩ := o4 b q
    · exact q (h z)
    · have t := tabs p hp
      rw [z, e] at t
      rw [Option.some.inj t] at no
      exact no rfl
  have other : ∀ {b : Addr} {o : Obj}, s.heap.get? b = some o → (∀ xs n, o.data ≠ .seq xs n) → o.data ≠ .fields #[] → (hidT s.heap H).get? b = some o := by
    intro b o e nos nof
    refine stays e (fun z => ?_) nof
    rw [z, ha] at e
    rw [← Option.some.inj e] at nos
    exact (nos _ _ rfl).elim
  have ns_in : ∀ {b : Addr} {m : Str → Option Value}, s.heap.Ns b m → (hidT s.heap H).Ns b m := by
    rintro b m ⟨o, es, ep, e, d, r⟩
    refine ⟨o, es, ep, other e (fun xs n z => ?_) (fun z => ?_), d, r⟩
    · rw [d] at z
      cases z
    · rw [d] at z
      cases z
  have kin' : K.In (hidT s.heap H) := by
    intro b o e
    refine hidT_get (kin b o e) (Classical.byContradiction fun q => ?_)
    obtain z | ⟨p, hp, z⟩ := o4 b q
    · rw [z] at q e
      rw [o5 q] at e
      cases e
    · rw [← z, noK p hp] at e
      cases e
  have noPlain : ∀ {o : Obj}, o.data = .plain → (∀ xs n, o.data ≠ .seq xs n) ∧ o.data ≠ .fields #[] := by
    intro o d
    rw [d]
    refine ⟨fun xs n z => ?_, fun z => ?_⟩ <;> cases z
  obtain ⟨mc, l1, l2⟩ := hlim
  refine ⟨hidT s.heap H, o0, o2, kin', ns_in hns, ?_, ?_, ?_⟩
  · refine ⟨rfl, ⟨kin', ns_in hns, ⟨mb, ns_in hb, hbb⟩, ⟨mc, ns_in l1, l2⟩⟩, fun b o e => of_hidT e, Nat.le_of_eq (hidT_size _ _), trivial, ?_, o3, .of_eq hg⟩
    intro b hm
    exact (List.not_mem_nil hm).elim
  · intro p hp
    refine ⟨?_, ?_, ?_⟩
    · obtain ⟨o, us, file, tf, flags, tg, inF, text, tt, e1, r1, r2, r3, rest⟩ := heads p hp
      refine ⟨o, us, file, tf, flags, tg, inF, text, tt, other e1 (fun xs n z => ?_) (fun z => ?_), r1, r2, r3, rest⟩
      · rw [r2] at z
        cases z
      · rw [r2] at z
        cases z
        simp at r3
    · obtain ⟨bm, ob, b1, b2, b3, b4, b5, b6⟩ := bmain
      refine ⟨bm, ob, b1, b2, fun z => ?_, fun z => ?_, other b3 (noPlain b6).1 (noPlain b6).2, b4, b5, b6⟩
      · obtain ⟨o, es, ep, e, d, _⟩ := hns
        rw [z, e] at b3
        rw [← Option.some.inj b3, d] at b6
        cases b6
      · rw [z, tabs p hp] at b3
        rw [← Option.some.inj b3] at b6
        cases b6
    · intro z
      obtain ⟨o, es, ep, e, d, _⟩ := hns
      rw [z, tabs p hp] at e
      rw [← Option.some.inj e] at d
      cases d
  · intro H' s' un ok'
    have grown : ∀ p ∈ cs, ∃ more : Array Value, s'.heap.get? p.2 = some { cls := .none, data := .fields more } := by
      intro p hp
      obtain ⟨more, z⟩ := un.tbls p.2 #[] (o0 p hp)
      exact ⟨_, ok' p.2 _ z⟩
    have key : ∀ b o, (∀ p ∈ cs, p.2 ≠ b) → s.heap.get? b = some o → s'.heap.get? b = some o := by
      intro b o nb e
      cases q : H b with
      | none => exact un.keep b o e q List.not_mem_nil List.not_mem_nil
      | some u =>
        obtain z | ⟨p, hp, z⟩ | ⟨ob, xs, z⟩ := o1 b
        · rw [q] at z
          cases z
        · exact (nb p hp z).elim
        · obtain ⟨was, _⟩ := o3 b _ z
          obtain ⟨still, _⟩ := ok' b _ (un.frzs b ob _ z)
          rw [e] at was
          rw [Option.some.inj was]
          exact still
    refine ⟨fun b o e => ?_, fun b o e => ?_⟩
    · by_cases hb' : ∃ p ∈ cs, p.2 = b
      · obtain ⟨p, hp, rfl⟩ := hb'
        obtain ⟨more, hm⟩ := grown p hp
        have t := tabs p hp
        rw [e] at t
        rw [Option.some.inj t]
        exact .inr (.inl ⟨((heads p hp).tab (tabs p hp)).isCodeTable, rfl, #[], more, rfl, by rw [Array.empty_append]; exact hm⟩)
      · exact .inl (key b o (fun p hp z => hb' ⟨p, hp, z⟩) e)
    · by_cases hb' : ∃ p ∈ cs, p.2 = b
      · obtain ⟨p, hp, rfl⟩ := hb'
        obtain ⟨more, hm⟩ := grown p hp
        exact ⟨_, hm⟩
      · exact ⟨o, key b o (fun p hp z => hb' ⟨p, hp, z⟩) e⟩

open LamX in
theorem entryT_is (kin : K.In s.heap) (hns : s.heap.Ns mainGlobals mg) (hb : s.heap.Ns builtinsNs mb)
    (hbb : ∀ x : Str, x ≠ "__name__" → mb x = bootBuiltins x) (hlim : s.heap.NoLimit) (hg : s.gens = #[])
    (bmain : ∃ (bm : Addr) (ob : Obj), mg "__builtins__" = some (.ref bm) ∧ bm ≠ builtinsNs ∧ s.heap.get? bm = some ob ∧
      ob.cls = .type "module" ∧ ob.dict = some builtinsNs ∧ ob.data = .plain)
    (tabs : ∀ p ∈ cs, s.heap.get? p.2 = some { cls := .none, data := .fields #[] }) (noK : ∀ p ∈ cs, K.lookup p.2 = none)
    (heads : ∀ p ∈ cs, PySem.W.CodeHd s.heap p.1 p.2)
    (ha : s.heap.get? a = some { cls := .type "list", data := .seq vs.toArray })
    (hi : IntsAre vs ns) (hl : ns.length ≤ sizeLine) : ∃ H base, EntryT P w K mg s a ns cs H base := by
  have rv := vals_ints hi
  have ln := hi.length
  have noT : ¬ ∃ p ∈ cs, p.2 = a := by
    rintro ⟨p, hp, z⟩
    have t := tabs p hp
    rw [z, ha] at t
    have d := congrArg Obj.data (Option.some.inj t)
    cases d
  let T : Hp := fun b => if ∃ p ∈ cs, p.2 = b then some (.tbl #[]) else none
  have T_in : ∀ {b}, (∃ p ∈ cs, p.2 = b) → T b = some (.tbl #[]) := fun z => if_pos z
  have T_off : ∀ {b}, (¬ ∃ p ∈ cs, p.2 = b) → T b = none := fun z => if_neg z
  have okT : ∀ (H : Hp) b u, T b = some u → ObjOk P w H s.heap b u := by
    intro H b u z
    by_cases q : ∃ p ∈ cs, p.2 = b
    · rw [T_in q] at z
      cases z
      obtain ⟨p, hp, rfl⟩ := q
      exact tabs p hp
    · rw [T_off q] at z
      cases z
  cases hk : K.lookup a with
  | some o =>
    have e := kin a o hk
    rw [ha] at e
    cases e
    have sq : SqL K T a (ns.map V.int) :=
      .inr ⟨_, vs.toArray, _, hk, rfl, rfl, rfl, by rw [List.size_toArray, ln]; exact hl, by simpa using rv⟩
    obtain ⟨base, E⟩ := entryT_of (P := P) (w := w) (H := T) kin hns hb hbb hlim hg bmain tabs noK heads ha (fun p hp => T_in ⟨p, hp, rfl⟩)
      (fun b => by
        by_cases q : ∃ p ∈ cs, p.2 = b
        · exact .inr (.inl q)
        · exact .inl (T_off q)) sq (fun b u z => okT T b u z)
      (fun b z => by
        by_cases q : ∃ p ∈ cs, p.2 = b
        · exact .inr q
        · exact (z (T_off q)).elim) fun z => (z (T_off noT)).elim
    exact ⟨_, base, E⟩
  | none =>
    let H : Hp := fun b => if b = a then some (.frz { cls := .type "list", data := .seq vs.toArray } (.lst (ns.map V.int))) else T b
    have at_a : H a = some (.frz { cls := .type "list", data := .seq vs.toArray } (.lst (ns.map V.int))) := if_pos rfl
    have off_a : ∀ {b}, b ≠ a → H b = T b := fun z => if_neg z
    have H_in : ∀ p ∈ cs, H p.2 = some (.tbl #[]) := by
      intro p hp
      rw [off_a fun z => noT ⟨p, hp, z⟩]
      exact T_in ⟨p, hp, rfl⟩
    have ok : HOk P w H s.heap := by
      intro b u z
      by_cases q : b = a
      · subst q
        rw [at_a] at z
        cases z
        exact ⟨ha, by rw [List.length_map]; exact hl, vs, _, rv, ha⟩
      · rw [off_a q] at z
        exact okT H b u z
    obtain ⟨base, E⟩ := entryT_of (P := P) (w := w) (H := H) kin hns hb hbb hlim hg bmain tabs noK heads ha H_in
      (fun b => by
        by_cases q : b = a
        · subst q
          exact .inr (.inr ⟨_, _, at_a⟩)
        · by_cases r : ∃ p ∈ cs, p.2 = b
          · exact .inr (.inl r)
          · exact .inl ((off_a q).trans (T_off r))) (.inl (.inr ⟨_, at_a⟩)) ok
      (fun b z => by
        by_cases q : b = a
        · exact .inl q
        · rw [off_a q] at z
          by_cases r : ∃ p ∈ cs, p.2 = b
          · exact .inr r
          · exact (z (T_off r)).elim) fun _ => hk
    exact ⟨H, base, E⟩
end

open LamX in
theorem walkT {l : PySem.W.OpenLaw} {n k : Nat} {q : Program} {loose : List Str} {XP : (Str → Option Value) → Heap → Prop}
    {YP : World → Heap → Prop} {d : DefRec} {K : Params → PySem.W.Frag} {cs : List (Addr × Addr)} {sp : World → Sp} {x : Str}
    (hn : l.most = some n) (hn2 : n ≤ sizeLine) (hdf : d.params.defaults = []) (hr : Room k callerA)
    (hY : ∀ (w : World) (h : Heap), YP w h → (K w.params).In h)
    (hT : ∀ (w : World) (h : Heap), YP w h → ∀ p ∈ cs, h.get? p.2 = some { cls := .none, data := .fields #[] })
    (F : ∀ (w : World) (mg : Str → Option Value) (fa : Addr) (h : Heap), (K w.params).In h → h.Ns mainGlobals mg → mg d.name = some (.ref fa) →
      (∀ p ∈ cs, (K w.params).lookup p.2 = none ∧ PySem.W.codeHdIn (K w.params) p.1 p.2 = true) ∧
      ∃ fd : FuncData, (∀ (s : Shared) (u : Value), BindsTo s fd ⟨[u], []⟩ [(x, u)]) ∧
        ∀ base : Heap, (K w.params).In base → base.Ns mainGlobals mg → (∀ p ∈ cs, TabB base mg p.1 p.2) →
          FnG l.prog w (K w.params) mg base CX0 k fa fd [x] (sp w))
    (hsp : ∀ (w : World) (H : Hp) (a : Addr) (ns : List Int), ns.length ≤ n → (∀ p ∈ cs, H p.2 = some (.tbl #[])) → SqL (K w.params) H a (ns.map V.int) →
      sp w [.ref a] H (fun v _ => v = .bl true) fun _ _ _ => False) :
    PySem.W.WalkO q loose XP YP l.row.toRowW d [] (fun f vs => PySem.call f vs) := by
  refine Att.attach_call hn hdf ?_
  intro w s₀ s₁ mg mb fa o pm cd doc a vs ns G Y ho hd hcd hmg hobj hints hlen hgens
  have kin := hY w _ Y
  obtain ⟨heads, fd, binds, all⟩ := F w mg fa _ kin G.T.g hmg
  obtain ⟨H, base, E⟩ := entryT_is (P := l.prog) (w := w) kin G.T.g G.T.b G.T.builtins G.T.nolimit hgens G.T.bmain (hT w _ Y)
    (fun p hp => (heads p hp).1) (fun p hp => PySem.W.codeHd_of_K kin (heads p hp).2) hobj hints (Nat.le_trans hlen hn2)
  have run := (all base E.kin E.glob E.bs).go callerA [] s₁ H ⟨[.ref a], []⟩ [.ref a] [.ref a] _ _ rfl hr E.env (binds s₁ (.ref a)) (.cons rfl .nil)
    (hsp w H a ns hlen E.tabs E.script)
  refine codeAny_mono run ?_
  intro res s' hres
  match res, hres with
  | .ok (.ret u), ⟨v, H', os, bare, un, ok', rel, e⟩ =>
    subst e
    cases (show u = Value.bool true from rel)
    exact ⟨rfl, E.old H' s' un ok', os, bare⟩

/-! ### a lambda's body: what a callee raises leaves it -/
open LamX in
theorem takesLam {X : Cx} {A : Around} {outer : List Env} {s : Shared} {H : Hp} {E : XK} {scope : Scope} {f c : Addr} :
    Passes (L2.CX X.prog X.w) (lamCx X A outer s H E scope f c) E :=
  passes_call (takes_of (X := lamCx X A outer s H E scope f c) (E := E) rfl rfl rfl rfl) fun _ _ _ _ h => h

/-! ### a written dict of ints: each value a tuple of ints -/
def keyI : Value → Option Int
  | .int i _ => some i
  | _ => none
def allI : List Value → Option (List Int)
  | [] => some []
  | v :: r => match keyI v, allI r with
    | some i, some is => some (i :: is)
    | _, _ => none
/-- the ints of the tuple of the written part at a -/
def tupI (K : PySem.W.Frag) : Value → Option (List Int)
  | .ref a => match K.lookup a with
    | some ⟨.type "tuple", none, .seq us _, _⟩ => allI us.toList
    | _ => none
  | _ => none
def rowsI (K : PySem.W.Frag) : List DictEntry → Option (List (Int × List Int))
  | [] => some []
  | e :: r => match keyI e.key, tupI K e.val, rowsI K r with
    | some i, some t, some l => if e.hash = hashInt i then some ((i, t) :: l) else none
    | _, _, _ => none
def dictI (K : PySem.W.Frag) (d : Addr) : Option (List (Int × List Int)) :=
  match K.lookup d with
  | some ⟨.type "dict", none, .dict es _, sl⟩ => if sl.isEmpty && !(d == sysModules) then rowsI K es.toList else none
  | _ => none

theorem keyI_some {v : Value} {i : Int} (h : keyI v = some i) : ∃ t, v = .int i t := by
  cases v <;> simp_all [keyI]
theorem allI_some : ∀ {us : List Value} {is : List Int}, allI us = some is → Vals (is.map V.int) us := by
  intro us
  induction us with
  | nil =>
    intro is h
    cases h
    exact .nil
  | cons v r ih =>
    intro is h
    unfold allI at h
    split at h
    · rename_i i l e1 e2
      cases h
      obtain ⟨t, rfl⟩ := keyI_some e1
      exact .cons ⟨t, rfl⟩ (ih e2)
    · cases h

theorem tupI_some {K : PySem.W.Frag} {v : Value} {is : List Int} (h : tupI K v = some is) :
    ∃ a us n sl, v = .ref a ∧ K.lookup a = some ⟨.type "tuple", none, .seq us n, sl⟩ ∧ Vals (is.map V.int) us.toList := by
  unfold tupI at h
  split at h
  · rename_i a
    split at h
    · rename_i us n sl e
      exact ⟨a, us, n, sl, rfl, e, allI_some h⟩
    · cases h
  · cases h

theorem rowsI_all {K : PySem.W.Frag} : ∀ {es : List DictEntry} {rows : List (Int × List Int)}, rowsI K es = some rows →
    (∀ e ∈ es, ∃ k t, e.key = .int k t ∧ e.hash = hashInt k) ∧
    (∀ k, rows.lookup k = none → (es.find? fun e => Value.isInt k e.key) = none) ∧
    ∀ k is, rows.lookup k = some is → ∃ e, (es.find? fun e => Value.isInt k e.key) = some e ∧ tupI K e.val = some is := by
  intro es
  induction es with
  | nil =>
    intro rows h
    cases h
    exact ⟨fun e he => (List.not_mem_nil he).elim, fun _ _ => rfl, fun k is z => by cases z⟩
  | cons e r ih =>
    intro rows h
    unfold rowsI at h
    split at h
    · rename_i i t l e1 e2 e3
      split at h
      · rename_i hh
        cases h
        obtain ⟨tk, ek⟩ := keyI_some e1
        obtain ⟨h1, h2, h3⟩ := ih e3
        have test : ∀ k, Value.isInt k e.key = decide (i = k) := by
          intro k
          rw [ek]
          show (i == k) = decide (i = k)
          by_cases q : i = k
          · subst q
            rw [beq_self_eq_true, decide_eq_true rfl]
          · rw [beq_eq_false_iff_ne.mpr q, decide_eq_false q]
        refine ⟨fun x hx => ?_, fun k z => ?_, fun k is z => ?_⟩
        · obtain rfl | hx := List.mem_cons.mp hx
          · exact ⟨i, tk, ek, hh⟩
          · exact h1 x hx
        · rw [List.lookup_cons] at z
          rw [List.find?_cons, test]
          by_cases q : k = i
          · subst q
            rw [beq_self_eq_true] at z
            cases z
          · rw [show (k == i) = false from beq_eq_false_iff_ne.mpr q] at z
            rw [show decide (i = k) = false from decide_eq_false fun y => q y.symm]
            exact h2 k z
        · rw [List.lookup_cons] at z
          rw [List.find?_cons, test]
          by_cases q : k = i
          · subst q
            rw [beq_self_eq_true] at z
            cases z
            rw [show decide (k = k) = true from decide_eq_true rfl]
            exact ⟨e, rfl, e2⟩
          · rw [show (k == i) = false from beq_eq_false_iff_ne.mpr q] at z
            rw [show decide (i = k) = false from decide_eq_false fun y => q y.symm]
            exact h3 k is z
      · cases h
    · cases h

/-- what such a dict tells, as the library's dict rules want it -/
theorem dictI_map {K : PySem.W.Frag} {prog : Program} {w : World} {h : Heap} {d : Addr} {rows : List (Int × List Int)} (kin : K.In h)
    (e : dictI K d = some rows) : (d == sysModules) = false ∧ ∃ f : Int → Option Value, h.MapOf (PySem.intKind prog w) d f ∧
      (∀ k, rows.lookup k = none → f k = none) ∧ ∀ k is, rows.lookup k = some is → ∃ v, f k = some v ∧ tupI K v = some is := by
  unfold dictI at e
  split at e
  · rename_i es n sl hl
    split at e
    · rename_i hc
      rw [Bool.and_eq_true] at hc
      obtain ⟨c1, c2⟩ := hc
      obtain ⟨h1, h2, h3⟩ := rowsI_all e
      have c1 : sl = #[] := Array.isEmpty_iff.mp c1
      subst c1
      have same : ∀ k, findBy Value.isInt es k = ((es.toList.find? fun e => Value.isInt k e.key).map (·.val)) := by
        intro k
        obtain ⟨l⟩ := es
        unfold findBy
        rw [List.find?_toArray]
      refine ⟨by simpa using c2, fun k => findBy Value.isInt es k, ⟨_, es, n, kin _ _ hl, ⟨rfl, rfl, rfl⟩, rfl, fun x hx => ?_, fun k => rfl⟩, fun k z => ?_, fun k is z => ?_⟩
      · obtain ⟨k, t, ek, eh⟩ := h1 x (Array.mem_toList_iff.mpr hx)
        exact ⟨k, by rw [ek]; simp [PySem.intKind, Value.isInt], eh⟩
      · show findBy Value.isInt es k = none
        rw [same, h2 k z]
        rfl
      · obtain ⟨x, e1, e2⟩ := h3 k is z
        exact ⟨x.val, by show findBy Value.isInt es k = _; rw [same, e1]; rfl, e2⟩
    · cases e
  · cases e

section
variable {X : Cx}
/-- k not in d, of such a dict -/
def rNotInI (K : PySem.W.Frag) : R2 := fun x y H Q => ∃ (k : Int) (d : Addr) (rows : List (Int × List Int)),
  x = .int k ∧ y = .ref d ∧ dictI K d = some rows ∧ Q (.bl (!(rows.lookup k).isSome)) H
theorem op_notInI : OpR X (compareOp .NotIn) (rNotInI X.K) := by
  intro pins s σ H x y v u Q I rx ry h
  obtain ⟨k, d, rows, rfl, rfl, e, q⟩ := h
  obtain ⟨t, rfl⟩ := rx
  cases (show u = Value.ref d from ry)
  obtain ⟨low, f, hm, f1, f2⟩ := dictI_map (prog := X.prog) (w := X.w) I.kIn e
  refine wpAny_notIn_of (intKind_is X.prog X.w k t) low hm ?_
  have fe : (f k).isSome = (rows.lookup k).isSome := by
    cases z : rows.lookup k with
    | none =>
      rw [f1 k z]
      rfl
    | some is =>
      obtain ⟨v, e1, _⟩ := f2 k is z
      rw [e1]
      rfl
  rw [fe]
  exact ⟨.bl _, H, I.tok _, rfl, q⟩
/-- d[k]: the tuple that stands there -/
def rIxI (K : PySem.W.Frag) : R2 := fun x y H Q => ∃ (k : Int) (d : Addr) (rows : List (Int × List Int)) (is : List Int),
  x = .ref d ∧ y = .int k ∧ dictI K d = some rows ∧ rows.lookup k = some is ∧ is.length ≤ 1000 ∧ ∀ a, SqT K H a (is.map V.int) → Q (.ref a) H
theorem ix_int : IxR X (rIxI X.K) := by
  intro value slice pins s σ H x y v u Q I rx ry h hs
  obtain ⟨k, d, rows, is, rfl, rfl, e, l, few, q⟩ := h
  cases (show v = Value.ref d from rx)
  obtain ⟨t, rfl⟩ := ry
  obtain ⟨low, f, hm, f1, f2⟩ := dictI_map (prog := X.prog) (w := X.w) I.kIn e
  obtain ⟨v, e1, e2⟩ := f2 k is l
  obtain ⟨a, us, n, sl, rfl, ha, rv⟩ := tupI_some e2
  have size : us.size ≤ sizeLine := by
    have z := Paired.length rv
    rw [List.length_map] at z
    have z2 : us.toList.length = us.size := Array.length_toList
    rw [sizeLine_eq]
    omega
  refine tail_any hm.typeIs slot_dict_getitem.lookup (wpAny_getItem_of (intKind_is X.prog X.w k t) hm e1 ⟨.ref a, H, I.tok _, rfl, q a ?_⟩) hs
  exact .inr ⟨_, us, n, ha, rfl, rfl, size, rv⟩
end
end Gd

/-! Bs: what all laws share: the pen, kinds of values, rows, errors, digits (no statement of any text is named). -/
namespace B5
open PySem L2 Gd
variable {P : Program} {w : World} {K : PySem.W.Frag} {mg : Str → Option Value} {base : Heap}
/-! ### the law's pen: where drawn numbers come from -/
abbrev kC : Key := Sum.inr "cells"
abbrev kA : Key := Sum.inr "at"
abbrev kG : Key := Sum.inr "digits"
abbrev kN : Key := Sum.inr "count"
abbrev kF : Key := Sum.inr "fold"
theorem kne : (kA = kC) = False ∧ (kG = kC) = False ∧ (kN = kC) = False ∧ (kF = kC) = False ∧ (kC = kA) = False ∧ (kG = kA) = False ∧ (kN = kA) = False ∧ (kF = kA) = False ∧
    (kC = kG) = False ∧ (kA = kG) = False ∧ (kN = kG) = False ∧ (kF = kG) = False ∧ (kC = kN) = False ∧ (kA = kN) = False ∧ (kG = kN) = False ∧ (kF = kN) = False ∧
    (kC = kF) = False ∧ (kA = kF) = False ∧ (kG = kF) = False ∧ (kN = kF) = False := by
  refine ⟨?_, ?_, ?_, ?_, ?_, ?_, ?_, ?_, ?_, ?_, ?_, ?_, ?_, ?_, ?_, ?_, ?_, ?_, ?_, ?_⟩ <;> exact eq_false (by decide +kernel)
theorem putK_same {kvs : List (Key × V)} {k : Key} {v x : V} (h : valV kvs k = some x) : (putK kvs k v).length = kvs.length := by
  have e := valV_any k kvs
  rw [h, Option.isSome_some] at e
  unfold putK
  rw [if_pos e, List.length_map]
theorem dg {H : Hp} {a : Addr} {kvs : List (Key × V)} (k : Key) {v : V} (hd : H a = some (.dK kvs)) (h : valV kvs k = some v) : DGet H a (kV k) (some v) := h ▸ DGet.k hd
theorem five {n : Nat} (h : n ≤ 5) : n < sizeLine := small1000 (by omega)
theorem put_in {kvs : List (Key × V)} (k j : Key) (v : V) {x : V} (h : valV kvs j = some x) (ne : (j = k) = False) : valV (putK kvs k v) j = some x := by
  rw [valV_put, if_neg (by rw [ne]; exact id)]
  exact h
theorem put_at {kvs : List (Key × V)} (k : Key) (v : V) : valV (putK kvs k v) k = some v := by
  rw [valV_put, if_pos rfl]
/-- the pen at d, its cells at c; n draws were made -/
def Pen (H : Hp) (d c : Addr) (n : Int) : Prop := ∃ (kvs : List (Key × V)) (cs : List Int) (p g f : Int), H d = some (.dK kvs) ∧ H c = some (.lst (cs.map V.int)) ∧
  kvs.length ≤ 5 ∧ valV kvs kC = some (.ref c) ∧ valV kvs kA = some (.int p) ∧ valV kvs kG = some (.int g) ∧ valV kvs kN = some (.int n) ∧ valV kvs kF = some (.int f) ∧
  (0 ≤ p ∧ 0 ≤ g) ∧ (0 ≤ f ∧ f < 2147483648)
theorem Pen.ne {H : Hp} {d c : Addr} {n : Int} (h : Pen H d c n) : c ≠ d := by
  obtain ⟨kvs, cs, p, g, f, h1, h2, _⟩ := h
  exact ne_of h2 h1 (by intro z; cases z)
theorem Pen.keep {H H' : Hp} {d c : Addr} {n : Int} (h : Pen H d c n) (e1 : H' d = H d) (e2 : H' c = H c) : Pen H' d c n := by
  obtain ⟨kvs, cs, p, g, f, h1, h2, r⟩ := h
  exact ⟨kvs, cs, p, g, f, e1.trans h1, e2.trans h2, r⟩
theorem Pen.at {H : Hp} {d c : Addr} {n : Int} (h : Pen H d c n) : ∃ o, H d = some o := let ⟨_, _, _, _, _, h1, _⟩ := h; ⟨_, h1⟩
theorem Pen.atc {H : Hp} {d c : Addr} {n : Int} (h : Pen H d c n) : ∃ o, H c = some o := let ⟨_, _, _, _, _, _, h2, _⟩ := h; ⟨_, h2⟩
/-- new objects do not touch the pen -/
theorem Pen.upd {H : Hp} {d c p : Addr} {n : Int} {o : HO} (h : Pen H d c n) (hp : H p = none) : Pen (upd H p o) d c n := by
  obtain ⟨o1, h1⟩ := h.at
  obtain ⟨o2, h2⟩ := h.atc
  exact h.keep (upd_ne (ne_of_none h1 hp)) (upd_ne (ne_of_none h2 hp))
/-- what a draw leaves -/
structure Drawn (H H' : Hp) (d c : Addr) (n : Int) : Prop where
  pen : Pen H' d c n
  off : ∀ b, b ≠ d → H' b = H b
theorem Drawn.trans {H H1 H2 : Hp} {d c : Addr} {n m : Int} (a : Drawn H H1 d c n) (b : Drawn H1 H2 d c m) : Drawn H H2 d c m := ⟨b.pen, fun x hx => (b.off x hx).trans (a.off x hx)⟩
/-- one step: a number of the pen is put anew -/
theorem pen_put {H : Hp} {d c : Addr} {kvs : List (Key × V)} {k : Key} {v x : V} (hd : H d = some (.dK kvs)) (l : kvs.length ≤ 5) (h : valV kvs k = some x) :
    (upd H d (.dK (putK kvs k v))) d = some (.dK (putK kvs k v)) ∧ (putK kvs k v).length ≤ 5 := ⟨upd_same, by rw [putK_same h]; exact l⟩

def spDraw : Sp := fun vs H Q _ => ∃ (d c : Addr) (n m : Int), vs = [.ref d, .int m] ∧ Pen H d c n ∧ 0 < m ∧ m ≤ 1000000000000000000000 ∧ 0 ≤ n ∧ n < 1000000000 ∧
  ∀ (r : Int) (H' : Hp), 0 ≤ r → r < m → Drawn H H' d c (n + 1) → Q (.int r) H'
def spPen (K : PySem.W.Frag) : Sp := fun vs H Q _ => ∃ (a : Addr) (ns : List Int), vs = [.ref a] ∧ SqL K H a (ns.map V.int) ∧
  ∀ (H' : Hp) (d c : Addr), Pen H' d c 0 → (∀ b o, H b = some o → H' b = some o) → H d = none → Q (.ref d) H'
def spPick (K : PySem.W.Frag) : Sp := fun vs H Q _ => ∃ (d c a : Addr) (n : Int) (xs : List V), vs = [.ref d, .ref a] ∧ Pen H d c n ∧ H a = some (.lst xs) ∧ 0 < xs.length ∧ xs.length ≤ 1000 ∧ 0 ≤ n ∧ n < 1000000000 ∧
  ∀ (x : V) (H' : Hp), x ∈ xs → Drawn H H' d c (n + 1) → Q x H'
def spLarge : Sp := fun vs H Q _ => ∃ (d c : Addr) (n : Int), vs = [.ref d] ∧ Pen H d c n ∧ 0 ≤ n ∧ n < 900000000 ∧
  ∀ (r n' : Int) (H' : Hp), 0 ≤ r → r < 10 ^ 57 → n ≤ n' → n' ≤ n + 30 → Pen H' d c n' → (∀ b o, H b = some o → b ≠ d → H' b = some o) → Q (.int r) H'
/-! ### the errors -/
/-- what an __init__ that keeps its arguments as fields does -/
def spIni (C : Addr) (fs : List Str) : Sp := fun vs H Q _ => ∃ (a : Addr) (ys : List V), vs = .ref a :: ys ∧ ys.length = fs.length ∧ H a = some (exo a C none) ∧
  ∀ (H' : Hp) (dx : Addr), H dx = none → dx ≠ a → (∀ b, b ≠ a → b ≠ dx → H' b = H b) → H' a = some (exo a C (some dx)) → H' dx = some (exd dx (fs.zip ys).reverse) → Q .non H'
/-! ### kinds of values -/
def offInt : List String := ["bool", "NoneType", "str", "list", "tuple", "dict"]
theorem off_int : ∀ n ∈ offInt, kitB n "int" = some (decide (n = "bool")) ∧ kitB n "bool" = some (decide (n = "bool")) := by decide +kernel
theorem on_int : kitB "int" "int" = some true ∧ kitB "int" "bool" = some false := by decide +kernel
/-- no int at all, or a bool -/
def NoInt (K : PySem.W.Frag) (H : Hp) (x : V) : Prop := ∃ n, n ∈ offInt ∧ TyX K H x (.type n)
theorem tyMore {K : PySem.W.Frag} {H H' : Hp} {x : V} {n : String} (e : ∀ b o, H b = some o → H' b = some o) (t : TyX K H x (.type n)) : TyX K H' x (.type n) := by
  cases t with
  | base t =>
    refine .base ?_
    cases t with
    | non => exact .non
    | bl b => exact .bl b
    | int i => exact .int i
    | str z => exact .str z
    | flt z => exact .flt z
    | lst h => exact .lst (e _ _ h)
    | frz h => exact .frz (e _ _ h)
    | tup h => exact .tup (e _ _ h)
    | dK h => exact .dK (e _ _ h)
    | dT h => exact .dT (e _ _ h)
  | byt b => exact .byt b
  | set h => exact .set (e _ _ h)
  | kList h c => exact .kList h c
  | kTuple h c => exact .kTuple h c
  | kDict h c => exact .kDict h c
  | fTuple h => exact .fTuple (e _ _ h)
  | fDict h => exact .fDict (e _ _ h)
theorem NoInt.more {K : PySem.W.Frag} {H H' : Hp} {x : V} (e : ∀ b o, H b = some o → H' b = some o) (h : NoInt K H x) : NoInt K H' x :=
  let ⟨n, m, t⟩ := h; ⟨n, m, tyMore e t⟩
def spIsI (K : PySem.W.Frag) : Sp := fun vs H Q _ => ∃ x, vs = [x] ∧ ((∃ i, x = .int i ∧ Q (.bl true) H) ∨ (NoInt K H x ∧ Q (.bl false) H) ∨ ∃ t, TyX K H x t ∧ PySem.W.kitOne K t (.type "int") = some false ∧ Q (.bl false) H)
theorem pi_or {X : Cx} {tg it : Expr} {u v : TI} (a : PI X tg it u) (b : PI X tg it v) : PI X tg it (fun σ H R => u σ H R ∨ v σ H R) where
  run := by
    rintro pins s σ H R I (h | h)
    · exact a.run pins s σ H R I h
    · exact b.run pins s σ H R I h
theorem sqT_more {K : PySem.W.Frag} {H H' : Hp} {a : Addr} {xs : List V} (e : ∀ b o, H b = some o → H' b = some o) : SqT K H a xs → SqT K H' a xs
  | .inl (.inl h) => .inl (.inl (e _ _ h))
  | .inl (.inr ⟨o, h⟩) => .inl (.inr ⟨o, e _ _ h⟩)
  | .inr h => .inr h
/-- a list or a tuple of xs -/
def Sq (K : PySem.W.Frag) (H : Hp) (a : Addr) (xs : List V) : Prop := SqL K H a xs ∨ SqT K H a xs
theorem Sq.more {K : PySem.W.Frag} {H H' : Hp} {a : Addr} {xs : List V} (e : ∀ b o, H b = some o → H' b = some o) : Sq K H a xs → Sq K H' a xs
  | .inl h => .inl (Same.seq e h)
  | .inr h => .inr (sqT_more e h)
/-! ### errors of the program -/
structure Er (K : PySem.W.Frag) (mg : Str → Option Value) (x q : Str) (C fI : Addr) (fs : List Str) (st : Stmt) (fd : FuncData) : Prop where
  T : OexC K C
  iC : PySem.W.findIn K (.ref C) "__init__" = some (some (.ref fI))
  tI : PySem.W.typeIn K (.ref fI) = some (.type "function")
  fn : Fun K "__init__" q st fI fd
  b : Binds K fd ("self" :: fs) []
  no : ∀ g ∈ fs, PySem.W.findIn K (.ref C) g = some none
  g : mg x = some (.ref C)
theorem mk_ini {C : Addr} {fs : List Str} {vs : List V} {H1 : Hp} {Q : XK} (hl : vs.length = fs.length) (h9 : vs.length ≤ 900)
    (h : ∀ d, H1 d = none → Q (.ref C) (some d) (upd H1 d (.xd (fs.zip vs).reverse))) : vs.length ≤ 1000 ∧ ∀ a, H1 a = none →
      spIni C fs (.ref a :: (vs ++ [])) (upd H1 a (exo a C none)) (fun v H2 => v = .non ∧ ∃ (d : Addr) (fs' : List (Str × V)), H2 a = some (exo a C (some d)) ∧
        H2 d = some (exd d fs') ∧ H1 d = none ∧ Q (.ref C) (some d) (upd (del H2 a) d (.xd fs'))) (fun _ _ _ => False) := by
  refine ⟨by omega, fun a ha => ⟨a, vs, by rw [List.append_nil], hl, upd_same, fun H' dx hdx ne off e1 e2 => ⟨rfl, dx, _, e1, e2, ?_, ?_⟩⟩⟩
  · rw [upd_ne ne] at hdx
    exact hdx
  · rw [upd_ne ne] at hdx
    have same : upd (del H' a) dx (.xd (fs.zip vs).reverse) = upd H1 dx (.xd (fs.zip vs).reverse) := by
      funext b
      by_cases q : b = dx
      · subst q
        rw [upd_same, upd_same]
      · rw [upd_ne q, upd_ne q]
        by_cases z : b = a
        · subst z
          rw [del_same, ha]
        · rw [del_ne z, off b z q, upd_ne z]
    rw [same]
    exact h dx hdx
def RRow (CR : Addr) (x : V) (H : Hp) (E : XK) : Prop := ∀ d, H d = none → E (.ref CR) (some d) (upd H d (.xd [("row", x)]))
/-- a def of the text -/
structure Cl (K : PySem.W.Frag) (mg : Str → Option Value) (x : Str) (st : Stmt) (ps : List Str) (f : Addr) (fd : FuncData) : Prop where
  fn : Fun K x x st f fd
  b : Binds K fd ps []
  g : mg x = some (.ref f)
theorem Cl.k {x : Str} {st : Stmt} {ps : List Str} {f : Addr} {fd : FuncData} (h : Cl K mg x st ps f fd) : PySem.W.keepIn K (.ref f) = true := h.fn.kp
structure Blt (mg : Str → Option Value) : Prop where
  int_ : mg "int" = none
  bool_ : mg "bool" = none
  tup_ : mg "tuple" = none
  len_ : mg "len" = none
  list_ : mg "list" = none
  range_ : mg "range" = none
  isi_ : mg "isinstance" = none
  repr_ : mg "repr" = none
  all_ : mg "all" = none
  divmod_ : mg "divmod" = none
  rev_ : mg "reversed" = none
abbrev More (H H' : Hp) : Prop := ∀ b o, H b = some o → H' b = some o
theorem More.new {H H' : Hp} {p : Addr} {o : HO} (m : More H H') (hp : H' p = none) : More H (upd H' p o) := fun b u e => by
  rw [upd_ne (ne_of_none (m b u e) hp)]
  exact m b u e
theorem More.at {H H' : Hp} {p : Addr} {o : HO} (m : More H H') (hp : H p = none) : More H (upd H' p o) := fun b u e => by
  rw [upd_ne (ne_of_none e hp)]
  exact m b u e
theorem More.off {H H' : Hp} {p : Addr} (m : More H H') (hp : H' p = none) : H p = none := by
  cases e : H p with
  | none => rfl
  | some o =>
    rw [m p o e] at hp
    cases hp
/-! ### sequences of integers -/
def isI : V → Bool
  | .int _ => true
  | _ => false
theorem noInt_isI {K : PySem.W.Frag} {H : Hp} {y : V} (h : NoInt K H y) : isI y = false := by
  obtain ⟨n, hn, t⟩ := h
  cases y with
  | int i =>
    cases t with
    | base t =>
      cases t
      exact absurd hn (by decide)
  | _ => rfl
theorem tyL {K : PySem.W.Frag} {H : Hp} {a : Addr} {xs : List V} : SqL K H a xs → TyX K H (.ref a) (.type "list")
  | .inl (.inl h) => .base (.lst h)
  | .inl (.inr ⟨o, h⟩) => .base (.frz h)
  | .inr ⟨o, its, n, h, c, _⟩ => .kList h c
theorem tyT {K : PySem.W.Frag} {H : Hp} {a : Addr} {xs : List V} : SqT K H a xs → TyX K H (.ref a) (.type "tuple")
  | .inl (.inl h) => .base (.tup h)
  | .inl (.inr ⟨o, h⟩) => .fTuple h
  | .inr ⟨o, its, n, h, c, _⟩ => .kTuple h c
def noSeq : List String := ["int", "bool", "NoneType", "str", "dict"]
theorem seq_no : ∀ n ∈ noSeq, kitB n "tuple" = some false ∧ kitB n "list" = some false := by decide +kernel
theorem seq_yes : kitB "tuple" "tuple" = some true ∧ kitB "list" "tuple" = some false ∧ kitB "list" "list" = some true := by decide +kernel
def spIsIs (K : PySem.W.Frag) : Sp := fun vs H Q _ => ∃ x, vs = [x] ∧
  ((∃ n, n ∈ noSeq ∧ TyX K H x (.type n) ∧ ∀ H', More H H' → Q (.bl false) H') ∨
    ∃ a xs, x = .ref a ∧ Sq K H a xs ∧ xs.length ≤ 1000 ∧ (∀ y ∈ xs, (∃ i, y = .int i) ∨ NoInt K H y) ∧ ∀ H', More H H' → Q (.bl (xs.all isI)) H')
theorem take_snoc {α : Type} {l : List α} {i : Nat} {x : α} (h : l[i]? = some x) : l.take (i + 1) = l.take i ++ [x] := by
  rw [List.take_succ, h]
  rfl
/-! ### terms of a sum -/
def NoSq (K : PySem.W.Frag) (H : Hp) (x : V) : Prop := ∃ n, n ∈ noSeq ∧ TyX K H x (.type n)
theorem NoSq.more {K : PySem.W.Frag} {H H' : Hp} {x : V} (e : ∀ b o, H b = some o → H' b = some o) (h : NoSq K H x) : NoSq K H' x := let ⟨n, m, t⟩ := h; ⟨n, m, tyMore e t⟩
def Its (K : PySem.W.Frag) (H : Hp) (ys : List V) : Prop := ys.length ≤ 1000 ∧ ∀ y ∈ ys, (∃ i, y = .int i) ∨ NoInt K H y
theorem Its.more {K : PySem.W.Frag} {H H' : Hp} {ys : List V} (e : ∀ b o, H b = some o → H' b = some o) (h : Its K H ys) : Its K H' ys := ⟨h.1, fun y hy => (h.2 y hy).imp id fun z => z.more e⟩
theorem Its.ints {K : PySem.W.Frag} {H : Hp} {ds : List Int} (h : ds.length ≤ 1000) : Its K H (ds.map V.int) := ⟨by rw [List.length_map]; exact h, fun y hy => by
  obtain ⟨d, _, rfl⟩ := List.mem_map.mp hy
  exact .inl ⟨d, rfl⟩⟩
def spRow (K : PySem.W.Frag) : Sp := fun vs H Q _ => ∃ (x : V) (n : Int), vs = [x, .int n] ∧
  ((NoSq K H x ∧ ∀ H', More H H' → Q (.bl false) H') ∨ ∃ a xs, x = .ref a ∧ Sq K H a xs ∧ Its K H xs ∧ ∀ H', More H H' → Q (.bl (xs.all isI && decide (((xs.length : Nat) : Int) = n))) H')
theorem deI {i j : Int} : decide (V.int i = V.int j) = decide (i = j) := by simp only [V.int.injEq]
theorem ix_any {K : PySem.W.Frag} {H : Hp} {a : Addr} {xs : List V} {j : Nat} {i : Int} {v : V} {Q : VK} (s : Sq K H a xs) (e : i = (j : Int)) (h : xs[j]? = some v) (q : Q v H) : rIx K (.ref a) (.int i) H Q := by
  obtain s | s := s
  · exact .inl ⟨a, xs, i, v, rfl, rfl, s, at_of e h, q⟩
  · exact .inr (.inl ⟨a, xs, i, v, rfl, rfl, s, at_of e h, q⟩)
theorem isI_all (ds : List Int) : (ds.map V.int).all isI = true := by
  rw [List.all_map, List.all_eq_true]
  intro d _
  rfl
theorem sq_len {K : PySem.W.Frag} {H : Hp} {a : Addr} {xs : List V} (s : Sq K H a xs) : SqL K H a xs ∨ SqT K H a xs := s
/-! ### words of digits -/
/-- the digits of n to the base p, the low one first -/
def dgs (p : Nat) (n : Nat) : List Int := if h : n = 0 ∨ p < 2 then [] else ((n % p : Nat) : Int) :: dgs p (n / p)
termination_by n
decreasing_by exact Nat.div_lt_self (by omega) (by omega)
theorem dgs_zero {p : Nat} : dgs p 0 = [] := by
  rw [dgs, dif_pos (.inl rfl)]
theorem dgs_pos {p n : Nat} (h : 0 < n) (hp : 2 ≤ p) : dgs p n = ((n % p : Nat) : Int) :: dgs p (n / p) := by
  rw [dgs, dif_neg (by omega)]
theorem dgs_len {p : Nat} (hp : 2 ≤ p) : ∀ (k n : Nat), n < 2 ^ k → (dgs p n).length ≤ k
  | 0, n, h => by
    have e : n = 0 := by simpa using h
    rw [e, dgs_zero]
    exact Nat.le_refl _
  | k + 1, n, h => by
    by_cases z : n = 0
    · rw [z, dgs_zero]
      exact Nat.zero_le _
    · rw [dgs_pos (by omega) hp]
      have h2 : n / p < 2 ^ k := by
        refine Nat.lt_of_le_of_lt (Nat.div_le_div_left hp (by decide)) ?_
        rw [Nat.pow_succ] at h
        omega
      have := dgs_len hp k _ h2
      simp only [List.length_cons]
      omega
theorem dgs_are {p : Nat} (hp : 2 ≤ p) : ∀ (k n : Nat), n ≤ k → ∀ d ∈ dgs p n, 0 ≤ d ∧ d < (p : Int)
  | 0, n, h, d, hd => by
    have e : n = 0 := by omega
    rw [e, dgs_zero] at hd
    cases hd
  | k + 1, n, h, d, hd => by
    by_cases z : n = 0
    · rw [z, dgs_zero] at hd
      cases hd
    · rw [dgs_pos (by omega) hp] at hd
      rcases List.mem_cons.mp hd with rfl | hd
      · have := Nat.mod_lt n (show p > 0 by omega)
        omega
      · exact dgs_are hp k _ (by have := Nat.div_lt_self (show 0 < n by omega) (show 1 < p by omega); omega) d hd
/-- the number that a word tells -/
def val (p : Int) : List Int → Int
  | [] => 0
  | d :: r => val p r * p + d
theorem val_dgs {p : Nat} (hp : 2 ≤ p) : ∀ (k n : Nat), n ≤ k → val p (dgs p n) = n
  | 0, n, h => by
    have e : n = 0 := by omega
    rw [e, dgs_zero]
    rfl
  | k + 1, n, h => by
    by_cases z : n = 0
    · rw [z, dgs_zero]
      rfl
    · rw [dgs_pos (by omega) hp]
      have lt := Nat.div_lt_self (show 0 < n by omega) (show 1 < p by omega)
      show val p (dgs p (n / p)) * p + ((n % p : Nat) : Int) = n
      rw [val_dgs hp k _ (by omega)]
      have := Nat.div_add_mod n p
      rw [Nat.mul_comm] at this
      omega
theorem val_zeros {p : Int} : ∀ (l : List Int) (k : Nat), val p (l ++ List.replicate k 0) = val p l
  | [], 0 => rfl
  | [], k + 1 => by
    have ih := val_zeros (p := p) [] k
    rw [List.nil_append] at ih ⊢
    show val p (List.replicate k 0) * p + 0 = 0
    rw [ih]
    show (0 : Int) * p + 0 = 0
    rw [Int.zero_mul]
    rfl
  | d :: l, k => by
    show val p (l ++ List.replicate k 0) * p + d = val p l * p + d
    rw [val_zeros l k]
theorem val_drop {p : Int} {l : List Int} {i : Nat} {d : Int} (h : l[i]? = some d) : val p (l.drop i) = val p (l.drop (i + 1)) * p + d := by
  have hi : i < l.length := by
    rcases Nat.lt_or_ge i l.length with z | z
    · exact z
    · rw [List.getElem?_eq_none z] at h
      cases h
  rw [List.drop_eq_getElem_cons hi]
  have e : l[i] = d := by
    rw [List.getElem?_eq_getElem hi] at h
    exact Option.some.inj h
  rw [e]
  rfl
/-- BadNumber(what, x) is raised -/
def RNum (CN : Addr) (what : Str) (x : V) (H : Hp) (E : XK) : Prop := ∀ d, H d = none → E (.ref CN) (some d) (upd H d (.xd [("number", x), ("what", .str what)]))
def isPr (p : Int) : Bool := inV (.int p) ([2, 3, 5, 7].map V.int)
def BadP (K : PySem.W.Frag) (H : Hp) (x : V) : Prop := (∃ m, x = .int m ∧ isPr m = false) ∨ NoInt K H x
def spCP (K : PySem.W.Frag) (CN : Addr) : Sp := fun vs H Q E => ∃ x, vs = [x] ∧
  ((∃ m, x = .int m ∧ isPr m = true ∧ Q .non H) ∨ (BadP K H x ∧ RNum CN "p" x H E))
theorem isPr_small {p : Int} (h : isPr p = true) : 2 ≤ p ∧ p ≤ 7 := by
  have z : (decide (2 = p) || (decide (3 = p) || (decide (5 = p) || (decide (7 = p) || false)))) = true := h
  simp only [Bool.or_eq_true, decide_eq_true_eq, Bool.or_false] at z
  omega
def spDg (K : PySem.W.Frag) (CN : Addr) : Sp := fun vs H Q E => ∃ x y, vs = [x, y] ∧
  ((∃ n p : Nat, x = .int n ∧ y = .int p ∧ isPr p = true ∧ n < 2 ^ 400 ∧ ∀ H' a, More H H' → H a = none → H' a = some (.tup ((dgs p n).map V.int)) → Q (.ref a) H') ∨
    (((∃ i, x = .int i ∧ i < 0) ∨ NoInt K H x) ∧ RNum CN "n" x H E) ∨
    ∃ n : Int, x = .int n ∧ 0 ≤ n ∧ BadP K H y ∧ RNum CN "p" y H E)
end B5

namespace K02
open PySem L2 Gd B5
def top (i : Nat) : Stmt := PySem.Challenge.pw_restcounts_k02_whole_one_form_of_lots.main.body.getD i (.Pass ⟨0, 0, 0, 0⟩)
abbrev sPen : Stmt := top 43
abbrev sDraw : Stmt := top 44
abbrev sPick : Stmt := top 45
abbrev sLarge : Stmt := top 47
section
variable {P : Program} {w : World} {K : PySem.W.Frag} {mg : Str → Option Value} {base : Heap}
theorem scDraw : FnScope ["_law_pen_here", "_law_many", "_law_cell", "_law_digit", "_law_mixed"] ["_law_pen_here", "_law_many"] (defScope sDraw) := ⟨rfl, rfl, rfl, by decide +kernel, rfl, by decide +kernel, by decide +kernel⟩
theorem ok_draw {f : Addr} {fd : FuncData} (F : Fun K "_law_draw" "_law_draw" sDraw f fd) (mInt : mg "int" = none) (mLen : mg "len" = none) : FnOk P w K mg base CX0 1 f fd ["_law_pen_here", "_law_many"] spDraw := by
  refine F.ok scDraw (fun vs H Q E h => ?_) (fun cdv A outer s H vs Q E hr h => ?_)
  · obtain ⟨d, c, n, m, rfl, _⟩ := h
    rfl
  · obtain ⟨d, c, n, m, rfl, pen, m0, m1, n0, n1, k⟩ := h
    have hu := hu_of hr
    have ne := pen.ne
    obtain ⟨kvs, cs, p, g, f, hd, hc, hl, vC, vA, vG, vN, vF, ⟨p0, g0⟩, f0, f1⟩ := pen
    refine ⟨_, pss_cons (ps_dput hu (pv 0) pe_str (pe_op op_add (pe_dget hu (pv 0) pe_str (fun _ _ => rfl)) pe_int) rfl)
      (Evl.pss_cut (ps_if (PW.pt (pw_and (pt_cmpR op_eq (pe_dget hu (pv 0) pe_str (fun _ _ => rfl)) pe_int (nomark _))
            (pw_and1 (pt_cmpR op_lt (pe_dget hu (pv 0) pe_str (fun _ _ => rfl)) (pe_callB call_len_seq (by rfl) mLen PySem.boot_len (pa_cons (pe_dget hu (pv 0) pe_str (fun _ _ => rfl)) pa_nil)) (nomark _)))))
          (pss_cons (ps_set (i := 2) scDraw.nd rfl (Or.inl rfl) (pe_ix ix_list (pe_dget hu (pv 0) pe_str (fun _ _ => rfl)) (pe_dget hu (pv 0) pe_str (fun _ _ => rfl)) (fun _ _ => rfl)))
          (pss_cons (ps_dput hu (pv 0) pe_str (pe_op op_add (pe_dget hu (pv 0) pe_str (fun _ _ => rfl)) pe_int) rfl)
          (pss_one (ps_if (pt_cmpR op_ge (pv 2) (pe_op op_pow pe_int pe_int) (nomark _))
            (pss_one (ps_dput hu (pv 0) pe_str (pe_op op_sub (pv 2) (pe_op op_pow pe_int pe_int)) rfl))
            (pss_one (ps_dput hu (pv 0) pe_str (pe_op op_mod (pe_callTy call_int1 (by rfl) mInt (by decide +kernel) (pa_cons (pe_op op_add (pe_op op_mul (pe_dget hu (pv 0) pe_str (fun _ _ => rfl)) pe_int) (pv 2)) pa_nil)) pe_int) rfl))))))
          pss_nil)
      (pss_cons (ps_if (pt_cmpR op_gt (pe_dget hu (pv 0) pe_str (fun _ _ => rfl)) pe_int (nomark _))
          (pss_cons (ps_set (i := 3) scDraw.nd rfl (Or.inl rfl) (pe_op op_mod (pe_callTy call_int1 (by rfl) mInt (by decide +kernel) (pa_cons (pe_dget hu (pv 0) pe_str (fun _ _ => rfl)) pa_nil)) (pv 1)))
          (pss_cons (ps_dput hu (pv 0) pe_str (pe_op op_fdivW (pe_dget hu (pv 0) pe_str (fun _ _ => rfl)) (pv 1)) rfl)
          (pss_one (ps_ret (pv 3)))))
          pss_nil)
      (pss_cons (ps_set (i := 4) scDraw.nd rfl (Or.inl rfl) (pe_op op_add (pe_op op_add (pe_dget hu (pv 0) pe_str (fun _ _ => rfl)) (pe_op op_mul (pe_dget hu (pv 0) pe_str (fun _ _ => rfl)) pe_int)) pe_int))
      (pss_one (ps_ret (pe_op op_mod (pe_op op_fdiv (pe_callTy call_int1 (by rfl) mInt (by decide +kernel) (pa_cons (pe_op op_mod (pe_op op_pow (pv 4) pe_int) pe_int) pa_nil)) pe_int) (pv 1))))))), ?_⟩
    -- pen['count'] = pen['count'] + 1
    obtain ⟨ac, gc, nc, fc, ca, ga, na, fa, cg, ag, ng, fg, cn, an, gn, fn, cf, af, gf, nf⟩ := kne
    have l1 : (putK kvs kN (V.int (n + 1))).length ≤ 5 := by rw [putK_same vN]; exact hl
    have vC1 := put_in kN kC (V.int (n + 1)) vC cn
    have vA1 := put_in kN kA (V.int (n + 1)) vA an
    have vG1 := put_in kN kG (V.int (n + 1)) vG gn
    have vF1 := put_in kN kF (V.int (n + 1)) vF fn
    have vN1 : valV (putK kvs kN (V.int (n + 1))) kN = some (V.int (n + 1)) := put_at kN _
    refine ⟨_, rfl, d, _, rfl, dg kN hd vN, _, _, rfl, rfl, _, rfl, d, _, rfl, DPut.k (k := kN) hd (five hl), ?_⟩
    have hc1 : ∀ o, (L2.upd H d o) c = some (.lst (cs.map V.int)) := fun o => by rw [upd_ne ne]; exact hc
    generalize putK kvs kN (V.int (n + 1)) = kvs1 at *
    clear vC vA vG vN vF
    -- behind the if: a heap that differs at the pen alone
    refine ⟨fun σ' H' => ∃ (kvs : List (Key × V)) (p g f : Int) (z : Option V), σ' = [some (.ref d), some (.int m), z, none, none] ∧ H' d = some (.dK kvs) ∧ (∀ b, b ≠ d → H' b = H b) ∧
      kvs.length ≤ 5 ∧ valV kvs kC = some (.ref c) ∧ valV kvs kA = some (.int p) ∧ valV kvs kG = some (.int g) ∧ valV kvs kN = some (.int (n + 1)) ∧ valV kvs kF = some (.int f) ∧
      (0 ≤ p ∧ 0 ≤ g) ∧ (0 ≤ f ∧ f < 2147483648), ?_, ?_⟩
    · have mid : ∀ (z : Option V) (kvs2 : List (Key × V)) (H2 : Hp) (p g f : Int), H2 d = some (.dK kvs2) → (∀ b, b ≠ d → H2 b = H b) → kvs2.length ≤ 5 → valV kvs2 kC = some (.ref c) → valV kvs2 kA = some (.int p) →
          valV kvs2 kG = some (.int g) → valV kvs2 kN = some (.int (n + 1)) → valV kvs2 kF = some (.int f) → (0 ≤ p ∧ 0 ≤ g) → (0 ≤ f ∧ f < 2147483648) →
          ∃ (kvs : List (Key × V)) (p g f : Int) (z' : Option V), [some (V.ref d), some (V.int m), z, none, none] = [some (V.ref d), some (V.int m), z', none, none] ∧ H2 d = some (.dK kvs) ∧ (∀ b, b ≠ d → H2 b = H b) ∧
            kvs.length ≤ 5 ∧ valV kvs kC = some (.ref c) ∧ valV kvs kA = some (.int p) ∧ valV kvs kG = some (.int g) ∧ valV kvs kN = some (.int (n + 1)) ∧ valV kvs kF = some (.int f) ∧ (0 ≤ p ∧ 0 ≤ g) ∧ (0 ≤ f ∧ f < 2147483648) :=
        fun z kvs2 H2 p g f a1 a2 a3 a4 a5 a6 a7 a8 a9 a10 => ⟨kvs2, p, g, f, z, rfl, a1, a2, a3, a4, a5, a6, a7, a8, a9, a10⟩
      have off : ∀ o b, b ≠ d → (L2.upd H d o) b = H b := fun o b hb => upd_ne hb
      refine ⟨_, rfl, d, _, rfl, dg kG upd_same vG1, rfl, _, rfl, ite2 (fun _ => ?_) (fun _ => ?_)⟩
      · refine ⟨_, rfl, d, _, rfl, dg kA upd_same vA1, _, rfl, d, _, rfl, dg kC upd_same vC1, c, _, rfl, .inl (SqL.of (hc1 _)), _, _, rfl, rfl, _, rfl, ite2 (fun hlt => ?_) (fun _ => ?_)⟩
        · have hlt := of_decide_eq_true hlt
          rw [List.length_map] at hlt
          have hp : p.toNat < cs.length := by omega
          have hat : (cs.map V.int)[p.toNat]? = some (V.int cs[p.toNat]) := by rw [List.getElem?_map, List.getElem?_eq_getElem hp]; rfl
          refine ⟨_, rfl, d, _, rfl, dg kC upd_same vC1, _, rfl, d, _, rfl, dg kA upd_same vA1, c, _, _, _, rfl, rfl, SqL.of (hc1 _), at_of (by omega) hat, ?_⟩
          generalize cs[p.toNat] = x
          -- pen['at'] = pen['at'] + 1
          have l2 : (putK kvs1 kA (V.int (p + 1))).length ≤ 5 := by rw [putK_same vA1]; exact l1
          have vC2 := put_in kA kC (V.int (p + 1)) vC1 ca
          have vG2 := put_in kA kG (V.int (p + 1)) vG1 ga
          have vF2 := put_in kA kF (V.int (p + 1)) vF1 fa
          have vN2 := put_in kA kN (V.int (p + 1)) vN1 na
          have vA2 : valV (putK kvs1 kA (V.int (p + 1))) kA = some (V.int (p + 1)) := put_at kA _
          refine ⟨_, rfl, d, _, rfl, dg kA upd_same vA1, _, _, rfl, rfl, _, rfl, d, _, rfl, DPut.k (k := kA) upd_same (five l1), ?_⟩
          rw [upd_upd]
          generalize putK kvs1 kA (V.int (p + 1)) = kvs2 at *
          refine ⟨_, rfl, _, _, rfl, rfl, ⟨by decide, by decide, by decide⟩, _, _, rfl, rfl, _, rfl, ite2 (fun hge => ?_) (fun _ => ?_)⟩
          · have hge := of_decide_eq_true hge
            refine ⟨_, rfl, _, _, rfl, rfl, ⟨by decide, by decide, by decide⟩, _, _, rfl, rfl, _, rfl, d, _, rfl, DPut.k (k := kG) upd_same (five l2), ?_⟩
            rw [upd_upd]
            have e10 : (10 : Int) ^ (18 : Int).toNat = 1000000000000000000 := by decide
            exact mid _ _ _ (p + 1) _ f upd_same (off _) (by rw [putK_same vG2]; exact l2) (put_in kG kC _ vC2 cg) (put_in kG kA _ vA2 ag) (put_at kG _) (put_in kG kN _ vN2 ng) (put_in kG kF _ vF2 fg) ⟨by omega, by omega⟩ ⟨f0, f1⟩
          · refine ⟨_, rfl, d, _, rfl, dg kF upd_same vF2, _, _, rfl, rfl, .inl ⟨by omega, by omega⟩, _, rfl, _, _, rfl, rfl, .inl ⟨_, rfl, _, _, rfl, rfl, (by show (0 : Int) < 2147483587; decide), _, rfl, d, _, rfl, DPut.k (k := kF) upd_same (five l2), ?_⟩⟩
            rw [upd_upd]
            exact mid _ _ _ (p + 1) g _ upd_same (off _) (by rw [putK_same vF2]; exact l2) (put_in kF kC _ vC2 cf) (put_in kF kA _ vA2 af) (put_in kF kG _ vG2 gf) (put_in kF kN _ vN2 nf) (put_at kF _) ⟨by omega, by omega⟩ ⟨by omega, by omega⟩
        · exact mid _ _ _ p g f upd_same (off _) l1 vC1 vA1 vG1 vN1 vF1 ⟨p0, g0⟩ ⟨f0, f1⟩
      · refine iteF ?_
        exact mid _ _ _ p g f upd_same (off _) l1 vC1 vA1 vG1 vN1 vF1 ⟨p0, g0⟩ ⟨f0, f1⟩
    · clear vC1 vA1 vG1 vF1 vN1 l1 hc1 p0 g0 f0 f1 hl hd
      rintro σ' H2 ⟨kvs2, p2, g2, f2, z, rfl, hd2, off, l2, vC2, vA2, vG2, vN2, vF2, ⟨p0, g0⟩, f0, f1⟩
      have hc2 : H2 c = some (.lst (cs.map V.int)) := (off c ne).trans hc
      have m80 : m.natAbs < 2 ^ 80 := by
        have e : (2 ^ 80 : Nat) = 1208925819614629174706176 := by decide
        omega
      refine ⟨_, rfl, d, _, rfl, dg kG hd2 vG2, _, _, rfl, rfl, _, rfl, ite2 (fun hgt => ?_) (fun _ => ?_)⟩
      · refine ⟨_, rfl, d, _, rfl, dg kG hd2 vG2, .inl ⟨_, rfl, _, rfl, _, _, rfl, rfl, m0, ?_⟩⟩
        refine ⟨_, rfl, d, _, rfl, dg kG hd2 vG2, _, rfl, _, _, rfl, rfl, wide_div m0 m80 (by decide) (by decide), _, rfl, d, _, rfl, DPut.k (k := kG) hd2 (five l2), _, rfl, ?_⟩
        have q0 : 0 ≤ g2 / m := Int.ediv_nonneg g0 (by omega)
        refine k _ _ (Int.emod_nonneg _ (by omega)) (Int.emod_lt_of_pos _ m0) ⟨⟨_, cs, p2, g2 / m, f2, upd_same, by rw [upd_ne ne]; exact hc2, by rw [putK_same vG2]; exact l2, put_in kG kC _ vC2 cg, put_in kG kA _ vA2 ag, put_at kG _, put_in kG kN _ vN2 ng, put_in kG kF _ vF2 fg, ⟨p0, q0⟩, f0, f1⟩, fun b hb => by rw [upd_ne hb]; exact off b hb⟩
      · refine ⟨_, rfl, d, _, rfl, dg kF hd2 vF2, _, rfl, d, _, rfl, dg kN hd2 vN2, _, _, rfl, rfl, .inr ⟨by decide, by decide⟩, _, _, rfl, rfl, _, _, rfl, rfl, ?_⟩
        refine ⟨_, rfl, _, _, rfl, rfl, ⟨by decide, by decide, by omega⟩, _, _, rfl, rfl, (by show (0 : Int) < 2305843009213693951; decide), .inl ⟨_, rfl, _, _, rfl, rfl, ⟨by decide, by decide⟩, _, rfl, _, _, rfl, rfl, m0, ?_⟩⟩
        exact k _ _ (Int.emod_nonneg _ (by omega)) (Int.emod_lt_of_pos _ m0) ⟨⟨kvs2, cs, p2, g2, f2, hd2, hc2, l2, vC2, vA2, vG2, vN2, vF2, ⟨p0, g0⟩, f0, f1⟩, off⟩

theorem scPen : FnScope ["_law_script", "_law_fold", "_law_cell"] ["_law_script"] (defScope sPen) := ⟨rfl, rfl, rfl, by decide +kernel, rfl, by decide +kernel, by decide +kernel⟩
theorem ok_pen {f : Addr} {fd : FuncData} (F : Fun K "_law_pen" "_law_pen" sPen f fd) (mInt : mg "int" = none) (mLst : mg "list" = none) : FnOk P w K mg base CX0 1 f fd ["_law_script"] (spPen K) := by
  refine F.ok scPen (fun vs H Q E h => ?_) (fun cdv A outer s H vs Q E hr h => ?_)
  · obtain ⟨a, ns, rfl, _⟩ := h
    rfl
  · obtain ⟨a, ns, rfl, hS, k⟩ := h
    refine ⟨_, pss_cons (ps_set (i := 1) scPen.nd rfl (Or.inl rfl) pe_int)
      (pss_cons (ps_for PassesOwn.never rfl (pi_list (pv 0)) (pg_name (i := 2) scPen.nd rfl (Or.inl rfl))
        (pss_one (ps_set (i := 1) scPen.nd rfl (Or.inl rfl) (pe_op op_mod (pe_callTy call_int1 (by rfl) mInt (by decide +kernel) (pa_cons (pe_op op_add (pe_op op_mul (pv 1) pe_int) (pv 2)) pa_nil)) pe_int))))
      (pss_one (ps_ret (pe_disp (pps_cons pe_str (pe_callTy call_list_of (by rfl) mLst (by decide +kernel) (pa_cons (pv 0) pa_nil))
        (pps_cons pe_str pe_int (pps_cons pe_str pe_int (pps_cons pe_str pe_int (pps_cons pe_str (pv 1) pps_nil))))) rfl rfl (by simp) (by decide))))), ?_⟩
    refine ⟨_, rfl, a, rfl, ⟨_, hS⟩, for_list (K := K) (a := a) (xs := ns.map V.int) (fun _ σ H2 => ∃ (f : Int) (v : Option V), σ = [some (.ref a), some (.int f), v] ∧ H2 = H ∧ 0 ≤ f ∧ f < 1000000007)
      ⟨0, none, rfl, rfl, by decide, by decide⟩ (fun i σ H2 _ ⟨_, _, _, e, _⟩ => e ▸ hS) ?_ ?_⟩
    · rintro i y σ H2 hi ⟨f, v, rfl, rfl, f0, f1⟩
      obtain ⟨z, rfl⟩ : ∃ z, y = V.int z := by
        rw [List.getElem?_map] at hi
        cases e : ns[i]? with
        | none => rw [e] at hi; cases hi
        | some z => rw [e] at hi; exact ⟨z, (Option.some.inj hi).symm⟩
      refine ⟨_, rfl, _, _, rfl, rfl, .inl ⟨by omega, by omega⟩, _, rfl, _, _, rfl, rfl, .inl ⟨_, rfl, _, _, rfl, rfl, (by show (0 : Int) < 1000000007; decide), ?_⟩⟩
      exact ⟨_, _, rfl, rfl, Int.emod_nonneg _ (by decide), Int.emod_lt_of_pos _ (by decide)⟩
    · rintro σ H2 ⟨f, v, rfl, rfl, f0, f1⟩
      intro d hd
      have hS1 : SqL K (L2.upd H2 d (.dK [])) a (ns.map V.int) := Same.seq (fun b o e => by rw [upd_ne (ne_of_none e hd)]; exact e) hS
      refine ⟨_, rfl, a, _, rfl, .inl hS1, fun c hc => ?_⟩
      have ncd : c ≠ d := fun e => by
        rw [e, upd_same] at hc
        cases hc
      have hc0 : H2 c = none := by rw [upd_ne ncd] at hc; exact hc
      refine ⟨_, rfl, by rw [upd_ne ncd.symm, upd_same], [(kC, .ref c), (kA, .int 0), (kG, .int 0), (kN, .int 0), (kF, .int f)], rfl, (by show 5 ≤ 15; decide), ?_⟩
      have lm := length_mergeK [(kC, V.ref c), (kA, .int 0), (kG, .int 0), (kN, .int 0), (kF, .int f)] []
      obtain ⟨ac, gc, nc, fc, ca, ga, na, fa, cg, ag, ng, fg, cn, an, gn, fn, cf, af, gf, nf⟩ := kne
      have em : mergeK [] [(kC, V.ref c), (kA, .int 0), (kG, .int 0), (kN, .int 0), (kF, .int f)] = putK (putK (putK (putK (putK [] kC (.ref c)) kA (.int 0)) kG (.int 0)) kN (.int 0)) kF (.int f) := rfl
      have v1 : valV (mergeK [] [(kC, V.ref c), (kA, .int 0), (kG, .int 0), (kN, .int 0), (kF, .int f)]) kC = some (.ref c) := by
        rw [em]; exact put_in _ _ _ (put_in _ _ _ (put_in _ _ _ (put_in _ _ _ (put_at _ _) ca) cg) cn) cf
      have v2 : valV (mergeK [] [(kC, V.ref c), (kA, .int 0), (kG, .int 0), (kN, .int 0), (kF, .int f)]) kA = some (.int 0) := by
        rw [em]; exact put_in _ _ _ (put_in _ _ _ (put_in _ _ _ (put_at _ _) ag) an) af
      have v3 : valV (mergeK [] [(kC, V.ref c), (kA, .int 0), (kG, .int 0), (kN, .int 0), (kF, .int f)]) kG = some (.int 0) := by
        rw [em]; exact put_in _ _ _ (put_in _ _ _ (put_at _ _) gn) gf
      have v4 : valV (mergeK [] [(kC, V.ref c), (kA, .int 0), (kG, .int 0), (kN, .int 0), (kF, .int f)]) kN = some (.int 0) := by
        rw [em]; exact put_in _ _ _ (put_at _ _) nf
      have v5 : valV (mergeK [] [(kC, V.ref c), (kA, .int 0), (kG, .int 0), (kN, .int 0), (kF, .int f)]) kF = some (.int f) := by
        rw [em]; exact put_at _ _
      have l5 : (mergeK [] [(kC, V.ref c), (kA, .int 0), (kG, .int 0), (kN, .int 0), (kF, .int f)]).length ≤ 5 := lm
      refine k _ d c ⟨_, ns, 0, 0, f, upd_same, by rw [upd_ne ncd, upd_same], l5, v1, v2, v3, v4, v5, by decide, f0, by omega⟩ (fun b o e => ?_) hd
      rw [upd_ne (ne_of_none e hd), upd_ne (ne_of_none e hc0), upd_ne (ne_of_none e hd)]
      exact e
theorem scPick : FnScope ["_law_pen_here", "_law_some"] ["_law_pen_here", "_law_some"] (defScope sPick) := ⟨rfl, rfl, rfl, by decide +kernel, rfl, by decide +kernel, by decide +kernel⟩
theorem ok_pick {f fD : Addr} {fd fdD : FuncData} (F : Fun K "_law_pick" "_law_pick" sPick f fd) (FD : Fun K "_law_draw" "_law_draw" sDraw fD fdD) (bD : Binds K fdD ["_law_pen_here", "_law_many"] []) (mD : mg "_law_draw" = some (.ref fD))
    (mInt : mg "int" = none) (mLen : mg "len" = none) : FnOk P w K mg base CX0 2 f fd ["_law_pen_here", "_law_some"] (spPick K) := by
  have GD : FnOk P w K mg base CX0 1 fD fdD ["_law_pen_here", "_law_many"] spDraw := ok_draw FD mInt mLen
  refine F.ok scPick (fun vs H Q E h => ?_) (fun cdv A outer s H vs Q E hr h => ?_)
  · obtain ⟨d, c, a, n, xs, rfl, _⟩ := h
    rfl
  · obtain ⟨d, c, a, n, xs, rfl, pen, ha, x0, x1, n0, n1, k⟩ := h
    refine ⟨_, pss_one (ps_ret (pe_ix ix_list (pv 1) (pe_call GD hr rfl mD FD.kp bD .nil pass0 (pa_cons (pv 0) (pa_cons (pe_callB call_len_seq (by rfl) mLen PySem.boot_len (pa_cons (pv 1) pa_nil)) pa_nil))) (fun _ _ => rfl))), ?_⟩
    refine ⟨_, rfl, _, rfl, _, rfl, a, _, rfl, .inl (SqL.of ha), d, c, n, _, rfl, pen, by omega, by omega, n0, n1, fun r H' r0 r1 dr => ?_⟩
    have nda : a ≠ d := fun e => by
      obtain ⟨kvs, cs, p, g, f, h1, _⟩ := pen
      rw [e, h1] at ha
      cases ha
    have hr : r.toNat < xs.length := by omega
    refine ⟨a, _, _, _, rfl, rfl, SqL.of ((dr.off a nda).trans ha), at_of (j := r.toNat) (by omega) (List.getElem?_eq_getElem hr), ?_⟩
    exact k _ _ (List.getElem_mem hr) dr
theorem scLarge : FnScope ["_law_pen_here", "_law_way", "_law_total", "_law_k"] ["_law_pen_here"] (defScope sLarge) := ⟨rfl, rfl, rfl, by decide +kernel, rfl, by decide +kernel, by decide +kernel⟩
theorem ok_large {f fD fP : Addr} {fd fdD fdP : FuncData} (F : Fun K "_law_large" "_law_large" sLarge f fd) (FD : Fun K "_law_draw" "_law_draw" sDraw fD fdD) (bD : Binds K fdD ["_law_pen_here", "_law_many"] []) (mD : mg "_law_draw" = some (.ref fD))
    (FP : Fun K "_law_pick" "_law_pick" sPick fP fdP) (bP : Binds K fdP ["_law_pen_here", "_law_some"] []) (mP : mg "_law_pick" = some (.ref fP))
    (mInt : mg "int" = none) (mLen : mg "len" = none) (mRng : mg "range" = none) : FnOk P w K mg base CX0 3 f fd ["_law_pen_here"] spLarge := by
  have GD : FnOk P w K mg base CX0 1 fD fdD ["_law_pen_here", "_law_many"] spDraw := ok_draw FD mInt mLen
  have GP : FnOk P w K mg base CX0 2 fP fdP ["_law_pen_here", "_law_some"] (spPick K) := ok_pick FP FD bD mD mInt mLen
  refine F.ok scLarge (fun vs H Q E h => ?_) (fun cdv A outer s H vs Q E hr h => ?_)
  · obtain ⟨d, c, n, rfl, _⟩ := h
    rfl
  · obtain ⟨d, c, n, rfl, pen, n0, n1, k⟩ := h
    have hr1 : Room 1 _ := hr.mono (by decide)
    refine ⟨_, pss_cons (ps_par (i := 1) (j := 2) rfl scLarge.nd rfl rfl (by decide) rfl rfl (pa_cons (pe_call GD hr1 rfl mD FD.kp bD .nil pass0 (pa_cons (pv 0) (pa_cons pe_int pa_nil))) (pa_cons pe_int pa_nil)) (by rfl))
      (pss_cons (ps_if (pt_cmpR op_lt (pv 1) pe_int (nomark _)) (pss_one (ps_ret (pe_call GD hr1 rfl mD FD.kp bD .nil pass0 (pa_cons (pv 0) (pa_cons pe_int pa_nil))))) pss_nil)
      (pss_cons (ps_for PassesOwn.never rfl (pi_range1 rfl mRng (pa_cons (pe_call GP hr rfl mP FP.kp bP .nil pass0 (pa_cons (pv 0) (pa_cons (pe_lst (pa_cons pe_int (pa_cons pe_int (pa_cons pe_int (pa_cons pe_int pa_nil))))) pa_nil))) pa_nil)) (pg_name (i := 3) scLarge.nd rfl (Or.inl rfl))
        (pss_one (ps_set (i := 2) scLarge.nd rfl (Or.inl rfl) (pe_op op_add (pe_op op_mul (pv 2) pe_int) (pe_call GD hr1 rfl mD FD.kp bD .nil pass0 (pa_cons (pv 0) (pa_cons pe_int pa_nil)))))))
      (pss_one (ps_ret (pv 2))))), ?_⟩
    refine ⟨_, rfl, d, c, n, 6, rfl, pen, by decide, by decide, n0, by omega, fun way H1 w0 w1 dr1 => ?_⟩
    refine ⟨_, _, rfl, ?_⟩
    refine ⟨_, rfl, _, _, rfl, rfl, _, rfl, ite2 (fun _ => ?_) (fun _ => ?_)⟩
    · refine ⟨_, rfl, d, c, n + 1, 40, rfl, dr1.pen, by decide, by decide, by omega, by omega, fun r H2 r0 r1 dr2 => ?_⟩
      have dr := dr1.trans dr2
      exact k r (n + 1 + 1) H2 r0 (Int.lt_trans r1 (by decide)) (by omega) (by omega) dr.pen fun b o e hb => (dr.off b hb).trans e
    · refine ⟨_, rfl, (by show 4 ≤ sizeLine; decide), fun p np => ?_⟩
      have pen1 := dr1.pen.upd (o := .lst [.int 1, .int 2, .int 6, .int 19]) np
      refine ⟨d, c, p, n + 1, [.int 1, .int 2, .int 6, .int 19], rfl, pen1, upd_same, by decide, by decide, by omega, by omega, fun x H2 hx dr2 => ?_⟩
      obtain ⟨j, rfl, j0, j1⟩ : ∃ j : Int, x = .int j ∧ 1 ≤ j ∧ j ≤ 19 := by
        rcases List.mem_cons.mp hx with rfl | hx
        · exact ⟨_, rfl, by decide, by decide⟩
        rcases List.mem_cons.mp hx with rfl | hx
        · exact ⟨_, rfl, by decide, by decide⟩
        rcases List.mem_cons.mp hx with rfl | hx
        · exact ⟨_, rfl, by decide, by decide⟩
        rcases List.mem_cons.mp hx with rfl | hx
        · exact ⟨_, rfl, by decide, by decide⟩
        · exact (List.not_mem_nil hx).elim
      have fr2 : ∀ b o, H b = some o → b ≠ d → H2 b = some o := fun b o e hb => by
        have h1 : H1 b = some o := (dr1.off b hb).trans e
        rw [dr2.off b hb, upd_ne (ne_of_none h1 np)]
        exact h1
      refine ⟨j, rfl, by omega, by omega, for_range (lo := 0) (n := j.toNat) (fun i σ H3 => ∃ (t n' : Int) (v : Option V), σ = [some (.ref d), some (.int way), some (.int t), v] ∧ 0 ≤ t ∧ t < ((1000 ^ i : Nat) : Int) ∧ n' = n + 2 + (i : Int) ∧
        Pen H3 d c n' ∧ ∀ b o, H b = some o → b ≠ d → H3 b = some o) ⟨0, _, none, rfl, by decide, by decide, rfl, ?_, fr2⟩ ?_ ?_⟩
      · have e := dr2.pen
        rw [show n + 1 + 1 = n + 2 + ((0 : Nat) : Int) by omega] at e
        exact e
      · rintro i σ H3 hi ⟨t, n', v, rfl, t0, t1, rfl, pen3, fr3⟩
        refine ⟨_, rfl, _, _, rfl, rfl, .inr ⟨by decide, by decide⟩, _, rfl, d, c, _, 1000, rfl, pen3, by decide, by decide, by omega, by omega, fun r H4 r0 r1 dr4 => ?_⟩
        refine ⟨_, _, rfl, rfl, ?_⟩
        refine ⟨_, _, _, rfl, by omega, ?_, ?_, dr4.pen, fun b o e hb => (dr4.off b hb).trans (fr3 b o e hb)⟩
        · rw [Nat.pow_succ]
          omega
        · omega
      · rintro σ H3 ⟨t, n', v, rfl, t0, t1, rfl, pen3, fr3⟩
        have hp : 1000 ^ j.toNat ≤ 1000 ^ 19 := Nat.pow_le_pow_right (by decide) (by omega)
        have e19 : (1000 ^ 19 : Nat) = 10 ^ 57 := by decide
        refine ⟨_, rfl, ?_⟩
        refine k t _ H3 t0 ?_ (by omega) (by omega) pen3 fr3
        have : ((1000 ^ j.toNat : Nat) : Int) ≤ ((10 ^ 57 : Nat) : Int) := by rw [← e19]; exact Int.ofNat_le.mpr hp
        exact Int.lt_of_lt_of_le t1 this
end
end K02

namespace K02
open PySem L2 Gd B5
section
variable {P : Program} {w : World} {K : PySem.W.Frag} {mg : Str → Option Value} {base : Heap}
abbrev sBadNumber : Stmt := inClass (top 4) 0
theorem scBadNumber : FnScope ["self", "what", "number"] ["self", "what", "number"] (defScope sBadNumber) := ⟨rfl, rfl, rfl, by decide +kernel, rfl, by decide +kernel, by decide +kernel⟩
theorem okBadNumber {f C : Addr} {fd : FuncData} (F : Fun K "__init__" "BadNumber.__init__" sBadNumber f fd) (T : OexC K C) (no : ∀ g ∈ (["what", "number"] : List Str), PySem.W.findIn K (.ref C) g = some none) : FnOk P w K mg base CX0 1 f fd ["self", "what", "number"] (spIni C ["what", "number"]) := by
  refine F.ok scBadNumber (fun vs H Q E h => ?_) (fun cdv A outer s H vs Q E hr h => ?_)
  · obtain ⟨a, ys, rfl, hl, _⟩ := h
    show ys.length + 1 = _
    rw [hl]
    rfl
  · obtain ⟨a, ys, rfl, hl, ha, k⟩ := h
    match ys, hl with
    | [y0, y1], _ =>
    refine ⟨_, pss_cons (ps_ost (pv 0) (pv 1)) (pss_one (ps_ost (pv 0) (pv 2))), ?_⟩
    refine ⟨_, rfl, _, rfl, a, C, rfl, T, no _ (.head _), .inl ⟨ha, fun dx hdx ne => ?_⟩⟩
    refine ⟨_, rfl, _, rfl, a, C, rfl, T, no _ (.tail _ (.head _)), .inr ⟨dx, _, upd_same, by rw [upd_ne ne, upd_same], by show 1 ≤ 900; decide, ?_⟩⟩
    refine k _ dx hdx ne (fun b hb hd => ?_) ?_ ?_
    · rw [upd_ne hd, upd_ne hb, upd_ne hd]
    · rw [upd_ne ne.symm, upd_same]
    · exact upd_same
abbrev sBadRow : Stmt := inClass (top 5) 0
theorem scBadRow : FnScope ["self", "row"] ["self", "row"] (defScope sBadRow) := ⟨rfl, rfl, rfl, by decide +kernel, rfl, by decide +kernel, by decide +kernel⟩
theorem okBadRow {f C : Addr} {fd : FuncData} (F : Fun K "__init__" "BadRow.__init__" sBadRow f fd) (T : OexC K C) (no : ∀ g ∈ (["row"] : List Str), PySem.W.findIn K (.ref C) g = some none) : FnOk P w K mg base CX0 1 f fd ["self", "row"] (spIni C ["row"]) := by
  refine F.ok scBadRow (fun vs H Q E h => ?_) (fun cdv A outer s H vs Q E hr h => ?_)
  · obtain ⟨a, ys, rfl, hl, _⟩ := h
    show ys.length + 1 = _
    rw [hl]
    rfl
  · obtain ⟨a, ys, rfl, hl, ha, k⟩ := h
    match ys, hl with
    | [y0], _ =>
    refine ⟨_, pss_one (ps_ost (pv 0) (pv 1)), ?_⟩
    refine ⟨_, rfl, _, rfl, a, C, rfl, T, no _ (.head _), .inl ⟨ha, fun dx hdx ne => ?_⟩⟩
    refine k _ dx hdx ne (fun b hb hd => ?_) ?_ ?_
    · rw [upd_ne hb, upd_ne hd]
    · exact upd_same
    · rw [upd_ne ne, upd_same]; rfl
abbrev sUnlike : Stmt := inClass (top 6) 0
theorem scUnlike : FnScope ["self", "what"] ["self", "what"] (defScope sUnlike) := ⟨rfl, rfl, rfl, by decide +kernel, rfl, by decide +kernel, by decide +kernel⟩
theorem okUnlike {f C : Addr} {fd : FuncData} (F : Fun K "__init__" "Unlike.__init__" sUnlike f fd) (T : OexC K C) (no : ∀ g ∈ (["what"] : List Str), PySem.W.findIn K (.ref C) g = some none) : FnOk P w K mg base CX0 1 f fd ["self", "what"] (spIni C ["what"]) := by
  refine F.ok scUnlike (fun vs H Q E h => ?_) (fun cdv A outer s H vs Q E hr h => ?_)
  · obtain ⟨a, ys, rfl, hl, _⟩ := h
    show ys.length + 1 = _
    rw [hl]
    rfl
  · obtain ⟨a, ys, rfl, hl, ha, k⟩ := h
    match ys, hl with
    | [y0], _ =>
    refine ⟨_, pss_one (ps_ost (pv 0) (pv 1)), ?_⟩
    refine ⟨_, rfl, _, rfl, a, C, rfl, T, no _ (.head _), .inl ⟨ha, fun dx hdx ne => ?_⟩⟩
    refine k _ dx hdx ne (fun b hb hd => ?_) ?_ ?_
    · rw [upd_ne hb, upd_ne hd]
    · exact upd_same
    · rw [upd_ne ne, upd_same]; rfl
end
end K02

namespace K02
open PySem L2 Gd B5
section
variable {P : Program} {w : World} {K : PySem.W.Frag} {mg : Str → Option Value} {base : Heap}
abbrev sIsI : Stmt := top 8
theorem scIsI : FnScope ["value"] ["value"] (defScope sIsI) := ⟨rfl, rfl, rfl, by decide +kernel, rfl, by decide +kernel, by decide +kernel⟩
theorem ok_isI {f : Addr} {fd : FuncData} (F : Fun K "is_integer" "is_integer" sIsI f fd) (mIsi : mg "isinstance" = none) (mInt : mg "int" = none) (mBool : mg "bool" = none) : FnOk P w K mg base CX0 1 f fd ["value"] (spIsI K) := by
  refine F.ok scIsI (fun vs H Q E h => ?_) (fun cdv A outer s H vs Q E hr h => ?_)
  · obtain ⟨x, rfl, _⟩ := h
    rfl
  · obtain ⟨x, rfl, h⟩ := h
    refine ⟨_, pss_one (ps_ret (pe_and (pe_callB call_isi (by rfl) mIsi (by decide +kernel) (pa_cons (pv 0) (pa_cons (pe_bltn (v := .ty "int") rfl mInt (by decide +kernel) rfl) pa_nil)))
      (pe_one (pe_not (pe_callB call_isi (by rfl) mIsi (by decide +kernel) (pa_cons (pv 0) (pa_cons (pe_bltn (v := .ty "bool") rfl mBool (by decide +kernel) rfl) pa_nil))))))), ?_⟩
    obtain ⟨i, rfl, q⟩ | ⟨⟨n, hn, t⟩, q⟩ | ⟨t, ty, kt, q⟩ := h
    · refine ⟨_, rfl, _, _, _, _, _, rfl, .ty "int", .base (.int i), kit_ty on_int.1, _, rfl, iteT ?_⟩
      exact ⟨_, rfl, _, _, _, _, _, rfl, .ty "bool", .base (.int i), kit_ty on_int.2, _, rfl, q⟩
    · obtain ⟨k1, k2⟩ := off_int n hn
      refine ⟨_, rfl, _, _, _, _, _, rfl, .ty "int", t, kit_ty k1, _, rfl, ite2 (fun z => ?_) (fun z => q)⟩
      refine ⟨_, rfl, _, _, _, _, _, rfl, .ty "bool", t, kit_ty k2, _, rfl, ?_⟩
      rw [z]
      exact q
    · exact ⟨_, rfl, _, _, _, _, _, rfl, .ty "int", ty, kt, _, rfl, iteF q⟩
end
section
variable {P : Program} {w : World} {K : PySem.W.Frag} {mg : Str → Option Value} {base : Heap}
end
section
variable {P : Program} {w : World} {K : PySem.W.Frag} {mg : Str → Option Value} {base : Heap}
variable {fI f : Addr} {fdI fd : FuncData}
abbrev sIsIs : Stmt := top 9
theorem scIsIs : FnScope ["value", "item"] ["value"] (defScope sIsIs) := ⟨rfl, rfl, rfl, by decide +kernel, rfl, by decide +kernel, by decide +kernel⟩
theorem ok_isIs (F : Fun K "is_integers" "is_integers" sIsIs f fd) (B : Blt mg) (I : Cl K mg "is_integer" sIsI ["value"] fI fdI) :
    FnOk P w K mg base CX0 2 f fd ["value"] (spIsIs K) := by
  have GI : FnOk P w K mg base CX0 1 fI fdI ["value"] (spIsI K) := ok_isI I.fn B.isi_ B.int_ B.bool_
  refine F.ok scIsIs (fun vs H Q E h => ?_) (fun cdv A outer s H vs Q E hr h => ?_)
  · obtain ⟨x, rfl, _⟩ := h
    rfl
  · obtain ⟨x, rfl, h⟩ := h
    refine ⟨_, pss_one (ps_ret (pe_and (pe_callB call_isiT (by rfl) B.isi_ (by decide +kernel) (pa_cons (pv 0) (pa_cons (pe_tup (pa_cons (pe_bltn (v := .ty "tuple") rfl B.tup_ (by decide +kernel) rfl)
        (pa_cons (pe_bltn (v := .ty "list") rfl B.list_ (by decide +kernel) rfl) pa_nil))) pa_nil)))
      (pe_one (pe_callB (cr_all rfl) (by rfl) B.all_ (by decide +kernel) (pa_cons (pe_lc (own := [("item", 1)]) (g := gName 1) (tt := tYes) rfl scIsIs.nd (pi_or (pi_list (pv 0)) (pi_tup (pv 0)))
        (blkOk_by (N := ["value", "item"]) (sc := defScope sIsIs) (by decide +kernel))
        (fun _ _ _ _ _ => pg_name (i := 1) scIsIs.nd rfl (Or.inl rfl)) (fun _ _ _ _ _ => pts_nil)
        (fun _ _ _ _ _ => pe_call GI hr rfl I.g I.k I.b .nil pass0 (pa_cons (pv 1) pa_nil))) pa_nil))))), ?_⟩
    refine ⟨_, rfl, (by show 2 ≤ sizeLine; decide), fun t ht => ?_⟩
    have m1 : More H (upd H t (.tup [.ty "tuple", .ty "list"])) := More.new (fun _ _ e => e) ht
    obtain ⟨n, hn, ty, q⟩ | ⟨a, xs, rfl, sq, few, all, q⟩ := h
    · obtain ⟨k1, k2⟩ := seq_no n hn
      refine ⟨_, t, _, _, _, false, rfl, upd_same, .cons (.ty "tuple") (.cons (.ty "list") .nil), tyMore m1 ty, kitAny_cons (kit_ty k1) (fun _ => kitAny_cons (kit_ty k2) (fun _ => kitAny_nil) (fun z => nomatch z)) (fun z => nomatch z), _, rfl, iteF ?_⟩
      exact q _ m1
    · have yes : ∃ n, TyX K H (.ref a) (.type n) ∧ PySem.W.kitAny K (.type n) [.type "tuple", .type "list"] = some true := by
        obtain h | h := sq
        · exact ⟨_, tyL h, kitAny_cons (kit_ty seq_yes.2.1) (fun _ => kitAny_cons (kit_ty seq_yes.2.2) (fun z => nomatch z) (fun _ => rfl)) (fun z => nomatch z)⟩
        · exact ⟨_, tyT h, kitAny_cons (kit_ty seq_yes.1) (fun z => nomatch z) (fun _ => rfl)⟩
      obtain ⟨n, ty, ka⟩ := yes
      refine ⟨_, t, _, _, _, true, rfl, upd_same, .cons (.ty "tuple") (.cons (.ty "list") .nil), tyMore m1 ty, ka, _, rfl, iteT ?_⟩
      have sq1 := Sq.more m1 sq
      generalize upd H t (.tup [.ty "tuple", .ty "list"]) = H1 at m1 sq1 ⊢
      have body : ∀ (J : It) (G : Hp → Prop), Walk J xs.length G (YAt xs) → (∀ H', More H1 H' → G H') → ∀ L, H1 L = none → _ :=
        fun J G wk hG L hL => lc_it (w := wk) (vs := [1]) (g := gName 1) (tt := tYes) (σ := [some (.ref a), none]) (D := L) (H1 := H1)
          (te := tCall (spIsI K) [] (fun _ _ _ => False) (tCons (tVar 1) tNil))
          (Qd := fun H' => ∃ (b : Addr) (bs : List Bool), [V.ref L] = [V.ref b] ∧ SqL K H' b (bs.map V.bl) ∧ Q (.bl (bs.all id)) H')
          (fun i H' => H' L = some (.lst ((xs.take i).map fun y => V.bl (isI y))) ∧ More H1 H') ⟨upd_same, More.new (fun _ _ e => e) hL⟩ (fun i H' _ h => hG H' h.2)
          (fun i y H2 H3 hi ⟨e1, m2⟩ ⟨eH, hy⟩ => by
            subst eH
            have la : ((xs.take i).map fun y => V.bl (isI y)).length < sizeLine := by
              rw [List.length_map, List.length_take]
              exact small1000 (by omega)
            have fin : ∀ b, isI y = b → ∃ acc, H3 L = some (.lst acc) ∧ acc.length < sizeLine ∧ (upd H3 L (.lst (acc ++ [V.bl b]))) L = some (.lst ((xs.take (i + 1)).map fun y => V.bl (isI y))) ∧ More H1 (upd H3 L (.lst (acc ++ [V.bl b]))) := by
              intro b hb
              refine ⟨_, e1, la, ?_, m2.at hL⟩
              rw [upd_same, take_snoc hy, List.map_append, List.map_cons, List.map_nil, hb]
            refine ⟨rfl, _, rfl, y, rfl, ?_⟩
            obtain ⟨z, rfl⟩ | no := all y (List.mem_of_getElem? hy)
            · exact .inl ⟨z, rfl, fin _ rfl⟩
            · exact .inr (.inl ⟨no.more fun b o e => m2 b o (m1 b o e), fin _ (noInt_isI no)⟩))
          (fun H' ⟨e1, m2⟩ => by
            rw [List.take_length] at e1
            refine ⟨L, xs.map isI, rfl, SqL.of (by rw [List.map_map]; exact e1), ?_⟩
            have : ((xs.map isI).all id) = xs.all isI := by rw [List.all_map]; rfl
            rw [this]
            exact q _ fun b o e => m2 b o (m1 b o e))
      obtain h | h := sq1
      · exact .inl ⟨_, rfl, a, rfl, ⟨xs, h⟩, body _ _ walk_list fun H' m => Same.seq m h⟩
      · exact .inr ⟨_, rfl, a, rfl, ⟨xs, h⟩, body _ _ walk_tup fun H' m => sqT_more m h⟩
end
end K02

namespace K02
open PySem L2 Gd B5
section
variable {P : Program} {w : World} {K : PySem.W.Frag} {mg : Str → Option Value} {base : Heap}
variable {fI fS f : Addr} {fdI fdS fd : FuncData}
abbrev sRow : Stmt := top 10
theorem scRow : FnScope ["value", "width"] ["value", "width"] (defScope sRow) := ⟨rfl, rfl, rfl, by decide +kernel, rfl, by decide +kernel, by decide +kernel⟩
theorem ok_row (F : Fun K "is_row" "is_row" sRow f fd) (B : Blt mg) (I : Cl K mg "is_integer" sIsI ["value"] fI fdI) (S : Cl K mg "is_integers" sIsIs ["value"] fS fdS) :
    FnOk P w K mg base CX0 3 f fd ["value", "width"] (spRow K) := by
  have GS : FnOk P w K mg base CX0 2 fS fdS ["value"] (spIsIs K) := ok_isIs S.fn B I
  refine F.ok scRow (fun vs H Q E h => ?_) (fun cdv A outer s H vs Q E hr h => ?_)
  · obtain ⟨x, n, rfl, _⟩ := h
    rfl
  · obtain ⟨x, n, rfl, h⟩ := h
    refine ⟨_, pss_one (ps_ret (pe_and (pe_call GS hr rfl S.g S.k S.b .nil pass0 (pa_cons (pv 0) pa_nil))
      (pe_one (pe_cmpR op_eq (pe_callB call_len_seq (by rfl) B.len_ PySem.boot_len (pa_cons (pv 0) pa_nil)) (pv 1) (nomark _))))), ?_⟩
    obtain ⟨⟨m, hm, t⟩, q⟩ | ⟨a, xs, rfl, s, i, q⟩ := h
    · exact ⟨_, rfl, x, rfl, .inl ⟨m, hm, t, fun H' mo => ⟨_, rfl, iteF (q H' mo)⟩⟩⟩
    · refine ⟨_, rfl, _, rfl, .inr ⟨a, xs, rfl, s, i.1, i.2, fun H' mo => ⟨_, rfl, ?_⟩⟩⟩
      have q := q H' mo
      cases e : xs.all isI with
      | false =>
        rw [e] at q
        exact iteF q
      | true =>
        rw [e] at q
        exact iteT ⟨_, rfl, a, _, rfl, s.more mo, _, rfl, rfl, by rw [deI]; exact q⟩
end
end K02

namespace K02
open PySem L2 Gd B5
section
variable {P : Program} {w : World} {K : PySem.W.Frag} {mg : Str → Option Value} {base : Heap}
variable {fN CN fI fC f : Addr} {fdN fdI fdC fd : FuncData} {D : Addr}
abbrev sCP : Stmt := top 15
theorem scCP : FnScope ["p"] ["p"] (defScope sCP) := ⟨rfl, rfl, rfl, by decide +kernel, rfl, by decide +kernel, by decide +kernel⟩
abbrev sDg : Stmt := top 16
theorem scDg : FnScope ["n", "p", "found", "digit"] ["n", "p"] (defScope sDg) := ⟨rfl, rfl, rfl, by decide +kernel, rfl, by decide +kernel, by decide +kernel⟩
theorem ok_cp (F : Fun K "check_prime" "check_prime" sCP f fd) (B : Blt mg) (I : Cl K mg "is_integer" sIsI ["value"] fI fdI)
    (N : Er K mg "BadNumber" "BadNumber.__init__" CN fN ["what", "number"] sBadNumber fdN) (gD : mg "PRIMES" = some (.ref D)) (dD : tupI K (.ref D) = some [2, 3, 5, 7]) :
    FnOk P w K mg base (L2.CX P w) 3 f fd ["p"] (spCP K CN) := by
  have GI : FnOk P w K mg base CX0 1 fI fdI ["value"] (spIsI K) := ok_isI I.fn B.isi_ B.int_ B.bool_
  have GN : FnOk P w K mg base CX0 1 fN fdN ["self", "what", "number"] (spIni CN ["what", "number"]) := okBadNumber N.fn N.T N.no
  refine F.okX scCP (fun vs H Q E h => ?_) (fun cdv A outer s H vs Q E hr h => ?_)
  · obtain ⟨x, rfl, _⟩ := h
    rfl
  · obtain ⟨x, rfl, h⟩ := h
    have hT : SqT K H D ([2, 3, 5, 7].map V.int) := by
      obtain ⟨a, us, n, sl, ea, hk, rv⟩ := tupI_some dD
      cases ea
      refine .inr ⟨_, us, n, hk, rfl, rfl, ?_, rv⟩
      have z := Paired.length rv
      have z2 : us.toList.length = us.size := Array.length_toList
      rw [← z2, ← z, sizeLine_eq]
      show 4 ≤ 16777216
      decide
    refine ⟨_, pss_one (ps_if (PW.pt (pw_or (pt_not (pt_val (pe_call GI (hr.mono (by decide)) rfl I.g I.k I.b .nil pass0 (pa_cons (pv 0) pa_nil))))
          (pw_or1 (pt_cmpR op_notIn_seq (pv 0) (pe_glob (v := .ref D) rfl gD rfl) (by rfl)))))
        (pss_one (ps_raise rfl (takes_of rfl rfl rfl rfl) (pmk_oex N.T N.iC N.tI GN hr N.b .nil pass0 rfl N.g (pa_cons pe_str (pa_cons (pv 0) pa_nil))))) pss_nil), ?_⟩
    obtain ⟨m, rfl, l, q⟩ | ⟨⟨m, rfl, l⟩ | bad, q⟩ := h
    · refine ⟨_, rfl, _, rfl, .inl ⟨m, rfl, _, rfl, iteF ⟨_, rfl, D, _, rfl, .inr hT, rfl, rfl, _, rfl, ?_⟩⟩⟩
      rw [if_pos rfl, show inV (V.int m) ([2, 3, 5, 7].map V.int) = true from l]
      exact iteF q
    · refine ⟨_, rfl, _, rfl, .inl ⟨m, rfl, _, rfl, iteF ⟨_, rfl, D, _, rfl, .inr hT, rfl, rfl, _, rfl, ?_⟩⟩⟩
      rw [if_pos rfl, show inV (V.int m) ([2, 3, 5, 7].map V.int) = false from l]
      exact iteT ⟨_, rfl, mk_ini rfl (by show 2 ≤ 900; decide) q⟩
    · exact ⟨_, rfl, _, rfl, .inr (.inl ⟨bad, _, rfl, iteT (iteT ⟨_, rfl, mk_ini rfl (by show 2 ≤ 900; decide) q⟩)⟩)⟩
theorem ok_dg (F : Fun K "digits" "digits" sDg f fd) (B : Blt mg) (I : Cl K mg "is_integer" sIsI ["value"] fI fdI) (C : Cl K mg "check_prime" sCP ["p"] fC fdC)
    (N : Er K mg "BadNumber" "BadNumber.__init__" CN fN ["what", "number"] sBadNumber fdN) (gD : mg "PRIMES" = some (.ref D)) (dD : tupI K (.ref D) = some [2, 3, 5, 7]) :
    FnOk P w K mg base (L2.CX P w) 4 f fd ["n", "p"] (spDg K CN) := by
  have GI : FnOk P w K mg base CX0 1 fI fdI ["value"] (spIsI K) := ok_isI I.fn B.isi_ B.int_ B.bool_
  have GN : FnOk P w K mg base CX0 1 fN fdN ["self", "what", "number"] (spIni CN ["what", "number"]) := okBadNumber N.fn N.T N.no
  have GC : FnOk P w K mg base (L2.CX P w) 3 fC fdC ["p"] (spCP K CN) := ok_cp C.fn B I N gD dD
  refine F.okX scDg (fun vs H Q E h => ?_) (fun cdv A outer s H vs Q E hr h => ?_)
  · obtain ⟨x, y, rfl, _⟩ := h
    rfl
  · obtain ⟨x, y, rfl, h⟩ := h
    refine ⟨_, pss_cons (ps_if (PW.pt (pw_or (pt_not (pt_val (pe_call GI (hr.mono (by decide)) rfl I.g I.k I.b .nil pass0 (pa_cons (pv 0) pa_nil))))
          (pw_or1 (pt_cmpR op_lt (pv 0) pe_int (nomark _)))))
        (pss_one (ps_raise rfl (takes_of rfl rfl rfl rfl) (pmk_oex N.T N.iC N.tI GN (hr.mono (by decide)) N.b .nil pass0 rfl N.g (pa_cons pe_str (pa_cons (pv 0) pa_nil))))) pss_nil)
      (pss_cons (ps_expr (pe_call GC hr rfl C.g C.k C.b .nil (passes_call (takes_of rfl rfl rfl rfl) (fun _ _ _ _ h => h)) (pa_cons (pv 1) pa_nil)))
      (pss_cons (ps_set (i := 2) scDg.nd rfl (Or.inl rfl) (pe_lst pa_nil))
      (pss_cons (ps_while (passes_of rfl) (pt_cmpR op_gt (pv 0) pe_int (nomark _))
        (pss_cons (ps_asg (pe_callB call_divmod (by rfl) B.divmod_ (by decide +kernel) (pa_cons (pv 0) (pa_cons (pv 1) pa_nil)))
            (pg_tup (by rfl) (pgs_cons (pg_name (i := 0) scDg.nd rfl (Or.inl rfl)) (pgs_cons (pg_name (i := 3) scDg.nd rfl (Or.inl rfl)) pgs_nil))))
          (pss_one (ps_expr (pe_bm PySem.F.plainAttrs_list PySem.F.slot_list_append PySem.F.type_list_append mt_append (pv 2) (pa_cons (pv 3) pa_nil))))))
      (pss_one (ps_ret (pe_callTy call_tuple_of (by rfl) B.tup_ (by decide +kernel) (pa_cons (pv 2) pa_nil))))))), ?_⟩
    obtain ⟨n, p, rfl, rfl, pr, big, q⟩ | ⟨⟨i, rfl, neg⟩ | bad, q⟩ | ⟨n, rfl, n0, bad, q⟩ := h
    · obtain ⟨p2, p7⟩ := isPr_small pr
      refine ⟨_, rfl, _, rfl, .inl ⟨_, rfl, _, rfl, iteF ⟨_, rfl, _, _, rfl, rfl, _, rfl, ?_⟩⟩⟩
      rw [show decide ((n : Int) < 0) = false from decide_eq_false (by omega)]
      refine iteF ⟨_, rfl, _, rfl, .inl ⟨_, rfl, pr, ?_⟩⟩
      refine ⟨(by show 0 ≤ sizeLine; exact Nat.zero_le _), fun l hl => ?_⟩
      refine while_by (fun σ H2 => ∃ (m : Nat) (acc : List Int) (z : Option V), σ = [some (.int m), some (.int p), some (.ref l), z] ∧ H2 l = some (.lst (acc.map V.int)) ∧
          More H H2 ∧ acc ++ dgs p m = dgs p n) (fun σ _ => match σ with | some (.int m) :: _ => m.toNat | _ => 0)
        ⟨n, [], none, rfl, upd_same, More.new (fun _ _ e => e) hl, rfl⟩ ?_ ?_
      · rintro σ H2 ⟨m, acc, z, rfl, hl2, mo, eq⟩
        refine ⟨_, rfl, _, _, rfl, rfl, _, rfl, ite2 (fun hm => ?_) (fun hm => ?_)⟩
        · have hm : (0 : Int) < m := of_decide_eq_true hm
          have m0 : 0 < m := by omega
          refine ⟨_, rfl, _, rfl, _, _, rfl, ⟨by omega, by omega⟩, fun t ht => ?_⟩
          have lt : l ≠ t := ne_of_none hl2 ht
          have hl3 : (upd H2 t (.tup [.int ((m : Int) / p), .int ((m : Int) % p)])) l = some (.lst (acc.map V.int)) := by rw [upd_ne lt]; exact hl2
          refine ⟨t, _, rfl, SqT.of upd_same, rfl, _, _, rfl, _, _, rfl, rfl, ?_⟩
          have short : acc.length < sizeLine := by
            have e := congrArg List.length eq
            rw [List.length_append] at e
            have := dgs_len (show 2 ≤ p by omega) 400 n big
            exact small1000 (by omega)
          refine ⟨_, rfl, .inl ⟨rfl, _, SqL.of hl3⟩, _, rfl, l, _, _, rfl, rfl, hl3, by rw [List.length_map]; exact short, ?_⟩
          refine ⟨⟨m / p, acc ++ [((m % p : Nat) : Int)], _, rfl, ?_, ?_, ?_⟩, ?_⟩
          · rw [upd_same, List.map_append]
            rfl
          · refine More.at (More.new mo ht) (More.off ?_ hl)
            exact fun b o e => e
          · rw [List.append_assoc, List.singleton_append, ← dgs_pos m0 (by omega)]
            exact eq
          · show ((m / p : Nat) : Int).toNat < (m : Int).toNat
            have := Nat.div_lt_self m0 (show 1 < p by omega)
            omega
        · have hm : ¬ ((0 : Int) < m) := fun z => hm (decide_eq_true z)
          have m0 : m = 0 := by omega
          rw [m0, dgs_zero, List.append_nil] at eq
          rw [eq] at hl2
          refine ⟨_, rfl, l, _, rfl, .inl ⟨SqL.of hl2, fun t ht => ?_⟩⟩
          exact q _ t (More.new mo ht) (More.off mo ht) upd_same
      · rintro σ H2 Q1 Q2 f ⟨v, e, x, y, e1, e2, c, e3, q2⟩
        exact ⟨v, e, x, y, e1, e2, c, e3, f _ _ q2⟩
    · refine ⟨_, rfl, _, rfl, .inl ⟨i, rfl, _, rfl, iteF ⟨_, rfl, _, _, rfl, rfl, _, rfl, ?_⟩⟩⟩
      rw [show decide (i < 0) = true from decide_eq_true neg]
      exact iteT ⟨_, rfl, mk_ini rfl (by show 2 ≤ 900; decide) q⟩
    · exact ⟨_, rfl, _, rfl, .inr (.inl ⟨bad, _, rfl, iteT (iteT ⟨_, rfl, mk_ini rfl (by show 2 ≤ 900; decide) q⟩)⟩)⟩
    · refine ⟨_, rfl, _, rfl, .inl ⟨n, rfl, _, rfl, iteF ⟨_, rfl, _, _, rfl, rfl, _, rfl, ?_⟩⟩⟩
      rw [show decide (n < 0) = false from decide_eq_false (by omega)]
      exact iteF ⟨_, rfl, _, rfl, .inr ⟨bad, q⟩⟩
end
end K02

/-! PpM: the ten moduli. -/
namespace B5
open PySem L2 Gd
def ppT : List (Int × List Int) := [(2, [2, 1]), (4, [2, 2]), (8, [2, 3]), (16, [2, 4]), (3, [3, 1]), (9, [3, 2]), (27, [3, 3]), (5, [5, 1]), (25, [5, 2]), (7, [7, 1])]
theorem ppT_few : ∀ m is, ppT.lookup m = some is → is.length ≤ 1000 := by
  intro m is h
  have all : ∀ q ∈ ppT, q.2.length ≤ 1000 := by decide
  have mem : ∀ l : List (Int × List Int), l.lookup m = some is → (m, is) ∈ l := by
    intro l
    induction l with
    | nil => intro z; cases z
    | cons q r ih =>
      intro z
      rw [List.lookup_cons] at z
      by_cases e : m = q.1
      · rw [show (m == q.1) = true from beq_iff_eq.mpr e] at z
        cases z
        rw [e]
        exact .head _
      · rw [show (m == q.1) = false from beq_eq_false_iff_ne.mpr e] at z
        exact .tail _ (ih z)
  exact all _ (mem _ h)
/-- no prime power -/
def spPP (K : PySem.W.Frag) (CN : Addr) : Sp := fun vs H Q E => ∃ x, vs = [x] ∧
  ((∃ m is, x = .int m ∧ ppT.lookup m = some is ∧ ∀ a, SqT K H a (is.map V.int) → Q (.ref a) H) ∨
    (((∃ m, x = .int m ∧ ppT.lookup m = none) ∨ NoInt K H x) ∧ RNum CN "modulus" x H E))
theorem ppT_tens : ∀ {m : Int} {is : List Int}, ppT.lookup m = some is → ∃ (M p : Nat) (k : Int), m = (M : Nat) ∧ is = [((p : Nat) : Int), k] ∧ 2 ≤ M ∧ M ≤ 27 ∧ isPr p = true ∧ p ∣ M := by
  intro m is h
  have all : ∀ q ∈ ppT, ∃ (M p : Nat) (k : Int), q.1 = (M : Nat) ∧ q.2 = [((p : Nat) : Int), k] ∧ 2 ≤ M ∧ M ≤ 27 ∧ isPr p = true ∧ p ∣ M := by
    intro q hq
    simp only [ppT, List.mem_cons, List.not_mem_nil, or_false] at hq
    rcases hq with rfl | rfl | rfl | rfl | rfl | rfl | rfl | rfl | rfl | rfl
    · exact ⟨2, 2, 1, rfl, rfl, by decide, by decide, by decide, by decide⟩
    · exact ⟨4, 2, 2, rfl, rfl, by decide, by decide, by decide, by decide⟩
    · exact ⟨8, 2, 3, rfl, rfl, by decide, by decide, by decide, by decide⟩
    · exact ⟨16, 2, 4, rfl, rfl, by decide, by decide, by decide, by decide⟩
    · exact ⟨3, 3, 1, rfl, rfl, by decide, by decide, by decide, by decide⟩
    · exact ⟨9, 3, 2, rfl, rfl, by decide, by decide, by decide, by decide⟩
    · exact ⟨27, 3, 3, rfl, rfl, by decide, by decide, by decide, by decide⟩
    · exact ⟨5, 5, 1, rfl, rfl, by decide, by decide, by decide, by decide⟩
    · exact ⟨25, 5, 2, rfl, rfl, by decide, by decide, by decide, by decide⟩
    · exact ⟨7, 7, 1, rfl, rfl, by decide, by decide, by decide, by decide⟩
  have mem : ∀ l : List (Int × List Int), l.lookup m = some is → (m, is) ∈ l := by
    intro l
    induction l with
    | nil => intro z; cases z
    | cons q r ih =>
      intro z
      rw [List.lookup_cons] at z
      by_cases e : m = q.1
      · rw [show (m == q.1) = true from beq_iff_eq.mpr e] at z
        cases z
        rw [e]
        exact .head _
      · rw [show (m == q.1) = false from beq_eq_false_iff_ne.mpr e] at z
        exact .tail _ (ih z)
  exact all _ (mem _ h)
end B5

/-! pp: prime_power -/
namespace K02
open PySem L2 Gd B5
abbrev sPP : Stmt := top 14
theorem scPP : FnScope ["m"] ["m"] (defScope sPP) := ⟨rfl, rfl, rfl, by decide +kernel, rfl, by decide +kernel, by decide +kernel⟩
section
variable {P : Program} {w : World} {K : PySem.W.Frag} {mg : Str → Option Value} {base : Heap} {fN CN fI f : Addr} {fdN fdI fd : FuncData} {D : Addr}
theorem ok_pp (F : Fun K "prime_power" "prime_power" sPP f fd) (B : Blt mg) (I : Cl K mg "is_integer" sIsI ["value"] fI fdI)
    (N : Er K mg "BadNumber" "BadNumber.__init__" CN fN ["what", "number"] sBadNumber fdN) (gD : mg "PRIME_POWERS" = some (.ref D)) (dD : dictI K D = some ppT) :
    FnOk P w K mg base (L2.CX P w) 3 f fd ["m"] (spPP K CN) := by
  have GI : FnOk P w K mg base CX0 1 fI fdI ["value"] (spIsI K) := ok_isI I.fn B.isi_ B.int_ B.bool_
  have GN : FnOk P w K mg base CX0 1 fN fdN ["self", "what", "number"] (spIni CN ["what", "number"]) := okBadNumber N.fn N.T N.no
  refine F.okX scPP (fun vs H Q E h => ?_) (fun cdv A outer s H vs Q E hr h => ?_)
  · obtain ⟨x, rfl, _⟩ := h
    rfl
  · obtain ⟨x, rfl, h⟩ := h
    refine ⟨_, pss_cons (ps_if (PW.pt (pw_or (pt_not (pt_val (pe_call GI (hr.mono (by decide)) rfl I.g I.k I.b .nil pass0 (pa_cons (pv 0) pa_nil))))
          (pw_or1 (pt_cmpR op_notInI (pv 0) (pe_glob (v := .ref D) rfl gD rfl) (by rfl)))))
        (pss_one (ps_raise rfl (takes_of rfl rfl rfl rfl) (pmk_oex N.T N.iC N.tI GN hr N.b .nil pass0 rfl N.g (pa_cons pe_str (pa_cons (pv 0) pa_nil))))) pss_nil)
      (pss_one (ps_ret (pe_ix ix_int (pe_glob (v := .ref D) rfl gD rfl) (pv 0) (fun _ _ => rfl)))), ?_⟩
    obtain ⟨m, is, rfl, l, q⟩ | ⟨⟨m, rfl, l⟩ | bad, q⟩ := h
    · refine ⟨_, rfl, _, rfl, .inl ⟨m, rfl, _, rfl, iteF ⟨_, rfl, m, D, ppT, rfl, rfl, dD, ?_⟩⟩⟩
      refine ⟨_, rfl, ?_⟩
      rw [l]
      refine iteF ?_
      exact ⟨_, rfl, m, D, ppT, is, rfl, rfl, dD, l, ppT_few _ _ l, q⟩
    · refine ⟨_, rfl, _, rfl, .inl ⟨m, rfl, _, rfl, iteF ⟨_, rfl, m, D, ppT, rfl, rfl, dD, ?_⟩⟩⟩
      refine ⟨_, rfl, ?_⟩
      rw [l]
      refine iteT ?_
      exact ⟨_, rfl, mk_ini rfl (by show 2 ≤ 900; decide) q⟩
    · refine ⟨_, rfl, _, rfl, .inr (.inl ⟨bad, _, rfl, iteT (iteT ?_)⟩)⟩
      exact ⟨_, rfl, mk_ini rfl (by show 2 ≤ 900; decide) q⟩
end
end K02

/-! Lat: lots of rows modulo m as lattices: the one form is one. Rows are functions from places; only places below w count. -/
namespace Lat
abbrev Vec := Nat → Int
/-- closed under sums and multiples, with all multiples of m -/
structure Lot (w : Nat) (m : Int) (L : Vec → Prop) : Prop where
  add : ∀ {u v : Vec}, L u → L v → L (fun i => u i + v i)
  mul : ∀ (c : Int) {v : Vec}, L v → L (fun i => c * v i)
  top : ∀ {v : Vec}, (∀ i, i < w → m ∣ v i) → L v
  ext : ∀ {u v : Vec}, (∀ i, i < w → u i = v i) → L u → L v
theorem Lot.sub {w : Nat} {m : Int} {L : Vec → Prop} (h : Lot w m L) {u v : Vec} (c : Int) (hu : L u) (hv : L v) : L (fun i => u i - c * v i) := by
  refine h.ext (fun i _ => ?_) (h.add hu (h.mul (-c) hv))
  show u i + -c * v i = u i - c * v i
  rw [Int.neg_mul]
  rfl
/-- all sums of multiples of rows, modulo m -/
inductive Gen (w : Nat) (m : Int) (R : Vec → Prop) : Vec → Prop
  | row {v : Vec} (h : R v) : Gen w m R v
  | add {u v : Vec} (a : Gen w m R u) (b : Gen w m R v) : Gen w m R (fun i => u i + v i)
  | mul (c : Int) {v : Vec} (a : Gen w m R v) : Gen w m R (fun i => c * v i)
  | top {v : Vec} (h : ∀ i, i < w → m ∣ v i) : Gen w m R v
  | ext {u v : Vec} (h : ∀ i, i < w → u i = v i) (a : Gen w m R u) : Gen w m R v
theorem Gen.lot {w : Nat} {m : Int} {R : Vec → Prop} : Lot w m (Gen w m R) := ⟨.add, .mul, .top, .ext⟩
theorem Gen.least {w : Nat} {m : Int} {R L : Vec → Prop} (h : Lot w m L) (r : ∀ v, R v → L v) : ∀ v, Gen w m R v → L v := by
  intro v g
  induction g with
  | row h' => exact r _ h'
  | add _ _ a b => exact h.add a b
  | mul c _ a => exact h.mul c a
  | top h' => exact h.top h'
  | ext h' _ a => exact h.ext h' a
/-- rows h, their heads d at the places below w (m where there is none), lower rests at later heads -/
structure Form (w : Nat) (L : Vec → Prop) (d : Nat → Int) (h : Nat → Vec) : Prop where
  mem : ∀ j, j < w → L (h j)
  low : ∀ j, j < w → ∀ i, i < j → h j i = 0
  head : ∀ j, j < w → h j j = d j
  pos : ∀ j, j < w → 0 < d j
  div : ∀ v, L v → ∀ j, j < w → (∀ i, i < j → v i = 0) → d j ∣ v j
  red : ∀ j, j < w → ∀ i, j < i → i < w → 0 ≤ h j i ∧ h j i < d i
theorem small_zero {a b : Int} (h : b ∣ a) (l : -b < a) (u : a < b) : a = 0 := by
  obtain ⟨c, rfl⟩ := h
  have hb : 0 < b := by omega
  by_cases c0 : c = 0
  · rw [c0, Int.mul_zero]
  · exfalso
    rcases Int.lt_or_gt_of_ne c0 with z | z
    · have := Int.mul_le_mul_of_nonneg_left (show c ≤ -1 by omega) (Int.le_of_lt hb)
      omega
    · have := Int.mul_le_mul_of_nonneg_left (show 1 ≤ c by omega) (Int.le_of_lt hb)
      omega
/-- one form for all rows that make the same lot -/
theorem Form.one {w : Nat} {m : Int} {L : Vec → Prop} {d d' : Nat → Int} {h h' : Nat → Vec} (l : Lot w m L) (F : Form w L d h) (G : Form w L d' h') :
    (∀ j, j < w → d j = d' j) ∧ ∀ j, j < w → ∀ i, i < w → h j i = h' j i := by
  have dd : ∀ j, j < w → d j = d' j := by
    intro j hj
    have a := F.div _ (G.mem j hj) j hj (G.low j hj)
    have b := G.div _ (F.mem j hj) j hj (F.low j hj)
    rw [G.head j hj] at a
    rw [F.head j hj] at b
    have := Int.le_of_dvd (G.pos j hj) a
    have := Int.le_of_dvd (F.pos j hj) b
    omega
  refine ⟨dd, fun j hj => ?_⟩
  have diff : L (fun i => h j i - 1 * h' j i) := l.sub 1 (F.mem j hj) (G.mem j hj)
  have all : ∀ n, ∀ i, i ≤ n → i < w → h j i - 1 * h' j i = 0 := by
    intro n
    induction n with
    | zero =>
      intro i hi hw
      have : i = 0 := by omega
      subst this
      by_cases z : j = 0
      · subst z
        rw [F.head 0 hj, G.head 0 hj, dd 0 hj]
        omega
      · rw [F.low j hj 0 (by omega), G.low j hj 0 (by omega)]
        rfl
    | succ n ih =>
      intro i hi hw
      by_cases hn : i ≤ n
      · exact ih i hn hw
      · have hi : i = n + 1 := by omega
        rcases Nat.lt_trichotomy i j with z | z | z
        · rw [F.low j hj i z, G.low j hj i z]
          rfl
        · subst z
          rw [F.head _ hj, G.head _ hj, dd _ hj]
          omega
        · have a := F.red j hj i z hw
          have b := G.red j hj i z hw
          rw [← dd i hw] at b
          have dv := F.div _ diff i hw fun k hk => ih k (by omega) (by omega)
          have dv : d i ∣ h j i - 1 * h' j i := dv
          exact small_zero dv (by omega) (by omega)
  intro i hi
  have := all i i (Nat.le_refl _) hi
  omega

/-! ### rows in triangle order -/
/-- v is told by the rows h from place w - n on: taken off from the first place on, nothing is left at any head -/
def Mem (w : Nat) (h : Nat → Vec) : Nat → Vec → Prop
  | 0, _ => True
  | n + 1, v => ∃ c : Int, v (w - (n + 1)) = c * h (w - (n + 1)) (w - (n + 1)) ∧ Mem w h n (fun i => v i - c * h (w - (n + 1)) i)
section
variable {w : Nat} {h : Nat → Vec}
theorem Mem.ext : ∀ {n : Nat} {u v : Vec}, n ≤ w → (∀ i, w - n ≤ i → i < w → u i = v i) → Mem w h n u → Mem w h n v
  | 0, _, _, _, _, _ => trivial
  | n + 1, u, v, hn, e, ⟨c, e1, e2⟩ => by
    refine ⟨c, ?_, Mem.ext (by omega) (fun i a b => ?_) e2⟩
    · rw [← e _ (Nat.le_refl _) (by omega)]
      exact e1
    · show u i - c * h (w - (n + 1)) i = v i - c * h (w - (n + 1)) i
      rw [e i (by omega) b]
theorem Mem.add : ∀ {n : Nat} {u v : Vec}, n ≤ w → Mem w h n u → Mem w h n v → Mem w h n (fun i => u i + v i)
  | 0, _, _, _, _, _ => trivial
  | n + 1, u, v, hn, ⟨a, a1, a2⟩, ⟨b, b1, b2⟩ => by
    refine ⟨a + b, ?_, Mem.ext (by omega) (fun i _ _ => ?_) (Mem.add (by omega) a2 b2)⟩
    · show u _ + v _ = _
      rw [a1, b1, Int.add_mul]
    · show u i - a * _ + (v i - b * _) = u i + v i - (a + b) * _
      rw [Int.add_mul]
      omega
theorem Mem.mul (k : Int) : ∀ {n : Nat} {v : Vec}, n ≤ w → Mem w h n v → Mem w h n (fun i => k * v i)
  | 0, _, _, _ => trivial
  | n + 1, v, hn, ⟨a, a1, a2⟩ => by
    refine ⟨k * a, ?_, Mem.ext (by omega) (fun i _ _ => ?_) (Mem.mul k (by omega) a2)⟩
    · show k * v _ = _
      rw [a1, Int.mul_assoc]
    · show k * (v i - a * _) = k * v i - k * a * _
      rw [Int.mul_sub, Int.mul_assoc]
theorem Mem.zero : ∀ {n : Nat} {v : Vec}, n ≤ w → (∀ i, w - n ≤ i → i < w → v i = 0) → Mem w h n v
  | 0, _, _, _ => trivial
  | n + 1, v, hn, z => by
    refine ⟨0, ?_, Mem.ext (by omega) (fun i a b => ?_) (Mem.zero (v := v) (by omega) fun i a b => z i (by omega) b)⟩
    · rw [z _ (Nat.le_refl _) (by omega), Int.zero_mul]
    · show v i = v i - 0 * _
      rw [Int.zero_mul, Int.sub_zero]
/-- triangle order, heads that divide m, and what is 0 at a head when multiplied is told by the rows behind -/
structure Tri (w : Nat) (m : Int) (h : Nat → Vec) : Prop where
  low : ∀ j, j < w → ∀ i, i < j → h j i = 0
  pos : ∀ j, j < w → 0 < h j j
  dvd : ∀ j, j < w → h j j ∣ m
structure Good (w : Nat) (m : Int) (h : Nat → Vec) : Prop extends Tri w m h where
  close : ∀ j, j < w → ∀ q : Int, q * h j j = m → Mem w h (w - (j + 1)) (fun i => q * h j i)
variable {m : Int}
theorem Good.top (g : Good w m h) : ∀ {n : Nat} {v : Vec}, n ≤ w → (∀ i, w - n ≤ i → i < w → m ∣ v i) → Mem w h n v
  | 0, _, _, _ => trivial
  | n + 1, v, hn, t => by
    obtain ⟨q, hq⟩ := g.dvd (w - (n + 1)) (by omega)
    obtain ⟨k, hk⟩ := t (w - (n + 1)) (Nat.le_refl _) (by omega)
    have cl := g.close (w - (n + 1)) (by omega) q (by rw [Int.mul_comm]; exact hq.symm)
    rw [show w - (w - (n + 1) + 1) = n by omega] at cl
    refine ⟨k * q, ?_, Mem.ext (by omega) (fun i _ _ => ?_) (Mem.add (by omega) (g.top (v := v) (by omega) fun i a b => t i (by omega) b) (Mem.mul (-k) (by omega) cl))⟩
    · rw [hk, hq, Int.mul_assoc, Int.mul_comm, Int.mul_comm q k]
    · show v i + -k * (q * _) = v i - k * q * _
      rw [Int.neg_mul, Int.mul_assoc]
      rfl
theorem Good.lot (g : Good w m h) : Lot w m (Mem w h w) where
  add := Mem.add (Nat.le_refl _)
  mul := fun c {_} a => Mem.mul c (Nat.le_refl _) a
  top := fun t => g.top (Nat.le_refl _) fun i _ b => t i b
  ext := fun e a => Mem.ext (Nat.le_refl _) (fun i _ b => e i b) a
/-- a row of h from any place up to its head on -/
theorem Tri.mem (g : Tri w m h) {j : Nat} (hj : j < w) : ∀ {n : Nat}, n ≤ w → w - n ≤ j → Mem w h n (h j)
  | 0, _, h0 => absurd h0 (by omega)
  | n + 1, hn, h0 => by
    by_cases e : w - (n + 1) = j
    · refine ⟨1, by rw [e, Int.one_mul], Mem.zero (by omega) fun i a b => ?_⟩
      rw [e, Int.one_mul, Int.sub_self]
    · refine ⟨0, by rw [g.low j hj _ (by omega), Int.zero_mul], Mem.ext (by omega) (fun i _ _ => ?_) (g.mem hj (n := n) (by omega) (by omega))⟩
      show h j i = h j i - 0 * _
      rw [Int.zero_mul, Int.sub_zero]
/-- what is told and 0 up to a place has a multiple of the head there -/
theorem Tri.div (g : Tri w m h) : ∀ {n : Nat} {v : Vec}, n ≤ w → Mem w h n v → ∀ j, w - n ≤ j → j < w → (∀ i, w - n ≤ i → i < j → v i = 0) → h j j ∣ v j
  | 0, _, _, _, j, a, b, _ => absurd a (by omega)
  | n + 1, v, hn, ⟨c, c1, c2⟩, j, a, b, z => by
    by_cases e : w - (n + 1) = j
    · rw [e] at c1
      exact ⟨c, by rw [c1, Int.mul_comm]⟩
    · have z0 := z (w - (n + 1)) (Nat.le_refl _) (by omega)
      rw [z0] at c1
      have c0 : c = 0 := by
        have p := g.pos (w - (n + 1)) (by omega)
        rcases Int.mul_eq_zero.mp c1.symm with q | q
        · exact q
        · omega
      have same : ∀ i, v i - c * h (w - (n + 1)) i = v i := fun i => by rw [c0, Int.zero_mul, Int.sub_zero]
      have := g.div (n := n) (by omega) c2 j (by omega) b (fun i a b => by rw [same]; exact z i (by omega) b)
      have this : h j j ∣ v j - c * h (w - (n + 1)) j := this
      rw [same] at this
      exact this
/-- such rows make the lot of all that they tell -/
theorem Good.gen (g : Good w m h) (v : Vec) : Mem w h w v ↔ Gen w m (fun u => ∃ j, j < w ∧ u = h j) v := by
  refine ⟨fun a => ?_, Gen.least g.lot (fun u ⟨j, hj, e⟩ => e ▸ g.mem hj (Nat.le_refl _) (by omega)) v⟩
  have all : ∀ n, n ≤ w → ∀ v, (∀ i, i < w - n → v i = 0) → Mem w h n v → Gen w m (fun u => ∃ j, j < w ∧ u = h j) v := by
    intro n
    induction n with
    | zero =>
      intro _ v z _
      exact .top fun i hi => by rw [z i (by omega)]; exact ⟨0, by rw [Int.mul_zero]⟩
    | succ n ih =>
      rintro hn v z ⟨c, c1, c2⟩
      have rest := ih (by omega) _ (fun i hi => by
        show v i - c * h (w - (n + 1)) i = 0
        by_cases e : i = w - (n + 1)
        · rw [e, c1, Int.sub_self]
        · rw [z i (by omega), g.low _ (by omega) i (by omega), Int.mul_zero]
          rfl) c2
      refine .ext (fun i _ => ?_) (.add rest (.mul c (.row ⟨w - (n + 1), by omega, rfl⟩)))
      show v i - c * h (w - (n + 1)) i + c * h (w - (n + 1)) i = v i
      omega
  exact all w (Nat.le_refl _) v (fun i hi => by omega) a
end
end Lat

/-! Put: a row is put to rows in triangle order, place by place; what they make together stays. -/
namespace Lat
section
variable {w : Nat} {m : Int}
theorem Gen.into {R S : Vec → Prop} (h : ∀ u, R u → Gen w m S u) {v : Vec} (g : Gen w m R v) : Gen w m S v := Gen.least Gen.lot h v g
theorem Gen.cong {R : Vec → Prop} {u v : Vec} (e : ∀ i, i < w → m ∣ v i - u i) (g : Gen w m R u) : Gen w m R v := by
  refine .ext (fun i _ => ?_) (.add g (.top (v := fun i => v i - u i) e))
  show u i + (v i - u i) = v i
  omega
theorem Gen.lin {R : Vec → Prop} {a b v : Vec} (x y : Int) (e : ∀ i, i < w → m ∣ v i - (x * a i + y * b i)) (ga : Gen w m R a) (gb : Gen w m R b) : Gen w m R v :=
  .cong e (.add (.mul x ga) (.mul y gb))
/-- the rows behind place i -/
def Behind (w : Nat) (h : Nat → Vec) (i : Nat) (u : Vec) : Prop := ∃ k, i < k ∧ k < w ∧ u = h k
def All (w : Nat) (h : Nat → Vec) (u : Vec) : Prop := ∃ k, k < w ∧ u = h k
def With (R : Vec → Prop) (v : Vec) (u : Vec) : Prop := R u ∨ u = v
/-- the row v is being put to h, at place j -/
structure Put (w : Nat) (m : Int) (h : Nat → Vec) (v : Vec) (j : Nat) (G : Vec → Prop) : Prop extends Tri w m h where
  zero : ∀ i, i < j → i < w → m ∣ v i
  near : ∀ i, i < j → i < w → ∀ q : Int, q * h i i = m → Gen w m (With (Behind w h i) v) (fun x => q * h i x)
  far : ∀ i, j ≤ i → i < w → ∀ q : Int, q * h i i = m → Gen w m (Behind w h i) (fun x => q * h i x)
  same : ∀ u, Gen w m (With (All w h) v) u ↔ G u
variable {h : Nat → Vec} {v : Vec} {j : Nat} {G : Vec → Prop}
theorem with_left {R : Vec → Prop} {u : Vec} (g : Gen w m R u) : Gen w m (With R v) u := g.into fun _ r => .row (.inl r)
/-- nothing there -/
theorem Put.skip (p : Put w m h v j G) (z : j < w → m ∣ v j) : Put w m h v (j + 1) G where
  toTri := p.toTri
  zero := fun i a b => by
    by_cases e : i = j
    · subst e
      exact z b
    · exact p.zero i (by omega) b
  near := fun i a b q e => by
    by_cases z : i < j
    · exact p.near i z b q e
    · exact with_left (p.far i (by omega) b q e)
  far := fun i a b => p.far i (by omega) b
  same := p.same
/-- a multiple of the row there is taken off -/
theorem Put.take {v' : Vec} (c : Int) (p : Put w m h v j G) (hj : j < w) (e : ∀ i, i < w → m ∣ v' i - (v i - c * h j i)) (z : m ∣ v' j) : Put w m h v' (j + 1) G where
  toTri := p.toTri
  zero := fun i a b => by
    by_cases q : i = j
    · subst q
      exact z
    · have e1 := e i b
      rw [p.low j hj i (by omega), Int.mul_zero, Int.sub_zero] at e1
      have := Int.dvd_add e1 (p.zero i (by omega) b)
      rw [Int.sub_add_cancel] at this
      exact this
  near := fun i a b q x => by
    by_cases z : i < j
    · refine (p.near i z b q x).into fun u hu => ?_
      rcases hu with r | rfl
      · exact .row (.inl r)
      · refine .lin 1 c (fun k hk => ?_) (.row (.inr rfl)) (.row (.inl ⟨j, z, hj, rfl⟩))
        have := Int.dvd_neg.mpr (e k hk)
        rw [show u k - (1 * v' k + c * h j k) = -(v' k - (u k - c * h j k)) by omega]
        exact this
    · exact with_left (p.far i (by omega) b q x)
  far := fun i a b => p.far i (by omega) b
  same := fun u => by
    rw [← p.same u]
    constructor
    · refine fun g => g.into fun x hx => ?_
      rcases hx with r | rfl
      · exact .row (.inl r)
      · refine .lin 1 (-c) (fun k hk => ?_) (.row (.inr rfl)) (.row (.inl ⟨j, hj, rfl⟩))
        rw [show x k - (1 * v k + -c * h j k) = x k - (v k - c * h j k) by rw [Int.neg_mul]; omega]
        exact e k hk
    · refine fun g => g.into fun x hx => ?_
      rcases hx with r | rfl
      · exact .row (.inl r)
      · refine .lin 1 c (fun k hk => ?_) (.row (.inr rfl)) (.row (.inl ⟨j, hj, rfl⟩))
        have := Int.dvd_neg.mpr (e k hk)
        rw [show x k - (1 * v' k + c * h j k) = -(v' k - (x k - c * h j k)) by omega]
        exact this
/-- the rows with another one at place j -/
def at_ (h : Nat → Vec) (j : Nat) (g : Vec) : Nat → Vec := fun k => if k = j then g else h k
theorem at_same {g : Vec} : at_ h j g j = g := if_pos rfl
theorem at_ne {g : Vec} {k : Nat} (e : k ≠ j) : at_ h j g k = h k := if_neg e
/-- the row takes the place: g, a multiple of it by a unit, stands there now; the old row less a multiple of g goes on -/
theorem Put.swap {g v' : Vec} (x y a : Int) (p : Put w m h v j G) (hj : j < w) (g0 : ∀ i, i < j → g i = 0) (gp : 0 < g j) (gd : g j ∣ m)
    (eg : ∀ i, i < w → m ∣ g i - x * v i) (ev : ∀ i, i < w → m ∣ v i - y * g i) (ha : h j j = a * g j)
    (e : ∀ i, i < w → m ∣ v' i - (h j i - a * g i)) : Put w m (at_ h j g) v' (j + 1) G where
  low := fun k hk i hi => by
    by_cases q : k = j
    · subst q
      rw [at_same]
      exact g0 i hi
    · rw [at_ne q]
      exact p.low k hk i hi
  pos := fun k hk => by
    by_cases q : k = j
    · subst q
      rw [at_same]
      exact gp
    · rw [at_ne q]
      exact p.pos k hk
  dvd := fun k hk => by
    by_cases q : k = j
    · subst q
      rw [at_same]
      exact gd
    · rw [at_ne q]
      exact p.dvd k hk
  zero := fun i b c => by
    have e1 := e i c
    by_cases q : i = j
    · subst q
      rw [ha, Int.sub_self, Int.sub_zero] at e1
      exact e1
    · rw [p.low j hj i (by omega), g0 i (by omega), Int.mul_zero, Int.sub_zero, Int.sub_zero] at e1
      exact e1
  near := fun i b c q hq => by
    by_cases z : i < j
    · rw [at_ne (by omega)] at hq ⊢
      refine (p.near i z c q hq).into fun u hu => ?_
      rcases hu with ⟨k, k1, k2, rfl⟩ | rfl
      · by_cases kj : k = j
        · subst kj
          refine .lin 1 a (fun t ht => ?_) (.row (.inr rfl)) (.row (.inl ⟨k, k1, k2, at_same.symm⟩))
          have := Int.dvd_neg.mpr (e t ht)
          rw [show h k t - (1 * v' t + a * g t) = -(v' t - (h k t - a * g t)) by omega]
          exact this
        · exact .row (.inl ⟨k, k1, k2, (at_ne kj).symm⟩)
      · refine .lin y 0 (fun t ht => ?_) (.row (.inl ⟨j, z, hj, at_same.symm⟩)) (.row (.inl ⟨j, z, hj, at_same.symm⟩))
        rw [Int.zero_mul, Int.add_zero]
        exact ev t ht
    · have ij : i = j := by omega
      subst ij
      rw [at_same] at hq ⊢
      -- q = q0 * a, where q0 takes the old head to m
      obtain ⟨q0, hq0⟩ := p.dvd i hj
      have eq : q = q0 * a := by
        have e1 : q * g i = (q0 * a) * g i := by
          rw [hq, hq0, ha, Int.mul_assoc q0, Int.mul_comm q0]
        exact Int.eq_of_mul_eq_mul_right (by omega) e1
      have old := p.far i (Nat.le_refl _) hj q0 (by rw [Int.mul_comm]; exact hq0.symm)
      have old' : Gen w m (With (Behind w (at_ h i g) i) v') (fun t => q0 * h i t) := old.into fun u ⟨k, k1, k2, e⟩ => .row (.inl ⟨k, k1, k2, by rw [e, at_ne (by omega)]⟩)
      refine .lin 1 (-q0) (fun t ht => ?_) old' (.row (.inr rfl))
      have f : q * g t - (1 * (q0 * h i t) + -q0 * v' t) = q0 * (v' t - (h i t - a * g t)) := by
        rw [eq, Int.mul_sub, Int.mul_sub, Int.neg_mul, Int.mul_assoc]
        omega
      rw [f]
      exact Int.dvd_mul_of_dvd_right (e t ht)
  far := fun i b c q hq => by
    rw [at_ne (by omega)] at hq ⊢
    refine (p.far i (by omega) c q hq).into fun u ⟨k, k1, k2, e⟩ => .row ⟨k, k1, k2, by rw [e, at_ne (by omega)]⟩
  same := fun u => by
    rw [← p.same u]
    constructor
    · refine fun r => r.into fun z hz => ?_
      have gg : Gen w m (With (All w h) v) g := .lin x 0 (fun t ht => by rw [Int.zero_mul, Int.add_zero]; exact eg t ht) (.row (.inr rfl)) (.row (.inr rfl))
      rcases hz with ⟨k, k2, rfl⟩ | rfl
      · by_cases kj : k = j
        · subst kj
          rw [at_same]
          exact gg
        · rw [at_ne kj]
          exact .row (.inl ⟨k, k2, rfl⟩)
      · refine .lin 1 (-a) (fun t ht => ?_) (.row (.inl ⟨j, hj, rfl⟩)) gg
        rw [show z t - (1 * h j t + -a * g t) = z t - (h j t - a * g t) by rw [Int.neg_mul]; omega]
        exact e t ht
    · refine fun r => r.into fun z hz => ?_
      have gr : Gen w m (With (All w (at_ h j g)) v') g := .row (.inl ⟨j, hj, at_same.symm⟩)
      rcases hz with ⟨k, k2, rfl⟩ | rfl
      · by_cases kj : k = j
        · subst kj
          refine .lin 1 a (fun t ht => ?_) (.row (.inr rfl)) gr
          have := Int.dvd_neg.mpr (e t ht)
          rw [show h k t - (1 * v' t + a * g t) = -(v' t - (h k t - a * g t)) by omega]
          exact this
        · exact .row (.inl ⟨k, k2, (at_ne kj).symm⟩)
      · refine .lin y 0 (fun t ht => ?_) gr gr
        rw [Int.zero_mul, Int.add_zero]
        exact ev t ht

/-- what the rows behind a place make, is told by them -/
theorem Tri.behind (t : Tri w m h) {n : Nat} (hn : n + 1 ≤ w) (top : ∀ v : Vec, (∀ i, w - n ≤ i → i < w → m ∣ v i) → Mem w h n v) {u : Vec}
    (g : Gen w m (Behind w h (w - (n + 1))) u) : Mem w h n u := by
  induction g with
  | row r =>
    obtain ⟨k, k1, k2, rfl⟩ := r
    exact t.mem k2 (by omega) (by omega)
  | add _ _ a b => exact Mem.add (by omega) a b
  | mul c _ a => exact Mem.mul c (by omega) a
  | top z => exact top _ fun i _ b => z i b
  | ext e _ a => exact Mem.ext (by omega) (fun i _ b => e i b) a
theorem Tri.tops (t : Tri w m h) (cl : ∀ i, i < w → ∀ q : Int, q * h i i = m → Gen w m (Behind w h i) (fun x => q * h i x)) :
    ∀ n, n ≤ w → ∀ v : Vec, (∀ i, w - n ≤ i → i < w → m ∣ v i) → Mem w h n v
  | 0, _, _, _ => trivial
  | n + 1, hn, v, z => by
    have below := t.tops cl n (by omega)
    obtain ⟨q, hq⟩ := t.dvd (w - (n + 1)) (by omega)
    obtain ⟨k, hk⟩ := z (w - (n + 1)) (Nat.le_refl _) (by omega)
    have c := t.behind hn below (cl (w - (n + 1)) (by omega) q (by rw [Int.mul_comm]; exact hq.symm))
    refine ⟨k * q, ?_, Mem.ext (by omega) (fun i _ _ => ?_) (Mem.add (by omega) (below v fun i a b => z i (by omega) b) (Mem.mul (-k) (by omega) c))⟩
    · rw [hk, hq, Int.mul_assoc, Int.mul_comm, Int.mul_comm q k]
    · show v i + -k * (q * _) = v i - k * q * _
      rw [Int.neg_mul, Int.mul_assoc]
      rfl
theorem Tri.good (t : Tri w m h) (cl : ∀ i, i < w → ∀ q : Int, q * h i i = m → Gen w m (Behind w h i) (fun x => q * h i x)) : Good w m h where
  toTri := t
  close := fun j hj q hq => by
    have g := cl j hj q hq
    rw [show j = w - ((w - (j + 1)) + 1) by omega] at g
    have r := t.behind (n := w - (j + 1)) (by omega) (t.tops cl _ (by omega)) g
    rw [show w - ((w - (j + 1)) + 1) = j by omega] at r
    exact r
/-- the row is put -/
theorem Put.done (p : Put w m h v w G) : Good w m h ∧ ∀ u, Mem w h w u ↔ G u := by
  have gone : ∀ {R : Vec → Prop} {u : Vec}, Gen w m (With R v) u → Gen w m R u := fun g => g.into fun x hx => by
    rcases hx with r | rfl
    · exact .row r
    · exact .top fun i hi => p.zero i hi hi
  have good := p.toTri.good fun i hi q hq => gone (p.near i hi hi q hq)
  refine ⟨good, fun u => ?_⟩
  rw [good.gen u, ← p.same u]
  exact ⟨fun g => g.into fun x hx => .row (.inl hx), fun g => gone g⟩
/-- a row is to be put -/
theorem Good.puts (g : Good w m h) (v : Vec) : Put w m h v 0 (Gen w m (With (All w h) v)) where
  toTri := g.toTri
  zero := fun i a => absurd a (by omega)
  near := fun i a => absurd a (by omega)
  far := fun i _ hi q hq => by
    -- what is told by the rows behind i is made by them
    have all : ∀ n, n + (i + 1) ≤ w → ∀ u : Vec, (∀ k, k < w - n → m ∣ u k) → Mem w h n u → Gen w m (Behind w h i) u := by
      intro n
      induction n with
      | zero => exact fun _ u z _ => .top fun k hk => z k (by omega)
      | succ n ih =>
        rintro hn u z ⟨c, c1, c2⟩
        have rest := ih (by omega) _ (fun k hk => by
          show m ∣ u k - c * h (w - (n + 1)) k
          by_cases e : k = w - (n + 1)
          · rw [e, c1, Int.sub_self]
            exact ⟨0, by rw [Int.mul_zero]⟩
          · rw [g.low _ (by omega) k (by omega), Int.mul_zero, Int.sub_zero]
            exact z k (by omega)) c2
        refine .ext (fun k _ => ?_) (.add rest (.mul c (.row ⟨w - (n + 1), by omega, by omega, rfl⟩)))
        show u k - c * h (w - (n + 1)) k + c * h (w - (n + 1)) k = u k
        omega
    refine all (w - (i + 1)) (by omega) _ (fun k hk => ?_) (g.close i hi q hq)
    show m ∣ q * h i k
    by_cases e : k = i
    · rw [e, hq]
      exact ⟨1, by rw [Int.mul_one]⟩
    · rw [g.low i hi k (by omega), Int.mul_zero]
      exact ⟨0, by rw [Int.mul_zero]⟩
  same := fun u => Iff.rfl
/-- no row as yet: m at each place -/
def none_ (m : Int) : Nat → Vec := fun j i => if i = j then m else 0
theorem none_good (hm : 0 < m) : Good w m (none_ m) where
  low := fun j _ i hi => if_neg (by omega)
  pos := fun j _ => by
    show 0 < (if j = j then m else 0)
    rw [if_pos rfl]
    exact hm
  dvd := fun j _ => by
    show (if j = j then m else 0) ∣ m
    rw [if_pos rfl]
    exact ⟨1, by rw [Int.mul_one]⟩
  close := fun j hj q hq => Mem.zero (by omega) fun i a b => by
    show q * (if i = j then m else 0) = 0
    rw [if_neg (by omega), Int.mul_zero]
theorem none_gen {u : Vec} : Gen w m (All w (none_ m)) u ↔ Gen w m (fun _ => False) u := by
  constructor
  · refine fun g => g.into fun x ⟨k, hk, e⟩ => .top fun i _ => ?_
    rw [e]
    show m ∣ if i = k then m else 0
    by_cases z : i = k
    · rw [if_pos z]
      exact ⟨1, by rw [Int.mul_one]⟩
    · rw [if_neg z]
      exact ⟨0, by rw [Int.mul_zero]⟩
  · exact fun g => g.into fun x z => z.elim
end
end Lat

/-! Wait: the other way to join rows: some wait, one after the other is taken, cleared and put, and what it drives out waits again. -/
namespace Lat
section
variable {w : Nat} {m : Int}
/-- 0 modulo m at the places up to i -/
def Upto (w : Nat) (m : Int) (i : Nat) (u : Vec) : Prop := ∀ k, k ≤ i → k < w → m ∣ u k
/-- the rows behind i, and those that wait and are 0 up to i -/
def Pool (w : Nat) (m : Int) (h : Nat → Vec) (W : Vec → Prop) (i : Nat) (u : Vec) : Prop := Behind w h i u ∨ (W u ∧ Upto w m i u)
structure Wait (w : Nat) (m : Int) (h : Nat → Vec) (W : Vec → Prop) (G : Vec → Prop) : Prop extends Tri w m h where
  near : ∀ i, i < w → ∀ q : Int, q * h i i = m → Gen w m (Pool w m h W i) (fun x => q * h i x)
  same : ∀ u, Gen w m (fun x => All w h x ∨ W x) u ↔ G u
variable {h : Nat → Vec} {W : Vec → Prop} {G : Vec → Prop}
theorem Gen.mono {R S : Vec → Prop} (e : ∀ u, R u → S u) {v : Vec} (g : Gen w m R v) : Gen w m S v := g.into fun u r => .row (e u r)
/-- what the rows behind i make is 0 up to i -/
theorem Tri.upto (t : Tri w m h) {i : Nat} {u : Vec} (g : Gen w m (Behind w h i) u) : Upto w m i u := by
  induction g with
  | row r =>
    obtain ⟨k, k1, k2, rfl⟩ := r
    intro x hx hw
    rw [t.low k k2 x (by omega)]
    exact ⟨0, by rw [Int.mul_zero]⟩
  | add _ _ a b => exact fun x hx hw => Int.dvd_add (a x hx hw) (b x hx hw)
  | mul c _ a => exact fun x hx hw => Int.dvd_mul_of_dvd_right (a x hx hw)
  | top z => exact fun x _ hw => z x hw
  | ext e _ a => exact fun x hx hw => by rw [← e x hw]; exact a x hx hw
/-- none waits -/
theorem Wait.done (p : Wait w m h W G) (none : ∀ u, ¬ W u) : Good w m h ∧ ∀ u, Mem w h w u ↔ G u := by
  have good := p.toTri.good fun i hi q hq => (p.near i hi q hq).mono fun u r => by
    rcases r with r | ⟨r, _⟩
    · exact r
    · exact (none u r).elim
  refine ⟨good, fun u => ?_⟩
  rw [good.gen u, ← p.same u]
  exact ⟨fun g => g.mono fun x r => .inl r, fun g => g.mono fun x r => by
    rcases r with r | r
    · exact r
    · exact (none x r).elim⟩
/-- v is what is left of the row r: r less what the rows make, behind each place up to which r is 0 -/
structure Left (w : Nat) (m : Int) (h : Nat → Vec) (r v : Vec) : Prop where
  all : Gen w m (All w h) (fun x => r x - v x)
  low : ∀ i, Upto w m i r → Gen w m (Behind w h i) (fun x => r x - v x)
theorem Left.back {r v : Vec} {R : Vec → Prop} (e : Gen w m R (fun x => r x - v x)) (g : Gen w m R v) : Gen w m R r := by
  refine .ext (fun x _ => ?_) (.add g e)
  show v x + (r x - v x) = r x
  omega
theorem Left.forth {r v : Vec} {R : Vec → Prop} (e : Gen w m R (fun x => r x - v x)) (g : Gen w m R r) : Gen w m R v := by
  refine .lin 1 (-1) (fun x _ => ?_) g e
  rw [show v x - (1 * r x + -1 * (r x - v x)) = 0 by omega]
  exact ⟨0, by rw [Int.mul_zero]⟩
theorem Left.upto {r v : Vec} {i : Nat} (t : Tri w m h) (l : Left w m h r v) (z : Upto w m i r) : Upto w m i v := fun k hk hw => by
  have a := t.upto (l.low i z) k hk hw
  have b := z k hk hw
  have := Int.dvd_sub b a
  rw [show r k - (r k - v k) = v k by omega] at this
  exact this
/-- a row of which nothing is left goes -/
theorem Wait.drop {r v : Vec} (p : Wait w m h (fun u => W u ∨ u = r) G) (l : Left w m h r v) (z : ∀ i, i < w → m ∣ v i) : Wait w m h W G where
  toTri := p.toTri
  near := fun i hi q hq => (p.near i hi q hq).into fun u hu => by
    rcases hu with b | ⟨a | rfl, zu⟩
    · exact .row (.inl b)
    · exact .row (.inr ⟨a, zu⟩)
    · exact Left.back ((l.low i zu).mono fun x b => .inl b) (.top z)
  same := fun u => by
    rw [← p.same u]
    refine ⟨fun g => g.mono fun x hx => hx.imp id .inl, fun g => g.into fun x hx => ?_⟩
    rcases hx with a | a | rfl
    · exact .row (.inl a)
    · exact .row (.inr a)
    · exact Left.back (l.all.mono fun x b => .inl b) (.top z)
/-- what is left is put at its head j; the row that stood there waits, and that multiple of the new one that is 0 at the head -/
theorem Wait.swap {r v g o b : Vec} {j : Nat} (x y a q1 : Int) (p : Wait w m h (fun u => W u ∨ u = r) G) (l : Left w m h r v) (hj : j < w) (vj : ¬ m ∣ v j)
    (g0 : ∀ i, i < j → g i = 0) (gp : 0 < g j) (gd : q1 * g j = m) (eg : ∀ i, i < w → m ∣ g i - x * v i) (ev : ∀ i, i < w → m ∣ v i - y * g i)
    (ho : ∀ i, i < w → m ∣ h j i - o i) (hb : ∀ i, i < w → m ∣ q1 * g i - b i) : Wait w m (at_ h j g) (fun u => W u ∨ u = o ∨ u = b) G := by
  have gw : ∀ {R : Vec → Prop}, Gen w m R g → Gen w m R v := fun k => .lin y 0 (fun t ht => by rw [Int.zero_mul, Int.add_zero]; exact ev t ht) k k
  have wg : ∀ {R : Vec → Prop}, Gen w m R v → Gen w m R g := fun k => .lin x 0 (fun t ht => by rw [Int.zero_mul, Int.add_zero]; exact eg t ht) k k
  have oz : ∀ i, i < j → Upto w m i o := fun i hi k hk hw => by
    have e := ho k hw
    rw [p.low j hj k (by omega), Int.zero_sub] at e
    exact Int.dvd_neg.mp e
  have old : ∀ i, i < j → Gen w m (Pool w m (at_ h j g) (fun u => W u ∨ u = o ∨ u = b) i) (h j) := fun i hi =>
    .cong (u := o) ho (.row (.inr ⟨.inr (.inl rfl), oz i hi⟩))
  have behind : ∀ i, ∀ u, Behind w h i u → Gen w m (Pool w m (at_ h j g) (fun u => W u ∨ u = o ∨ u = b) i) u := by
    rintro i u ⟨k, k1, k2, rfl⟩
    by_cases kj : k = j
    · subst kj
      exact old i k1
    · exact .row (.inl ⟨k, k1, k2, (at_ne kj).symm⟩)
  have isG : ∀ i, i < j → Gen w m (Pool w m (at_ h j g) (fun u => W u ∨ u = o ∨ u = b) i) g := fun i hi => .row (.inl ⟨j, hi, hj, at_same.symm⟩)
  refine { low := ?_, pos := ?_, dvd := ?_, near := ?_, same := ?_ }
  · intro k hk i hi
    by_cases q : k = j
    · subst q
      rw [at_same]
      exact g0 i hi
    · rw [at_ne q]
      exact p.low k hk i hi
  · intro k hk
    by_cases q : k = j
    · subst q
      rw [at_same]
      exact gp
    · rw [at_ne q]
      exact p.pos k hk
  · intro k hk
    by_cases q : k = j
    · subst q
      rw [at_same]
      exact ⟨q1, by rw [Int.mul_comm]; exact gd.symm⟩
    · rw [at_ne q]
      exact p.dvd k hk
  · intro i hi q hq
    by_cases q0 : i = j
    · subst q0
      rw [at_same] at hq ⊢
      have : q = q1 := Int.eq_of_mul_eq_mul_right (by omega) (hq.trans gd.symm)
      subst this
      refine .cong (u := b) hb (.row (.inr ⟨.inr (.inr rfl), fun k hk hw => ?_⟩))
      have e := hb k hw
      have : m ∣ q * g k := by
        by_cases z : k = i
        · rw [z, gd]
          exact ⟨1, by rw [Int.mul_one]⟩
        · rw [g0 k (by omega), Int.mul_zero]
          exact ⟨0, by rw [Int.mul_zero]⟩
      have := Int.dvd_sub this e
      rw [show q * g k - (q * g k - b k) = b k by omega] at this
      exact this
    · rw [at_ne q0] at hq ⊢
      refine (p.near i hi q hq).into fun u hu => ?_
      rcases hu with hu | ⟨hu | rfl, zu⟩
      · exact behind i u hu
      · exact .row (.inr ⟨.inl hu, zu⟩)
      · -- r, 0 up to i: then so is v, and j is behind i, or v is 0 there
        have back : Gen w m (Pool w m (at_ h j g) (fun u => W u ∨ u = o ∨ u = b) i) (fun x => u x - v x) := (l.low i zu).into fun z hz => behind i z hz
        refine Left.back back ?_
        by_cases ij : i < j
        · exact gw (isG i ij)
        · exact (vj (l.upto p.toTri zu j (by omega) hj)).elim
  · intro u
    rw [← p.same u]
    constructor
    · refine fun r' => r'.into fun z hz => ?_
      have gr : Gen w m (fun x => All w h x ∨ (W x ∨ x = r)) g := wg (Left.forth (l.all.mono fun x b => .inl b) (.row (.inr (.inr rfl))))
      rcases hz with ⟨k, k2, rfl⟩ | hz | rfl | rfl
      · by_cases kj : k = j
        · subst kj
          rw [at_same]
          exact gr
        · rw [at_ne kj]
          exact .row (.inl ⟨k, k2, rfl⟩)
      · exact .row (.inr (.inl hz))
      · refine .cong (u := h j) (fun t ht => ?_) (.row (.inl ⟨j, hj, rfl⟩))
        have := Int.dvd_neg.mpr (ho t ht)
        rw [show z t - h j t = -(h j t - z t) by omega]
        exact this
      · refine .cong (u := fun t => q1 * g t) (fun t ht => ?_) (.mul q1 gr)
        have := Int.dvd_neg.mpr (hb t ht)
        rw [show z t - q1 * g t = -(q1 * g t - z t) by omega]
        exact this
    · refine fun r' => r'.into fun z hz => ?_
      have oldAll : ∀ z, All w h z → Gen w m (fun x => All w (at_ h j g) x ∨ (W x ∨ x = o ∨ x = b)) z := by
        rintro z ⟨k, k2, rfl⟩
        by_cases kj : k = j
        · subst kj
          exact .cong (u := o) ho (.row (.inr (.inr (.inl rfl))))
        · exact .row (.inl ⟨k, k2, (at_ne kj).symm⟩)
      rcases hz with hz | hz | rfl
      · exact oldAll z hz
      · exact .row (.inr (.inl hz))
      · exact Left.back (l.all.into oldAll) (gw (.row (.inl ⟨j, hj, at_same.symm⟩)))
end
end Lat

/-! Red: rows in triangle order made lower at later heads; the one form of what rows make. -/
namespace Lat
section
variable {w : Nat} {m : Int} {h h' : Nat → Vec}
theorem Good.reduce (g : Good w m h) (low : ∀ j, j < w → ∀ i, i < j → h' j i = 0) (head : ∀ j, j < w → h' j j = h j j)
    (diff : ∀ j, j < w → Gen w m (Behind w h' j) (fun x => h' j x - h j x)) : Good w m h' ∧ ∀ u, Mem w h' w u ↔ Mem w h w u := by
  have more : ∀ {i k : Nat}, i ≤ k → ∀ u, Behind w h' k u → Behind w h' i u := fun ik u ⟨l, a, b, e⟩ => ⟨l, by omega, b, e⟩
  have each : ∀ i k, i < k → k < w → Gen w m (Behind w h' i) (h k) := fun i k ik hk => by
    refine .lin 1 (-1) (fun t _ => ?_) (.row ⟨k, ik, hk, rfl⟩) ((diff k hk).mono (more (by omega)))
    rw [show h k t - (1 * h' k t + -1 * (h' k t - h k t)) = 0 by omega]
    exact ⟨0, by rw [Int.mul_zero]⟩
  have tri : Tri w m h' := ⟨low, fun j hj => by rw [head j hj]; exact g.pos j hj, fun j hj => by rw [head j hj]; exact g.dvd j hj⟩
  have good : Good w m h' := tri.good fun i hi q hq => by
    rw [head i hi] at hq
    have old : Gen w m (Behind w h' i) (fun x => q * h i x) := ((g.puts (fun _ => 0)).far i (by omega) hi q hq).into fun u ⟨k, k1, k2, e⟩ => e ▸ each i k k1 k2
    refine .lin 1 q (fun t _ => ?_) old (diff i hi)
    rw [show q * h' i t - (1 * (q * h i t) + q * (h' i t - h i t)) = 0 by rw [Int.mul_sub]; omega]
    exact ⟨0, by rw [Int.mul_zero]⟩
  refine ⟨good, fun u => ?_⟩
  rw [good.gen u, g.gen u]
  constructor
  · refine fun r => r.into ?_
    have all : ∀ n, ∀ k, k < w → w ≤ k + n → Gen w m (fun u => ∃ j, j < w ∧ u = h j) (h' k) := by
      intro n
      induction n with
      | zero => exact fun k a b => absurd a (by omega)
      | succ n ih =>
        intro k hk _
        refine .lin 1 1 (fun t _ => ?_) (.row ⟨k, hk, rfl⟩) ((diff k hk).into fun u ⟨l, l1, l2, e⟩ => e ▸ ih l l2 (by omega))
        rw [show h' k t - (1 * h k t + 1 * (h' k t - h k t)) = 0 by omega]
        exact ⟨0, by rw [Int.mul_zero]⟩
    rintro u ⟨k, hk, rfl⟩
    exact all w k hk (by omega)
  · refine fun r => r.into ?_
    rintro u ⟨k, hk, rfl⟩
    refine .lin 1 (-1) (fun t _ => ?_) (.row ⟨k, hk, rfl⟩) ((diff k hk).mono fun u ⟨l, _, l2, e⟩ => ⟨l, l2, e⟩)
    rw [show h k t - (1 * h' k t + -1 * (h' k t - h k t)) = 0 by omega]
    exact ⟨0, by rw [Int.mul_zero]⟩
/-- with lower numbers at later heads it is the form -/
theorem Good.form (g : Good w m h) (red : ∀ j, j < w → ∀ i, j < i → i < w → 0 ≤ h j i ∧ h j i < h i i) : Form w (Mem w h w) (fun j => h j j) h where
  mem := fun j hj => g.mem hj (Nat.le_refl _) (by omega)
  low := g.low
  head := fun _ _ => rfl
  pos := g.pos
  div := fun v hv j hj z => g.div (Nat.le_refl _) hv j (by omega) hj fun i _ b => z i b
  red := red
/-- two such rows that tell the same are the same -/
theorem Good.one (g : Good w m h) (g' : Good w m h') (r : ∀ j, j < w → ∀ i, j < i → i < w → 0 ≤ h j i ∧ h j i < h i i)
    (r' : ∀ j, j < w → ∀ i, j < i → i < w → 0 ≤ h' j i ∧ h' j i < h' i i) (same : ∀ u, Mem w h w u ↔ Mem w h' w u) :
    ∀ j, j < w → ∀ i, i < w → h j i = h' j i := by
  have e : Mem w h w = Mem w h' w := funext fun u => propext (same u)
  have F := g.form r
  have G := g'.form r'
  rw [← e] at G
  exact (Form.one g.lot F G).2
/-- a row whose head is m is m there and 0 elsewhere: so places without a row do no harm -/
theorem Good.bare (g : Good w m h) (r : ∀ j, j < w → ∀ i, j < i → i < w → 0 ≤ h j i ∧ h j i < h i i) {j : Nat} (hj : j < w) (e : h j j = m) :
    ∀ i, i < w → h j i = if i = j then m else 0 := by
  have top : Mem w h w (fun i => if i = j then m else 0) := g.lot.top fun i _ => by
    by_cases z : i = j
    · rw [if_pos z]
      exact ⟨1, by rw [Int.mul_one]⟩
    · rw [if_neg z]
      exact ⟨0, by rw [Int.mul_zero]⟩
  have diff := g.lot.sub 1 (g.mem hj (Nat.le_refl _) (by omega)) top
  have all : ∀ n i, i ≤ n → i < w → h j i - 1 * (if i = j then m else 0) = 0 := by
    intro n
    induction n with
    | zero =>
      intro i hi hw
      have : i = 0 := by omega
      subst this
      by_cases z : 0 = j
      · subst z
        rw [if_pos rfl, e]
        omega
      · rw [if_neg z, g.low j hj 0 (by omega)]
        rfl
    | succ n ih =>
      intro i hi hw
      by_cases hn : i ≤ n
      · exact ih i hn hw
      · rcases Nat.lt_trichotomy i j with z | z | z
        · rw [if_neg (by omega), g.low j hj i z]
          rfl
        · subst z
          rw [if_pos rfl, e]
          omega
        · have a := r j hj i z hw
          have dv := g.div (Nat.le_refl _) diff i (by omega) hw fun k _ hk => ih k (by omega) (by omega)
          have dv : h i i ∣ h j i - 1 * (if i = j then m else 0) := dv
          rw [if_neg (by omega)] at dv ⊢
          exact small_zero dv (by omega) (by omega)
  intro i hi
  have := all i i (Nat.le_refl _) hi
  omega
end
end Lat

/-! Pack: rows of small numbers in one integer, 24 bits each; heads and units modulo the ten moduli. -/
namespace Lat
/-- the row packed -/
def P : List Int → Int
  | [] => 0
  | a :: r => P r * 2 ^ 24 + a
theorem P_nonneg : ∀ {l : List Int}, (∀ a ∈ l, 0 ≤ a) → 0 ≤ P l
  | [], _ => Int.le_refl _
  | a :: r, h => by
    have := P_nonneg (l := r) fun b hb => h b (.tail _ hb)
    have := h a (.head _)
    show 0 ≤ P r * 2 ^ 24 + a
    omega
theorem P_at : ∀ {l : List Int} (j : Nat), (∀ a ∈ l, 0 ≤ a ∧ a < 2 ^ 24) → P l / 2 ^ (24 * j) % 2 ^ 24 = l.getD j 0
  | [], j, _ => by
    show (0 : Int) / _ % _ = 0
    rw [Int.zero_ediv]
    rfl
  | a :: r, 0, h => by
    obtain ⟨h0, h1⟩ := h a (.head _)
    show (P r * 2 ^ 24 + a) / 2 ^ 0 % 2 ^ 24 = a
    rw [show ((2 : Int) ^ 0) = 1 from rfl, Int.ediv_one]
    omega
  | a :: r, j + 1, h => by
    obtain ⟨h0, h1⟩ := h a (.head _)
    have ih := P_at (l := r) j fun b hb => h b (.tail _ hb)
    show (P r * 2 ^ 24 + a) / 2 ^ (24 * (j + 1)) % 2 ^ 24 = r.getD j 0
    have e : (2 : Int) ^ (24 * (j + 1)) = 2 ^ 24 * 2 ^ (24 * j) := by rw [Nat.mul_succ, Int.pow_add, Int.mul_comm]
    rw [e, ← Int.ediv_ediv_of_nonneg (by decide)]
    have q : (P r * 2 ^ 24 + a) / 2 ^ 24 = P r := by omega
    rw [q]
    exact ih
/-- sums of packed rows -/
theorem P_add (c : Int) : ∀ {l k : List Int}, l.length = k.length → P l + c * P k = P (List.zipWith (fun a b => a + c * b) l k)
  | [], [], _ => by
    show (0 : Int) + c * 0 = 0
    rw [Int.mul_zero]
    rfl
  | a :: l, b :: k, h => by
    have ih := P_add c (l := l) (k := k) (by simpa using h)
    show P l * 2 ^ 24 + a + c * (P k * 2 ^ 24 + b) = P (List.zipWith (fun a b => a + c * b) l k) * 2 ^ 24 + (a + c * b)
    rw [← ih, Int.mul_add, ← Int.mul_assoc, Int.add_mul]
    omega
theorem P_short (n : Nat) : ∀ l : List Int, P (l ++ List.replicate n 0) = P l
  | [] => by
    rw [List.nil_append]
    induction n with
    | zero => rfl
    | succ n ih =>
      rw [List.replicate_succ]
      show P (List.replicate n 0) * 2 ^ 24 + 0 = 0
      rw [ih]
      rfl
  | a :: l => by
    show P (l ++ List.replicate n 0) * 2 ^ 24 + a = P l * 2 ^ 24 + a
    rw [P_short n l]
theorem P_bits : ∀ {l : List Int}, (∀ a ∈ l, 0 ≤ a ∧ a < 2 ^ 24) → P l < 2 ^ (24 * l.length)
  | [], _ => by decide
  | a :: r, h => by
    obtain ⟨h0, h1⟩ := h a (.head _)
    have ih := P_bits (l := r) fun b hb => h b (.tail _ hb)
    show P r * 2 ^ 24 + a < 2 ^ (24 * (r.length + 1))
    rw [Nat.mul_succ, Int.pow_add]
    have : (P r + 1) * 2 ^ 24 ≤ 2 ^ (24 * r.length) * 2 ^ 24 := Int.mul_le_mul_of_nonneg_right (by omega) (by decide)
    omega
/-! ### heads -/
def tens : List Nat := [1, 2, 4, 8, 16, 3, 9, 27, 5, 25, 7]
/-- of two heads one divides the other; the greatest common divisor with m is a head, and a unit leads to it -/
theorem heads_all : ∀ m ∈ tens, ∀ x ∈ List.range m, 0 < x → Nat.gcd x m ∣ m ∧ (∃ u ∈ List.range m, 0 < u ∧ u * x % m = Nat.gcd x m ∧ ∃ v ∈ List.range m, v * u % m = 1 % m) ∧
    ∀ d ∈ List.range (m + 1), 0 < d → d ∣ m → (d ∣ x ∨ (Nat.gcd x m ∣ d ∧ Nat.gcd x m < d)) := by decide +kernel
theorem heads {m x : Nat} (hm : m ∈ tens) (hx : x < m) (x0 : 0 < x) : Nat.gcd x m ∣ m ∧ (∃ u, u < m ∧ 0 < u ∧ u * x % m = Nat.gcd x m ∧ ∃ v, v * u % m = 1 % m) ∧
    ∀ d, d ≤ m → 0 < d → d ∣ m → (d ∣ x ∨ (Nat.gcd x m ∣ d ∧ Nat.gcd x m < d)) := by
  obtain ⟨a, ⟨u, hu, u0, u1, v, _, v1⟩, c⟩ := heads_all m hm x (List.mem_range.mpr hx) x0
  exact ⟨a, ⟨u, List.mem_range.mp hu, u0, u1, v, v1⟩, fun d hd => c d (List.mem_range.mpr (by omega))⟩
end Lat

/-! TupS: a written tuple of texts. -/
namespace B5
open PySem L2 Gd
def keyS : Value → Option Str
  | .str z _ => some z
  | _ => none
def allS : List Value → Option (List Str)
  | [] => some []
  | v :: r => match keyS v, allS r with
    | some i, some is => some (i :: is)
    | _, _ => none
def tupS (K : PySem.W.Frag) : Value → Option (List Str)
  | .ref a => match K.lookup a with
    | some ⟨.type "tuple", none, .seq us _, _⟩ => allS us.toList
    | _ => none
  | _ => none
theorem keyS_some {v : Value} {i : Str} (h : keyS v = some i) : ∃ t, v = .str i t := by
  cases v <;> simp_all [keyS]
theorem allS_some : ∀ {us : List Value} {is : List Str}, allS us = some is → Vals (is.map V.str) us := by
  intro us
  induction us with
  | nil =>
    intro is h
    cases h
    exact .nil
  | cons v r ih =>
    intro is h
    unfold allS at h
    split at h
    · rename_i i l e1 e2
      cases h
      obtain ⟨t, rfl⟩ := keyS_some e1
      exact .cons ⟨t, rfl⟩ (ih e2)
    · cases h
theorem tupS_in {K : PySem.W.Frag} {a : Addr} {is : List Str} (h : tupS K (.ref a) = some is) (few : is.length ≤ 1000) (H : Hp) : SqT K H a (is.map V.str) := by
  unfold tupS at h
  simp only at h
  split at h
  · rename_i us n sl e
    have rv := allS_some h
    refine .inr ⟨_, us, n, e, rfl, rfl, ?_, rv⟩
    have z := Paired.length rv
    have z2 : us.toList.length = us.size := Array.length_toList
    rw [← z2, ← z, List.length_map]
    exact Nat.le_of_lt (small1000 few)
  · cases h
end B5

/-! Bfs: states met in order, named by what is met; two namings of the same give the same rows. -/
namespace B5
/-- the place of a name in a list -/
def ixOf {α : Type} [DecidableEq α] : List α → α → Option Nat
  | [], _ => none
  | x :: l, a => if x = a then some 0 else (ixOf l a).map (· + 1)
/-- one name more: its place, and the list with it -/
def note {α : Type} [DecidableEq α] (st : List α) (a : α) : List α × Nat :=
  match ixOf st a with
  | some i => (st, i)
  | none => (st ++ [a], st.length)
/-- a row of names in turn -/
def noteAll {α : Type} [DecidableEq α] : List α → List α → List α × List Nat
  | st, [] => (st, [])
  | st, a :: as => let q := note st a; let r := noteAll q.1 as; (r.1, q.2 :: r.2)
/-- the walk over all names that are met -/
def walkB {α : Type} [DecidableEq α] (lead : α → List α) : Nat → Nat → List α → List (List Nat) → List α × List (List Nat)
  | 0, _, st, rows => (st, rows)
  | k + 1, i, st, rows => match st[i]? with
    | none => (st, rows)
    | some a => let q := noteAll st (lead a); walkB lead k (i + 1) q.1 (rows ++ [q.2])
inductive Par {α β : Type} (R : α → β → Prop) : List α → List β → Prop
  | nil : Par R [] []
  | cons {a b l m} : R a b → Par R l m → Par R (a :: l) (b :: m)
theorem Par.len {α β : Type} {R : α → β → Prop} {l : List α} {m : List β} (h : Par R l m) : l.length = m.length := by
  induction h with
  | nil => rfl
  | cons _ _ ih => rw [List.length_cons, List.length_cons, ih]
theorem Par.app {α β : Type} {R : α → β → Prop} {l l' : List α} {m m' : List β} (h : Par R l m) (g : Par R l' m') : Par R (l ++ l') (m ++ m') := by
  induction h with
  | nil => exact g
  | cons r _ ih => exact .cons r ih
theorem Par.at {α β : Type} {R : α → β → Prop} {l : List α} {m : List β} (h : Par R l m) : ∀ (i : Nat), (l[i]? = none ∧ m[i]? = none) ∨ ∃ a b, l[i]? = some a ∧ m[i]? = some b ∧ R a b := by
  induction h with
  | nil => exact fun i => .inl ⟨by simp, by simp⟩
  | cons r _ ih =>
    intro i
    cases i with
    | zero => exact .inr ⟨_, _, rfl, rfl, r⟩
    | succ i => simpa using ih i
section
variable {α β : Type} [DecidableEq α] [DecidableEq β] {R : α → β → Prop}
/-- R names one to one -/
def One (R : α → β → Prop) : Prop := ∀ a b a' b', R a b → R a' b' → (a = a' ↔ b = b')
theorem ixOf_par (o : One R) {l : List α} {m : List β} (h : Par R l m) {a : α} {b : β} (r : R a b) : ixOf l a = ixOf m b := by
  induction h with
  | nil => rfl
  | @cons x y l m q _ ih =>
    unfold ixOf
    by_cases e : x = a
    · rw [if_pos e, if_pos ((o _ _ _ _ q r).mp e)]
    · rw [if_neg e, if_neg fun z => e ((o _ _ _ _ q r).mpr z), ih]
theorem note_par (o : One R) {l : List α} {m : List β} (h : Par R l m) {a : α} {b : β} (r : R a b) : Par R (note l a).1 (note m b).1 ∧ (note l a).2 = (note m b).2 := by
  unfold note
  rw [ixOf_par o h r]
  cases ixOf m b with
  | some i => exact ⟨h, rfl⟩
  | none => exact ⟨h.app (.cons r .nil), h.len⟩
theorem noteAll_par (o : One R) {as : List α} {bs : List β} (g : Par R as bs) : ∀ {l : List α} {m : List β}, Par R l m → Par R (noteAll l as).1 (noteAll m bs).1 ∧ (noteAll l as).2 = (noteAll m bs).2 := by
  induction g with
  | nil => exact fun h => ⟨h, rfl⟩
  | cons r _ ih =>
    intro l m h
    obtain ⟨h1, h2⟩ := note_par o h r
    obtain ⟨h3, h4⟩ := ih h1
    refine ⟨h3, ?_⟩
    show (note l _).2 :: (noteAll (note l _).1 _).2 = (note m _).2 :: (noteAll (note m _).1 _).2
    rw [h2, h4]
/-- two namings of the same give the same rows -/
theorem walkB_par (o : One R) {f : α → List α} {g : β → List β} (fg : ∀ a b, R a b → Par R (f a) (g b)) : ∀ (k i : Nat) {l : List α} {m : List β} (rows : List (List Nat)), Par R l m →
    Par R (walkB f k i l rows).1 (walkB g k i m rows).1 ∧ (walkB f k i l rows).2 = (walkB g k i m rows).2
  | 0, _, _, _, _, h => ⟨h, rfl⟩
  | k + 1, i, l, m, rows, h => by
    unfold walkB
    rcases h.at i with ⟨e1, e2⟩ | ⟨a, b, e1, e2, r⟩
    · rw [e1, e2]
      exact ⟨h, rfl⟩
    · rw [e1, e2]
      obtain ⟨h1, h2⟩ := noteAll_par o (fg a b r) h
      have := walkB_par o fg k (i + 1) (rows ++ [(noteAll l (f a)).2]) h1
      simp only []
      rw [h2] at this ⊢
      exact this
end
section
variable {α : Type} [DecidableEq α]
theorem ixOf_some {a : α} : ∀ {l : List α} {i : Nat}, ixOf l a = some i → l[i]? = some a
  | [], _, h => by cases h
  | x :: l, i, h => by
    unfold ixOf at h
    by_cases e : x = a
    · rw [if_pos e] at h
      cases h
      rw [e]
      rfl
    · rw [if_neg e] at h
      cases q : ixOf l a with
      | none => rw [q] at h; cases h
      | some j =>
        rw [q] at h
        cases h
        show l[j]? = some a
        exact ixOf_some q
theorem ixOf_none {a : α} : ∀ {l : List α}, ixOf l a = none → a ∉ l
  | [], _ => by simp
  | x :: l, h => by
    unfold ixOf at h
    by_cases e : x = a
    · rw [if_pos e] at h
      cases h
    · rw [if_neg e] at h
      cases q : ixOf l a with
      | none =>
        intro z
        rcases List.mem_cons.mp z with z | z
        · exact e z.symm
        · exact ixOf_none q z
      | some j => rw [q] at h; cases h
theorem ixOf_self {l : List α} (nd : l.Nodup) {i : Nat} {a : α} (h : l[i]? = some a) : ixOf l a = some i := by
  cases q : ixOf l a with
  | none => exact absurd (List.mem_of_getElem? h) (ixOf_none q)
  | some j =>
    have hj := ixOf_some q
    obtain ⟨h1, h2⟩ := List.getElem?_eq_some_iff.mp h
    obtain ⟨h3, h4⟩ := List.getElem?_eq_some_iff.mp hj
    rw [(List.getElem_inj nd).mp (h4.trans h2.symm)]
/-- what a list that grows keeps -/
theorem note_pre (st : List α) (a : α) : st <+: (note st a).1 := by
  unfold note
  cases ixOf st a with
  | some i => exact List.prefix_refl _
  | none => exact List.prefix_append _ _
theorem note_nd {st : List α} (nd : st.Nodup) (a : α) : (note st a).1.Nodup := by
  unfold note
  cases q : ixOf st a with
  | some i => exact nd
  | none =>
    show (st ++ [a]).Nodup
    rw [List.nodup_append]
    refine ⟨nd, by simp, fun x hx y hy e => ?_⟩
    have : y = a := by simpa using hy
    rw [e, this] at hx
    exact ixOf_none q hx
theorem note_at (st : List α) (a : α) : (note st a).1[(note st a).2]? = some a := by
  unfold note
  cases q : ixOf st a with
  | some i => exact ixOf_some q
  | none => show (st ++ [a])[st.length]? = some a; simp
theorem noteAll_pre : ∀ (as st : List α), st <+: (noteAll st as).1
  | [], st => List.prefix_refl _
  | a :: as, st => (note_pre st a).trans (noteAll_pre as _)
theorem noteAll_nd : ∀ (as : List α) {st : List α}, st.Nodup → (noteAll st as).1.Nodup
  | [], _, nd => nd
  | a :: as, _, nd => noteAll_nd as (note_nd nd a)
theorem pre_at {l m : List α} (h : l <+: m) {i : Nat} {a : α} (e : l[i]? = some a) : m[i]? = some a := by
  obtain ⟨t, rfl⟩ := h
  rw [List.getElem?_append_left (List.getElem?_eq_some_iff.mp e).1]
  exact e
/-- a row tells the places of its names -/
theorem noteAll_at : ∀ (as st : List α), (noteAll st as).2.length = as.length ∧ ∀ (j : Nat) (a : α) (i : Nat), as[j]? = some a → (noteAll st as).2[j]? = some i → (noteAll st as).1[i]? = some a
  | [], st => ⟨rfl, fun j a i h _ => by simp at h⟩
  | x :: as, st => by
    obtain ⟨h1, h2⟩ := noteAll_at as (note st x).1
    refine ⟨by show (_ :: _).length = _; rw [List.length_cons, List.length_cons, h1], fun j a i e1 e2 => ?_⟩
    cases j with
    | zero =>
      cases e1
      cases e2
      exact pre_at (noteAll_pre as _) (note_at st x)
    | succ j => exact h2 j a i e1 e2
/-- every name of a noted row is in the list -/
theorem note_mem (st : List α) (a : α) : ∀ x ∈ (note st a).1, x ∈ st ∨ x = a := by
  unfold note
  cases ixOf st a with
  | some i => exact fun x h => .inl h
  | none =>
    intro x h
    rcases List.mem_append.mp h with h | h
    · exact .inl h
    · exact .inr (by simpa using h)
theorem noteAll_mem : ∀ (as st : List α), ∀ x ∈ (noteAll st as).1, x ∈ st ∨ x ∈ as
  | [], _ => fun x h => .inl h
  | a :: as, st => fun x h => by
    rcases noteAll_mem as _ x h with h | h
    · rcases note_mem st a x h with h | h
      · exact .inl h
      · exact .inr (by rw [h]; exact .head _)
    · exact .inr (.tail _ h)
end
end B5

/-! Bfs2: the walk ends closed. -/
namespace B5
variable {α : Type} [DecidableEq α]
theorem ixOf_app {k : α} (x : α) : ∀ (l : List α), ixOf (l ++ [k]) x = match ixOf l x with
    | some t => some t
    | none => if k = x then some l.length else none
  | [] => by
    show (if k = x then some 0 else (ixOf [] x).map _) = if k = x then some 0 else none
    rfl
  | y :: l => by
    show (if y = x then some 0 else (ixOf (l ++ [k]) x).map (· + 1)) = match (if y = x then some 0 else (ixOf l x).map (· + 1)) with
      | some t => some t
      | none => if k = x then some (y :: l).length else none
    by_cases z : y = x
    · rw [if_pos z]
      rw [if_pos z]
    · rw [if_neg z, if_neg z, ixOf_app x l]
      cases ixOf l x with
      | some t => rfl
      | none =>
        by_cases q : k = x
        · simp [q]
        · simp [q]
/-- the rows tell where the names lead -/
def RowOk (lead : α → List α) (st : List α) (a : α) (row : List Nat) : Prop := row.length = (lead a).length ∧ ∀ (j : Nat) (b : α), (lead a)[j]? = some b → ∃ k, row[j]? = some k ∧ st[k]? = some b
theorem RowOk.pre {lead : α → List α} {st st' : List α} {a : α} {row : List Nat} (h : RowOk lead st a row) (p : st <+: st') : RowOk lead st' a row :=
  ⟨h.1, fun j b e => let ⟨k, e1, e2⟩ := h.2 j b e; ⟨k, e1, pre_at p e2⟩⟩
structure WalkI (lead : α → List α) (P : α → Prop) (st0 : List α) (i : Nat) (st : List α) (rows : List (List Nat)) : Prop where
  len : rows.length = i
  le : i ≤ st.length
  nd : st.Nodup
  all : ∀ x ∈ st, P x
  pre : st0 <+: st
  ok : ∀ (j : Nat) (a : α) (row : List Nat), j < i → st[j]? = some a → rows[j]? = some row → RowOk lead st a row
theorem WalkI.step {lead : α → List α} {P : α → Prop} (cl : ∀ a, P a → ∀ b ∈ lead a, P b) {st0 : List α} {i : Nat} {st : List α} {rows : List (List Nat)} (h : WalkI lead P st0 i st rows) {a : α} (e : st[i]? = some a) :
    WalkI lead P st0 (i + 1) (noteAll st (lead a)).1 (rows ++ [(noteAll st (lead a)).2]) := by
  have p := noteAll_pre (lead a) st
  have lt := (List.getElem?_eq_some_iff.mp e).1
  have pl := p.length_le
  refine ⟨by rw [List.length_append, h.len]; rfl, by omega, noteAll_nd _ h.nd, fun x hx => ?_, h.pre.trans p, fun j b row hj e1 e2 => ?_⟩
  · rcases noteAll_mem _ _ x hx with hx | hx
    · exact h.all x hx
    · exact cl a (h.all a (List.mem_of_getElem? e)) x hx
  · by_cases z : j < i
    · rw [List.getElem?_append_left (by rw [h.len]; exact z)] at e2
      obtain ⟨b', eb⟩ : ∃ b', st[j]? = some b' := ⟨st[j], List.getElem?_eq_getElem (by omega)⟩
      have := pre_at p eb
      rw [e1] at this
      cases this
      exact (h.ok j b row z eb e2).pre p
    · have ej : j = i := by omega
      subst ej
      have := pre_at p e
      rw [e1] at this
      cases this
      rw [List.getElem?_append_right (by rw [h.len]; exact Nat.le_refl _), h.len, Nat.sub_self] at e2
      cases e2
      obtain ⟨h1, h2⟩ := noteAll_at (lead a) st
      refine ⟨h1, fun t b' eb => ?_⟩
      have lt2 := (List.getElem?_eq_some_iff.mp eb).1
      have ek : (noteAll st (lead a)).2[t]? = some ((noteAll st (lead a)).2[t]'(by omega)) := List.getElem?_eq_getElem (by omega)
      exact ⟨_, ek, h2 t b' _ eb ek⟩
/-- with room enough the walk ends closed -/
theorem walkB_end {lead : α → List α} {P : α → Prop} (cl : ∀ a, P a → ∀ b ∈ lead a, P b) {N : Nat} (bnd : ∀ l : List α, l.Nodup → (∀ x ∈ l, P x) → l.length ≤ N) {st0 : List α} : ∀ (k i : Nat) {st : List α} {rows : List (List Nat)},
    WalkI lead P st0 i st rows → N < i + k → ∃ m, WalkI lead P st0 m (walkB lead k i st rows).1 (walkB lead k i st rows).2 ∧ m = (walkB lead k i st rows).1.length
  | 0, i, st, rows, h, hk => by
    have := bnd st h.nd h.all
    have := h.le
    omega
  | k + 1, i, st, rows, h, hk => by
    unfold walkB
    cases e : st[i]? with
    | none =>
      have := List.getElem?_eq_none_iff.mp e
      have := h.le
      exact ⟨i, h, by show i = st.length; omega⟩
    | some a => exact walkB_end cl bnd k (i + 1) (h.step cl e) (by omega)
/-- the walk from one name -/
def walkFrom (lead : α → List α) (N : Nat) (a : α) : List α × List (List Nat) := walkB lead (N + 1) 0 [a] []
theorem walkFrom_end {lead : α → List α} {P : α → Prop} (cl : ∀ a, P a → ∀ b ∈ lead a, P b) {N : Nat} (bnd : ∀ l : List α, l.Nodup → (∀ x ∈ l, P x) → l.length ≤ N) {a : α} (ha : P a) :
    WalkI lead P [a] (walkFrom lead N a).1.length (walkFrom lead N a).1 (walkFrom lead N a).2 := by
  obtain ⟨m, h, e⟩ := walkB_end (st0 := [a]) cl bnd (N + 1) 0 (st := [a]) (rows := []) ⟨rfl, Nat.zero_le _, by simp, fun x hx => by
    have : x = a := by simpa using hx
    rw [this]; exact ha, List.prefix_refl _, fun j _ _ hj => by omega⟩ (by omega)
  rw [e] at h
  exact h
/-- names below n, each once: at most n -/
theorem nodup_below : ∀ (n : Nat) (l : List Nat), l.Nodup → (∀ x ∈ l, x < n) → l.length ≤ n
  | 0, l, _, h => by
    cases l with
    | nil => exact Nat.le_refl _
    | cons x l => exact absurd (h x (.head _)) (Nat.not_lt_zero x)
  | n + 1, l, nd, h => by
    have ih := nodup_below n (l.erase n) (nd.erase n) fun x hx => by
      have h1 := h x (List.mem_of_mem_erase hx)
      have : x ≠ n := fun e => by
        rw [e] at hx
        exact (nd.not_mem_erase) hx
      omega
    have := List.length_erase_of_mem (a := n) (l := l)
    by_cases z : n ∈ l
    · have := this z
      omega
    · have e := List.erase_of_not_mem (a := n) (l := l) z
      rw [e] at ih
      omega
/-- more room changes nothing once the walk has ended -/
theorem walkB_more {lead : α → List α} : ∀ (k i : Nat) (st : List α) (rows : List (List Nat)), (walkB lead k i st rows).1.length < i + k → ∀ k', k ≤ k' → walkB lead k' i st rows = walkB lead k i st rows
  | 0, i, st, rows, h, k', _ => by
    have h : st.length < i + 0 := h
    cases k' with
    | zero => rfl
    | succ k' =>
      unfold walkB
      rw [List.getElem?_eq_none (by omega)]
  | k + 1, i, st, rows, h, k', hk => by
    obtain ⟨k', rfl⟩ : ∃ j, k' = j + 1 := ⟨k' - 1, by omega⟩
    unfold walkB at h ⊢
    cases e : st[i]? with
    | none => rfl
    | some a =>
      rw [e] at h
      exact walkB_more k (i + 1) _ _ (by simp only [] at h; omega) k' (by omega)
end B5

/-! Moore: the coarsest partition of states that a step keeps and that tells the worths. -/
namespace B5
/-- the first of its class -/
def Rep (c : Nat → Nat) (s : Nat) : Prop := ∀ t, t < s → c t ≠ c s
instance (c : Nat → Nat) (s : Nat) : Decidable (Rep c s) := inferInstanceAs (Decidable (∀ t, t < s → c t ≠ c s))
/-- how many classes there are among the first n -/
def cnt (c : Nat → Nat) (n : Nat) : Nat := (List.range n).countP fun s => decide (Rep c s)
/-- c' tells apart what c tells apart, among the first n -/
def Fin1 (c' c : Nat → Nat) (n : Nat) : Prop := ∀ s t, s < n → t < n → c' s = c' t → c s = c t
def Same1 (c' c : Nat → Nat) (n : Nat) : Prop := ∀ s t, s < n → t < n → (c' s = c' t ↔ c s = c t)
theorem Rep.fin {c' c : Nat → Nat} {n s : Nat} (f : Fin1 c' c n) (h : s < n) (r : Rep c s) : Rep c' s := fun t lt e => r t lt (f t s (by omega) h e)
theorem countP_le {α : Type} {p q : α → Bool} : ∀ {l : List α}, (∀ x ∈ l, p x = true → q x = true) → l.countP p ≤ l.countP q
  | [], _ => Nat.le_refl _
  | x :: l, h => by
    have ih := countP_le (l := l) fun y hy => h y (.tail _ hy)
    have hx := h x (.head _)
    rw [List.countP_cons, List.countP_cons]
    cases e : p x with
    | true => rw [hx e]; omega
    | false => cases q x <;> simp <;> omega
theorem countP_eq {α : Type} {p q : α → Bool} : ∀ {l : List α}, (∀ x ∈ l, p x = true → q x = true) → l.countP q ≤ l.countP p → ∀ x ∈ l, q x = true → p x = true
  | [], _, _, x, hx, _ => nomatch hx
  | x :: l, h, le, y, hy, qy => by
    have h' := fun y hy => h y (.tail _ hy)
    have l1 := countP_le (l := l) h'
    have hx := h x (.head _)
    rw [List.countP_cons, List.countP_cons] at le
    cases e : p x with
    | true =>
      rw [e, hx e] at le
      rcases List.mem_cons.mp hy with rfl | hy
      · exact e
      · exact countP_eq (l := l) h' (by simpa using le) y hy qy
    | false =>
      cases e2 : q x with
      | true => rw [e, e2] at le; simp at le; omega
      | false =>
        rw [e, e2] at le
        rcases List.mem_cons.mp hy with rfl | hy
        · rw [e2] at qy; cases qy
        · exact countP_eq (l := l) h' (by simpa using le) y hy qy
theorem cnt_le {c' c : Nat → Nat} {n : Nat} (f : Fin1 c' c n) : cnt c n ≤ cnt c' n := countP_le fun s hs h => decide_eq_true (Rep.fin f (List.mem_range.mp hs) (of_decide_eq_true h))
theorem cnt_max (c : Nat → Nat) (n : Nat) : cnt c n ≤ n := by
  have := List.countP_le_length (p := fun s => decide (Rep c s)) (l := List.range n)
  rw [List.length_range] at this
  exact this
theorem cnt_pos (c : Nat → Nat) {n : Nat} (h : 0 < n) : 0 < cnt c n := List.countP_pos_iff.mpr ⟨0, List.mem_range.mpr h, decide_eq_true fun t lt => absurd lt (Nat.not_lt_zero t)⟩
/-- every state has a first of its class -/
theorem rep_of (c : Nat → Nat) : ∀ (k s : Nat), s ≤ k → ∃ r, r ≤ s ∧ Rep c r ∧ c r = c s
  | 0, s, h => ⟨s, Nat.le_refl _, fun t lt => by omega, rfl⟩
  | k + 1, s, h => by
    by_cases z : Rep c s
    · exact ⟨s, Nat.le_refl _, z, rfl⟩
    · have : ∃ t, t < s ∧ c t = c s := by
        refine Classical.byContradiction fun q => z fun t lt e => q ⟨t, lt, e⟩
      obtain ⟨t, lt, e⟩ := this
      obtain ⟨r, h1, h2, h3⟩ := rep_of c k t (by omega)
      exact ⟨r, by omega, h2, h3.trans e⟩
theorem rep_one' {c : Nat → Nat} {s t : Nat} (a : Rep c s) (b : Rep c t) (e : c s = c t) : s = t := by
  rcases Nat.lt_trichotomy s t with h | h | h
  · exact absurd e (b s h)
  · exact h
  · exact absurd e.symm (a t h)
/-- as many classes: the same partition -/
theorem same_of_cnt {c' c : Nat → Nat} {n : Nat} (f : Fin1 c' c n) (h : cnt c' n ≤ cnt c n) : Same1 c' c n := fun s t hs ht => by
  refine ⟨f s t hs ht, fun e => ?_⟩
  have all := countP_eq (p := fun s => decide (Rep c s)) (q := fun s => decide (Rep c' s)) (l := List.range n) (fun s hs h => decide_eq_true (Rep.fin f (List.mem_range.mp hs) (of_decide_eq_true h))) h
  have back : ∀ r, r < n → Rep c' r → Rep c r := fun r hr h => of_decide_eq_true (all r (List.mem_range.mpr hr) (decide_eq_true h))
  obtain ⟨s0, l1, r1, e1⟩ := rep_of c' s s (Nat.le_refl _)
  obtain ⟨t0, l2, r2, e2⟩ := rep_of c' t t (Nat.le_refl _)
  have k1 := f s0 s (by omega) hs e1
  have k2 := f t0 t (by omega) ht e2
  have := rep_one' (back s0 (by omega) r1) (back t0 (by omega) r2) (k1.trans (e.trans k2.symm))
  rw [← e1, ← e2, this]
theorem Same1.symm {c' c : Nat → Nat} {n : Nat} (h : Same1 c' c n) : Same1 c c' n := fun s t hs ht => (h s t hs ht).symm
theorem Same1.trans {a b c : Nat → Nat} {n : Nat} (x : Same1 a b n) (y : Same1 b c n) : Same1 a c n := fun s t hs ht => (x s t hs ht).trans (y s t hs ht)
/-! ### steps and words -/
section
variable {n p : Nat} {step : Nat → Nat → Nat} {val : Nat → Int}
def runW (step : Nat → Nat → Nat) (s : Nat) (w : List Nat) : Nat := w.foldl step s
/-- no word tells s from t -/
def Alike1 (p : Nat) (step : Nat → Nat → Nat) (val : Nat → Int) (s t : Nat) : Prop := ∀ w : List Nat, (∀ d ∈ w, d < p) → val (runW step s w) = val (runW step t w)
theorem Alike1.next {s t d : Nat} (h : Alike1 p step val s t) (hd : d < p) : Alike1 p step val (step s d) (step t d) := fun w hw => h (d :: w) fun e he => by
  rcases List.mem_cons.mp he with rfl | he
  · exact hd
  · exact hw e he
theorem Alike1.now {s t : Nat} (h : Alike1 p step val s t) : val s = val t := h [] fun _ h => nomatch h
/-- a partition that steps keep and that tells the worths -/
structure Stab (n p : Nat) (step : Nat → Nat → Nat) (val : Nat → Int) (c : Nat → Nat) : Prop where
  keep : ∀ s t, s < n → t < n → c s = c t → ∀ d, d < p → c (step s d) = c (step t d)
  tell : ∀ s t, s < n → t < n → c s = c t → val s = val t
/-- a partition that tells no more than words do -/
def Coarse (n p : Nat) (step : Nat → Nat → Nat) (val : Nat → Int) (c : Nat → Nat) : Prop := ∀ s t, s < n → t < n → Alike1 p step val s t → c s = c t
theorem Stab.alike {c : Nat → Nat} (cl : ∀ s d, s < n → d < p → step s d < n) (h : Stab n p step val c) : ∀ (w : List Nat) (s t : Nat), s < n → t < n → c s = c t → (∀ d ∈ w, d < p) → val (runW step s w) = val (runW step t w)
  | [], s, t, hs, ht, e, _ => h.tell s t hs ht e
  | d :: w, s, t, hs, ht, e, hw => Stab.alike cl h w _ _ (cl s d hs (hw d (.head _))) (cl t d ht (hw d (.head _))) (h.keep s t hs ht e d (hw d (.head _))) fun x hx => hw x (.tail _ hx)
/-- such a partition is that of the words -/
theorem moore {c : Nat → Nat} (cl : ∀ s d, s < n → d < p → step s d < n) (h : Stab n p step val c) (k : Coarse n p step val c) {s t : Nat} (hs : s < n) (ht : t < n) : c s = c t ↔ Alike1 p step val s t :=
  ⟨fun e w hw => Stab.alike cl h w s t hs ht e hw, k s t hs ht⟩
/-- one lap: what stands together and leads together stands together -/
def Lap (n p : Nat) (step : Nat → Nat → Nat) (c c' : Nat → Nat) : Prop := ∀ s t, s < n → t < n → (c' s = c' t ↔ c s = c t ∧ ∀ d, d < p → c (step s d) = c (step t d))
theorem Lap.fin {c c' : Nat → Nat} (l : Lap n p step c c') : Fin1 c' c n := fun s t hs ht e => ((l s t hs ht).mp e).1
theorem Lap.coarse {c c' : Nat → Nat} (cl : ∀ s d, s < n → d < p → step s d < n) (l : Lap n p step c c') (k : Coarse n p step val c) : Coarse n p step val c' := fun s t hs ht a =>
  (l s t hs ht).mpr ⟨k s t hs ht a, fun d hd => k _ _ (cl s d hs hd) (cl t d ht hd) (a.next hd)⟩
/-- n laps behind a partition that tells the worths it is stable -/
theorem laps_stab (cl : ∀ s d, s < n → d < p → step s d < n) (n0 : 0 < n) (c : Nat → Nat → Nat) (tell : ∀ s t, s < n → t < n → c 0 s = c 0 t → val s = val t) {m : Nat} (hm : n ≤ m) (laps : ∀ k, k < m → Lap n p step (c k) (c (k + 1))) : Stab n p step val (c m) := by
  have tells : ∀ k, k ≤ m → ∀ s t, s < n → t < n → c k s = c k t → val s = val t := by
    intro k
    induction k with
    | zero => exact fun _ => tell
    | succ k ih => exact fun hk s t hs ht e => ih (by omega) s t hs ht ((laps k (by omega)).fin s t hs ht e)
  -- a lap that tells no more
  have still : ∃ k, k < n ∧ cnt (c (k + 1)) n ≤ cnt (c k) n := by
    refine Classical.byContradiction fun q => ?_
    have grow : ∀ k, k ≤ n → k + 1 ≤ cnt (c k) n := by
      intro k
      induction k with
      | zero => exact fun _ => cnt_pos _ n0
      | succ k ih =>
        intro hk
        have h1 := ih (by omega)
        have h2 : ¬ cnt (c (k + 1)) n ≤ cnt (c k) n := fun z => q ⟨k, by omega, z⟩
        omega
    have := grow n (Nat.le_refl _)
    have := cnt_max (c n) n
    omega
  obtain ⟨k, hk, le⟩ := still
  have s0 := same_of_cnt (laps k (by omega)).fin le
  -- from there on each lap is the same
  have on : ∀ j, k + j ≤ m → Same1 (c (k + j)) (c k) n := by
    intro j
    induction j with
    | zero => exact fun _ s t _ _ => Iff.rfl
    | succ j ih =>
      intro hj
      have h1 := ih (by omega)
      intro s t hs ht
      refine (laps (k + j) (by omega) s t hs ht).trans ?_
      rw [h1 s t hs ht]
      refine ⟨fun h => h.1, fun e => ⟨e, fun d hd => ?_⟩⟩
      rw [h1 _ _ (cl s d hs hd) (cl t d ht hd)]
      exact (((laps k (by omega)) s t hs ht).mp ((s0 s t hs ht).mpr e)).2 d hd
  have e := on (m - k) (by omega)
  rw [show k + (m - k) = m by omega] at e
  refine ⟨fun s t hs ht q d hd => ?_, tells m (Nat.le_refl _)⟩
  rw [e _ _ (cl s d hs hd) (cl t d ht hd)]
  exact (((laps k (by omega)) s t hs ht).mp ((s0 s t hs ht).mpr ((e s t hs ht).mp q))).2 d hd
/-- one column: what stands together and is led by it together stands together -/
def Col (n : Nat) (f : Nat → Nat) (c c' : Nat → Nat) : Prop := ∀ s t, s < n → t < n → (c' s = c' t ↔ c s = c t ∧ c (f s) = c (f t))
theorem Col.fin {f c c' : Nat → Nat} (l : Col n f c c') : Fin1 c' c n := fun s t hs ht e => ((l s t hs ht).mp e).1
/-- a column that adds no class is kept -/
theorem Col.still {f c c' : Nat → Nat} (l : Col n f c c') (h : cnt c' n ≤ cnt c n) : Same1 c' c n ∧ ∀ s t, s < n → t < n → c s = c t → c (f s) = c (f t) := by
  have e := same_of_cnt l.fin h
  exact ⟨e, fun s t hs ht q => ((l s t hs ht).mp ((e s t hs ht).mpr q)).2⟩
end
end B5

/-! Least: the states that are met, the classes among them, and the classes at once: the same least machine. -/
namespace B5
def tab (rows : List (List Nat)) (i d : Nat) : Nat := (rows.getD i []).getD d 0
def leadS (p : Nat) (step : Nat → Nat → Nat) (s : Nat) : List Nat := (List.range p).map (step s)
theorem leadS_at {p : Nat} {step : Nat → Nat → Nat} {s d : Nat} (h : d < p) : (leadS p step s)[d]? = some (step s d) := by
  unfold leadS
  rw [List.getElem?_map, List.getElem?_range h]
  rfl
theorem leadS_len {p : Nat} {step : Nat → Nat → Nat} {s : Nat} : (leadS p step s).length = p := by
  unfold leadS
  rw [List.length_map, List.length_range]
theorem leadS_mem {p : Nat} {step : Nat → Nat → Nat} {s b : Nat} (h : b ∈ leadS p step s) : ∃ d, d < p ∧ b = step s d := by
  unfold leadS at h
  obtain ⟨d, hd, e⟩ := List.mem_map.mp h
  exact ⟨d, List.mem_range.mp hd, e.symm⟩
/-- what is met, and where it leads -/
structure MetI (n p : Nat) (step : Nat → Nat → Nat) (s0 : Nat) (met : List Nat) (rows : List (List Nat)) : Prop where
  len : rows.length = met.length
  first : met[0]? = some s0
  nd : met.Nodup
  all : ∀ s ∈ met, s < n
  row : ∀ (i : Nat) (r : List Nat), rows[i]? = some r → r.length = p
  led : ∀ (i s d : Nat), met[i]? = some s → d < p → tab rows i d < met.length ∧ met[tab rows i d]? = some (step s d)
theorem met_of {n p N : Nat} {step : Nat → Nat → Nat} (cl : ∀ s d, s < n → d < p → step s d < n) {s0 : Nat} (h0 : s0 < n) (hN : n ≤ N) :
    MetI n p step s0 (walkFrom (leadS p step) N s0).1 (walkFrom (leadS p step) N s0).2 := by
  have h := walkFrom_end (lead := leadS p step) (P := fun s => s < n) (fun a ha b hb => by
    obtain ⟨d, hd, rfl⟩ := leadS_mem hb
    exact cl a d ha hd) (N := N) (fun l nd al => Nat.le_trans (nodup_below n l nd al) hN) h0
  generalize walkFrom (leadS p step) N s0 = W at h ⊢
  refine ⟨h.len, pre_at h.pre rfl, h.nd, h.all, fun i r e => ?_, fun i s d e hd => ?_⟩
  · have lt := (List.getElem?_eq_some_iff.mp e).1
    rw [h.len] at lt
    have := (h.ok i _ r lt (List.getElem?_eq_getElem lt) e).1
    rw [this, leadS_len]
  · have lt := (List.getElem?_eq_some_iff.mp e).1
    have er : W.2[i]? = some (W.2[i]'(by rw [h.len]; exact lt)) := List.getElem?_eq_getElem (by rw [h.len]; exact lt)
    obtain ⟨k, e1, e2⟩ := (h.ok i s _ lt e er).2 d _ (leadS_at hd)
    have ek : tab W.2 i d = k := by
      have e0 : W.2.getD i [] = W.2[i]'(by rw [h.len]; exact lt) := by
        rw [List.getD_eq_getElem?_getD, er]
        rfl
      unfold tab
      rw [e0, List.getD_eq_getElem?_getD, e1]
      rfl
    rw [ek]
    exact ⟨(List.getElem?_eq_some_iff.mp e2).1, e2⟩
section
variable {n p : Nat} {step : Nat → Nat → Nat} {val : Nat → Int} {s0 : Nat} {met : List Nat} {rows : List (List Nat)}
/-- words lead alike on both sides -/
theorem MetI.run (M : MetI n p step s0 met rows) : ∀ (w : List Nat) (i s : Nat), met[i]? = some s → (∀ d ∈ w, d < p) → met[runW (tab rows) i w]? = some (runW step s w)
  | [], i, s, e, _ => e
  | d :: w, i, s, e, hw => MetI.run M w _ _ (M.led i s d e (hw d (.head _))).2 fun x hx => hw x (.tail _ hx)
theorem MetI.alike (M : MetI n p step s0 met rows) {i j s t : Nat} (hi : met[i]? = some s) (hj : met[j]? = some t) :
    Alike1 p (tab rows) (fun i => val (met.getD i 0)) i j ↔ Alike1 p step val s t := by
  have key : ∀ w : List Nat, (∀ d ∈ w, d < p) → ∀ (i s : Nat), met[i]? = some s → val (met.getD (runW (tab rows) i w) 0) = val (runW step s w) := fun w hw i s e => by
    rw [List.getD_eq_getElem?_getD, M.run w i s e hw]
    rfl
  refine ⟨fun h w hw => ?_, fun h w hw => ?_⟩
  · have := h w hw
    simp only [key w hw i s hi, key w hw j t hj] at this
    exact this
  · show val _ = val _
    rw [key w hw i s hi, key w hw j t hj]
    exact h w hw
/-- the classes at once, and the classes among what is met: the same rows, the same worths -/
theorem least_same (cl : ∀ s d, s < n → d < p → step s d < n) (M : MetI n p step s0 met rows) {c c' rp rp' : Nat → Nat}
    (S : Stab n p step val c) (k : Coarse n p step val c) (S' : Stab met.length p (tab rows) (fun i => val (met.getD i 0)) c') (k' : Coarse met.length p (tab rows) (fun i => val (met.getD i 0)) c')
    (hr : ∀ s, s < n → rp (c s) < n ∧ c (rp (c s)) = c s) (hr' : ∀ i, i < met.length → rp' (c' i) < met.length ∧ c' (rp' (c' i)) = c' i) (N : Nat) :
    (walkFrom (fun a => (leadS p step (rp a)).map c) N (c s0)).2 = (walkFrom (fun b => (leadS p (tab rows) (rp' b)).map c') N (c' 0)).2 ∧
    ((walkFrom (fun a => (leadS p step (rp a)).map c) N (c s0)).1.map fun a => val (rp a)) = ((walkFrom (fun b => (leadS p (tab rows) (rp' b)).map c') N (c' 0)).1.map fun b => val (met.getD (rp' b) 0)) := by
  have cl' : ∀ i d, i < met.length → d < p → tab rows i d < met.length := fun i d hi hd => (M.led i _ d (List.getElem?_eq_getElem hi) hd).1
  have o : One (fun a b => ∃ i s, met[i]? = some s ∧ a = c s ∧ b = c' i) := by
    rintro a b a' b' ⟨i, s, hi, rfl, rfl⟩ ⟨j, t, hj, rfl, rfl⟩
    rw [moore cl S k (M.all s (List.mem_of_getElem? hi)) (M.all t (List.mem_of_getElem? hj)), moore cl' S' k' (List.getElem?_eq_some_iff.mp hi).1 (List.getElem?_eq_some_iff.mp hj).1]
    exact (M.alike hi hj).symm
  have fg : ∀ a b, (∃ i s, met[i]? = some s ∧ a = c s ∧ b = c' i) → Par (fun a b => ∃ i s, met[i]? = some s ∧ a = c s ∧ b = c' i) ((leadS p step (rp a)).map c) ((leadS p (tab rows) (rp' b)).map c') := by
    rintro a b ⟨i, s, hi, rfl, rfl⟩
    have hs := M.all s (List.mem_of_getElem? hi)
    have li := (List.getElem?_eq_some_iff.mp hi).1
    obtain ⟨r1, r2⟩ := hr s hs
    obtain ⟨q1, q2⟩ := hr' i li
    unfold leadS
    have go : ∀ l : List Nat, (∀ d ∈ l, d < p) → Par (fun a b => ∃ i s, met[i]? = some s ∧ a = c s ∧ b = c' i) ((l.map (step (rp (c s)))).map c) ((l.map (tab rows (rp' (c' i)))).map c') := by
      intro l
      induction l with
      | nil => exact fun _ => .nil
      | cons d l ih =>
        intro hl
        have hd := hl d (.head _)
        refine .cons ⟨tab rows i d, step s d, (M.led i s d hi hd).2, S.keep _ _ r1 hs r2 d hd, S'.keep _ _ q1 li q2 d hd⟩ (ih fun x hx => hl x (.tail _ hx))
    exact go _ fun d hd => List.mem_range.mp hd
  have l0 : Par (fun a b => ∃ i s, met[i]? = some s ∧ a = c s ∧ b = c' i) [c s0] [c' 0] := .cons ⟨0, s0, M.first, rfl, rfl⟩ .nil
  obtain ⟨h1, h2⟩ := walkB_par o fg (N + 1) 0 [] l0
  refine ⟨h2, ?_⟩
  have vals : ∀ {l : List Nat} {m : List Nat}, Par (fun a b => ∃ i s, met[i]? = some s ∧ a = c s ∧ b = c' i) l m → (l.map fun a => val (rp a)) = m.map fun b => val (met.getD (rp' b) 0) := by
    intro l m h
    induction h with
    | nil => rfl
    | cons r _ ih =>
      obtain ⟨i, s, hi, rfl, rfl⟩ := r
      have hs := M.all s (List.mem_of_getElem? hi)
      have li := (List.getElem?_eq_some_iff.mp hi).1
      obtain ⟨r1, r2⟩ := hr s hs
      obtain ⟨q1, q2⟩ := hr' i li
      rw [List.map_cons, List.map_cons, ih, S.tell _ _ r1 hs r2]
      have this : val (met.getD (rp' (c' i)) 0) = val (met.getD i 0) := S'.tell _ _ q1 li q2
      rw [this, List.getD_eq_getElem?_getD, hi]
      rfl
  exact vals h1
end
end B5

/-! Least2: two machines that tell the same of every word have the same least machine. -/
namespace B5
section
variable {n n' p : Nat} {step step' : Nat → Nat → Nat} {val val' : Nat → Int}
/-- every word tells the same from here and from there -/
def Across (p : Nat) (step : Nat → Nat → Nat) (val : Nat → Int) (step' : Nat → Nat → Nat) (val' : Nat → Int) (s t : Nat) : Prop := ∀ w : List Nat, (∀ d ∈ w, d < p) → val (runW step s w) = val' (runW step' t w)
theorem Across.next {s t d : Nat} (h : Across p step val step' val' s t) (hd : d < p) : Across p step val step' val' (step s d) (step' t d) := fun w hw => h (d :: w) fun e he => by
  rcases List.mem_cons.mp he with rfl | he
  · exact hd
  · exact hw e he
theorem Across.now {s t : Nat} (h : Across p step val step' val' s t) : val s = val' t := h [] fun _ h => nomatch h
theorem Across.alike {s t s' t' : Nat} (h : Across p step val step' val' s t) (h' : Across p step val step' val' s' t') : Alike1 p step val s s' ↔ Alike1 p step' val' t t' :=
  ⟨fun a w hw => by rw [← h w hw, ← h' w hw]; exact a w hw, fun a w hw => by rw [h w hw, h' w hw]; exact a w hw⟩
theorem least_cross (cl : ∀ s d, s < n → d < p → step s d < n) (cl' : ∀ s d, s < n' → d < p → step' s d < n') {c c' rp rp' : Nat → Nat}
    (S : Stab n p step val c) (k : Coarse n p step val c) (S' : Stab n' p step' val' c') (k' : Coarse n' p step' val' c')
    (hr : ∀ s, s < n → rp (c s) < n ∧ c (rp (c s)) = c s) (hr' : ∀ i, i < n' → rp' (c' i) < n' ∧ c' (rp' (c' i)) = c' i) {s0 t0 : Nat} (h0 : s0 < n) (h0' : t0 < n') (x : Across p step val step' val' s0 t0) (N : Nat) :
    (walkFrom (fun a => (leadS p step (rp a)).map c) N (c s0)).2 = (walkFrom (fun b => (leadS p step' (rp' b)).map c') N (c' t0)).2 ∧
    ((walkFrom (fun a => (leadS p step (rp a)).map c) N (c s0)).1.map fun a => val (rp a)) = ((walkFrom (fun b => (leadS p step' (rp' b)).map c') N (c' t0)).1.map fun b => val' (rp' b)) := by
  have o : One (fun a b => ∃ s t, s < n ∧ t < n' ∧ Across p step val step' val' s t ∧ a = c s ∧ b = c' t) := by
    rintro a b a' b' ⟨s, t, hs, ht, xx, rfl, rfl⟩ ⟨s', t', hs', ht', yy, rfl, rfl⟩
    rw [moore cl S k hs hs', moore cl' S' k' ht ht']
    exact xx.alike yy
  have fg : ∀ a b, (∃ s t, s < n ∧ t < n' ∧ Across p step val step' val' s t ∧ a = c s ∧ b = c' t) → Par (fun a b => ∃ s t, s < n ∧ t < n' ∧ Across p step val step' val' s t ∧ a = c s ∧ b = c' t) ((leadS p step (rp a)).map c) ((leadS p step' (rp' b)).map c') := by
    rintro a b ⟨s, t, hs, ht, xx, rfl, rfl⟩
    obtain ⟨r1, r2⟩ := hr s hs
    obtain ⟨q1, q2⟩ := hr' t ht
    unfold leadS
    have go : ∀ l : List Nat, (∀ d ∈ l, d < p) → Par (fun a b => ∃ s t, s < n ∧ t < n' ∧ Across p step val step' val' s t ∧ a = c s ∧ b = c' t) ((l.map (step (rp (c s)))).map c) ((l.map (step' (rp' (c' t)))).map c') := by
      intro l
      induction l with
      | nil => exact fun _ => .nil
      | cons d l ih =>
        intro hl
        have hd := hl d (.head _)
        exact .cons ⟨step s d, step' t d, cl s d hs hd, cl' t d ht hd, xx.next hd, S.keep _ _ r1 hs r2 d hd, S'.keep _ _ q1 ht q2 d hd⟩ (ih fun x hx => hl x (.tail _ hx))
    exact go _ fun d hd => List.mem_range.mp hd
  obtain ⟨h1, h2⟩ := walkB_par o fg (N + 1) 0 [] (.cons ⟨s0, t0, h0, h0', x, rfl, rfl⟩ .nil)
  refine ⟨h2, ?_⟩
  have vals : ∀ {l : List Nat} {m : List Nat}, Par (fun a b => ∃ s t, s < n ∧ t < n' ∧ Across p step val step' val' s t ∧ a = c s ∧ b = c' t) l m → (l.map fun a => val (rp a)) = m.map fun b => val' (rp' b) := by
    intro l m h
    induction h with
    | nil => rfl
    | cons r _ ih =>
      obtain ⟨s, t, hs, ht, xx, rfl, rfl⟩ := r
      obtain ⟨r1, r2⟩ := hr s hs
      obtain ⟨q1, q2⟩ := hr' t ht
      rw [List.map_cons, List.map_cons, ih, S.tell _ _ r1 hs r2, S'.tell _ _ q1 ht q2, xx.now]
  exact vals h1
/-- a map of states that leads alike and keeps the worths -/
theorem across_map {f : Nat → Nat} (P : Nat → Prop) (ls : ∀ s d, P s → d < p → P (step s d) ∧ step' (f s) d = f (step s d)) (lv : ∀ s, P s → val s = val' (f s)) : ∀ (w : List Nat) (s : Nat), P s → (∀ d ∈ w, d < p) → val (runW step s w) = val' (runW step' (f s) w)
  | [], s, h, _ => lv s h
  | d :: w, s, h, hw => by
    have hd := hw d (.head _)
    have := across_map P ls lv w (step s d) (ls s d h hd).1 fun x hx => hw x (.tail _ hx)
    show val (runW step (step s d) w) = val' (runW step' (step' (f s) d) w)
    rw [(ls s d h hd).2]
    exact this
/-- the least machine tells of every word what the machine told -/
theorem least_across (cl : ∀ s d, s < n → d < p → step s d < n) {c rp : Nat → Nat} (S : Stab n p step val c) (hr : ∀ s, s < n → rp (c s) < n ∧ c (rp (c s)) = c s) {s0 N : Nat} (h0 : s0 < n) {met : List Nat} {rows : List (List Nat)}
    (W : ∀ (i a d : Nat), met[i]? = some a → d < p → met[tab rows i d]? = some (c (step (rp a) d))) (all : ∀ a ∈ met, ∃ s, s < n ∧ a = c s) (first : met[0]? = some (c s0)) :
    Across p step val (tab rows) (fun i => val (rp (met.getD i 0))) s0 0 := by
  have key : ∀ (w : List Nat) (s i : Nat), s < n → met[i]? = some (c s) → (∀ d ∈ w, d < p) → val (runW step s w) = val (rp (met.getD (runW (tab rows) i w) 0)) := by
    intro w
    induction w with
    | nil =>
      intro s i hs hi _
      show val s = val (rp (met.getD i 0))
      rw [List.getD_eq_getElem?_getD, hi]
      exact (S.tell _ _ (hr s hs).1 hs (hr s hs).2).symm
    | cons d w ih =>
      intro s i hs hi hw
      have hd := hw d (.head _)
      refine ih (step s d) (tab rows i d) (cl s d hs hd) ?_ fun x hx => hw x (.tail _ hx)
      rw [W i _ d hi hd, S.keep _ _ (hr s hs).1 hs (hr s hs).2 d hd]
  exact fun w hw => key w s0 0 h0 first hw
end
end B5

/-! Nums: keys numbered in the order in which they are met. -/
namespace B5
variable {α : Type} [DecidableEq α]
theorem noteAll_snoc (a : α) : ∀ (as st : List α), noteAll st (as ++ [a]) = ((note (noteAll st as).1 a).1, (noteAll st as).2 ++ [(note (noteAll st as).1 a).2])
  | [], st => rfl
  | x :: as, st => by
    show ((noteAll (note st x).1 (as ++ [a])).1, (note st x).2 :: (noteAll (note st x).1 (as ++ [a])).2) = _
    rw [noteAll_snoc a as]
    rfl
/-- the numbers of the keys -/
def numB (keys : List α) : List Nat := (noteAll [] keys).2
def manyOf (keys : List α) : Nat := (noteAll [] keys).1.length
def cOf (l : List Nat) (i : Nat) : Nat := l.getD i 0
theorem numB_len (keys : List α) : (numB keys).length = keys.length := (noteAll_at keys []).1
theorem numB_at {keys : List α} {i : Nat} (h : i < keys.length) : (noteAll [] keys).1[cOf (numB keys) i]? = keys[i]? := by
  obtain ⟨h1, h2⟩ := noteAll_at keys []
  have e1 : keys[i]? = some keys[i] := List.getElem?_eq_getElem h
  have lt : i < (noteAll [] keys).2.length := by omega
  have e2 : (noteAll [] keys).2[i]? = some ((noteAll [] keys).2[i]) := List.getElem?_eq_getElem lt
  have e3 : cOf (numB keys) i = (noteAll [] keys).2[i] := by
    unfold cOf numB
    rw [List.getD_eq_getElem?_getD, e2]
    rfl
  rw [e3, e1]
  exact h2 i _ _ e1 e2
theorem numB_lt {keys : List α} {i : Nat} (h : i < keys.length) : cOf (numB keys) i < manyOf keys := by
  have e := numB_at h
  rw [List.getElem?_eq_getElem h] at e
  exact (List.getElem?_eq_some_iff.mp e).1
/-- like numbers for like keys alone -/
theorem numB_iff {keys : List α} {i j : Nat} (hi : i < keys.length) (hj : j < keys.length) : cOf (numB keys) i = cOf (numB keys) j ↔ keys[i]? = keys[j]? := by
  rw [← numB_at hi, ← numB_at hj]
  refine ⟨fun e => by rw [e], fun e => ?_⟩
  have l1 := numB_lt hi
  have l2 := numB_lt hj
  unfold manyOf at l1 l2
  rw [List.getElem?_eq_getElem l1, List.getElem?_eq_getElem l2] at e
  exact (List.getElem_inj (noteAll_nd keys List.nodup_nil)).mp (Option.some.inj e)
theorem cnt_succ (c : Nat → Nat) (n : Nat) : cnt c (n + 1) = cnt c n + if Rep c n then 1 else 0 := by
  unfold cnt
  rw [List.range_succ, List.countP_append, List.countP_cons]
  by_cases h : Rep c n <;> simp [h]
theorem cnt_congr {c c' : Nat → Nat} : ∀ (n : Nat), (∀ s, s < n → c s = c' s) → cnt c n = cnt c' n
  | 0, _ => rfl
  | n + 1, h => by
    rw [cnt_succ, cnt_succ, cnt_congr n fun s hs => h s (by omega)]
    have : Rep c n ↔ Rep c' n := ⟨fun r t lt => by rw [← h t (by omega), ← h n (by omega)]; exact r t lt, fun r t lt => by rw [h t (by omega), h n (by omega)]; exact r t lt⟩
    by_cases z : Rep c n
    · rw [if_pos z, if_pos (this.mp z)]
    · rw [if_neg z, if_neg fun q => z (this.mpr q)]
/-- as many numbers as classes -/
theorem manyOf_cnt : ∀ (n : Nat) (keys : List α), keys.length = n → manyOf keys = cnt (cOf (numB keys)) n
  | 0, keys, h => by
    cases keys with
    | nil => rfl
    | cons x l => cases h
  | n + 1, keys, h => by
    have ne : keys ≠ [] := fun e => by rw [e] at h; cases h
    obtain ⟨as, a, rfl⟩ : ∃ as a, keys = as ++ [a] := ⟨keys.dropLast, keys.getLast ne, (List.dropLast_concat_getLast ne).symm⟩
    have la : as.length = n := by
      rw [List.length_append] at h
      have h : as.length + 1 = n + 1 := h
      omega
    have ih := manyOf_cnt n as la
    have low : ∀ s, s < n → cOf (numB (as ++ [a])) s = cOf (numB as) s := fun s hs => by
      unfold cOf numB
      rw [noteAll_snoc]
      show ((noteAll [] as).2 ++ _).getD s 0 = _
      rw [List.getD_eq_getElem?_getD, List.getD_eq_getElem?_getD, List.getElem?_append_left]
      have := numB_len as
      unfold numB at this
      omega
    rw [cnt_succ, cnt_congr n low, ← ih]
    have rep : Rep (cOf (numB (as ++ [a]))) n ↔ a ∉ as := by
      refine ⟨fun r hm => ?_, fun hm t lt e => ?_⟩
      · obtain ⟨t, ht⟩ := List.getElem?_of_mem hm
        have lt := (List.getElem?_eq_some_iff.mp ht).1
        refine r t (by omega) ((numB_iff (by rw [List.length_append]; omega) (by rw [List.length_append]; show n < as.length + 1; omega)).mpr ?_)
        rw [List.getElem?_append_left lt, ht, ← la, List.getElem?_append_right (Nat.le_refl _), Nat.sub_self]
        rfl
      · have := (numB_iff (keys := as ++ [a]) (by rw [List.length_append]; omega) (by rw [List.length_append]; show n < as.length + 1; omega)).mp e
        rw [List.getElem?_append_left (by omega), ← la, List.getElem?_append_right (Nat.le_refl _), Nat.sub_self] at this
        exact hm (List.mem_of_getElem? this)
    have inn : ∀ x, x ∈ (noteAll [] as).1 ↔ x ∈ as := fun x => by
      refine ⟨fun hx => (noteAll_mem as [] x hx).resolve_left (fun z => nomatch z), fun hx => ?_⟩
      obtain ⟨t, ht⟩ := List.getElem?_of_mem hx
      have := numB_at (keys := as) (List.getElem?_eq_some_iff.mp ht).1
      rw [ht] at this
      exact List.mem_of_getElem? this
    unfold manyOf
    rw [noteAll_snoc]
    show (note (noteAll [] as).1 a).1.length = _
    unfold note
    cases q : ixOf (noteAll [] as).1 a with
    | some i =>
      have : a ∈ as := (inn a).mp (List.mem_of_getElem? (ixOf_some q))
      rw [if_neg fun r => (rep.mp r) this]
      rfl
    | none =>
      have : a ∉ as := fun z => ixOf_none q ((inn a).mpr z)
      rw [if_pos (rep.mpr this)]
      show ((noteAll [] as).1 ++ [a]).length = _
      rw [List.length_append]
      rfl
end B5

/-! Parts: the law's laps and the program's columns, each ends at the partition of the words. -/
namespace B5
section
variable {n p : Nat} {step : Nat → Nat → Nat} {val : Nat → Int}
/-! ### laps -/
def keysL (n p : Nat) (step : Nat → Nat → Nat) (c : Nat → Nat) : List (List Nat) := (List.range n).map fun s => c s :: (leadS p step s).map c
theorem keysL_at {c : Nat → Nat} {s : Nat} (h : s < n) : (keysL n p step c)[s]? = some (c s :: (leadS p step s).map c) := by
  unfold keysL
  rw [List.getElem?_map, List.getElem?_range h]
  rfl
theorem keysL_len {c : Nat → Nat} : (keysL n p step c).length = n := by
  unfold keysL
  rw [List.length_map, List.length_range]
theorem lead_eq {c : Nat → Nat} {s t : Nat} : (leadS p step s).map c = (leadS p step t).map c ↔ ∀ d, d < p → c (step s d) = c (step t d) := by
  refine ⟨fun e d hd => ?_, fun h => ?_⟩
  · have := congrArg (fun l => l[d]?) e
    simp only [List.getElem?_map, leadS_at hd, Option.map_some, Option.some.injEq] at this
    exact this
  · unfold leadS
    rw [List.map_map, List.map_map]
    exact List.map_congr_left fun d hd => h d (List.mem_range.mp hd)
theorem lap_nums (c : Nat → Nat) : Lap n p step c (cOf (numB (keysL n p step c))) := fun s t hs ht => by
  rw [numB_iff (by rw [keysL_len]; exact hs) (by rw [keysL_len]; exact ht), keysL_at hs, keysL_at ht, Option.some.injEq, List.cons.injEq, lead_eq]
def lapsL (n p : Nat) (step : Nat → Nat → Nat) (l0 : List Nat) : Nat → List Nat
  | 0 => l0
  | k + 1 => numB (keysL n p step (cOf (lapsL n p step l0 k)))
theorem start_nums {worths : List Int} (hw : worths.length = n) (hv : ∀ s, s < n → worths[s]? = some (val s)) {s t : Nat} (hs : s < n) (ht : t < n) : cOf (numB worths) s = cOf (numB worths) t ↔ val s = val t := by
  rw [numB_iff (by omega) (by omega), hv s hs, hv t ht, Option.some.injEq]
theorem start_coarse {worths : List Int} (hw : worths.length = n) (hv : ∀ s, s < n → worths[s]? = some (val s)) : Coarse n p step val (cOf (numB worths)) := fun s t hs ht a => (start_nums hw hv hs ht).mpr a.now
/-- the law's classes -/
theorem laps_end (cl : ∀ s d, s < n → d < p → step s d < n) (n0 : 0 < n) {worths : List Int} (hw : worths.length = n) (hv : ∀ s, s < n → worths[s]? = some (val s)) {m : Nat} (hm : n ≤ m) :
    Stab n p step val (cOf (lapsL n p step (numB worths) m)) ∧ Coarse n p step val (cOf (lapsL n p step (numB worths) m)) := by
  refine ⟨laps_stab cl n0 (fun k => cOf (lapsL n p step (numB worths) k)) (fun s t hs ht e => (start_nums hw hv hs ht).mp e) hm fun k hk => lap_nums _, ?_⟩
  have all : ∀ k, Coarse n p step val (cOf (lapsL n p step (numB worths) k)) := by
    intro k
    induction k with
    | zero => exact start_coarse hw hv
    | succ k ih => exact (lap_nums _).coarse cl ih
  exact all m
/-! ### columns -/
def keysC (n many : Nat) (c f : Nat → Nat) : List Nat := (List.range n).map fun s => c s * many + c (f s)
theorem keysC_at {many : Nat} {c f : Nat → Nat} {s : Nat} (h : s < n) : (keysC n many c f)[s]? = some (c s * many + c (f s)) := by
  unfold keysC
  rw [List.getElem?_map, List.getElem?_range h]
  rfl
theorem keysC_len {many : Nat} {c f : Nat → Nat} : (keysC n many c f).length = n := by
  unfold keysC
  rw [List.length_map, List.length_range]
theorem pair_eq {m a b a' b' : Nat} (h : b < m) (h' : b' < m) : a * m + b = a' * m + b' ↔ a = a' ∧ b = b' := by
  refine ⟨fun e => ?_, fun ⟨e1, e2⟩ => by rw [e1, e2]⟩
  have q1 : (a * m + b) / m = a := by
    rw [Nat.mul_comm, Nat.mul_add_div (by omega), Nat.div_eq_of_lt h, Nat.add_zero]
  have q2 : (a' * m + b') / m = a' := by
    rw [Nat.mul_comm, Nat.mul_add_div (by omega), Nat.div_eq_of_lt h', Nat.add_zero]
  have ea : a = a' := by rw [← q1, e, q2]
  subst ea
  exact ⟨rfl, by omega⟩
theorem col_nums {many : Nat} {c f : Nat → Nat} (lt : ∀ s, s < n → c s < many) (hf : ∀ s, s < n → f s < n) : Col n f c (cOf (numB (keysC n many c f))) := fun s t hs ht => by
  rw [numB_iff (by rw [keysC_len]; exact hs) (by rw [keysC_len]; exact ht), keysC_at hs, keysC_at ht, Option.some.injEq, pair_eq (lt _ (hf s hs)) (lt _ (hf t ht))]
theorem Fin1.trans {a b c : Nat → Nat} (x : Fin1 a b n) (y : Fin1 b c n) : Fin1 a c n := fun s t hs ht e => y s t hs ht (x s t hs ht e)
theorem Col.coarse {f c c' : Nat → Nat} (l : Col n f c c') {d : Nat} (hd : d < p) (cl : ∀ s d, s < n → d < p → step s d < n) (hf : ∀ s, s < n → f s = step s d) (k : Coarse n p step val c) : Coarse n p step val c' := fun s t hs ht a =>
  (l s t hs ht).mpr ⟨k s t hs ht a, by rw [hf s hs, hf t ht]; exact k _ _ (cl s d hs hd) (cl t d ht hd) (a.next hd)⟩
/-- a pass over the columns: each is a list of states -/
def colF (l : List Nat) (s : Nat) : Nat := l.getD s 0
def passC (n : Nat) : List (List Nat) → List Nat → List Nat
  | [], l => l
  | f :: fs, l => passC n fs (numB (keysC n (cnt (cOf l) n) (cOf l) (colF f)))
/-- numbers as numB gives them -/
def Numbs (n : Nat) (l : List Nat) : Prop := l.length = n ∧ ∀ s, s < n → cOf l s < cnt (cOf l) n
theorem numbs_of {α : Type} [DecidableEq α] {keys : List α} (h : keys.length = n) : Numbs n (numB keys) := ⟨by rw [numB_len]; exact h, fun s hs => by rw [← manyOf_cnt n keys h]; exact numB_lt (by omega)⟩
theorem pass_all (cl : ∀ s d, s < n → d < p → step s d < n) : ∀ (fs : List (List Nat)) (l : List Nat), Numbs n l → (∀ f ∈ fs, ∃ d, d < p ∧ ∀ s, s < n → colF f s = step s d) →
    Numbs n (passC n fs l) ∧ Fin1 (cOf (passC n fs l)) (cOf l) n ∧ (Coarse n p step val (cOf l) → Coarse n p step val (cOf (passC n fs l))) ∧
    (cnt (cOf (passC n fs l)) n ≤ cnt (cOf l) n → Same1 (cOf (passC n fs l)) (cOf l) n ∧ ∀ f ∈ fs, ∀ s t, s < n → t < n → cOf l s = cOf l t → cOf l (colF f s) = cOf l (colF f t))
  | [], l, h, _ => ⟨h, fun _ _ _ _ e => e, id, fun _ => ⟨fun _ _ _ _ => Iff.rfl, fun _ z => nomatch z⟩⟩
  | f :: fs, l, h, hf => by
    obtain ⟨d, hd, ef⟩ := hf f (.head _)
    have bf : ∀ s, s < n → colF f s < n := fun s hs => by rw [ef s hs]; exact cl s d hs hd
    have col := col_nums (f := colF f) h.2 bf
    have h' : Numbs n (numB (keysC n (cnt (cOf l) n) (cOf l) (colF f))) := numbs_of keysC_len
    obtain ⟨i1, i2, i3, i4⟩ := pass_all cl fs _ h' fun g hg => hf g (.tail _ hg)
    refine ⟨i1, Fin1.trans i2 col.fin, fun k => i3 (col.coarse hd cl ef k), fun le => ?_⟩
    have le : cnt (cOf (passC n fs (numB (keysC n (cnt (cOf l) n) (cOf l) (colF f))))) n ≤ cnt (cOf l) n := le
    have le1 := cnt_le i2
    have le2 := cnt_le col.fin
    obtain ⟨s1, k1⟩ := col.still (by omega)
    obtain ⟨s2, k2⟩ := i4 (by omega)
    refine ⟨Same1.trans s2 s1, fun g hg s t hs ht e => ?_⟩
    rcases List.mem_cons.mp hg with rfl | hg
    · exact k1 s t hs ht e
    · obtain ⟨dg, hdg, eg⟩ := hf g (.tail _ hg)
      have := k2 g hg s t hs ht ((s1 s t hs ht).mpr e)
      rw [eg s hs, eg t ht] at this ⊢
      exact (s1 _ _ (cl s dg hs hdg) (cl t dg ht hdg)).mp this
/-- a pass that adds no class: the partition of the words -/
theorem pass_end (cl : ∀ s d, s < n → d < p → step s d < n) {fs : List (List Nat)} {l : List Nat} (h : Numbs n l) (hf : ∀ f ∈ fs, ∃ d, d < p ∧ ∀ s, s < n → colF f s = step s d) (all : ∀ d, d < p → ∃ f ∈ fs, ∀ s, s < n → colF f s = step s d)
    (k : Coarse n p step val (cOf l)) (tell : ∀ s t, s < n → t < n → cOf l s = cOf l t → val s = val t) (e : cnt (cOf (passC n fs l)) n = cnt (cOf l) n) :
    Stab n p step val (cOf (passC n fs l)) ∧ Coarse n p step val (cOf (passC n fs l)) := by
  obtain ⟨_, i2, i3, i4⟩ := pass_all (val := val) cl fs l h hf
  obtain ⟨s1, k1⟩ := i4 (by omega)
  refine ⟨⟨fun s t hs ht q d hd => ?_, fun s t hs ht q => tell s t hs ht (i2 s t hs ht q)⟩, i3 k⟩
  obtain ⟨f, hm, ef⟩ := all d hd
  have := k1 f hm s t hs ht (i2 s t hs ht q)
  rw [ef s hs, ef t ht] at this
  exact (s1 _ _ (cl s d hs hd) (cl t d ht hd)).mpr this
end
end B5

/-! Cls: numbers of keys under one-to-one maps; every number is used; the keys of a dict. -/
namespace B5
section
variable {α β : Type} [DecidableEq α] [DecidableEq β]
theorem ixOf_map {f : α → β} (inj : ∀ a b, f a = f b → a = b) (x : α) : ∀ l : List α, ixOf (l.map f) (f x) = ixOf l x
  | [] => rfl
  | a :: l => by
    have ih := ixOf_map inj x l
    show (if f a = f x then some 0 else (ixOf (l.map f) (f x)).map _) = if a = x then some 0 else (ixOf l x).map _
    rw [ih]
    by_cases e : a = x
    · rw [if_pos e, if_pos (by rw [e])]
    · rw [if_neg e, if_neg fun q => e (inj _ _ q)]
theorem note_map {f : α → β} (inj : ∀ a b, f a = f b → a = b) (st : List α) (a : α) : note (st.map f) (f a) = ((note st a).1.map f, (note st a).2) := by
  unfold note
  rw [ixOf_map inj]
  cases ixOf st a with
  | some i => rfl
  | none =>
    show (st.map f ++ [f a], (st.map f).length) = ((st ++ [a]).map f, st.length)
    rw [List.map_append, List.length_map]
    rfl
theorem noteAll_map {f : α → β} (inj : ∀ a b, f a = f b → a = b) : ∀ (as st : List α), noteAll (st.map f) (as.map f) = ((noteAll st as).1.map f, (noteAll st as).2)
  | [], st => rfl
  | a :: as, st => by
    show ((noteAll (note (st.map f) (f a)).1 (as.map f)).1, (note (st.map f) (f a)).2 :: (noteAll (note (st.map f) (f a)).1 (as.map f)).2) = ((noteAll (note st a).1 as).1.map f, (note st a).2 :: (noteAll (note st a).1 as).2)
    rw [note_map inj]
    show ((noteAll ((note st a).1.map f) (as.map f)).1, (note st a).2 :: (noteAll ((note st a).1.map f) (as.map f)).2) = _
    rw [noteAll_map inj as]
theorem numB_map {f : α → β} (inj : ∀ a b, f a = f b → a = b) (as : List α) : numB (as.map f) = numB as := by
  have h := noteAll_map inj as []
  unfold numB
  rw [List.map_nil] at h
  rw [h]
theorem noteAll_onto : ∀ (as st : List α) (i : Nat), i < (noteAll st as).1.length → i < st.length ∨ ∃ j : Nat, (noteAll st as).2[j]? = some i
  | [], st, i, h => .inl h
  | a :: as, st, i, h => by
    have h : i < (noteAll (note st a).1 as).1.length := h
    rcases noteAll_onto as (note st a).1 i h with g | ⟨j, e⟩
    · by_cases z : i < st.length
      · exact .inl z
      · refine .inr ⟨0, ?_⟩
        show some (note st a).2 = some i
        revert g
        unfold note
        cases ixOf st a with
        | some k => intro g; exact absurd g z
        | none =>
          intro g
          have g : i < (st ++ [a]).length := g
          rw [List.length_append] at g
          have : st.length = i := by simp at g; omega
          show some st.length = _
          rw [this]
    · exact .inr ⟨j + 1, e⟩
/-- the greatest number and one more -/
theorem numB_max {keys : List α} {m : Int} (h : m ∈ (numB keys).map fun i => ((i : Nat) : Int)) (le : ∀ y ∈ (numB keys).map fun i => ((i : Nat) : Int), y ≤ m) : m + 1 = ((cnt (cOf (numB keys)) keys.length : Nat) : Int) := by
  rw [← manyOf_cnt keys.length keys rfl]
  obtain ⟨i, hi, rfl⟩ := List.mem_map.mp h
  obtain ⟨j, hj⟩ := List.getElem?_of_mem hi
  have lj : j < keys.length := by have := (List.getElem?_eq_some_iff.mp hj).1; rw [numB_len] at this; exact this
  have lt := numB_lt lj
  have ej : cOf (numB keys) j = i := by unfold cOf; rw [List.getD_eq_getElem?_getD, hj]; rfl
  rw [ej] at lt
  have pos : 0 < manyOf keys := by omega
  rcases noteAll_onto keys [] (manyOf keys - 1) (by show _ < manyOf keys; omega) with z | ⟨k, e⟩
  · exact absurd z (Nat.not_lt_zero _)
  · have := le _ (List.mem_map.mpr ⟨_, List.mem_of_getElem? e, rfl⟩)
    omega
end
/-- and every number below the greatest is one of them -/
def NumbsO (n : Nat) (l : List Nat) : Prop := Numbs n l ∧ ∀ i, i < cnt (cOf l) n → ∃ s, s < n ∧ cOf l s = i
theorem numbsO_of {α : Type} [DecidableEq α] {keys : List α} {n : Nat} (h : keys.length = n) : NumbsO n (numB keys) := by
  refine ⟨numbs_of h, fun i hi => ?_⟩
  rw [← manyOf_cnt n keys h] at hi
  rcases noteAll_onto keys [] i hi with z | ⟨j, e⟩
  · exact absurd z (Nat.not_lt_zero _)
  · have e : (numB keys)[j]? = some i := e
    have lj := (List.getElem?_eq_some_iff.mp e).1
    rw [numB_len] at lj
    refine ⟨j, by omega, ?_⟩
    unfold cOf
    rw [List.getD_eq_getElem?_getD, e]
    rfl
theorem passC_o {n : Nat} : ∀ (fs : List (List Nat)) (l : List Nat), NumbsO n l → NumbsO n (passC n fs l)
  | [], l, h => h
  | f :: fs, l, h => passC_o fs _ (numbsO_of (keysC_len (n := n)))
end B5

/-! Lm: what a least machine is, and that there is one alone. -/
namespace B5
section
variable {n p : Nat} {step : Nat → Nat → Nat} {val : Nat → Int} {R : List (List Nat)} {W : List Int}
theorem walkFrom_more {α : Type} [DecidableEq α] {lead : α → List α} {P : α → Prop} (cl : ∀ a, P a → ∀ b ∈ lead a, P b) {N : Nat} (bnd : ∀ l : List α, l.Nodup → (∀ x ∈ l, P x) → l.length ≤ N) {a : α} (ha : P a) {M : Nat} (h : N ≤ M) : walkFrom lead M a = walkFrom lead N a := by
  have e := walkFrom_end cl bnd ha
  have l := bnd _ e.nd e.all
  exact walkB_more (N + 1) 0 [a] [] (by show (walkFrom lead N a).1.length < _; omega) (M + 1) (by omega)
/-- the classes' walk -/
def leadK (p : Nat) (step : Nat → Nat → Nat) (c rp : Nat → Nat) (a : Nat) : List Nat := (leadS p step (rp a)).map c
/-- the least machine, by a partition of the states -/
structure LeastOf (n p : Nat) (step : Nat → Nat → Nat) (val : Nat → Int) (R : List (List Nat)) (W : List Int) : Prop where
  n0 : 0 < n
  cl : ∀ s d, s < n → d < p → step s d < n
  ex : ∃ c rp : Nat → Nat, Stab n p step val c ∧ Coarse n p step val c ∧ (∀ s, s < n → c s < n) ∧ (∀ s, s < n → rp (c s) < n ∧ c (rp (c s)) = c s) ∧
    ∀ N, n ≤ N → R = (walkFrom (leadK p step c rp) N (c 0)).2 ∧ W = (walkFrom (leadK p step c rp) N (c 0)).1.map fun a => val (rp a)
/-- what is met of the classes -/
structure MetC (n p : Nat) (step : Nat → Nat → Nat) (c rp : Nat → Nat) (met : List Nat) (rows : List (List Nat)) : Prop where
  len : rows.length = met.length
  first : met[0]? = some (c 0)
  all : ∀ a ∈ met, ∃ s, s < n ∧ a = c s
  few : met.length ≤ n
  row : ∀ (i : Nat) (r : List Nat), rows[i]? = some r → r.length = p
  led : ∀ (i a d : Nat), met[i]? = some a → d < p → tab rows i d < met.length ∧ met[tab rows i d]? = some (c (step (rp a) d))
theorem metC_of (cl : ∀ s d, s < n → d < p → step s d < n) (n0 : 0 < n) {c rp : Nat → Nat} (cb : ∀ s, s < n → c s < n) (hr : ∀ s, s < n → rp (c s) < n ∧ c (rp (c s)) = c s) :
    MetC n p step c rp (walkFrom (leadK p step c rp) n (c 0)).1 (walkFrom (leadK p step c rp) n (c 0)).2 ∧ ∀ N, n ≤ N → walkFrom (leadK p step c rp) N (c 0) = walkFrom (leadK p step c rp) n (c 0) := by
  have clK : ∀ a, (∃ s, s < n ∧ a = c s) → ∀ b ∈ leadK p step c rp a, ∃ s, s < n ∧ b = c s := fun a ⟨s, hs, ea⟩ b hb => by
    obtain ⟨x, hx, rfl⟩ := List.mem_map.mp hb
    obtain ⟨d, hd, rfl⟩ := leadS_mem hx
    subst ea
    exact ⟨_, cl _ d (hr s hs).1 hd, rfl⟩
  have bnd : ∀ l : List Nat, l.Nodup → (∀ x ∈ l, ∃ s, s < n ∧ x = c s) → l.length ≤ n := fun l nd al => nodup_below n l nd fun x hx => by
    obtain ⟨s, hs, rfl⟩ := al x hx
    exact cb s hs
  refine ⟨?_, fun N h => walkFrom_more clK bnd ⟨0, n0, rfl⟩ h⟩
  have h := walkFrom_end clK bnd ⟨0, n0, rfl⟩
  generalize walkFrom (leadK p step c rp) n (c 0) = Z at h ⊢
  refine ⟨h.len, pre_at h.pre rfl, h.all, bnd _ h.nd h.all, fun i r e => ?_, fun i a d e hd => ?_⟩
  · have lt := (List.getElem?_eq_some_iff.mp e).1
    rw [h.len] at lt
    have := (h.ok i _ r lt (List.getElem?_eq_getElem lt) e).1
    rw [this]
    unfold leadK
    rw [List.length_map, leadS_len]
  · have lt := (List.getElem?_eq_some_iff.mp e).1
    have er : Z.2[i]? = some (Z.2[i]'(by rw [h.len]; exact lt)) := List.getElem?_eq_getElem (by rw [h.len]; exact lt)
    have ea : (leadK p step c rp a)[d]? = some (c (step (rp a) d)) := by
      unfold leadK
      rw [List.getElem?_map, leadS_at hd]
      rfl
    obtain ⟨k, e1, e2⟩ := (h.ok i a _ lt e er).2 d _ ea
    have ek : tab Z.2 i d = k := by
      unfold tab
      rw [List.getD_eq_getElem?_getD (l := Z.2), er]
      show (Z.2[i]'_).getD d 0 = k
      rw [List.getD_eq_getElem?_getD, e1]
      rfl
    rw [ek]
    exact ⟨(List.getElem?_eq_some_iff.mp e2).1, e2⟩
/-- what is right of it -/
structure Fine (n p : Nat) (R : List (List Nat)) (W : List Int) : Prop where
  ne : 0 < R.length
  few : R.length ≤ n
  rows : ∀ r ∈ R, r.length = p ∧ ∀ x ∈ r, x < R.length
  len : W.length = R.length
theorem getD_map {α β : Type} {f : α → β} {l : List α} {i : Nat} (h : i < l.length) (a : α) (b : β) : (l.map f).getD i b = f (l.getD i a) := by
  rw [List.getD_eq_getElem?_getD, List.getD_eq_getElem?_getD, List.getElem?_map, List.getElem?_eq_getElem h]
  rfl
theorem MetC.fine {c rp : Nat → Nat} {met : List Nat} {rows : List (List Nat)} (M : MetC n p step c rp met rows) {f : Nat → Int} : Fine n p rows (met.map f) := by
  have m0 : 0 < met.length := (List.getElem?_eq_some_iff.mp M.first).1
  refine ⟨by rw [M.len]; exact m0, by rw [M.len]; exact M.few, fun r hr => ?_, by rw [List.length_map, M.len]⟩
  obtain ⟨i, hi⟩ := List.getElem?_of_mem hr
  have lr := M.row i r hi
  refine ⟨lr, fun x hx => ?_⟩
  obtain ⟨d, hd⟩ := List.getElem?_of_mem hx
  have ld := (List.getElem?_eq_some_iff.mp hd).1
  have li := (List.getElem?_eq_some_iff.mp hi).1
  rw [M.len] at li
  have := (M.led i _ d (List.getElem?_eq_getElem li) (by omega)).1
  have e : tab rows i d = x := by
    unfold tab
    rw [List.getD_eq_getElem?_getD (l := rows), hi]
    show r.getD d 0 = x
    rw [List.getD_eq_getElem?_getD, hd]
    rfl
  rw [e] at this
  rw [M.len]
  exact this
theorem LeastOf.fine (L : LeastOf n p step val R W) : Fine n p R W := by
  obtain ⟨c, rp, S, k, cb, hr, h⟩ := L.ex
  obtain ⟨e1, e2⟩ := h n (Nat.le_refl _)
  rw [e1, e2]
  exact (metC_of L.cl L.n0 cb hr).1.fine
def valL (W : List Int) (s : Nat) : Int := W.getD s 0
theorem Across.symm {step' : Nat → Nat → Nat} {val' : Nat → Int} {s t : Nat} (h : Across p step val step' val' s t) : Across p step' val' step val t s := fun w hw => (h w hw).symm
theorem Across.trans {step' step2 : Nat → Nat → Nat} {val' val2 : Nat → Int} {s t u : Nat} (h : Across p step val step' val' s t) (g : Across p step' val' step2 val2 t u) : Across p step val step2 val2 s u := fun w hw => (h w hw).trans (g w hw)
theorem Across.refl {s : Nat} : Across p step val step val s s := fun _ _ => rfl
/-- it tells what the machine tells -/
theorem LeastOf.tells (L : LeastOf n p step val R W) : Across p step val (tab R) (valL W) 0 0 := by
  obtain ⟨c, rp, S, k, cb, hr, h⟩ := L.ex
  obtain ⟨e1, e2⟩ := h n (Nat.le_refl _)
  have M := (metC_of L.cl L.n0 cb hr).1
  generalize walkFrom (leadK p step c rp) n (c 0) = Z at e1 e2 M
  subst e1 e2
  have A := least_across (s0 := 0) (N := n) L.cl S hr L.n0 (met := Z.1) (rows := Z.2) (fun i a d e hd => (M.led i a d e hd).2) M.all M.first
  have m0 : 0 < Z.1.length := (List.getElem?_eq_some_iff.mp M.first).1
  have inr : ∀ (w : List Nat) (i : Nat), i < Z.1.length → (∀ d ∈ w, d < p) → runW (tab Z.2) i w < Z.1.length := by
    intro w
    induction w with
    | nil => intro i hi _; exact hi
    | cons d w ih =>
      intro i hi hw
      exact ih _ (M.led i _ d (List.getElem?_eq_getElem hi) (hw d (.head _))).1 fun x hx => hw x (.tail _ hx)
  intro w hw
  rw [A w hw]
  unfold valL
  rw [getD_map (inr w 0 m0 hw) 0]
/-- steady machines have steady least machines -/
theorem LeastOf.steady (L : LeastOf n p step val R W) (p0 : 0 < p) (st : ∀ s, s < n → val s = val (step s 0)) : ∀ i, i < R.length → valL W i = valL W (tab R i 0) := by
  obtain ⟨c, rp, S, k, cb, hr, h⟩ := L.ex
  obtain ⟨e1, e2⟩ := h n (Nat.le_refl _)
  have M := (metC_of L.cl L.n0 cb hr).1
  generalize walkFrom (leadK p step c rp) n (c 0) = Z at e1 e2 M
  subst e1 e2
  intro i hi
  rw [M.len] at hi
  have ea : Z.1[i]? = some Z.1[i] := List.getElem?_eq_getElem hi
  obtain ⟨l1, l2⟩ := M.led i _ 0 ea p0
  obtain ⟨s, hs, es⟩ := M.all _ (List.getElem_mem hi)
  unfold valL
  rw [getD_map hi 0, getD_map l1 0, List.getD_eq_getElem?_getD (l := Z.1) (i := i), ea, List.getD_eq_getElem?_getD (l := Z.1), l2]
  show val (rp Z.1[i]) = val (rp (c (step (rp Z.1[i]) 0)))
  rw [es]
  obtain ⟨r1, r2⟩ := hr s hs
  have b1 := L.cl _ 0 r1 p0
  obtain ⟨r3, r4⟩ := hr _ b1
  rw [st _ r1]
  exact (S.tell _ _ r3 b1 r4).symm
/-- the least machine of all that tells the same -/
structure LeastFor (p : Nat) (step : Nat → Nat → Nat) (val : Nat → Int) (R : List (List Nat)) (W : List Int) : Prop where
  ex : ∃ (n' : Nat) (step' : Nat → Nat → Nat) (val' : Nat → Int), LeastOf n' p step' val' R W ∧ Across p step val step' val' 0 0
theorem LeastOf.for (L : LeastOf n p step val R W) : LeastFor p step val R W := ⟨n, step, val, L, .refl⟩
theorem LeastFor.tells (L : LeastFor p step val R W) : Across p step val (tab R) (valL W) 0 0 := by
  obtain ⟨n', step', val', L, A⟩ := L.ex
  exact A.trans L.tells
theorem LeastOf.one {n' : Nat} {step' : Nat → Nat → Nat} {val' : Nat → Int} {R' : List (List Nat)} {W' : List Int} (L : LeastOf n p step val R W) (L' : LeastOf n' p step' val' R' W') (A : Across p step val step' val' 0 0) : R = R' ∧ W = W' := by
  obtain ⟨c, rp, S, k, cb, hr, h⟩ := L.ex
  obtain ⟨c', rp', S', k', cb', hr', h'⟩ := L'.ex
  obtain ⟨e1, e2⟩ := h (n + n') (by omega)
  obtain ⟨e3, e4⟩ := h' (n + n') (by omega)
  have x := least_cross L.cl L'.cl S k S' k' hr hr' L.n0 L'.n0 A (n + n')
  rw [e1, e2, e3, e4]
  exact x
theorem LeastFor.one {step2 : Nat → Nat → Nat} {val2 : Nat → Int} {R2 : List (List Nat)} {W2 : List Int} (L : LeastFor p step val R W) (L2 : LeastFor p step2 val2 R2 W2) (A : Across p step val step2 val2 0 0) : R = R2 ∧ W = W2 := by
  obtain ⟨_, _, _, L, B⟩ := L.ex
  obtain ⟨_, _, _, L', B'⟩ := L2.ex
  exact L.one L' (B.symm.trans (A.trans B'))
/-- of what is met alone -/
theorem met_least {met : List Nat} {rows : List (List Nat)} (M : MetI n p step 0 met rows) (L : LeastOf met.length p (tab rows) (valL (met.map val)) R W) : LeastFor p step val R W := by
  refine ⟨_, _, _, L, fun w hw => ?_⟩
  have e := M.run w 0 0 M.first hw
  have lt := (List.getElem?_eq_some_iff.mp e).1
  unfold valL
  rw [getD_map lt 0, List.getD_eq_getElem?_getD, e]
  rfl
end
end B5

/-! Ln: the least numbers that lead to states, level by level; the least number with a value. -/
namespace B5
section
variable {p : Nat} {step : Nat → Nat → Nat} {val : Nat → Int}
def numW (p : Nat) : List Nat → Nat
  | [] => 0
  | d :: w => d + p * numW p w
def Dg (p : Nat) (w : List Nat) : Prop := ∀ d ∈ w, d < p
theorem runW_app {s d : Nat} {w : List Nat} : runW step s (w ++ [d]) = step (runW step s w) d := by
  unfold runW
  rw [List.foldl_append]
  rfl
theorem numW_snoc {d : Nat} : ∀ w : List Nat, numW p (w ++ [d]) = numW p w + d * p ^ w.length
  | [] => by show d + p * 0 = 0 + d * p ^ 0; simp
  | x :: w => by
    show x + p * numW p (w ++ [d]) = x + p * numW p w + d * p ^ (w.length + 1)
    rw [numW_snoc w, Nat.mul_add, Nat.pow_succ, Nat.add_assoc]
    congr 1
    congr 1
    rw [Nat.mul_comm p, Nat.mul_assoc]
theorem numW_lt (p0 : 0 < p) : ∀ w : List Nat, Dg p w → numW p w < p ^ w.length
  | [], _ => by show 0 < p ^ 0; simp
  | x :: w, h => by
    have ih := numW_lt p0 w fun d hd => h d (.tail _ hd)
    have hx := h x (.head _)
    show x + p * numW p w < p ^ (w.length + 1)
    rw [Nat.pow_succ, Nat.mul_comm]
    have : p * (numW p w + 1) ≤ p * p ^ w.length := Nat.mul_le_mul_left p ih
    rw [Nat.mul_add] at this
    rw [Nat.mul_comm (numW p w) p, Nat.mul_comm (p ^ w.length) p]
    omega
theorem Dg.snoc {w : List Nat} {d : Nat} : Dg p (w ++ [d]) ↔ Dg p w ∧ d < p := by
  unfold Dg
  constructor
  · intro h
    exact ⟨fun x hx => h x (List.mem_append.mpr (.inl hx)), h d (List.mem_append.mpr (.inr (by simp)))⟩
  · rintro ⟨h, hd⟩ x hx
    rcases List.mem_append.mp hx with hx | hx
    · exact h x hx
    · have : x = d := by simpa using hx
      omega
theorem snoc_of : ∀ (w : List Nat), w ≠ [] → ∃ w' d, w = w' ++ [d] := fun w h => ⟨w.dropLast, w.getLast h, (List.dropLast_concat_getLast h).symm⟩
/-- a word of so many digits leads to s, and tells m -/
def Wd (p : Nat) (step : Nat → Nat → Nat) (L s m : Nat) : Prop := ∃ w : List Nat, w.length = L ∧ Dg p w ∧ runW step 0 w = s ∧ numW p w = m
/-- the shortest words, and the least number among them -/
structure LN (p : Nat) (step : Nat → Nat → Nat) (L s m : Nat) : Prop where
  wd : Wd p step L s m
  short : ∀ L' m', Wd p step L' s m' → L ≤ L'
  least : ∀ m', Wd p step L s m' → m ≤ m'
theorem LN.one {L s m L' m' : Nat} (h : LN p step L s m) (h' : LN p step L' s m') : L = L' ∧ m = m' := by
  have a := h.short _ _ h'.wd
  have b := h'.short _ _ h.wd
  obtain rfl : L = L' := Nat.le_antisymm a b
  exact ⟨rfl, Nat.le_antisymm (h.least _ h'.wd) (h'.least _ h.wd)⟩
theorem least_ex (P : Nat → Prop) : ∀ n, P n → ∃ m, P m ∧ ∀ k, P k → m ≤ k := by
  intro n
  induction n using Nat.strongRecOn with
  | _ n ih =>
    intro h
    by_cases z : ∃ k, k < n ∧ P k
    · obtain ⟨k, lt, hk⟩ := z
      exact ih k lt hk
    · exact ⟨n, h, fun k hk => Nat.le_of_not_lt fun lt => z ⟨k, lt, hk⟩⟩
theorem ln_ex {L s m : Nat} (h : Wd p step L s m) : ∃ L' m', L' ≤ L ∧ LN p step L' s m' := by
  obtain ⟨L', ⟨m1, h1⟩, hL⟩ := least_ex (fun L => ∃ m, Wd p step L s m) L ⟨m, h⟩
  obtain ⟨m', h2, hm⟩ := least_ex (fun m => Wd p step L' s m) m1 h1
  exact ⟨L', m', hL L ⟨m, h⟩, ⟨h2, fun L2 m2 x => hL L2 ⟨m2, x⟩, hm⟩⟩
theorem Wd.next {L s m d : Nat} (h : Wd p step L s m) (hd : d < p) : Wd p step (L + 1) (step s d) (m + d * p ^ L) := by
  obtain ⟨w, rfl, h2, rfl, rfl⟩ := h
  exact ⟨w ++ [d], by rw [List.length_append]; rfl, Dg.snoc.mpr ⟨h2, hd⟩, runW_app, numW_snoc w⟩
theorem Wd.back {L t v : Nat} (h : Wd p step (L + 1) t v) : ∃ s m d, Wd p step L s m ∧ d < p ∧ step s d = t ∧ v = m + d * p ^ L := by
  obtain ⟨w, h1, h2, h3, h4⟩ := h
  obtain ⟨w', d, rfl⟩ := snoc_of w fun e => by rw [e] at h1; cases h1
  rw [List.length_append] at h1
  have h1 : w'.length + 1 = L + 1 := h1
  have h1 : w'.length = L := by omega
  obtain ⟨g1, g2⟩ := Dg.snoc.mp h2
  rw [runW_app] at h3
  rw [numW_snoc, h1] at h4
  exact ⟨_, _, d, ⟨w', h1, g1, rfl, rfl⟩, g2, h3, h4.symm⟩
/-- what a level leads to -/
def Ev (p : Nat) (step : Nat → Nat → Nat) (k t v : Nat) : Prop := (¬ ∃ L m, L ≤ k ∧ LN p step L t m) ∧ ∃ s m d, LN p step k s m ∧ d < p ∧ step s d = t ∧ v = m + d * p ^ k
def MinE (E : Nat → Prop) (m : Nat) : Prop := E m ∧ ∀ m', E m' → m ≤ m'
theorem MinE.one {E : Nat → Prop} {m m' : Nat} (h : MinE E m) (h' : MinE E m') : m = m' := Nat.le_antisymm (h.2 _ h'.1) (h'.2 _ h.1)
/-- the word's last step comes from a state of the level ahead -/
theorem from_level {k t v : Nat} (n : ¬ ∃ L m, L ≤ k ∧ LN p step L t m) (h : Wd p step (k + 1) t v) : ∃ v', v' ≤ v ∧ Ev p step k t v' := by
  obtain ⟨s, m, d, h1, hd, h2, h3⟩ := h.back
  obtain ⟨L', m', hL, h4⟩ := ln_ex h1
  have : L' = k := by
    by_cases z : L' = k
    · exact z
    · have w := h4.wd.next hd
      rw [h2] at w
      obtain ⟨L2, m2, l2, h5⟩ := ln_ex w
      exact absurd ⟨L2, m2, by omega, h5⟩ n
  subst this
  refine ⟨m' + d * p ^ L', ?_, n, s, m', d, h4, hd, h2, rfl⟩
  have := h4.least _ h1
  omega
theorem level_next {k t v : Nat} : MinE (Ev p step k t) v ↔ LN p step (k + 1) t v := by
  constructor
  · rintro ⟨⟨n, s, m, d, h1, hd, h2, h3⟩, least⟩
    have w := h1.wd.next hd
    rw [h2, ← h3] at w
    refine ⟨w, fun L' m' h => ?_, fun m' h => ?_⟩
    · obtain ⟨L2, m2, l2, h5⟩ := ln_ex h
      by_cases z : L2 ≤ k
      · exact absurd ⟨L2, m2, z, h5⟩ n
      · omega
    · obtain ⟨v', l, e⟩ := from_level n h
      have := least _ e
      omega
  · intro h
    have n : ¬ ∃ L m, L ≤ k ∧ LN p step L t m := fun ⟨L, m, l, e⟩ => by
      have := (h.one e).1
      omega
    have up : ∀ v', Ev p step k t v' → v ≤ v' := fun v' ⟨_, s, m, d, h1, hd, h2, h3⟩ => by
      have w := h1.wd.next hd
      rw [h2, ← h3] at w
      exact h.least _ w
    obtain ⟨v', l, e⟩ := from_level n h.wd
    have := up _ e
    obtain rfl : v' = v := by omega
    exact ⟨e, up⟩
theorem ln_zero (h : LN p step 0 s m) : s = 0 ∧ m = 0 := by
  obtain ⟨w, h1, _, h2, h3⟩ := h.wd
  have : w = [] := List.length_eq_zero_iff.mp h1
  subst this
  exact ⟨h2.symm, h3.symm⟩
theorem ln_start : LN p step 0 0 0 := ⟨⟨[], rfl, fun _ h => (nomatch h), rfl, rfl⟩, fun _ _ _ => Nat.zero_le _, fun _ _ => Nat.zero_le _⟩
/-- behind an empty level there is none -/
theorem ln_end {k : Nat} (h : ∀ s m, ¬ LN p step k s m) : ∀ L s m, LN p step L s m → L < k := by
  have up : ∀ j, ∀ s m, ¬ LN p step (k + j) s m := by
    intro j
    induction j with
    | zero => exact h
    | succ j ih =>
      intro s m e
      obtain ⟨⟨_, s', m', d, e', _⟩, _⟩ := level_next.mpr e
      exact ih s' m' e'
  intro L s m e
  by_cases z : L < k
  · exact z
  · have := up (L - k) s m
    rw [show k + (L - k) = L by omega] at this
    exact absurd e this
/-! ### values -/
def Tell (p : Nat) (step : Nat → Nat → Nat) (val : Nat → Int) (v : Int) (m : Nat) : Prop := ∃ w : List Nat, Dg p w ∧ val (runW step 0 w) = v ∧ numW p w = m
/-- without zeros at the top -/
theorem strip (st : ∀ s, (∃ w, Dg p w ∧ runW step 0 w = s) → val s = val (step s 0)) : ∀ (k : Nat) (w : List Nat), w.length = k → Dg p w → ∃ w', Dg p w' ∧ numW p w' = numW p w ∧ val (runW step 0 w') = val (runW step 0 w) ∧ w'.length ≤ w.length ∧ (w' = [] ∨ ∃ u d, w' = u ++ [d] ∧ d ≠ 0)
  | 0, w, h, g => ⟨w, g, rfl, rfl, Nat.le_refl _, .inl (List.length_eq_zero_iff.mp h)⟩
  | k + 1, w, h, g => by
    obtain ⟨u, d, rfl⟩ := snoc_of w fun e => by rw [e] at h; cases h
    obtain ⟨g1, g2⟩ := Dg.snoc.mp g
    by_cases z : d = 0
    · subst z
      rw [List.length_append] at h
      obtain ⟨w', a, b, c, l, e⟩ := strip st k u (by have h : u.length + 1 = k + 1 := h; omega) g1
      refine ⟨w', a, by rw [b, numW_snoc, Nat.zero_mul, Nat.add_zero], by rw [c, runW_app]; exact st _ ⟨u, g1, rfl⟩, by rw [List.length_append]; show _ ≤ u.length + 1; omega, e⟩
    · exact ⟨_, g, rfl, rfl, Nat.le_refl _, .inr ⟨u, d, rfl, z⟩⟩
theorem top_ge {u : List Nat} {d : Nat} (h : d ≠ 0) : p ^ u.length ≤ numW p (u ++ [d]) := by
  rw [numW_snoc]
  have : 1 * p ^ u.length ≤ d * p ^ u.length := Nat.mul_le_mul_right _ (by omega)
  omega
/-- the least number with a value is the least of the states' numbers -/
theorem comes_least (p0 : 0 < p) (st : ∀ s, (∃ w, Dg p w ∧ runW step 0 w = s) → val s = val (step s 0)) {v : Int} {m : Nat} : MinE (fun m => ∃ s, val s = v ∧ ∃ L, LN p step L s m) m ↔ MinE (Tell p step val v) m := by
  have one : ∀ m, (∃ s, val s = v ∧ ∃ L, LN p step L s m) → Tell p step val v m := fun m ⟨s, e, L, h⟩ => by
    obtain ⟨w, _, h2, h3, h4⟩ := h.wd
    exact ⟨w, h2, by rw [h3, e], h4⟩
  have two : ∀ m, Tell p step val v m → ∃ m', m' ≤ m ∧ ∃ s, val s = v ∧ ∃ L, LN p step L s m' := fun m ⟨w, h1, h2, h3⟩ => by
    obtain ⟨w', a, b, c, _, e⟩ := strip st w.length w rfl h1
    obtain ⟨L, m', hL, h⟩ := ln_ex (p := p) (step := step) (L := w'.length) (s := runW step 0 w') (m := numW p w') ⟨w', rfl, a, rfl, rfl⟩
    refine ⟨m', ?_, _, by rw [c, h2], L, h⟩
    rw [← h3, ← b]
    by_cases z : L = w'.length
    · subst z
      exact h.least _ ⟨w', rfl, a, rfl, rfl⟩
    · obtain ⟨u, g1, g2, _, g4⟩ := h.wd
      have lt := numW_lt p0 u g2
      rw [g1, g4] at lt
      rcases e with rfl | ⟨u2, d, rfl, nz⟩
      · exact absurd (show L ≤ 0 from hL) (by intro q; exact z (by show L = 0; omega))
      · have ge := top_ge (p := p) (u := u2) nz
        rw [List.length_append] at hL z
        have hL : L ≤ u2.length + 1 := hL
        have z : L ≠ u2.length + 1 := z
        have : p ^ L ≤ p ^ u2.length := Nat.pow_le_pow_right p0 (by omega)
        omega
  constructor
  · rintro ⟨h, least⟩
    refine ⟨one m h, fun m' h' => ?_⟩
    obtain ⟨m2, l, e⟩ := two m' h'
    have := least _ e
    omega
  · rintro ⟨h, least⟩
    obtain ⟨m2, l, e⟩ := two m h
    have := least _ (one _ e)
    obtain rfl : m2 = m := by omega
    exact ⟨e, fun m' h' => least _ (one _ h')⟩
end
end B5

/-! Bst: the least number of just so many digits, digit by digit from above. -/
namespace B5
section
variable {p N : Nat} {step : Nat → Nat → Nat} {A : Nat → Prop}
/-- a word of so many digits, no 0 at its top, that leads to A -/
structure Cand (p : Nat) (step : Nat → Nat → Nat) (A : Nat → Prop) (N : Nat) (w : List Nat) : Prop where
  len : w.length = N
  dg : Dg p w
  top : w = [] ∨ ∃ u d, w = u ++ [d] ∧ d ≠ 0
  leads : A (runW step 0 w)
def Bst (p : Nat) (step : Nat → Nat → Nat) (A : Nat → Prop) (N : Nat) (r : Option Nat) : Prop := (r = none ∧ ∀ w, ¬ Cand p step A N w) ∨ ∃ w, r = some (numW p w) ∧ Cand p step A N w ∧ ∀ w', Cand p step A N w' → numW p w ≤ numW p w'
theorem runW_cat {s : Nat} {u v : List Nat} : runW step s (u ++ v) = runW step (runW step s u) v := by
  unfold runW
  rw [List.foldl_append]
/-- i digits from above are chosen -/
structure Chosen (p : Nat) (step : Nat → Nat → Nat) (A : Nat → Prop) (N i : Nat) (wd : List Nat) (Wi : Nat → Prop) : Prop where
  len : wd.length = i
  dg : Dg p wd
  top : wd = [] ∨ ∃ u d, wd = u ++ [d] ∧ d ≠ 0
  mem : ∀ s, (∃ w : List Nat, w.length = N - i ∧ Dg p w ∧ runW step 0 w = s) → (Wi s ↔ A (runW step s wd))
  some_ : 0 < i → ∃ s, Wi s ∧ ∃ w : List Nat, w.length = N - i ∧ Dg p w ∧ runW step 0 w = s
  least : ∀ w, Cand p step A N w → numW p wd < numW p (w.drop (N - i)) ∨ w.drop (N - i) = wd
theorem chosen_start : Chosen p step A N 0 [] A where
  len := rfl
  dg := fun _ h => nomatch h
  top := .inl rfl
  mem := fun s _ => Iff.rfl
  some_ := fun h => absurd h (Nat.lt_irrefl 0)
  least := fun w h => .inr (List.drop_eq_nil_of_le (by rw [h.len]; omega))
theorem numW_cons_lt {d d' : Nat} {u v : List Nat} (hd : d < p) (h : numW p u < numW p v) : numW p (d :: u) < numW p (d' :: v) := by
  show d + p * numW p u < d' + p * numW p v
  have : p * (numW p u + 1) ≤ p * numW p v := Nat.mul_le_mul_left p h
  rw [Nat.mul_add] at this
  omega
theorem Cand.digit {i : Nat} {w : List Nat} (h : Cand p step A N w) (hi : i < N) : ∃ d, w.drop (N - (i + 1)) = d :: w.drop (N - i) ∧ d < p ∧ (i = 0 → d ≠ 0) ∧ w.take (N - i) = w.take (N - (i + 1)) ++ [d] := by
  have lt : N - (i + 1) < w.length := by rw [h.len]; omega
  refine ⟨w[N - (i + 1)], ?_, h.dg _ (List.getElem_mem lt), fun i0 => ?_, ?_⟩
  · rw [List.drop_eq_getElem_cons lt, show N - (i + 1) + 1 = N - i by omega]
  · subst i0
    rcases h.top with e | ⟨u, d, rfl, nz⟩
    · have := h.len
      rw [e] at this
      have : 0 = N := this
      omega
    · have l := h.len
      rw [List.length_append] at l
      have l : u.length + 1 = N := l
      have e : (u ++ [d])[N - (0 + 1)]? = some d := by
        rw [List.getElem?_append_right (by omega), show N - (0 + 1) - u.length = 0 by omega]
        rfl
      have e2 := List.getElem?_eq_getElem lt
      rw [e] at e2
      rw [← Option.some.inj e2]
      exact nz
  · rw [show N - i = N - (i + 1) + 1 by omega, List.take_succ_eq_append_getElem lt]
/-- the next digit: the least that fits -/
theorem Chosen.next {i d lo : Nat} {wd : List Nat} {Wi Wj : Nat → Prop} (c : Chosen p step A N i wd Wi) (hi : i < N) (hlo : lo = if i = 0 then 1 else 0) (hd : d < p) (lod : lo ≤ d)
    (hW : ∀ s, (∃ w : List Nat, w.length = N - (i + 1) ∧ Dg p w ∧ runW step 0 w = s) → (Wj s ↔ Wi (step s d))) (ne : ∃ s, Wj s ∧ ∃ w : List Nat, w.length = N - (i + 1) ∧ Dg p w ∧ runW step 0 w = s)
    (no : ∀ e, lo ≤ e → e < d → ∀ s, (∃ w : List Nat, w.length = N - (i + 1) ∧ Dg p w ∧ runW step 0 w = s) → ¬ Wi (step s e)) : Chosen p step A N (i + 1) (d :: wd) Wj where
  len := by rw [List.length_cons, c.len]
  dg := fun x hx => by
    rcases List.mem_cons.mp hx with rfl | hx
    · exact hd
    · exact c.dg x hx
  top := .inr (by
    rcases c.top with rfl | ⟨u, e, rfl, nz⟩
    · have : i = 0 := c.len.symm
      rw [if_pos this] at hlo
      exact ⟨[], d, rfl, by omega⟩
    · exact ⟨d :: u, e, rfl, nz⟩)
  mem := fun s hs => by
    rw [hW s hs]
    obtain ⟨w, e1, e2, rfl⟩ := hs
    exact c.mem _ ⟨w ++ [d], by rw [List.length_append, e1]; show N - (i + 1) + 1 = _; omega, Dg.snoc.mpr ⟨e2, hd⟩, runW_app⟩
  some_ := fun _ => ne
  least := fun w h => by
    obtain ⟨e, e1, e2, e3, e4⟩ := h.digit hi
    rw [e1]
    rcases c.least w h with lt | eq
    · exact .inl (numW_cons_lt hd lt)
    · rw [eq]
      have le : d ≤ e := by
        by_cases z : d ≤ e
        · exact z
        · refine absurd ?_ (no e ?_ (by omega) (runW step 0 (w.take (N - (i + 1)))) ⟨w.take (N - (i + 1)), by rw [List.length_take, h.len]; omega, fun x hx => h.dg x (List.mem_of_mem_take hx), rfl⟩)
          · have hm := c.mem (runW step 0 (w.take (N - i))) ⟨w.take (N - i), by rw [List.length_take, h.len]; omega, fun x hx => h.dg x (List.mem_of_mem_take hx), rfl⟩
            rw [e4, runW_app] at hm
            refine hm.mpr ?_
            have := h.leads
            rw [← List.take_append_drop (N - i) w, eq, e4, runW_cat, runW_app] at this
            exact this
          · rw [hlo]
            split
            · have := e3 (by assumption)
              omega
            · omega
      by_cases z : d = e
      · subst z; exact .inr rfl
      · refine .inl ?_
        show d + p * numW p wd < e + p * numW p wd
        omega
/-- no digit fits: there is none -/
theorem Chosen.stuck {i lo : Nat} {wd : List Nat} {Wi : Nat → Prop} (c : Chosen p step A N i wd Wi) (hi : i < N) (hlo : lo = if i = 0 then 1 else 0)
    (no : ∀ e, lo ≤ e → e < p → ∀ s, (∃ w : List Nat, w.length = N - (i + 1) ∧ Dg p w ∧ runW step 0 w = s) → ¬ Wi (step s e)) : ∀ w, ¬ Cand p step A N w := fun w h => by
  by_cases z : i = 0
  · subst z
    obtain ⟨e, e1, e2, e3, e4⟩ := h.digit hi
    refine no e (by rw [hlo, if_pos rfl]; have := e3 rfl; omega) e2 (runW step 0 (w.take (N - (0 + 1)))) ⟨w.take (N - (0 + 1)), by rw [List.length_take, h.len]; omega, fun x hx => h.dg x (List.mem_of_mem_take hx), rfl⟩ ?_
    have hm := c.mem (runW step 0 (w.take (N - 0))) ⟨w.take (N - 0), by rw [List.length_take, h.len]; omega, fun x hx => h.dg x (List.mem_of_mem_take hx), rfl⟩
    rw [e4, runW_app] at hm
    have ew : wd = [] := List.length_eq_zero_iff.mp c.len
    refine hm.mpr ?_
    rw [ew]
    have := h.leads
    rw [← List.take_append_drop (N - 0) w, List.drop_eq_nil_of_le (by rw [h.len]; omega), List.append_nil, e4, runW_app] at this
    exact this
  · obtain ⟨s, hs, w2, e1, e2, e3⟩ := c.some_ (by omega)
    obtain ⟨u, d, rfl⟩ := snoc_of w2 fun e => by rw [e] at e1; have e1 : 0 = N - i := e1; omega
    obtain ⟨g1, g2⟩ := Dg.snoc.mp e2
    rw [List.length_append] at e1
    have e1 : u.length + 1 = N - i := e1
    rw [runW_app] at e3
    refine no d (by rw [hlo, if_neg z]; omega) g2 (runW step 0 u) ⟨u, by omega, g1, rfl⟩ ?_
    rw [e3]
    exact hs
/-- all digits are chosen -/
theorem Chosen.done {wd : List Nat} {Wi : Nat → Prop} (c : Chosen p step A N N wd Wi) (n0 : 0 < N) : Bst p step A N (some (numW p wd)) := by
  obtain ⟨s, hs, w, e1, _, e3⟩ := c.some_ n0
  have : w = [] := List.length_eq_zero_iff.mp (by omega)
  subst this
  have e3 : 0 = s := e3
  subst e3
  refine .inr ⟨wd, rfl, ⟨c.len, c.dg, c.top, (c.mem 0 ⟨[], by show 0 = N - N; omega, fun _ h => (nomatch h), rfl⟩).mp hs⟩, fun w' h => ?_⟩
  rcases c.least w' h with lt | eq
  · rw [show N - N = 0 by omega, List.drop_zero] at lt
    omega
  · rw [show N - N = 0 by omega, List.drop_zero] at eq
    rw [eq]
    exact Nat.le_refl _
theorem bst_zero {b : Bool} (h : b = true ↔ A 0) : Bst p step A 0 (if b = true then some 0 else none) := by
  by_cases z : b = true
  · rw [if_pos z]
    exact .inr ⟨[], rfl, ⟨rfl, fun _ h => (nomatch h), .inl rfl, h.mp z⟩, fun w' _ => Nat.zero_le _⟩
  · rw [if_neg z]
    refine .inl ⟨rfl, fun w hw => z (h.mpr ?_)⟩
    have : w = [] := List.length_eq_zero_iff.mp hw.len
    have := hw.leads
    subst_vars
    exact this
/-- the first number of digits at which there is one tells the least -/
theorem first_least (p0 : 0 < p) {val : Nat → Int} {v : Int} (st : ∀ s, (∃ w, Dg p w ∧ runW step 0 w = s) → val s = val (step s 0)) {k m M : Nat} (hk : k ≤ M) (b : Bst p step (fun s => val s = v) k (some m)) (no : ∀ j, j < k → Bst p step (fun s => val s = v) j none) : MinE (Tell p step val v) m := by
  rcases b with ⟨z, _⟩ | ⟨w, e, c, least⟩
  · cases z
  obtain rfl : m = numW p w := Option.some.inj e
  refine ⟨⟨w, c.dg, c.leads, rfl⟩, fun m' ⟨u, h1, h2, h3⟩ => ?_⟩
  obtain ⟨w', a1, a2, a3, _, a5⟩ := strip st u.length u rfl h1
  have cw : Cand p step (fun s => val s = v) w'.length w' := ⟨rfl, a1, a5, by show val _ = v; rw [a3, h2]⟩
  rw [← h3, ← a2]
  by_cases z : w'.length < k
  · rcases no _ z with ⟨_, h⟩ | ⟨_, h, _⟩
    · exact absurd cw (h _)
    · cases h
  · by_cases z2 : w'.length = k
    · exact least w' (z2 ▸ cw)
    · have lt := numW_lt p0 w c.dg
      rw [c.len] at lt
      rcases a5 with rfl | ⟨u2, d, rfl, nz⟩
      · exact absurd (show ([] : List Nat).length = 0 from rfl) (by omega)
      · have ge := top_ge (p := p) (u := u2) nz
        rw [List.length_append] at z z2
        have z : ¬ u2.length + 1 < k := z
        have z2 : u2.length + 1 ≠ k := z2
        have : p ^ k ≤ p ^ u2.length := Nat.pow_le_pow_right p0 (by omega)
        omega
end
end B5

/-! Rch: what words lead to; the walk meets just that; short words do. -/
namespace B5
section
variable {n p : Nat} {step : Nat → Nat → Nat} {val : Nat → Int} {R : List (List Nat)} {W : List Int}
/-- a word leads here -/
def Rch (p : Nat) (step : Nat → Nat → Nat) (s : Nat) : Prop := ∃ w, Dg p w ∧ runW step 0 w = s
theorem Rch.zero : Rch p step 0 := ⟨[], fun _ h => (nomatch h), rfl⟩
theorem Rch.next {s d : Nat} (h : Rch p step s) (hd : d < p) : Rch p step (step s d) := by
  obtain ⟨w, h1, rfl⟩ := h
  exact ⟨w ++ [d], Dg.snoc.mpr ⟨h1, hd⟩, runW_app⟩
theorem rch_in (P : Nat → Prop) (h0 : P 0) (cl : ∀ s d, P s → d < p → P (step s d)) {s : Nat} (h : Rch p step s) : P s := by
  obtain ⟨w, hw, rfl⟩ := h
  have key : ∀ (w : List Nat) (s : Nat), P s → Dg p w → P (runW step s w) := by
    intro w
    induction w with
    | nil => intro s hs _; exact hs
    | cons d w ih => intro s hs g; exact ih _ (cl s d hs (g d (.head _))) fun x hx => g x (.tail _ hx)
  exact key w 0 h0 hw
theorem Rch.below (cl : ∀ s d, s < n → d < p → step s d < n) (n0 : 0 < n) {s : Nat} (h : Rch p step s) : s < n := rch_in (fun s => s < n) n0 cl h
theorem met_rch {N : Nat} (cl : ∀ s d, s < n → d < p → step s d < n) (n0 : 0 < n) (hN : n ≤ N) : ∀ s ∈ (walkFrom (leadS p step) N 0).1, Rch p step s :=
  (walkFrom_end (lead := leadS p step) (P := fun s => Rch p step s) (fun a ha b hb => by
    obtain ⟨d, hd, rfl⟩ := leadS_mem hb
    exact ha.next hd) (N := N) (fun l nd al => Nat.le_trans (nodup_below n l nd fun x hx => (al x hx).below cl n0) hN) .zero).all
theorem rch_met {met : List Nat} {rows : List (List Nat)} (M : MetI n p step 0 met rows) {s : Nat} (h : Rch p step s) : s ∈ met := by
  obtain ⟨w, hw, rfl⟩ := h
  exact List.mem_of_getElem? (M.run w 0 0 M.first hw)
/-- the least machine's values are told -/
theorem LeastOf.rch (L : LeastOf n p step val R W) : ∀ x ∈ W, ∃ s, Rch p step s ∧ val s = x := by
  obtain ⟨c, rp, S, k, cb, hr, h⟩ := L.ex
  obtain ⟨_, e2⟩ := h n (Nat.le_refl _)
  have all := (walkFrom_end (lead := leadK p step c rp) (P := fun a => ∃ s, Rch p step s ∧ a = c s) (fun a ⟨s, hs, ea⟩ b hb => by
    obtain ⟨x, hx, rfl⟩ := List.mem_map.mp hb
    obtain ⟨d, hd, rfl⟩ := leadS_mem hx
    subst ea
    have sn := hs.below L.cl L.n0
    exact ⟨step s d, hs.next hd, S.keep _ _ (hr s sn).1 sn (hr s sn).2 d hd⟩) (N := n) (fun l nd al => nodup_below n l nd fun x hx => by
      obtain ⟨s, hs, rfl⟩ := al x hx
      exact cb s (hs.below L.cl L.n0)) (a := c 0) ⟨0, .zero, rfl⟩).all
  intro x hx
  rw [e2] at hx
  obtain ⟨a, ha, rfl⟩ := List.mem_map.mp hx
  obtain ⟨s, hs, rfl⟩ := all a ha
  have sn := hs.below L.cl L.n0
  exact ⟨s, hs, (S.tell _ _ (hr s sn).1 sn (hr s sn).2).symm⟩
/-- a short word does -/
theorem rch_short (cl : ∀ s d, s < n → d < p → step s d < n) (n0 : 0 < n) {s : Nat} (h : Rch p step s) : ∃ w : List Nat, w.length < n ∧ Dg p w ∧ runW step 0 w = s := by
  obtain ⟨w0, g0, e0⟩ := h
  obtain ⟨L, ⟨w, rfl, g, e⟩, least⟩ := least_ex (fun L => ∃ w : List Nat, w.length = L ∧ Dg p w ∧ runW step 0 w = s) w0.length ⟨w0, rfl, g0, e0⟩
  refine ⟨w, ?_, g, e⟩
  by_cases z : w.length < n
  · exact z
  exfalso
  by_cases q : ∃ i j, i < j ∧ j ≤ w.length ∧ runW step 0 (w.take i) = runW step 0 (w.take j)
  · obtain ⟨i, j, lt, le, eq⟩ := q
    have l := least (w.take i ++ w.drop j).length ⟨_, rfl, fun x hx => by
      rcases List.mem_append.mp hx with hx | hx
      · exact g x (List.mem_of_mem_take hx)
      · exact g x (List.mem_of_mem_drop hx), by
      rw [runW_cat, eq, ← runW_cat, List.take_append_drop]
      exact e⟩
    rw [List.length_append, List.length_take, List.length_drop] at l
    omega
  · have nd : ((List.range (w.length + 1)).map fun i => runW step 0 (w.take i)).Nodup := by
      unfold List.Nodup
      rw [List.pairwise_map]
      refine List.Pairwise.imp_of_mem (fun {a b} ha hb lt => ?_) (List.pairwise_lt_range (n := w.length + 1))
      intro eq
      exact q ⟨a, b, lt, by have := List.mem_range.mp hb; omega, eq⟩
    have := nodup_below n _ nd fun x hx => by
      obtain ⟨i, _, rfl⟩ := List.mem_map.mp hx
      exact Rch.below cl n0 ⟨_, fun x hx => g x (List.mem_of_mem_take hx), rfl⟩
    rw [List.length_map, List.length_range] at this
    omega
theorem asc_one : ∀ {a b : List (Int × Nat)}, a.Pairwise (fun x y => x.1 < y.1) → b.Pairwise (fun x y => x.1 < y.1) → (∀ x, x ∈ a ↔ x ∈ b) → a = b
  | [], [], _, _, _ => rfl
  | [], y :: b, _, _, h => absurd ((h y).mpr (.head _)) (List.not_mem_nil)
  | x :: a, [], _, _, h => absurd ((h x).mp (.head _)) (List.not_mem_nil)
  | x :: a, y :: b, ha, hb, h => by
    obtain ⟨a1, a2⟩ := List.pairwise_cons.mp ha
    obtain ⟨b1, b2⟩ := List.pairwise_cons.mp hb
    have e : x = y := by
      rcases List.mem_cons.mp ((h x).mp (.head _)) with e | e
      · exact e
      rcases List.mem_cons.mp ((h y).mpr (.head _)) with e2 | e2
      · exact e2.symm
      · have := b1 x e
        have := a1 y e2
        omega
    subst e
    rw [asc_one a2 b2 fun z => ?_]
    constructor
    · intro hz
      rcases List.mem_cons.mp ((h z).mp (.tail _ hz)) with e | e
      · have := a1 z hz
        rw [e] at this
        omega
      · exact e
    · intro hz
      rcases List.mem_cons.mp ((h z).mpr (.tail _ hz)) with e | e
      · have := b1 z hz
        rw [e] at this
        omega
      · exact e
theorem Cand.imp {A B : Nat → Prop} {N : Nat} (h : ∀ s, Rch p step s → A s → B s) {w : List Nat} (c : Cand p step A N w) : Cand p step B N w := ⟨c.len, c.dg, c.top, h _ ⟨w, c.dg, rfl⟩ c.leads⟩
theorem Bst.congr {A B : Nat → Prop} {N : Nat} {r : Option Nat} (h : ∀ s, Rch p step s → (A s ↔ B s)) (b : Bst p step A N r) : Bst p step B N r := by
  rcases b with ⟨e, no⟩ | ⟨w, e, c, least⟩
  · exact .inl ⟨e, fun w c => no w (c.imp fun s hs => (h s hs).mpr)⟩
  · exact .inr ⟨w, e, c.imp fun s hs => (h s hs).mp, fun w' c' => least w' (c'.imp fun s hs => (h s hs).mpr)⟩
theorem first_some : ∀ {rs : List (Option Nat)} {m : Nat} {t : List Nat}, rs.filterMap id = m :: t → ∃ k : Nat, rs[k]? = some (some m) ∧ ∀ j : Nat, j < k → rs[j]? = some none
  | [], m, t, h => by simp at h
  | none :: rs, m, t, h => by
    have h : rs.filterMap id = m :: t := h
    obtain ⟨k, e, f⟩ := first_some h
    exact ⟨k + 1, e, fun j hj => by
      cases j with
      | zero => rfl
      | succ j => exact f j (by omega)⟩
  | some x :: rs, m, t, h => by
    have h : x :: rs.filterMap id = m :: t := h
    cases h
    exact ⟨0, rfl, fun (j : Nat) (hj : j < 0) => absurd hj (Nat.not_lt_zero j)⟩
/-- among the numbers of digits up to n there is one that tells the value, and the first tells it best -/
theorem found_least (p0 : 0 < p) (cl : ∀ s d, s < n → d < p → step s d < n) (n0 : 0 < n) {v : Int} (st : ∀ s, Rch p step s → val s = val (step s 0)) {rs : List (Option Nat)} (ln : n ≤ rs.length) (al : ∀ (k : Nat) (r : Option Nat), rs[k]? = some r → Bst p step (fun s => val s = v) k r)
    {s : Nat} (hs : Rch p step s) (hv : val s = v) : ∃ m t, rs.filterMap id = m :: t ∧ MinE (Tell p step val v) m := by
  obtain ⟨w, lw, g, e⟩ := rch_short cl n0 hs
  obtain ⟨w', g1, _, g3, g4, g5⟩ := strip st w.length w rfl g
  have cw : Cand p step (fun s => val s = v) w'.length w' := ⟨rfl, g1, g5, by show val _ = v; rw [g3, e, hv]⟩
  have e2 : rs[w'.length]? = some (rs[w'.length]'(by omega)) := List.getElem?_eq_getElem (by omega)
  have ne : rs.filterMap id ≠ [] := by
    intro z
    rcases al _ _ e2 with ⟨_, no⟩ | ⟨u, e3, _⟩
    · exact no _ cw
    · have : numW p u ∈ rs.filterMap id := List.mem_filterMap.mpr ⟨some (numW p u), by rw [← e3]; exact List.getElem_mem _, rfl⟩
      rw [z] at this
      exact List.not_mem_nil this
  cases h : rs.filterMap id with
  | nil => exact absurd h ne
  | cons m t =>
    obtain ⟨k, e1, no⟩ := first_some h
    exact ⟨m, t, rfl, first_least p0 st (Nat.le_refl k) (al _ _ e1) fun j hj => al _ _ (no j hj)⟩
end
end B5

/-! Clo: functions made by a def in a def, handed to other functions: their captured cells are shown in the heap. -/
namespace B5
open PySem PySem.Spec PyProof.Rows L2 NdefX
open Classical
/-- the cell object ob stands at c -/
def CelO (c : Addr) (ob : Obj) : HO := .ext fun h => h.get? c = some ob
def isC (cl : List (Str × Addr)) (b : Addr) : Prop := ∃ y, cl.lookup y = some b
/-- the captured cells stand in the heap, with what they hold -/
structure Exd (cl : List (Str × Addr)) (fr : List Str) (ws : List (Option V)) (H : Hp) : Prop where
  len : ws.length = fr.length
  all : ∀ y c, cl.lookup y = some c → ∃ ob v, H c = some (CelO c ob) ∧ ob.data = .cell v
  inj : ∀ x y c, cl.lookup x = some c → cl.lookup y = some c → x = y
  has : ∀ (i : Nat) (y : Str), fr[i]? = some y → ∃ c, cl.lookup y = some c ∧ ∀ v, ws[i]? = some (some v) → ∃ ob u, H c = some (CelO c ob) ∧ ob.data = .cell (some u) ∧ L2.RelV v u
theorem Exd.same {cl : List (Str × Addr)} {fr : List Str} {ws : List (Option V)} {H H' : Hp} (x : Exd cl fr ws H) (m : ∀ b, isC cl b → H' b = H b) : Exd cl fr ws H' where
  len := x.len
  all := fun y c e => let ⟨ob, v, a, b⟩ := x.all y c e; ⟨ob, v, (m c ⟨y, e⟩).trans a, b⟩
  inj := x.inj
  has := fun i y e => let ⟨c, a, b⟩ := x.has i y e; ⟨c, a, fun v ev => let ⟨ob, u, p, q, r⟩ := b v ev; ⟨ob, u, (m c ⟨y, a⟩).trans p, q, r⟩⟩
theorem Exd.ex {cl : List (Str × Addr)} {fr : List Str} {ws : List (Option V)} {H : Hp} (x : Exd cl fr ws H) {b : Addr} (h : isC cl b) : ∃ ob, H b = some (CelO b ob) :=
  let ⟨y, e⟩ := h; let ⟨ob, _, a, _⟩ := x.all y b e; ⟨ob, a⟩
/-- without the cells -/
noncomputable def hide (cl : List (Str × Addr)) (H : Hp) : Hp := fun b => if isC cl b then none else H b
/-- with the cells as in H -/
noncomputable def lay (cl : List (Str × Addr)) (H H' : Hp) : Hp := fun b => if isC cl b then H b else H' b
theorem hide_no {cl : List (Str × Addr)} {H : Hp} {b : Addr} (h : ¬ isC cl b) : hide cl H b = H b := if_neg h
theorem hide_at {cl : List (Str × Addr)} {H : Hp} {b : Addr} (h : isC cl b) : hide cl H b = none := if_pos h
theorem hide_some {cl : List (Str × Addr)} {H : Hp} {b : Addr} {o : HO} (h : hide cl H b = some o) : ¬ isC cl b ∧ H b = some o := by
  by_cases e : isC cl b
  · rw [hide_at e] at h; cases h
  · rw [hide_no e] at h; exact ⟨e, h⟩
theorem lay_no {cl : List (Str × Addr)} {H H' : Hp} {b : Addr} (h : ¬ isC cl b) : lay cl H H' b = H' b := if_neg h
theorem lay_at {cl : List (Str × Addr)} {H H' : Hp} {b : Addr} (h : isC cl b) : lay cl H H' b = H b := if_pos h
section
variable {P : Program} {w : World} {cl : List (Str × Addr)} {fr : List Str} {ws : List (Option V)} {H H' : Hp} {h h' : Heap}
theorem cel_obj {c : Addr} {ob : Obj} (x : HOk P w H h) (e : H c = some (CelO c ob)) : h.get? c = some ob := (x c _ e).1
theorem cel_ok {c : Addr} {ob : Obj} (H : Hp) (e : h.get? c = some ob) : ObjOk P w H h c (CelO c ob) := ⟨e, ⟨ob, e⟩, fun h1 h2 a b => b _ a⟩
theorem hok_hide (x : HOk P w H h) (ex : ∀ b, isC cl b → ∃ ob, H b = some (CelO b ob)) : HOk P w (hide cl H) h := by
  intro b o e
  obtain ⟨nb, e⟩ := hide_some e
  refine (x b o e).stay (fun c u _ q => q) (fun c q => ?_) (fun c xs q => ?_)
  · rw [hide_no fun z => ?_]
    · exact q
    · obtain ⟨ob, r⟩ := ex c z
      rw [r] at q; cases q
  · rw [hide_no fun z => ?_]
    · exact q
    · obtain ⟨ob, r⟩ := ex c z
      rw [r] at q; cases q
theorem hok_lay (x : HOk P w H' h) (no : ∀ b, isC cl b → H' b = none) (ex : ∀ b, isC cl b → ∃ ob, H b = some (CelO b ob) ∧ h.get? b = some ob) : HOk P w (lay cl H H') h := by
  intro b o e
  by_cases z : isC cl b
  · rw [lay_at z] at e
    obtain ⟨ob, r, g⟩ := ex b z
    rw [r] at e; cases e
    exact cel_ok _ g
  · rw [lay_no z] at e
    refine (x b o e).stay (fun c u _ q => q) (fun c q => ?_) (fun c xs q => ?_)
    · rw [lay_no fun y => ?_]
      · exact q
      · rw [no c y] at q; cases q
    · rw [lay_no fun y => ?_]
      · exact q
      · rw [no c y] at q; cases q
theorem exd_cells (x : Exd cl fr ws H) (ok : HOk P w H h) : CellsAt cl fr ws h (hide cl H) where
  len := x.len
  all := fun y c e => by
    obtain ⟨ob, v, a, b⟩ := x.all y c e
    exact ⟨hide_at ⟨y, e⟩, v, ob, cel_obj ok a, b⟩
  inj := x.inj
  has := fun i y e => by
    obtain ⟨c, a, b⟩ := x.has i y e
    refine ⟨c, a, fun v ev => ?_⟩
    obtain ⟨ob, u, p, q, r⟩ := b v ev
    exact ⟨u, r, ob, cel_obj ok p, q⟩
end
/-- a function at f that answers as sp where pre is -/
structure Lead (P : Program) (w : World) (K : PySem.W.Frag) (mg : Str → Option Value) (base : Heap) (k : Nat) (f : Addr) (pre : Hp → Prop) (sp : Sp) : Prop where
  at_ : ∀ H, pre H → ∃ F, H f = some (FnO f F)
  run : ∀ (A : Around) (outer : List Env) (s : Shared) (H : Hp) (us : List Value) (vs : List V) (Q : VK), Room k A → Env0 P w K mg base A outer s H → pre H → Vals vs us → sp vs H Q E0 → codeAny (model P w) A (.call (.ref f) ⟨us, []⟩) (CR CX0 outer P w H s Q E0) s
theorem lead_of {P : Program} {w : World} {K : PySem.W.Frag} {mg : Str → Option Value} {base : Heap} {k : Nat} {f : Addr} {F : NF} {ps fr : List Str} {sp : List (Option V) → Sp} (Fn : NOk P w K mg base CX0 k f F ps fr sp) (ws : List (Option V)) (nf : ¬ isC F.cl f) (nc : ¬ isC F.cl F.c) :
    Lead P w K mg base k f (fun H => (H f = some (FnO f F) ∧ H F.c = some (LamX.CodeO F.c F.qual)) ∧ Exd F.cl fr ws H) (fun vs H Q E => sp ws vs (hide F.cl H) (fun v H' => Q v (lay F.cl H H')) E) := by
  refine ⟨fun H h => ⟨F, h.1.1⟩, fun A outer s H us vs Q hr e0 ⟨⟨hf, hcc⟩, x⟩ r q => ?_⟩
  have exs : ∀ b, isC F.cl b → ∃ ob, H b = some (CelO b ob) := fun b hb => x.ex hb
  have hide_none : ∀ {b : Addr}, H b = none → hide F.cl H b = none := fun {b} e => by
    by_cases z : isC F.cl b
    · exact hide_at z
    · rw [hide_no z]; exact e
  have e1 : Env0 P w K mg base A outer s (hide F.cl H) := ⟨e0.frames, e0.mod, fun b o e => ⟨(e0.bs b o e).1, hide_none (e0.bs b o e).2⟩, e0.bsz, e0.funs, fun b hb => hide_none (e0.frf b hb), hok_hide e0.hok exs, e0.bare⟩
  refine codeAny_mono (Fn.run A outer s (hide F.cl H) us vs ws _ E0 hr e1 (by rw [hide_no nf]; exact hf) (by rw [hide_no nc]; exact hcc) (exd_cells x e0.hok) r q) fun res s' hs => ?_
  cases res with
  | error e => exact hs
  | ok fl =>
    cases fl with
    | next => exact hs
    | brk => exact hs
    | cont => exact hs
    | ret u =>
      obtain ⟨v, H', os, bare, un, hok, rv, q⟩ := hs
      have celk : ∀ b, isC F.cl b → ∃ ob, H b = some (CelO b ob) ∧ s'.heap.get? b = some ob := fun b hb => by
        obtain ⟨ob, e⟩ := exs b hb
        refine ⟨ob, e, un.keep b ob (cel_obj e0.hok e) (hide_at hb) (fun z => ?_) (by simp)⟩
        rw [e0.frf b z] at e; cases e
      have no' : ∀ b, isC F.cl b → H' b = none := fun b hb => by
        obtain ⟨ob, e⟩ := exs b hb
        exact un.free b ob (cel_obj e0.hok e) (hide_at hb) (by simp)
      have nex : ∀ {b : Addr} {o : HO}, H b = some o → (∀ ob, o ≠ CelO b ob) → ¬ isC F.cl b := fun {b o} e n z => by
        obtain ⟨ob, r⟩ := exs b z
        rw [r] at e
        exact n ob (Option.some.inj e).symm
      refine ⟨v, lay F.cl H H', os, bare, ⟨fun b o g n => un.keep b o g (hide_none n), fun b o g n => un.slot b o g (hide_none n), fun b o g n hx => ?_, un.there, fun b xs e => ?_, fun b o u e => ?_, fun b ps e => ?_⟩, hok_lay hok no' celk, rv, q⟩
      · by_cases z : isC F.cl b
        · rw [lay_at z]; exact n
        · rw [lay_no z]; exact un.free b o g (hide_none n) hx
      · have z := nex e fun ob z => by cases z
        rw [lay_no z]
        exact un.tups b xs (by rw [hide_no z]; exact e)
      · have z := nex e fun ob z => by cases z
        rw [lay_no z]
        exact un.frzs b o u (by rw [hide_no z]; exact e)
      · have z := nex e fun ob z => by cases z
        rw [lay_no z]
        exact un.tbls b ps (by rw [hide_no z]; exact e)
/-- f(..), f a name that holds such a function -/
def tLead (P : Program) (w : World) (K : PySem.W.Frag) (mg : Str → Option Value) (base : Heap) (k i : Nat) (t : TA) : TE := fun σ H Q => ∃ f pre sp, σ[i]? = some (some (.ref f)) ∧ Lead P w K mg base k f pre sp ∧ (∃ F, H f = some (FnO f F)) ∧ t σ H fun vs H1 => pre H1 ∧ sp vs H1 Q E0
section
variable {X : Cx} {i j k : Nat} {x : Str} {t : TA} {e : Expr} {es : List Expr} {p pos : Pos}
theorem pe_lead (hr : Room k X.A) (hN : X.N[i]? = some x) (hv : Vis X.env.scope x) (ha : PA X (e :: es) t)
    (hd : (x == ("__debug__" : Str)) = false := by decide) (hcd : (x == ("__classdict__" : Str)) = false := by decide)
    (he : starEach (e :: es) X.env = (false, eval e X.env) :: starEach es X.env := by rfl) (hpl : (backTo pos (starEach es X.env)).any (·.1) = false := by rfl) :
    PE X (.Call (.Name x p) (e :: es) [] pos) (tLead X.prog X.w X.K X.mg X.base k i t) := by
  refine ⟨fun pins s σ H Q I h => ?_⟩
  obtain ⟨f, pre, sp, hs, L, ⟨F, hf⟩, ht⟩ := h
  refine wpAny_Call_Name_kw (thn ((pe_var (pos := p) hN hv hd hcd).run pins s σ H (fun v H1 => v = .ref f ∧ H1 = H) I ⟨.ref f, hs, rfl, rfl⟩) fun u s1 ⟨v, H1, I1, r1, q1⟩ => ?_)
  obtain ⟨ev, eH⟩ := q1
  subst ev
  rw [eH] at I1
  obtain rfl : u = Value.ref f := r1
  refine PySem.W.callWith_F (first := []) (fnAt_of I1 hf) (thn (ha.run pos pins s1 σ H _ I1 ht) fun us s2 ⟨vs, H2, I2, r, h1, q⟩ => ?_) he hpl
  obtain ⟨F2, hf2⟩ := L.at_ H2 h1
  refine ⟨fnAt_of I2 hf2, ?_⟩
  show wpAny _ _ (call (.ref f) us) _ _ _
  refine wpAny_call (codeAny_mono (L.run X.A X.stack s2 H2 us vs Q hr I2.env0 h1 r q) fun r s' hq => ?_)
  cases r with
  | error e => exact hq.elim
  | ok fl =>
    cases fl with
    | ret u => exact I2.after hq
    | next => exact False.elim hq
    | brk => exact False.elim hq
    | cont => exact False.elim hq
end
/-- HE is H with the cells shown -/
structure Shown (cl : List (Str × Addr)) (fr : List Str) (ws : List (Option V)) (H HE : Hp) : Prop where
  exd : Exd cl fr ws HE
  off : ∀ b, ¬ isC cl b → HE b = H b
  on : ∀ b, isC cl b → H b = none
theorem Shown.more {cl : List (Str × Addr)} {fr : List Str} {ws : List (Option V)} {H HE : Hp} (x : Shown cl fr ws H HE) : ∀ b o, H b = some o → HE b = some o := fun b o e => by
  rw [x.off b fun z => by rw [x.on b z] at e; cases e]
  exact e
theorem show_of {P : Program} {w : World} {cl : List (Str × Addr)} {fr : List Str} {ws : List (Option V)} {H : Hp} {h : Heap} (ok : HOk P w H h) (C : CellsAt cl fr ws h H) :
    ∃ HE, Shown cl fr ws H HE ∧ HOk P w HE h ∧ ∀ b, isC cl b → ∃ ob, HE b = some (CelO b ob) ∧ h.get? b = some ob := by
  let G : Hp := fun b => match h.get? b with
    | some ob => some (CelO b ob)
    | none => none
  have gat : ∀ {b ob}, h.get? b = some ob → G b = some (CelO b ob) := fun {b ob} e => by
    show (match h.get? b with | some ob => some (CelO b ob) | none => none) = _
    rw [e]
  have on : ∀ b, isC cl b → H b = none := fun b ⟨y, e⟩ => (C.all y b e).1
  have cel : ∀ b, isC cl b → ∃ ob, G b = some (CelO b ob) ∧ h.get? b = some ob := fun b ⟨y, e⟩ => by
    obtain ⟨_, v, ob, g, _⟩ := C.all y b e
    exact ⟨ob, gat g, g⟩
  refine ⟨lay cl G H, ⟨⟨C.len, fun y c e => ?_, C.inj, fun i y e => ?_⟩, fun b z => lay_no z, on⟩, hok_lay ok on cel, fun b z => ?_⟩
  · obtain ⟨_, v, ob, g, d⟩ := C.all y c e
    exact ⟨ob, v, (lay_at ⟨y, e⟩).trans (gat g), d⟩
  · obtain ⟨c, a, b⟩ := C.has i y e
    refine ⟨c, a, fun v ev => ?_⟩
    obtain ⟨u, r, ob, g, d⟩ := b v ev
    exact ⟨ob, u, (lay_at ⟨y, a⟩).trans (gat g), d, r⟩
  · obtain ⟨ob, a, g⟩ := cel b z
    exact ⟨ob, (lay_at z).trans a, g⟩
/-- a def's call while the caller's own cells are shown -/
def tCallE (cl : List (Str × Addr)) (fr : List Str) (js : List Nat) (sp : Sp) (t : TA) : TE := fun σ H Q => t σ H fun vs H1 => ∀ HE, Shown cl fr (js.map (slotAt σ)) H1 HE → sp vs HE (fun v H2 => (∀ b, isC cl b → H2 b = HE b) ∧ Q v (hide cl H2)) E0
section
variable {X : Cx} {k : Nat} {f : Addr} {fd : FuncData} {ps fr : List Str} {cl : List (Str × Addr)} {js : List Nat} {sp : Sp} {x : Str} {p pos : Pos} {e : Expr} {es : List Expr} {t : TA}
theorem own_new {pins : List (Addr × Obj)} {σ : L2.St} {H : Hp} {s : Shared} (I : Inv X pins σ H s) (cp : Caps X cl fr js) (hfn : ∀ x, X.fn x = true) {b : Addr} (h : isC cl b) : X.s_0.heap.objs.size ≤ b ∧ b ∉ frs X.stack := by
  obtain ⟨y, e⟩ := h
  have e1 := cp.sub y b e
  have lo := I.ok.cab y b (hfn y) e1
  refine ⟨lo, fun z => ?_⟩
  rcases List.mem_cons.mp (I.stkSub b z) with z | z
  · exact I.cne y b e1 z
  · obtain ⟨_, o, ho, _⟩ := I.ok.funs.mem z
    exact absurd (Nat.lt_of_lt_of_le (Heap.lt_size ho) lo) (Nat.lt_irrefl _)
theorem run_fnE {pins : List (Addr × Obj)} {σ : L2.St} {H HE : Hp} {s : Shared} {Q : VK} {us : List Value} {vs : List V} {ws : List (Option V)} (F : FnOk X.prog X.w X.K X.mg X.base CX0 k f fd ps sp) (hr : Room k X.A) (hb : Binds X.K fd ps [])
    (I : Inv X pins σ H s) (cp : Caps X cl fr js) (hfn : ∀ x, X.fn x = true) (sh : Shown cl fr ws H HE) (okE : HOk X.prog X.w HE s.heap) (cel : ∀ b, isC cl b → ∃ ob, HE b = some (CelO b ob) ∧ s.heap.get? b = some ob)
    (r : Vals vs us) (h : sp vs HE (fun v H2 => (∀ b, isC cl b → H2 b = HE b) ∧ Q v (hide cl H2)) E0) : wpAny (model X.prog X.w) X.A (call (.ref f) us) (EP X pins σ Q) X.xe s := by
  have hl : us.length = ps.length := by rw [← r.length]; exact F.len _ _ _ _ h
  have e0 := I.env0
  have nEb : ∀ {b : Addr}, H b = none → ¬ isC cl b → HE b = none := fun {b} e z => by rw [sh.off b z]; exact e
  have e1 : Env0 X.prog X.w X.K X.mg X.base X.A X.stack s HE := ⟨e0.frames, e0.mod, fun b o e => ⟨(e0.bs b o e).1, nEb (e0.bs b o e).2 fun z => ?_⟩, e0.bsz, e0.funs, fun b hb' => nEb (e0.frf b hb') fun z => (own_new I cp hfn z).2 hb', okE, e0.bare⟩
  · have hb2 := hb s us I.kIn (by rw [List.append_nil]; exact hl)
    rw [List.append_nil] at hb2
    refine wpAny_call (codeAny_mono (F.run X.A X.stack s HE ⟨us, []⟩ us vs _ E0 hr e1 hb2 r h) fun r s' hq => ?_)
    cases r with
    | error e => exact hq.elim
    | ok fl =>
      cases fl with
      | next => exact False.elim hq
      | brk => exact False.elim hq
      | cont => exact False.elim hq
      | ret u =>
        obtain ⟨v, H2, os, bare, un, hok, rv, keep, q⟩ := hq
        have ex2 : ∀ b, isC cl b → ∃ ob, H2 b = some (CelO b ob) := fun b z => by
          obtain ⟨ob, a, _⟩ := cel b z
          exact ⟨ob, (keep b z).trans a⟩
        have tr : ∀ {b : Addr} {o : HO}, H b = some o → ¬ isC cl b := fun {b o} e z => by rw [sh.on b z] at e; cases e
        refine I.after ⟨v, hide cl H2, os, bare, ⟨fun b o g n hf hx => ?_, fun b o g n hf hx => ?_, fun b o g n hx => ?_, un.there, fun b xs e => ?_, fun b o u e => ?_, fun b ps e => ?_⟩, hok_hide hok ex2, rv, q⟩
        · by_cases z : isC cl b
          · obtain ⟨ob, a, g2⟩ := cel b z
            rw [g] at g2
            cases g2
            exact cel_obj hok ((keep b z).trans a)
          · exact un.keep b o g (nEb n z) hf hx
        · by_cases z : isC cl b
          · exact absurd hf (own_new I cp hfn z).2
          · exact un.slot b o g (nEb n z) hf hx
        · by_cases z : isC cl b
          · exact hide_at z
          · rw [hide_no z]; exact un.free b o g (nEb n z) hx
        · have z := tr e
          rw [hide_no z]
          exact un.tups b xs (by rw [sh.off b z]; exact e)
        · have z := tr e
          rw [hide_no z]
          exact un.frzs b o u (by rw [sh.off b z]; exact e)
        · have z := tr e
          rw [hide_no z]
          exact un.tbls b ps (by rw [sh.off b z]; exact e)
  · have lo := (own_new I cp hfn z).1
    exact absurd (Nat.lt_of_lt_of_le (Nat.lt_of_lt_of_le (Heap.lt_size e) I.ok.bsz) lo) (Nat.lt_irrefl _)
theorem pe_callE (F : FnOk X.prog X.w X.K X.mg X.base CX0 k f fd ps sp) (hr : Room k X.A) (hg : Gl X x) (hm : X.mg x = some (.ref f)) (hk : PySem.W.keepIn X.K (.ref f) = true) (hb : Binds X.K fd ps []) (cp : X.Ok → Caps X cl fr js) (hfn : ∀ x, X.fn x = true)
    (ha : PA X (e :: es) t) (hdb : (x == ("__debug__" : Str)) = false := by decide) (he : starEach (e :: es) X.env = (false, eval e X.env) :: starEach es X.env := by rfl) (hpl : (backTo pos (starEach es X.env)).any (·.1) = false := by rfl) :
    PE X (.Call (.Name x p) (e :: es) [] pos) (tCallE cl fr js sp t) := by
  refine ⟨fun pins s σ H Q I h => ?_⟩
  refine wpAny_Call_Name_kw (ld_glob I hg hm ?_ hdb)
  refine PySem.W.callWith_K (h₀ := X.base) I.ok.mod.kin hk (thn (ha.run pos pins s σ H _ I h) fun us s2 ⟨vs, H2, I2, r, q⟩ => ⟨I2.kIn, ?_⟩) he hpl
  obtain ⟨HE, sh, ok, cel⟩ := show_of I2.hok (cells_of I2 (cp I2.ok))
  exact run_fnE F hr hb I2 (cp I2.ok) hfn sh ok cel r (q HE sh)
end
/-- THE RULE for a def whose body is a statement and a return, whose own cells are shown behind it -/
theorem ok_show {P : Program} {w : World} {K : PySem.W.Frag} {mg : Str → Option Value} {base : Heap} {x qual : Str} {st s1 : Stmt} {e : Expr} {rp : Pos} {f c : Addr} {oc kV doc pm ct : Value} {od an : Option Addr} {osl : Array (Option Value)} {N ps : List Str} {k : Nat} {sp : Sp}
    (lk : K.lookup f = some ⟨oc, od, .func (PySem.W.fnOf x qual (defArgs st) (defBody st) (defScope st) .none kV doc pm an (.ref c) ct), osl⟩) (hcd : PySem.W.codeIn K (.ref c) qual = true) (S : FnScope N ps (defScope st)) (len : ∀ vs H Q E, sp vs H Q E → vs.length = ps.length)
    (hbd : defBody st = [s1, .Return (some e) rp])
    (hbody : ∀ (A : Around) (outer : List Env) (s : Shared) (H : Hp) (vs : List V) (Q : VK) (E : XK), Room k (A.deeper (envOfC qual (defScope st) s.heap.objs.size f (.ref c))) → sp vs H Q E →
      ∃ (t1 : TS) (te : TE) (cl : List (Str × Addr)) (fr : List Str) (js : List Nat), PS (cxOf CX0 P w K mg base N qual (defScope st) f (.ref c) A outer s H E) s1 t1 ∧ PE (cxOf CX0 P w K mg base N qual (defScope st) f (.ref c) A outer s H E) e te ∧
        ((cxOf CX0 P w K mg base N qual (defScope st) f (.ref c) A outer s H E).Ok → Caps (cxOf CX0 P w K mg base N qual (defScope st) f (.ref c) A outer s H E) cl fr js) ∧
        t1 { nx := fun σ1 H1 => te σ1 H1 fun v H2 => ∀ HE, Shown cl fr (js.map (slotAt σ1)) H2 HE → Q v HE, rt := fun _ _ => False } (L2.start N vs) H) :
    FnOk P w K mg base CX0 (k + 1) f (PySem.W.fnOf x qual (defArgs st) (defBody st) (defScope st) .none kV doc pm an (.ref c) ct) ps sp := by
  refine ⟨len, fun A outer s H args us vs Q E hr e0 hb r hsp => ?_⟩
  have hl := len _ _ _ _ hsp
  have KX : K.In s.heap := e0.mod.kin.keeps fun b o e => (e0.bs b o e).1
  have lim : s.heap.NoLimit := e0.mod.nolimit.keeps fun b o e => (e0.bs b o e).1
  have hkind : ∀ y ∈ ps.zip us, (defScope st).names.lookup y.1 = some .local ∨ ((defScope st).names.lookup y.1 = some .cell ∧ ((cellsFrom (s.heap.objs.size + 1) (defScope st).names []).lookup y.1).isSome = true) := fun ⟨n, v⟩ hy => by
    rcases S.par n (List.of_mem_zip hy).1 with q | q
    · exact .inl q
    · exact .inr ⟨q, PySem.W.cellsFrom_some _ _ _ (.inl q)⟩
  refine codeAny_call_function hr.depth (KX _ _ lk) rfl S.co S.gen rfl (PySem.W.codeRec_of KX hcd) (hb _ _ _ _ ?_)
  refine wpAny_newFunctionEnv_cells S.kind hkind fun env he s1' x => ?_
  subst he
  refine ⟨lim.keeps x.toInCall.keep, codeAny_func ?_⟩
  obtain ⟨t1, te, cl, fr, js, h1, h2, cp, hq⟩ := hbody A outer s H vs Q E (hr.deeper _) hsp
  have I : Inv (cxOf CX0 P w K mg base N qual (defScope st) f (.ref c) A outer s H E) [] (L2.start N vs) H s1' := inv_start S hr.hd e0 hl r x
  have key : wpAny (model P w) (cxOf CX0 P w K mg base N qual (defScope st) f (.ref c) A outer s H E).A (execs [s1, .Return (some e) rp] (cxOf CX0 P w K mg base N qual (defScope st) f (.ref c) A outer s H E).env)
      (fun fl s' => ∃ u v σ' H', fl = Flow.ret u ∧ Inv (cxOf CX0 P w K mg base N qual (defScope st) f (.ref c) A outer s H E) [] σ' H' s' ∧ L2.RelV v u ∧ ∀ HE, Shown cl fr (js.map (slotAt σ')) H' HE → Q v HE) (cxOf CX0 P w K mg base N qual (defScope st) f (.ref c) A outer s H E).xe s1' := by
    refine wpAny_execs_cons (thn (h1.run [] s1' _ H _ I hq) fun fl s2 q => ?_)
    cases fl with
    | next =>
      obtain ⟨σ', H', I', q⟩ := q
      refine wpAny_execs_cons (wpAny_Return_some (thn (h2.run [] s2 σ' H' _ I' q) fun u s3 ⟨v, H3, I3, r3, q3⟩ => ⟨u, v, σ', H3, rfl, I3, r3, q3⟩))
    | ret v =>
      obtain ⟨_, _, _, _, _, q⟩ := q
      exact q.elim
    | brk =>
      obtain ⟨_, _, _, q⟩ := q
      exact q.elim
    | cont =>
      obtain ⟨_, _, _, q⟩ := q
      exact q.elim
  show wpAny _ _ (execs (defBody st) _) _ _ _
  rw [hbd]
  refine wpAny_mono key (fun fl s' hs => ?_) fun e s' hs => hs
  obtain ⟨u, v, σ', H', rfl, J, rv, q⟩ := hs
  have cp' := cp J.ok
  obtain ⟨HE, sh, ok, cel⟩ := show_of J.hok (cells_of J cp')
  have fresh : ∀ {b : Addr} {o : Obj}, s.heap.get? b = some o → ¬ isC cl b := fun {b o} g z => by
    have lo := (own_new J cp' (fun _ => rfl) z).1
    exact absurd (Nat.lt_of_lt_of_le (Heap.lt_size g) lo) (Nat.lt_irrefl _)
  have un := J.base
  show CE outer P w H s Q u s'
  refine ⟨v, HE, J.os, J.bare, ⟨un.keep, un.slot, fun b o g n hx => ?_, un.there, fun b xs e => sh.more b _ (un.tups b xs e), fun b o u e => sh.more b _ (un.frzs b o u e), fun b ps e => ?_⟩, ok, rv, q HE sh⟩
  · rw [sh.off b (fresh g)]
    exact un.free b o g n hx
  · obtain ⟨more, e⟩ := un.tbls b ps e
    exact ⟨more, sh.more b _ e⟩
end B5

namespace ZipG
open PySem L2 PySem.Spec PyProof.Rows
/-! zip of any two of: a list, a tuple, a text -/
inductive Src where
  | l (a : Addr)
  | t (a : Addr)
  | s (z : Str)
def Src.v : Src → V
  | .l a => .ref a
  | .t a => .ref a
  | .s z => .str z
/-- its items as they stand -/
def Src.has (K : PySem.W.Frag) : Src → List V → Hp → Prop
  | .l a, xs, H => SqL K H a xs
  | .t a, xs, H => SqT K H a xs
  | .s z, xs, _ => xs = z.cps.toList.map fun c => V.str ⟨#[c]⟩
def Src.it : Src → Addr → Nat → Heap → Prop
  | .l a, it, i, h => h.IsListIter it a i
  | .t a, it, i, h => h.IsTupleIter it a i
  | .s z, it, i, h => ∃ t, h.IsStrIter it (strIterType z) z t i
def Src.low (n : Nat) : Src → Prop
  | .l a => a < n
  | .t a => a < n
  | .s _ => True
def ItG (K : PySem.W.Frag) (S1 S2 : Src) : It :=
  ⟨fun i H => ∃ xs ys, S1.has K xs H ∧ S2.has K ys H ∧ i < xs.length ∧ i < ys.length,
    fun i H v H' => ∃ T x y, v = .ref T ∧ H T = none ∧ H' = upd H T (.tup [x, y]) ∧ (∀ xs, S1.has K xs H → xs[i]? = some x) ∧ ∀ ys, S2.has K ys H → ys[i]? = some y,
    fun i H => ∃ xs ys : List V, S1.has K xs H ∧ S2.has K ys H ∧ i ≤ xs.length ∧ i ≤ ys.length ∧ (i = xs.length ∨ i = ys.length)⟩
theorem vals_back : ∀ {xs : List V} {us : List Value} {i : Nat} {u : Value}, Vals xs us → us[i]? = some u → ∃ x, xs[i]? = some x ∧ RelV x u
  | _, _, _, _, .nil, e => by simp at e
  | _, _, 0, _, .cons r _, e => by simp at e; subst e; exact ⟨_, rfl, r⟩
  | _, _, i + 1, u, .cons _ t, e => by
    rw [List.getElem?_cons_succ] at e
    obtain ⟨x, h1, h2⟩ := vals_back t e
    exact ⟨x, by rw [List.getElem?_cons_succ]; exact h1, h2⟩
section
variable {X : Cx} {pins : List (Addr × Obj)} {σ : L2.St} {H : Hp} {s : Shared} {A : Around}
theorem src_draw (hh : A.handled = none) (S : Src) (I : Inv X pins σ H s) {it i n : Nat} {xs : List V} (st : S.it it i s.heap) (low : S.low n) (hit : n ≤ it) (h : S.has X.K xs H) :
    ∃ (fp : List Addr) (P : Nat → Value → Prop) (St : Nat → Heap → Prop), Draws X.prog X.w A it fp xs.length P St ∧ St i s.heap ∧ (∀ j h', St j h' → S.it it j h') ∧ it ∈ fp ∧ (∀ b ∈ fp, b = it ∨ b < n) ∧ ∀ j u, P j u → ∃ x, xs[j]? = some x ∧ RelV x u := by
  cases S with
  | l a =>
    obtain ⟨its, rv, p, _⟩ := I.list h
    have hl := rv.length
    have e : its.toArray.size = xs.length := by rw [List.size_toArray, hl]
    have low : a < n := low
    refine ⟨_, _, _, e ▸ Draws.list hh it a (Nat.ne_of_lt (Nat.lt_of_lt_of_le low hit)) its.toArray, ⟨st, p.isList⟩, fun j h' z => z.1, by simp, fun b hb => ?_, fun j u hu => ?_⟩
    · have hb : b = it ∨ b = a := by simpa using hb
      rcases hb with rfl | rfl
      · exact .inl rfl
      · exact .inr low
    · have hu : its[j]? = some u := by simpa using hu
      exact vals_back rv hu
  | t a =>
    obtain ⟨its, rv, p, _⟩ := I.tuple h
    have hl := rv.length
    have e : its.toArray.size = xs.length := by rw [List.size_toArray, hl]
    have low : a < n := low
    refine ⟨_, _, _, e ▸ Draws.tuple hh it a (Nat.ne_of_lt (Nat.lt_of_lt_of_le low hit)) its.toArray, ⟨st, p⟩, fun j h' z => z.1, by simp, fun b hb => ?_, fun j u hu => ?_⟩
    · have hb : b = it ∨ b = a := by simpa using hb
      rcases hb with rfl | rfl
      · exact .inl rfl
      · exact .inr low
    · have hu : its[j]? = some u := by simpa using hu
      exact vals_back rv hu
  | s z =>
    obtain ⟨t, st⟩ := st
    have h : xs = z.cps.toList.map fun c => V.str ⟨#[c]⟩ := h
    subst h
    have e : z.cps.size = (z.cps.toList.map fun c => V.str ⟨#[c]⟩).length := by simp
    refine ⟨_, _, _, e ▸ Draws.text hh it z t, st, fun j h' z => ⟨t, z⟩, by simp, fun b hb => .inl (by simpa using hb), fun j u hu => ?_⟩
    obtain ⟨c, u', hc, rfl⟩ := hu
    refine ⟨.str ⟨#[c]⟩, ?_, u', rfl⟩
    rw [List.getElem?_map, Array.getElem?_toList, hc]
    rfl
theorem src_it {S : Src} {it i : Nat} {h h' : Heap} (st : S.it it i h) (k : ∀ o, h.get? it = some o → h'.get? it = some o) : S.it it i h' := by
  cases S with
  | l a => exact Heap.IsListIter.at st k
  | t a => exact Heap.IsTupleIter.at st k
  | s z =>
    obtain ⟨t, o, e, r⟩ := st
    exact ⟨t, o, k _ e, r⟩
theorem src_obj {S : Src} {it i : Nat} {h : Heap} (st : S.it it i h) : ∃ o, h.get? it = some o ∧ ∀ v, o.data ≠ .cell v := by
  cases S with
  | l a => obtain ⟨o, e, _, d⟩ := st; exact ⟨o, e, fun v q => by rw [d] at q; cases q⟩
  | t a => obtain ⟨o, e, _, d⟩ := st; exact ⟨o, e, fun v q => by rw [d] at q; cases q⟩
  | s z => obtain ⟨t, o, e, _, d⟩ := st; exact ⟨o, e, fun v q => by rw [d] at q; cases q⟩
theorem has_inj {S : Src} (I : Inv X pins σ H s) {xs ys : List V} (h1 : S.has X.K xs H) (h2 : S.has X.K ys H) : xs = ys := by
  cases S with
  | l a => exact I.list_inj h1 h2
  | t a => exact I.tuple_inj h1 h2
  | s z => exact h1.trans h2.symm
theorem nn {a b : Nat} (h : a ≠ b) : @Ne Addr a b := h
theorem ee {a b : Addr} (h : a = b) : @Eq Nat a b := h
abbrev fpG (n : Nat) : List Addr := [n + 4, n + 2, n + 3, n, n + 1]
theorem turn_zipG {P : Program} {w : World} {K : PySem.W.Frag} {elts : List Expr} {kk : Nat} {tpos : Pos} {n : Nat} {S1 S2 : Src} (l1 : S1.low n) (l2 : S2.low n) :
    Turn P w K (.Tuple elts kk tpos) (ItG K S1 S2) (fpG n) (n + 4) (fun i h => IsZip h (n + 4) (n + 2) (n + 3) .none ∧ IsTupOf2 h (n + 2) (.ref n) (.ref (n + 1)) ∧ (∃ x y, IsTupOf2 h (n + 3) x y) ∧ S1.it n i h ∧ S2.it (n + 1) i h) where
  mem := by simp
  obj := fun i h st c hc => by
    obtain ⟨hz, hTI, ⟨x, y, hTO⟩, h1, h2⟩ := st
    have e' : c = n + 4 ∨ c = n + 2 ∨ c = n + 3 ∨ c = n ∨ c = n + 1 := by simpa using hc
    rcases e' with q | q | q | q | q
    · rw [q]; exact ⟨_, hz, fun v q => nomatch q⟩
    · rw [q]; exact ⟨_, hTI, fun v q => nomatch q⟩
    · rw [q]; exact ⟨_, hTO, fun v q => nomatch q⟩
    · rw [q]; exact src_obj h1
    · rw [q]; exact src_obj h2
  keep := fun i h h' st k => by
    obtain ⟨hz, hTI, ⟨x, y, hTO⟩, h1, h2⟩ := st
    exact ⟨k _ (by simp) _ hz, k _ (by simp) _ hTI, ⟨x, y, k _ (by simp) _ hTO⟩, src_it h1 fun o q => k n (by simp) o q, src_it h2 fun o q => k (n + 1) (by simp) o q⟩
  item := by
    intro X hP hw hK hc i pins s σ H E I hf st hg
    subst hP hw hK
    obtain ⟨hz, hTI, ⟨x0, y0, hTO⟩, h1, h2⟩ := st
    obtain ⟨xs, ys, hx, hy, lx, ly⟩ := hg
    have hh : X.A.in1.handled = none := I.ok.hd hc
    obtain ⟨fp1, P1, St1, D1, s1, back1, m1, f1, r1⟩ := src_draw hh S1 I h1 l1 (Nat.le_refl _) hx
    obtain ⟨fp2, P2, St2, D2, s2, back2, m2, f2, r2⟩ := src_draw hh S2 I h2 l2 (Nat.le_succ _) hy
    have no1 : ∀ c : Nat, n < c → c ∉ fp1 := fun c hc hm => by
      rcases f1 c hm with e | e
      · have := ee e
        omega
      · have e : (c : Nat) < n := e
        omega
    have no2 : ∀ c : Nat, n ≤ c → c ≠ n + 1 → c ∉ fp2 := fun c hc hn hm => by
      rcases f2 c hm with e | e
      · exact hn e
      · have e : (c : Nat) < n := e
        omega
    have S : ZipSep2 (n + 4) (n + 2) (n + 3) n (n + 1) fp1 fp2 := ⟨nn (by omega), nn (by omega), nn (by omega), nn (by omega), m1, no1 (n + 4) (by omega), no1 (n + 3) (by omega), nn (by omega), m2, no2 (n + 4) (by omega) (by omega), no2 (n + 3) (by omega) (by omega), no2 n (by omega) (by omega), no1 (n + 1) (by omega)⟩
    have hzl : n + 4 < s.heap.objs.size := Heap.lt_size hz
    refine wpAny_pyNext_zipD2_item S D1 D2 hz hTI hTO s1 s2 lx ly fun u u2 h' tk p1 p2 z' TO' h1' h2' hT hsz hk => ?_
    obtain ⟨x, ex, ru⟩ := r1 _ _ p1
    obtain ⟨y, ey, ru2⟩ := r2 _ _ p2
    refine ⟨_, rfl, wpAny_letOwnedTupleGo_zip (s := { s with heap := h', toks := tk }) z' fun h'' z'' sb => ?_⟩
    have hT2 : h''.get? s.heap.objs.size = some { cls := .type "tuple", data := .seq #[u, u2] } := (sb.2 _ (Nat.ne_of_gt hzl)).trans hT
    have new : ObjOk X.prog X.w (upd H s.heap.objs.size (.tup [x, y])) h'' s.heap.objs.size (.tup [x, y]) :=
      ⟨by show 2 ≤ sizeLine; decide, [u, u2], .cons ru (.cons ru2 .nil), ⟨_, hT2, rfl, _, rfl⟩⟩
    have I1 : Inv X pins σ (upd H s.heap.objs.size (.tup [x, y])) { s with heap := h'', toks := tk } :=
      I.turnedNew (t' := tk) (ch := fpG n) (fun c o hb q => (sb.2 c (fun q' => hb (by simp [q']))).trans (hk c o (fun q' => hb (by simp [q'])) (fun q' => hb (by simp [q'])) (fun q' => hb (by simp [q'])) (fun q' => hb (by simp [q'])) q)) hf (Nat.le_refl _) new
    refine ⟨.ref s.heap.objs.size, _, I1, rfl, ⟨_, x, y, rfl, I.hok.fresh (Nat.le_refl _), rfl, fun l hl => by rw [has_inj I hl hx]; exact ex, fun l hl => by rw [has_inj I hl hy]; exact ey⟩, ⟨z'', ?_, ⟨u, u2, ?_⟩, ?_, ?_⟩, fun c hcm => ?_⟩
    · exact (sb.2 _ (nn (by omega))).trans (hk _ _ (nn (by omega)) (nn (by omega)) (nn (by omega)) (nn (by omega)) hTI)
    · exact (sb.2 _ (nn (by omega))).trans TO'
    · exact src_it (back1 _ _ h1') fun o q => (sb.2 _ (nn (by omega))).trans q
    · exact src_it (back2 _ _ h2') fun o q => (sb.2 _ (nn (by omega))).trans q
    · have hlt : c < s.heap.objs.size := by
        have e' : @Eq Nat c (n + 4) ∨ @Eq Nat c (n + 2) ∨ @Eq Nat c (n + 3) ∨ @Eq Nat c n ∨ @Eq Nat c (n + 1) := by simpa using hcm
        have go : ∀ k : Nat, k ≤ 4 → @Eq Nat c (n + k) → c < s.heap.objs.size := fun k hk e => Nat.lt_of_le_of_lt (Nat.le_trans (Nat.le_of_eq e) (Nat.add_le_add_left hk n)) hzl
        rcases e' with e | e | e | e | e
        · exact go 4 (by decide) e
        · exact go 2 (by decide) e
        · exact go 3 (by decide) e
        · exact go 0 (by decide) e
        · exact go 1 (by decide) e
      rw [upd_ne (Nat.ne_of_lt hlt)]
      exact (hf c hcm).1
  done := by
    intro X hP hw hK hc i pins s σ H E I hf st hg
    subst hP hw hK
    obtain ⟨hz, hTI, ⟨x0, y0, hTO⟩, h1, h2⟩ := st
    obtain ⟨xs, ys, hx, hy, lx, ly, he⟩ := hg
    have hh : X.A.in1.handled = none := I.ok.hd hc
    obtain ⟨fp1, P1, St1, D1, s1, back1, m1, f1, r1⟩ := src_draw hh S1 I h1 l1 (Nat.le_refl _) hx
    obtain ⟨fp2, P2, St2, D2, s2, back2, m2, f2, r2⟩ := src_draw hh S2 I h2 l2 (Nat.le_succ _) hy
    have no1 : ∀ c : Nat, n < c → c ∉ fp1 := fun c hc hm => by
      rcases f1 c hm with e | e
      · have := ee e
        omega
      · have e : (c : Nat) < n := e
        omega
    have no2 : ∀ c : Nat, n ≤ c → c ≠ n + 1 → c ∉ fp2 := fun c hc hn hm => by
      rcases f2 c hm with e | e
      · exact hn e
      · have e : (c : Nat) < n := e
        omega
    have S : ZipSep2 (n + 4) (n + 2) (n + 3) n (n + 1) fp1 fp2 := ⟨nn (by omega), nn (by omega), nn (by omega), nn (by omega), m1, no1 (n + 4) (by omega), no1 (n + 3) (by omega), nn (by omega), m2, no2 (n + 4) (by omega) (by omega), no2 (n + 3) (by omega) (by omega), no2 n (by omega) (by omega), no1 (n + 1) (by omega)⟩
    exact wpAny_pyNext_zipD2_end S D1 D2 hz hTI hTO s1 s2 lx ly he fun h' tk hk => ⟨rfl, I.turnedL (t' := tk) (ch := fpG n) (fun c o hb q =>
      hk c o (fun q' => hb (by simp [q'])) (fun q' => hb (by simp [q'])) (fun q' => hb (by simp [q'])) (fun q' => hb (by simp [q'])) q) hf⟩
  self := fun A i s Q E st h => wpAny_pyIter_zip st.1 h
def iZipG (K : PySem.W.Frag) (ta : TA) : TI := fun σ H R => ta σ H fun vs H1 => ∃ (S1 S2 : Src) (xs ys : List V), vs = [S1.v, S2.v] ∧ S1.has K xs H1 ∧ S2.has K ys H1 ∧ R (ItG K S1 S2) H1
theorem src_begin (S : Src) (I : Inv X pins σ H s) {xs : List V} {u : Value} (h : S.has X.K xs H) (r : RelV S.v u) :
    ∃ (o : Obj) (Hp0 : Heap → Prop), Begins u o Hp0 ∧ Hp0 s.heap ∧ S.low s.heap.objs.size ∧ ∀ (h' : Heap) (it : Addr), h'.get? it = some o → S.it it 0 h' := by
  cases S with
  | l a =>
    obtain ⟨its, rv, p, _⟩ := I.list h
    cases r
    exact ⟨_, _, begins_list a its.toArray, p.isList, p.lt, fun h' it e => ⟨_, e, rfl, rfl⟩⟩
  | t a =>
    obtain ⟨its, rv, p, _⟩ := I.tuple h
    cases r
    exact ⟨_, _, begins_tuple a its.toArray, p, p.lt, fun h' it e => ⟨_, e, rfl, rfl⟩⟩
  | s z =>
    obtain ⟨t, rfl⟩ := r
    exact ⟨_, _, begins_text z t, trivial, trivial, fun h' it e => ⟨t, _, e, rfl, rfl⟩⟩
theorem pi_zipG {X : Cx} {e e2 : Expr} {ta : TA} {p pos tpos : Pos} {elts : List Expr} {kk : Nat} (hg : Gl X "zip") (hm : X.mg "zip" = none) (ha : PA X [e, e2] ta)
    (hs : starEach [e, e2] X.env = (false, eval e X.env) :: starEach [e2] X.env := by rfl) (hpl : (backTo pos (starEach [e2] X.env)).any (·.1) = false := by rfl) :
    PI X (.Tuple elts kk tpos) (.Call (.Name "zip" p) [e, e2] [] pos) (iZipG X.K ta) := by
  refine ⟨fun pins s σ H R I h => ?_⟩
  refine Call_ (ld_blt I hg hm PyProof.Rows.boot_zip (PyProof.Rows.callWith_type1 (thn (ha.run pos pins s σ H _ I h) fun us s1 ⟨vs, H1, I1, r1, q1⟩ => ?_) hs hpl))
  obtain ⟨S1, S2, xs, ys, ex, hx, hy, q⟩ := q1
  subst ex
  cases r1 with
  | cons r rr =>
    cases rr with
    | cons r' rr =>
      cases rr
      obtain ⟨o1, G1, B1, g1, low1, b1⟩ := src_begin S1 I1 hx r
      obtain ⟨o2, G2, B2, g2, low2, b2⟩ := src_begin S2 I1 hy r'
      have fresh5 : ∀ c, c ∈ fpG s1.heap.objs.size → FpOk X pins H1 c := fun c hcm => by
        have e' : @Eq Nat c (s1.heap.objs.size + 4) ∨ @Eq Nat c (s1.heap.objs.size + 2) ∨ @Eq Nat c (s1.heap.objs.size + 3) ∨ @Eq Nat c s1.heap.objs.size ∨ @Eq Nat c (s1.heap.objs.size + 1) := by simpa using hcm
        have go : ∀ k : Nat, @Eq Nat c (s1.heap.objs.size + k) → s1.heap.objs.size ≤ c := fun k e => Nat.le_trans (Nat.le_add_right _ k) (Nat.le_of_eq e.symm)
        have hle : s1.heap.objs.size ≤ c := by
          rcases e' with e | e | e | e | e
          · exact go 4 e
          · exact go 2 e
          · exact go 3 e
          · exact go 0 e
          · exact go 1 e
        exact I1.fpOk hle (I1.hok.fresh hle)
      refine zip_begins2 B1 B2 g1 g2 fun h' hz hTI hTO h1 h2 hsz hk => wpAny_pyIter_zip hz ?_
      have I2 : Inv X pins σ H1 { s1 with heap := h' } := I1.kept (t' := s1.toks) hk
      exact ⟨s1.heap.objs.size + 4, fpG s1.heap.objs.size, _, _, H1, rfl, I2, turn_zipG low1 low2, ⟨hz, hTI, ⟨_, _, hTO⟩, b1 _ _ h1, b2 _ _ h2⟩, fresh5, q⟩
theorem walk_zipG {K : PySem.W.Frag} {S1 S2 : Src} {xs ys : List V} {n : Nat} (hn : n = min xs.length ys.length) : Walk (ItG K S1 S2) n (fun H => S1.has K xs H ∧ S2.has K ys H) (YPair (fun i => xs[i]?) (fun i => ys[i]?)) where
  goes := fun i H hi h => ⟨xs, ys, h.1, h.2, by omega, by omega⟩
  stops := fun H h => ⟨xs, ys, h.1, h.2, by omega, by omega, by omega⟩
  yields := fun i H v H' hi h ⟨T, x, y, e1, e2, e3, e4, e5⟩ => ⟨T, x, y, e1, e2, e3, e4 xs h.1, e5 ys h.2⟩
end
end ZipG

/-! Sqs: lists and tuples alike as what is walked; comprehensions whose items leave what stands. -/
namespace B5
open PySem PySem.Spec PyProof.Rows L2 Gd
/-- what stands at a stands there still -/
def Kept (a : Addr) (H H' : Hp) : Prop := ∀ o, H a = some o → H' a = some o
theorem Kept.sqL {K : PySem.W.Frag} {H H' : Hp} {a : Addr} {xs : List V} (e : Kept a H H') : SqL K H a xs → SqL K H' a xs
  | .inl (.inl h) => .inl (.inl (e _ h))
  | .inl (.inr ⟨o, h⟩) => .inl (.inr ⟨o, e _ h⟩)
  | .inr h => .inr h
theorem Kept.sqT {K : PySem.W.Frag} {H H' : Hp} {a : Addr} {xs : List V} (e : Kept a H H') : SqT K H a xs → SqT K H' a xs
  | .inl (.inl h) => .inl (.inl (e _ h))
  | .inl (.inr ⟨o, h⟩) => .inl (.inr ⟨o, e _ h⟩)
  | .inr h => .inr h
theorem Kept.sq {K : PySem.W.Frag} {H H' : Hp} {a : Addr} {xs : List V} (e : Kept a H H') : Sq K H a xs → Sq K H' a xs
  | .inl h => .inl (e.sqL h)
  | .inr h => .inr (e.sqT h)
theorem Kept.of {a : Addr} {H H' : Hp} (m : More H H') : Kept a H H' := fun o h => m a o h
/-- a list or a tuple is walked -/
def iSq (K : PySem.W.Frag) (te : TE) : TI := fun σ H R => te σ H fun v H1 => ∃ a xs, v = .ref a ∧ Sq K H1 a xs ∧
  ∀ (J : It) (Z : Hp → Prop), Walk J xs.length Z (YAt xs) → (∀ H', Kept a H1 H' → Z H') → R J H1
theorem pi_sq {X : Cx} {K : PySem.W.Frag} {tg e : Expr} {te : TE} (hK : X.K = K) (h : PE X e te) : PI X tg e (iSq K te) := by
  subst hK
  refine ⟨fun pins s σ H R I q => ?_⟩
  refine thn (h.run pins s σ H _ I q) fun v s1 ⟨x, H1, I1, r1, q1⟩ => ?_
  obtain ⟨a, xs, e, hq, q⟩ := q1
  subst e
  cases r1
  rcases hq with hq | hq
  · obtain ⟨its, rv, p, hz⟩ := I1.list hq
    refine wpAny_pyIter_list p.isList ?_
    refine ⟨s1.heap.objs.size, [s1.heap.objs.size], _, _, H1, rfl, I1.kept (t' := s1.toks) fun b o e => Heap.get?_push_of_some _ e, turn_list a _, ⟨_, Heap.get?_push_size _ rfl, rfl, rfl⟩, fun b hb => ?_, q _ _ walk_list fun H' k => k.sqL hq⟩
    have e : b = s1.heap.objs.size := by simpa using hb
    subst e
    exact I1.fpOk (Nat.le_refl _) (I1.hok.fresh (Nat.le_refl _))
  · obtain ⟨its, rv, p, hz⟩ := I1.tuple hq
    refine wpAny_pyIter_tuple (show s1.heap.IsTuple a its.toArray from p) ?_
    refine ⟨s1.heap.objs.size, [s1.heap.objs.size], _, _, H1, rfl, I1.kept (t' := s1.toks) fun b o e => Heap.get?_push_of_some _ e, turn_tuple a _, ⟨_, Heap.get?_push_size _ rfl, rfl, rfl⟩, fun b hb => ?_, q _ _ walk_tup fun H' k => k.sqT hq⟩
    have e : b = s1.heap.objs.size := by simpa using hb
    subst e
    exact I1.fpOk (Nat.le_refl _) (I1.hok.fresh (Nat.le_refl _))
/-- a comprehension without tests over it: each item's value is known, what stands ahead stays -/
theorem lc_pure {J : It} {Z : Hp → Prop} {xs rs : List V} (w : Walk J xs.length Z (YAt xs)) {g : TG} {te : TE} {vs : List Nat} {σ : L2.St} {H1 : Hp} {D : Addr} {Qd : Hp → Prop}
    (hD : H1 D = none) (hZ : ∀ H', More H1 H' → Z H') (hl : rs.length = xs.length) (few : xs.length ≤ 16777215)
    (el : ∀ (i : Nat) (y v : V) (H2 : Hp) (Q : VK), xs[i]? = some y → rs[i]? = some v → More H1 H2 → (∀ H3, More H2 H3 → Q v H3) → g y (wipe σ vs) H2 fun σ2 H3 => wipe σ2 vs = wipe σ vs ∧ te σ2 H3 Q)
    (mo : ∀ y σ' H2 (A B : L2.St → Hp → Prop), (∀ σ2 H3, A σ2 H3 → B σ2 H3) → g y σ' H2 A → g y σ' H2 B)
    (hd : ∀ H', H' D = some (.lst rs) → More H1 H' → Qd H') :
    ∃ W : Nat → Nat → Hp → Prop, (∃ m, W 0 m (upd H1 D (.lst []))) ∧ ∀ i m H, W i m H →
    (J.stop i H ∧ Qd H) ∨ (J.go i H ∧ ∃ Nx : Hp → Prop, (∀ H', Nx H' → ∃ m', m' < m ∧ W (i + 1) m' H') ∧ ∀ x H', J.yld i H x H' → g x (wipe σ vs) H' fun σ2 H2 => wipe σ2 vs = wipe σ vs ∧ tYes σ2 H2 fun b H3 =>
      if b = true then te σ2 H3 fun y H4 => ∃ acc, H4 D = some (.lst acc) ∧ acc.length < sizeLine ∧ Nx (upd H4 D (.lst (acc ++ [y]))) else Nx H3) := by
  refine lc_it (H1 := H1) (D := D) (Qd := Qd) w (fun i H' => H' D = some (.lst (rs.take i)) ∧ More H1 H') ⟨upd_same, More.new (fun _ _ e => e) hD⟩ (fun i H' _ h => hZ H' h.2) ?_ ?_
  · rintro i y H2 H3 hi ⟨h2, m2⟩ ⟨rfl, hy⟩
    have hv : rs[i]? = some rs[i] := List.getElem?_eq_getElem (by omega)
    refine mo _ _ _ _ _ (fun σ2 H4 q => q) (el i y rs[i] H3 (fun y H4 => ∃ acc, H4 D = some (.lst acc) ∧ acc.length < sizeLine ∧ (upd H4 D (.lst (acc ++ [y]))) D = some (.lst (rs.take (i + 1))) ∧ More H1 (upd H4 D (.lst (acc ++ [y])))) hy hv m2 fun H4 m4 => ⟨_, m4 _ _ h2, ?_, ?_, ?_⟩)
    · rw [List.length_take, sizeLine_eq]
      omega
    · rw [upd_same, take_snoc hv]
    · exact More.at (fun b o e => m4 b o (m2 b o e)) hD
  · rintro H' ⟨e, m⟩
    rw [← hl, List.take_length] at e
    exact hd H' e m
/-- the same for one name as the target -/
theorem lc_name {J : It} {Z : Hp → Prop} {xs rs : List V} (w : Walk J xs.length Z (YAt xs)) {n : Nat} {te : TE} {vs : List Nat} {σ : L2.St} {H1 : Hp} {D : Addr} {Qd : Hp → Prop}
    (hD : H1 D = none) (hZ : ∀ H', More H1 H' → Z H') (hl : rs.length = xs.length) (few : xs.length ≤ 16777215)
    (hw : ∀ y, wipe ((wipe σ vs).set n (some y)) vs = wipe σ vs)
    (el : ∀ (i : Nat) (y v : V) (H2 : Hp) (Q : VK), xs[i]? = some y → rs[i]? = some v → More H1 H2 → (∀ H3, More H2 H3 → Q v H3) → te ((wipe σ vs).set n (some y)) H2 Q)
    (hd : ∀ H', H' D = some (.lst rs) → More H1 H' → Qd H') :
    ∃ W : Nat → Nat → Hp → Prop, (∃ m, W 0 m (upd H1 D (.lst []))) ∧ ∀ i m H, W i m H →
    (J.stop i H ∧ Qd H) ∨ (J.go i H ∧ ∃ Nx : Hp → Prop, (∀ H', Nx H' → ∃ m', m' < m ∧ W (i + 1) m' H') ∧ ∀ x H', J.yld i H x H' → gName n x (wipe σ vs) H' fun σ2 H2 => wipe σ2 vs = wipe σ vs ∧ tYes σ2 H2 fun b H3 =>
      if b = true then te σ2 H3 fun y H4 => ∃ acc, H4 D = some (.lst acc) ∧ acc.length < sizeLine ∧ Nx (upd H4 D (.lst (acc ++ [y]))) else Nx H3) :=
  lc_pure w hD hZ hl few (fun i y v H2 Q h1 h2 m h3 => ⟨hw y, el i y v H2 Q h1 h2 m h3⟩) (fun _ _ _ _ _ h q => h _ _ q) hd
end B5

/-! Dat: rows of ints and tuples of such as data; pairs of lists; comprehensions that make objects. -/
namespace B5
open PySem L2 Gd
theorem paired_at {α β : Type} {R : α → β → Prop} : ∀ {xs : List α} {l : List β}, Paired R xs l → ∀ {i : Nat} {y : α}, xs[i]? = some y → ∃ e, l[i]? = some e ∧ R y e
  | _, _, .nil, i, y, h => by rw [List.getElem?_nil] at h; cases h
  | _, _, .cons h t, 0, y, e => by cases e; exact ⟨_, rfl, h⟩
  | _, _, .cons h t, i + 1, y, e => by
    rw [List.getElem?_cons_succ] at e
    obtain ⟨z, h1, h2⟩ := paired_at t e
    exact ⟨z, by rw [List.getElem?_cons_succ]; exact h1, h2⟩
theorem paired_back {α β : Type} {R : α → β → Prop} : ∀ {xs : List α} {l : List β}, Paired R xs l → ∀ e ∈ l, ∃ y ∈ xs, R y e
  | _, _, .nil, e, h => nomatch h
  | _, _, .cons h t, e, he => by
    rcases List.mem_cons.mp he with rfl | he
    · exact ⟨_, .head _, h⟩
    · obtain ⟨y, hy, r⟩ := paired_back t e he
      exact ⟨y, .tail _ hy, r⟩
theorem paired_imp {α β : Type} {R S : α → β → Prop} (h : ∀ x y, R x y → S x y) : ∀ {xs : List α} {l : List β}, Paired R xs l → Paired S xs l
  | _, _, .nil => .nil
  | _, _, .cons a t => .cons (h _ _ a) (paired_imp h t)
theorem paired_snoc {α β : Type} {R : α → β → Prop} {x : α} {y : β} (h : R x y) : ∀ {xs : List α} {l : List β}, Paired R xs l → Paired R (xs ++ [x]) (l ++ [y])
  | _, _, .nil => .cons h .nil
  | _, _, .cons a t => .cons a (paired_snoc h t)
/-- by places -/
theorem paired_of {α β : Type} {R : α → β → Prop} : ∀ {xs : List α} {l : List β}, xs.length = l.length → (∀ (i : Nat) x y, xs[i]? = some x → l[i]? = some y → R x y) → Paired R xs l
  | [], [], _, _ => .nil
  | [], _ :: _, h, _ => by cases h
  | _ :: _, [], h, _ => by cases h
  | x :: xs, y :: l, h, e => .cons (e 0 x y rfl rfl) (paired_of (Nat.succ.inj h) fun i a b ha hb => e (i + 1) a b ha hb)
theorem map_at {α β : Type} {f : α → β} {l : List α} {i : Nat} {v : β} (h : (l.map f)[i]? = some v) : ∃ d, l[i]? = some d ∧ v = f d := by
  rw [List.getElem?_map] at h
  cases e : l[i]? with
  | none => rw [e] at h; cases h
  | some d => rw [e] at h; exact ⟨d, rfl, (Option.some.inj h).symm⟩
theorem at_map {α β : Type} {f : α → β} {l : List α} {i : Nat} {d : α} (h : l[i]? = some d) : (l.map f)[i]? = some (f d) := by
  rw [List.getElem?_map, h]
  rfl
theorem at_getD {α : Type} {l : List α} {i : Nat} (h : i < l.length) (d : α) : l[i]? = some (l.getD i d) := by
  rw [List.getD_eq_getElem?_getD, List.getElem?_eq_getElem h]
  rfl
theorem getD_of {α : Type} {l : List α} {i : Nat} {x : α} (h : l[i]? = some x) (d : α) : l.getD i d = x := by
  rw [List.getD_eq_getElem?_getD, h]
  rfl
/-! ### data -/
def dI (k : List Int) : PyData := .tuple (k.map .int)
def dR (l : List (List Int)) : PyData := .tuple (l.map dI)
theorem lay_ints : ∀ k : List Int, PyData.canLayAll0 (k.map .int) = true
  | [] => by simp [PyData.canLayAll0]
  | x :: k => by
    rw [List.map_cons]
    simp only [PyData.canLayAll0, PyData.canLay0, lay_ints k, Bool.and_self]
theorem lay_rows : ∀ l : List (List Int), PyData.canLayAll0 (l.map dI) = true
  | [] => by simp [PyData.canLayAll0]
  | e :: l => by
    rw [List.map_cons]
    simp only [PyData.canLayAll0, dI, PyData.canLay0, lay_ints, lay_rows l, Bool.and_self]
theorem dep_ints : ∀ k : List Int, PyData.depthAll (k.map .int) = 0
  | [] => by simp [PyData.depthAll]
  | x :: k => by
    rw [List.map_cons]
    simp [PyData.depthAll, PyData.depth, dep_ints k]
theorem dep_rows : ∀ l : List (List Int), PyData.depthAll (l.map dI) ≤ 1
  | [] => by simp [PyData.depthAll]
  | e :: l => by
    have := dep_rows l
    rw [List.map_cons]
    simp only [PyData.depthAll, dI, PyData.depth, dep_ints]
    omega
theorem shaped_I (k : List Int) : SeqAt.shaped (dI k) = true := by
  unfold SeqAt.shaped dI
  simp only [PyData.canLay0, lay_ints, PyData.depth, dep_ints]
  decide
theorem shaped_R (l : List (List Int)) : SeqAt.shaped (dR l) = true := by
  unfold SeqAt.shaped
  have := dep_rows l
  have e : (dR l).canLay0 = true := by unfold dR; simp only [PyData.canLay0, lay_rows]
  rw [e, Bool.true_and, decide_eq_true_eq]
  unfold dR
  simp only [PyData.depth]
  omega
theorem eqvAll_ints : ∀ a b : List Int, PyData.eqvAll (a.map .int) (b.map .int) = decide (a = b)
  | [], [] => by simp [PyData.eqvAll]
  | [], _ :: _ => by simp [PyData.eqvAll]
  | _ :: _, [] => by simp [PyData.eqvAll]
  | x :: a, y :: b => by
    rw [List.map_cons, List.map_cons]
    simp only [PyData.eqvAll, PyData.eqv, eqvAll_ints a b, List.cons.injEq]
    by_cases e : x = y <;> by_cases f : a = b <;> simp [e, f]
theorem eqv_I (a b : List Int) : PyData.eqv (dI a) (dI b) = decide (a = b) := by
  unfold dI
  simp only [PyData.eqv, eqvAll_ints]
theorem eqvAll_rows : ∀ a b : List (List Int), PyData.eqvAll (a.map dI) (b.map dI) = decide (a = b)
  | [], [] => by simp [PyData.eqvAll]
  | [], _ :: _ => by simp [PyData.eqvAll]
  | _ :: _, [] => by simp [PyData.eqvAll]
  | x :: a, y :: b => by
    rw [List.map_cons, List.map_cons]
    simp only [PyData.eqvAll, eqv_I, eqvAll_rows a b, List.cons.injEq]
    by_cases e : x = y <;> by_cases f : a = b <;> simp [e, f]
theorem eqv_R (a b : List (List Int)) : PyData.eqv (dR a) (dR b) = decide (a = b) := by
  unfold dR
  simp only [PyData.eqv, eqvAll_rows]
theorem dp_ints {K : PySem.W.Frag} {H : Hp} : ∀ k : List Int, DpAll K H (k.map V.int) (k.map .int)
  | [] => .nil
  | x :: k => .cons (.int x) (dp_ints k)
theorem dp_I {K : PySem.W.Frag} {H : Hp} {t : Addr} {k : List Int} (h : SqT K H t (k.map V.int)) : Dp K H (.ref t) (dI k) := .tup h (dp_ints k)
/-- x is a tuple of the ints k -/
def TupI (K : PySem.W.Frag) (H : Hp) (x : V) (k : List Int) : Prop := ∃ b, x = .ref b ∧ SqT K H b (k.map V.int)
theorem TupI.more {K : PySem.W.Frag} {H H' : Hp} {x : V} {k : List Int} (m : More H H') (h : B5.TupI K H x k) : B5.TupI K H' x k := let ⟨b, e, s⟩ := h; ⟨b, e, sqT_more m s⟩
theorem dp_rows {K : PySem.W.Frag} {H : Hp} : ∀ {xs : List V} {l : List (List Int)}, Paired (B5.TupI K H) xs l → DpAll K H xs (l.map dI)
  | _, _, .nil => .nil
  | _, _, .cons ⟨b, e, s⟩ t => by subst e; exact .cons (dp_I s) (dp_rows t)
theorem dp_R {K : PySem.W.Frag} {H : Hp} {t : Addr} {xs : List V} {l : List (List Int)} (h : SqT K H t xs) (r : Paired (B5.TupI K H) xs l) : Dp K H (.ref t) (dR l) := .tup h (dp_rows r)
def rTof (K : PySem.W.Frag) : List V → Hp → VK → Prop := fun xs H Q => ∃ p ys, xs = [.ref p] ∧ ((SqL K H p ys ∧ ∀ l, H l = none → Q (.ref l) (upd H l (.tup ys))) ∨ (SqT K H p ys ∧ Q (.ref p) H))
theorem call_tof {X : Cx} {K : PySem.W.Frag} (hK : X.K = K) : CallR X (.type "tuple") (rTof K) := by
  subst hK
  exact call_tuple_of
def rLof (K : PySem.W.Frag) : List V → Hp → VK → Prop := fun xs H Q => ∃ p ys, xs = [.ref p] ∧ (SqL K H p ys ∨ SqT K H p ys) ∧ ∀ l, H l = none → Q (.ref l) (upd H l (.lst ys))
theorem call_lof {X : Cx} {K : PySem.W.Frag} (hK : X.K = K) : CallR X (.type "list") (rLof K) := by
  subst hK
  exact call_list_of
/-! ### comprehensions whose items are new objects -/
theorem lc_rel {J : It} {Z : Hp → Prop} {xs : List V} (w : Walk J xs.length Z (YAt xs)) {n : Nat} {te : TE} {vs : List Nat} {σ : L2.St} {H1 : Hp} {D : Addr} {Qd : Hp → Prop} (R : Nat → V → Hp → Prop)
    (mono : ∀ i v H H', More H H' → R i v H → R i v H') (hD : H1 D = none) (hZ : ∀ H', More H1 H' → Z H') (few : xs.length ≤ 16777215)
    (hw : ∀ y, wipe ((wipe σ vs).set n (some y)) vs = wipe σ vs)
    (el : ∀ (i : Nat) (y : V) (H2 : Hp) (Q : VK), xs[i]? = some y → More H1 H2 → More H1 (del H2 D) → (∃ l, H2 D = some (.lst l)) → (∀ v H3, More H2 H3 → R i v (del H3 D) → Q v H3) → te ((wipe σ vs).set n (some y)) H2 Q)
    (hd : ∀ H' G rs, rs.length = xs.length → More H1 G → More G H' → G D = none → (∀ (i : Nat) v, rs[i]? = some v → R i v G) → H' D = some (.lst rs) → Qd H') :
    ∃ W : Nat → Nat → Hp → Prop, (∃ m, W 0 m (upd H1 D (.lst []))) ∧ ∀ i m H, W i m H →
    (J.stop i H ∧ Qd H) ∨ (J.go i H ∧ ∃ Nx : Hp → Prop, (∀ H', Nx H' → ∃ m', m' < m ∧ W (i + 1) m' H') ∧ ∀ x H', J.yld i H x H' → gName n x (wipe σ vs) H' fun σ2 H2 => wipe σ2 vs = wipe σ vs ∧ tYes σ2 H2 fun b H3 =>
      if b = true then te σ2 H3 fun y H4 => ∃ acc, H4 D = some (.lst acc) ∧ acc.length < sizeLine ∧ Nx (upd H4 D (.lst (acc ++ [y]))) else Nx H3) := by
  have dm : ∀ {H H' : Hp}, More H H' → More (del H D) (del H' D) := fun {H H'} m b o e => by
    by_cases z : b = D
    · rw [z, del_same] at e
      cases e
    · rw [del_ne z] at e ⊢
      exact m b o e
  have d1 : ∀ {H : Hp}, More H1 H → More H1 (del H D) := fun {H} m b o e => by
    rw [del_ne (ne_of_none e hD)]
    exact m b o e
  have dd : ∀ {H : Hp} {o : HO}, del (upd H D o) D = del H D := fun {H o} => by
    funext b
    by_cases z : b = D
    · rw [z, del_same, del_same]
    · rw [del_ne z, del_ne z, upd_ne z]
  refine lc_it (H1 := H1) (D := D) (Qd := Qd) w (fun i H' => ∃ rs, rs.length = i ∧ H' D = some (.lst rs) ∧ More H1 H' ∧ ∀ (j : Nat) v, rs[j]? = some v → R j v (del H' D))
    ⟨[], rfl, upd_same, More.new (fun _ _ e => e) hD, fun j v e => by rw [List.getElem?_nil] at e; cases e⟩ (fun i H' _ h => hZ H' h.choose_spec.2.2.1) ?_ ?_
  · rintro i y H2 H3 hi ⟨rs, rl, h2, m2, al⟩ ⟨rfl, hy⟩
    refine ⟨hw y, el i y H3 (fun v H4 => ∃ acc, H4 D = some (.lst acc) ∧ acc.length < sizeLine ∧ ∃ rs, rs.length = i + 1 ∧ (upd H4 D (.lst (acc ++ [v]))) D = some (.lst rs) ∧ More H1 (upd H4 D (.lst (acc ++ [v]))) ∧ ∀ (j : Nat) x, rs[j]? = some x → R j x (del (upd H4 D (.lst (acc ++ [v]))) D)) hy m2 (d1 m2) ⟨_, h2⟩ fun v H4 m4 r => ?_⟩
    refine ⟨rs, m4 _ _ h2, by rw [sizeLine_eq]; omega, rs ++ [v], by rw [List.length_append, rl]; rfl, upd_same, More.at (fun b o e => m4 b o (m2 b o e)) hD, fun j x hx => ?_⟩
    rw [dd]
    by_cases z : j < rs.length
    · rw [List.getElem?_append_left z] at hx
      exact mono _ _ _ _ (dm m4) (al j x hx)
    · have lt : j < rs.length + 1 := by
        have := (List.getElem?_eq_some_iff.mp hx).1
        rw [List.length_append] at this
        exact this
      have ej : j = rs.length := by omega
      subst ej
      rw [List.getElem?_append_right (Nat.le_refl _), Nat.sub_self] at hx
      cases hx
      rw [rl]
      exact r
  · rintro H' ⟨rs, rl, h2, m2, al⟩
    refine hd H' (del H' D) rs rl (d1 m2) (fun b o e => ?_) del_same al h2
    by_cases z : b = D
    · rw [z, del_same] at e
      cases e
    · rw [del_ne z] at e
      exact e
end B5

namespace L2
open PySem PySem.Spec PyProof.Rows
/-! ### x == y, x != y by an own __eq__ of the class of x -/
section
variable {X : Cx} {CX : CXT} {C f : Addr} {fd : FuncData} {ps : List Str} {sp : Sp} {n : Nat} {E : XK}
def OthT (K : PySem.W.Frag) (H : Hp) (C : Addr) (y : V) (t : Value) : Prop := TyX K H y t ∨ ∃ b dy gs, y = .ref b ∧ H b = some (.ins C dy gs) ∧ t = .ref C
def rOwnE (K : PySem.W.Frag) (C : Addr) (sp : Sp) (E : XK) : R2 := fun x y H Q => ∃ a dx fs t, x = .ref a ∧ H a = some (.ins C dx fs) ∧ OthT K H C y t ∧ PySem.W.notFirst K C t = true ∧ sp [x, y] H Q E
theorem oth_looks {pins : List (Addr × Obj)} {σ : L2.St} {H : Hp} {s : Shared} {y : V} {u t : Value} (I : Inv X pins σ H s) (ry : RelV y u) (o : OthT X.K H C y t) : PySem.W.Looks (model X.prog X.w) s.heap (typeOf u) t := by
  obtain ty | ⟨b, dy, gs, rfl, hb, rfl⟩ := o
  · obtain ⟨P, k, p, _⟩ := kit_of I ry ty
    exact k.ty _ _ I.kIn p
  · cases ry
    obtain ⟨mB, J, _⟩ := ins_get I.hok hb
    obtain ⟨od, J, _⟩ := J.look
    exact J.type
theorem rc_own {op : CmpOp} (hs : PySem.W.findIn X.K (.ref C) (cmpInfo op).2.1 = some (some (.ref f))) (hf : PySem.W.isFn X.K (.ref f) = true) (F : FnR X.prog X.w X.K X.mg X.base CX n f sp)
    (hr : Room n X.A) (hx : Passes CX X E) : OpR X (fun a b => richCompare op a b) (rOwnE X.K C sp E) := by
  intro pins s σ H x y v u Q I rx ry h
  obtain ⟨a, dx, fs, t, rfl, ha, o, hn, q⟩ := h
  cases (show v = Value.ref a from rx)
  obtain ⟨mA, J, _⟩ := ins_get I.hok ha
  obtain ⟨od, J, _⟩ := J.look
  obtain ⟨m, hF⟩ := I.fr
  refine PySem.W.cmp_K (op := op) (tb := t) hr.units0 hF I.ok.mod.kin J (oth_looks I ry o) hn hs hf ?_
  refine wpAny_mono (wpAny_call (run_fnR (us := [.ref a, u]) (vs := [.ref a, y]) F hr hx I (.cons rfl (.cons ry .nil)) q)) (fun w s' z => ?_) fun _ _ x => x
  obtain ⟨z', H', I', rz, qz⟩ := z
  exact SlX.cmpback rz ⟨z', H', I', rz, qz⟩
theorem op_eqOwn (hs : PySem.W.findIn X.K (.ref C) "__eq__" = some (some (.ref f))) (hf : PySem.W.isFn X.K (.ref f) = true) (F : FnOk X.prog X.w X.K X.mg X.base CX n f fd ps sp) (hb : Binds X.K fd ps [])
    (hr : Room n X.A) (hx : Passes CX X E) : OpR X (compareOp .Eq) (rOwnE X.K C sp E) := by
  intro pins s σ H x y v u Q I rx ry h
  have F2 := F.raw (sp := sp) hb .nil
  obtain ⟨a, dx, fs, t, e1, ha, o, hn, q⟩ := h
  exact rc_own (op := .Eq) hs hf F2 hr hx pins s σ H x y v u Q I rx ry ⟨a, dx, fs, t, e1, ha, o, hn, by show sp ([x, y] ++ []) H Q E; rw [List.append_nil]; exact q⟩
end
end L2

/-! Mc: what is asked of a machine. -/
namespace B5
open PySem L2 Gd
/-- a right row of states -/
structure GRow (K : PySem.W.Frag) (H : Hp) (p : Int) (many : Nat) (x : V) (ds : List Int) : Prop where
  ex : ∃ b, x = .ref b ∧ Sq K H b (ds.map V.int)
  len : ((ds.length : Nat) : Int) = p
  ok : ∀ d ∈ ds, 0 ≤ d ∧ d < (many : Int)
theorem GRow.more {K : PySem.W.Frag} {H H' : Hp} {p : Int} {many : Nat} {x : V} {ds : List Int} (m : More H H') (h : GRow K H p many x ds) : GRow K H' p many x ds :=
  ⟨let ⟨b, e, s⟩ := h.ex; ⟨b, e, s.more m⟩, h.len, h.ok⟩
/-- no row of states -/
def NRow (K : PySem.W.Frag) (H : Hp) (p : Int) (many : Nat) (x : V) : Prop := NoSq K H x ∨ ∃ b ys, x = .ref b ∧ Sq K H b ys ∧ Its K H ys ∧
  (ys.all isI = false ∨ ((ys.length : Nat) : Int) ≠ p ∨ ∃ ds : List Int, ys = ds.map V.int ∧ ((ds.length : Nat) : Int) = p ∧ ∃ d ∈ ds, ¬ (0 ≤ d ∧ d < (many : Int)))
theorem NRow.more {K : PySem.W.Frag} {H H' : Hp} {p : Int} {many : Nat} {x : V} (m : More H H') (h : NRow K H p many x) : NRow K H' p many x := by
  obtain h | ⟨b, ys, e, s, i, h⟩ := h
  · exact .inl (h.more m)
  · exact .inr ⟨b, ys, e, s.more m, i.more m, h⟩
/-- no row of so many ints -/
def NWor (K : PySem.W.Frag) (H : Hp) (many : Nat) (x : V) : Prop := NoSq K H x ∨ ∃ b ys, x = .ref b ∧ Sq K H b ys ∧ Its K H ys ∧ (ys.all isI = false ∨ ys.length ≠ many)
theorem NWor.more {K : PySem.W.Frag} {H H' : Hp} {many : Nat} {x : V} (m : More H H') (h : NWor K H many x) : NWor K H' many x := by
  obtain h | ⟨b, ys, e, s, i, h⟩ := h
  · exact .inl (h.more m)
  · exact .inr ⟨b, ys, e, s.more m, i.more m, h⟩
def inD (p : Int) : V → Bool
  | .int d => decide (0 ≤ d ∧ d < p)
  | _ => false
theorem inD_all {p : Int} {ds : List Int} (h : ∀ d ∈ ds, 0 ≤ d ∧ d < p) : (ds.map V.int).all (inD p) = true := by
  rw [List.all_map, List.all_eq_true]
  intro d hd
  exact decide_eq_true (h d hd)
open ZipG in
theorem Sq.src {K : PySem.W.Frag} {H : Hp} {a : Addr} {xs : List V} (h : Sq K H a xs) : ∃ S : Src, S.v = .ref a ∧ ∀ H', Kept a H H' → S.has K xs H' := by
  rcases h with h | h
  · exact ⟨.l a, rfl, fun H' k => k.sqL h⟩
  · exact ⟨.t a, rfl, fun H' k => k.sqT h⟩
theorem any_not {α β : Type} (f : α → β → Bool) : ∀ (l : List α) (m : List β), (List.zipWith (fun a b => !f a b) l m).any id = !(List.zipWith f l m).all id
  | [], _ => by simp
  | _ :: _, [] => by simp
  | a :: l, b :: m => by
    rw [List.zipWith_cons_cons, List.zipWith_cons_cons, List.any_cons, List.all_cons, any_not f l m]
    cases f a b <;> simp
theorem zip_at {α β γ : Type} {f : α → β → γ} {l : List α} {m : List β} {i : Nat} {a : α} {b : β} (h1 : l[i]? = some a) (h2 : m[i]? = some b) : (List.zipWith f l m)[i]? = some (f a b) := by
  rw [List.getElem?_zipWith, h1, h2]
/-- a zero changes no worth -/
def stdy (dss : List (List Int)) (ws : List Int) : Bool := (List.zipWith (fun ds (w : Int) => decide (w = ws.getD (ds.getD 0 0).toNat 0)) dss ws).all id
def RUn (CU : Addr) (what : Str) (H : Hp) (E : XK) : Prop := ∀ d, H d = none → E (.ref CU) (some d) (upd H d (.xd [("what", .str what)]))
def spCM0 (K : PySem.W.Frag) (CN CR CU : Addr) : Sp := fun vs H Q E => ∃ x y z, vs = [x, y, z] ∧ ((BadP K H x ∧ RNum CN "p" x H E) ∨
  ∃ (p : Int) (a : Addr) (xs : List V), x = .int p ∧ isPr p = true ∧ y = .ref a ∧ Sq K H a xs ∧ xs.length ≤ 1000 ∧
    ((xs = [] ∧ RNum CN "states" (.int 0) H E) ∨
    (xs ≠ [] ∧ ∃ (i : Nat) (x0 : V), xs[i]? = some x0 ∧ NRow K H p xs.length x0 ∧ (∀ j y, j < i → xs[j]? = some y → ∃ ds, GRow K H p xs.length y ds) ∧ ∀ H', More H H' → RRow CR x0 H' E) ∨
    (xs ≠ [] ∧ ∃ dss : List (List Int), Paired (GRow K H p xs.length) xs dss ∧
      ((NWor K H xs.length z ∧ ∀ H', More H H' → RRow CR z H' E) ∨
      ∃ (b : Addr) (ws : List Int), z = .ref b ∧ Sq K H b (ws.map V.int) ∧ ws.length = xs.length ∧
        ((stdy dss ws = false ∧ ∀ H', More H H' → RUn CU "zeros" H' E) ∨ (stdy dss ws = true ∧ ∀ H', More H H' → Q .non H'))))))
/-- at a stands the machine of these moves and worths -/
def MAt (K : PySem.W.Frag) (H : Hp) (C a : Addr) (p : Int) (dss : List (List Int)) (ws : List Int) : Prop := ∃ (dx t u : Addr) (xs : List V), H a = some (.ins C dx [("p", .int p), ("moves", .ref t), ("worths", .ref u), ("size", .int (dss.length : Nat))]) ∧
  SqT K H t xs ∧ Paired (B5.TupI K H) xs dss ∧ SqT K H u (ws.map V.int)
theorem MAt.more {K : PySem.W.Frag} {H H' : Hp} {C a : Addr} {p : Int} {dss : List (List Int)} {ws : List Int} (m : More H H') (h : MAt K H C a p dss ws) : MAt K H' C a p dss ws :=
  let ⟨dx, t, u, xs, h1, h2, h3, h4⟩ := h; ⟨dx, t, u, xs, m _ _ h1, sqT_more m h2, paired_imp (fun _ _ r => r.more m) h3, sqT_more m h4⟩
/-- all but what stands at a stays -/
def Off (a : Addr) (H H' : Hp) : Prop := ∀ b o, H b = some o → b ≠ a → H' b = some o
theorem Off.refl {a : Addr} {H : Hp} : Off a H H := fun _ _ e _ => e
theorem Off.trans {a : Addr} {H H1 H2 : Hp} (x : Off a H H1) (y : Off a H1 H2) : Off a H H2 := fun b o e n => y b o (x b o e n) n
theorem Off.of {a : Addr} {H H' : Hp} (m : More H H') : Off a H H' := fun b o e _ => m b o e
theorem Off.upd {a : Addr} {H : Hp} {o : HO} : Off a H (upd H a o) := fun b u e n => by
  rw [upd_ne n]
  exact e
theorem Off.dr {d c : Addr} {n : Int} {H H' : Hp} (h : Drawn H H' d c n) : Off d H H' := fun b o e nb => (h.off b nb).trans e
theorem new_more {H : Hp} {p : Addr} {o : HO} (hp : H p = none) : More H (upd H p o) := More.new (fun _ _ e => e) hp
/-- where an instance or a dict stands, no list or tuple does -/
theorem sqL_off {K : PySem.W.Frag} {a b : Addr} {H H' : Hp} {xs : List V} {o : HO} (ha : H a = some o) (no : ∀ xs, o ≠ .lst xs) (nf : ∀ u v, o ≠ .frz u v) (m : Off a H H') : SqL K H b xs → SqL K H' b xs
  | .inl (.inl h) => .inl (.inl (m _ _ h fun e => by rw [e, ha] at h; exact no _ (Option.some.inj h)))
  | .inl (.inr ⟨u, h⟩) => .inl (.inr ⟨u, m _ _ h fun e => by rw [e, ha] at h; exact nf _ _ (Option.some.inj h)⟩)
  | .inr h => .inr h
theorem sqT_off {K : PySem.W.Frag} {a b : Addr} {H H' : Hp} {xs : List V} {o : HO} (ha : H a = some o) (no : ∀ xs, o ≠ .tup xs) (nf : ∀ u v, o ≠ .frz u v) (m : Off a H H') : SqT K H b xs → SqT K H' b xs
  | .inl (.inl h) => .inl (.inl (m _ _ h fun e => by rw [e, ha] at h; exact no _ (Option.some.inj h)))
  | .inl (.inr ⟨u, h⟩) => .inl (.inr ⟨u, m _ _ h fun e => by rw [e, ha] at h; exact nf _ _ (Option.some.inj h)⟩)
  | .inr h => .inr h
theorem sq_ins {K : PySem.W.Frag} {a b C dx : Addr} {H H' : Hp} {xs : List V} {fs : List (Str × V)} (ha : H a = some (.ins C dx fs)) (m : Off a H H') : Sq K H b xs → Sq K H' b xs
  | .inl h => .inl (sqL_off ha (fun _ e => nomatch e) (fun _ _ e => nomatch e) m h)
  | .inr h => .inr (sqT_off ha (fun _ e => nomatch e) (fun _ _ e => nomatch e) m h)
theorem Off.gone {a b : Addr} {H H' : Hp} (m : Off a H H') (ha : ∃ o, H' a = some o) (h : H' b = none) : H b = none := by
  cases e : H b with
  | none => rfl
  | some o =>
    by_cases z : b = a
    · obtain ⟨u, hu⟩ := ha
      rw [z, hu] at h
      cases h
    · rw [m _ _ e z] at h
      cases h
theorem Off.at {a b : Addr} {H H' : Hp} {o : HO} (m : Off a H H') (h : H b = none) : Off a H (L2.upd H' b o) := fun c u e n => by
  rw [upd_ne (ne_of_none e h)]
  exact m c u e n
theorem Pen.updA {H : Hp} {d c b : Addr} {n : Int} {o : HO} (h : Pen H d c n) (h1 : b ≠ d) (h2 : b ≠ c) : Pen (L2.upd H b o) d c n := h.keep (upd_ne h1.symm) (upd_ne h2.symm)
theorem putK_le (kvs : List (Key × V)) (k : Key) (v : V) : (putK kvs k v).length ≤ kvs.length + 1 := by
  unfold putK
  split
  · rw [List.length_map]
    omega
  · rw [List.length_append]
    exact Nat.le_refl _
/-- all is right for a machine -/
structure MOk (K : PySem.W.Frag) (H : Hp) (x y z : V) (p : Int) (dss : List (List Int)) (ws : List Int) : Prop where
  x_ : x = .int p
  pr : isPr p = true
  y_ : ∃ a xs, y = .ref a ∧ Sq K H a xs ∧ xs.length ≤ 1000 ∧ xs ≠ [] ∧ Paired (GRow K H p xs.length) xs dss
  z_ : ∃ b, z = .ref b ∧ Sq K H b (ws.map V.int)
  len : ws.length = dss.length
  st : stdy dss ws = true
/-- what is no machine, and the error for it -/
def BadM (K : PySem.W.Frag) (CN CR CU : Addr) (x y z : V) (H : Hp) (E : XK) : Prop := (BadP K H x ∧ RNum CN "p" x H E) ∨
  ∃ (p : Int) (a : Addr) (xs : List V), x = .int p ∧ isPr p = true ∧ y = .ref a ∧ Sq K H a xs ∧ xs.length ≤ 1000 ∧
    ((xs = [] ∧ RNum CN "states" (.int 0) H E) ∨
    (xs ≠ [] ∧ ∃ (i : Nat) (x0 : V), xs[i]? = some x0 ∧ NRow K H p xs.length x0 ∧ (∀ j y, j < i → xs[j]? = some y → ∃ ds, GRow K H p xs.length y ds) ∧ ∀ H', More H H' → RRow CR x0 H' E) ∨
    (xs ≠ [] ∧ ∃ dss : List (List Int), Paired (GRow K H p xs.length) xs dss ∧
      ((NWor K H xs.length z ∧ ∀ H', More H H' → RRow CR z H' E) ∨
      ∃ (b : Addr) (ws : List Int), z = .ref b ∧ Sq K H b (ws.map V.int) ∧ ws.length = xs.length ∧ stdy dss ws = false ∧ ∀ H', More H H' → RUn CU "zeros" H' E)))
def spCM (K : PySem.W.Frag) (CN CR CU : Addr) : Sp := fun vs H Q E => ∃ x y z, vs = [x, y, z] ∧ (BadM K CN CR CU x y z H E ∨ ∃ p dss ws, MOk K H x y z p dss ws ∧ ∀ H', More H H' → Q .non H')
theorem spCM.to0 {K : PySem.W.Frag} {CN CR CU : Addr} {vs : List V} {H : Hp} {Q : VK} {E : XK} (h : spCM K CN CR CU vs H Q E) : spCM0 K CN CR CU vs H Q E := by
  obtain ⟨x, y, z, e, c | ⟨p, dss, ws, ⟨e1, pr, ⟨ay, xs, e2, sq, few, ne, hp⟩, ⟨az, e3, sw⟩, lw, st⟩, q⟩⟩ := h
  · refine ⟨x, y, z, e, ?_⟩
    obtain c | ⟨p, a, xs, e1, e2, e3, e4, e5, c⟩ := c
    · exact .inl c
    refine .inr ⟨p, a, xs, e1, e2, e3, e4, e5, ?_⟩
    obtain c | c | ⟨c1, dss, c2, c⟩ := c
    · exact .inl c
    · exact .inr (.inl c)
    refine .inr (.inr ⟨c1, dss, c2, ?_⟩)
    obtain c | ⟨b, ws, c3, c4, c5, c⟩ := c
    · exact .inl c
    · exact .inr ⟨b, ws, c3, c4, c5, .inl c⟩
  · exact ⟨x, y, z, e, .inr ⟨p, ay, xs, e1, pr, e2, sq, few, .inr (.inr ⟨ne, dss, hp, .inr ⟨az, ws, e3, sw, by rw [lw, ← Paired.length hp], .inr ⟨st, q⟩⟩⟩)⟩⟩
def spMI (K : PySem.W.Frag) (C CN CR CU : Addr) : Sp := fun vs H Q E => ∃ a dx x y z, vs = [.ref a, x, y, z] ∧ H a = some (.ins C dx []) ∧ (BadM K CN CR CU x y z H E ∨
  ∃ p dss ws, MOk K H x y z p dss ws ∧ ∀ H', Off a H H' → MAt K H' C a p dss ws → Q .non H')
/-- the kinds of values that are no object of a class of one's own -/
def offOwn : List String := ["int", "bool", "NoneType", "str", "list", "tuple", "dict"]
/-- what is asked of the class -/
structure McC (K : PySem.W.Frag) (mg : Str → Option Value) (C : Addr) : Prop where
  ic : C8.InsC K C
  n1 : NoAttr K C "p"
  n2 : NoAttr K C "moves"
  n3 : NoAttr K C "worths"
  n4 : NoAttr K C "size"
  g : mg "Machine" = some (.ref C)
  no : ∀ n ∈ offOwn, PySem.W.kitOne K (.type n) (.ref C) = some false
theorem MAt.ty {K : PySem.W.Frag} {mg : Str → Option Value} {C a : Addr} (Z : McC K mg C) {H : Hp} {p : Int} {dss : List (List Int)} {ws : List Int} (h : MAt K H C a p dss ws) : TyX K H (.ref a) (.ref C) := by
  obtain ⟨dx, t, u, xs, h1, _⟩ := h
  exact .base (.ins h1 Z.ic.cl Z.ic.ha Z.ic.hn Z.ic.htk Z.ic.hm)
def spMEq (K : PySem.W.Frag) (C : Addr) : Sp := fun vs H Q _ => ∃ a y p dss ws, vs = [.ref a, y] ∧ MAt K H C a p dss ws ∧
  ((∃ n ∈ offOwn, TyX K H y (.type n) ∧ Q (.bl false) H) ∨ ∃ b p2 dss2 ws2, y = .ref b ∧ MAt K H C b p2 dss2 ws2 ∧ Q (.bl (decide (p = p2 ∧ dss = dss2 ∧ ws = ws2))) H)
/-- right rows of states, a worth for each -/
structure MGood (p : Int) (dss : List (List Int)) (ws : List Int) : Prop where
  pr : isPr p = true
  ne : dss ≠ []
  rows : ∀ ds ∈ dss, ((ds.length : Nat) : Int) = p ∧ ∀ d ∈ ds, 0 ≤ d ∧ d < (dss.length : Int)
  len : ws.length = dss.length
  few : dss.length ≤ 1000
/-- the state behind a digit -/
def stepM (dss : List (List Int)) (s : Nat) (d : Int) : Nat := ((dss.getD s []).getD d.toNat 0).toNat
def runM (dss : List (List Int)) (word : List Int) : Nat := word.foldl (stepM dss) 0
theorem MGood.step {p : Int} {dss : List (List Int)} {ws : List Int} (g : MGood p dss ws) {s : Nat} (hs : s < dss.length) {d : Int} (d0 : 0 ≤ d) (d1 : d < p) :
    ∃ ds, dss[s]? = some ds ∧ ds[d.toNat]? = some ((stepM dss s d : Nat) : Int) ∧ stepM dss s d < dss.length := by
  have e := at_getD hs []
  have hm : dss.getD s [] ∈ dss := List.mem_of_getElem? e
  obtain ⟨l, r⟩ := g.rows _ hm
  have lt : d.toNat < (dss.getD s []).length := by omega
  have e2 := at_getD lt 0
  obtain ⟨r0, r1⟩ := r _ (List.mem_of_getElem? e2)
  refine ⟨_, e, ?_, ?_⟩
  · rw [e2]
    unfold stepM
    rw [Int.toNat_of_nonneg r0]
  · unfold stepM
    omega
theorem MGood.run {p : Int} {dss : List (List Int)} {ws : List Int} (g : MGood p dss ws) : ∀ (l : List Int) (s : Nat), s < dss.length → (∀ d ∈ l, 0 ≤ d ∧ d < p) → l.foldl (stepM dss) s < dss.length
  | [], s, hs, _ => hs
  | d :: l, s, hs, h => by
    obtain ⟨_, _, _, lt⟩ := g.step hs (h d (.head _)).1 (h d (.head _)).2
    exact g.run l _ lt fun x hx => h x (.tail _ hx)
def spMAt (K : PySem.W.Frag) (C CN : Addr) : Sp := fun vs H Q E => ∃ a x p dss ws, vs = [.ref a, x] ∧ MAt K H C a p dss ws ∧ MGood p dss ws ∧
  ((∃ n : Nat, x = .int n ∧ n < 2 ^ 400 ∧ ∀ H', More H H' → Q (.int (ws.getD (runM dss (dgs p.toNat n)) 0)) H') ∨ (((∃ i, x = .int i ∧ i < 0) ∨ NoInt K H x) ∧ RNum CN "n" x H E))
def spLd : Sp := fun vs H Q _ => ∃ n p : Nat, vs = [.int n, .int p] ∧ isPr p = true ∧ n < 2 ^ 400 ∧
  ∀ H' l, More H H' → H l = none → H' l = some (.lst ((dgs p n).map V.int)) → Q (.ref l) H'
/-- the state behind a word, told by the law -/
def spLs (K : PySem.W.Frag) : Sp := fun vs H Q _ => ∃ (M L : Addr) (rs : List V) (p : Int) (dss : List (List Int)) (ws l : List Int), vs = [.ref M, .ref L] ∧ SqT K H M rs ∧ Paired (B5.TupI K H) rs dss ∧ MGood p dss ws ∧ SqL K H L (l.map V.int) ∧ (∀ d ∈ l, 0 ≤ d ∧ d < p) ∧ Q (.int (runM dss l : Nat)) H
def spIm (K : PySem.W.Frag) (C : Addr) : Sp := fun vs H Q _ => ∃ (a M W : Addr) (rs : List V) (p : Int) (dss : List (List Int)) (ws : List Int), vs = [.ref a, .int p, .ref M, .ref W] ∧ MAt K H C a p dss ws ∧ SqT K H M rs ∧ Paired (B5.TupI K H) rs dss ∧ SqT K H W (ws.map V.int) ∧ ∀ H', More H H' → Q (.bl true) H'
/-- what the clauses and the fields ask of the three classes -/
structure Cau3 (K : PySem.W.Frag) (CN CR CU : Addr) : Prop where
  nn : PySem.W.exmOne K (.ref CN) (.ref CN) = some true
  rn : PySem.W.exmOne K (.ref CR) (.ref CN) = some false
  rr : PySem.W.exmOne K (.ref CR) (.ref CR) = some true
  un : PySem.W.exmOne K (.ref CU) (.ref CN) = some false
  ur : PySem.W.exmOne K (.ref CU) (.ref CR) = some false
  uu : PySem.W.exmOne K (.ref CU) (.ref CU) = some true
  xn : XfC K CN
  xr : XfC K CR
  xu : XfC K CU
/-- the list that tells an error -/
def ERef3 (CN CR CU : Addr) (Q : VK) : XK := fun cls d H =>
  (cls = .ref CN ∧ ∃ (dd : Addr) (what x : V), d = some dd ∧ H dd = some (.xd [("number", x), ("what", what)]) ∧ ∀ l, H l = none → Q (.ref l) (upd H l (.lst [.str "number", what, x]))) ∨
  (cls = .ref CR ∧ ∃ (dd : Addr) (x : V), d = some dd ∧ H dd = some (.xd [("row", x)]) ∧ ∀ l, H l = none → Q (.ref l) (upd H l (.lst [.str "row", x]))) ∨
  (cls = .ref CU ∧ ∃ (dd : Addr) (x : V), d = some dd ∧ H dd = some (.xd [("what", x)]) ∧ ∀ l, H l = none → Q (.ref l) (upd H l (.lst [.str "unlike", x])))
def TRef3 (CN CR CU : Addr) : (XK → Hp → VK → Prop) → Hp → VK → Prop := fun tl H Q => tl (ERef3 CN CR CU Q) H fun _ H' => ([] : List V).length ≤ sizeLine ∧ ∀ l, H' l = none → Q (.ref l) (upd H' l (.lst []))
end B5

/-! Xf: what is asked of walks over names that are met. -/
namespace B5
open PySem PySem.Spec PyProof.Rows L2 Gd NdefX
abbrev nV : Nat → V := fun x => V.int (x : Nat)
theorem Lead.imp {P : Program} {w : World} {K : PySem.W.Frag} {mg : Str → Option Value} {base : Heap} {k : Nat} {f : Addr} {pre pre' : Hp → Prop} {sp sp' : Sp} (L : Lead P w K mg base k f pre sp) (hp : ∀ H, pre' H → pre H) (h : ∀ vs H Q, pre' H → sp' vs H Q E0 → sp vs H Q E0) : Lead P w K mg base k f pre' sp' :=
  ⟨fun H q => L.at_ H (hp H q), fun A outer s H us vs Q hr e0 q r hs => L.run A outer s H us vs Q hr e0 (hp H q) r (h vs H Q q hs)⟩
theorem Lead.mono {P : Program} {w : World} {K : PySem.W.Frag} {mg : Str → Option Value} {base : Heap} {j k : Nat} {f : Addr} {pre : Hp → Prop} {sp : Sp} (L : Lead P w K mg base j f pre sp) (h : j ≤ k) : Lead P w K mg base k f pre sp :=
  ⟨L.at_, fun A outer s H us vs Q hr => L.run A outer s H us vs Q (hr.mono h)⟩
/-- a step from a state below n by a digit below p -/
def spStep (n p : Nat) (lead : Nat → List Nat) : Sp := fun vs H Q _ => ∃ (s d b : Nat), vs = [.int s, .int d] ∧ s < n ∧ d < p ∧ (lead s)[d]? = some b ∧ ∀ H', More H H' → Q (.int b) H'
def TupN (H : Hp) (b : Addr) (row : List Nat) : Prop := H b = some (.tup (row.map nV))
/-- what a walk tells -/
def Told (H : Hp) (t : Addr) (met : List Nat) (rows : List (List Nat)) : Prop := ∃ (ls lm : Addr) (ts : List Addr), H t = some (.tup [.ref ls, .ref lm]) ∧ H ls = some (.lst (met.map nV)) ∧ H lm = some (.lst (ts.map V.ref)) ∧ Paired (TupN H) ts rows
def spXf (P : Program) (w : World) (K : PySem.W.Frag) (mg : Str → Option Value) (base : Heap) (k : Nat) : Sp := fun vs H Q _ => ∃ (a f : Addr) (p n s0 : Nat) (lead : Nat → List Nat) (pre : Hp → Prop), vs = [.ref a, .ref f, .int p, .non] ∧ H a = some (.lst [.int s0]) ∧ (∀ H', More H H' → pre H') ∧
  Lead P w K mg base k f pre (spStep n p lead) ∧ (∀ s, s < n → (lead s).length = p ∧ ∀ b ∈ lead s, b < n) ∧ s0 < n ∧ n ≤ 1000 ∧ p ≤ 1000 ∧ ∀ (H' : Hp) (t : Addr), More H H' → Told H' t (walkFrom lead n s0).1 (walkFrom lead n s0).2 → Q (.ref t) H'
def spXp (P : Program) (w : World) (K : PySem.W.Frag) (mg : Str → Option Value) (base : Heap) (k : Nat) : Sp := fun vs H Q _ => ∃ (f : Addr) (p n s0 : Nat) (lead : Nat → List Nat) (pre : Hp → Prop), vs = [.int s0, .ref f, .int p, .non] ∧ (∀ H', More H H' → pre H') ∧
  Lead P w K mg base k f pre (spStep n p lead) ∧ (∀ s, s < n → (lead s).length = p ∧ ∀ b ∈ lead s, b < n) ∧ s0 < n ∧ n ≤ 1000 ∧ p ≤ 1000 ∧ ∀ (H' : Hp) (t : Addr), More H H' → Told H' t (walkFrom lead n s0).1 (walkFrom lead n s0).2 → Q (.ref t) H'
/-- the dict tells the places of the names -/
structure DNn (H : Hp) (d : Addr) (st : List Nat) : Prop where
  ex : ∃ kvs, H d = some (.dK kvs) ∧ st.length = kvs.length ∧ ∀ x : Nat, valV kvs (Sum.inl (x : Int)) = (ixOf st x).map fun i => V.int (i : Nat)
theorem putK_new' {kvs : List (Key × V)} {k : Key} {v : V} (h : valV kvs k = none) : (putK kvs k v).length = kvs.length + 1 := by
  have e := valV_any k kvs
  rw [h, Option.isSome_none] at e
  unfold putK
  rw [if_neg (by rw [e]; exact Bool.false_ne_true), List.length_append]
  rfl
/-- a dict comprehension over what is walked -/
theorem dc_it {J : It} {n : Nat} {G : Hp → Prop} {Y : Nat → Hp → V → Hp → Prop} (w : Walk J n G Y) {g : TG} {tt : TT} {tk tv : TE} {vs : List Nat} {σ : L2.St} {H1 : Hp} {D : Addr} {Qd : Hp → Prop} (Pv : Nat → Hp → Prop) (h0 : Pv 0 (upd H1 D (.dK []))) (hG : ∀ i H, i ≤ n → Pv i H → G H)
    (hs : ∀ i x H H', i < n → Pv i H → Y i H x H' → g x (wipe σ vs) H' fun σ2 H2 => wipe σ2 vs = wipe σ vs ∧ tt σ2 H2 fun b H3 =>
      if b = true then tk σ2 H3 fun y H4 => tv σ2 H4 fun z H5 => ∃ kvs k, y = kV k ∧ H5 D = some (.dK kvs) ∧ kvs.length < sizeLine ∧ Pv (i + 1) (upd H5 D (.dK (putK kvs k z))) else Pv (i + 1) H3) (hd : ∀ H, Pv n H → Qd H) :
    ∃ W : Nat → Nat → Hp → Prop, (∃ m, W 0 m (upd H1 D (.dK []))) ∧ ∀ i m H, W i m H →
      (J.stop i H ∧ Qd H) ∨ (J.go i H ∧ ∃ Nx : Hp → Prop, (∀ H', Nx H' → ∃ m', m' < m ∧ W (i + 1) m' H') ∧ ∀ x H', J.yld i H x H' → g x (wipe σ vs) H' fun σ2 H2 => wipe σ2 vs = wipe σ vs ∧ tt σ2 H2 fun b H3 =>
        if b = true then tk σ2 H3 fun y H4 => tv σ2 H4 fun z H5 => ∃ kvs k, y = kV k ∧ H5 D = some (.dK kvs) ∧ kvs.length < sizeLine ∧ Nx (upd H5 D (.dK (putK kvs k z))) else Nx H3) := by
  refine ⟨fun i m H => m = n - i ∧ i ≤ n ∧ Pv i H, ⟨n, by simp, Nat.zero_le _, h0⟩, ?_⟩
  rintro i m H ⟨rfl, hi, p⟩
  have q := hG i H hi p
  by_cases hlt : i < n
  · exact .inr ⟨w.goes i H hlt q, Pv (i + 1), fun H' p' => ⟨n - (i + 1), by omega, rfl, hlt, p'⟩, fun x H' y => hs i x H H' hlt p (w.yields i H x H' hlt q y)⟩
  · have e : i = n := by omega
    subst e
    exact .inl ⟨w.stops H q, hd H p⟩
theorem swD_true {kx vx : Expr} {gs : List Comprehension} {scope : Scope} {pos py : Pos} {y : Str} {l : Nat} {env : Env} (hk : env.scope.kind = .function) (hy : env.scope.names.lookup y = some .local) (hl : (py.line == pos.line) = true)
    (ha : (scope.names.any fun (n, k) => n == y && (k == .local || k == .cell)) = false) : swapsWith (.DictComp kx vx gs scope pos) (some (.Name y py)) l env = pure true := by
  have ky : env.kindOf y = some .local := hy
  have hb : env.blockKind = .function := by unfold Env.blockKind; rw [hk]; rfl
  unfold swapsWith
  simp only [hb, ky, ha, Expr.pos, hl]
  rfl
/-- name = {k: v ..} on one line, the name a local -/
theorem ps_setDc {X : Cx} {i : Nat} {y : Str} {py : Pos} {kx vx tg iter : Expr} {ifs : List Expr} {scope : Scope} {own : List (Str × Nat)} {pos spos : Pos} {wi : TI} {g : TG} {tt : TT} {tk tv : TE} (hc : X.calm = true) (hN : X.N.Nodup) (hy : X.N[i]? = some y) (hyl : X.env.scope.names.lookup y = some .local)
    (hsw : swapsWith (.DictComp kx vx [⟨tg, iter, ifs, 0⟩] scope pos) (some (.Name y py)) spos.line X.env = pure true) (hi : PI X tg iter wi) (ok : BlkOk X.N X.env.scope scope own)
    (hg : ∀ (s : Shared) (H : Hp) (C : Addr) (cl : List (Str × Addr)) (fp : List Addr), PG (X.blk s H scope (compEnvC scope cl C X.env) fp) tg g) (ht : ∀ (s : Shared) (H : Hp) (C : Addr) (cl : List (Str × Addr)) (fp : List Addr), PTs (X.blk s H scope (compEnvC scope cl C X.env) fp) ifs tt)
    (hk : ∀ (s : Shared) (H : Hp) (C : Addr) (cl : List (Str × Addr)) (fp : List Addr), PE (X.blk s H scope (compEnvC scope cl C X.env) fp) kx tk)
    (he : ∀ (s : Shared) (H : Hp) (C : Addr) (cl : List (Str × Addr)) (fp : List Addr), PE (X.blk s H scope (compEnvC scope cl C X.env) fp) vx tv) (hs : ∀ x, foldedSetIterable iter X.env x = pure x := by intro _; rfl) :
    PS X (.Assign [.Name y py] (.DictComp kx vx [⟨tg, iter, ifs, 0⟩] scope pos) spos) (tAsg (tDc wi g tt tk tv (own.map (·.2))) (gName i)) := by
  refine ⟨fun pins s σ H D I h => ?_⟩
  rw [exec_Assign_Name_used _ _ _ _ hsw]
  refine wpAny_bind (wpAny_standAt (wpAny_bind ?_))
  show wpAny _ X.A (do let _ ← comprehension (.DictComp kx vx [⟨tg, iter, ifs, 0⟩] scope pos) scope X.env (firstIterPos [⟨tg, iter, ifs, 0⟩] pos) newDict false (eval iter X.env) (some (assign (.Name y py) X.env))) _ _ s
  have h : tDc wi g tt tk tv (own.map (·.2)) σ H (fun x H1 => gName i x σ H1 D.nx) := h
  refine wpAny_bind (thn (dc_core (Qf := fun _ s' => SP X pins D .next s') hc hN I hi ok hg ht hk he hs h fun L C s' m H' I' q hn f => ?_) fun _ s' hq => wpAny_pure (wpAny_pure hq))
  show wpAny _ _ (assign (.Name y py) X.env (.ref L)) _ _ _
  refine wpAny_assign_Name (store_ok2 (v := V.ref L) I' hN hy (.inl hyl) rfl (fun s2 I2 ⟨a, sb, ha⟩ => ?_) (.inr hyl))
  obtain ⟨f0, f1, f2, f3, f4, f5⟩ := f
  have haC : C ≠ a := by
    rcases ha with z | z
    · rw [z]; exact f1
    · exact fun e => f4 y a z e.symm
  refine ⟨m, hn.sameBut sb haC, fun h3 sb3 => ?_⟩
  exact ⟨_, H', I2.turned (t' := s2.toks) (fun b o hb e => (sb3.2 b hb).trans e) f0 f1 f3 f4 f5, q⟩
/-! ### what stays -/
theorem sqT_by {K : PySem.W.Frag} {H H' : Hp} {t : Addr} {xs : List V} (e : ∀ o, H t = some o → (∀ φ, o ≠ .ext φ) → (∀ ps, o ≠ .tbl ps) → H' t = some o) (h : SqT K H t xs) : SqT K H' t xs := by
  rcases h with (h | ⟨o, h⟩) | h
  · exact .inl (.inl (e _ h (fun φ z => by cases z) (fun ps z => by cases z)))
  · exact .inl (.inr ⟨o, e _ h (fun φ z => by cases z) (fun ps z => by cases z)⟩)
  · exact .inr h
theorem sqT_ext {K : PySem.W.Frag} {H H' : Hp} {t : Addr} {xs : List V} (e : LamX.ExtN H H') (h : SqT K H t xs) : SqT K H' t xs := sqT_by (fun o a _ c => e _ o a c) h
theorem hide_by {cl : List (Str × Addr)} {fr : List Str} {ws : List (Option V)} {H : Hp} (x : Exd cl fr ws H) {t : Addr} {o : HO} (h : H t = some o) (n : ∀ φ, o ≠ .ext φ) : hide cl H t = some o := by
  rw [hide_no fun z => ?_]
  · exact h
  · obtain ⟨ob, r⟩ := x.ex z
    rw [r] at h
    cases h
    exact n _ rfl
theorem sqT_hide {K : PySem.W.Frag} {cl : List (Str × Addr)} {fr : List Str} {ws : List (Option V)} {H : Hp} {t : Addr} {xs : List V} (x : Exd cl fr ws H) (h : SqT K H t xs) : SqT K (hide cl H) t xs := sqT_by (fun o a b _ => hide_by x a b) h
theorem pairT_hide {K : PySem.W.Frag} {cl : List (Str × Addr)} {fr : List Str} {ws : List (Option V)} {H : Hp} {xs : List V} {dss : List (List Int)} (x : Exd cl fr ws H) (h : Paired (B5.TupI K H) xs dss) : Paired (B5.TupI K (hide cl H)) xs dss :=
  paired_imp (fun v k ⟨b, e, s⟩ => ⟨b, e, sqT_hide x s⟩) h
theorem pairT_ext {K : PySem.W.Frag} {H H' : Hp} {xs : List V} {dss : List (List Int)} (e : LamX.ExtN H H') (h : Paired (B5.TupI K H) xs dss) : Paired (B5.TupI K H') xs dss := paired_imp (fun v k ⟨b, e1, s⟩ => ⟨b, e1, sqT_ext e s⟩) h
theorem more_lay {cl : List (Str × Addr)} {H H' : Hp} (m : More (hide cl H) H') : More H (lay cl H H') := fun b o e => by
  by_cases z : isC cl b
  · rw [lay_at z]; exact e
  · rw [lay_no z]; exact m b o (by rw [hide_no z]; exact e)
theorem Exd.more {cl : List (Str × Addr)} {fr : List Str} {ws : List (Option V)} {H H' : Hp} (x : Exd cl fr ws H) (m : More H H') : Exd cl fr ws H' := x.same fun b z => by
  obtain ⟨ob, e⟩ := x.ex z
  rw [e]
  exact m _ _ e
theorem Shown.nc {cl : List (Str × Addr)} {fr : List Str} {ws : List (Option V)} {H HE : Hp} (sh : Shown cl fr ws H HE) {b : Addr} {o : HO} (h : H b = some o) : ¬ isC cl b := fun z => by rw [sh.on b z] at h; cases h
end B5

/-! DcT: dict comprehensions, the keys ints, texts, or tuples of these (by DPut). -/
namespace B5
open PySem PySem.Spec PyProof.Rows L2
section
open L2
variable {κ : Type} [DecidableEq κ]
theorem putK_keys (kvs : List (κ × V)) (k : κ) (v : V) (x : κ) : (∃ p ∈ putK kvs k v, p.1 = x) ↔ x = k ∨ ∃ p ∈ kvs, p.1 = x := by
  unfold putK
  split
  · rename_i h
    obtain ⟨q, hq, eq⟩ := List.any_eq_true.mp h
    have eq := of_decide_eq_true eq
    constructor
    · rintro ⟨p, hp, rfl⟩
      obtain ⟨r, hr, rfl⟩ := List.mem_map.mp hp
      by_cases z : r.1 = k
      · rw [if_pos z]; exact .inr ⟨r, hr, rfl⟩
      · rw [if_neg z]; exact .inr ⟨r, hr, rfl⟩
    · rintro (rfl | ⟨p, hp, rfl⟩)
      · refine ⟨_, List.mem_map.mpr ⟨q, hq, rfl⟩, ?_⟩
        rw [if_pos eq]
        exact eq
      · refine ⟨_, List.mem_map.mpr ⟨p, hp, rfl⟩, ?_⟩
        by_cases z : p.1 = k
        · rw [if_pos z]
        · rw [if_neg z]
  · constructor
    · rintro ⟨p, hp, rfl⟩
      rcases List.mem_append.mp hp with hp | hp
      · exact .inr ⟨p, hp, rfl⟩
      · have : p = (k, v) := by simpa using hp
        rw [this]
        exact .inl rfl
    · rintro (rfl | ⟨p, hp, rfl⟩)
      · exact ⟨(x, v), List.mem_append.mpr (.inr (by simp)), rfl⟩
      · exact ⟨p, List.mem_append.mpr (.inl hp), rfl⟩
end
/-- D[y] = z, D a dict with keys of either form -/
theorem put_set {X : Cx} {pins : List (Addr × Obj)} {σ : L2.St} {H H' : Hp} {s : Shared} {E : Value → Shared → Prop} {D : Addr} {y z : V} {u r : Value} {Q : Unit → Shared → Prop} (hu : X.A.units < cLine) (I : Inv X pins σ H s) (g : DPut H D y z H') (ry : L2.RelV y u) (rz : L2.RelV z r)
    (h : ∀ s', Inv X pins σ H' s' → Q () s') : wpAny (model X.prog X.w) X.A (dictSet D u r) Q E s := by
  rcases g with ⟨kvs, k, e, ey, l, eH⟩ | ⟨kvs, k, b, e, ey, eb, l, eH⟩
  · subst ey eH
    exact d_dictSet I e l ry rz h
  · subst ey eH
    obtain rfl : u = Value.ref b := ry
    obtain ⟨z1, nm, ys, rel, dd⟩ := dt_of I.hok e
    have l1 : ys.length ≤ sizeLine := by have := Paired.length rel; omega
    have l2 : (putK kvs k z).length ≤ sizeLine := by have := length_putK kvs k z; omega
    refine wpAny_dictSet_heap (hsz := l1) (knd := tupleKind (mixKind X.prog X.w)) hu (key_of I.hok eb) dd fun g' dd' sb => h _ ?_
    obtain ⟨q, es, ep, hq, a2, a3, a4, _, a5⟩ := dd'
    refine d_write I (by rw [e]; exact True.intro) sb ⟨q, hq⟩ ⟨l2, nm, _, (rel.put k eb rz).keeps fun c ys ec => ?_, q, es, ep, hq, a2, a3, a4, a5⟩
    exact (upd_ne (ne_of ec e (fun z => nomatch z))).trans ec
/-- {k: v for target in iter if ..}: o0 the new dict -/
def tDcP (o0 : HO) (wi : TI) (g : TG) (tt : TT) (tk tv : TE) (own : List Nat) : TE := fun σ H Q => wi σ H fun J H1 => ∀ D, H1 D = none → ∃ W : Nat → Nat → Hp → Prop, (∃ m, W 0 m (upd H1 D o0)) ∧ ∀ i m G, W i m G →
  (J.stop i G ∧ Q (.ref D) G) ∨ (J.go i G ∧ ∃ Nx : Hp → Prop, (∀ G', Nx G' → ∃ m', m' < m ∧ W (i + 1) m' G') ∧ ∀ x G', J.yld i G x G' → g x (wipe σ own) G' fun σ2 G2 => wipe σ2 own = wipe σ own ∧ tt σ2 G2 fun b G3 =>
    if b = true then tk σ2 G3 fun y G4 => tv σ2 G4 fun z G5 => ∃ G6, DPut G5 D y z G6 ∧ Nx G6 else Nx G3)
theorem dcP_core {X : Cx} {o0 : HO} (ho : o0 = .dK [] ∨ o0 = .dT []) {pins : List (Addr × Obj)} {s : Shared} {σ : L2.St} {H : Hp} {Q : VK} {ke ve te it0 : Expr} {ifs : List Expr} {sc : Scope} {own : List (Str × Nat)} {p1 p2 : Pos} {wi : TI} {g : TG} {tt : TT} {tk tv : TE} {use : Option (Value → Sem Unit)} {Qf : Value → Shared → Prop}
    (calm : X.calm = true) (hu : X.A.units < cLine) (nd : X.N.Nodup) (I : Inv X pins σ H s) (pi : PI X te it0 wi) (ok : BlkOk X.N X.env.scope sc own)
    (pg : ∀ (s : Shared) (H : Hp) (C : Addr) (cl : List (Str × Addr)) (fp : List Addr), PG (X.blk s H sc (compEnvC sc cl C X.env) fp) te g) (pt : ∀ (s : Shared) (H : Hp) (C : Addr) (cl : List (Str × Addr)) (fp : List Addr), PTs (X.blk s H sc (compEnvC sc cl C X.env) fp) ifs tt)
    (pk : ∀ (s : Shared) (H : Hp) (C : Addr) (cl : List (Str × Addr)) (fp : List Addr), PE (X.blk s H sc (compEnvC sc cl C X.env) fp) ke tk)
    (pv : ∀ (s : Shared) (H : Hp) (C : Addr) (cl : List (Str × Addr)) (fp : List Addr), PE (X.blk s H sc (compEnvC sc cl C X.env) fp) ve tv) (fs : ∀ x, foldedSetIterable it0 X.env x = pure x)
    (h : tDcP o0 wi g tt tk tv (own.map (·.2)) σ H Q)
    (fin : ∀ D C s' m H', Inv X pins σ H' s' → Q (.ref D) H' → s'.heap.Ns C m → FpOk X pins H' C → compPost (model X.prog X.w) X.A X.xe use Qf (.ref D) C (.ok .next) s') :
    wpAny (model X.prog X.w) X.A (comprehension (.DictComp ke ve [⟨te, it0, ifs, 0⟩] sc p1) sc X.env p2 newDict false (eval it0 X.env) use) Qf X.xe s := by
  have fr : ∀ y ∈ sc.names, y.2 = .free → ∃ c, X.env.cells.lookup y.1 = some c := fun y hy e => (ok.free y hy e).elim (fun k => I.ok.has _ (.inl k)) fun k => I.ok.has _ (.inr k)
  refine wpAny_comprehension_free (use := use) rfl fs (closure_ok fr) ok.kind (fun y hy e => by rw [ok.uniq y hy, e]) ?_
  refine thn (pi.run pins s σ H _ I h) fun xv t1 h1 => thn h1 fun itv t2 h2 => ?_
  obtain ⟨it, fp, tn, J, H2, rfl, I2, T, st2, f2, q⟩ := h2
  refine wpAny_newObj_type (newEnv_comp ?_)
  obtain ⟨D, hD⟩ : ∃ D, t2.heap.objs.size = D := ⟨_, rfl⟩
  have Dn : H2 D = none := I2.hok.fresh (Nat.le_of_eq hD)
  obtain ⟨W, ⟨m0, w0⟩, turn⟩ := q D Dn
  obtain ⟨t3, ht3⟩ : ∃ t3 : Shared, t3 = { t2 with heap := t2.heap.push { cls := .type "dict", data := .dict #[] } } := ⟨_, rfl⟩
  have kp3 : ∀ {b : Addr} {o : Obj}, t2.heap.get? b = some o → t3.heap.get? b = some o := fun e => by rw [ht3]; exact Heap.get?_push_of_some _ e
  have sz3 : t3.heap.objs.size = t2.heap.objs.size + 1 := by rw [ht3]; exact Heap.size_push ..
  have I3 : Inv X pins σ (upd H2 D o0) t3 := by
    have new : ObjOk X.prog X.w (upd H2 D o0) t3.heap D o0 := by
      rw [ht3, ← hD]
      rcases ho with rfl | rfl
      · exact dk_empty t2.heap I2.big
      · exact dt_empty t2.heap I2.big
    rw [ht3] at new ⊢
    exact I2.laid (t' := t2.toks) (fun b o e => Heap.get?_push_of_some _ e) (Nat.le_of_eq hD) new
  have f3 : ∀ b ∈ fp, FpOk X pins (upd H2 D o0) b ∧ b < t3.heap.objs.size := fun b hb => by
    obtain ⟨o, e, _⟩ := T.obj _ _ st2 b hb
    have lt := Heap.lt_size e
    exact ⟨⟨(upd_ne (by rw [← hD]; exact Nat.ne_of_lt lt)).trans (f2 b hb).1, (f2 b hb).2⟩, by rw [sz3]; exact Nat.lt_succ_of_lt lt⟩
  have st3 : tn 0 t3.heap := T.keep _ _ _ st2 fun b _ o e => kp3 e
  have I4 := block_start I3 ok nd f3
  obtain ⟨cl, hcl⟩ : ∃ cl, cl = cellsFrom (t3.heap.objs.size + 1) sc.names (cloFrom X.env.cells sc.names []) := ⟨_, rfl⟩
  rw [← hcl] at I4
  have g1 := pg t3 (upd H2 D o0) t3.heap.objs.size cl fp
  have g2 := pt t3 (upd H2 D o0) t3.heap.objs.size cl fp
  have g3 := pk t3 (upd H2 D o0) t3.heap.objs.size cl fp
  have g4 := pv t3 (upd H2 D o0) t3.heap.objs.size cl fp
  rw [← ht3, ← hcl, hD]
  show codeAny _ _ (.compStart (.DictComp ke ve [⟨te, it0, ifs, 0⟩] sc p1) 0 (.ref it) (.ref D) (compEnvC sc cl t3.heap.objs.size X.env)) (compPost (model X.prog X.w) X.A X.xe use Qf (.ref D) t3.heap.objs.size) { t3 with heap := pushCells (t3.heap.push { cls := .type "dict", data := .dict #[] }) sc.names }
  have nf : ∀ b ∈ fp, upd H2 D o0 b = none := fun b hb => (f3 b hb).1.1
  obtain ⟨ce, hce⟩ : ∃ ce, ce = compEnvC sc cl t3.heap.objs.size X.env := ⟨_, rfl⟩
  rw [← hce] at I4 g1 g2 g3 g4 ⊢
  have cL : ce.locals = t3.heap.objs.size := by rw [hce]; rfl
  generalize upd H2 D o0 = H3 at I3 I4 g1 g2 g3 g4 w0 nf f3
  obtain ⟨t4, ht4⟩ : ∃ t4 : Shared, t4 = { t3 with heap := pushCells (t3.heap.push { cls := .type "dict", data := .dict #[] }) sc.names } := ⟨_, rfl⟩
  rw [← ht4] at I4 ⊢
  have st4 : tn 0 t4.heap := T.keep _ _ _ st3 fun b _ o e => by rw [ht4]; exact pushCells_keeps _ _ _ _ (Heap.get?_push_of_some _ e)
  have fps : ∀ {σ' : L2.St} {H' : Hp} {s' : Shared}, Inv (X.blk t3 H3 sc ce fp) [] σ' H' s' → (∀ b ∈ fp, H' b = none) → ∀ b ∈ fp, FpOk (X.blk t3 H3 sc ce fp) [] H' b := fun {_ _ _} I' hn b hb =>
    ⟨hn b hb, (I'.ok.exf b hb).1, I'.ok.exfs b hb, .inl hb, fun x c e => (I'.ok.exf b hb).2 x c e, fun p hp => by cases hp⟩
  have loop : codeAny (model X.prog X.w) X.A (.compLoop (.DictComp ke ve [⟨te, it0, ifs, 0⟩] sc p1) 0 (.ref it) (.ref D) ce) (compPost (model X.prog X.w) X.A X.xe use Qf (.ref D) t3.heap.objs.size) t4 := by
    refine compLoop_anyD (fun n s' => ∃ i G, Inv (X.blk t3 H3 sc ce fp) [] (wipe σ (own.map (·.2))) G s' ∧ tn i s'.heap ∧ (∀ b ∈ fp, G b = none) ∧ W i n G) ?_ m0 ⟨0, H3, I4, st4, nf, w0⟩
    rintro n t5 ⟨i, G5, I5, st5, n5, w5⟩
    rcases turn i n G5 w5 with ⟨stop, qq⟩ | ⟨go, Nx, hNx, step⟩
    · refine thnF (T.done (X.blk t3 H3 sc ce fp) rfl rfl rfl calm i [] t5 _ G5 (fun _ _ => False) I5 (fps I5 n5) st5 stop) fun r t6 ⟨hr, I6⟩ => ?_
      subst hr
      have I7 : Inv X pins σ G5 t6 := I3.call' (ch := fp) I6.os I6.base I6.hok I6.bare fun b hb => let z := (f3 b hb).1.2; ⟨z.2.2.1, z.1, z.2.2.2.1, z.2.2.2.2⟩
      have nC : G5 t3.heap.objs.size = none := by
        have z : G5 ce.locals = none := I6.free
        rwa [cL] at z
      obtain ⟨m, hn, _⟩ := I6.loc
      have hn : t6.heap.Ns ce.locals m := hn
      rw [cL] at hn
      exact fin D t3.heap.objs.size t6 m G5 I7 qq hn (I3.fpOk (Nat.le_refl _) nC)
    · refine thnF (T.item (X.blk t3 H3 sc ce fp) rfl rfl rfl calm i [] t5 _ G5 (fun _ _ => False) I5 (fps I5 n5) st5 go) fun r t6 ⟨u, hr, h6⟩ => ?_
      subst hr
      refine thnF h6 fun _ t7 ⟨x, G7, I7, r7, y7, st7, n7⟩ => ?_
      have I7' := I7.pinned (fps I7 n7) (T.obj _ _ st7)
      refine thnF (g1.run _ t7 _ G7 x u _ I7' r7 (step x G7 y7)) fun _ t8 ⟨σ8, G8, I8, hw8, q8⟩ => ?_
      refine thnF (g2.run _ t8 σ8 G8 _ I8 q8) fun b t9 ⟨G9, I9, q9⟩ => ?_
      have last : ∀ {s' : Shared} {G : Hp}, Inv (X.blk t3 H3 sc ce fp) ([] ++ pinsAt fp t7.heap) σ8 G s' → Nx G → ∃ m, m < n ∧ ∃ i G, Inv (X.blk t3 H3 sc ce fp) [] (wipe σ (own.map (·.2))) G s' ∧ tn i s'.heap ∧ (∀ b ∈ fp, G b = none) ∧ W i m G := fun {s' G} I' nx => by
        obtain ⟨m', hm, w'⟩ := hNx G nx
        have pin' : ∀ b ∈ fp, ∀ o, t7.heap.get? b = some o → s'.heap.get? b = some o ∧ G b = none := fun b hb o e => by
          have z := I'.pin (b, o) (List.mem_append_right _ (List.mem_append_right _ (mem_pinsAt hb e)))
          exact ⟨z.1, z.2.1⟩
        refine ⟨m', hm, i + 1, G, (I'.unpinned (pins := [])).weak (by rw [← hw8, wipe_length]) (fun j v e => ?_), T.keep _ _ _ st7 fun b hb o e => (pin' b hb o e).1, fun b hb => ?_, w'⟩
        · rw [← hw8] at e
          exact (wipe_some e).1
        · obtain ⟨o, e, _⟩ := T.obj _ _ st7 b hb
          exact (pin' b hb o e).2
      cases b with
      | false =>
        simp only [Bool.false_eq_true, if_false] at q9 ⊢
        exact last I9 q9
      | true =>
        simp only [if_true] at q9 ⊢
        refine thnF (g3.run _ t9 σ8 G9 _ I9 q9) fun z t10 ⟨yk, G10, I10, r10, q10⟩ => ?_
        refine thnF (g4.run _ t10 σ8 G10 _ I10 q10) fun z2 t11 ⟨yv, G11, I11, r11, G12, put, nx⟩ => ?_
        exact put_set (X := X.blk t3 H3 sc ce fp) hu I11 put r10 r11 fun t12 I12 => last I12 nx
  exact codeAny_compStart_dict loop (T.self X.A 0 _ _ _ st4 loop)
/-- as a value -/
theorem pe_dcP {X : Cx} {o0 : HO} (ho : o0 = .dK [] ∨ o0 = .dT []) {ke ve te it0 : Expr} {ifs : List Expr} {sc : Scope} {own : List (Str × Nat)} {pos : Pos} {wi : TI} {g : TG} {tt : TT} {tk tv : TE} (calm : X.calm = true) (hu : X.A.units < cLine) (nd : X.N.Nodup) (pi : PI X te it0 wi) (ok : BlkOk X.N X.env.scope sc own)
    (pg : ∀ (s : Shared) (H : Hp) (C : Addr) (cl : List (Str × Addr)) (fp : List Addr), PG (X.blk s H sc (compEnvC sc cl C X.env) fp) te g) (pt : ∀ (s : Shared) (H : Hp) (C : Addr) (cl : List (Str × Addr)) (fp : List Addr), PTs (X.blk s H sc (compEnvC sc cl C X.env) fp) ifs tt)
    (pk : ∀ (s : Shared) (H : Hp) (C : Addr) (cl : List (Str × Addr)) (fp : List Addr), PE (X.blk s H sc (compEnvC sc cl C X.env) fp) ke tk)
    (pv : ∀ (s : Shared) (H : Hp) (C : Addr) (cl : List (Str × Addr)) (fp : List Addr), PE (X.blk s H sc (compEnvC sc cl C X.env) fp) ve tv) (fs : ∀ x, foldedSetIterable it0 X.env x = pure x := by intro _; rfl) :
    PE X (.DictComp ke ve [⟨te, it0, ifs, 0⟩] sc pos) (tDcP o0 wi g tt tk tv (own.map (·.2))) := by
  refine ⟨fun pins s σ H Q I h => ?_⟩
  rw [arm_eval_DictComp]
  refine dcP_core ho calm hu nd I pi ok pg pt pk pv fs h fun D C s' m H' I' q hn f => ⟨m, hn, fun g' sb => ?_⟩
  obtain ⟨f0, f1, f2, f3, f4, f5⟩ := f
  exact ⟨.ref D, H', I'.turned (t' := s'.toks) (fun b o hb e => (sb.2 b hb).trans e) f0 f1 f3 f4 f5, rfl, q⟩
/-- over what is walked -/
theorem dcP_it {J : It} {n : Nat} {G : Hp → Prop} {Y : Nat → Hp → V → Hp → Prop} (w : Walk J n G Y) {o0 : HO} {g : TG} {tt : TT} {tk tv : TE} {vs : List Nat} {σ : L2.St} {H1 : Hp} {D : Addr} {Qd : Hp → Prop} (Pv : Nat → Hp → Prop) (h0 : Pv 0 (upd H1 D o0)) (hG : ∀ i H, i ≤ n → Pv i H → G H)
    (hs : ∀ i x H H', i < n → Pv i H → Y i H x H' → g x (wipe σ vs) H' fun σ2 H2 => wipe σ2 vs = wipe σ vs ∧ tt σ2 H2 fun b H3 =>
      if b = true then tk σ2 H3 fun y H4 => tv σ2 H4 fun z H5 => ∃ H6, DPut H5 D y z H6 ∧ Pv (i + 1) H6 else Pv (i + 1) H3) (hd : ∀ H, Pv n H → Qd H) :
    ∃ W : Nat → Nat → Hp → Prop, (∃ m, W 0 m (upd H1 D o0)) ∧ ∀ i m H, W i m H →
      (J.stop i H ∧ Qd H) ∨ (J.go i H ∧ ∃ Nx : Hp → Prop, (∀ H', Nx H' → ∃ m', m' < m ∧ W (i + 1) m' H') ∧ ∀ x H', J.yld i H x H' → g x (wipe σ vs) H' fun σ2 H2 => wipe σ2 vs = wipe σ vs ∧ tt σ2 H2 fun b H3 =>
        if b = true then tk σ2 H3 fun y H4 => tv σ2 H4 fun z H5 => ∃ H6, DPut H5 D y z H6 ∧ Nx H6 else Nx H3) := by
  refine ⟨fun i m H => (i ≤ n ∧ m = n - i) ∧ Pv i H, ⟨n, ⟨Nat.zero_le _, by simp⟩, h0⟩, ?_⟩
  rintro i m H ⟨⟨hi, rfl⟩, p⟩
  have q := hG i H hi p
  rcases Nat.lt_or_ge i n with lt | ge
  · exact .inr ⟨w.goes i H lt q, Pv (i + 1), fun H' p' => ⟨n - (i + 1), by omega, ⟨lt, rfl⟩, p'⟩, fun x H' y => hs i x H H' lt p (w.yields i H x H' lt q y)⟩
  · obtain rfl : i = n := Nat.le_antisymm hi ge
    exact .inl ⟨w.stops H q, hd H p⟩
end B5

/-! Xft: what is asked of walks over names that are tuples of ints. -/
namespace B5
open PySem PySem.Spec PyProof.Rows L2 Gd NdefX
def TupZ (H : Hp) (b : Addr) (k : List Int) : Prop := H b = some (.tup (k.map V.int))
theorem tupZ_rows {K : PySem.W.Frag} {H : Hp} : ∀ {as : List Addr} {l : List (List Int)}, Paired (TupZ H) as l → DpAll K H (as.map V.ref) (l.map dI)
  | _, _, .nil => .nil
  | _, _, .cons h t => .cons (dp_I (SqT.of h)) (tupZ_rows t)
def keyI (k : List Int) : List Key := k.map Sum.inl
theorem keyI_v (k : List Int) : (keyI k).map kV = k.map V.int := by
  unfold keyI
  rw [List.map_map]
  rfl
theorem keyI_inj {k k' : List Int} (h : keyI k = keyI k') : k = k' := by
  induction k generalizing k' with
  | nil => cases k' with
    | nil => rfl
    | cons y l => cases h
  | cons x k ih => cases k' with
    | nil => cases h
    | cons y l =>
      have h : Sum.inl x :: keyI k = Sum.inl y :: keyI l := h
      injection h with h1 h2
      rw [Sum.inl.inj h1, ih h2]
theorem TupZ.key {H : Hp} {b : Addr} {k : List Int} (h : TupZ H b k) : H b = some (.tup ((keyI k).map kV)) := by
  rw [keyI_v]
  exact h
/-- the dict tells the places of the tuples -/
structure DTn (H : Hp) (d : Addr) (st : List (List Int)) : Prop where
  ex : ∃ kvs : List (List Key × V), H d = some (.dT kvs) ∧ kvs.length ≤ st.length ∧ ∀ x : List Int, valV kvs (keyI x) = (ixOf st x).map fun i => V.int (i : Nat)
/-- a step from a tuple by a digit below p -/
def spStepT (Pk : List Int → Prop) (p : Nat) (lead : List Int → List (List Int)) : Sp := fun vs H Q _ => ∃ (b : Addr) (k : List Int) (d : Nat) (k' : List Int), vs = [.ref b, .int d] ∧ TupZ H b k ∧ Pk k ∧ d < p ∧ (lead k)[d]? = some k' ∧ ∀ H' b', More H H' → TupZ H' b' k' → Q (.ref b') H'
/-- what a walk over tuples tells -/
def ToldT (H : Hp) (t : Addr) (met : List (List Int)) (rows : List (List Nat)) : Prop := ∃ (ls lm : Addr) (as ts : List Addr), H t = some (.tup [.ref ls, .ref lm]) ∧ H ls = some (.lst (as.map V.ref)) ∧ Paired (TupZ H) as met ∧ H lm = some (.lst (ts.map V.ref)) ∧ Paired (TupN H) ts rows
/-- the walk from several names -/
def walkAll {α : Type} [DecidableEq α] (lead : α → List α) (N : Nat) (st0 : List α) : List α × List (List Nat) := walkB lead (N + 1) 0 st0 []
theorem walkAll_end {α : Type} [DecidableEq α] {lead : α → List α} {P : α → Prop} (cl : ∀ a, P a → ∀ b ∈ lead a, P b) {N : Nat} (bnd : ∀ l : List α, l.Nodup → (∀ x ∈ l, P x) → l.length ≤ N) {st0 : List α} (nd : st0.Nodup) (h0 : ∀ x ∈ st0, P x) :
    WalkI lead P st0 (walkAll lead N st0).1.length (walkAll lead N st0).1 (walkAll lead N st0).2 := by
  obtain ⟨m, h, e⟩ := walkB_end (st0 := st0) cl bnd (N + 1) 0 (st := st0) (rows := []) ⟨rfl, Nat.zero_le _, nd, h0, List.prefix_refl _, fun j _ _ hj => by omega⟩ (by omega)
  rw [e] at h
  exact h
def spXft (P : Program) (w : World) (K : PySem.W.Frag) (mg : Str → Option Value) (base : Heap) (k : Nat) : Sp := fun vs H Q _ => ∃ (a f : Addr) (p N : Nat) (as0 : List Addr) (st0 : List (List Int)) (lead : List Int → List (List Int)) (Pk : List Int → Prop) (pre : Hp → Prop), vs = [.ref a, .ref f, .int p, .non] ∧ H a = some (.lst (as0.map V.ref)) ∧ Paired (TupZ H) as0 st0 ∧ st0.Nodup ∧ (∀ x ∈ st0, Pk x) ∧ (∀ H', More H H' → pre H') ∧
  Lead P w K mg base k f pre (spStepT Pk p lead) ∧ (∀ s, Pk s → (lead s).length = p ∧ ∀ b ∈ lead s, Pk b) ∧ (∀ l : List (List Int), l.Nodup → (∀ x ∈ l, Pk x) → l.length ≤ N) ∧ N ≤ 1000000 ∧ p ≤ 1000 ∧ ∀ (H' : Hp) (t : Addr), More H H' → ToldT H' t (walkAll lead N st0).1 (walkAll lead N st0).2 → Q (.ref t) H'
def spXpt (P : Program) (w : World) (K : PySem.W.Frag) (mg : Str → Option Value) (base : Heap) (k : Nat) : Sp := fun vs H Q _ => ∃ (b f : Addr) (p N : Nat) (s0 : List Int) (lead : List Int → List (List Int)) (Pk : List Int → Prop) (pre : Hp → Prop), vs = [.ref b, .ref f, .int p, .non] ∧ TupZ H b s0 ∧ Pk s0 ∧ (∀ H', More H H' → pre H') ∧
  Lead P w K mg base k f pre (spStepT Pk p lead) ∧ (∀ s, Pk s → (lead s).length = p ∧ ∀ b ∈ lead s, Pk b) ∧ (∀ l : List (List Int), l.Nodup → (∀ x ∈ l, Pk x) → l.length ≤ N) ∧ N ≤ 1000000 ∧ p ≤ 1000 ∧ ∀ (H' : Hp) (t : Addr), More H H' → ToldT H' t (walkFrom lead N s0).1 (walkFrom lead N s0).2 → Q (.ref t) H'
/-- name = {k: v ..} on one line, the name a local, keys of either form -/
theorem ps_setDcP {X : Cx} {o0 : HO} (ho : o0 = .dK [] ∨ o0 = .dT []) {i : Nat} {y : Str} {py : Pos} {kx vx tg iter : Expr} {ifs : List Expr} {scope : Scope} {own : List (Str × Nat)} {pos spos : Pos} {wi : TI} {g : TG} {tt : TT} {tk tv : TE} (hc : X.calm = true) (hu : X.A.units < cLine) (hN : X.N.Nodup) (hy : X.N[i]? = some y) (hyl : X.env.scope.names.lookup y = some .local)
    (hsw : swapsWith (.DictComp kx vx [⟨tg, iter, ifs, 0⟩] scope pos) (some (.Name y py)) spos.line X.env = pure true) (hi : PI X tg iter wi) (ok : BlkOk X.N X.env.scope scope own)
    (hg : ∀ (s : Shared) (H : Hp) (C : Addr) (cl : List (Str × Addr)) (fp : List Addr), PG (X.blk s H scope (compEnvC scope cl C X.env) fp) tg g) (ht : ∀ (s : Shared) (H : Hp) (C : Addr) (cl : List (Str × Addr)) (fp : List Addr), PTs (X.blk s H scope (compEnvC scope cl C X.env) fp) ifs tt)
    (hk : ∀ (s : Shared) (H : Hp) (C : Addr) (cl : List (Str × Addr)) (fp : List Addr), PE (X.blk s H scope (compEnvC scope cl C X.env) fp) kx tk)
    (he : ∀ (s : Shared) (H : Hp) (C : Addr) (cl : List (Str × Addr)) (fp : List Addr), PE (X.blk s H scope (compEnvC scope cl C X.env) fp) vx tv) (hs : ∀ x, foldedSetIterable iter X.env x = pure x := by intro _; rfl) :
    PS X (.Assign [.Name y py] (.DictComp kx vx [⟨tg, iter, ifs, 0⟩] scope pos) spos) (tAsg (tDcP o0 wi g tt tk tv (own.map (·.2))) (gName i)) := by
  refine ⟨fun pins s σ H D I h => ?_⟩
  rw [exec_Assign_Name_used _ _ _ _ hsw]
  refine wpAny_bind (wpAny_standAt (wpAny_bind ?_))
  show wpAny _ X.A (do let _ ← comprehension (.DictComp kx vx [⟨tg, iter, ifs, 0⟩] scope pos) scope X.env (firstIterPos [⟨tg, iter, ifs, 0⟩] pos) newDict false (eval iter X.env) (some (assign (.Name y py) X.env))) _ _ s
  have h : tDcP o0 wi g tt tk tv (own.map (·.2)) σ H (fun x H1 => gName i x σ H1 D.nx) := h
  refine wpAny_bind (thn (dcP_core (Qf := fun _ s' => SP X pins D .next s') ho hc hu hN I hi ok hg ht hk he hs h fun L C s' m H' I' q hn f => ?_) fun _ s' hq => wpAny_pure (wpAny_pure hq))
  show wpAny _ _ (assign (.Name y py) X.env (.ref L)) _ _ _
  refine wpAny_assign_Name (store_ok2 (v := V.ref L) I' hN hy (.inl hyl) rfl (fun s2 I2 ⟨a, sb, ha⟩ => ?_) (.inr hyl))
  obtain ⟨f0, f1, f2, f3, f4, f5⟩ := f
  have haC : C ≠ a := by
    rcases ha with z | z
    · rw [z]; exact f1
    · exact fun e => f4 y a z e.symm
  refine ⟨m, hn.sameBut sb haC, fun h3 sb3 => ?_⟩
  exact ⟨_, H', I2.turned (t' := s2.toks) (fun b o hb e => (sb3.2 b hb).trans e) f0 f1 f3 f4 f5, q⟩
end B5

/-! MetA: walks over names of any kind as machines; when such a machine is its own least one. -/
namespace B5
open PySem L2
section
variable {α : Type} [DecidableEq α] {P : α → Prop} {p N : Nat} {sa : α → Nat → α} {a0 : α} {met : List α} {rows : List (List Nat)}
def leadA (p : Nat) (sa : α → Nat → α) (a : α) : List α := (List.range p).map (sa a)
def runA (sa : α → Nat → α) (a : α) (w : List Nat) : α := w.foldl sa a
theorem runA_app {a : α} {w : List Nat} {d : Nat} : runA sa a (w ++ [d]) = sa (runA sa a w) d := by
  unfold runA
  rw [List.foldl_append]
  rfl
theorem leadA_at {a : α} {d : Nat} (h : d < p) : (leadA p sa a)[d]? = some (sa a d) := by
  unfold leadA
  rw [List.getElem?_map, List.getElem?_range h]
  rfl
theorem leadA_len {a : α} : (leadA p sa a).length = p := by
  unfold leadA
  rw [List.length_map, List.length_range]
theorem leadA_mem {a b : α} (h : b ∈ leadA p sa a) : ∃ d, d < p ∧ b = sa a d := by
  unfold leadA at h
  obtain ⟨d, hd, e⟩ := List.mem_map.mp h
  exact ⟨d, List.mem_range.mp hd, e.symm⟩
/-- what is met, and where it leads -/
structure MetA (P : α → Prop) (p : Nat) (sa : α → Nat → α) (a0 : α) (met : List α) (rows : List (List Nat)) : Prop where
  len : rows.length = met.length
  first : met[0]? = some a0
  nd : met.Nodup
  all : ∀ a ∈ met, P a
  row : ∀ (i : Nat) (r : List Nat), rows[i]? = some r → r.length = p
  led : ∀ (i : Nat) (a : α) (d : Nat), met[i]? = some a → d < p → tab rows i d < met.length ∧ met[tab rows i d]? = some (sa a d)
  reach : ∀ a ∈ met, ∃ w, Dg p w ∧ runA sa a0 w = a
theorem metA_of (cl : ∀ a d, P a → d < p → P (sa a d)) (bnd : ∀ l : List α, l.Nodup → (∀ x ∈ l, P x) → l.length ≤ N) (h0 : P a0) : MetA P p sa a0 (walkFrom (leadA p sa) N a0).1 (walkFrom (leadA p sa) N a0).2 := by
  have h := walkFrom_end (lead := leadA p sa) (P := fun a => P a ∧ ∃ w, Dg p w ∧ runA sa a0 w = a) (fun a ha b hb => by
    obtain ⟨d, hd, rfl⟩ := leadA_mem hb
    obtain ⟨w, hw, e⟩ := ha.2
    exact ⟨cl a d ha.1 hd, w ++ [d], Dg.snoc.mpr ⟨hw, hd⟩, by rw [runA_app, e]⟩) (N := N) (fun l nd al => bnd l nd fun x hx => (al x hx).1) (a := a0) ⟨h0, [], (fun _ h => nomatch h), rfl⟩
  generalize walkFrom (leadA p sa) N a0 = W at h ⊢
  refine ⟨h.len, pre_at h.pre rfl, h.nd, fun a ha => (h.all a ha).1, fun i r e => ?_, fun i s d e hd => ?_, fun a ha => (h.all a ha).2⟩
  · have lt := (List.getElem?_eq_some_iff.mp e).1
    rw [h.len] at lt
    have := (h.ok i _ r lt (List.getElem?_eq_getElem lt) e).1
    rw [this, leadA_len]
  · have lt := (List.getElem?_eq_some_iff.mp e).1
    have er : W.2[i]? = some (W.2[i]'(by rw [h.len]; exact lt)) := List.getElem?_eq_getElem (by rw [h.len]; exact lt)
    obtain ⟨k, e1, e2⟩ := (h.ok i s _ lt e er).2 d _ (leadA_at hd)
    have ek : tab W.2 i d = k := by
      have e0 : W.2.getD i [] = W.2[i]'(by rw [h.len]; exact lt) := by
        rw [List.getD_eq_getElem?_getD, er]
        rfl
      unfold tab
      rw [e0, List.getD_eq_getElem?_getD, e1]
      rfl
    rw [ek]
    exact ⟨(List.getElem?_eq_some_iff.mp e2).1, e2⟩
theorem MetA.run (M : MetA P p sa a0 met rows) : ∀ (w : List Nat) (i : Nat) (a : α), met[i]? = some a → Dg p w → met[runW (tab rows) i w]? = some (runA sa a w)
  | [], i, a, e, _ => e
  | d :: w, i, a, e, hw => MetA.run M w _ _ (M.led i a d e (hw d (.head _))).2 fun x hx => hw x (.tail _ hx)
theorem MetA.pos (M : MetA P p sa a0 met rows) : 0 < met.length := (List.getElem?_eq_some_iff.mp M.first).1
theorem MetA.cl (M : MetA P p sa a0 met rows) : ∀ s d, s < met.length → d < p → tab rows s d < met.length := fun s d hs hd => (M.led s _ d (List.getElem?_eq_getElem hs) hd).1
theorem MetA.rch (M : MetA P p sa a0 met rows) {i : Nat} (hi : i < met.length) : Rch p (tab rows) i := by
  obtain ⟨w, hw, e⟩ := M.reach _ (List.getElem_mem hi)
  have r := M.run w 0 a0 M.first hw
  rw [e] at r
  have lt := (List.getElem?_eq_some_iff.mp r).1
  exact ⟨w, hw, (List.getElem?_inj lt M.nd).mp (by rw [r, List.getElem?_eq_getElem hi])⟩
theorem MetA.fine (M : MetA P p sa a0 met rows) {U : List Int} (hU : U.length = met.length) : Fine met.length p rows U := by
  refine ⟨by rw [M.len]; exact M.pos, by rw [M.len]; exact Nat.le_refl _, fun r hr => ?_, by rw [hU, M.len]⟩
  obtain ⟨i, hi⟩ := List.getElem?_of_mem hr
  have lr := M.row i r hi
  refine ⟨lr, fun x hx => ?_⟩
  obtain ⟨d, hd⟩ := List.getElem?_of_mem hx
  have ld := (List.getElem?_eq_some_iff.mp hd).1
  have li := (List.getElem?_eq_some_iff.mp hi).1
  rw [M.len] at li
  have := M.cl i d li (by omega)
  have e : tab rows i d = x := by
    unfold tab
    rw [List.getD_eq_getElem?_getD (l := rows), hi]
    show r.getD d 0 = x
    rw [List.getD_eq_getElem?_getD, hd]
    rfl
  rw [e] at this
  rw [M.len]
  exact this
/-- its own walk names its states as they stand -/
theorem selfA (cl : ∀ a d, P a → d < p → P (sa a d)) (bnd : ∀ l : List α, l.Nodup → (∀ x ∈ l, P x) → l.length ≤ N) (h0 : P a0) (M : MetA P p sa a0 met rows) (e : walkFrom (leadA p sa) N a0 = (met, rows)) {L : Nat} (hL : met.length ≤ L) :
    walkFrom (leadS p (tab rows)) L 0 = (List.range met.length, rows) := by
  have clA : ∀ a, P a → ∀ b ∈ leadA p sa a, P b := fun a ha b hb => by
    obtain ⟨d, hd, rfl⟩ := leadA_mem hb
    exact cl a d ha hd
  have clN : ∀ a, a < met.length → ∀ b ∈ leadS p (tab rows) a, b < met.length := fun a ha b hb => by
    obtain ⟨d, hd, rfl⟩ := leadS_mem hb
    exact M.cl a d ha hd
  have big : walkFrom (leadS p (tab rows)) L 0 = walkFrom (leadS p (tab rows)) (L + N) 0 := by
    rw [walkFrom_more (lead := leadS p (tab rows)) (P := fun x => x < met.length) clN (N := met.length) (fun l nd al => nodup_below _ l nd al) M.pos hL, walkFrom_more (lead := leadS p (tab rows)) (P := fun x => x < met.length) clN (N := met.length) (fun l nd al => nodup_below _ l nd al) M.pos (M := L + N) (by omega)]
  have big2 : walkFrom (leadA p sa) (L + N) a0 = (met, rows) := by
    rw [walkFrom_more clA bnd h0 (M := L + N) (by omega), e]
  have o : One (fun (i : Nat) (a : α) => met[i]? = some a) := by
    intro i a j b hi hj
    constructor
    · rintro rfl
      rw [hi] at hj
      exact Option.some.inj hj
    · rintro rfl
      exact (List.getElem?_inj (List.getElem?_eq_some_iff.mp hi).1 M.nd).mp (by rw [hi, hj])
  have fg : ∀ (i : Nat) (a : α), met[i]? = some a → Par (fun (i : Nat) (a : α) => met[i]? = some a) (leadS p (tab rows) i) (leadA p sa a) := by
    intro i a hi
    unfold leadS leadA
    have go : ∀ l : List Nat, (∀ d ∈ l, d < p) → Par (fun (i : Nat) (a : α) => met[i]? = some a) (l.map (tab rows i)) (l.map (sa a)) := by
      intro l
      induction l with
      | nil => exact fun _ => .nil
      | cons d l ih => exact fun hl => .cons (M.led i a d hi (hl d (.head _))).2 (ih fun x hx => hl x (.tail _ hx))
    exact go _ fun d hd => List.mem_range.mp hd
  obtain ⟨h1, h2⟩ := walkB_par o fg (L + N + 1) 0 (l := [0]) (m := [a0]) [] (.cons M.first .nil)
  have h1 : Par (fun (i : Nat) (a : α) => met[i]? = some a) (walkFrom (leadS p (tab rows)) (L + N) 0).1 (walkFrom (leadA p sa) (L + N) a0).1 := h1
  have h2 : (walkFrom (leadS p (tab rows)) (L + N) 0).2 = (walkFrom (leadA p sa) (L + N) a0).2 := h2
  rw [big]
  rw [big2] at h1 h2
  have e1 : (walkFrom (leadS p (tab rows)) (L + N) 0).1 = List.range met.length := by
    apply List.ext_getElem?
    intro j
    rcases h1.at j with ⟨x1, x2⟩ | ⟨i, a, x1, x2, r⟩
    · rw [x1, List.getElem?_eq_none (by rw [List.length_range]; exact List.getElem?_eq_none_iff.mp x2)]
    · have lj := (List.getElem?_eq_some_iff.mp x2).1
      have x2 : met[j]? = some a := x2
      have : i = j := (List.getElem?_inj (List.getElem?_eq_some_iff.mp r).1 M.nd).mp (by rw [r, x2])
      rw [x1, this, List.getElem?_range lj]
  exact Prod.ext e1 h2
/-- where words tell its states apart it is its own least machine -/
theorem leastA (cl : ∀ a d, P a → d < p → P (sa a d)) (bnd : ∀ l : List α, l.Nodup → (∀ x ∈ l, P x) → l.length ≤ N) (h0 : P a0) (M : MetA P p sa a0 met rows) (e : walkFrom (leadA p sa) N a0 = (met, rows)) {U : List Int} (hU : U.length = met.length)
    (apart : ∀ i j, i < met.length → j < met.length → Alike1 p (tab rows) (valL U) i j → i = j) : LeastOf met.length p (tab rows) (valL U) rows U := by
  refine ⟨M.pos, M.cl, id, id, ⟨fun s t _ _ q d _ => by rw [show s = t from q], fun s t _ _ q => by rw [show s = t from q]⟩, fun s t hs ht h => apart s t hs ht h, fun s hs => hs, fun s hs => ⟨hs, rfl⟩, fun L hL => ?_⟩
  have lk : leadK p (tab rows) id id = leadS p (tab rows) := funext fun a => List.map_id _
  rw [lk]
  show rows = (walkFrom (leadS p (tab rows)) L 0).2 ∧ U = (walkFrom (leadS p (tab rows)) L 0).1.map fun a => valL U a
  rw [selfA cl bnd h0 M e hL]
  refine ⟨rfl, ?_⟩
  apply List.ext_getElem?
  intro i
  show U[i]? = ((List.range met.length).map fun a => valL U a)[i]?
  rw [List.getElem?_map]
  by_cases z : i < met.length
  · rw [List.getElem?_range z, List.getElem?_eq_getElem (by omega)]
    show some U[i] = some (U.getD i 0)
    rw [List.getD_eq_getElem?_getD, List.getElem?_eq_getElem (by omega)]
    rfl
  · rw [List.getElem?_eq_none (by omega), List.getElem?_eq_none (by rw [List.length_range]; omega)]
    rfl
end
section
variable {n p : Nat} {step : Nat → Nat → Nat} {val : Nat → Int} {R : List (List Nat)} {W : List Int}
/-- the states of a least machine are told apart by words -/
theorem LeastOf.apart (L : LeastOf n p step val R W) {i j : Nat} (hi : i < R.length) (hj : j < R.length) (a : Alike1 p (tab R) (valL W) i j) : i = j := by
  obtain ⟨c, rp, S, k, cb, hr, h⟩ := L.ex
  obtain ⟨e1, e2⟩ := h n (Nat.le_refl _)
  have nd : (walkFrom (leadK p step c rp) n (c 0)).1.Nodup := (walkFrom_end (lead := leadK p step c rp) (P := fun a => ∃ s, s < n ∧ a = c s) (fun a ⟨s, hs, ea⟩ b hb => by
    obtain ⟨x, hx, rfl⟩ := List.mem_map.mp hb
    obtain ⟨d, hd, rfl⟩ := leadS_mem hx
    subst ea
    exact ⟨_, L.cl _ d (hr s hs).1 hd, rfl⟩) (N := n) (fun l nd al => nodup_below n l nd fun x hx => by
      obtain ⟨s, hs, rfl⟩ := al x hx
      exact cb s hs) (a := c 0) ⟨0, L.n0, rfl⟩).nd
  have M := (metC_of L.cl L.n0 cb hr).1
  generalize walkFrom (leadK p step c rp) n (c 0) = Z at e1 e2 M nd
  subst e1 e2
  rw [M.len] at hi hj
  have key : ∀ (w : List Nat), (∀ d ∈ w, d < p) → ∀ (i s : Nat), s < n → Z.1[i]? = some (c s) → valL (Z.1.map fun a => val (rp a)) (runW (tab Z.2) i w) = val (runW step s w) := by
    intro w
    induction w with
    | nil =>
      intro _ i s hs hi
      show (Z.1.map fun a => val (rp a)).getD i 0 = val s
      rw [List.getD_eq_getElem?_getD, List.getElem?_map, hi]
      exact S.tell _ _ (hr s hs).1 hs (hr s hs).2
    | cons d w ih =>
      intro hw i s hs hi
      have hd := hw d (.head _)
      refine ih (fun x hx => hw x (.tail _ hx)) (tab Z.2 i d) (step s d) (L.cl s d hs hd) ?_
      rw [(M.led i _ d hi hd).2, S.keep _ _ (hr s hs).1 hs (hr s hs).2 d hd]
  obtain ⟨s, hs, es⟩ := M.all _ (List.getElem_mem hi)
  obtain ⟨t, ht, et⟩ := M.all _ (List.getElem_mem hj)
  have ei : Z.1[i]? = some (c s) := by rw [List.getElem?_eq_getElem hi, es]
  have ej : Z.1[j]? = some (c t) := by rw [List.getElem?_eq_getElem hj, et]
  have : c s = c t := (moore L.cl S k hs ht).mpr fun w hw => by
    rw [← key w hw i s hs ei, ← key w hw j t ht ej]
    exact a w hw
  exact (List.getElem?_inj hi nd).mp (by rw [ei, ej, this])
theorem LeastFor.apart (L : LeastFor p step val R W) {i j : Nat} (hi : i < R.length) (hj : j < R.length) (a : Alike1 p (tab R) (valL W) i j) : i = j := by
  obtain ⟨_, _, _, L, _⟩ := L.ex
  exact L.apart hi hj a
end
end B5

/-! Pairs: two machines side by side. -/
namespace B5
open PySem L2
section
variable {p n m : Nat} {f g : Nat → Nat → Nat} {v1 v2 : Nat → Int}
def stepP (f g : Nat → Nat → Nat) (k : List Int) (d : Nat) : List Int := match k with
  | [s, t] => [((f s.toNat d : Nat) : Int), ((g t.toNat d : Nat) : Int)]
  | k => k
def PkP (n m : Nat) (k : List Int) : Prop := ∃ s t : Nat, k = [(s : Int), (t : Int)] ∧ s < n ∧ t < m
theorem stepP_at {s t d : Nat} : stepP f g [(s : Int), (t : Int)] d = [((f s d : Nat) : Int), ((g t d : Nat) : Int)] := by
  show [((f ((s : Int)).toNat d : Nat) : Int), ((g ((t : Int)).toNat d : Nat) : Int)] = _
  rw [Int.toNat_natCast, Int.toNat_natCast]
theorem pk_cl (cf : ∀ s d, s < n → d < p → f s d < n) (cg : ∀ s d, s < m → d < p → g s d < m) : ∀ a d, PkP n m a → d < p → PkP n m (stepP f g a d) := by
  rintro a d ⟨s, t, rfl, hs, ht⟩ hd
  exact ⟨_, _, stepP_at, cf s d hs hd, cg t d ht hd⟩
def codeP (m : Nat) (k : List Int) : Nat := match k with
  | [s, t] => s.toNat * m + t.toNat
  | _ => 0
theorem pk_bnd (l : List (List Int)) (nd : l.Nodup) (al : ∀ x ∈ l, PkP n m x) : l.length ≤ n * m := by
  have nd2 : (l.map (codeP m)).Nodup := by
    unfold List.Nodup
    rw [List.pairwise_map]
    refine nd.imp_of_mem fun {a b} ha hb ne e => ?_
    obtain ⟨s, t, rfl, hs, ht⟩ := al _ ha
    obtain ⟨s', t', rfl, hs', ht'⟩ := al _ hb
    have e : ((s : Int)).toNat * m + ((t : Int)).toNat = ((s' : Int)).toNat * m + ((t' : Int)).toNat := e
    rw [Int.toNat_natCast, Int.toNat_natCast, Int.toNat_natCast, Int.toNat_natCast] at e
    have e1 : s = s' := by
      have h1 : (s * m + t) / m = s := by rw [Nat.mul_comm, Nat.mul_add_div (by omega), Nat.div_eq_of_lt ht, Nat.add_zero]
      have h2 : (s' * m + t') / m = s' := by rw [Nat.mul_comm, Nat.mul_add_div (by omega), Nat.div_eq_of_lt ht', Nat.add_zero]
      rw [← h1, e, h2]
    subst e1
    have e2 : t = t' := by omega
    exact ne (by rw [e2])
  have := nodup_below (n * m) _ nd2 fun x hx => by
    obtain ⟨k, hk, rfl⟩ := List.mem_map.mp hx
    obtain ⟨s, t, rfl, hs, ht⟩ := al _ hk
    show ((s : Int)).toNat * m + ((t : Int)).toNat < n * m
    rw [Int.toNat_natCast, Int.toNat_natCast]
    have : (s + 1) * m ≤ n * m := Nat.mul_le_mul_right m hs
    rw [Nat.add_mul, Nat.one_mul] at this
    omega
  rwa [List.length_map] at this
theorem runP : ∀ (w : List Nat) (s t : Nat), runA (stepP f g) [(s : Int), (t : Int)] w = [((runW f s w : Nat) : Int), ((runW g t w : Nat) : Int)]
  | [], s, t => rfl
  | d :: w, s, t => by
    show runA (stepP f g) (stepP f g [(s : Int), (t : Int)] d) w = _
    rw [stepP_at, runP w]
    rfl
/-- the pairs that are met, and where they lead -/
def prodW (p n m : Nat) (f g : Nat → Nat → Nat) : List (List Int) × List (List Nat) := walkFrom (leadA p (stepP f g)) (n * m) [0, 0]
theorem pk_zero (n0 : 0 < n) (m0 : 0 < m) : PkP n m [0, 0] := ⟨0, 0, rfl, n0, m0⟩
theorem prod_met (cf : ∀ s d, s < n → d < p → f s d < n) (cg : ∀ s d, s < m → d < p → g s d < m) (n0 : 0 < n) (m0 : 0 < m) : MetA (PkP n m) p (stepP f g) [0, 0] (prodW p n m f g).1 (prodW p n m f g).2 :=
  metA_of (pk_cl cf cg) pk_bnd (pk_zero n0 m0)
/-- the pair of worths -/
def tellP (v1 v2 : Nat → Int) (k : List Int) : List Int := match k with
  | [s, t] => [v1 s.toNat, v2 t.toNat]
  | k => k
theorem tellP_at {s t : Nat} : tellP v1 v2 [(s : Int), (t : Int)] = [v1 s, v2 t] := by
  show [v1 ((s : Int)).toNat, v2 ((t : Int)).toNat] = _
  rw [Int.toNat_natCast, Int.toNat_natCast]
def idxP (ps : List (List Int)) (k : List Int) : Int := (((ixOf ps k).getD 0 : Nat) : Int)
theorem idxP_inj {ps : List (List Int)} {a b : List Int} (ha : a ∈ ps) (hb : b ∈ ps) (e : idxP ps a = idxP ps b) : a = b := by
  unfold idxP at e
  cases h1 : ixOf ps a with
  | none => exact absurd ha (ixOf_none h1)
  | some i =>
    cases h2 : ixOf ps b with
    | none => exact absurd hb (ixOf_none h2)
    | some j =>
      rw [h1, h2] at e
      have e : ((i : Nat) : Int) = ((j : Nat) : Int) := e
      have x1 := ixOf_some h1
      have x2 := ixOf_some h2
      rw [show i = j by omega, x2] at x1
      exact (Option.some.inj x1).symm
section
variable {met : List (List Int)} {rows : List (List Nat)} {ps : List (List Int)}
theorem prod_run (M : MetA (PkP n m) p (stepP f g) [0, 0] met rows) {w : List Nat} (hw : Dg p w) : met[runW (tab rows) 0 w]? = some [((runW f 0 w : Nat) : Int), ((runW g 0 w : Nat) : Int)] := by
  rw [M.run w 0 _ M.first hw]
  exact congrArg some (runP w 0 0)
theorem prod_tell (M : MetA (PkP n m) p (stepP f g) [0, 0] met rows) {w : List Nat} (hw : Dg p w) (h : List Int → Int) : valL (met.map fun k => h (tellP v1 v2 k)) (runW (tab rows) 0 w) = h [v1 (runW f 0 w), v2 (runW g 0 w)] := by
  unfold valL
  rw [List.getD_eq_getElem?_getD, List.getElem?_map, prod_run M hw]
  show h (tellP v1 v2 _) = _
  rw [tellP_at]
/-- words from a pair that is met -/
theorem prod_from (M : MetA (PkP n m) p (stepP f g) [0, 0] met rows) {i s t : Nat} (hi : met[i]? = some [(s : Int), (t : Int)]) {w : List Nat} (hw : Dg p w) (h : List Int → Int) : valL (met.map fun k => h (tellP v1 v2 k)) (runW (tab rows) i w) = h [v1 (runW f s w), v2 (runW g t w)] := by
  unfold valL
  rw [List.getD_eq_getElem?_getD, List.getElem?_map, M.run w i _ hi hw, runP]
  show h (tellP v1 v2 _) = _
  rw [tellP_at]
/-- two machines whose states words tell apart make one that is its own least -/
theorem prod_least (cf : ∀ s d, s < n → d < p → f s d < n) (cg : ∀ s d, s < m → d < p → g s d < m) (n0 : 0 < n) (m0 : 0 < m) (a1 : ∀ i j, i < n → j < n → Alike1 p f v1 i j → i = j) (a2 : ∀ i j, i < m → j < m → Alike1 p g v2 i j → i = j)
    (M : MetA (PkP n m) p (stepP f g) [0, 0] met rows) (e : prodW p n m f g = (met, rows)) (hp : ∀ k ∈ met, tellP v1 v2 k ∈ ps) :
    LeastOf met.length p (tab rows) (valL (met.map fun k => idxP ps (tellP v1 v2 k))) rows (met.map fun k => idxP ps (tellP v1 v2 k)) := by
  refine leastA (pk_cl cf cg) pk_bnd (pk_zero n0 m0) M e (by rw [List.length_map]) fun i j hi hj al => ?_
  obtain ⟨s, t, es, hs, ht⟩ := M.all _ (List.getElem_mem hi)
  obtain ⟨s', t', es', hs', ht'⟩ := M.all _ (List.getElem_mem hj)
  have ei : met[i]? = some [(s : Int), (t : Int)] := by rw [List.getElem?_eq_getElem hi, es]
  have ej : met[j]? = some [(s' : Int), (t' : Int)] := by rw [List.getElem?_eq_getElem hj, es']
  have key : ∀ w, Dg p w → [v1 (runW f s w), v2 (runW g t w)] = [v1 (runW f s' w), v2 (runW g t' w)] := fun w hw => by
    have h1 := prod_from (v1 := v1) (v2 := v2) M ei hw (idxP ps)
    have h2 := prod_from (v1 := v1) (v2 := v2) M ej hw (idxP ps)
    have h3 := al w hw
    rw [h1, h2] at h3
    have m1 := hp _ (List.mem_of_getElem? (M.run w i _ ei hw))
    have m2 := hp _ (List.mem_of_getElem? (M.run w j _ ej hw))
    rw [runP, tellP_at] at m1 m2
    exact idxP_inj m1 m2 h3
  have e1 : s = s' := a1 s s' hs hs' fun w hw => by
    have := key w hw
    simp only [List.cons.injEq, and_true] at this
    exact this.1
  have e2 : t = t' := a2 t t' ht ht' fun w hw => by
    have := key w hw
    simp only [List.cons.injEq, and_true] at this
    exact this.2
  subst e1 e2
  exact (List.getElem?_inj hi M.nd).mp (by rw [ei, ej])
/-- the worths that are told are those of words -/
theorem prod_mem (M : MetA (PkP n m) p (stepP f g) [0, 0] met rows) (k : List Int) : k ∈ met.map (tellP v1 v2) ↔ ∃ w, Dg p w ∧ k = [v1 (runW f 0 w), v2 (runW g 0 w)] := by
  rw [List.mem_map]
  constructor
  · rintro ⟨a, ha, rfl⟩
    obtain ⟨w, hw, e⟩ := M.reach a ha
    refine ⟨w, hw, ?_⟩
    have e2 : runA (stepP f g) [0, 0] w = _ := runP (f := f) (g := g) w 0 0
    rw [← e, e2, tellP_at]
  · rintro ⟨w, hw, rfl⟩
    exact ⟨_, List.mem_of_getElem? (prod_run M hw), tellP_at⟩
/-- a zero changes nothing -/
theorem prod_steady (M : MetA (PkP n m) p (stepP f g) [0, 0] met rows) (p0 : 0 < p) (s1 : ∀ s, s < n → v1 s = v1 (f s 0)) (s2 : ∀ s, s < m → v2 s = v2 (g s 0)) (h : List Int → Int) : ∀ i, i < met.length → valL (met.map fun k => h (tellP v1 v2 k)) i = valL (met.map fun k => h (tellP v1 v2 k)) (tab rows i 0) := fun i hi => by
  obtain ⟨s, t, es, hs, ht⟩ := M.all _ (List.getElem_mem hi)
  have ei : met[i]? = some [(s : Int), (t : Int)] := by rw [List.getElem?_eq_getElem hi, es]
  have z0 : Dg p [0] := fun x hx => by
    have : x = 0 := by simpa using hx
    omega
  have h1 := prod_from (v1 := v1) (v2 := v2) M ei (w := []) (fun _ z => nomatch z) h
  have h2 := prod_from (v1 := v1) (v2 := v2) M ei z0 h
  show _ = valL _ (runW (tab rows) i [0])
  rw [h2]
  have h1 : valL (met.map fun k => h (tellP v1 v2 k)) i = h [v1 s, v2 t] := h1
  rw [h1]
  show h [v1 s, v2 t] = h [v1 (f s 0), v2 (g t 0)]
  rw [← s1 s hs, ← s2 t ht]
end
/-- sorted lists with the same members are the same -/
theorem sorted_one : ∀ {a b : List (List Int)}, a.Pairwise (fun x y => x ≤ y ∧ x ≠ y) → b.Pairwise (fun x y => x ≤ y ∧ x ≠ y) → (∀ x, x ∈ a ↔ x ∈ b) → a = b
  | [], [], _, _, _ => rfl
  | [], y :: b, _, _, h => absurd ((h y).mpr (.head _)) (List.not_mem_nil)
  | x :: a, [], _, _, h => absurd ((h x).mp (.head _)) (List.not_mem_nil)
  | x :: a, y :: b, ha, hb, h => by
    obtain ⟨a1, a2⟩ := List.pairwise_cons.mp ha
    obtain ⟨b1, b2⟩ := List.pairwise_cons.mp hb
    have e : x = y := by
      rcases List.mem_cons.mp ((h x).mp (.head _)) with e | e
      · exact e
      rcases List.mem_cons.mp ((h y).mpr (.head _)) with e2 | e2
      · exact e2.symm
      · exact List.le_antisymm (a1 y e2).1 (b1 x e).1
    subst e
    rw [sorted_one a2 b2 fun z => ?_]
    constructor
    · intro hz
      rcases List.mem_cons.mp ((h z).mp (.tail _ hz)) with e | e
      · exact absurd e.symm (a1 z hz).2
      · exact e
    · intro hz
      rcases List.mem_cons.mp ((h z).mpr (.tail _ hz)) with e | e
      · exact absurd e.symm (b1 z hz).2
      · exact e
end
end B5

/-! Unl: the numbers at which two machines are unlike. -/
namespace B5
open PySem L2
section
variable {p n m : Nat} {f g step : Nat → Nat → Nat} {v1 v2 val : Nat → Int}
def MinO (E : Nat → Prop) (r : Option Nat) : Prop := (r = none ∧ ∀ m, ¬ E m) ∨ ∃ m, r = some m ∧ MinE E m
theorem MinO.one {E : Nat → Prop} {r r' : Option Nat} (h : MinO E r) (h' : MinO E r') : r = r' := by
  rcases h with ⟨rfl, no⟩ | ⟨m, rfl, mm⟩
  · rcases h' with ⟨rfl, _⟩ | ⟨m', rfl, mm'⟩
    · rfl
    · exact absurd mm'.1 (no m')
  · rcases h' with ⟨rfl, no⟩ | ⟨m', rfl, mm'⟩
    · exact absurd mm.1 (no m)
    · rw [mm.one mm']
theorem MinO.eq {E E' : Nat → Prop} {r : Option Nat} (h : MinO E r) (e : ∀ m, E' m ↔ E m) : MinO E' r := by
  have : E' = E := funext fun m => propext (e m)
  rw [this]; exact h
/-- the numbers that lead to flagged states -/
def FlN (p : Nat) (step : Nat → Nat → Nat) (bs : List Bool) (m : Nat) : Prop := ∃ s, bs.getD s false = true ∧ ∃ L, LN p step L s m
/-- the least number that leads to a state with a value is the least that tells it -/
theorem comes_min (p0 : 0 < p) (st : ∀ s, (∃ w, Dg p w ∧ runW step 0 w = s) → val s = val (step s 0)) {v : Int} {r : Option Nat} (h : MinO (fun m => ∃ s, val s = v ∧ ∃ L, LN p step L s m) r) : MinO (Tell p step val v) r := by
  rcases h with ⟨rfl, no⟩ | ⟨m, rfl, mm⟩
  · refine .inl ⟨rfl, fun m h => ?_⟩
    obtain ⟨k, hk, least⟩ := least_ex (Tell p step val v) m h
    exact no k ((comes_least p0 st).mpr ⟨hk, least⟩).1
  · exact .inr ⟨m, rfl, (comes_least p0 st).mp mm⟩
/-- here two machines are unlike -/
def Unl (p : Nat) (f g : Nat → Nat → Nat) (v1 v2 : Nat → Int) (m : Nat) : Prop := ∃ w, Dg p w ∧ v1 (runW f 0 w) ≠ v2 (runW g 0 w) ∧ numW p w = m
def flag (k : List Int) : Int := match k with
  | [x, y] => if x = y then 0 else 1
  | _ => 0
theorem flag_two {x y : Int} : flag [x, y] = 1 ↔ x ≠ y := by
  show (if x = y then (0 : Int) else 1) = 1 ↔ _
  by_cases e : x = y
  · rw [if_pos e]
    exact ⟨fun h => absurd h (by decide), fun h => absurd e h⟩
  · rw [if_neg e]
    exact ⟨fun _ => e, fun _ => rfl⟩
variable {met : List (List Int)} {rows : List (List Nat)}
theorem unl_tell (M : MetA (PkP n m) p (stepP f g) [0, 0] met rows) (k : Nat) : Unl p f g v1 v2 k ↔ Tell p (tab rows) (valL (met.map fun k => flag (tellP v1 v2 k))) 1 k := by
  constructor
  · rintro ⟨w, hw, ne, e⟩
    exact ⟨w, hw, by rw [prod_tell M hw]; exact flag_two.mpr ne, e⟩
  · rintro ⟨w, hw, h, e⟩
    rw [prod_tell M hw] at h
    exact ⟨w, hw, flag_two.mp h, e⟩
theorem unl_steady (M : MetA (PkP n m) p (stepP f g) [0, 0] met rows) (p0 : 0 < p) (s1 : ∀ s, s < n → v1 s = v1 (f s 0)) (s2 : ∀ s, s < m → v2 s = v2 (g s 0)) : ∀ s, (∃ w, Dg p w ∧ runW (tab rows) 0 w = s) → valL (met.map fun k => flag (tellP v1 v2 k)) s = valL (met.map fun k => flag (tellP v1 v2 k)) (tab rows s 0) := fun s ⟨w, hw, e⟩ => by
  have r := prod_run M hw
  rw [e] at r
  exact prod_steady M p0 s1 s2 flag s (List.getElem?_eq_some_iff.mp r).1
theorem flags_at (s : Nat) : (met.map fun k => decide (flag (tellP v1 v2 k) = 1)).getD s false = true ↔ valL (met.map fun k => flag (tellP v1 v2 k)) s = 1 := by
  unfold valL
  rw [List.getD_eq_getElem?_getD, List.getD_eq_getElem?_getD, List.getElem?_map, List.getElem?_map]
  cases met[s]? with
  | none => exact ⟨fun h => absurd (show false = true from h) (by decide), fun h => absurd (show (0 : Int) = 1 from h) (by decide)⟩
  | some k => exact decide_eq_true_iff
/-- the least number at which they are unlike -/
theorem unl_of (M : MetA (PkP n m) p (stepP f g) [0, 0] met rows) (p0 : 0 < p) (s1 : ∀ s, s < n → v1 s = v1 (f s 0)) (s2 : ∀ s, s < m → v2 s = v2 (g s 0)) {r : Option Nat} (h : MinO (FlN p (tab rows) (met.map fun k => decide (flag (tellP v1 v2 k) = 1))) r) :
    MinO (Unl p f g v1 v2) r := by
  refine (comes_min p0 (unl_steady M p0 s1 s2) (h.eq fun k => ?_)).eq (unl_tell M)
  unfold FlN
  exact exists_congr fun s => and_congr_left fun _ => (flags_at s).symm
end
end B5

/-! Cnt: how many numbers below a bound lead to a state with a mark: by words of digits, and one by one. -/
namespace B5
def sumN : Nat → (Nat → Int) → Int
  | 0, _ => 0
  | k + 1, g => sumN k g + g k
theorem sumN_congr {g h : Nat → Int} : ∀ (k : Nat), (∀ i, i < k → g i = h i) → sumN k g = sumN k h
  | 0, _ => rfl
  | k + 1, e => by
    show sumN k g + g k = sumN k h + h k
    rw [sumN_congr k fun i hi => e i (by omega), e k (by omega)]
theorem sumN_add (g : Nat → Int) (a : Nat) : ∀ b, sumN (a + b) g = sumN a g + sumN b fun i => g (a + i)
  | 0 => by show sumN a g = sumN a g + 0; omega
  | b + 1 => by
    show sumN (a + b) g + g (a + b) = sumN a g + (sumN b (fun i => g (a + i)) + g (a + b))
    rw [sumN_add g a b]
    omega
theorem sumN_mul (g : Nat → Int) (q : Nat) : ∀ d, sumN (d * q) g = sumN d fun e => sumN q fun m => g (e * q + m)
  | 0 => by rw [Nat.zero_mul]; rfl
  | d + 1 => by
    rw [Nat.succ_mul, sumN_add, sumN_mul g q d]
    rfl
theorem sumN_plus (g h : Nat → Int) : ∀ k, sumN k (fun i => g i + h i) = sumN k g + sumN k h
  | 0 => rfl
  | k + 1 => by
    show sumN k (fun i => g i + h i) + (g k + h k) = (sumN k g + g k) + (sumN k h + h k)
    rw [sumN_plus g h k]
    omega
theorem sumN_times (c : Int) (g : Nat → Int) : ∀ k, sumN k (fun i => c * g i) = c * sumN k g
  | 0 => by show (0 : Int) = c * 0; rw [Int.mul_zero]
  | k + 1 => by
    show sumN k (fun i => c * g i) + c * g k = c * (sumN k g + g k)
    rw [sumN_times c g k, Int.mul_add]
theorem sumN_zero : ∀ k, sumN k (fun _ => 0) = 0
  | 0 => rfl
  | k + 1 => by show sumN k (fun _ => 0) + 0 = 0; rw [sumN_zero k]; rfl
theorem sumN_swap (g : Nat → Nat → Int) (a : Nat) : ∀ b, sumN a (fun i => sumN b fun j => g i j) = sumN b fun j => sumN a fun i => g i j
  | 0 => sumN_zero a
  | b + 1 => by
    show sumN a (fun i => sumN b (fun j => g i j) + g i b) = sumN b (fun j => sumN a fun i => g i j) + sumN a fun i => g i b
    rw [sumN_plus, sumN_swap g a b]
/-! ### rows of numbers -/
def numI (l : List Int) (i : Nat) : Int := l.getD i 0
def dotN (n : Nat) (a b : List Int) : Int := sumN n fun i => numI a i * numI b i
theorem numI_set {l : List Int} {i : Nat} (h : i < l.length) (v : Int) (j : Nat) : numI (l.set i v) j = if j = i then v else numI l j := by
  unfold numI
  rw [List.getD_eq_getElem?_getD, List.getD_eq_getElem?_getD]
  by_cases e : j = i
  · rw [e, List.getElem?_set_self h, if_pos rfl]
    rfl
  · rw [List.getElem?_set_ne (Ne.symm e), if_neg e]
theorem sumN_one (n i : Nat) (h : i < n) (c : Int) : sumN n (fun j => if j = i then c else 0) = c := by
  obtain ⟨k, rfl⟩ : ∃ k, n = i + (1 + k) := ⟨n - i - 1, by omega⟩
  rw [sumN_add, sumN_add, sumN_congr i (h := fun _ => 0) (fun j hj => if_neg (by omega)), sumN_zero, sumN_congr k (h := fun _ => 0) (fun j hj => if_neg (by omega)), sumN_zero]
  show 0 + ((0 + if i + 0 = i then c else 0) + 0) = c
  rw [if_pos (by omega)]
  omega
/-- so many more at a place -/
def addAt (l : List Int) (i : Nat) (x : Int) : List Int := l.set i (numI l i + x)
theorem addAt_len (l : List Int) (i : Nat) (x : Int) : (addAt l i x).length = l.length := by
  unfold addAt
  rw [List.length_set]
theorem dot_addAt {n : Nat} {l : List Int} (hl : l.length = n) {i : Nat} (h : i < n) (x : Int) (f : List Int) : dotN n (addAt l i x) f = dotN n l f + x * numI f i := by
  unfold dotN
  have e : sumN n (fun j => numI (addAt l i x) j * numI f j) = sumN n fun j => numI l j * numI f j + if j = i then x * numI f i else 0 := by
    refine sumN_congr n fun j hj => ?_
    unfold addAt
    rw [numI_set (by omega)]
    by_cases z : j = i
    · rw [if_pos z, if_pos z, z, Int.add_mul]
    · rw [if_neg z, if_neg z, Int.add_zero]
  rw [e, sumN_plus, sumN_one n i h]
def addRow (l : List Int) (ds : List Int) (x : Int) : List Int := ds.foldl (fun f d => addAt f d.toNat x) l
theorem addRow_len (x : Int) : ∀ (ds l : List Int), (addRow l ds x).length = l.length
  | [], l => rfl
  | d :: ds, l => (addRow_len x ds _).trans (addAt_len _ _ _)
theorem addRow_zero : ∀ (ds l : List Int), (∀ d ∈ ds, d.toNat < l.length) → addRow l ds 0 = l
  | [], l, _ => rfl
  | d :: ds, l, h => by
    have e : addAt l d.toNat 0 = l := by
      unfold addAt numI
      have hd := h d (.head _)
      rw [Int.add_zero, List.getD_eq_getElem?_getD, List.getElem?_eq_getElem hd]
      exact List.set_getElem_self hd
    show addRow (addAt l d.toNat 0) ds 0 = l
    rw [e]
    exact addRow_zero ds l fun x hx => h x (.tail _ hx)
def sumL (l : List Int) : Int := l.foldr (· + ·) 0
theorem dot_addRow {n : Nat} (x : Int) (f : List Int) : ∀ (ds l : List Int), l.length = n → (∀ d ∈ ds, d.toNat < n) → dotN n (addRow l ds x) f = dotN n l f + x * sumL (ds.map fun d => numI f d.toNat)
  | [], l, _, _ => by show dotN n l f = dotN n l f + x * 0; rw [Int.mul_zero, Int.add_zero]
  | d :: ds, l, hl, h => by
    show dotN n (addRow (addAt l d.toNat x) ds x) f = dotN n l f + x * (numI f d.toNat + sumL _)
    rw [dot_addRow x f ds _ (by rw [addAt_len, hl]) fun y hy => h y (.tail _ hy), dot_addAt hl (h d (.head _)), Int.mul_add]
    omega
/-! ### a machine -/
/-- the state behind a digit -/
def stp (dss : List (List Int)) (s d : Nat) : Nat := ((dss.getD s []).getD d 0).toNat
structure MSt (p : Nat) (dss : List (List Int)) : Prop where
  ne : 0 < dss.length
  len : ∀ ds ∈ dss, ds.length = p
  ok : ∀ ds ∈ dss, ∀ d ∈ ds, 0 ≤ d ∧ d.toNat < dss.length
theorem MSt.at {p : Nat} {dss : List (List Int)} (M : MSt p dss) {s : Nat} (hs : s < dss.length) : ∃ ds, dss[s]? = some ds ∧ ds ∈ dss ∧ dss.getD s [] = ds ∧ ds.length = p := by
  have e : dss[s]? = some dss[s] := List.getElem?_eq_getElem hs
  exact ⟨_, e, List.mem_of_getElem? e, by rw [List.getD_eq_getElem?_getD, e]; rfl, M.len _ (List.mem_of_getElem? e)⟩
theorem MSt.stp_lt {p : Nat} {dss : List (List Int)} (M : MSt p dss) {s d : Nat} (hs : s < dss.length) (hd : d < p) : stp dss s d < dss.length := by
  obtain ⟨ds, e1, hm, e2, l⟩ := M.at hs
  unfold stp
  rw [e2, List.getD_eq_getElem?_getD, List.getElem?_eq_getElem (by omega)]
  exact (M.ok ds hm _ (List.getElem_mem _)).2
/-- how many words lead to each state with one digit more -/
def onAll (dss : List (List Int)) (ways : List Int) : Nat → List Int
  | 0 => List.replicate dss.length 0
  | s + 1 => addRow (onAll dss ways s) (dss.getD s []) (numI ways s)
theorem onAll_len (dss : List (List Int)) (ways : List Int) : ∀ s, (onAll dss ways s).length = dss.length
  | 0 => List.length_replicate
  | s + 1 => (addRow_len _ _ _).trans (onAll_len dss ways s)
def onW (dss : List (List Int)) (ways : List Int) : List Int := onAll dss ways dss.length
def waysL (dss : List (List Int)) : Nat → List Int
  | 0 => 1 :: List.replicate (dss.length - 1) 0
  | L + 1 => onW dss (waysL dss L)
/-- the marks behind a digit -/
def bh (dss : List (List Int)) (d : Nat) (f : List Int) : List Int := dss.map fun ds => numI f (ds.getD d 0).toNat
theorem bh_len (dss : List (List Int)) (d : Nat) (f : List Int) : (bh dss d f).length = dss.length := List.length_map _
theorem bh_at {dss : List (List Int)} {d : Nat} {f : List Int} {s : Nat} (h : s < dss.length) : numI (bh dss d f) s = numI f (stp dss s d) := by
  have e : dss.getD s [] = dss[s] := by rw [List.getD_eq_getElem?_getD, List.getElem?_eq_getElem h]; rfl
  unfold stp
  rw [e]
  unfold bh
  show (dss.map _).getD s 0 = _
  rw [List.getD_eq_getElem?_getD, List.getElem?_map, List.getElem?_eq_getElem h]
  rfl
theorem sumL_row {p : Nat} {f : List Int} : ∀ {ds : List Int}, ds.length = p → sumL (ds.map fun d => numI f d.toNat) = sumN p fun d => numI f (ds.getD d 0).toNat := by
  intro ds
  induction ds generalizing p with
  | nil => intro h; cases h; rfl
  | cons x ds ih =>
    intro h
    have hp : p = 1 + ds.length := by simp at h; omega
    rw [hp, sumN_add]
    show numI f x.toNat + sumL _ = (0 + numI f x.toNat) + _
    rw [ih rfl, Int.zero_add]
    congr 1
    refine sumN_congr _ fun i hi => ?_
    rw [show 1 + i = i + 1 by omega]
    rfl
theorem dot_onAll {p : Nat} {dss : List (List Int)} (M : MSt p dss) (ways f : List Int) : ∀ s, s ≤ dss.length → dotN dss.length (onAll dss ways s) f = sumN s fun t => numI ways t * sumN p fun d => numI f (stp dss t d)
  | 0, _ => by
    show dotN dss.length (List.replicate dss.length 0) f = 0
    unfold dotN
    rw [sumN_congr _ (h := fun _ => 0), sumN_zero]
    intro i hi
    unfold numI
    rw [List.getD_eq_getElem?_getD, List.getElem?_replicate, if_pos hi]
    exact Int.zero_mul _
  | s + 1, h => by
    obtain ⟨ds, e1, hm, e2, l⟩ := M.at (s := s) (by omega)
    show dotN dss.length (addRow (onAll dss ways s) (dss.getD s []) (numI ways s)) f = _
    rw [e2, dot_addRow _ _ _ _ (onAll_len _ _ _) (fun d hd => (M.ok ds hm d hd).2), dot_onAll M ways f s (by omega), sumL_row l]
    show _ = sumN s _ + numI ways s * sumN p fun d => numI f (stp dss s d)
    congr 2
    refine sumN_congr p fun d hd => ?_
    unfold stp
    rw [e2]
theorem dot_onW {p : Nat} {dss : List (List Int)} (M : MSt p dss) (ways f : List Int) : dotN dss.length (onW dss ways) f = sumN p fun d => dotN dss.length ways (bh dss d f) := by
  unfold onW
  rw [dot_onAll M ways f _ (Nat.le_refl _)]
  unfold dotN
  rw [sumN_swap]
  refine sumN_congr _ fun t ht => ?_
  rw [← sumN_times]
  exact sumN_congr _ fun d hd => by rw [bh_at ht]
/-! ### words -/
/-- n by L digits to the base p -/
def padL (p : Nat) : Nat → Nat → List Nat
  | 0, _ => []
  | L + 1, n => n % p :: padL p L (n / p)
def runS (dss : List (List Int)) (s : Nat) (w : List Nat) : Nat := w.foldl (stp dss) s
theorem runS_app (dss : List (List Int)) (s : Nat) (w : List Nat) (d : Nat) : runS dss s (w ++ [d]) = stp dss (runS dss s w) d := by
  unfold runS
  rw [List.foldl_append]
  rfl
theorem padL_lt {p : Nat} (hp : 0 < p) : ∀ (L n : Nat), ∀ d ∈ padL p L n, d < p
  | 0, _, d, h => nomatch h
  | L + 1, n, d, h => by
    rcases List.mem_cons.mp h with rfl | h
    · exact Nat.mod_lt _ hp
    · exact padL_lt hp L _ d h
theorem runS_lt {p : Nat} {dss : List (List Int)} (M : MSt p dss) : ∀ (w : List Nat) (s : Nat), s < dss.length → (∀ d ∈ w, d < p) → runS dss s w < dss.length
  | [], s, h, _ => h
  | d :: w, s, h, hw => runS_lt M w _ (M.stp_lt h (hw d (.head _))) fun x hx => hw x (.tail _ hx)
theorem padL_top {p : Nat} (hp : 0 < p) : ∀ (L e m : Nat), e < p → m < p ^ L → padL p (L + 1) (e * p ^ L + m) = padL p L m ++ [e]
  | 0, e, m, he, hm => by
    have : m = 0 := by simp at hm; exact hm
    subst this
    show [(e * 1 + 0) % p] = [e]
    rw [Nat.mul_one, Nat.add_zero, Nat.mod_eq_of_lt he]
  | L + 1, e, m, he, hm => by
    have h1 : (e * p ^ (L + 1) + m) % p = m % p := by
      rw [Nat.pow_succ, ← Nat.mul_assoc, Nat.add_comm, Nat.add_mul_mod_self_right]
    have h2 : (e * p ^ (L + 1) + m) / p = e * p ^ L + m / p := by
      rw [Nat.pow_succ, ← Nat.mul_assoc, Nat.add_comm, Nat.add_mul_div_right _ _ hp, Nat.add_comm]
    show (e * p ^ (L + 1) + m) % p :: padL p (L + 1) ((e * p ^ (L + 1) + m) / p) = (m % p :: padL p L (m / p)) ++ [e]
    rw [h1, h2, padL_top hp L e (m / p) he (by rw [Nat.pow_succ] at hm; exact Nat.div_lt_of_lt_mul (by rw [Nat.mul_comm]; exact hm))]
    rfl
/-- the mark of n, told by L digits -/
def mkL (p : Nat) (dss : List (List Int)) (f : List Int) (L n : Nat) : Int := numI f (runS dss 0 (padL p L n))
theorem mkL_top {p : Nat} (hp : 0 < p) {dss : List (List Int)} (M : MSt p dss) (f : List Int) {L e m : Nat} (he : e < p) (hm : m < p ^ L) : mkL p dss f (L + 1) (e * p ^ L + m) = mkL p dss (bh dss e f) L m := by
  unfold mkL
  rw [padL_top hp L e m he hm, runS_app, bh_at (runS_lt M _ _ M.ne (padL_lt hp L m))]
/-- the words of L digits -/
theorem words_all {p : Nat} (hp : 0 < p) {dss : List (List Int)} (M : MSt p dss) : ∀ (L : Nat) (f : List Int), dotN dss.length (waysL dss L) f = sumN (p ^ L) (mkL p dss f L)
  | 0, f => by
    obtain ⟨k, hk⟩ : ∃ k, dss.length = 1 + k := ⟨dss.length - 1, by have := M.ne; omega⟩
    show dotN dss.length (1 :: List.replicate (dss.length - 1) 0) f = 0 + numI f 0
    unfold dotN
    rw [hk, sumN_add, sumN_congr k (h := fun _ => 0), sumN_zero]
    · show (0 + 1 * numI f 0) + 0 = _
      omega
    · intro i hi
      show (1 :: List.replicate (1 + k - 1) (0 : Int)).getD (1 + i) 0 * _ = 0
      rw [Nat.add_comm 1 i, List.getD_cons_succ, List.getD_eq_getElem?_getD, List.getElem?_replicate, if_pos (by omega)]
      exact Int.zero_mul _
  | L + 1, f => by
    show dotN dss.length (onW dss (waysL dss L)) f = _
    rw [dot_onW M, Nat.pow_succ, Nat.mul_comm, sumN_mul]
    refine sumN_congr p fun e he => ?_
    rw [words_all hp M L]
    exact sumN_congr _ fun m hm => (mkL_top hp M f he hm).symm
/-- from the highest digit down -/
def cntD (dss : List (List Int)) : List Nat → List Int → Int
  | [], _ => 0
  | d :: r, f => (sumN d fun e => dotN dss.length (waysL dss r.length) (bh dss e f)) + cntD dss r (bh dss d f)
/-- the number of a word, its highest digit first -/
def valH (p : Nat) : List Nat → Nat
  | [] => 0
  | d :: r => d * p ^ r.length + valH p r
theorem valH_lt {p : Nat} : ∀ (r : List Nat), (∀ d ∈ r, d < p) → valH p r < p ^ r.length
  | [], _ => by show 0 < p ^ 0; rw [Nat.pow_zero]; exact Nat.one_pos
  | d :: r, h => by
    have := valH_lt r fun x hx => h x (.tail _ hx)
    have hd := h d (.head _)
    show d * p ^ r.length + valH p r < p ^ (r.length + 1)
    have : (d + 1) * p ^ r.length ≤ p * p ^ r.length := Nat.mul_le_mul_right _ hd
    rw [Nat.succ_mul] at this
    rw [Nat.pow_succ, Nat.mul_comm (p ^ r.length)]
    omega
theorem cntD_sum {p : Nat} (hp : 0 < p) {dss : List (List Int)} (M : MSt p dss) : ∀ (r : List Nat) (f : List Int), (∀ d ∈ r, d < p) → cntD dss r f = sumN (valH p r) (mkL p dss f r.length)
  | [], f, _ => rfl
  | d :: r, f, h => by
    have hd := h d (.head _)
    have hr := valH_lt r fun x hx => h x (.tail _ hx)
    show _ + cntD dss r (bh dss d f) = sumN (d * p ^ r.length + valH p r) _
    rw [sumN_add, sumN_mul, cntD_sum hp M r _ fun x hx => h x (.tail _ hx)]
    congr 1
    · refine sumN_congr d fun e he => ?_
      rw [words_all hp M]
      exact sumN_congr _ fun m hm => (mkL_top hp M f (by omega) hm).symm
    · exact sumN_congr _ fun m hm => (mkL_top hp M f hd (by omega)).symm
/-! ### digits without zeros at the end -/
def digN (p : Nat) (n : Nat) : List Nat := if h : n = 0 ∨ p < 2 then [] else n % p :: digN p (n / p)
termination_by n
decreasing_by exact Nat.div_lt_self (by omega) (by omega)
theorem digN_zero {p : Nat} : digN p 0 = [] := by
  rw [digN, dif_pos (.inl rfl)]
theorem digN_pos {p n : Nat} (h : 0 < n) (hp : 2 ≤ p) : digN p n = n % p :: digN p (n / p) := by
  rw [digN, dif_neg (by omega)]
/-- a zero behind a word changes no mark -/
def StdF (dss : List (List Int)) (f : List Int) : Prop := ∀ s, s < dss.length → numI f (stp dss s 0) = numI f s
theorem pad_dig {p : Nat} (hp : 2 ≤ p) {dss : List (List Int)} (M : MSt p dss) {f : List Int} (S : StdF dss f) : ∀ (L n s : Nat), n < p ^ L → s < dss.length → numI f (runS dss s (padL p L n)) = numI f (runS dss s (digN p n))
  | 0, n, s, h, hs => by
    have : n = 0 := by simp at h; exact h
    subst this
    rw [digN_zero]
    rfl
  | L + 1, n, s, h, hs => by
    have hd : n / p < p ^ L := Nat.div_lt_of_lt_mul (by rw [Nat.pow_succ, Nat.mul_comm] at h; exact h)
    have ih := pad_dig hp M S L (n / p) _ hd (M.stp_lt hs (Nat.mod_lt n (show 0 < p by omega)))
    refine Eq.trans ih ?_
    by_cases z : n = 0
    · subst z
      rw [Nat.zero_div, digN_zero, Nat.zero_mod]
      exact S s hs
    · rw [digN_pos (n := n) (by omega) hp]
      rfl
/-- how many numbers below n have the mark -/
def cntB (p : Nat) (dss : List (List Int)) (f : List Int) (n : Nat) : Int := sumN n fun i => numI f (runS dss 0 (digN p i))
theorem digN_lt {p : Nat} (hp : 2 ≤ p) : ∀ (k n : Nat), n ≤ k → ∀ d ∈ digN p n, d < p
  | 0, n, h, d, hd => by
    have e : n = 0 := by omega
    rw [e, digN_zero] at hd
    cases hd
  | k + 1, n, h, d, hd => by
    by_cases z : n = 0
    · rw [z, digN_zero] at hd
      cases hd
    · rw [digN_pos (by omega) hp] at hd
      rcases List.mem_cons.mp hd with rfl | hd
      · exact Nat.mod_lt n (by omega)
      · exact digN_lt hp k _ (by have := Nat.div_lt_self (show 0 < n by omega) (show 1 < p by omega); omega) d hd
theorem valH_snoc {p : Nat} (d : Nat) : ∀ (r : List Nat), valH p (r ++ [d]) = valH p r * p + d
  | [] => by show d * p ^ 0 + 0 = 0 * p + d; rw [Nat.pow_zero]; omega
  | e :: r => by
    show e * p ^ (r ++ [d]).length + valH p (r ++ [d]) = (e * p ^ r.length + valH p r) * p + d
    rw [valH_snoc d r, List.length_append]
    show e * p ^ (r.length + 1) + (valH p r * p + d) = _
    rw [Nat.pow_succ, Nat.add_mul, Nat.mul_assoc]
    omega
theorem valH_dig {p : Nat} (hp : 2 ≤ p) : ∀ (k n : Nat), n ≤ k → valH p (digN p n).reverse = n
  | 0, n, h => by
    have e : n = 0 := by omega
    rw [e, digN_zero]
    rfl
  | k + 1, n, h => by
    by_cases z : n = 0
    · rw [z, digN_zero]
      rfl
    · rw [digN_pos (by omega) hp, List.reverse_cons, valH_snoc, valH_dig hp k _ (by have := Nat.div_lt_self (show 0 < n by omega) (show 1 < p by omega); omega)]
      have := Nat.div_add_mod n p
      rw [Nat.mul_comm] at this
      exact this
/-- what is counted by digits is what is counted one by one -/
theorem cntD_B {p : Nat} (hp : 2 ≤ p) {dss : List (List Int)} (M : MSt p dss) {f : List Int} (S : StdF dss f) (n : Nat) : cntD dss (digN p n).reverse f = cntB p dss f n := by
  have lt := digN_lt hp n n (Nat.le_refl _)
  have lt' : ∀ d ∈ (digN p n).reverse, d < p := fun d hd => lt d (List.mem_reverse.mp hd)
  have hv := valH_dig hp n n (Nat.le_refl _)
  have hb := valH_lt _ lt'
  rw [cntD_sum (by omega) M _ _ lt', hv]
  rw [hv] at hb
  exact sumN_congr n fun i hi => pad_dig hp M S _ i 0 (by omega) M.ne
theorem cntB_succ (p : Nat) (dss : List (List Int)) (f : List Int) (n : Nat) : cntB p dss f (n + 1) = cntB p dss f n + numI f (runS dss 0 (digN p n)) := rfl
end B5

/-! Shf: one machine beside itself, a number further. -/
namespace B5
open PySem L2
section
variable {p n q : Nat} {f g : Nat → Nat → Nat} {v v2 : Nat → Int}
/-- the digits of a number and a carry, digit by digit -/
def shW (p : Nat) : Nat → List Nat → List Nat × Nat
  | c, [] => ([], c)
  | c, d :: w => (((d + c) % p) :: (shW p ((d + c) / p) w).1, (shW p ((d + c) / p) w).2)
def stepU (p : Nat) (f : Nat → Nat → Nat) (k : List Int) (d : Nat) : List Int := match k with
  | [s, t, c] => [((f s.toNat d : Nat) : Int), ((f t.toNat ((d + c.toNat) % p) : Nat) : Int), (((d + c.toNat) / p : Nat) : Int)]
  | k => k
def stepC (p : Nat) (f : Nat → Nat → Nat) (k : List Int) (d : Nat) : List Int := match stepU p f k d with
  | [h, t, c] => if h = t ∧ c = 0 then [0, 0, 0] else [h, t, c]
  | k => k
/-- whether the values are unlike -/
def flU (p : Nat) (f : Nat → Nat → Nat) (v : Nat → Int) (k : List Int) : Bool := match k with
  | [s, t, c] => decide (v s.toNat ≠ v (runW f t.toNat (digN p c.toNat)))
  | _ => false
def PkU (n q : Nat) (k : List Int) : Prop := ∃ s t c : Nat, k = [(s : Int), (t : Int), (c : Int)] ∧ s < n ∧ t < n ∧ c ≤ q
theorem stepU_at {s t c d : Nat} : stepU p f [(s : Int), (t : Int), (c : Int)] d = [((f s d : Nat) : Int), ((f t ((d + c) % p) : Nat) : Int), (((d + c) / p : Nat) : Int)] := by
  show [((f ((s : Int)).toNat d : Nat) : Int), ((f ((t : Int)).toNat ((d + ((c : Int)).toNat) % p) : Nat) : Int), (((d + ((c : Int)).toNat) / p : Nat) : Int)] = _
  rw [Int.toNat_natCast, Int.toNat_natCast, Int.toNat_natCast]
theorem flU_at {s t c : Nat} : flU p f v [(s : Int), (t : Int), (c : Int)] = decide (v s ≠ v (runW f t (digN p c))) := by
  show decide (v ((s : Int)).toNat ≠ v (runW f ((t : Int)).toNat (digN p ((c : Int)).toNat))) = _
  rw [Int.toNat_natCast, Int.toNat_natCast, Int.toNat_natCast]
theorem carry_le (p0 : 0 < p) {d c : Nat} (hd : d < p) : (d + c) / p ≤ c := by
  rcases Nat.eq_zero_or_pos c with rfl | h
  · rw [Nat.add_zero, Nat.div_eq_of_lt hd]
    exact Nat.le_refl _
  · refine Nat.le_of_lt_succ (Nat.div_lt_of_lt_mul ?_)
    show d + c < p * (c + 1)
    rw [Nat.mul_add, Nat.mul_one]
    have := Nat.le_mul_of_pos_left c p0
    omega
theorem stepC_at {s t c d : Nat} : stepC p f [(s : Int), (t : Int), (c : Int)] d = if f s d = f t ((d + c) % p) ∧ (d + c) / p = 0 then [0, 0, 0] else [((f s d : Nat) : Int), ((f t ((d + c) % p) : Nat) : Int), (((d + c) / p : Nat) : Int)] := by
  unfold stepC
  rw [stepU_at]
  by_cases e : f s d = f t ((d + c) % p) ∧ (d + c) / p = 0
  · rw [if_pos e]
    show (if _ ∧ _ then _ else _) = _
    rw [if_pos ⟨by rw [e.1], by rw [e.2]; rfl⟩]
  · rw [if_neg e]
    show (if _ ∧ _ then _ else _) = _
    rw [if_neg fun z => e ⟨Int.ofNat.inj z.1, Int.ofNat.inj z.2⟩]
theorem pku_cl (p0 : 0 < p) (n0 : 0 < n) (cf : ∀ s d, s < n → d < p → f s d < n) : ∀ a d, PkU n q a → d < p → PkU n q (stepC p f a d) := by
  rintro a d ⟨s, t, c, rfl, hs, ht, hc⟩ hd
  rw [stepC_at]
  by_cases e : f s d = f t ((d + c) % p) ∧ (d + c) / p = 0
  · rw [if_pos e]
    exact ⟨0, 0, 0, rfl, n0, n0, Nat.zero_le _⟩
  · rw [if_neg e]
    exact ⟨_, _, _, rfl, cf s d hs hd, cf t _ ht (Nat.mod_lt _ p0), Nat.le_trans (carry_le p0 hd) hc⟩
theorem pku_clU (p0 : 0 < p) (cf : ∀ s d, s < n → d < p → f s d < n) : ∀ a d, PkU n q a → d < p → PkU n q (stepU p f a d) := by
  rintro a d ⟨s, t, c, rfl, hs, ht, hc⟩ hd
  rw [stepU_at]
  exact ⟨_, _, _, rfl, cf s d hs hd, cf t _ ht (Nat.mod_lt _ p0), Nat.le_trans (carry_le p0 hd) hc⟩
def codeU (n q : Nat) (k : List Int) : Nat := match k with
  | [s, t, c] => (s.toNat * n + t.toNat) * (q + 1) + c.toNat
  | _ => 0
theorem two_of {a b x y m : Nat} (hb : b < m) (hy : y < m) (e : a * m + b = x * m + y) : a = x ∧ b = y := by
  have h1 : (a * m + b) / m = a := by rw [Nat.mul_comm, Nat.mul_add_div (by omega), Nat.div_eq_of_lt hb, Nat.add_zero]
  have h2 : (x * m + y) / m = x := by rw [Nat.mul_comm, Nat.mul_add_div (by omega), Nat.div_eq_of_lt hy, Nat.add_zero]
  have e1 : a = x := by rw [← h1, e, h2]
  subst e1
  exact ⟨rfl, by omega⟩
theorem pku_bnd (l : List (List Int)) (nd : l.Nodup) (al : ∀ x ∈ l, PkU n q x) : l.length ≤ n * n * (q + 1) := by
  have nd2 : (l.map (codeU n q)).Nodup := by
    unfold List.Nodup
    rw [List.pairwise_map]
    refine nd.imp_of_mem fun {a b} ha hb ne e => ?_
    obtain ⟨s, t, c, rfl, hs, ht, hc⟩ := al _ ha
    obtain ⟨s', t', c', rfl, hs', ht', hc'⟩ := al _ hb
    have e : (((s : Int)).toNat * n + ((t : Int)).toNat) * (q + 1) + ((c : Int)).toNat = (((s' : Int)).toNat * n + ((t' : Int)).toNat) * (q + 1) + ((c' : Int)).toNat := e
    simp only [Int.toNat_natCast] at e
    obtain ⟨e1, e2⟩ := two_of (by omega) (by omega) e
    obtain ⟨e3, e4⟩ := two_of ht ht' e1
    exact ne (by rw [e2, e3, e4])
  have := nodup_below (n * n * (q + 1)) _ nd2 fun x hx => by
    obtain ⟨k, hk, rfl⟩ := List.mem_map.mp hx
    obtain ⟨s, t, c, rfl, hs, ht, hc⟩ := al _ hk
    show (((s : Int)).toNat * n + ((t : Int)).toNat) * (q + 1) + ((c : Int)).toNat < n * n * (q + 1)
    simp only [Int.toNat_natCast]
    have h1 : (s + 1) * n ≤ n * n := Nat.mul_le_mul_right n hs
    have h2 : (s * n + t + 1) * (q + 1) ≤ n * n * (q + 1) := Nat.mul_le_mul_right (q + 1) (by rw [Nat.add_mul, Nat.one_mul] at h1; omega)
    rw [Nat.add_mul, Nat.one_mul] at h2
    omega
  rwa [List.length_map] at this
theorem runU : ∀ (w : List Nat) (s t c : Nat), runA (stepU p f) [(s : Int), (t : Int), (c : Int)] w = [((runW f s w : Nat) : Int), ((runW f t (shW p c w).1 : Nat) : Int), (((shW p c w).2 : Nat) : Int)]
  | [], s, t, c => rfl
  | d :: w, s, t, c => by
    show runA (stepU p f) (stepU p f [(s : Int), (t : Int), (c : Int)] d) w = _
    rw [stepU_at, runU w]
    rfl
theorem sh_zero : ∀ (w : List Nat), Dg p w → shW p 0 w = (w, 0)
  | [], _ => rfl
  | d :: w, h => by
    have hd : d < p := h d (.head _)
    unfold shW
    rw [Nat.add_zero, Nat.mod_eq_of_lt hd, Nat.div_eq_of_lt hd, sh_zero w fun x hx => h x (.tail _ hx)]
theorem runC_zero : ∀ (w : List Nat), Dg p w → runA (stepC p f) [0, 0, 0] w = [0, 0, 0]
  | [], _ => rfl
  | d :: w, h => by
    have hd : d < p := h d (.head _)
    show runA (stepC p f) (stepC p f [((0 : Nat) : Int), ((0 : Nat) : Int), ((0 : Nat) : Int)] d) w = _
    rw [stepC_at, if_pos ⟨by rw [Nat.add_zero, Nat.mod_eq_of_lt hd], by rw [Nat.add_zero, Nat.div_eq_of_lt hd]⟩]
    exact runC_zero w fun x hx => h x (.tail _ hx)
theorem flU_same {h : Nat} {w : List Nat} (hw : Dg p w) : flU p f v (runA (stepU p f) [(h : Int), (h : Int), ((0 : Nat) : Int)] w) = false := by
  rw [runU, flU_at, sh_zero w hw, digN_zero]
  exact decide_eq_false (fun z => z rfl)
/-- states that are left out change no answer -/
theorem runC_fl : ∀ (w : List Nat) (s t c : Nat), Dg p w → flU p f v (runA (stepC p f) [(s : Int), (t : Int), (c : Int)] w) = flU p f v (runA (stepU p f) [(s : Int), (t : Int), (c : Int)] w)
  | [], s, t, c, _ => rfl
  | d :: w, s, t, c, h => by
    have hw : Dg p w := fun x hx => h x (.tail _ hx)
    show flU p f v (runA (stepC p f) (stepC p f [(s : Int), (t : Int), (c : Int)] d) w) = flU p f v (runA (stepU p f) (stepU p f [(s : Int), (t : Int), (c : Int)] d) w)
    rw [stepC_at, stepU_at]
    by_cases e : f s d = f t ((d + c) % p) ∧ (d + c) / p = 0
    · rw [if_pos e, ← e.1, e.2, flU_same hw, runC_zero w hw]
      show flU p f v [((0 : Nat) : Int), ((0 : Nat) : Int), ((0 : Nat) : Int)] = false
      rw [flU_at, digN_zero]
      exact decide_eq_false (fun z => z rfl)
    · rw [if_neg e]
      exact runC_fl w _ _ _ hw
/-- the numbers at which a machine and itself, q further, are unlike -/
def Brk (p q : Nat) (tell : List Nat → Int) (m : Nat) : Prop := ∃ w, Dg p w ∧ tell w ≠ tell ((shW p q w).1 ++ digN p (shW p q w).2) ∧ numW p w = m
theorem flU_run {w : List Nat} : flU p f v (runA (stepU p f) [0, 0, (q : Int)] w) = true ↔ v (runW f 0 w) ≠ v (runW f 0 ((shW p q w).1 ++ digN p (shW p q w).2)) := by
  have e := runU (p := p) (f := f) w 0 0 q
  have e : runA (stepU p f) [0, 0, (q : Int)] w = _ := e
  rw [e, flU_at, runW_cat, decide_eq_true_iff]
theorem sh_dig (p0 : 0 < p) : ∀ (w : List Nat) (c : Nat), Dg p (shW p c w).1
  | [], c => fun _ h => nomatch h
  | d :: w, c => fun x hx => by
    rcases List.mem_cons.mp hx with rfl | hx
    · exact Nat.mod_lt _ p0
    · exact sh_dig p0 w _ x hx
/-- machines that tell the same break at the same numbers -/
theorem brk_same (p2 : 2 ≤ p) {t1 t2 : List Nat → Int} (h : ∀ w, Dg p w → t1 w = t2 w) (m : Nat) : Brk p q t1 m ↔ Brk p q t2 m := by
  have key : ∀ w, Dg p w → Dg p ((shW p q w).1 ++ digN p (shW p q w).2) := fun w hw x hx => by
    rcases List.mem_append.mp hx with hx | hx
    · exact sh_dig (by omega) w q x hx
    · exact digN_lt p2 _ _ (Nat.le_refl _) x hx
  constructor
  · rintro ⟨w, hw, ne, e⟩
    exact ⟨w, hw, by rw [← h w hw, ← h _ (key w hw)]; exact ne, e⟩
  · rintro ⟨w, hw, ne, e⟩
    exact ⟨w, hw, by rw [h w hw, h _ (key w hw)]; exact ne, e⟩
end
end B5

/-! Lfl: the least number above a given one that leads to a flagged state. -/
namespace B5
open PySem L2
section
variable {p n : Nat} {f : Nat → Nat → Nat} {F : Nat → Bool}
/-- the flags stay by zeros, behind words -/
def StF (p : Nat) (f : Nat → Nat → Nat) (F : Nat → Bool) (R : Nat → Prop) : Prop := (∀ s d, R s → d < p → R (f s d)) ∧ ∀ s, R s → F s = F (f s 0)
variable {R : Nat → Prop}
theorem StF.run (h : StF p f F R) : ∀ (w : List Nat) (s : Nat), R s → Dg p w → R (runW f s w)
  | [], s, hs, _ => hs
  | d :: w, s, hs, hw => StF.run h w _ (h.1 s d hs (hw d (.head _))) fun x hx => hw x (.tail _ hx)
theorem fl_zeros (h : StF p f F R) : ∀ (w : List Nat) (s : Nat), R s → Dg p w → numW p w = 0 → F (runW f s w) = F s
  | [], s, _, _, _ => rfl
  | d :: w, s, hs, hw, e => by
    have hd := hw d (.head _)
    have e : d + p * numW p w = 0 := e
    have d0 : d = 0 := by omega
    subst d0
    have e2 : numW p w = 0 := by
      rcases Nat.mul_eq_zero.mp (show p * numW p w = 0 by omega) with z | z
      · omega
      · exact z
    show F (runW f (f s 0) w) = F s
    rw [fl_zeros h w _ (h.1 s 0 hs hd) (fun x hx => hw x (.tail _ hx)) e2, h.2 s hs]
theorem fl_same (h : StF p f F R) : ∀ (w w' : List Nat) (s : Nat), R s → Dg p w → Dg p w' → numW p w = numW p w' → F (runW f s w) = F (runW f s w')
  | [], w', s, hs, _, hw', e => (fl_zeros h w' s hs hw' e.symm).symm
  | d :: w, [], s, hs, hw, _, e => fl_zeros h (d :: w) s hs hw e
  | d :: w, d' :: w', s, hs, hw, hw', e => by
    have hd := hw d (.head _)
    have hd' := hw' d' (.head _)
    have e : d + p * numW p w = d' + p * numW p w' := e
    have e1 : d = d' := by
      have := congrArg (· % p) e
      simpa [Nat.add_mul_mod_self_left, Nat.mod_eq_of_lt hd, Nat.mod_eq_of_lt hd'] using this
    subst e1
    have e2 : numW p w = numW p w' := Nat.eq_of_mul_eq_mul_left (show 0 < p by omega) (by omega)
    exact fl_same h w w' _ (h.1 s d hs hd) (fun x hx => hw x (.tail _ hx)) (fun x hx => hw' x (.tail _ hx)) e2
theorem numW_app : ∀ (u v : List Nat), numW p (u ++ v) = numW p u + p ^ u.length * numW p v
  | [], v => by show numW p v = 0 + p ^ 0 * numW p v; simp
  | x :: u, v => by
    show x + p * numW p (u ++ v) = x + p * numW p u + p ^ (u.length + 1) * numW p v
    rw [numW_app u v, Nat.mul_add, Nat.pow_succ, ← Nat.mul_assoc, Nat.mul_comm p (p ^ u.length)]
    omega
/-- the number with these low digits, this digit, and the digits of low above -/
def valK (p : Nat) (D : List Nat) (k e x : Nat) : Nat := x + p ^ k * (e + p * numW p (D.drop (k + 1)))
theorem valK_word {D u : List Nat} {e : Nat} : numW p (u ++ e :: D.drop (u.length + 1)) = valK p D u.length e (numW p u) := by
  rw [numW_app]
  rfl
theorem numW_at (D : List Nat) : numW p D = D.getD 0 0 + p * numW p (D.drop 1) := by
  cases D with
  | nil => show 0 = 0 + p * 0; omega
  | cons d D => rfl
/-- each word above low parts from low at one digit -/
theorem above_parts (h : StF p f F R) (p0 : 0 < p) : ∀ (w D : List Nat) (s : Nat), R s → Dg p w → Dg p D → numW p D < numW p w → F (runW f s w) = true →
    ∃ (u : List Nat) (e : Nat), Dg p u ∧ D.getD u.length 0 < e ∧ e < p ∧ F (runW f s (u ++ e :: D.drop (u.length + 1))) = true ∧ numW p w = valK p D u.length e (numW p u)
  | [], D, s, _, _, _, lt, _ => absurd lt (Nat.not_lt_zero _)
  | a :: w, D, s, hs, hw, hD, lt, hF => by
    have ha := hw a (.head _)
    have hw' : Dg p w := fun x hx => hw x (.tail _ hx)
    have hD' : Dg p (D.drop 1) := fun x hx => hD x (List.mem_of_mem_drop hx)
    have en : numW p (a :: w) = a + p * numW p w := rfl
    have eD := numW_at (p := p) D
    have d0 : D.getD 0 0 < p := by
      cases D with
      | nil => exact p0
      | cons d D => exact hD d (.head _)
    by_cases z : numW p (D.drop 1) < numW p w
    · obtain ⟨u, e, hu, h1, h2, h3, h4⟩ := above_parts h p0 w (D.drop 1) (f s a) (h.1 s a hs ha) hw' hD' z hF
      have dr : (D.drop 1).drop (u.length + 1) = D.drop (u.length + 1 + 1) := by rw [List.drop_drop]; congr 1; omega
      refine ⟨a :: u, e, fun x hx => ?_, ?_, h2, ?_, ?_⟩
      · rcases List.mem_cons.mp hx with rfl | hx
        · exact ha
        · exact hu x hx
      · rw [List.getD_eq_getElem?_getD, List.getElem?_drop] at h1
        rw [List.getD_eq_getElem?_getD, List.length_cons, Nat.add_comm]
        exact h1
      · rw [dr] at h3
        exact h3
      · rw [en, h4]
        show a + p * (numW p u + p ^ u.length * (e + p * numW p ((D.drop 1).drop (u.length + 1)))) = a + p * numW p u + p ^ (u.length + 1) * (e + p * numW p (D.drop (u.length + 1 + 1)))
        rw [dr, Nat.mul_add, ← Nat.mul_assoc, Nat.pow_succ, Nat.mul_comm p (p ^ u.length)]
        omega
    · have ew : numW p w = numW p (D.drop 1) := by
        have h1 : numW p w ≤ numW p (D.drop 1) := by omega
        rcases Nat.lt_or_ge (numW p w) (numW p (D.drop 1)) with lt2 | ge
        · exfalso
          have : p * (numW p w + 1) ≤ p * numW p (D.drop 1) := Nat.mul_le_mul_left p lt2
          rw [Nat.mul_add] at this
          omega
        · omega
      refine ⟨[], a, (fun _ h => nomatch h), ?_, ha, ?_, ?_⟩
      · show D.getD 0 0 < a
        rw [en, eD, ew] at lt
        omega
      · show F (runW f (f s a) (D.drop 1)) = true
        rw [← fl_same h w (D.drop 1) _ (h.1 s a hs ha) hw' hD' ew]
        exact hF
      · rw [en, ew]
        show a + p * numW p (D.drop 1) = 0 + p ^ 0 * (a + p * numW p (D.drop 1))
        rw [Nat.pow_zero]
        omega
theorem drop_low {D : List Nat} (hD : Dg p D) (p0 : 0 < p) (a : Nat) : ∀ j, numW p (D.drop a) + 1 ≤ p ^ j * (numW p (D.drop (a + j)) + 1)
  | 0 => by rw [Nat.pow_zero, Nat.one_mul]; exact Nat.le_refl _
  | j + 1 => by
    have ih := drop_low hD p0 a j
    have e := numW_at (p := p) (D.drop (a + j))
    have dr : (D.drop (a + j)).drop 1 = D.drop (a + (j + 1)) := by rw [List.drop_drop]; congr 1
    have d0 : (D.drop (a + j)).getD 0 0 < p := by
      cases h : D.drop (a + j) with
      | nil => exact p0
      | cons d l => exact hD d (List.mem_of_mem_drop (i := a + j) (by rw [h]; exact .head _))
    rw [dr] at e
    have h1 : numW p (D.drop (a + j)) + 1 ≤ p * (numW p (D.drop (a + (j + 1))) + 1) := by
      rw [Nat.mul_add, Nat.mul_one]
      omega
    rw [Nat.pow_succ, Nat.mul_assoc]
    exact Nat.le_trans ih (Nat.mul_le_mul_left (p ^ j) h1)
/-- numbers that part lower are less -/
theorem valK_lt {D : List Nat} (hD : Dg p D) (p0 : 0 < p) {k e x k' e' x' : Nat} (hx : x < p ^ k) (he : e < p) (he' : D.getD k' 0 < e') (lt : k < k' ∨ (k = k' ∧ e < e')) : valK p D k e x < valK p D k' e' x' := by
  unfold valK
  rcases lt with lt | ⟨rfl, lt⟩
  · obtain ⟨j, rfl⟩ : ∃ j, k' = k + 1 + j := ⟨k' - (k + 1), by omega⟩
    have h1 := drop_low hD p0 (k + 1) j
    have e1 := numW_at (p := p) (D.drop (k + 1 + j))
    have dr : (D.drop (k + 1 + j)).drop 1 = D.drop (k + 1 + j + 1) := by rw [List.drop_drop]
    have g0 : (D.drop (k + 1 + j)).getD 0 0 = D.getD (k + 1 + j) 0 := by
      rw [List.getD_eq_getElem?_getD, List.getD_eq_getElem?_getD, List.getElem?_drop, Nat.add_zero]
    rw [dr, g0] at e1
    have h2 : p ^ k * (e + p * numW p (D.drop (k + 1))) + p ^ k ≤ p ^ (k + 1) * (numW p (D.drop (k + 1)) + 1) := by
      rw [Nat.pow_succ, Nat.mul_assoc]
      have : p ^ k * (e + p * numW p (D.drop (k + 1)) + 1) ≤ p ^ k * (p * (numW p (D.drop (k + 1)) + 1)) := Nat.mul_le_mul_left _ (by rw [Nat.mul_add, Nat.mul_one]; omega)
      rw [Nat.mul_add, Nat.mul_one] at this
      exact this
    have h3 : p ^ (k + 1) * (numW p (D.drop (k + 1)) + 1) ≤ p ^ (k + 1 + j) * (e' + p * numW p (D.drop (k + 1 + j + 1))) := by
      have a := Nat.mul_le_mul_left (p ^ (k + 1)) h1
      rw [← Nat.mul_assoc, ← Nat.pow_add] at a
      refine Nat.le_trans a (Nat.mul_le_mul_left _ ?_)
      omega
    omega
  · have : p ^ k * (e + p * numW p (D.drop (k + 1)) + 1) ≤ p ^ k * (e' + p * numW p (D.drop (k + 1))) := Nat.mul_le_mul_left _ (by omega)
    rw [Nat.mul_add, Nat.mul_one] at this
    omega
/-- a number that parts so is above low -/
theorem valK_above {D : List Nat} (hD : Dg p D) (p0 : 0 < p) {k e x : Nat} (he : D.getD k 0 < e) : numW p D < valK p D k e x := by
  have h1 := drop_low hD p0 0 k
  rw [Nat.zero_add, List.drop_zero] at h1
  have e1 := numW_at (p := p) (D.drop k)
  have dr : (D.drop k).drop 1 = D.drop (k + 1) := by rw [List.drop_drop]
  have g0 : (D.drop k).getD 0 0 = D.getD k 0 := by
    rw [List.getD_eq_getElem?_getD, List.getD_eq_getElem?_getD, List.getElem?_drop, Nat.add_zero]
  rw [dr, g0] at e1
  have h2 : p ^ k * (numW p (D.drop k) + 1) ≤ p ^ k * (e + p * numW p (D.drop (k + 1))) := Nat.mul_le_mul_left _ (by omega)
  unfold valK
  omega
/-! ### levels -/
def Early (p : Nat) (f : Nat → Nat → Nat) (lo k s : Nat) : Prop := ∃ i m, lo ≤ i ∧ i < k ∧ Wd p f i s m
/-- the states of a level that were not met earlier, and their least numbers -/
def Xl (p : Nat) (f : Nat → Nat → Nat) (lo k : Nat) (t : Int) (m : Nat) : Prop := ∃ s : Nat, t = s ∧ MinE (Wd p f k s) m ∧ ¬ Early p f lo k s
/-- the steps from a level -/
def Led (p : Nat) (f : Nat → Nat → Nat) (E : Int → Nat → Prop) (w : Nat) (t : Int) (v : Nat) : Prop := ∃ s m d : Nat, MinE (E (s : Int)) m ∧ d < p ∧ t = ((f s d : Nat) : Int) ∧ v = m + d * w
theorem xl_min {lo k : Nat} {t : Int} {m : Nat} (h : Xl p f lo k t m) : MinE (Xl p f lo k t) m := ⟨h, fun m' ⟨s', e', h', _⟩ => by
  obtain ⟨s, e, h, _⟩ := h
  obtain rfl : s = s' := by omega
  exact h.2 _ h'.1⟩
theorem wd_snoc {k s v : Nat} (h : Wd p f (k + 1) s v) : ∃ s' m d, Wd p f k s' m ∧ d < p ∧ f s' d = s ∧ v = m + d * p ^ k := by
  obtain ⟨w, lw, g, rfl, rfl⟩ := h
  obtain ⟨u, d, rfl⟩ := snoc_of w (fun e => by rw [e] at lw; cases lw)
  have lu : u.length = k := by rw [List.length_append] at lw; exact Nat.succ.inj lw
  obtain ⟨gu, gd⟩ := Dg.snoc.mp g
  exact ⟨_, _, d, ⟨u, lu, gu, rfl, rfl⟩, gd, runW_app.symm, by rw [numW_snoc, lu]⟩
theorem wd_next {k s m d : Nat} (h : Wd p f k s m) (hd : d < p) : Wd p f (k + 1) (f s d) (m + d * p ^ k) := by
  obtain ⟨u, lu, g, rfl, rfl⟩ := h
  exact ⟨u ++ [d], by rw [List.length_append, lu]; rfl, Dg.snoc.mpr ⟨g, hd⟩, runW_app, by rw [numW_snoc, lu]⟩
theorem wd_min {k s v : Nat} (h : Wd p f k s v) : ∃ m, MinE (Wd p f k s) m ∧ m ≤ v := by
  obtain ⟨m, h1, h2⟩ := least_ex (Wd p f k s) v h
  exact ⟨m, ⟨h1, h2⟩, h2 v h⟩
theorem early_next {lo k s d : Nat} (h : Early p f lo k s) (hd : d < p) : Early p f lo (k + 1) (f s d) := by
  obtain ⟨i, m, h1, h2, h3⟩ := h
  exact ⟨i + 1, _, by omega, by omega, wd_next h3 hd⟩
/-- the least steps to states that are new are the least words -/
theorem led_min {lo k s v : Nat} (no : ¬ Early p f lo (k + 1) s) : MinE (Led p f (Xl p f lo k) (p ^ k) (s : Int)) v ↔ MinE (Wd p f (k + 1) s) v := by
  have one : ∀ v, Led p f (Xl p f lo k) (p ^ k) (s : Int) v → Wd p f (k + 1) s v := fun v ⟨s', m, d, h1, hd, e, ev⟩ => by
    obtain ⟨s2, e2, h2, _⟩ := h1.1
    obtain rfl : s' = s2 := by omega
    obtain rfl : s = f s' d := by omega
    rw [ev]
    exact wd_next h2.1 hd
  have two : ∀ v, Wd p f (k + 1) s v → ∃ v', v' ≤ v ∧ Led p f (Xl p f lo k) (p ^ k) (s : Int) v' := fun v h => by
    obtain ⟨s', m, d, h1, hd, e, ev⟩ := wd_snoc h
    obtain ⟨m', h2, le⟩ := wd_min h1
    refine ⟨m' + d * p ^ k, by omega, s', m', d, xl_min ⟨s', rfl, h2, fun z => no ?_⟩, hd, by rw [e], rfl⟩
    rw [← e]
    exact early_next z hd
  constructor
  · rintro ⟨h1, h2⟩
    refine ⟨one v h1, fun m hm => ?_⟩
    obtain ⟨v', le, hv'⟩ := two m hm
    exact Nat.le_trans (h2 v' hv') le
  · rintro ⟨h1, h2⟩
    obtain ⟨v', le, hv'⟩ := two v h1
    have := h2 v' (one v' hv')
    obtain rfl : v = v' := by omega
    exact ⟨hv', fun m hm => h2 m (one m hm)⟩
/-- the numbers of flagged states -/
def FlS (p : Nat) (f : Nat → Nat → Nat) (F : Nat → Bool) (m : Nat) : Prop := ∃ w, Dg p w ∧ F (runW f 0 w) = true ∧ numW p w = m
/-- nothing is found from a level by a digit -/
def NoF (p : Nat) (f : Nat → Nat → Nat) (F : Nat → Bool) (D : List Nat) (lo k e : Nat) : Prop := ∀ (s m : Nat), Xl p f lo k (s : Int) m → F (runW f s (e :: D.drop (k + 1))) = false
/-- what is found at a level by a digit -/
def Fit (p : Nat) (f : Nat → Nat → Nat) (F : Nat → Bool) (D : List Nat) (lo k e x : Nat) : Prop := ∃ s : Nat, Xl p f lo k (s : Int) x ∧ F (runW f s (e :: D.drop (k + 1))) = true
/-- a word that parts from low is met at its level or earlier -/
theorem met_early {D : List Nat} {lo : Nat} (hlo : D.length ≤ lo) {u : List Nat} {e : Nat} (hu : Dg p u) (hF : F (runW f 0 (u ++ e :: D.drop (u.length + 1))) = true) :
    (∃ x, Fit p f F D lo u.length e x ∧ x ≤ numW p u) ∨ ∃ k x, lo ≤ k ∧ k < u.length ∧ Fit p f F D lo k e x := by
  rw [runW_cat] at hF
  have hw : Wd p f u.length (runW f 0 u) (numW p u) := ⟨u, rfl, hu, rfl, rfl⟩
  by_cases z : Early p f lo u.length (runW f 0 u)
  · obtain ⟨i, hi, least⟩ := least_ex (fun i => ∃ m, lo ≤ i ∧ i < u.length ∧ Wd p f i (runW f 0 u) m) z.choose z.choose_spec
    obtain ⟨m, l1, l2, h3⟩ := hi
    obtain ⟨x, hx, _⟩ := wd_min h3
    refine .inr ⟨i, x, l1, l2, _, ⟨_, rfl, hx, fun ⟨i', m', a1, a2, a3⟩ => ?_⟩, ?_⟩
    · have := least i' ⟨m', a1, by omega, a3⟩
      omega
    · rw [List.drop_eq_nil_of_le (by omega)] at hF ⊢
      exact hF
  · obtain ⟨x, hx, le⟩ := wd_min hw
    exact .inl ⟨x, ⟨_, ⟨_, rfl, hx, z⟩, hF⟩, le⟩
theorem fit_val (h : StF p f F R) {D : List Nat} {lo k e x : Nat} (hD : Dg p D) (he : e < p) (hf : Fit p f F D lo k e x) : x < p ^ k ∧ FlS p f F (valK p D k e x) := by
  obtain ⟨s, ⟨s', es, ⟨⟨u, lu, hu, e1, e2⟩, _⟩, _⟩, hF⟩ := hf
  obtain rfl : s = s' := by omega
  subst e1 e2 lu
  refine ⟨numW_lt (by omega) u hu, u ++ e :: D.drop (u.length + 1), fun y hy => ?_, by rw [runW_cat]; exact hF, valK_word⟩
  rcases List.mem_append.mp hy with hy | hy
  · exact hu y hy
  · rcases List.mem_cons.mp hy with rfl | hy
    · exact he
    · exact hD y (List.mem_of_mem_drop hy)
/-- the first that is found is the least -/
theorem found_first (h : StF p f F R) (R0 : R 0) (p0 : 0 < p) {D : List Nat} {lo : Nat} (hD : Dg p D) (hlo : D.length ≤ lo) {k e x : Nat} (he : D.getD k 0 < e) (hep : e < p) (hf : MinE (Fit p f F D lo k e) x)
    (no : ∀ k' e', D.getD k' 0 < e' → e' < p → (k' < k ∨ (k' = k ∧ e' < e)) → NoF p f F D lo k' e') : MinE (fun m => numW p D < m ∧ FlS p f F m) (valK p D k e x) := by
  obtain ⟨hx, fl⟩ := fit_val h hD hep hf.1
  refine ⟨⟨valK_above hD p0 he, fl⟩, fun m ⟨lt, w, hw, hF, em⟩ => ?_⟩
  subst em
  obtain ⟨u, e', hu, h1, h2, h3, h4⟩ := above_parts h p0 w D 0 R0 hw hD lt hF
  rw [h4]
  have none : ∀ k' x', Fit p f F D lo k' e' x' → D.getD k' 0 < e' → ¬ (k' < k ∨ (k' = k ∧ e' < e)) := fun k' x' ⟨s, hs, hF⟩ hd z => by
    rw [no k' e' hd h2 z s x' hs] at hF
    cases hF
  have big : ∀ k', lo ≤ k' → D.getD k' 0 = 0 := fun k' hk => by
    rw [List.getD_eq_getElem?_getD, List.getElem?_eq_none (by omega)]
    rfl
  rcases met_early hlo hu h3 with ⟨x', hf', le⟩ | ⟨k', x', l1, l2, hf'⟩
  · have nn := none _ x' hf' h1
    by_cases z : k < u.length ∨ (k = u.length ∧ e < e')
    · exact Nat.le_of_lt (valK_lt hD p0 hx hep h1 z)
    · obtain rfl : k = u.length := by omega
      obtain rfl : e = e' := by omega
      have := hf.2 x' hf'
      unfold valK
      omega
  · have nn := none _ x' hf' (by rw [big k' l1]; omega)
    exact Nat.le_of_lt (valK_lt hD p0 hx hep h1 (.inl (by omega)))
/-- nothing is found if a level is empty -/
theorem found_none (h : StF p f F R) (R0 : R 0) (p0 : 0 < p) {D : List Nat} {lo k : Nat} (hD : Dg p D) (hlo : D.length ≤ lo) (emp : ∀ (s m : Nat), ¬ Xl p f lo k (s : Int) m) (lk : lo ≤ k)
    (no : ∀ k' e', D.getD k' 0 < e' → e' < p → k' < k → NoF p f F D lo k' e') (m : Nat) : ¬ (numW p D < m ∧ FlS p f F m) := by
  rintro ⟨lt, w, hw, hF, em⟩
  subst em
  obtain ⟨u, e, hu, h1, h2, h3, h4⟩ := above_parts h p0 w D 0 R0 hw hD lt hF
  have big : ∀ k', lo ≤ k' → D.getD k' 0 = 0 := fun k' hk => by
    rw [List.getD_eq_getElem?_getD, List.getElem?_eq_none (by omega)]
    rfl
  have up : ∀ j s v, Wd p f (k + j) s v → ∃ i m, lo ≤ i ∧ i < k ∧ Wd p f i s m := by
    intro j
    induction j with
    | zero =>
      intro s v hs
      obtain ⟨m, hm, _⟩ := wd_min hs
      exact Classical.byContradiction fun z => emp s m ⟨s, rfl, hm, z⟩
    | succ j ih =>
      intro s v hs
      obtain ⟨s', m, d, a1, a2, a3, _⟩ := wd_snoc (k := k + j) hs
      obtain ⟨i, m', b1, b2, b3⟩ := ih s' m a1
      have c := wd_next b3 a2
      rw [a3] at c
      by_cases z : i + 1 < k
      · exact ⟨i + 1, _, by omega, z, c⟩
      · obtain rfl : k = i + 1 := by omega
        obtain ⟨m2, hm2, _⟩ := wd_min c
        exact Classical.byContradiction fun z => emp s m2 ⟨s, rfl, hm2, z⟩
  have key : ∀ k' x', Fit p f F D lo k' e x' → D.getD k' 0 < e → k' < k → False := fun k' x' ⟨s, hs, hF⟩ hd hk => by
    rw [no k' e hd h2 hk s x' hs] at hF
    cases hF
  rcases met_early hlo hu h3 with ⟨x', hf', le⟩ | ⟨k', x', l1, l2, hf'⟩
  · by_cases z : u.length < k
    · exact key _ x' hf' h1 z
    · obtain ⟨s, ⟨s', es, hm, ne⟩, _⟩ := hf'
      obtain ⟨j, ej⟩ : ∃ j, u.length = k + j := ⟨u.length - k, by omega⟩
      rw [ej] at hm ne
      obtain ⟨i, m, a1, a2, a3⟩ := up j s' x' hm.1
      exact ne ⟨i, m, a1, by omega, a3⟩
  · by_cases z : k' < k
    · exact key _ x' hf' (by rw [big k' l1]; omega) z
    · obtain ⟨s, ⟨s', es, hm, ne⟩, _⟩ := hf'
      obtain ⟨j, ej⟩ : ∃ j, k' = k + j := ⟨k' - k, by omega⟩
      rw [ej] at hm ne
      obtain ⟨i, m, a1, a2, a3⟩ := up j s' x' hm.1
      exact ne ⟨i, m, a1, by omega, a3⟩
end
end B5

/-! Brk: the unlike machine's flags; how far one must look. -/
namespace B5
open PySem L2
section
variable {p n q : Nat} {f : Nat → Nat → Nat} {v : Nat → Int} {sa : List Int → Nat → List Int} {met : List (List Int)} {rows : List (List Nat)}
/-- the flag of a state that is met -/
def flM (p : Nat) (f : Nat → Nat → Nat) (v : Nat → Int) (met : List (List Int)) (s : Nat) : Bool := (met.map (flU p f v)).getD s false
/-- steps that tell as the full ones do -/
def Tells (p q n : Nat) (f : Nat → Nat → Nat) (v : Nat → Int) (sa : List Int → Nat → List Int) : Prop := ∀ (k : List Int) (w : List Nat), PkU n q k → Dg p w → flU p f v (runA sa k w) = flU p f v (runA (stepU p f) k w)
theorem tells_U : Tells p q n f v (stepU p f) := fun _ _ _ _ => rfl
theorem tells_C : Tells p q n f v (stepC p f) := fun k w ⟨s, t, c, e, _⟩ hw => by
  rw [e]
  exact runC_fl w s t c hw
theorem flM_run (M : MetA (PkU n q) p sa [0, 0, (q : Int)] met rows) (T : Tells p q n f v sa) {w : List Nat} (hw : Dg p w) : flM p f v met (runW (tab rows) 0 w) = flU p f v (runA (stepU p f) [0, 0, (q : Int)] w) := by
  have e := M.run w 0 _ M.first hw
  unfold flM
  rw [List.getD_eq_getElem?_getD, List.getElem?_map, e]
  show flU p f v _ = _
  exact T _ _ (M.all _ (List.mem_of_getElem? M.first)) hw
theorem flS_brk (M : MetA (PkU n q) p sa [0, 0, (q : Int)] met rows) (T : Tells p q n f v sa) (m : Nat) : FlS p (tab rows) (flM p f v met) m ↔ Brk p q (fun w => v (runW f 0 w)) m := by
  constructor
  · rintro ⟨w, hw, hF, e⟩
    rw [flM_run M T hw] at hF
    exact ⟨w, hw, flU_run.mp hF, e⟩
  · rintro ⟨w, hw, hF, e⟩
    exact ⟨w, hw, by rw [flM_run M T hw]; exact flU_run.mpr hF, e⟩
theorem flU_zero (p2 : 2 ≤ p) (st : ∀ s, s < n → v s = v (f s 0)) {k : List Int} (hk : PkU n q k) : flU p f v k = flU p f v (stepU p f k 0) := by
  obtain ⟨s, t, c, rfl, hs, ht, hc⟩ := hk
  rw [stepU_at, flU_at, flU_at, Nat.zero_add, ← st s hs]
  rcases Nat.eq_zero_or_pos c with rfl | h
  · rw [Nat.zero_mod, Nat.zero_div, digN_zero]
    show decide (v s ≠ v t) = decide (v s ≠ v (f t 0))
    rw [← st t ht]
  · rw [digN_pos h p2]
    rfl
theorem flM_st (M : MetA (PkU n q) p sa [0, 0, (q : Int)] met rows) (T : Tells p q n f v sa) (p2 : 2 ≤ p) (st : ∀ s, s < n → v s = v (f s 0)) : StF p (tab rows) (flM p f v met) (fun s => s < met.length) := by
  refine ⟨M.cl, fun i hi => ?_⟩
  have ei : met[i]? = some met[i] := List.getElem?_eq_getElem hi
  obtain ⟨_, e0⟩ := M.led i _ 0 ei (by omega)
  have hk := M.all _ (List.getElem_mem hi)
  unfold flM
  rw [List.getD_eq_getElem?_getD, List.getD_eq_getElem?_getD, List.getElem?_map, List.getElem?_map, ei, e0]
  show flU p f v met[i] = flU p f v (sa met[i] 0)
  have := T met[i] [0] hk (fun x hx => by
    have : x = 0 := by simpa using hx
    omega)
  have e1 : flU p f v (sa met[i] 0) = flU p f v (stepU p f met[i] 0) := this
  rw [e1]
  exact flU_zero p2 st hk
end
section
variable {p n : Nat} {f : Nat → Nat → Nat} {F : Nat → Bool}
/-- a state that is not met earlier: the states ahead of it are others -/
theorem early_chain {lo : Nat} : ∀ (j s m : Nat), Wd p f (lo + j) s m → ¬ Early p f lo (lo + j) s → ∃ l : List Nat, l.length = j + 1 ∧ l.Nodup ∧ (∀ x ∈ l, ∃ i m, lo ≤ i ∧ i ≤ lo + j ∧ Wd p f i x m)
  | 0, s, m, h, _ => ⟨[s], rfl, by simp, fun x hx => by
      have : x = s := by simpa using hx
      subst this
      exact ⟨lo, m, Nat.le_refl _, Nat.le_refl _, h⟩⟩
  | j + 1, s, m, h, no => by
    obtain ⟨s', m', d, h1, hd, e, _⟩ := wd_snoc (k := lo + j) h
    obtain ⟨l, e1, e2, e3⟩ := early_chain j s' m' h1 fun z => no (by rw [← e]; exact early_next z hd)
    refine ⟨s :: l, by rw [List.length_cons, e1], List.nodup_cons.mpr ⟨fun hx => ?_, e2⟩, fun x hx => ?_⟩
    · obtain ⟨i, m2, a1, a2, a3⟩ := e3 s hx
      exact no ⟨i, m2, a1, by omega, a3⟩
    · rcases List.mem_cons.mp hx with rfl | hx
      · exact ⟨lo + (j + 1), m, by omega, by omega, h⟩
      · obtain ⟨i, m2, a1, a2, a3⟩ := e3 x hx
        exact ⟨i, m2, a1, by omega, a3⟩
theorem wd_below (cl : ∀ s d, s < n → d < p → f s d < n) (n0 : 0 < n) {k s m : Nat} (h : Wd p f k s m) : s < n := by
  obtain ⟨w, _, g, rfl, _⟩ := h
  have key : ∀ (w : List Nat) (s : Nat), s < n → Dg p w → runW f s w < n := by
    intro w
    induction w with
    | nil => intro s hs _; exact hs
    | cons d w ih => intro s hs g; exact ih _ (cl s d hs (g d (.head _))) fun x hx => g x (.tail _ hx)
  exact key w 0 n0 g
/-- levels end -/
theorem level_few (cl : ∀ s d, s < n → d < p → f s d < n) (n0 : 0 < n) {lo k s m : Nat} (lk : lo ≤ k) (h : Wd p f k s m) (no : ¬ Early p f lo k s) : k < lo + n := by
  obtain ⟨j, rfl⟩ : ∃ j, k = lo + j := ⟨k - lo, by omega⟩
  obtain ⟨l, e1, e2, e3⟩ := early_chain j s m h no
  have := nodup_below n l e2 fun x hx => by
    obtain ⟨i, m, _, _, h⟩ := e3 x hx
    exact wd_below cl n0 h
  omega
theorem xl_few (cl : ∀ s d, s < n → d < p → f s d < n) (n0 : 0 < n) {lo k : Nat} {t : Int} {m : Nat} (h : Xl p f lo k t m) : k < lo + n := by
  obtain ⟨s, _, h1, h2⟩ := h
  by_cases z : lo ≤ k
  · exact level_few cl n0 z h1.1 h2
  · omega
theorem drop_lt {D : List Nat} (hD : Dg p D) (p0 : 0 < p) {a b : Nat} (h : D.length ≤ a + b) : numW p (D.drop a) < p ^ b := by
  refine Nat.lt_of_lt_of_le (numW_lt p0 _ fun x hx => hD x (List.mem_of_mem_drop hx)) ?_
  rw [List.length_drop]
  exact Nat.pow_le_pow_right p0 (by omega)
theorem valK_few {D : List Nat} (hD : Dg p D) (p0 : 0 < p) {k e x b : Nat} (hx : x < p ^ k) (he : e < p) (h1 : D.length ≤ b) (h2 : k + 1 ≤ b) : valK p D k e x < p ^ b := by
  obtain ⟨j, rfl⟩ : ∃ j, b = k + 1 + j := ⟨b - (k + 1), by omega⟩
  have hd := drop_lt hD p0 (a := k + 1) (b := j) h1
  unfold valK
  have a1 : p ^ k * (e + p * numW p (D.drop (k + 1)) + 1) ≤ p ^ k * (p * p ^ j) := Nat.mul_le_mul_left _ (by
    have : p * (numW p (D.drop (k + 1)) + 1) ≤ p * p ^ j := Nat.mul_le_mul_left p hd
    rw [Nat.mul_add, Nat.mul_one] at this
    omega)
  have a2 : p ^ k * (p * p ^ j) = p ^ (k + 1 + j) := by rw [Nat.pow_add, Nat.pow_succ, Nat.mul_assoc]
  rw [a2, Nat.mul_add, Nat.mul_one] at a1
  omega
/-- a number above low stands not too far -/
theorem found_near {R : Nat → Prop} (h : StF p f F R) (R0 : R 0) (cl : ∀ s d, s < n → d < p → f s d < n) (n0 : 0 < n) (p0 : 0 < p) {D : List Nat} (hD : Dg p D) {m : Nat} (lt : numW p D < m) (hm : FlS p f F m) : ∃ m', numW p D < m' ∧ FlS p f F m' ∧ m' < p ^ (D.length + n + 1) := by
  obtain ⟨w, hw, hF, em⟩ := hm
  subst em
  obtain ⟨u, e, hu, h1, h2, h3, h4⟩ := above_parts h p0 w D 0 R0 hw hD lt hF
  have fin : ∀ k x, Fit p f F D D.length k e x → D.getD k 0 < e → ∃ m', numW p D < m' ∧ FlS p f F m' ∧ m' < p ^ (D.length + n + 1) := fun k x hf he => by
    obtain ⟨a, b⟩ := fit_val h hD h2 hf
    obtain ⟨s, hs, _⟩ := hf
    have := xl_few cl n0 hs
    exact ⟨_, valK_above hD p0 he, b, valK_few hD p0 a h2 (by omega) (by omega)⟩
  rcases met_early (Nat.le_refl _) hu h3 with ⟨x, hf, _⟩ | ⟨k, x, l1, l2, hf⟩
  · exact fin _ x hf h1
  · refine fin k x hf ?_
    rw [List.getD_eq_getElem?_getD, List.getElem?_eq_none (by omega)]
    show 0 < e
    omega
end
end B5

/-! RevT: a tuple from its end. -/
namespace B5
open PySem L2 RT
theorem walk_revT {K : PySem.W.Frag} {a : Addr} {xs : List V} : Walk (ItvT K a xs.length) xs.length (fun H => SqT K H a xs) (fun i H x H' => H' = H ∧ xs[xs.length - 1 - i]? = some x) :=
  ⟨fun i H hi h => ⟨hi, xs, xs[xs.length - 1 - i]'(by omega), h, List.getElem?_eq_getElem (by omega)⟩, fun _ _ => Nat.le_refl _, fun i H x H' hi h y => ⟨y.1, y.2 xs h⟩⟩
theorem drop_back {α : Type} {l : List α} {i : Nat} {x : α} (hi : i < l.length) (h : l[l.length - 1 - i]? = some x) : l.drop (l.length - (i + 1)) = x :: l.drop (l.length - i) := by
  have e : l.length - (i + 1) = l.length - 1 - i := by omega
  obtain ⟨h1, h2⟩ := List.getElem?_eq_some_iff.mp h
  rw [e, List.drop_eq_getElem_cons h1, h2, show l.length - 1 - i + 1 = l.length - i by omega]
end B5

/-! Pk: packed rows: what pack, number_at, unpack promise; figures. -/
namespace B5
open PySem L2 Gd
def figL (d : Nat) : List Nat := [48, 48, 48, 48, 48 + d / 16, if d % 16 < 10 then 48 + d % 16 else 87 + d % 16]
def FIGS : List Str := (List.range 27).map fun d => SX.S (figL d)
theorem fig_ok : ∀ d, d < 27 → (∀ c ∈ figL d, Hx.IsHex c) ∧ Hx.hexNum (figL d) = d := by
  have : ∀ d ∈ List.range 27, (∀ c ∈ figL d, (48 ≤ c ∧ c ≤ 57) ∨ (97 ≤ c ∧ c ≤ 102) ∨ (65 ≤ c ∧ c ≤ 70)) ∧ Hx.hexNum (figL d) = d := by decide +kernel
  exact fun d hd => this d (List.mem_range.mpr hd)
theorem figs_at {d : Nat} (h : d < 27) : (FIGS.map V.str)[d]? = some (.str (SX.S (figL d))) := by
  unfold FIGS
  rw [List.getElem?_map, List.getElem?_map, List.getElem?_range h]
  rfl
theorem hex_app (a b : List Nat) : Hx.hexNum (a ++ b) = Hx.hexNum a * 16 ^ b.length + Hx.hexNum b := by
  have go : ∀ (b : List Nat) (n : Nat), b.foldl (fun a c => a * 16 + Hx.hv c) n = n * 16 ^ b.length + Hx.hexNum b := by
    intro b
    unfold Hx.hexNum
    induction b with
    | nil => intro n; simp
    | cons c b ih =>
      intro n
      rw [List.foldl_cons, List.foldl_cons, ih (n * 16 + Hx.hv c), ih (0 * 16 + Hx.hv c), List.length_cons, Nat.pow_succ, Nat.zero_mul, Nat.zero_add, Nat.add_mul, Nat.mul_assoc, Nat.mul_comm 16, Nat.add_assoc]
  unfold Hx.hexNum
  rw [List.foldl_append]
  exact go b _
def figsOf (ds : List Int) : List Nat := (ds.map fun d => figL d.toNat).reverse.flatten
theorem figsOf_cons (a : Int) (r : List Int) : figsOf (a :: r) = figsOf r ++ figL a.toNat := by
  unfold figsOf
  rw [List.map_cons, List.reverse_cons, List.flatten_append]
  simp
theorem figsOf_len : ∀ ds : List Int, (figsOf ds).length = 6 * ds.length
  | [] => rfl
  | a :: r => by
    rw [figsOf_cons, List.length_append, figsOf_len r, List.length_cons]
    show _ + 6 = _
    omega
theorem figsOf_hex : ∀ {ds : List Int}, (∀ d ∈ ds, 0 ≤ d ∧ d < 27) → (∀ c ∈ figsOf ds, Hx.IsHex c) ∧ ((Hx.hexNum (figsOf ds) : Nat) : Int) = Lat.P ds
  | [], _ => ⟨(fun c h => nomatch h), rfl⟩
  | a :: r, h => by
    obtain ⟨i1, i2⟩ := figsOf_hex (ds := r) fun d hd => h d (.tail _ hd)
    obtain ⟨a0, a1⟩ := h a (.head _)
    obtain ⟨f1, f2⟩ := fig_ok a.toNat (by omega)
    rw [figsOf_cons]
    refine ⟨fun c hc => ?_, ?_⟩
    · rcases List.mem_append.mp hc with hc | hc
      · exact i1 c hc
      · exact f1 c hc
    · rw [hex_app, f2]
      show ((Hx.hexNum (figsOf r) * 16 ^ 6 + a.toNat : Nat) : Int) = Lat.P r * 2 ^ 24 + a
      rw [Int.natCast_add, Int.natCast_mul, i2, Int.toNat_of_nonneg a0]
      rfl
theorem joinL_flat : ∀ l : List (List Nat), TL.joinL [] l = l.flatten
  | [] => rfl
  | [p] => by simp [TL.joinL]
  | p :: q :: r => by
    show p ++ ([] ++ TL.joinL [] (q :: r)) = _
    rw [joinL_flat (q :: r)]
    simp
/-- pack(row, m) -/
def spPack (K : PySem.W.Frag) : Sp := fun vs H Q _ => ∃ (a : Addr) (ds : List Int) (m : Int), vs = [.ref a, .int m] ∧ Sq K H a (ds.map V.int) ∧ ds.length ≤ 100 ∧ 0 < m ∧ m ≤ 27 ∧
  ∀ H', More H H' → Q (.int (Lat.P (ds.map (· % m)))) H'
/-- number_at(packed, place, m) -/
def spAt : Sp := fun vs H Q _ => ∃ (l : List Int) (j : Nat) (m : Int), vs = [.int (Lat.P l), .int j, .int m] ∧ (∀ a ∈ l, 0 ≤ a ∧ a < 2 ^ 24) ∧ 0 < m ∧ Q (.int (l.getD j 0 % m)) H
/-- unpack(packed, width, m) -/
def spUn : Sp := fun vs H Q _ => ∃ (l : List Int) (n : Nat) (m : Int), vs = [.int (Lat.P l), .int n, .int m] ∧ (∀ a ∈ l, 0 ≤ a ∧ a < 2 ^ 24) ∧ 0 < m ∧ n ≤ 1000 ∧
  ∀ H' t, More H H' → H t = none → H' t = some (.tup (((List.range n).map fun j => l.getD j 0 % m).map V.int)) → Q (.ref t) H'
end B5

/-! PkU: what stands in a packed row, piece by piece. -/
namespace Lat
theorem P_app : ∀ (a b : List Int), P (a ++ b) = P a + P b * 2 ^ (24 * a.length)
  | [], b => by
    show P b = 0 + P b * 2 ^ 0
    rw [Int.zero_add, show ((2 : Int) ^ 0) = 1 from rfl, Int.mul_one]
  | x :: r, b => by
    show P (r ++ b) * 2 ^ 24 + x = P r * 2 ^ 24 + x + P b * 2 ^ (24 * (r.length + 1))
    rw [P_app r b, Int.add_mul, Nat.mul_add, Int.pow_add, ← Int.mul_assoc]
    omega
theorem P_part {l : List Int} (h : ∀ a ∈ l, 0 ≤ a ∧ a < 2 ^ 24) (k : Nat) : P l / 2 ^ (24 * k) = P (l.drop k) ∧ P l % 2 ^ (24 * k) = P (l.take k) := by
  rcases Nat.lt_or_ge k l.length with lt | ge
  · have e := P_app (l.take k) (l.drop k)
    rw [List.take_append_drop, List.length_take, Nat.min_eq_left (Nat.le_of_lt lt)] at e
    have ht : ∀ a ∈ l.take k, 0 ≤ a ∧ a < 2 ^ 24 := fun a ha => h a (List.mem_of_mem_take ha)
    have b0 := P_nonneg fun a ha => (ht a ha).1
    have b1 := P_bits ht
    rw [List.length_take, Nat.min_eq_left (Nat.le_of_lt lt)] at b1
    have pp : (0 : Int) < 2 ^ (24 * k) := by
      have : 0 < 2 ^ (24 * k) := Nat.pow_pos (by decide)
      exact_mod_cast this
    rw [e]
    exact ⟨by rw [Int.add_mul_ediv_right _ _ (by omega), Int.ediv_eq_zero_of_lt b0 b1, Int.zero_add], by rw [Int.add_mul_emod_self_right, Int.emod_eq_of_lt b0 b1]⟩
  · rw [List.drop_eq_nil_of_le ge, List.take_of_length_le ge]
    have b0 := P_nonneg fun a ha => (h a ha).1
    have b1 := P_bits h
    have : (2 : Int) ^ (24 * l.length) ≤ 2 ^ (24 * k) := by
      have := Nat.pow_le_pow_right (show 0 < 2 by decide) (show 24 * l.length ≤ 24 * k by omega)
      exact_mod_cast this
    exact ⟨Int.ediv_eq_zero_of_lt b0 (by omega), Int.emod_eq_of_lt b0 (by omega)⟩
/-- a piece of 32 numbers -/
def piece (l : List Int) (i : Nat) : List Int := (l.drop (32 * i)).take 32
theorem piece_at {l : List Int} (h : ∀ a ∈ l, 0 ≤ a ∧ a < 2 ^ 24) (i : Nat) : P l / 2 ^ (768 * i) % 2 ^ 768 = P (piece l i) := by
  rw [show 768 * i = 24 * (32 * i) by omega, (P_part h (32 * i)).1, show (2 : Int) ^ 768 = 2 ^ (24 * 32) from rfl, (P_part (fun a ha => h a (List.mem_of_mem_drop ha)) 32).2]
  rfl
theorem piece_mem {l : List Int} (h : ∀ a ∈ l, 0 ≤ a ∧ a < 2 ^ 24) (i : Nat) : ∀ a ∈ piece l i, 0 ≤ a ∧ a < 2 ^ 24 := fun a ha => h a (List.mem_of_mem_drop (List.mem_of_mem_take ha))
theorem piece_get (l : List Int) (i : Nat) {j : Nat} (hj : j < 32) : (piece l i).getD j 0 = l.getD (32 * i + j) 0 := by
  unfold piece
  rw [List.getD_eq_getElem?_getD, List.getD_eq_getElem?_getD, List.getElem?_take_of_lt hj, List.getElem?_drop]
end Lat
namespace B5
open PySem L2 Gd
theorem rg_size (w : Nat) : Builtin.Range.rangeSize 0 (24 * (w : Int)) 768 = (((w + 31) / 32 : Nat) : Int) := by
  unfold Builtin.Range.rangeSize
  rw [if_pos (by decide)]
  split <;> omega
theorem rg_pieces (w : Nat) (hw : w ≤ 1000) : RgC 0 (24 * (w : Int)) 768 ((w + 31) / 32) := by
  refine ⟨by decide, by decide, ?_, rg_size w⟩
  have fit : ∀ x : Int, 0 ≤ x → x ≤ 1000000 → Builtin.Range.rangeFitsLong x = true := fun x h0 h1 => by
    unfold Builtin.Range.rangeFitsLong
    rw [Bool.and_eq_true]
    exact ⟨decide_eq_true (by omega), decide_eq_true (by omega)⟩
  unfold Builtin.Range.small
  rw [rg_size w, fit 0 (by decide) (by decide), fit _ (by omega) (by omega), fit 768 (by decide) (by decide), fit _ (by omega) (by omega), if_pos (by decide), fit _ (by omega) (by omega)]
  simp
theorem rg_fields : RgC 0 768 24 32 := ⟨by decide, by decide, by decide, by decide⟩
theorem cut_to {xs : List V} {n : Nat} (h : n ≤ xs.length) : cutV xs none (some (n : Int)) = xs.take n := by
  unfold cutV
  rw [HT.sIx_none, HT.sIx_nat, List.drop_zero, Nat.min_eq_left h, Nat.sub_zero]
end B5

/-! Pv: the dict of pivots, what headed, put_row, pivots_of, size_of promise. -/
namespace B5
open PySem L2 Gd
/-- the units of m that take x to e -/
def unitsM (m x e : Int) (n : Nat) : List Int := ((List.range n).map fun i : Nat => 1 + (i : Int)).filter fun u => decide (u * x % m = e)
theorem unitsM_len (m x e : Int) (n : Nat) : (unitsM m x e n).length ≤ n := by
  refine Nat.le_trans (List.length_filter_le _ _) ?_
  rw [List.length_map, List.length_range]
  exact Nat.le_refl _
theorem unitsM_succ (m x e : Int) (n : Nat) : unitsM m x e (n + 1) = unitsM m x e n ++ (if (1 + (n : Int)) * x % m = e then [1 + (n : Int)] else []) := by
  unfold unitsM
  rw [List.range_succ, List.map_append, List.filter_append]
  congr 1
  show List.filter _ [1 + (n : Int)] = _
  by_cases h : (1 + (n : Int)) * x % m = e
  · rw [if_pos h, List.filter_cons_of_pos (by simpa using h)]
    rfl
  · rw [if_neg h, List.filter_cons_of_neg (by simpa using h)]
    rfl
/-- headed(packed, width, m): the row times a unit -/
def spHd : Sp := fun vs H Q _ => ∃ (l : List Int) (n : Nat) (m : Int), vs = [.int (Lat.P l), .int n, .int m] ∧ (∀ a ∈ l, 0 ≤ a ∧ a < 2 ^ 24) ∧ 0 < m ∧ m ≤ 27 ∧ n ≤ 100 ∧
  (∃ u : Int, 0 < u ∧ u < m ∧ u * (l.getD 0 0 % m) % m = ((Nat.gcd (l.getD 0 0 % m).natAbs m.natAbs : Nat) : Int)) ∧
  ∀ H' u, More H H' → 0 < u → u < m → u * (l.getD 0 0 % m) % m = ((Nat.gcd (l.getD 0 0 % m).natAbs m.natAbs : Nat) : Int) →
    Q (.int (Lat.P (((List.range n).map fun i => u * (l.getD i 0 % m)).map (· % m)))) H'
/-! ### the dict of pivots -/
def kvsOf (ks : List Nat) (row : Nat → List Int) : List (Key × V) := ks.map fun k : Nat => (Sum.inl (k : Int), V.int (Lat.P ((row k).drop k)))
def vec (l : List Int) : Lat.Vec := fun i => l.getD i 0
def hOf (m : Int) (ks : List Nat) (row : Nat → List Int) : Nat → Lat.Vec := fun j => if j ∈ ks then vec (row j) else Lat.none_ m j
def setR (row : Nat → List Int) (j : Nat) (g : List Int) : Nat → List Int := fun k => if k = j then g else row k
structure Piv (w : Nat) (m : Int) (ks : List Nat) (row : Nat → List Int) : Prop where
  nd : ks.Nodup
  lt : ∀ k ∈ ks, k < w
  len : ∀ k ∈ ks, (row k).length = w
  rest : ∀ k ∈ ks, ∀ a ∈ row k, 0 ≤ a ∧ a < m
theorem kvs_val (ks : List Nat) (row : Nat → List Int) (j : Nat) : valV (kvsOf ks row) (Sum.inl (j : Int)) = if j ∈ ks then some (V.int (Lat.P ((row j).drop j))) else none := by
  induction ks with
  | nil => rfl
  | cons k r ih =>
    unfold valV at ih ⊢
    show Option.map _ (List.find? _ ((Sum.inl (k : Int), V.int (Lat.P ((row k).drop k))) :: kvsOf r row)) = _
    by_cases e : k = j
    · subst e
      rw [List.find?_cons_of_pos (by simp), if_pos (.head _)]
      rfl
    · rw [List.find?_cons_of_neg (by simp; omega), ih]
      by_cases q : j ∈ r
      · rw [if_pos q, if_pos (.tail _ q)]
      · rw [if_neg q, if_neg]
        intro z
        rcases List.mem_cons.mp z with z | z
        · exact e z.symm
        · exact q z
theorem kvs_any (ks : List Nat) (row : Nat → List Int) (j : Nat) : ((kvsOf ks row).any fun kv => decide (kv.1 = Sum.inl (j : Int))) = decide (j ∈ ks) := by
  have := valV_any (Sum.inl (j : Int)) (kvsOf ks row)
  rw [kvs_val] at this
  by_cases q : j ∈ ks
  · rw [if_pos q] at this
    rw [decide_eq_true q]
    simpa using this
  · rw [if_neg q] at this
    rw [decide_eq_false q]
    simpa using this
/-- a pivot is stored -/
theorem kvs_put (ks : List Nat) (row : Nat → List Int) (j : Nat) (g : List Int) :
    putK (kvsOf ks row) (Sum.inl (j : Int)) (V.int (Lat.P (g.drop j))) = kvsOf (if j ∈ ks then ks else ks ++ [j]) (setR row j g) := by
  unfold putK
  rw [kvs_any]
  by_cases q : j ∈ ks
  · rw [decide_eq_true q, if_pos rfl, if_pos q]
    unfold kvsOf
    rw [List.map_map]
    refine List.map_congr_left fun k _ => ?_
    show (if Sum.inl (k : Int) = Sum.inl (j : Int) then (Sum.inl (k : Int), V.int (Lat.P (g.drop j))) else (Sum.inl (k : Int), V.int (Lat.P ((row k).drop k)))) = (Sum.inl (k : Int), V.int (Lat.P ((setR row j g k).drop k)))
    unfold setR
    by_cases e : k = j
    · subst e
      rw [if_pos rfl, if_pos rfl]
    · rw [if_neg e, if_neg (fun z => e (by have := Sum.inl.inj z; omega))]
  · rw [decide_eq_false q, if_neg (by simp), if_neg q]
    unfold kvsOf
    rw [List.map_append]
    congr 1
    · refine List.map_congr_left fun k hk => ?_
      have e : k ≠ j := fun z => q (z ▸ hk)
      unfold setR
      rw [if_neg e]
    · unfold setR
      show [(Sum.inl (j : Int), V.int (Lat.P (g.drop j)))] = [(Sum.inl (j : Int), V.int (Lat.P ((if j = j then g else row j).drop j)))]
      rw [if_pos rfl]
theorem Piv.put {w : Nat} {m : Int} {ks : List Nat} {row : Nat → List Int} (p : Piv w m ks row) {j : Nat} (hj : j < w) {g : List Int} (gl : g.length = w) (gr : ∀ a ∈ g, 0 ≤ a ∧ a < m) :
    Piv w m (if j ∈ ks then ks else ks ++ [j]) (setR row j g) := by
  have sub : ∀ k, k ∈ (if j ∈ ks then ks else ks ++ [j]) → k ∈ ks ∨ k = j := by
    intro k hk
    by_cases q : j ∈ ks
    · rw [if_pos q] at hk
      exact .inl hk
    · rw [if_neg q] at hk
      rcases List.mem_append.mp hk with z | z
      · exact .inl z
      · exact .inr (List.mem_singleton.mp z)
  refine ⟨?_, fun k hk => ?_, fun k hk => ?_, fun k hk => ?_⟩
  · by_cases q : j ∈ ks
    · rw [if_pos q]
      exact p.nd
    · rw [if_neg q]
      refine List.nodup_append.mpr ⟨p.nd, by simp, fun a ha b hb e => ?_⟩
      rw [List.mem_singleton.mp hb] at e
      exact q (e ▸ ha)
  · rcases sub k hk with z | z
    · exact p.lt k z
    · omega
  · unfold setR
    by_cases e : k = j
    · rw [if_pos e]
      exact gl
    · rw [if_neg e]
      exact p.len k ((sub k hk).resolve_right e)
  · unfold setR
    by_cases e : k = j
    · rw [if_pos e]
      exact gr
    · rw [if_neg e]
      exact p.rest k ((sub k hk).resolve_right e)
theorem hOf_put {m : Int} {ks : List Nat} {row : Nat → List Int} {j : Nat} {g : List Int} : hOf m (if j ∈ ks then ks else ks ++ [j]) (setR row j g) = Lat.at_ (hOf m ks row) j (vec g) := by
  funext k
  unfold hOf Lat.at_ setR
  by_cases e : k = j
  · subst e
    rw [if_pos rfl]
    by_cases q : k ∈ ks
    · rw [if_pos q, if_pos q, if_pos rfl]
    · rw [if_neg q, if_pos (List.mem_append_right _ (.head _)), if_pos rfl]
  · rw [if_neg e]
    have : (k ∈ (if j ∈ ks then ks else ks ++ [j])) ↔ k ∈ ks := by
      by_cases q : j ∈ ks
      · rw [if_pos q]
      · rw [if_neg q, List.mem_append]
        exact ⟨fun z => z.resolve_right (fun y => e (List.mem_singleton.mp y)), .inl⟩
    by_cases q : k ∈ ks
    · rw [if_pos (this.mpr q), if_neg e]
      exact (if_pos q).symm
    · rw [if_neg (fun z => q (this.mp z)), if_neg e]
      exact (if_neg q).symm
theorem nd_len : ∀ (w : Nat) (ks : List Nat), ks.Nodup → (∀ k ∈ ks, k < w) → ks.length ≤ w
  | 0, [], _, _ => Nat.le_refl _
  | 0, k :: r, _, h => absurd (h k (.head _)) (by omega)
  | w + 1, ks, nd, h => by
    by_cases q : w ∈ ks
    · have l := List.length_erase_of_mem q
      have r := nd_len w (ks.erase w) (nd.erase w) fun k hk => by
        have z := (List.Nodup.mem_erase_iff nd).mp hk
        have := h k z.2
        have := z.1
        omega
      omega
    · have := nd_len w ks nd fun k hk => by
        have := h k hk
        have : k ≠ w := fun e => q (e ▸ hk)
        omega
      omega
theorem unit_all : ∀ m ∈ Lat.tens, ∀ x ∈ List.range m, 0 < x → ∀ u ∈ List.range m, u * x % m = Nat.gcd x m → ∃ v ∈ List.range m, v * u % m = 1 % m := by decide +kernel
theorem or_m {K : PySem.W.Frag} {σ : L2.St} {H : Hp} {Q : VK} {x e : Int} {i : Nat} (h : (x ≠ 0 ∧ e = x) ∨ (x = 0 ∧ σ[i]? = some (some (V.int e)))) (q : Q (.int e) H) :
    ∃ k, TruV K (.int x) H k ∧ if k = true then Q (.int x) H else tVar i σ H Q := by
  refine ⟨x != 0, rfl, ?_⟩
  obtain ⟨h, rfl⟩ | ⟨rfl, h⟩ := h
  · rw [if_pos (by simpa using h)]
    exact q
  · rw [if_neg (by simp)]
    exact ⟨_, h, q⟩
theorem zip_get (c : Int) : ∀ (l k : List Int) (t : Nat), l.length = k.length → (List.zipWith (fun a b => a + c * b) l k).getD t 0 = l.getD t 0 + c * k.getD t 0
  | [], [], t, _ => by
    show (0 : Int) = 0 + c * 0
    rw [Int.mul_zero]
    rfl
  | a :: l, b :: k, 0, _ => rfl
  | a :: l, b :: k, t + 1, h => zip_get c l k t (by simpa using h)
theorem mem_get {l : List Int} {Z : Int → Prop} (h : ∀ a ∈ l, Z a) {t : Nat} (ht : t < l.length) : Z (l.getD t 0) := by
  have e : l.getD t 0 = l[t] := by simp [List.getD, ht]
  rw [e]
  exact h _ (List.getElem_mem ht)
theorem zip_all {c : Int} {l k : List Int} (e : l.length = k.length) {A B C : Int} (hl : ∀ a ∈ l, 0 ≤ a ∧ a < A) (hk : ∀ b ∈ k, 0 ≤ b ∧ b < B) (c0 : 0 ≤ c) (cC : ∀ a b : Int, 0 ≤ a → a < A → 0 ≤ b → b < B → a + c * b < C) :
    ∀ z ∈ List.zipWith (fun a b => a + c * b) l k, 0 ≤ z ∧ z < C := by
  intro z hz
  rw [List.mem_iff_getElem] at hz
  obtain ⟨i, hi, rfl⟩ := hz
  rw [List.length_zipWith] at hi
  rw [List.getElem_zipWith]
  obtain ⟨a0, a1⟩ := hl l[i] (List.getElem_mem (by omega))
  obtain ⟨b0, b1⟩ := hk k[i] (List.getElem_mem (by omega))
  refine ⟨?_, cC _ _ a0 a1 b0 b1⟩
  have := Int.mul_nonneg c0 b0
  omega
theorem drop_rng {α : Type} (f : Nat → α) (n i : Nat) : ((List.range n).map f).drop i = (List.range (n - i)).map fun t => f (i + t) := by
  refine List.ext_getElem? fun t => ?_
  rw [List.getElem?_drop, List.getElem?_map, List.getElem?_map]
  rcases Nat.lt_or_ge t (n - i) with lt | ge
  · rw [List.getElem?_range (show i + t < n by omega), List.getElem?_range lt]
    rfl
  · rw [List.getElem?_eq_none (by rw [List.length_range]; omega), List.getElem?_eq_none (by rw [List.length_range]; omega)]
    rfl
/-- put_row(pivots, packed, width, m) -/
def spPut : Sp := fun vs H Q _ => ∃ (d : Addr) (l : List Int) (n m : Nat) (ks : List Nat) (row : Nat → List Int), vs = [.ref d, .int (Lat.P l), .int n, .int m] ∧ m ∈ Lat.tens ∧ n ≤ 100 ∧ l.length = n ∧ (∀ a ∈ l, 0 ≤ a ∧ a < m) ∧
  Piv n m ks row ∧ H d = some (.dK (kvsOf ks row)) ∧ Lat.Good n m (hOf m ks row) ∧
  ∀ (gr : Bool) (ks' : List Nat) (row' : Nat → List Int), Piv n m ks' row' → Lat.Good n m (hOf m ks' row') → (∀ u, Lat.Mem n (hOf m ks' row') n u ↔ Lat.Gen n m (Lat.With (Lat.All n (hOf m ks row)) (vec l)) u) → (gr = false → ks' = ks ∧ row' = row) →
    ∀ H', H' d = some (.dK (kvsOf ks' row')) → (∀ b o, H b = some o → b ≠ d → H' b = some o) → Q (.bl gr) H'
/-- rows as they are handed over: each a list or a tuple of w numbers -/
def RowsAt (K : PySem.W.Frag) (H : Hp) (n : Nat) (ys : List V) (rs : List (List Int)) : Prop := ys.length = rs.length ∧
  ∀ (i : Nat) (y : V) (r : List Int), ys[i]? = some y → rs[i]? = some r → ∃ a : Addr, y = V.ref a ∧ Sq K H a (r.map V.int) ∧ r.length = n
def rowsSet (rs : List (List Int)) (u : Lat.Vec) : Prop := ∃ r ∈ rs, u = vec r
/-- pivots_of(rows, width, m) -/
def spPo (K : PySem.W.Frag) : Sp := fun vs H Q _ => ∃ (a : Addr) (ys : List V) (rs : List (List Int)) (n m : Nat), vs = [.ref a, .int n, .int m] ∧ Sq K H a ys ∧ RowsAt K H n ys rs ∧ m ∈ Lat.tens ∧ (rs ≠ [] → n ≤ 100) ∧ ys.length ≤ 1000 ∧
  ∀ H' d ks row, Piv n m ks row → Lat.Good n m (hOf m ks row) → (∀ u, Lat.Mem n (hOf m ks row) n u ↔ Lat.Gen n m (rowsSet rs) u) → H d = none → H' d = some (.dK (kvsOf ks row)) → More H H' → Q (.ref d) H'
theorem vec_mod (r : List Int) (m : Int) (i : Nat) : m ∣ vec (r.map (· % m)) i - vec r i := by
  unfold vec
  by_cases hi : i < r.length
  · have e1 : (r.map (· % m)).getD i 0 = r[i] % m := by simp [List.getD, hi]
    have e2 : r.getD i 0 = r[i] := by simp [List.getD, hi]
    rw [e1, e2, Int.emod_def]
    exact ⟨-(r[i] / m), by rw [Int.mul_neg]; omega⟩
  · have e1 : (r.map (· % m)).getD i 0 = 0 := by simp [List.getD, hi]
    have e2 : r.getD i 0 = 0 := by simp [List.getD, hi]
    rw [e1, e2]
    exact ⟨0, by rw [Int.mul_zero]; rfl⟩
/-- the product of m by each head -/
def sizeOf (m : Int) (row : Nat → List Int) : List Nat → Int
  | [] => 1
  | k :: r => sizeOf m row r * (m / (row k).getD k 0)
/-- size_of(pivots, m) -/
def spSz : Sp := fun vs H Q _ => ∃ (d : Addr) (n m : Nat) (ks : List Nat) (row : Nat → List Int), vs = [.ref d, .int m] ∧ m ∈ Lat.tens ∧ n ≤ 400 ∧ Piv n m ks row ∧ H d = some (.dK (kvsOf ks row)) ∧
  (∀ k ∈ ks, 0 < (row k).getD k 0) ∧ ∀ H', More H H' → Q (.int (sizeOf m row ks)) H'
end B5

/-! PutM: what put_row wants of packed rows. -/
namespace Lat
theorem P_low {l : List Int} (h : ∀ a ∈ l, 0 ≤ a ∧ a < 2 ^ 24) (i : Nat) : P (l.drop i) % 2 ^ 24 = l.getD i 0 := by
  have := P_at (l := l.drop i) 0 fun a ha => h a (List.mem_of_mem_drop ha)
  rw [Nat.mul_zero, show ((2 : Int) ^ 0) = 1 from rfl, Int.ediv_one] at this
  rw [this, List.getD_eq_getElem?_getD, List.getD_eq_getElem?_getD, List.getElem?_drop, Nat.add_zero]
theorem P_up {l : List Int} (h : ∀ a ∈ l, 0 ≤ a ∧ a < 2 ^ 24) (i : Nat) : P (l.drop i) / 2 ^ 24 = P (l.drop (i + 1)) := by
  have := (P_part (l := l.drop i) (fun a ha => h a (List.mem_of_mem_drop ha)) 1).1
  rw [Nat.mul_one, List.drop_drop] at this
  exact this
theorem P_zero : ∀ {l : List Int}, (∀ a ∈ l, 0 ≤ a) → P l = 0 → ∀ a ∈ l, a = 0
  | [], _, _, a, ha => nomatch ha
  | x :: r, h, e, a, ha => by
    have h0 := h x (.head _)
    have h1 := P_nonneg (l := r) fun b hb => h b (.tail _ hb)
    have e : P r * 2 ^ 24 + x = 0 := e
    rcases List.mem_cons.mp ha with rfl | ha
    · omega
    · exact P_zero (fun b hb => h b (.tail _ hb)) (by omega) a ha
theorem P_zip (c : Int) {l k : List Int} (e : l.length = k.length) (i : Nat) : P (l.drop i) + c * P (k.drop i) = P ((List.zipWith (fun a b => a + c * b) l k).drop i) := by
  rw [P_add c (by rw [List.length_drop, List.length_drop, e]), List.drop_zipWith]
section
variable {w : Nat} {m : Int} {h : Nat → Vec} {v : Vec} {j : Nat} {G : Vec → Prop}
theorem Put.skips (p : Put w m h v j G) (z : ∀ i, j ≤ i → i < w → m ∣ v i) : ∀ n, j ≤ n → n ≤ w → Put w m h v n G := by
  intro n
  induction n with
  | zero =>
    intro a _
    have : j = 0 := by omega
    subst this
    exact p
  | succ n ih =>
    intro a b
    rcases Nat.lt_or_ge n j with lt | ge
    · have : j = n + 1 := by omega
      subst this
      exact p
    · exact (ih ge (by omega)).skip fun hw => z n ge hw
end
end Lat

/-! SrtDk: sorted(d), sorted(d, reverse=b) of a dict with ints as keys, any number of them. -/
namespace B5
open PySem PySem.Spec PyProof.Rows L2
section
variable {X : Cx}
def rSortedDk (b : Bool) : List V → Hp → VK → Prop := fun xs H Q => ∃ (a : Addr) (kvs : List (Key × V)) (ks : List Int), xs = [.ref a] ∧ Rd H a (.dK kvs) ∧ kvs.map (·.1) = ks.map Sum.inl ∧ ks.length ≤ 1000 ∧
    ∀ (ys : List Int) (p : Addr), ys.Perm ks → OrdB b ys → H p = none → Q (.ref p) (upd H p (.lst (ys.map V.int)))
theorem keys_ints {acc : Array Value} {vs : List (Key × Value)} {ks : List Int} (hkeys : vs.map (·.1) = ks.map Sum.inl) (hacc : acc.size = vs.length ∧ ∀ (j : Nat) (v : Value), acc[j]? = some v → ∃ k x, vs[j]? = some (k, x) ∧ keyIs k v = true) : IntsAre acc.toList ks := by
  have hl : vs.length = ks.length := by
    have e := congrArg List.length hkeys
    rw [List.length_map, List.length_map] at e
    exact e
  have hal : acc.toList.length = ks.length := by rw [Array.length_toList, hacc.1, hl]
  refine ints_each hal fun j v e => ?_
  obtain ⟨k, x, e1, e2⟩ := hacc.2 j v (by rw [← Array.getElem?_toList]; exact e)
  have e3 : (vs.map (·.1))[j]? = some k := by rw [List.getElem?_map, e1]; rfl
  rw [hkeys, List.getElem?_map] at e3
  cases e4 : ks[j]? with
  | none => rw [e4] at e3; cases e3
  | some y =>
    rw [e4] at e3
    have e5 : Sum.inl y = k := Option.some.inj e3
    subst e5
    rcases keyIs_shape (show keyIs (Sum.inl y) v = true from e2) with ⟨i, t, ek, ev⟩ | ⟨z, t, ek, ev⟩
    · cases ek
      exact ⟨y, t, rfl, ev⟩
    · cases ek
theorem cr_sortedDk (hcalm : X.calm = true) : CallR X (.builtin "sorted") (rSortedDk false) := by
  intro pins s σ H xs us Q I r q
  obtain ⟨a, kvs, ks, ex, hd, hks, h64, q⟩ := q
  subst ex
  obtain ⟨u, eu, rx⟩ := vals1 r
  subst eu
  cases rx
  obtain ⟨z, lo, vs, rel, dd⟩ := dk_rd I.hok hd
  obtain ⟨ep, hat⟩ := dd.dictAt
  have hkeys : vs.map (·.1) = ks.map Sum.inl := rel.keys.symm.trans hks
  have hl : vs.length = ks.length := by
    have e := congrArg List.length hkeys
    rw [List.length_map, List.length_map] at e
    exact e
  have h16 : vs.length ≤ sizeLine := by rw [hl, sizeLine_eq]; omega
  refine Calls.call_function_entry PyProof.Rows.kind_sorted PyProof.Rows.plain_sorted PyProof.Rows.entry_sorted (PyProof.Rows.args_sorted1 _) ?_
  unfold Builtin.«sorted»
  refine wpAny_bind (m := checkCount "sorted" 1 1 _) (wpAny_pure ?_)
  refine wpAny_bind (PySem.W.kdu_collect (A := X.A.in1) (PySem.W.kdl_dict (knd := mixKind X.prog X.w) (kvs := vs) (ep := ep) lo) (I.ok.hd hcalm) hat h16 fun h' tk acc hk hacc => ?_)
  have hS : IntsAre acc.toList ks := keys_ints hkeys hacc
  have hal : acc.toList.length = ks.length := by rw [Array.length_toList, hacc.1, hl]
  have I1 : Inv X pins σ H { s with heap := h', toks := tk } := I.kept hk
  refine wpAny_bind (wpAny_newList ?_ (by rw [hal, sizeLine_eq]; omega))
  have hoL : (h'.push (seqObj "list" acc.toList.toArray 0)).get? h'.objs.size = some (seqObj "list" acc.toList.toArray 0) := Heap.get?_push_size _ rfl
  show wpAny _ _ _ _ _ { s with heap := h'.push (seqObj "list" acc.toList.toArray 0), toks := tk }
  refine wpAny_bind (wpAny_holding (wpAny_call_entry PyProof.Rows.slot_list_sort ⟨_, hoL, rfl⟩ PyProof.Rows.entry_list_sort
    (SrtO.list_sort_ord (s := { s with heap := h'.push (seqObj "list" acc.toList.toArray 0), toks := tk }) SrtO.swo_int hoL (by rw [hal, sizeLine_eq]; omega) (fun h2 => SrtO.ints_sortable hS h2) fun out g1 g2 => ⟨_, rfl, ?_⟩) (PyProof.Rows.args_list_sort _)))
  obtain ⟨k1, k2, k3⟩ := SrtO.ints_out hS g1 g2
  obtain ⟨e', he'⟩ := PyProof.Rows.sortedHeap_at (vs := acc.toList) (out := out.toArray) hoL
  have hlen : ((out.map SrtO.iv).map V.int).length ≤ sizeLine := by
    rw [List.length_map, k2.length_eq, sizeLine_eq]
    omega
  refine wpAny_pure ⟨_, rfl, .ref h'.objs.size, upd H h'.objs.size (.lst ((out.map SrtO.iv).map V.int)), I1.laid (t' := tk) (fun b u e => ?_) (Nat.le_refl _)
    (show ObjOk X.prog X.w _ _ _ (.lst ((out.map SrtO.iv).map V.int)) from ⟨hlen, out, e', vals_of_ints k1, he'⟩), rfl, q _ _ k2 k3 (I1.hok.fresh (Nat.le_refl _))⟩
  have hb : b < h'.objs.size := Heap.lt_size e
  rw [PyProof.Rows.sortedHeap_old (Nat.ne_of_lt hb) (by rw [size_push']; exact Nat.lt_succ_of_lt hb)]
  exact Heap.get?_push_of_some _ e
theorem cr_sortedDkRev {b : Bool} (hcalm : X.calm = true) : CallRK X (.builtin "sorted") [Str.ofString "reverse"] (fun xs zs H Q => zs = [.bl b] ∧ rSortedDk b xs H Q) := by
  intro pins s σ H xs zs us ws Q I r rz q
  obtain ⟨rfl, a, kvs, ks, ex, hd, hks, h64, q⟩ := q
  subst ex
  obtain ⟨u, eu, rx⟩ := vals1 r
  subst eu
  cases rx
  obtain ⟨w1, rfl, e1⟩ := vals1 rz
  obtain rfl : w1 = Value.bool b := e1
  obtain ⟨z, lo, vs, rel, dd⟩ := dk_rd I.hok hd
  obtain ⟨ep, hat⟩ := dd.dictAt
  have hkeys : vs.map (·.1) = ks.map Sum.inl := rel.keys.symm.trans hks
  have hl : vs.length = ks.length := by
    have e := congrArg List.length hkeys
    rw [List.length_map, List.length_map] at e
    exact e
  have h16 : vs.length ≤ sizeLine := by rw [hl, sizeLine_eq]; omega
  refine call_function_entry_kw PyProof.Rows.kind_sorted PyProof.Rows.plain_sorted PyProof.Rows.entry_sorted (PyProof.Rows.args_sorted_rev _ _) ?_
  unfold Builtin.«sorted»
  refine wpAny_bind (m := checkCount "sorted" 1 1 _) (wpAny_pure ?_)
  refine wpAny_bind (PySem.W.kdu_collect (A := X.A.in1) (PySem.W.kdl_dict (knd := mixKind X.prog X.w) (kvs := vs) (ep := ep) lo) (I.ok.hd hcalm) hat h16 fun h' tk acc hk hacc => ?_)
  have hS : IntsAre acc.toList ks := keys_ints hkeys hacc
  have hal : acc.toList.length = ks.length := by rw [Array.length_toList, hacc.1, hl]
  have I1 : Inv X pins σ H { s with heap := h', toks := tk } := I.kept hk
  refine wpAny_bind (wpAny_newList ?_ (by rw [hal, sizeLine_eq]; omega))
  have hoL : (h'.push (seqObj "list" acc.toList.toArray 0)).get? h'.objs.size = some (seqObj "list" acc.toList.toArray 0) := Heap.get?_push_size _ rfl
  show wpAny _ _ _ _ _ { s with heap := h'.push (seqObj "list" acc.toList.toArray 0), toks := tk }
  refine wpAny_bind (wpAny_holding (wpAny_call_entry_kw PyProof.Rows.slot_list_sort ⟨_, hoL, rfl⟩ PyProof.Rows.entry_list_sort
    (SrtR.list_sort_ordR (s := { s with heap := h'.push (seqObj "list" acc.toList.toArray 0), toks := tk }) SrtO.swo_int hoL (by rw [hal, sizeLine_eq]; omega) (fun h2 => SrtO.ints_sortable hS h2) fun out g1 g2 => ⟨_, rfl, ?_⟩) (PyProof.Rows.args_list_sort_rev _ _)))
  obtain ⟨ns', k1, k2, k3⟩ := SrtR.ints_outR hS g1 g2
  obtain ⟨e', he'⟩ := PyProof.Rows.sortedHeap_at (vs := acc.toList) (out := if b = true then out.toArray.reverse else out.toArray) hoL
  have hlen : (ns'.map V.int).length ≤ sizeLine := by
    rw [List.length_map, k2.length_eq, sizeLine_eq]
    omega
  have e0 : ((if b = true then out.toArray.reverse else out.toArray).toList).toArray = (if b = true then out.toArray.reverse else out.toArray) := by rw [Array.toArray_toList]
  refine wpAny_pure ⟨_, rfl, .ref h'.objs.size, upd H h'.objs.size (.lst (ns'.map V.int)), I1.laid (t' := tk) (fun b u e => ?_) (Nat.le_refl _)
    (show ObjOk X.prog X.w _ _ _ (.lst (ns'.map V.int)) from ⟨hlen, _, e', vals_of_ints k1, by rw [e0]; exact he'⟩), rfl, q _ _ k2 k3 (I1.hok.fresh (Nat.le_refl _))⟩
  have hb : b < h'.objs.size := Heap.lt_size e
  rw [PyProof.Rows.sortedHeap_old (Nat.ne_of_lt hb) (by rw [size_push']; exact Nat.lt_succ_of_lt hb)]
  exact Heap.get?_push_of_some _ e
end
end B5

/-! LeftM: what left_over leaves. -/
namespace B5
open PySem L2 Gd
/-- rows of pivots in triangle order -/
structure Tr (n : Nat) (m : Nat) (ks : List Nat) (row : Nat → List Int) : Prop where
  pv : Piv n m ks row
  low : ∀ k ∈ ks, ∀ i, i < k → (row k).getD i 0 = 0
  pos : ∀ k ∈ ks, 0 < (row k).getD k 0
def RowsOf (ks : List Nat) (row : Nat → List Int) (u : Lat.Vec) : Prop := ∃ k ∈ ks, u = vec (row k)
/-- r is what is left of l at the places of ks -/
structure LeftOv (n m : Nat) (ks : List Nat) (row : Nat → List Int) (l r : List Int) : Prop where
  len : r.length = n
  gen : Lat.Gen n m (RowsOf ks row) (fun i => vec l i - vec r i)
  less : ∀ k ∈ ks, r.getD k 0 % (m : Int) < (row k).getD k 0
  same : ∀ j, (∀ k ∈ ks, j < k) → r.getD j 0 = l.getD j 0
/-- left_over(pivots, packed, m) -/
def spLo : Sp := fun vs H Q _ => ∃ (d : Addr) (l : List Int) (n m : Nat) (ks : List Nat) (row : Nat → List Int), vs = [.ref d, .int (Lat.P l), .int m] ∧ m ∈ Lat.tens ∧ n ≤ 100 ∧ l.length = n ∧ (∀ a ∈ l, 0 ≤ a ∧ a < m) ∧ Tr n m ks row ∧ H d = some (.dK (kvsOf ks row)) ∧
  ∀ (H' : Hp) (r : List Int), More H H' → (∀ a ∈ r, 0 ≤ a ∧ a < 2 ^ 24) → LeftOv n m ks row l r → Q (.int (Lat.P r)) H'
theorem P_full {n m k : Nat} {row : List Int} (hk : k ≤ n) (l : row.length = n) (z : ∀ i, i < k → row.getD i 0 = 0) : Lat.P (row.drop k) * 2 ^ (24 * k) = Lat.P row := by
  have e := Lat.P_app (row.take k) (row.drop k)
  rw [List.take_append_drop, List.length_take, l, Nat.min_eq_left hk] at e
  have z0 : Lat.P (row.take k) = 0 := by
    have : row.take k = List.replicate k 0 := by
      refine List.ext_getElem? fun i => ?_
      rcases Nat.lt_or_ge i k with lt | ge
      · rw [List.getElem?_take_of_lt lt, List.getElem?_replicate, if_pos lt]
        have := z i lt
        rw [List.getD_eq_getElem?_getD, List.getElem?_eq_getElem (by omega)] at this
        rw [List.getElem?_eq_getElem (by omega)]
        exact congrArg some this
      · rw [List.getElem?_eq_none (by rw [List.length_take, l]; omega), List.getElem?_eq_none (by rw [List.length_replicate]; omega)]
    rw [this]
    have := Lat.P_short k []
    rw [List.nil_append] at this
    rw [this]
    rfl
  omega
/-- one step: c of row k is added, so that at k the rest by the head is left -/
theorem left_step {n m : Nat} {ks : List Nat} {row : Nat → List Int} (T : Tr n m ks row) (m0 : 0 < m) {done : List Nat} {l r : List Int} (L : LeftOv n m done row l r) {k : Nat} (hk : k ∈ ks) (sub : ∀ j ∈ done, j < k) (t : Int) (ht : t = r.getD k 0 % (m : Int) / (row k).getD k 0) :
    LeftOv n m (done ++ [k]) row l (List.zipWith (fun a b => a + ((m : Int) - t) * b) r (row k)) := by
  have le : r.length = (row k).length := by rw [L.len, T.pv.len k hk]
  have get : ∀ j, (List.zipWith (fun a b => a + ((m : Int) - t) * b) r (row k)).getD j 0 = r.getD j 0 + ((m : Int) - t) * (row k).getD j 0 := fun j => zip_get _ _ _ _ le
  have hp := T.pos k hk
  refine ⟨by rw [List.length_zipWith, L.len, T.pv.len k hk, Nat.min_self], ?_, fun j hj => ?_, fun j hj => ?_⟩
  · have g1 : Lat.Gen n m (RowsOf (done ++ [k]) row) (fun i => vec l i - vec r i) := L.gen.mono fun u ⟨j, hj, e⟩ => ⟨j, List.mem_append_left _ hj, e⟩
    have g2 : Lat.Gen n m (RowsOf (done ++ [k]) row) (vec (row k)) := .row ⟨k, List.mem_append_right _ (.head _), rfl⟩
    refine .lin 1 (-((m : Int) - t)) (fun i _ => ⟨0, ?_⟩) g1 g2
    show (vec l i - (List.zipWith _ r (row k)).getD i 0) - (1 * (vec l i - vec r i) + -((m : Int) - t) * vec (row k) i) = (m : Int) * 0
    rw [get i, Int.neg_mul]
    show (vec l i - (r.getD i 0 + ((m : Int) - t) * (row k).getD i 0)) - (1 * (vec l i - r.getD i 0) + -(((m : Int) - t) * (row k).getD i 0)) = _
    omega
  · rw [get j]
    rcases List.mem_append.mp hj with hj | hj
    · rw [T.low k hk j (sub j hj), Int.mul_zero, Int.add_zero]
      exact L.less j hj
    · obtain rfl := List.mem_singleton.mp hj
      have e : (r.getD j 0 + ((m : Int) - t) * (row j).getD j 0) % (m : Int) = r.getD j 0 % (m : Int) % (row j).getD j 0 := by
        have hh : (row j).getD j 0 ≤ (m : Int) := by
          have := (mem_get (T.pv.rest j hk) (t := j) (by rw [T.pv.len j hk]; exact T.pv.lt j hk)).2
          omega
        have d1 := Int.emod_def (r.getD j 0 % (m : Int)) ((row j).getD j 0)
        rw [← ht] at d1
        have d2 := Int.emod_def (r.getD j 0) (m : Int)
        have rl := Int.emod_lt_of_pos (r.getD j 0 % (m : Int)) hp
        have rn := Int.emod_nonneg (r.getD j 0 % (m : Int)) (show (row j).getD j 0 ≠ 0 by omega)
        have : r.getD j 0 + ((m : Int) - t) * (row j).getD j 0 = r.getD j 0 % (m : Int) % (row j).getD j 0 + (m : Int) * (r.getD j 0 / (m : Int) + (row j).getD j 0) := by
          rw [Int.sub_mul, Int.mul_add, d1, Int.mul_comm t]
          omega
        rw [this, Int.add_mul_emod_self_left, Int.emod_eq_of_lt rn (by omega)]
      rw [e]
      exact Int.emod_lt_of_pos _ hp
  · rw [get j, T.low k hk j (hj k (List.mem_append_right _ (.head _))), Int.mul_zero, Int.add_zero]
    exact L.same j fun i hi => hj i (List.mem_append_left _ hi)
theorem left_skip {n m : Nat} {ks : List Nat} {row : Nat → List Int} (T : Tr n m ks row) (m0 : 0 < m) {done : List Nat} {l r : List Int} (L : LeftOv n m done row l r) {k : Nat} (hk : k ∈ ks) (ht : r.getD k 0 % (m : Int) / (row k).getD k 0 = 0) : LeftOv n m (done ++ [k]) row l r := by
  have hp := T.pos k hk
  refine ⟨L.len, L.gen.mono fun u ⟨j, hj, e⟩ => ⟨j, List.mem_append_left _ hj, e⟩, fun j hj => ?_, fun j hj => L.same j fun i hi => hj i (List.mem_append_left _ hi)⟩
  rcases List.mem_append.mp hj with hj | hj
  · exact L.less j hj
  · obtain rfl := List.mem_singleton.mp hj
    have h0 := Int.emod_nonneg (r.getD j 0) (show (m : Int) ≠ 0 by omega)
    have d1 := Int.emod_def (r.getD j 0 % (m : Int)) ((row j).getD j 0)
    rw [ht, Int.mul_zero, Int.sub_zero] at d1
    rw [← d1]
    exact Int.emod_lt_of_pos _ hp
theorem left_none {n m : Nat} {row : Nat → List Int} {l : List Int} (h : l.length = n) : LeftOv n m [] row l l := by
  refine ⟨h, .top fun i _ => ⟨0, by rw [Int.mul_zero]; exact Int.sub_self _⟩, (fun k hk => nomatch hk), fun j _ => rfl⟩
theorem LeftOv.perm {n m : Nat} {ks ks' : List Nat} {row : Nat → List Int} {l r : List Int} (L : LeftOv n m ks row l r) (h : ∀ k, k ∈ ks' ↔ k ∈ ks) : LeftOv n m ks' row l r :=
  ⟨L.len, L.gen.mono fun u ⟨k, hk, e⟩ => ⟨k, (h k).mpr hk, e⟩, fun k hk => L.less k ((h k).mp hk), fun j hj => L.same j fun k hk => hj k ((h k).mpr hk)⟩
end B5

/-! FormM: the one form of a lot, from behind. -/
namespace B5
open PySem L2 Gd
theorem hOf_in {m : Int} {ks : List Nat} {row : Nat → List Int} {j : Nat} (h : j ∈ ks) : hOf m ks row j = vec (row j) := if_pos h
theorem hOf_out {m : Int} {ks : List Nat} {row : Nat → List Int} {j : Nat} (h : ¬ j ∈ ks) : hOf m ks row j = Lat.none_ m j := if_neg h
/-- a good one is in triangle order -/
theorem Tr.of {n m : Nat} {ks : List Nat} {row : Nat → List Int} (p : Piv n m ks row) (g : Lat.Good n m (hOf m ks row)) : Tr n m ks row where
  pv := p
  low := fun k hk i hi => by
    have := g.low k (p.lt k hk) i hi
    rw [hOf_in hk] at this
    exact this
  pos := fun k hk => by
    have := g.pos k (p.lt k hk)
    rw [hOf_in hk] at this
    exact this
structure FormI (n m : Nat) (ks : List Nat) (row row' : Nat → List Int) : Prop where
  tr : Tr n m ks row'
  head : ∀ k ∈ ks, (row' k).getD k 0 = (row k).getD k 0
  diff : ∀ k ∈ ks, Lat.Gen n m (fun u => ∃ j ∈ ks, k < j ∧ u = vec (row' j)) (fun i => vec (row k) i - vec (row' k) i)
  red : ∀ k ∈ ks, ∀ j ∈ ks, k < j → (row' k).getD j 0 < (row' j).getD j 0
theorem map_get (r : List Int) (m : Int) (j : Nat) : (r.map (· % m)).getD j 0 = r.getD j 0 % m := by
  rw [List.getD_eq_getElem?_getD, List.getD_eq_getElem?_getD, List.getElem?_map]
  cases r[j]? with
  | none => exact (Int.zero_emod m).symm
  | some x => rfl
theorem formI_none {n m : Nat} {row row' : Nat → List Int} : FormI n m [] row row' :=
  ⟨⟨⟨List.nodup_nil, fun k z => (List.not_mem_nil z).elim, fun k z => (List.not_mem_nil z).elim, fun k z => (List.not_mem_nil z).elim⟩, fun k z => (List.not_mem_nil z).elim, fun k z => (List.not_mem_nil z).elim⟩, fun k z => (List.not_mem_nil z).elim, fun k z => (List.not_mem_nil z).elim, fun k z => (List.not_mem_nil z).elim⟩
theorem formI_step {n m : Nat} {all ks : List Nat} {row row' : Nat → List Int} (m0 : 0 < m) (T : Tr n m all row) (F : FormI n m ks row row') {k : Nat} (hk : k ∈ all) (sub : ∀ j ∈ ks, k < j) {r : List Int} (L : LeftOv n m ks row' (row k) r) :
    FormI n m (ks ++ [k]) row (setR row' k (r.map (· % (m : Int)))) := by
  have kn : k ∉ ks := fun z => Nat.lt_irrefl k (sub k z)
  have old : ∀ j ∈ ks, setR row' k (r.map (· % (m : Int))) j = row' j := fun j hj => if_neg (fun (e : j = k) => kn (e ▸ hj))
  have new : setR row' k (r.map (· % (m : Int))) k = r.map (· % (m : Int)) := if_pos rfl
  have lt := T.pv.lt k hk
  have gl : (r.map (· % (m : Int))).length = n := by rw [List.length_map]; exact L.len
  have gr : ∀ a ∈ r.map (· % (m : Int)), 0 ≤ a ∧ a < (m : Int) := fun a ha => by
    obtain ⟨b, _, rfl⟩ := List.mem_map.mp ha
    exact ⟨Int.emod_nonneg _ (by omega), Int.emod_lt_of_pos _ (by omega)⟩
  have pv := F.tr.pv.put lt gl gr
  rw [if_neg kn] at pv
  have hkk : r.getD k 0 = (row k).getD k 0 := L.same k sub
  have hd : (r.map (· % (m : Int))).getD k 0 = (row k).getD k 0 := by
    rw [map_get, hkk]
    have := mem_get (T.pv.rest k hk) (t := k) (by rw [T.pv.len k hk]; exact lt)
    exact Int.emod_eq_of_lt this.1 this.2
  have cases' : ∀ {j : Nat} {Z : Prop}, j ∈ ks ++ [k] → (j ∈ ks → Z) → (j = k → Z) → Z := fun hj a b => (List.mem_append.mp hj).elim a fun e => b (List.mem_singleton.mp e)
  refine ⟨⟨pv, fun j hj i hi => cases' hj (fun h => ?_) (fun e => ?_), fun j hj => cases' hj (fun h => ?_) (fun e => ?_)⟩, fun j hj => cases' hj (fun h => ?_) (fun e => ?_), fun j hj => cases' hj (fun h => ?_) (fun e => ?_), fun j hj i hi lt' => cases' hj (fun h => ?_) (fun e => ?_)⟩
  · rw [old j h]
    exact F.tr.low j h i hi
  · subst e
    rw [new, map_get, L.same i fun x hx => by have := sub x hx; omega, T.low j hk i hi]
    exact Int.zero_emod _
  · rw [old j h]
    exact F.tr.pos j h
  · subst e
    rw [new, hd]
    exact T.pos j hk
  · rw [old j h]
    exact F.head j h
  · subst e
    rw [new, hd]
  · have := F.diff j h
    rw [old j h]
    exact this.mono fun u ⟨x, hx, lt', e⟩ => ⟨x, List.mem_append_left _ hx, lt', by rw [old x hx]; exact e⟩
  · subst e
    rw [new]
    have g1 : Lat.Gen n m (fun u => ∃ x ∈ ks ++ [j], j < x ∧ u = vec (setR row' j (r.map (· % (m : Int))) x)) (fun i => vec (row j) i - vec r i) :=
      L.gen.mono fun u ⟨x, hx, e⟩ => ⟨x, List.mem_append_left _ hx, sub x hx, by rw [old x hx]; exact e⟩
    refine .cong (fun i _ => ?_) g1
    have := Int.dvd_neg.mpr (vec_mod r m i)
    rw [show vec (row j) i - vec (r.map (· % (m : Int))) i - (vec (row j) i - vec r i) = -(vec (r.map (· % (m : Int))) i - vec r i) by omega]
    exact this
  · have hi' : i ∈ ks := by
      rcases List.mem_append.mp hi with z | z
      · exact z
      · have := List.mem_singleton.mp z
        have := sub j h
        omega
    rw [old j h, old i hi']
    exact F.red j h i hi' lt'
  · subst e
    have hi' : i ∈ ks := by
      rcases List.mem_append.mp hi with z | z
      · exact z
      · have := List.mem_singleton.mp z
        omega
    rw [new, old i hi', map_get]
    exact L.less i hi'
/-- low in all places behind -/
def Redd (n : Nat) (h : Nat → Lat.Vec) : Prop := ∀ j, j < n → ∀ i, j < i → i < n → 0 ≤ h j i ∧ h j i < h i i
theorem formI_done {n m : Nat} {ks zs : List Nat} {row row' : Nat → List Int} (m0 : 0 < m) (p : Piv n m ks row) (g : Lat.Good n m (hOf m ks row)) (F : FormI n m zs row row') (mem : ∀ k, k ∈ zs ↔ k ∈ ks) :
    Lat.Good n m (hOf m zs row') ∧ (∀ u, Lat.Mem n (hOf m zs row') n u ↔ Lat.Mem n (hOf m ks row) n u) ∧ Redd n (hOf m zs row') := by
  have out : ∀ j, ¬ j ∈ zs → hOf m zs row' j = hOf m ks row j := fun j hj => by rw [hOf_out hj, hOf_out (fun z => hj ((mem j).mpr z))]
  have R := g.reduce (h' := hOf m zs row') (fun j hj i hi => ?_) (fun j hj => ?_) (fun j hj => ?_)
  · refine ⟨R.1, R.2, fun j hj i ji hi => ?_⟩
    by_cases hj' : j ∈ zs
    · rw [hOf_in hj']
      have r0 := mem_get (F.tr.pv.rest j hj') (t := i) (by rw [F.tr.pv.len j hj']; exact hi)
      refine ⟨r0.1, ?_⟩
      by_cases hi' : i ∈ zs
      · rw [hOf_in hi']
        exact F.red j hj' i hi' ji
      · rw [hOf_out hi']
        show (row' j).getD i 0 < if i = i then (m : Int) else 0
        rw [if_pos rfl]
        exact r0.2
    · rw [hOf_out hj']
      show 0 ≤ (if i = j then (m : Int) else 0) ∧ (if i = j then (m : Int) else 0) < _
      rw [if_neg (by omega)]
      exact ⟨Int.le_refl _, R.1.pos i hi⟩
  · by_cases hj' : j ∈ zs
    · rw [hOf_in hj']
      exact F.tr.low j hj' i hi
    · rw [out j hj']
      exact g.low j hj i hi
  · by_cases hj' : j ∈ zs
    · rw [hOf_in hj', hOf_in ((mem j).mp hj')]
      exact F.head j hj'
    · rw [out j hj']
  · by_cases hj' : j ∈ zs
    · rw [hOf_in ((mem j).mp hj')]
      have g1 : Lat.Gen n m (Lat.Behind n (hOf m zs row') j) (fun i => vec (row j) i - vec (row' j) i) := (F.diff j hj').mono fun u ⟨x, hx, lt', e⟩ => ⟨x, lt', F.tr.pv.lt x hx, by rw [hOf_in hx]; exact e⟩
      refine .ext (fun i _ => ?_) (g1.mul (-1))
      show -1 * (vec (row j) i - vec (row' j) i) = hOf m zs row' j i - vec (row j) i
      rw [hOf_in hj']
      omega
    · rw [out j hj']
      exact .top fun i _ => ⟨0, by rw [Int.mul_zero]; exact Int.sub_self _⟩
theorem cut_from {xs : List V} {k : Nat} (h : k ≤ xs.length) : cutV xs (some (k : Int)) none = xs.drop k := by
  unfold cutV
  rw [HT.sIx_none, HT.sIx_nat, Nat.min_eq_left h]
  refine List.take_of_length_le ?_
  rw [List.length_drop]
  exact Nat.le_refl _
/-- in_form(pivots, width, m) -/
def spFo : Sp := fun vs H Q _ => ∃ (d : Addr) (n m : Nat) (ks : List Nat) (row : Nat → List Int), vs = [.ref d, .int n, .int m] ∧ m ∈ Lat.tens ∧ n ≤ 400 ∧ (ks ≠ [] → n ≤ 100) ∧ Piv n m ks row ∧ H d = some (.dK (kvsOf ks row)) ∧ Lat.Good n m (hOf m ks row) ∧
  ∀ (H' : Hp) (d' : Addr) (zs : List Nat) (row' : Nat → List Int), (∀ k, k ∈ zs ↔ k ∈ ks) → Piv n m zs row' → Lat.Good n m (hOf m zs row') → (∀ u, Lat.Mem n (hOf m zs row') n u ↔ Lat.Mem n (hOf m ks row) n u) → Redd n (hOf m zs row') → H d' = none → H' d' = some (.dK (kvsOf zs row')) → More H H' → Q (.ref d') H'
end B5

/-! RowsM: the rows of a lot. -/
namespace B5
open PySem L2 Gd
/-- the keys of a lot in their order -/
theorem asc_of {ks : List Nat} {ys : List Int} (nd : ks.Nodup) (perm : ys.Perm (ks.map fun k : Nat => (k : Int))) (ord : ys.Pairwise (· ≤ ·)) : ∃ zs : List Nat, ys = zs.map (fun k : Nat => (k : Int)) ∧ zs.Perm ks ∧ zs.Pairwise (· < ·) := by
  have h : ∃ zs : List Nat, ys = zs.map (fun k : Nat => (k : Int)) ∧ zs.Perm ks := by
    refine ⟨ys.map Int.toNat, ?_, ?_⟩
    · rw [List.map_map]
      have : ∀ y ∈ ys, ((fun k : Nat => (k : Int)) ∘ Int.toNat) y = y := fun y hy => by
        obtain ⟨k, _, rfl⟩ := List.mem_map.mp (perm.mem_iff.mp hy)
        show ((Int.toNat (k : Int) : Nat) : Int) = (k : Int)
        rw [Int.toNat_natCast]
      rw [List.map_congr_left this, List.map_id']
    · have := perm.map Int.toNat
      rw [List.map_map] at this
      have e : (Int.toNat ∘ fun k : Nat => (k : Int)) = id := funext fun k => Int.toNat_natCast k
      rw [e, List.map_id] at this
      exact this
  obtain ⟨zs, rfl, perm'⟩ := h
  refine ⟨zs, rfl, perm', ?_⟩
  have nd := perm'.nodup_iff.mpr nd
  have o2 := List.pairwise_map.mp ord
  exact (o2.and nd).imp fun {a b} h => by
    have := h.1
    have := h.2
    omega
theorem paired_memL {α β : Type} {R S : α → β → Prop} : ∀ {xs : List α} {l : List β}, (∀ x y, x ∈ xs → R x y → S x y) → Paired R xs l → Paired S xs l
  | _, _, _, .nil => .nil
  | _, _, h, .cons r t => .cons (h _ _ (.head _) r) (paired_memL (fun x y hx => h x y (.tail _ hx)) t)
/-- a row from a place on -/
theorem row_from {n m k pl : Nat} {row : List Int} (l : row.length = n) (hk : k ≤ n) (hp : pl ≤ k) (z : ∀ i, i < k → row.getD i 0 = 0) : List.replicate (k - pl) (0 : Int) ++ row.drop k = row.drop pl := by
  refine List.ext_getElem? fun i => ?_
  rcases Nat.lt_or_ge i (k - pl) with lt | ge
  · rw [List.getElem?_append_left (by rw [List.length_replicate]; exact lt), List.getElem?_replicate, if_pos lt, List.getElem?_drop, List.getElem?_eq_getElem (by omega)]
    have := z (pl + i) (by omega)
    rw [List.getD_eq_getElem?_getD, List.getElem?_eq_getElem (by omega)] at this
    exact congrArg some this.symm
  · rw [List.getElem?_append_right (by rw [List.length_replicate]; exact ge), List.length_replicate, List.getElem?_drop, List.getElem?_drop, show k + (i - (k - pl)) = pl + i by omega]
/-- rows_behind(pivots, places, width, m) -/
def spRb : Sp := fun vs H Q _ => ∃ (d : Addr) (pl n m : Nat) (ks : List Nat) (row : Nat → List Int), vs = [.ref d, .int pl, .int n, .int m] ∧ m ∈ Lat.tens ∧ n ≤ 400 ∧ Tr n m ks row ∧ H d = some (.dK (kvsOf ks row)) ∧
  ∀ (H' : Hp) (t : Addr) (ts : List Addr) (zs : List Nat), zs.Perm ks → zs.Pairwise (· < ·) → More H H' → H t = none → H' t = some (.tup (ts.map V.ref)) → Paired (fun (b : Addr) (r : List Int) => H' b = some (.tup (r.map V.int))) ts ((zs.filter fun k => decide (pl ≤ k)).map fun k => (row k).drop pl) → Q (.ref t) H'
end B5

/-! SizM: how many rows a lot has; the lot of the p-folds. -/
namespace Lat
/-- the product of m by the heads -/
def siz (m : Int) (h : Nat → Vec) : Nat → Int
  | 0 => 1
  | n + 1 => siz m h n * (m / h n n)
section
variable {w : Nat} {m : Int} {h h' : Nat → Vec}
/-- a head divides what comes first in a row of the lot -/
theorem Good.first (g : Good w m h) {v : Vec} (hv : Mem w h w v) {j : Nat} (hj : j < w) (z : ∀ i, i < j → v i = 0) : h j j ∣ v j :=
  g.toTri.div (Nat.le_refl _) hv j (by omega) hj fun i _ hi => z i hi
theorem Good.own (g : Good w m h) {j : Nat} (hj : j < w) : Mem w h w (h j) := g.toTri.mem hj (Nat.le_refl _) (by omega)
/-- heads of lots within one another -/
theorem Good.heads_dvd (g : Good w m h) (g' : Good w m h') (sub : ∀ u, Mem w h' w u → Mem w h w u) {j : Nat} (hj : j < w) : h j j ∣ h' j j :=
  g.first (sub _ (g'.own hj)) hj fun i hi => g'.low j hj i hi
theorem Good.heads_one (g : Good w m h) (g' : Good w m h') (same : ∀ u, Mem w h' w u ↔ Mem w h w u) {j : Nat} (hj : j < w) : h j j = h' j j :=
  Int.dvd_antisymm (Int.le_of_lt (g.pos j hj)) (Int.le_of_lt (g'.pos j hj)) (g.heads_dvd g' (fun u => (same u).mp) hj) (g'.heads_dvd g (fun u => (same u).mpr) hj)
theorem siz_one (e : ∀ j, j < w → h j j = h' j j) : ∀ n, n ≤ w → siz m h n = siz m h' n
  | 0, _ => rfl
  | n + 1, hn => by
    show siz m h n * _ = siz m h' n * _
    rw [siz_one e n (by omega), e n hn]
theorem Good.siz_one (g : Good w m h) (g' : Good w m h') (same : ∀ u, Mem w h' w u ↔ Mem w h w u) : siz m h w = siz m h' w :=
  Lat.siz_one (fun j hj => g.heads_one g' same hj) w (Nat.le_refl _)
end
/-- p-folds of rows -/
def Fold (p : Int) (R : Vec → Prop) (u : Vec) : Prop := ∃ r, R r ∧ u = fun i => p * r i
section
variable {w : Nat} {p m : Int} {R : Vec → Prop}
theorem fold_up {v : Vec} (g : Gen w m R v) : Gen w (p * m) (Fold p R) (fun i => p * v i) := by
  induction g with
  | row r => exact .row ⟨_, r, rfl⟩
  | add _ _ a b => exact .ext (fun i _ => (Int.mul_add _ _ _).symm) (.add a b)
  | mul c _ a => exact .ext (fun i _ => by show c * (p * _) = p * (c * _); rw [Int.mul_left_comm]) (.mul c a)
  | top z => exact .top (fun i hi => Int.mul_dvd_mul (Int.dvd_refl p) (z i hi))
  | ext e _ a => exact .ext (fun i hi => by show p * _ = p * _; rw [e i hi]) a
theorem fold_down {u : Vec} (g : Gen w (p * m) (Fold p R) u) : ∃ v, Gen w m R v ∧ ∀ i, i < w → p * m ∣ u i - p * v i := by
  induction g with
  | row r =>
    obtain ⟨r, hr, rfl⟩ := r
    exact ⟨r, .row hr, fun i _ => ⟨0, by rw [Int.mul_zero]; exact Int.sub_self _⟩⟩
  | add _ _ a b =>
    obtain ⟨v, gv, ev⟩ := a
    obtain ⟨v', gv', ev'⟩ := b
    refine ⟨_, .add gv gv', fun i hi => ?_⟩
    have := Int.dvd_add (ev i hi) (ev' i hi)
    rw [Int.mul_add]
    rename_i u1 u2 _ _
    rw [show u1 i + u2 i - (p * v i + p * v' i) = (u1 i - p * v i) + (u2 i - p * v' i) by omega]
    exact this
  | mul c _ a =>
    obtain ⟨v, gv, ev⟩ := a
    refine ⟨_, .mul c gv, fun i hi => ?_⟩
    have := Int.dvd_mul_of_dvd_right (b := c) (ev i hi)
    rw [Int.mul_sub, Int.mul_left_comm c] at this
    exact this
  | top z => exact ⟨fun _ => 0, .top fun i _ => Int.dvd_zero _, fun i hi => by rw [Int.mul_zero, Int.sub_zero]; exact z i hi⟩
  | ext e _ a =>
    obtain ⟨v, gv, ev⟩ := a
    exact ⟨v, gv, fun i hi => by rw [← e i hi]; exact ev i hi⟩
variable {h g : Nat → Vec}
/-- the heads of the lot of p-folds -/
theorem fold_heads (p0 : 0 < p) (m0 : 0 < m) (G : Good w m h) (sG : ∀ u, Mem w h w u ↔ Gen w m R u) (F : Good w (p * m) g) (sF : ∀ u, Mem w g w u ↔ Gen w (p * m) (Fold p R) u) {j : Nat} (hj : j < w) : g j j = p * h j j := by
  have a : g j j ∣ p * h j j := F.first ((sF _).mpr (fold_up ((sG _).mp (G.own hj)))) hj fun i hi => by
    show p * h j i = 0
    rw [G.low j hj i hi, Int.mul_zero]
  have b : p * h j j ∣ g j j := by
    obtain ⟨v, gv, ev⟩ := fold_down ((sF _).mp (F.own hj))
    have g2 : Gen w m R (fun i => if i < j then 0 else v i) := by
      refine .cong (fun i hi => ?_) gv
      show m ∣ (if i < j then 0 else v i) - v i
      by_cases lt : i < j
      · rw [if_pos lt, Int.zero_sub, Int.dvd_neg]
        have := ev i hi
        rw [F.low j hj i lt, Int.zero_sub, Int.dvd_neg] at this
        exact Int.dvd_of_mul_dvd_mul_left (by omega) this
      · rw [if_neg lt, Int.sub_self]
        exact Int.dvd_zero _
    have d := G.first ((sG _).mpr g2) hj fun i hi => if_pos hi
    rw [if_neg (Nat.lt_irrefl j)] at d
    have d1 : p * h j j ∣ p * v j := Int.mul_dvd_mul (Int.dvd_refl _) d
    have d2 : p * h j j ∣ p * m := Int.mul_dvd_mul (Int.dvd_refl _) (G.dvd j hj)
    have := Int.dvd_add (Int.dvd_trans d2 (ev j hj)) d1
    rw [Int.sub_add_cancel] at this
    exact this
  exact Int.dvd_antisymm (Int.le_of_lt (F.pos j hj)) (Int.mul_nonneg (Int.le_of_lt p0) (Int.le_of_lt (G.pos j hj))) a b
theorem fold_siz (p0 : 0 < p) (m0 : 0 < m) (G : Good w m h) (sG : ∀ u, Mem w h w u ↔ Gen w m R u) (F : Good w (p * m) g) (sF : ∀ u, Mem w g w u ↔ Gen w (p * m) (Fold p R) u) : ∀ n, n ≤ w → siz (p * m) g n = siz m h n
  | 0, _ => rfl
  | n + 1, hn => by
    show siz (p * m) g n * _ = siz m h n * _
    rw [fold_siz p0 m0 G sG F sF n (by omega), fold_heads p0 m0 G sG F sF hn, Int.mul_ediv_mul_of_pos _ _ p0]
end
/-- there is a lot of the p-folds -/
theorem good_fold {w M M' p : Nat} {R : Vec → Prop} {h : Nat → Vec} (p0 : 0 < p) (e : p * M' = M) (M0 : 0 < M) (G : Good w M' h) (sG : ∀ u, Mem w h w u ↔ Gen w M' R u) : ∃ g, Good w M g ∧ ∀ u, Mem w g w u ↔ Gen w M (Fold p R) u := by
  subst e
  have M0' : 0 < M' := Nat.pos_of_mul_pos_left M0
  have p0' : (0 : Int) < p := by omega
  rw [Int.natCast_mul]
  -- p times what is told
  have up : ∀ {n : Nat} {v : Vec}, n ≤ w → Mem w h n v → Mem w (fun j i => (p : Int) * h j i) n (fun i => (p : Int) * v i) := by
    intro n
    induction n with
    | zero => intro v _ _; trivial
    | succ n ih =>
      rintro v hn ⟨c, c1, c2⟩
      refine ⟨c, by show (p : Int) * v _ = c * ((p : Int) * h _ _); rw [c1, Int.mul_left_comm], Mem.ext (by omega) (fun i _ _ => ?_) (ih (by omega) c2)⟩
      show (p : Int) * (v i - c * h _ i) = (p : Int) * v i - c * ((p : Int) * h _ i)
      rw [Int.mul_sub, Int.mul_left_comm]
  have gd : Good w ((p : Int) * (M' : Int)) (fun j i => (p : Int) * h j i) := by
    refine ⟨⟨fun j hj i hi => ?_, fun j hj => Int.mul_pos p0' (G.pos j hj), fun j hj => Int.mul_dvd_mul (Int.dvd_refl _) (G.dvd j hj)⟩, fun j hj q hq => ?_⟩
    · show (p : Int) * h j i = 0
      rw [G.low j hj i hi, Int.mul_zero]
    · have hq : q * ((p : Int) * h j j) = (p : Int) * (M' : Int) := hq
      rw [Int.mul_left_comm] at hq
      have hq' : q * h j j = (M' : Int) := Int.eq_of_mul_eq_mul_left (by omega) hq
      refine Mem.ext (by omega) (fun i _ _ => ?_) (up (by omega) (G.close j hj q hq'))
      show (p : Int) * (q * h j i) = q * ((p : Int) * h j i)
      rw [Int.mul_left_comm]
  refine ⟨_, gd, fun u => ?_⟩
  rw [gd.gen u]
  constructor
  · refine fun g => g.into fun v hv => ?_
    obtain ⟨j, hj, rfl⟩ := hv
    exact fold_up ((sG _).mp (G.own hj))
  · refine fun g => g.into fun v hv => ?_
    obtain ⟨r, hr, rfl⟩ := hv
    exact (gd.gen _).mp (up (Nat.le_refl _) ((sG r).mpr (.row hr)))
/-- divisors of M are powers of p -/
def PowD (M p : Nat) : Prop := ∀ d : Nat, d ∣ M → ∃ e, e ≤ 4 ∧ d = p ^ e
/-- one lot within another: the sizes differ by a power of p -/
theorem siz_pow {w M p : Nat} {h g : Nat → Vec} (pd : PowD M p) (M0 : 0 < M) (G : Good w M h) (F : Good w M g) (sub : ∀ u, Mem w g w u → Mem w h w u) : ∀ n, n ≤ w → ∃ t, t ≤ 4 * n ∧ siz M h n = siz M g n * ((p ^ t : Nat) : Int)
  | 0, _ => ⟨0, Nat.le_refl _, rfl⟩
  | n + 1, hn => by
    obtain ⟨t, ht, e⟩ := siz_pow pd M0 G F sub n (by omega)
    have d1 := G.heads_dvd F sub hn
    have d2 := F.dvd n hn
    have p1 := G.pos n hn
    have p2 := F.pos n hn
    obtain ⟨c, hc⟩ := d1
    obtain ⟨b, hb⟩ := d2
    have c0 : 0 < c := by
      rcases Int.lt_or_le 0 c with z | z
      · exact z
      · have := Int.mul_nonpos_of_nonneg_of_nonpos (Int.le_of_lt p1) z
        omega
    have b0 : 0 < b := by
      rcases Int.lt_or_le 0 b with z | z
      · exact z
      · have := Int.mul_nonpos_of_nonneg_of_nonpos (Int.le_of_lt p2) z
        omega
    have cd : c.toNat ∣ M := by
      have : ((c.toNat : Nat) : Int) ∣ (M : Int) := ⟨h n n * b, by rw [Int.toNat_of_nonneg (Int.le_of_lt c0), hb, hc, Int.mul_comm (h n n) c, Int.mul_assoc]⟩
      exact Int.natCast_dvd_natCast.mp this
    obtain ⟨s, hs, es⟩ := pd _ cd
    refine ⟨t + s, by omega, ?_⟩
    show siz M h n * ((M : Int) / h n n) = siz M g n * ((M : Int) / g n n) * _
    have e1 : (M : Int) / h n n = c * b := by
      rw [hb, hc, Int.mul_assoc]
      exact Int.mul_ediv_cancel_left _ (by omega)
    have e2 : (M : Int) / g n n = b := by
      rw [hb]
      exact Int.mul_ediv_cancel_left _ (by omega)
    have ec : c = ((p ^ s : Nat) : Int) := by rw [← es, Int.toNat_of_nonneg (Int.le_of_lt c0)]
    rw [e1, e2, e, ec, Nat.pow_add, Int.natCast_mul]
    generalize ((p ^ t : Nat) : Int) = T
    generalize ((p ^ s : Nat) : Int) = S
    simp only [Int.mul_assoc, Int.mul_comm, Int.mul_left_comm]
end Lat
namespace B5
open PySem L2 Gd
/-- the product over the keys is that over all places -/
theorem sizeOf_perm {m : Int} {row : Nat → List Int} {a b : List Nat} (h : a.Perm b) : sizeOf m row a = sizeOf m row b := by
  induction h with
  | nil => rfl
  | cons x _ ih =>
    show _ * _ = _ * _
    rw [ih]
  | swap x y l =>
    show sizeOf m row l * _ * _ = sizeOf m row l * _ * _
    rw [Int.mul_assoc, Int.mul_assoc, Int.mul_comm (m / _)]
  | trans _ _ a b => exact a.trans b
theorem sizeOf_siz {m : Nat} (m0 : 0 < m) {row : Nat → List Int} : ∀ (n : Nat) (ks : List Nat), ks.Nodup → (∀ k ∈ ks, k < n) → sizeOf m row ks = Lat.siz m (hOf m ks row) n
  | 0, ks, _, h => by
    cases ks with
    | nil => rfl
    | cons k r => exact absurd (h k (.head _)) (Nat.not_lt_zero _)
  | n + 1, ks, nd, h => by
    show _ = Lat.siz m (hOf m ks row) n * ((m : Int) / hOf m ks row n n)
    by_cases hn : n ∈ ks
    · have p : ks.Perm (n :: ks.erase n) := List.perm_cons_erase hn
      have nd2 := p.nodup_iff.mp nd
      have out : n ∉ ks.erase n := (List.nodup_cons.mp nd2).1
      have ih := sizeOf_siz m0 (row := row) n (ks.erase n) (List.nodup_cons.mp nd2).2 fun k hk => by
        have h1 := h k (p.mem_iff.mpr (.tail _ hk))
        have : k ≠ n := fun (e : k = n) => out (e ▸ hk)
        omega
      rw [sizeOf_perm p]
      show sizeOf m row (ks.erase n) * ((m : Int) / (row n).getD n 0) = _
      rw [ih, hOf_in hn]
      have : Lat.siz m (hOf m (ks.erase n) row) n = Lat.siz m (hOf m ks row) n := Lat.siz_one (w := n) (fun j hj => by
        have e : (j ∈ ks.erase n) ↔ (j ∈ ks) := by
          rw [p.mem_iff, List.mem_cons]
          exact ⟨.inr, fun z => z.resolve_left (by omega)⟩
        by_cases q : j ∈ ks
        · rw [hOf_in q, hOf_in (e.mpr q)]
        · rw [hOf_out q, hOf_out (fun z => q (e.mp z))]) n (Nat.le_refl _)
      rw [this]
      rfl
    · have ih := sizeOf_siz m0 (row := row) n ks nd fun k hk => by
        have h1 := h k hk
        have : k ≠ n := fun (e : k = n) => hn (e ▸ hk)
        omega
      rw [ih, hOf_out hn]
      have e : Lat.none_ (m : Int) n n = m := if_pos rfl
      rw [e, Int.ediv_self (by omega), Int.mul_one]
theorem tens_pow : ∀ {m : Int} {is : List Int}, ppT.lookup m = some is → ∃ (M p : Nat) (k : Int), m = (M : Nat) ∧ is = [((p : Nat) : Int), k] ∧ 2 ≤ M ∧ M ≤ 27 ∧ isPr p = true ∧ p ∣ M ∧ M ∈ Lat.tens ∧ M / p ∈ Lat.tens ∧ Lat.PowD M p := by
  intro m is h
  obtain ⟨M, p, k, rfl, rfl, a, b, c, d⟩ := ppT_tens h
  refine ⟨M, p, k, rfl, rfl, a, b, c, d, ?_⟩
  have all : ∀ M ∈ List.range 28, ∀ p ∈ List.range 8, ∀ k ∈ List.range 5, ppT.lookup (M : Int) = some [((p : Nat) : Int), ((k : Nat) : Int)] → M ∈ Lat.tens ∧ M / p ∈ Lat.tens ∧ ∀ d ∈ List.range 28, d ∣ M → ∃ e ∈ List.range 5, d = p ^ e := by decide +kernel
  have kk : ∃ K : Nat, k = K ∧ K < 5 := by
    have all : ∀ q ∈ ppT, ∀ k, q.2.getD 1 0 = k → ∃ K : Nat, k = K ∧ K < 5 := by
      intro q hq k e
      simp only [ppT, List.mem_cons, List.not_mem_nil, or_false] at hq
      rcases hq with rfl | rfl | rfl | rfl | rfl | rfl | rfl | rfl | rfl | rfl <;> first | exact ⟨1, e.symm, by decide⟩ | exact ⟨2, e.symm, by decide⟩ | exact ⟨3, e.symm, by decide⟩ | exact ⟨4, e.symm, by decide⟩
    have mem : ∀ l : List (Int × List Int), l.lookup (M : Int) = some [((p : Nat) : Int), k] → ((M : Int), [((p : Nat) : Int), k]) ∈ l := by
      intro l
      induction l with
      | nil => intro z; cases z
      | cons q r ih =>
        intro z
        rw [List.lookup_cons] at z
        by_cases e : (M : Int) = q.1
        · rw [show ((M : Int) == q.1) = true from beq_iff_eq.mpr e] at z
          have z : q.2 = [((p : Nat) : Int), k] := Option.some.inj z
          rw [e, ← z]
          exact .head _
        · rw [show ((M : Int) == q.1) = false from beq_eq_false_iff_ne.mpr e] at z
          exact .tail _ (ih z)
    exact all _ (mem _ h) k rfl
  obtain ⟨K, rfl, K5⟩ := kk
  have p7 := (isPr_small c).2
  obtain ⟨x, y, z⟩ := all M (List.mem_range.mpr (by omega)) p (List.mem_range.mpr (by omega)) K (List.mem_range.mpr K5) h
  refine ⟨x, y, fun d hd => ?_⟩
  have := Nat.le_of_dvd (by omega) hd
  obtain ⟨e, he, ed⟩ := z d (List.mem_range.mpr (by omega)) hd
  exact ⟨e, by have := List.mem_range.mp he; omega, ed⟩
/-- digits of a power -/
theorem dgs_pow {p : Nat} (hp : 2 ≤ p) : ∀ t, (dgs p (p ^ t)).length = t + 1
  | 0 => by
    rw [Nat.pow_zero, dgs_pos (by decide) hp, List.length_cons, Nat.div_eq_of_lt (by omega), dgs_zero]
    rfl
  | t + 1 => by
    rw [dgs_pos (Nat.pow_pos (by omega)) hp, List.length_cons, Nat.pow_succ, Nat.mul_div_cancel _ (by omega), dgs_pow hp t]
end B5
namespace Lat
section
variable {w : Nat} {p m : Int} {R R' : Vec → Prop} {h : Nat → Vec}
theorem fold_same {v : Vec} (g : Gen w m R v) : Gen w m (Fold p R) (fun i => p * v i) := by
  induction g with
  | row r => exact .row ⟨_, r, rfl⟩
  | add _ _ a b => exact .ext (fun i _ => (Int.mul_add _ _ _).symm) (.add a b)
  | mul c _ a => exact .ext (fun i _ => by show c * (p * _) = p * (c * _); rw [Int.mul_left_comm]) (.mul c a)
  | top z => exact .top (fun i hi => Int.dvd_mul_of_dvd_right (z i hi))
  | ext e _ a => exact .ext (fun i hi => by show p * _ = p * _; rw [e i hi]) a
theorem fold_into (e : ∀ r, R r → Gen w m R' r) {u : Vec} (g : Gen w m (Fold p R) u) : Gen w m (Fold p R') u := g.into fun v hv => by
  obtain ⟨r, hr, rfl⟩ := hv
  exact fold_same (e r hr)
/-- no rows: the heads are m -/
theorem Good.nothing (g : Good w m h) (m0 : 0 < m) (s : ∀ u, Mem w h w u → Gen w m (fun _ => False) u) {j : Nat} (hj : j < w) : h j j = m := by
  have z : ∀ u, Gen w m (fun _ => False) u → ∀ i, i < w → m ∣ u i := by
    intro u gu
    induction gu with
    | row r => exact r.elim
    | add _ _ a b => exact fun i hi => Int.dvd_add (a i hi) (b i hi)
    | mul c _ a => exact fun i hi => Int.dvd_mul_of_dvd_right (a i hi)
    | top z => exact z
    | ext e _ a => exact fun i hi => by rw [← e i hi]; exact a i hi
  exact Int.dvd_antisymm (Int.le_of_lt (g.pos j hj)) (Int.le_of_lt m0) (g.dvd j hj) (z _ (s _ (g.own hj)) j hj)
end
end Lat
namespace B5
open PySem L2 Gd
/-- what the rows of the dict make -/
theorem gen_rows {n M : Nat} {ks : List Nat} {row : Nat → List Int} (p : Piv n M ks row) (g : Lat.Good n M (hOf M ks row)) {zs : List Nat} (mem : ∀ k, k ∈ zs ↔ k ∈ ks) (u : Lat.Vec) : Lat.Mem n (hOf M ks row) n u ↔ Lat.Gen n M (rowsSet (zs.map row)) u := by
  rw [g.gen u]
  constructor
  · refine fun h => h.into fun v hv => ?_
    obtain ⟨j, hj, rfl⟩ := hv
    by_cases q : j ∈ ks
    · rw [hOf_in q]
      exact .row ⟨row j, List.mem_map.mpr ⟨j, (mem j).mpr q, rfl⟩, rfl⟩
    · rw [hOf_out q]
      refine .top fun i _ => ?_
      show (M : Int) ∣ if i = j then (M : Int) else 0
      split
      · exact Int.dvd_refl _
      · exact Int.dvd_zero _
  · refine fun h => h.mono fun v hv => ?_
    obtain ⟨r, hr, rfl⟩ := hv
    obtain ⟨k, hk, rfl⟩ := List.mem_map.mp hr
    exact ⟨k, p.lt k ((mem k).mp hk), (hOf_in ((mem k).mp hk)).symm⟩
/-- no rows, no keys -/
theorem no_keys {n M : Nat} {ks : List Nat} {row : Nat → List Int} (M0 : 0 < M) (p : Piv n M ks row) (g : Lat.Good n M (hOf M ks row)) (s : ∀ u, Lat.Mem n (hOf M ks row) n u ↔ Lat.Gen n M (rowsSet []) u) : ks = [] := by
  cases hk : ks with
  | nil => rfl
  | cons k r =>
    exfalso
    have kk : k ∈ ks := by rw [hk]; exact .head _
    have e := g.nothing (by omega) (fun u hu => ((s u).mp hu).mono fun v ⟨r, hr, _⟩ => nomatch hr) (p.lt k kk)
    rw [hOf_in kk] at e
    have := (mem_get (p.rest k kk) (t := k) (by rw [p.len k kk]; exact p.lt k kk)).2
    have e : (row k).getD k 0 = (M : Int) := e
    omega
end B5

/-! LotC: the class of lots, what its makers promise. -/
namespace B5
open PySem L2 Gd
/-- a modulus of the ten, its prime -/
def Mod (M p : Nat) : Prop := ∃ k : Int, ppT.lookup (M : Int) = some [((p : Nat) : Int), k]
theorem Mod.facts {M p : Nat} (h : Mod M p) : 2 ≤ M ∧ M ≤ 27 ∧ isPr p = true ∧ p ∣ M ∧ M ∈ Lat.tens ∧ M / p ∈ Lat.tens ∧ Lat.PowD M p := by
  obtain ⟨k, hk⟩ := h
  obtain ⟨M', p', k', e1, e2, a, b, c, d, x, y, z⟩ := tens_pow hk
  have : M = M' := by omega
  subst this
  injection e2 with e3 _
  have : p = p' := by omega
  subst this
  exact ⟨a, b, c, d, x, y, z⟩
/-- what is no modulus -/
def BadMod (K : PySem.W.Frag) (H : Hp) (x : V) : Prop := (∃ m, x = .int m ∧ ppT.lookup m = none) ∨ NoInt K H x
/-- what is no width -/
def BadWid (K : PySem.W.Frag) (H : Hp) (x : V) : Prop := (∃ n, x = .int n ∧ (n < 0 ∨ 400 < n)) ∨ NoInt K H x
/-- the first of the rows that is none -/
def BadRows (K : PySem.W.Frag) (CR : Addr) (n : Nat) (z : V) (H : Hp) (E : XK) : Prop := ∃ (a : Addr) (ys : List V) (i : Nat) (y : V), z = .ref a ∧ Sq K H a ys ∧ ys[i]? = some y ∧ NWor K H n y ∧
  (∀ j y', j < i → ys[j]? = some y' → ∃ (b : Addr) (r : List Int), y' = .ref b ∧ Sq K H b (r.map V.int) ∧ r.length = n) ∧ ∀ H', More H H' → RRow CR y H' E
/-- check_rows(m, width, rows) -/
def spCr (K : PySem.W.Frag) (CN CR : Addr) : Sp := fun vs H Q E => ∃ x y z, vs = [x, y, z] ∧
  ((BadMod K H x ∧ RNum CN "modulus" x H E) ∨
   ∃ M p : Nat, x = .int M ∧ Mod M p ∧ ((BadWid K H y ∧ RNum CN "width" y H E) ∨
    ∃ n : Nat, y = .int n ∧ n ≤ 400 ∧ (BadRows K CR n z H E ∨ ∃ (a : Addr) (ys : List V) (rs : List (List Int)), z = .ref a ∧ Sq K H a ys ∧ RowsAt K H n ys rs ∧ ∀ H', More H H' → Q .non H')))
/-- what a lot has -/
structure LGood (M n : Nat) (p : Nat) (ks : List Nat) (row : Nat → List Int) (R : Lat.Vec → Prop) (S : Int) (L : Nat) : Prop where
  mod : Mod M p
  n4 : n ≤ 400
  n6 : ks ≠ [] → n ≤ 60
  pv : Piv n M ks row
  good : Lat.Good n M (hOf M ks row)
  same : ∀ u, Lat.Mem n (hOf M ks row) n u ↔ Lat.Gen n M R u
  redd : Redd n (hOf M ks row)
  size : S = Lat.siz M (hOf M ks row) n
  least : ∃ g, Lat.Good n M g ∧ (∀ u, Lat.Mem n g n u ↔ Lat.Gen n M (Lat.Fold p R) u) ∧ S = Lat.siz M g n * ((p ^ L : Nat) : Int)
/-- the rows of the form -/
def formL (n : Nat) (ks : List Nat) (row : Nat → List Int) : List (List Int) := ((List.range n).filter fun k => decide (k ∈ ks)).map row
theorem ascN_one : ∀ {a b : List Nat}, a.Pairwise (· < ·) → b.Pairwise (· < ·) → (∀ k, k ∈ a ↔ k ∈ b) → a = b
  | [], [], _, _, _ => rfl
  | [], y :: b, _, _, h => nomatch (h y).mpr (.head _)
  | x :: a, [], _, _, h => nomatch (h x).mp (.head _)
  | x :: a, y :: b, ha, hb, h => by
    obtain ⟨xa, ha'⟩ := List.pairwise_cons.mp ha
    obtain ⟨yb, hb'⟩ := List.pairwise_cons.mp hb
    have e : x = y := by
      rcases List.mem_cons.mp ((h x).mp (.head _)) with e | m
      · exact e
      · rcases List.mem_cons.mp ((h y).mpr (.head _)) with e | m2
        · exact e.symm
        · have := yb x m
          have := xa y m2
          omega
    subst e
    refine congrArg (List.cons x) (ascN_one ha' hb' fun k => ?_)
    constructor
    · intro hk
      rcases List.mem_cons.mp ((h k).mp (.tail _ hk)) with e | m
      · have := xa k hk
        omega
      · exact m
    · intro hk
      rcases List.mem_cons.mp ((h k).mpr (.tail _ hk)) with e | m
      · have := yb k hk
        omega
      · exact m
theorem formL_of {n : Nat} {ks zs : List Nat} {row : Nat → List Int} (perm : zs.Perm ks) (asc : zs.Pairwise (· < ·)) (lt : ∀ k ∈ ks, k < n) : zs.map row = formL n ks row := by
  unfold formL
  rw [ascN_one asc (List.Pairwise.filter _ List.pairwise_lt_range) fun k => ?_]
  rw [perm.mem_iff, List.mem_filter, decide_eq_true_eq, List.mem_range]
  exact ⟨fun h => ⟨lt k h, h⟩, fun h => h.2⟩
def LAt (K : PySem.W.Frag) (H : Hp) (C a : Addr) (M n : Nat) (ks : List Nat) (row : Nat → List Int) (S : Int) (L : Nat) : Prop := ∃ (dx t d : Addr) (ts : List Addr),
  H a = some (.ins C dx [("m", .int M), ("width", .int n), ("rows", .ref t), ("size", .int S), ("least", .int L), ("_pivots", .ref d)]) ∧ H t = some (.tup (ts.map V.ref)) ∧
  Paired (fun (b : Addr) (r : List Int) => H b = some (.tup (r.map V.int))) ts (formL n ks row) ∧ H d = some (.dK (kvsOf ks row))
theorem LAt.more {K : PySem.W.Frag} {H H' : Hp} {C a : Addr} {M n : Nat} {ks : List Nat} {row : Nat → List Int} {S : Int} {L : Nat} (m : More H H') (h : LAt K H C a M n ks row S L) : LAt K H' C a M n ks row S L :=
  let ⟨dx, t, d, ts, h1, h4, h5, h6⟩ := h; ⟨dx, t, d, ts, m _ _ h1, m _ _ h4, paired_imp (fun _ _ e => m _ _ e) h5, m _ _ h6⟩
/-- least_makers(rows, size, width, m) -/
def spLk (K : PySem.W.Frag) : Sp := fun vs H Q _ => ∃ (a : Addr) (ys : List V) (rs : List (List Int)) (n M p : Nat) (S : Int), vs = [.ref a, .int S, .int n, .int M] ∧ Sq K H a ys ∧ RowsAt K H n ys rs ∧ Mod M p ∧ n ≤ 400 ∧ (rs ≠ [] → n ≤ 60) ∧ ys.length ≤ 1000 ∧
  (∃ h, Lat.Good n M h ∧ (∀ u, Lat.Mem n h n u ↔ Lat.Gen n M (rowsSet rs) u) ∧ S = Lat.siz M h n) ∧ S < 2 ^ 400 ∧
  ∀ (H' : Hp) (L : Nat), More H H' → (∃ g, Lat.Good n M g ∧ (∀ u, Lat.Mem n g n u ↔ Lat.Gen n M (Lat.Fold p (rowsSet rs)) u) ∧ S = Lat.siz M g n * ((p ^ L : Nat) : Int)) → Q (.int L) H'
/-- Lot(m, width, rows) -/
def spLI (K : PySem.W.Frag) (C CN CR : Addr) : Sp := fun vs H Q E => ∃ (a dx : Addr) (x y z : V), vs = [.ref a, x, y, z] ∧ H a = some (.ins C dx []) ∧
  ((BadMod K H x ∧ RNum CN "modulus" x H E) ∨
   ∃ M p : Nat, x = .int M ∧ Mod M p ∧ ((BadWid K H y ∧ RNum CN "width" y H E) ∨
    ∃ n : Nat, y = .int n ∧ n ≤ 400 ∧ (BadRows K CR n z H E ∨ ∃ (b : Addr) (ys : List V) (rs : List (List Int)), z = .ref b ∧ Sq K H b ys ∧ RowsAt K H n ys rs ∧ ys.length ≤ 1000 ∧ (rs ≠ [] → n ≤ 60) ∧
      ∀ (H' : Hp) (ks : List Nat) (row : Nat → List Int) (S : Int) (L : Nat), Off a H H' → LAt K H' C a M n ks row S L → LGood M n p ks row (rowsSet rs) S L → Q .non H')))
/-- one == other -/
def spLE (K : PySem.W.Frag) (C : Addr) : Sp := fun vs H Q _ => ∃ (a : Addr) (y : V) (M n : Nat) (ks : List Nat) (row : Nat → List Int) (S : Int) (L : Nat), vs = [.ref a, y] ∧ LAt K H C a M n ks row S L ∧
  ((∃ k ∈ offOwn, TyX K H y (.type k) ∧ Q (.bl false) H) ∨ ∃ (b : Addr) (M2 n2 : Nat) (ks2 : List Nat) (row2 : Nat → List Int) (S2 : Int) (L2 : Nat), y = .ref b ∧ LAt K H C b M2 n2 ks2 row2 S2 L2 ∧ Q (.bl (decide (M = M2 ∧ n = n2 ∧ formL n ks row = formL n2 ks2 row2))) H)
theorem paired_mapL {α β γ : Type} {R : β → γ → Prop} {g : α → β} : ∀ {xs : List α} {l : List γ}, Paired (fun x y => R (g x) y) xs l → Paired R (xs.map g) l
  | _, _, .nil => .nil
  | _, _, .cons r t => .cons r (paired_mapL t)
/-- what is asked of the class -/
structure LotK (K : PySem.W.Frag) (mg : Str → Option Value) (C : Addr) : Prop where
  ic : C8.InsC K C
  n1 : NoAttr K C "m"
  n2 : NoAttr K C "width"
  n3 : NoAttr K C "rows"
  n4 : NoAttr K C "size"
  n5 : NoAttr K C "least"
  n6 : NoAttr K C "_pivots"
  g : mg "Lot" = some (.ref C)
  no : ∀ n ∈ offOwn, PySem.W.kitOne K (.type n) (.ref C) = some false
theorem LAt.ty {K : PySem.W.Frag} {mg : Str → Option Value} {C a : Addr} (Z : LotK K mg C) {H : Hp} {M n : Nat} {ks : List Nat} {row : Nat → List Int} {S : Int} {L : Nat} (h : LAt K H C a M n ks row S L) : TyX K H (.ref a) (.ref C) := by
  obtain ⟨dx, t, d, ts, h1, _⟩ := h
  exact .base (.ins h1 Z.ic.cl Z.ic.ha Z.ic.hn Z.ic.htk Z.ic.hm)
/-- one and the same lot has one form -/
theorem form_one {n M : Nat} {ks ks' : List Nat} {row row' : Nat → List Int} (M0 : 0 < M) (pv : Piv n M ks row) (pv' : Piv n M ks' row') (g : Lat.Good n M (hOf M ks row)) (g' : Lat.Good n M (hOf M ks' row')) (r : Redd n (hOf M ks row)) (r' : Redd n (hOf M ks' row')) (same : ∀ u, Lat.Mem n (hOf M ks row) n u ↔ Lat.Mem n (hOf M ks' row') n u) :
    (∀ k, k ∈ ks ↔ k ∈ ks') ∧ formL n ks row = formL n ks' row' := by
  have one := g.one g' r r' same
  have small : ∀ {k : Nat} {ks : List Nat} {row : Nat → List Int}, Piv n M ks row → k ∈ ks → (row k).getD k 0 < (M : Int) := fun {k ks row} p hk => (mem_get (p.rest k hk) (t := k) (by rw [p.len k hk]; exact p.lt k hk)).2
  have heads : ∀ k, k < n → hOf M ks row k k = hOf M ks' row' k k := fun k hk => g.heads_one g' (fun u => (same u).symm) hk
  have keys : ∀ k, k ∈ ks ↔ k ∈ ks' := fun k => by
    constructor
    · intro hk
      refine Decidable.byContradiction fun no => ?_
      have h := heads k (pv.lt k hk)
      rw [hOf_in hk, hOf_out no] at h
      have h1 := small pv hk
      have h2 : (row k).getD k 0 = if k = k then (M : Int) else 0 := h
      rw [if_pos rfl] at h2
      omega
    · intro hk
      refine Decidable.byContradiction fun no => ?_
      have h := heads k (pv'.lt k hk)
      rw [hOf_in hk, hOf_out no] at h
      have h1 := small pv' hk
      have h2 : (if k = k then (M : Int) else 0) = (row' k).getD k 0 := h
      rw [if_pos rfl] at h2
      omega
  refine ⟨keys, ?_⟩
  unfold formL
  have e : ((List.range n).filter fun k => decide (k ∈ ks)) = (List.range n).filter fun k => decide (k ∈ ks') := by
    refine List.filter_congr fun k _ => ?_
    rw [decide_eq_decide]
    exact keys k
  rw [e]
  refine List.map_congr_left fun k hk => ?_
  obtain ⟨hk1, hk2⟩ := List.mem_filter.mp hk
  have hk2 : k ∈ ks' := of_decide_eq_true hk2
  have hk3 := (keys k).mpr hk2
  refine List.ext_getElem? fun i => ?_
  rcases Nat.lt_or_ge i n with lt | ge
  · have := one k (pv'.lt k hk2) i lt
    rw [hOf_in hk3, hOf_in hk2] at this
    have this : (row k).getD i 0 = (row' k).getD i 0 := this
    rw [List.getD_eq_getElem?_getD, List.getD_eq_getElem?_getD, List.getElem?_eq_getElem (by rw [pv.len k hk3]; exact lt), List.getElem?_eq_getElem (by rw [pv'.len k hk2]; exact lt)] at this
    rw [List.getElem?_eq_getElem (by rw [pv.len k hk3]; exact lt), List.getElem?_eq_getElem (by rw [pv'.len k hk2]; exact lt)]
    exact congrArg some this
  · rw [List.getElem?_eq_none (by rw [pv.len k hk3]; exact ge), List.getElem?_eq_none (by rw [pv'.len k hk2]; exact ge)]
/-- sizes are small -/
theorem siz_bd {w M : Nat} {h : Nat → Lat.Vec} (M0 : 0 < M) (M27 : M ≤ 27) (g : Lat.Good w M h) : ∀ n, n ≤ w → 1 ≤ Lat.siz M h n ∧ Lat.siz M h n ≤ ((27 ^ n : Nat) : Int)
  | 0, _ => ⟨Int.le_refl _, Int.le_refl _⟩
  | n + 1, hn => by
    obtain ⟨a, b⟩ := siz_bd M0 M27 g n (by omega)
    have p := g.pos n hn
    obtain ⟨c, hc⟩ := g.dvd n hn
    have c0 : 0 < c := by
      rcases Int.lt_or_le 0 c with z | z
      · exact z
      · have := Int.mul_nonpos_of_nonneg_of_nonpos (Int.le_of_lt p) z
        omega
    have e : (M : Int) / h n n = c := by rw [hc]; exact Int.mul_ediv_cancel_left _ (by omega)
    have c27 : c ≤ 27 := by
      have : c ≤ h n n * c := by
        have := Int.mul_le_mul_of_nonneg_right (show (1 : Int) ≤ h n n by omega) (Int.le_of_lt c0)
        omega
      omega
    show 1 ≤ Lat.siz M h n * ((M : Int) / h n n) ∧ Lat.siz M h n * ((M : Int) / h n n) ≤ _
    rw [e, Nat.pow_succ, Int.natCast_mul]
    refine ⟨?_, Int.mul_le_mul b c27 (Int.le_of_lt c0) (by omega)⟩
    have := Int.mul_le_mul a (show (1 : Int) ≤ c by omega) (by decide) (by omega)
    omega
theorem siz_400 {w M : Nat} {h : Nat → Lat.Vec} (M0 : 0 < M) (M27 : M ≤ 27) (g : Lat.Good w M h) (hw : w ≤ 60) : Lat.siz M h w < 2 ^ 400 := by
  have a := (siz_bd M0 M27 g w (Nat.le_refl _)).2
  have b : 27 ^ w ≤ 27 ^ 60 := Nat.pow_le_pow_right (by decide) hw
  have c : 27 ^ 60 < 2 ^ 400 := by decide +kernel
  have d : ((27 ^ w : Nat) : Int) < ((2 ^ 400 : Nat) : Int) := by exact_mod_cast (Nat.lt_of_le_of_lt b c)
  have e : ((2 ^ 400 : Nat) : Int) = (2 : Int) ^ 400 := Int.natCast_pow 2 400
  rw [e] at d
  exact Int.lt_of_le_of_lt a d
end B5

/-! cr: check_rows -/
namespace K02
open PySem L2 Gd B5
abbrev sCr : Stmt := top 39
theorem scCr : FnScope ["m", "width", "rows", "row"] ["m", "width", "rows"] (defScope sCr) := ⟨rfl, rfl, rfl, by decide +kernel, rfl, by decide +kernel, by decide +kernel⟩
section
variable {P : Program} {w : World} {K : PySem.W.Frag} {mg : Str → Option Value} {base : Heap} {fN CN fR CR fI fS fW fP f : Addr} {fdN fdR fdI fdS fdW fdP fd : FuncData} {D : Addr} {tk : Tok}
theorem ok_cr (F : Fun K "check_rows" "check_rows" sCr f fd) (B : Blt mg) (I : Cl K mg "is_integer" sIsI ["value"] fI fdI) (S : Cl K mg "is_integers" sIsIs ["value"] fS fdS) (W : Cl K mg "is_row" sRow ["value", "width"] fW fdW) (PP : Cl K mg "prime_power" sPP ["m"] fP fdP)
    (N : Er K mg "BadNumber" "BadNumber.__init__" CN fN ["what", "number"] sBadNumber fdN) (R : Er K mg "BadRow" "BadRow.__init__" CR fR ["row"] sBadRow fdR) (gD : mg "PRIME_POWERS" = some (.ref D)) (dD : dictI K D = some ppT) (gW : mg "WIDEST" = some (.int 400 tk)) :
    FnOk P w K mg base (L2.CX P w) 4 f fd ["m", "width", "rows"] (spCr K CN CR) := by
  have GI : FnOk P w K mg base CX0 1 fI fdI ["value"] (spIsI K) := ok_isI I.fn B.isi_ B.int_ B.bool_
  have GN : FnOk P w K mg base CX0 1 fN fdN ["self", "what", "number"] (spIni CN ["what", "number"]) := okBadNumber N.fn N.T N.no
  have GR : FnOk P w K mg base CX0 1 fR fdR ["self", "row"] (spIni CR ["row"]) := okBadRow R.fn R.T R.no
  have GP : FnOk P w K mg base (L2.CX P w) 3 fP fdP ["m"] (spPP K CN) := ok_pp PP.fn B I N gD dD
  have GW : FnOk P w K mg base CX0 3 fW fdW ["value", "width"] (spRow K) := ok_row W.fn B I S
  refine F.okX scCr (fun vs H Q E h => ?_) (fun cdv A outer s H vs Q E hr h => ?_)
  · obtain ⟨x, y, z, rfl, _⟩ := h
    rfl
  · obtain ⟨x, y, z, rfl, h⟩ := h
    have hr1 : Room 1 _ := hr.mono (by decide)
    have hr2 : Room 2 _ := hr.mono (by decide)
    refine ⟨_, pss_cons (ps_expr (pe_call GP hr rfl PP.g PP.k PP.b .nil (passes_call (takes_of rfl rfl rfl rfl) (fun _ _ _ _ h => h)) (pa_cons (pv 0) pa_nil)))
      (pss_cons (ps_if (PW.pt (pw_or (pt_not (pt_val (pe_call GI hr1 rfl I.g I.k I.b .nil pass0 (pa_cons (pv 1) pa_nil))))
          (pw_or (pt_cmpR op_lt (pv 1) pe_int (nomark _)) (pw_or1 (pt_cmpR op_gt (pv 1) (pe_glob (v := .int 400) rfl gW ⟨_, rfl⟩) (nomark _))))))
        (pss_one (ps_raise rfl (takes_of rfl rfl rfl rfl) (pmk_oex N.T N.iC N.tI GN hr2 N.b .nil pass0 rfl N.g (pa_cons pe_str (pa_cons (pv 1) pa_nil))))) pss_nil)
      (pss_one (ps_for (passes_of rfl) rfl (pi_sq (K := K) rfl (pv 2)) (pg_name (i := 3) scCr.nd rfl (Or.inl rfl))
        (pss_one (ps_if (pt_not (pt_val (pe_call GW hr rfl W.g W.k W.b .nil pass0 (pa_cons (pv 3) (pa_cons (pv 1) pa_nil)))))
          (pss_one (ps_raise rfl (takes_of rfl rfl rfl rfl) (pmk_oex R.T R.iC R.tI GR hr2 R.b .nil pass0 rfl R.g (pa_cons (pv 3) pa_nil)))) pss_nil))))), ?_⟩
    obtain ⟨bad, q⟩ | ⟨M, p, rfl, ⟨k, hk⟩, h⟩ := h
    · exact ⟨_, rfl, _, rfl, .inr ⟨bad, q⟩⟩
    refine ⟨_, rfl, _, rfl, .inl ⟨_, _, rfl, hk, fun a0 _ => ?_⟩⟩
    obtain ⟨⟨n, rfl, bad⟩ | bad, q⟩ | ⟨n, rfl, n4, h⟩ := h
    · refine ⟨_, rfl, _, rfl, .inl ⟨_, rfl, _, rfl, iteF ⟨_, rfl, _, _, rfl, rfl, _, rfl, ?_⟩⟩⟩
      by_cases lt : n < 0
      · rw [decide_eq_true lt]
        exact iteT ⟨_, rfl, mk_ini rfl (by show 2 ≤ 900; decide) q⟩
      · rw [decide_eq_false lt]
        refine iteF ⟨_, rfl, _, _, rfl, rfl, _, rfl, ?_⟩
        rw [show decide (n > 400) = true from decide_eq_true (by omega)]
        exact iteT ⟨_, rfl, mk_ini rfl (by show 2 ≤ 900; decide) q⟩
    · exact ⟨_, rfl, _, rfl, .inr (.inl ⟨bad, _, rfl, iteT (iteT ⟨_, rfl, mk_ini rfl (by show 2 ≤ 900; decide) q⟩)⟩)⟩
    refine ⟨_, rfl, _, rfl, .inl ⟨_, rfl, _, rfl, iteF ⟨_, rfl, _, _, rfl, rfl, _, rfl, ?_⟩⟩⟩
    rw [show decide (((n : Nat) : Int) < 0) = false from decide_eq_false (by omega)]
    refine iteF ⟨_, rfl, _, _, rfl, rfl, _, rfl, ?_⟩
    rw [show decide (((n : Nat) : Int) > 400) = false from decide_eq_false (by omega)]
    refine iteF ?_
    have right : ∀ {r : List Int}, r.length = n → ((r.map V.int).all isI && decide ((((r.map V.int).length : Nat) : Int) = (n : Int))) = true := fun {r} rl => by rw [isI_all r, List.length_map, rl, decide_eq_true rfl]; rfl
    obtain ⟨a, ys, i0, y0, rfl, sq, hy0, no, before, q⟩ | ⟨a, ys, rs, rfl, sq, ⟨yl, rows⟩, q⟩ := h
    · refine ⟨_, rfl, a, ys, rfl, sq, fun J Z wk hZ => for_it wk (fun i σ' H' => i ≤ i0 ∧ ∃ z3, σ' = [some (.int M), some (.int n), some (.ref a), z3] ∧ More H H') ⟨Nat.zero_le _, none, rfl, fun _ _ e => e⟩ (fun i σ' H' _ ⟨_, _, _, m⟩ => hZ H' (.of m)) ?_ (fun σ' H' ⟨h, _⟩ => ?_)⟩
      · rintro i y σ2 H2 H3 hi ⟨le, z3, rfl, m2⟩ ⟨rfl, hy⟩
        by_cases e : i = i0
        · subst e
          rw [hy0] at hy
          cases hy
          obtain no | ⟨b, xs, rfl, sb, it, no⟩ := no
          · exact ⟨_, rfl, _, rfl, _, _, rfl, .inl ⟨no.more m2, fun H' m => ⟨_, rfl, iteT ⟨_, rfl, mk_ini rfl (by show 1 ≤ 900; decide) (q H' fun b o e => m _ _ (m2 _ _ e))⟩⟩⟩⟩
          · refine ⟨_, rfl, _, rfl, _, _, rfl, .inr ⟨b, xs, rfl, sb.more m2, it.more m2, fun H' m => ⟨_, rfl, ?_⟩⟩⟩
            have ef : (xs.all isI && decide (((xs.length : Nat) : Int) = (n : Int))) = false := by
              rcases no with no | no
              · rw [no]
                rfl
              · rw [decide_eq_false (by omega), Bool.and_false]
            rw [ef]
            exact iteT ⟨_, rfl, mk_ini rfl (by show 1 ≤ 900; decide) (q H' fun b o e => m _ _ (m2 _ _ e))⟩
        · obtain ⟨b, r, rfl, sb, rl⟩ := before i y (by omega) hy
          refine ⟨_, rfl, _, rfl, _, _, rfl, .inr ⟨b, r.map V.int, rfl, sb.more m2, Its.ints (by omega), fun H' m => ?_⟩⟩
          rw [right rl]
          exact ⟨_, rfl, iteF ⟨by omega, _, rfl, fun b o e => m _ _ (m2 _ _ e)⟩⟩
      · have := (List.getElem?_eq_some_iff.mp hy0).1
        omega
    · refine ⟨_, rfl, a, ys, rfl, sq, fun J Z wk hZ => for_it wk (fun i σ' H' => ∃ z3, σ' = [some (.int M), some (.int n), some (.ref a), z3] ∧ More H H') ⟨none, rfl, fun _ _ e => e⟩ (fun i σ' H' _ ⟨_, _, m⟩ => hZ H' (.of m)) ?_ (fun σ' H' ⟨_, _, m⟩ => q H' m)⟩
      rintro i y σ2 H2 H3 hi ⟨z3, rfl, m2⟩ ⟨rfl, hy⟩
      have hl := (List.getElem?_eq_some_iff.mp hy).1
      obtain ⟨b, rfl, sb, rl⟩ := rows i y _ hy (List.getElem?_eq_getElem (by omega))
      refine ⟨_, rfl, _, rfl, _, _, rfl, .inr ⟨b, _, rfl, sb.more m2, Its.ints (by omega), fun H' m => ?_⟩⟩
      rw [right rl]
      exact ⟨_, rfl, iteF ⟨_, rfl, fun b o e => m _ _ (m2 _ _ e)⟩⟩
end
end K02

/-! Lc2: a comprehension with two fors, over any two walks. -/
namespace L2
open PySem PySem.Spec PyProof.Rows
section
variable {J J1 : It} {n n1 : Nat} {G G1 : Hp → Prop} {Y Y1 : Nat → Hp → V → Hp → Prop}
/-- the inner walk -/
def In2 (J1 : It) (g1 : TG) (tt1 : TT) (te : TE) (vs1 : List Nat) (σ2 : St) (D : Addr) (Nx : Hp → Prop) (H4 : Hp) : Prop := ∃ W1 : Nat → Nat → Hp → Prop, (∃ m, W1 0 m H4) ∧ ∀ j k H, W1 j k H →
      (J1.stop j H ∧ Nx H) ∨ (J1.go j H ∧ ∃ Nx1 : Hp → Prop, (∀ H', Nx1 H' → ∃ k', k' < k ∧ W1 (j + 1) k' H') ∧ ∀ x H', J1.yld j H x H' → g1 x (wipe σ2 vs1) H' fun σ3 H5 => wipe σ3 vs1 = wipe σ2 vs1 ∧ tt1 σ3 H5 fun b H6 =>
        if b = true then te σ3 H6 fun y H7 => ∃ acc, H7 D = some (.lst acc) ∧ acc.length < sizeLine ∧ Nx1 (upd H7 D (.lst (acc ++ [y]))) else Nx1 H6)
theorem in2_it (w : Walk J1 n1 G1 Y1) {g1 : TG} {tt1 : TT} {te : TE} {vs1 : List Nat} {σ2 : St} {D : Addr} {Nx : Hp → Prop} {H4 : Hp} (Pv : Nat → Hp → Prop) (h0 : Pv 0 H4) (hG : ∀ i H, i ≤ n1 → Pv i H → G1 H)
    (hs : ∀ i x H H', i < n1 → Pv i H → Y1 i H x H' → g1 x (wipe σ2 vs1) H' fun σ3 H5 => wipe σ3 vs1 = wipe σ2 vs1 ∧ tt1 σ3 H5 fun b H6 =>
      if b = true then te σ3 H6 fun y H7 => ∃ acc, H7 D = some (.lst acc) ∧ acc.length < sizeLine ∧ Pv (i + 1) (upd H7 D (.lst (acc ++ [y]))) else Pv (i + 1) H6) (hd : ∀ H, Pv n1 H → Nx H) : In2 J1 g1 tt1 te vs1 σ2 D Nx H4 := by
  refine ⟨fun i m H => m = n1 - i ∧ i ≤ n1 ∧ Pv i H, ⟨n1, by simp, Nat.zero_le _, h0⟩, ?_⟩
  rintro i m H ⟨rfl, hi, p⟩
  have q := hG i H hi p
  by_cases hlt : i < n1
  · exact .inr ⟨w.goes i H hlt q, Pv (i + 1), fun H' p' => ⟨n1 - (i + 1), by omega, rfl, hlt, p'⟩, fun x H' y => hs i x H H' hlt p (w.yields i H x H' hlt q y)⟩
  · have e : i = n1 := by omega
    subst e
    exact .inl ⟨w.stops H q, hd H p⟩
theorem lc2_it (w : Walk J n G Y) {g : TG} {tt : TT} {wi1 : TI} {g1 : TG} {tt1 : TT} {te : TE} {vs vs1 : List Nat} {σ : St} {H1 : Hp} {D : Addr} {Qd : Hp → Prop} (Pv : Nat → Hp → Prop) (h0 : Pv 0 (upd H1 D (.lst []))) (hG : ∀ i H, i ≤ n → Pv i H → G H)
    (hs : ∀ i x H H', i < n → Pv i H → Y i H x H' → g x (wipe σ vs) H' fun σ2 H2 => wipe σ2 vs = wipe σ vs ∧ tt σ2 H2 fun b H3 =>
      if b = true then wi1 σ2 H3 fun J1 H4 => In2 J1 g1 tt1 te vs1 σ2 D (Pv (i + 1)) H4 else Pv (i + 1) H3) (hd : ∀ H, Pv n H → Qd H) :
    ∃ W : Nat → Nat → Hp → Prop, (∃ m, W 0 m (upd H1 D (.lst []))) ∧ ∀ i m H, W i m H →
  (J.stop i H ∧ Qd H) ∨ (J.go i H ∧ ∃ Nx : Hp → Prop, (∀ H', Nx H' → ∃ m', m' < m ∧ W (i + 1) m' H') ∧ ∀ x H', J.yld i H x H' → g x (wipe σ vs) H' fun σ2 H2 => wipe σ2 vs = wipe σ vs ∧ tt σ2 H2 fun b H3 =>
    if b = true then wi1 σ2 H3 fun J1 H4 => ∃ W1 : Nat → Nat → Hp → Prop, (∃ m, W1 0 m H4) ∧ ∀ j k H, W1 j k H →
      (J1.stop j H ∧ Nx H) ∨ (J1.go j H ∧ ∃ Nx1 : Hp → Prop, (∀ H', Nx1 H' → ∃ k', k' < k ∧ W1 (j + 1) k' H') ∧ ∀ x H', J1.yld j H x H' → g1 x (wipe σ2 vs1) H' fun σ3 H5 => wipe σ3 vs1 = wipe σ2 vs1 ∧ tt1 σ3 H5 fun b H6 =>
        if b = true then te σ3 H6 fun y H7 => ∃ acc, H7 D = some (.lst acc) ∧ acc.length < sizeLine ∧ Nx1 (upd H7 D (.lst (acc ++ [y]))) else Nx1 H6)
    else Nx H3) := by
  refine ⟨fun i m H => m = n - i ∧ i ≤ n ∧ Pv i H, ⟨n, by simp, Nat.zero_le _, h0⟩, ?_⟩
  rintro i m H ⟨rfl, hi, p⟩
  have q := hG i H hi p
  by_cases hlt : i < n
  · exact .inr ⟨w.goes i H hlt q, Pv (i + 1), fun H' p' => ⟨n - (i + 1), by omega, rfl, hlt, p'⟩, fun x H' y => hs i x H H' hlt p (w.yields i H x H' hlt q y)⟩
  · have e : i = n := by omega
    subst e
    exact .inl ⟨w.stops H q, hd H p⟩
end
end L2

/-! pk: pack, number_at, unpack -/
namespace K02
open PySem L2 Gd B5
section
variable {P : Program} {w : World} {K : PySem.W.Frag} {mg : Str → Option Value} {base : Heap} {f fA FG : Addr} {fd fdA : FuncData} {tb tf tk2 tm : Tok}
abbrev sPack : Stmt := top 23
abbrev sUn : Stmt := top 25
theorem scPack : FnScope ["row", "m", "number"] ["row", "m"] (defScope sPack) := ⟨rfl, rfl, rfl, by decide +kernel, rfl, by decide +kernel, by decide +kernel⟩
theorem scUn : FnScope ["packed", "width", "m", "pieces", "numbers", "at", "piece"] ["packed", "width", "m"] (defScope sUn) := ⟨rfl, rfl, rfl, by decide +kernel, rfl, by decide +kernel, by decide +kernel⟩
abbrev sAt : Stmt := top 24
theorem scAt : FnScope ["packed", "place", "m"] ["packed", "place", "m"] (defScope sAt) := ⟨rfl, rfl, rfl, by decide +kernel, rfl, by decide +kernel, by decide +kernel⟩
theorem ok_at (F : Fun K "number_at" "number_at" sAt f fd) (gB : mg "BITS" = some (.int 24 tb)) (gF : mg "FIELD" = some (.int 16777215 tf)) : FnOk P w K mg base CX0 1 f fd ["packed", "place", "m"] spAt := by
  refine F.ok scAt (fun vs H Q E h => ?_) (fun cdv A outer s H vs Q E hr h => ?_)
  · obtain ⟨l, j, m, rfl, _⟩ := h
    rfl
  · obtain ⟨l, j, m, rfl, hl, m0, q⟩ := h
    refine ⟨_, pss_one (ps_ret (pe_op op_mod (pe_op op_andM (pe_op op_shrN (pv 0) (pe_op op_mul (pe_glob (v := .int 24) rfl gB ⟨_, rfl⟩) (pv 1))) (pe_glob (v := .int 16777215) rfl gF ⟨_, rfl⟩)) (pv 2))), ?_⟩
    refine ⟨_, rfl, _, rfl, _, _, rfl, rfl, .inl ⟨by decide, by decide⟩, _, 24 * j, rfl, rfl, _, 24, rfl, rfl, _, rfl, _, _, rfl, rfl, m0, ?_⟩
    rw [Lat.P_at j hl]
    exact q
theorem ok_pack (F : Fun K "pack" "pack" sPack f fd) (B : Blt mg) (gG : mg "FIGURES" = some (.ref FG)) (tG : tupS K (.ref FG) = some FIGS) : FnOk P w K mg base CX0 1 f fd ["row", "m"] (spPack K) := by
  refine F.ok scPack (fun vs H Q E h => ?_) (fun cdv A outer s H vs Q E hr h => ?_)
  · obtain ⟨a, ds, m, rfl, _⟩ := h
    rfl
  · obtain ⟨a, ds, m, rfl, sq, few, m0, m27, q⟩ := h
    refine ⟨_, Evl.pss_cut (ps_if (pt_not (pt_truth (pv 0) (fun _ => rfl))) (pss_one (ps_ret pe_int)) pss_nil)
      (pss_one (ps_ret (pe_callTy call_int_hex (by rfl) B.int_ (by decide +kernel) (pa_cons (pe_join pe_str
        (pe_lc (own := [("number", 2)]) (g := gName 2) (tt := tYes) rfl scPack.nd (RT.pi_revA rfl B.rev_ (pv 0)) (blkOk_by (N := ["row", "m", "number"]) (sc := defScope sPack) (by decide +kernel)) (fun _ _ _ _ _ => pg_name (i := 2) scPack.nd rfl (Or.inl rfl)) (fun _ _ _ _ _ => pts_nil)
          (fun _ _ _ _ _ => pe_ix (r := rIxT K) ix_tup (pe_glob (v := .ref FG) rfl gG rfl) (pe_op op_mod (pv 2) (pv 1)) (fun _ _ => rfl)))) (pa_cons pe_int pa_nil))))), ?_⟩
    have red : ∀ d ∈ ds.map (· % m), 0 ≤ d ∧ d < 27 := fun d hd => by
      obtain ⟨x, _, rfl⟩ := List.mem_map.mp hd
      have := Int.emod_nonneg x (show m ≠ 0 by omega)
      have := Int.emod_lt_of_pos x m0
      exact ⟨by omega, by omega⟩
    have dl : (ds.map (· % m)).length = ds.length := List.length_map _
    generalize hdm : ds.map (· % m) = dm at red dl q ⊢
    have sql : ∀ {H' : Hp}, More H H' → Sq K H' a (ds.map V.int) := fun {H'} mm => sq.elim (fun h => .inl (h.ext mm)) (fun h => .inr (sqT_more mm h))
    refine ⟨fun σ' H' => σ' = [some (.ref a), some (.int m), none] ∧ H' = H ∧ dm ≠ [], ?_, ?_⟩
    · refine ⟨_, rfl, !(ds.map V.int).isEmpty, ?_, ?_⟩
      · rcases sq with h | h
        · exact .inl ⟨_, h, rfl⟩
        · exact .inr (.inl ⟨_, h, rfl⟩)
      · cases ds with
        | nil =>
          subst hdm
          exact iteT (q H fun _ _ e => e)
        | cons x r =>
          subst hdm
          exact iteF ⟨rfl, rfl, by simp⟩
    rintro σ1 H1 ⟨rfl, rfl, ne⟩
    obtain ⟨T, hT⟩ : ∃ T : Nat → List (List Nat), T = fun i => (dm.drop (dm.length - i)).reverse.map fun d => figL d.toNat := ⟨_, rfl⟩
    have T0 : T 0 = [] := by rw [hT]; show ((dm.drop (dm.length - 0)).reverse.map _) = _; rw [Nat.sub_zero, List.drop_length]; rfl
    have Ts : ∀ (i : Nat) (x : Int), i < ds.length → dm[dm.length - 1 - i]? = some x → T (i + 1) = T i ++ [figL x.toNat] := fun i x hi hx => by
      rw [hT]
      show ((dm.drop (dm.length - (i + 1))).reverse.map _) = _
      rw [drop_back (by omega) hx, List.reverse_cons, List.map_append]
      rfl
    have Tn : T ds.length = dm.reverse.map fun d => figL d.toNat := by rw [hT]; show ((dm.drop (dm.length - ds.length)).reverse.map _) = _; rw [dl, Nat.sub_self, List.drop_zero]
    have Tl : ∀ i, (T i).length ≤ ds.length := fun i => by
      rw [hT]
      show ((dm.drop (dm.length - i)).reverse.map _).length ≤ _
      rw [List.length_map, List.length_reverse, List.length_drop]
      omega
    have fl : figsOf dm = TL.joinL [] (T ds.length) := by
      rw [joinL_flat, Tn, List.map_reverse]
      rfl
    obtain ⟨hx1, hx2⟩ := figsOf_hex red
    have fll := figsOf_len dm
    have fne : figsOf dm ≠ [] := by
      intro z
      rw [z] at fll
      have : 0 < dm.length := List.length_pos_iff.mpr ne
      simp at fll
      omega
    have lens : ((T ds.length).map SX.S).length ≤ 100 ∧ (((T ds.length).map SX.S).map (·.length)).sum ≤ 600 := by
      refine ⟨by rw [List.length_map]; exact Nat.le_trans (Tl _) few, ?_⟩
      rw [SX.lens, Tn]
      have : ∀ l : List Int, ((l.map fun d => figL d.toNat).map (·.length)).sum = 6 * l.length := by
        intro l
        induction l with
        | nil => rfl
        | cons x r ih =>
          rw [List.map_cons, List.map_cons, List.sum_cons, ih, List.length_cons]
          show 6 + _ = _
          omega
      rw [this, List.length_reverse]
      omega
    have last : ∀ (D : Addr) (H' : Hp), H' D = some (.lst (((T ds.length).map SX.S).map V.str)) → More H1 H' → ∃ (a' : Str) (p : Addr) (ys : List Str), (V.str (Str.ofString "")) = V.str a' ∧ [V.ref D] = [V.ref p] ∧ (SqL K H' p (ys.map V.str) ∨ SqT K H' p (ys.map V.str)) ∧ (ys.map fun x => x.length).sum + ys.length * a'.length ≤ 16777216 ∧
        (fun v H2 => ∃ l : List Nat, [v, V.int 16] = [.str (SX.S l), .int 16] ∧ l ≠ [] ∧ l.length ≤ 640 ∧ (∀ c ∈ l, Hx.IsHex c) ∧ Q (.int ((Hx.hexNum l : Nat) : Int)) H2) (V.str (Txt.join a' ys)) H' := fun D H' kD mm => by
      refine ⟨_, D, (T ds.length).map SX.S, rfl, rfl, .inl (SqL.of kD), ?_, figsOf dm, ?_, fne, by omega, hx1, ?_⟩
      · have e : (Str.ofString "").length = 0 := rfl
        rw [e, Nat.mul_zero]
        omega
      · rw [show (Str.ofString "" : Str) = SX.S [] from rfl, SX.join_S, fl]
      · rw [hx2]
        exact q H' mm
    have at_ : ∀ (i : Nat) (x : V), (ds.map V.int)[(ds.map V.int).length - 1 - i]? = some x → ∃ n : Int, x = .int n ∧ dm[dm.length - 1 - i]? = some (n % m) ∧ 0 ≤ n % m ∧ n % m < 27 := fun i x h => by
      rw [List.length_map] at h
      obtain ⟨n, hn, rfl⟩ := map_at h
      have e : dm[dm.length - 1 - i]? = some (n % m) := by rw [dl, ← hdm, List.getElem?_map, hn]; rfl
      exact ⟨n, rfl, e, red _ (List.mem_of_getElem? e)⟩
    rcases sq with h | h
    · refine ⟨⟨_, rfl⟩, _, rfl, a, _, rfl, .inl ⟨h, fun D hD => lc_it (walk_rev (K := K) (a := a) (xs := ds.map V.int)) (fun i H' => H' D = some (.lst (((T i).map SX.S).map V.str)) ∧ More H1 H') ⟨by rw [T0]; exact upd_same, new_more hD⟩ (fun i H' _ ⟨_, mm⟩ => h.ext mm) ?_ ?_⟩⟩
      · rintro i x G G' hi ⟨kD, mm⟩ ⟨rfl, hx⟩
        rw [List.length_map] at hi
        obtain ⟨n, rfl, en, n0, n1⟩ := at_ i x hx
        refine ⟨rfl, _, rfl, _, rfl, _, _, rfl, rfl, m0, FG, _, ((n % m).toNat : Nat), _, rfl, by rw [Int.toNat_of_nonneg n0], tupS_in tG (by decide) _, atI_nat (figs_at (by omega)), _, kD, ?_, ?_, More.at mm hD⟩
        · rw [List.length_map, List.length_map]
          exact small1000 (Nat.le_trans (Tl i) (by omega))
        · rw [upd_same, Ts i _ hi en, List.map_append, List.map_append]
          rfl
      · rintro G ⟨kD, mm⟩
        rw [List.length_map] at kD
        exact last D G kD mm
    · refine ⟨⟨_, rfl⟩, _, rfl, a, _, rfl, .inr ⟨h, fun D hD => lc_it (walk_revT (K := K) (a := a) (xs := ds.map V.int)) (fun i H' => H' D = some (.lst (((T i).map SX.S).map V.str)) ∧ More H1 H') ⟨by rw [T0]; exact upd_same, new_more hD⟩ (fun i H' _ ⟨_, mm⟩ => sqT_more mm h) ?_ ?_⟩⟩
      · rintro i x G G' hi ⟨kD, mm⟩ ⟨rfl, hx⟩
        rw [List.length_map] at hi
        obtain ⟨n, rfl, en, n0, n1⟩ := at_ i x hx
        refine ⟨rfl, _, rfl, _, rfl, _, _, rfl, rfl, m0, FG, _, ((n % m).toNat : Nat), _, rfl, by rw [Int.toNat_of_nonneg n0], tupS_in tG (by decide) _, atI_nat (figs_at (by omega)), _, kD, ?_, ?_, More.at mm hD⟩
        · rw [List.length_map, List.length_map]
          exact small1000 (Nat.le_trans (Tl i) (by omega))
        · rw [upd_same, Ts i _ hi en, List.map_append, List.map_append]
          rfl
      · rintro G ⟨kD, mm⟩
        rw [List.length_map] at kD
        exact last D G kD mm
theorem ok_un (F : Fun K "unpack" "unpack" sUn f fd) (B : Blt mg) (gB : mg "BITS" = some (.int 24 tb)) (gF : mg "FIELD" = some (.int 16777215 tf)) (gP : mg "PIECE" = some (.int 768 tk2)) (gM : mg "PIECE_MASK" = some (.int (2 ^ 768 - 1) tm)) : FnOk P w K mg base CX0 1 f fd ["packed", "width", "m"] spUn := by
  refine F.ok scUn (fun vs H Q E h => ?_) (fun cdv A outer s H vs Q E hr h => ?_)
  · obtain ⟨l, n, m, rfl, _⟩ := h
    rfl
  · obtain ⟨l, n, m, rfl, hl, m0, few, q⟩ := h
    refine ⟨_, Evl.pss_cut (ps_setLc (i := 3) (own := [("at", 5)]) (g := gName 5) (tt := tYes) rfl scUn.nd rfl rfl (sw_true rfl rfl rfl (by decide +kernel)) (pi_range3 rfl B.range_ (pa_cons pe_int (pa_cons (pe_op op_mul (pe_glob (v := .int 24) rfl gB ⟨_, rfl⟩) (pv 1)) (pa_cons (pe_glob (v := .int 768) rfl gP ⟨_, rfl⟩) pa_nil))))
          (blkOk_by (N := ["packed", "width", "m", "pieces", "numbers", "at", "piece"]) (sc := defScope sUn) (by decide +kernel)) (fun _ _ _ _ _ => pg_name (i := 5) scUn.nd rfl (Or.inl rfl)) (fun _ _ _ _ _ => pts_nil)
          (fun _ _ _ _ _ => pe_op op_andM (pe_op op_shrN (pv 0) (pv 5)) (pe_glob (v := .int (2 ^ 768 - 1)) rfl gM ⟨_, rfl⟩)))
      (Evl.pss_cut (ps_setLc2 (i := 4) (own := [("piece", 6), ("at", 5)]) (vs1 := [5]) (g := gName 6) (g1 := gName 5) (tt := tYes) (tt1 := tYes) rfl scUn.nd rfl rfl (sw_true rfl rfl rfl (by decide +kernel)) (pi_list (pv 3))
          (blkOk_by (N := ["packed", "width", "m", "pieces", "numbers", "at", "piece"]) (sc := defScope sUn) (by decide +kernel)) (by decide) (fun _ _ _ _ _ => pg_name (i := 6) scUn.nd rfl (Or.inl rfl)) (fun _ _ _ _ _ => pts_nil)
          (fun _ _ _ _ _ => pi_range3 rfl B.range_ (pa_cons pe_int (pa_cons (pe_glob (v := .int 768) rfl gP ⟨_, rfl⟩) (pa_cons (pe_glob (v := .int 24) rfl gB ⟨_, rfl⟩) pa_nil))))
          (fun _ _ _ _ _ => pg_name (i := 5) scUn.nd rfl (Or.inl rfl)) (fun _ _ _ _ _ => pts_nil)
          (fun _ _ _ _ _ => pe_op op_mod (pe_op op_andM (pe_op op_shrN (pv 6) (pv 5)) (pe_glob (v := .int 16777215) rfl gF ⟨_, rfl⟩)) (pv 2)))
      (pss_one (ps_ret (pe_callTy call_tuple_of (by rfl) B.tup_ (by decide +kernel) (pa_cons (pe_slice sl_list (pv 4) po_none (po_some (pv 1))) pa_nil))))), ?_⟩
    obtain ⟨nP, hnP⟩ : ∃ nP, nP = (n + 31) / 32 := ⟨_, rfl⟩
    have hn : n ≤ 32 * nP := by omega
    have fP : nP ≤ 32 := by omega
    have rgP := rg_pieces n few
    rw [← hnP] at rgP
    -- the pieces
    refine ⟨fun σ' H' => ∃ Pc, σ' = [some (.int (Lat.P l)), some (.int n), some (.int m), some (.ref Pc), none, none, none] ∧ More H H' ∧ H' Pc = some (.lst ((List.range nP).map fun i => V.int (Lat.P (Lat.piece l i)))), ?_, ?_⟩
    · refine ⟨_, rfl, _, _, rfl, rfl, .inl ⟨by decide, by decide⟩, 0, 24 * (n : Int), 768, nP, rfl, rgP, fun D hD => ?_⟩
      refine lc_it (walk_rangeC (lo := 0) (c := 768) (n := nP)) (fun i H' => H' D = some (.lst ((List.range i).map fun i => V.int (Lat.P (Lat.piece l i)))) ∧ More H H') ⟨upd_same, new_more hD⟩ (fun _ _ _ _ => trivial) ?_ ?_
      · rintro i x G G' hi ⟨kD, mm⟩ ⟨rfl, rfl⟩
        refine ⟨rfl, _, rfl, _, rfl, _, 768 * i, rfl, by show V.int (0 + (i : Int) * 768) = _; rw [Int.zero_add, Int.natCast_mul, Int.mul_comm]; rfl, _, 768, rfl, rfl, ?_⟩
        rw [Lat.piece_at hl i]
        refine ⟨_, kD, by rw [List.length_map, List.length_range]; exact small1000 (by omega), ?_, More.at mm hD⟩
        rw [upd_same, List.range_succ, List.map_append]
        rfl
      · rintro G ⟨kD, mm⟩
        exact ⟨D, rfl, mm, kD⟩
    rintro σ1 H1 ⟨Pc, rfl, m1, kPc⟩
    -- the numbers
    refine ⟨fun σ' H' => ∃ Nb, σ' = [some (.int (Lat.P l)), some (.int n), some (.int m), some (.ref Pc), some (.ref Nb), none, none] ∧ More H H' ∧ H' Nb = some (.lst ((List.range (32 * nP)).map fun j => V.int (l.getD j 0 % m))), ?_, ?_⟩
    · have ln : ((List.range nP).map fun i => V.int (Lat.P (Lat.piece l i))).length = nP := by rw [List.length_map, List.length_range]
      refine ⟨_, rfl, Pc, rfl, ⟨_, SqL.of kPc⟩, fun D hD => ?_⟩
      refine lc2_it (walk_list (K := K) (a := Pc) (xs := (List.range nP).map fun i => V.int (Lat.P (Lat.piece l i)))) (fun i H' => H' D = some (.lst ((List.range (32 * i)).map fun j => V.int (l.getD j 0 % m))) ∧ More H1 H') ⟨upd_same, new_more hD⟩ (fun i H' _ ⟨_, mm⟩ => SqL.of (mm _ _ kPc)) ?_ ?_
      · rintro i x G G' hi ⟨kD, mm⟩ ⟨rfl, hx⟩
        rw [ln] at hi
        rw [List.getElem?_map, List.getElem?_range hi] at hx
        obtain rfl := Option.some.inj hx
        refine ⟨rfl, 0, 768, 24, 32, rfl, rg_fields, ?_⟩
        refine in2_it (walk_rangeC (lo := 0) (c := 24) (n := 32)) (fun j H' => H' D = some (.lst ((List.range (32 * i + j)).map fun j => V.int (l.getD j 0 % m))) ∧ More H1 H') ⟨kD, mm⟩ (fun _ _ _ _ => trivial) ?_ ?_
        · rintro j y G2 G2' hj ⟨kD, mm⟩ ⟨rfl, rfl⟩
          refine ⟨rfl, _, rfl, _, rfl, _, 24 * j, rfl, by show V.int (0 + (j : Int) * 24) = _; rw [Int.zero_add, Int.natCast_mul, Int.mul_comm]; rfl, _, 24, rfl, rfl, _, rfl, _, _, rfl, rfl, m0, ?_⟩
          rw [Lat.P_at j (Lat.piece_mem hl i), Lat.piece_get l i hj]
          refine ⟨_, kD, by rw [List.length_map, List.length_range]; exact Nat.lt_of_lt_of_le (show 32 * i + j < 2000 by omega) (by decide), ?_, More.at mm hD⟩
          rw [upd_same, ← Nat.add_assoc, List.range_succ, List.map_append]
          rfl
        · rintro G2 ⟨kD, mm⟩
          exact ⟨by rw [Nat.mul_succ]; exact kD, mm⟩
      · rintro G ⟨kD, mm⟩
        rw [ln] at kD
        exact ⟨D, rfl, fun b o e => mm _ _ (m1 _ _ e), kD⟩
    rintro σ2 H2 ⟨Nb, rfl, m2, kNb⟩
    refine ⟨_, rfl, _, rfl, _, rfl, Nb, _, rfl, SqL.of kNb, fun S hS => ?_⟩
    rw [cut_to (by rw [List.length_map, List.length_range]; exact hn), ← List.map_take, List.take_range, Nat.min_eq_left hn]
    have mS := new_more (o := .lst ((List.range n).map fun j => V.int (l.getD j 0 % m))) hS
    refine ⟨S, _, rfl, .inl ⟨SqL.of upd_same, fun t ht => ?_⟩⟩
    have mt := new_more (o := .tup ((List.range n).map fun j => V.int (l.getD j 0 % m))) ht
    refine q _ t (fun b o e => mt _ _ (mS _ _ (m2 _ _ e))) ?_ ?_
    · cases z : H t with
      | none => rfl
      | some o =>
        rw [mS t o (m2 t o z)] at ht
        cases ht
    · rw [upd_same, List.map_map]
      rfl
end
end K02

/-! hd: headed -/
namespace K02
open PySem L2 Gd B5
abbrev sHd : Stmt := top 29
section
variable {P : Program} {w : World} {K : PySem.W.Frag} {mg : Str → Option Value} {base : Heap} {f fA fU fP FG : Addr} {fd fdA fdU fdP : FuncData} {tb tf tk2 tm : Tok}
theorem scHd : FnScope ["packed", "width", "m", "here", "entry", "units", "unit", "number"] ["packed", "width", "m"] (defScope sHd) := ⟨rfl, rfl, rfl, by decide +kernel, rfl, by decide +kernel, by decide +kernel⟩
theorem ok_hd (F : Fun K "headed" "headed" sHd f fd) (B : Blt mg) (A : Cl K mg "number_at" sAt ["packed", "place", "m"] fA fdA) (U : Cl K mg "unpack" sUn ["packed", "width", "m"] fU fdU) (Pk : Cl K mg "pack" sPack ["row", "m"] fP fdP)
    (gB : mg "BITS" = some (.int 24 tb)) (gF : mg "FIELD" = some (.int 16777215 tf)) (gP : mg "PIECE" = some (.int 768 tk2)) (gM : mg "PIECE_MASK" = some (.int (2 ^ 768 - 1) tm)) (gG : mg "FIGURES" = some (.ref FG)) (tG : tupS K (.ref FG) = some FIGS) (gC : mg "gcd" = some (.builtin "math.gcd")) :
    FnOk P w K mg base CX0 2 f fd ["packed", "width", "m"] spHd := by
  have GA : FnOk P w K mg base CX0 1 fA fdA ["packed", "place", "m"] spAt := ok_at A.fn gB gF
  have GU : FnOk P w K mg base CX0 1 fU fdU ["packed", "width", "m"] spUn := ok_un U.fn B gB gF gP gM
  have GP : FnOk P w K mg base CX0 1 fP fdP ["row", "m"] (spPack K) := ok_pack Pk.fn B gG tG
  refine F.ok scHd (fun vs H Q E h => ?_) (fun cdv A' outer s H vs Q E hr h => ?_)
  · obtain ⟨l, n, m, rfl, _⟩ := h
    rfl
  · obtain ⟨l, n, m, rfl, hl, m0, m27, few, ⟨u0, u1, u2, u3⟩, q⟩ := h
    refine ⟨_, pss_cons (ps_set (i := 3) scHd.nd rfl (Or.inr rfl) (pe_call GA hr rfl A.g A.k A.b .nil pass0 (pa_cons (pv 0) (pa_cons pe_int (pa_cons (pv 2) pa_nil)))))
      (pss_cons (ps_set (i := 4) scHd.nd rfl (Or.inr rfl) (pe_callBfun cr_gcd rfl gC (pa_cons (pv 3) (pa_cons (pv 2) pa_nil))))
      (pss_cons (ps_set (i := 5) scHd.nd rfl (Or.inr rfl) (pe_lc (own := [("unit", 6)]) (g := gName 6) rfl scHd.nd (pi_range2 rfl B.range_ (pa_cons pe_int (pa_cons (pv 2) pa_nil)))
        (blkOk_by (N := ["packed", "width", "m", "here", "entry", "units", "unit", "number"]) (sc := defScope sHd) (by decide +kernel))
        (fun _ _ _ _ _ => pg_name (i := 6) scHd.nd rfl (Or.inl rfl)) (fun _ _ _ _ _ => pts_one (pt_cmpR (r := rEq) op_eq (pe_op (r := rI (fun _ j => 0 < j) fun i j => .int (i % j)) op_mod (pe_op op_mul (pv 6) (pv 3)) (pv 2)) (pv 4) (nomark _))) (fun _ _ _ _ _ => pv 6)))
      (pss_one (ps_ret (pe_call GP hr rfl Pk.g Pk.k Pk.b .nil pass0 (pa_cons (pe_lc (own := [("number", 7)]) (g := gName 7) (tt := tYes) rfl scHd.nd (pi_tup (pe_call GU hr rfl U.g U.k U.b .nil pass0 (pa_cons (pv 0) (pa_cons (pv 1) (pa_cons (pv 2) pa_nil)))))
        (blkOk_by (N := ["packed", "width", "m", "here", "entry", "units", "unit", "number"]) (sc := defScope sHd) (by decide +kernel))
        (fun _ _ _ _ _ => pg_name (i := 7) scHd.nd rfl (Or.inl rfl)) (fun _ _ _ _ _ => pts_nil) (fun _ _ _ _ _ => pe_op op_mul (pe_ix (r := rIxL K) ix_list (pv 5) pe_int (fun _ _ => rfl)) (pv 7))) (pa_cons (pv 2) pa_nil))))))), ?_⟩
    have x0 := Int.emod_nonneg (l.getD 0 0) (show m ≠ 0 by omega)
    have x1 := Int.emod_lt_of_pos (l.getD 0 0) m0
    refine ⟨_, rfl, _, rfl, l, 0, m, rfl, hl, m0, ?_⟩
    refine ⟨_, rfl, _, rfl, l.getD 0 0 % m, m, rfl, ?_⟩
    generalize hx : l.getD 0 0 % m = x at *
    generalize he : ((Nat.gcd x.natAbs m.natAbs : Nat) : Int) = e at *
    refine ⟨_, rfl, 1, m, rfl, ⟨by decide, by decide, by omega, by omega⟩, fun D hD => lc_range (lo := 1) (n := (m - 1).toNat) (fun i H2 => H2 D = some (.lst ((unitsM m x e i).map V.int)) ∧ More H H2) ⟨upd_same, ?_⟩ ?_ ?_⟩
    · intro b o eb
      rw [upd_ne (ne_of_none eb hD)]
      exact eb
    · rintro i H2 hi ⟨eD, sm⟩
      have step := unitsM_succ m x e i
      refine ⟨rfl, _, rfl, _, rfl, _, _, rfl, rfl, .inl ⟨by omega, by omega⟩, _, rfl, _, _, rfl, rfl, m0, _, rfl, rfl, _, rfl, ?_⟩
      by_cases h : (1 + (i : Int)) * x % m = e
      · rw [show decide (V.int ((1 + (i : Int)) * x % m) = V.int e) = true from decide_eq_true (by rw [h])]
        refine iteT ⟨_, rfl, _, eD, ?_, ?_, ?_⟩
        · have := unitsM_len m x e i
          rw [List.length_map]
          exact small1000 (by omega)
        · rw [upd_same, step, if_pos h, List.map_append]
          rfl
        · intro b o eb
          rw [upd_ne (ne_of_none eb hD)]
          exact sm b o eb
      · rw [show decide (V.int ((1 + (i : Int)) * x % m) = V.int e) = false from decide_eq_false (fun z => h (V.int.inj z))]
        refine iteF ⟨?_, sm⟩
        rw [eD, step, if_neg h, List.append_nil]
    · rintro H2 ⟨eD, sm⟩
      -- the first unit
      obtain ⟨v, rest, ev⟩ : ∃ v rest, unitsM m x e (m - 1).toNat = v :: rest := by
        cases z : unitsM m x e (m - 1).toNat with
        | cons v rest => exact ⟨v, rest, rfl⟩
        | nil =>
          exfalso
          have mem : u0 ∈ unitsM m x e (m - 1).toNat := by
            unfold unitsM
            rw [List.mem_filter]
            refine ⟨List.mem_map.mpr ⟨(u0 - 1).toNat, List.mem_range.mpr (by omega), by omega⟩, decide_eq_true u3⟩
          rw [z] at mem
          cases mem
      have hv : v ∈ unitsM m x e (m - 1).toNat := by rw [ev]; exact .head _
      unfold unitsM at hv
      rw [List.mem_filter] at hv
      obtain ⟨hv1, hv2⟩ := hv
      obtain ⟨i, hi, iv⟩ := List.mem_map.mp hv1
      have hi := List.mem_range.mp hi
      have v0 : 0 < v := by omega
      have v1 : v < m := by omega
      have v2 : v * x % m = e := of_decide_eq_true hv2
      refine ⟨_, rfl, _, rfl, _, rfl, l, n, m, rfl, hl, m0, by omega, fun H3 t s3 nt et => ?_⟩
      have eD3 := s3 _ _ eD
      refine ⟨t, rfl, ⟨_, SqT.of et⟩, fun D2 hD2 => lc_tup (K := K) (a := t) (xs := ((List.range n).map fun j => l.getD j 0 % m).map V.int) (fun i H4 => H4 D2 = some (.lst ((((List.range n).map fun j => v * (l.getD j 0 % m)).take i).map V.int)) ∧ More H3 H4) ⟨?_, ?_⟩ (fun i H4 _ h => SqT.of (h.2 _ _ et)) ?_ ?_⟩
      · rw [upd_same, List.take_zero]
        rfl
      · intro b o eb
        rw [upd_ne (ne_of_none eb hD2)]
        exact eb
      · rintro i y H4 hy ⟨e4, s4⟩
        rw [List.getElem?_map, List.getElem?_map] at hy
        cases z : (List.range n)[i]? with
        | none =>
          rw [z] at hy
          cases hy
        | some k =>
          rw [z] at hy
          have ey : V.int (l.getD k 0 % m) = y := Option.some.inj hy
          subst ey
          refine ⟨rfl, _, rfl, D, _, 0, V.int v, rfl, rfl, SqL.of (s4 _ _ eD3), at_of (j := 0) rfl (by rw [ev]; rfl), _, rfl, _, _, rfl, rfl, .inl ⟨by omega, by omega⟩, ?_⟩
          have zz : ((List.range n).map fun j => v * (l.getD j 0 % m))[i]? = some (v * (l.getD k 0 % m)) := by rw [List.getElem?_map, z]; rfl
          refine ⟨_, e4, ?_, ?_, ?_⟩
          · rw [List.length_map, List.length_take, List.length_map, List.length_range]
            exact small1000 (by omega)
          · rw [upd_same, List.take_succ, zz, List.map_append]
            rfl
          · intro b o eb
            rw [upd_ne (ne_of_none eb hD2)]
            exact s4 b o eb
      · rintro H4 ⟨e4, s4⟩
        rw [List.length_map, List.length_map, List.length_range, List.take_of_length_le (by rw [List.length_map, List.length_range]; exact Nat.le_refl _)] at e4
        refine ⟨_, rfl, D2, _, m, rfl, .inl (SqL.of e4), by rw [List.length_map, List.length_range]; exact few, m0, m27, fun H5 m5 => q H5 v (fun b o eb => m5 _ _ (s4 b o (s3 b o (sm b o eb)))) v0 v1 v2⟩
end
end K02

/-! pu: put_row -/
namespace K02
open PySem L2 Gd B5
abbrev sPut : Stmt := top 28
abbrev NPut : List Str := ["pivots", "packed", "width", "m", "grown", "place", "here", "pivot", "entry"]
section
variable {P : Program} {w : World} {K : PySem.W.Frag} {mg : Str → Option Value} {base : Heap} {f fH : Addr} {fd fdH : FuncData} {tb tf : Tok}
theorem scPut : FnScope NPut ["pivots", "packed", "width", "m"] (defScope sPut) := ⟨rfl, rfl, rfl, by decide +kernel, rfl, by decide +kernel, by decide +kernel⟩
theorem ok_put (F : Fun K "put_row" "put_row" sPut f fd) (B : Blt mg) (gB : mg "BITS" = some (.int 24 tb)) (gF : mg "FIELD" = some (.int 16777215 tf)) (Hd : Cl K mg "headed" sHd ["packed", "width", "m"] fH fdH) (GH : FnOk P w K mg base CX0 2 fH fdH ["packed", "width", "m"] spHd) :
    FnOk P w K mg base CX0 3 f fd ["pivots", "packed", "width", "m"] spPut := by
  refine F.ok scPut (fun vs H Q E h => ?_) (fun cdv A outer s H vs Q E hr h => ?_)
  · obtain ⟨d, l, n, m, ks, row, rfl, _⟩ := h
    rfl
  · obtain ⟨d, l, n, m, ks, row, rfl, hm, n8, ll, lb, pv0, hd, good, q⟩ := h
    have hu := hu_of hr
    refine ⟨_, pss_cons (ps_set (i := 4) scPut.nd rfl (Or.inl rfl) pe_bl)
      (Evl.pss_cut (ps_for PassesOwn.never rfl (pi_range1 rfl B.range_ (pa_cons (pv 2) pa_nil)) (pg_name (i := 5) scPut.nd rfl (Or.inl rfl))
        (pss_cons (ps_if (pt_cmpR op_eq (pv 1) pe_int (nomark _)) (pss_one ps_break) pss_nil)
        (pss_cons (ps_set (i := 6) scPut.nd rfl (Or.inl rfl) (pe_op op_mod (pe_op op_andM (pv 1) (pe_glob (v := .int 16777215) rfl gF ⟨_, rfl⟩)) (pv 3)))
        (Evl.pss_cut (ps_if (pt_cmpR op_ne (pv 6) pe_int (nomark _))
          (pss_cons (ps_set (i := 7) scPut.nd rfl (Or.inl rfl) (pe_dget2 hu (pv 0) (pv 5) pe_int ⟨rfl, rfl, rfl, rfl⟩))
          (pss_cons (ps_set (i := 8) scPut.nd rfl (Or.inl rfl) (pe_orT (pe_op op_andM (pv 7) (pe_glob (v := .int 16777215) rfl gF ⟨_, rfl⟩)) (pe_one (pv 3))))
          (pss_cons (ps_if (pt_cmpR op_ne (pe_op op_mod (pv 6) (pv 8)) pe_int (nomark _))
              (pss_cons (ps_set (i := 4) scPut.nd rfl (Or.inl rfl) pe_bl)
              (pss_cons (ps_dput hu (pv 0) (pv 5) (pe_call GH hr rfl Hd.g Hd.k Hd.b .nil pass0 (pa_cons (pv 1) (pa_cons (pe_op op_sub (pv 2) (pv 5)) (pa_cons (pv 3) pa_nil)))) rfl)
              (pss_cons (ps_par (i := 1) (j := 6) rfl scPut.nd rfl rfl (by decide) rfl rfl (pa_cons (pv 7) (pa_cons (pv 8) pa_nil)) (by rfl))
              (pss_cons (ps_set (i := 7) scPut.nd rfl (Or.inl rfl) (pe_dget hu (pv 0) (pv 5) (fun _ _ => rfl)))
              (pss_one (ps_set (i := 8) scPut.nd rfl (Or.inl rfl) (pe_op op_andM (pv 7) (pe_glob (v := .int 16777215) rfl gF ⟨_, rfl⟩))))))))
              pss_nil)
          (pss_one (ps_set (i := 1) scPut.nd rfl (Or.inl rfl) (pe_op op_add (pv 1) (pe_op op_mul (pe_op op_sub (pv 3) (pe_op op_fdiv (pv 6) (pv 8))) (pv 7)))))))) pss_nil)
        (pss_one (ps_set (i := 1) scPut.nd rfl (Or.inl rfl) (pe_op op_shrN (pv 1) (pe_glob (v := .int 24) rfl gB ⟨_, rfl⟩))))))))
      (pss_one (ps_ret (pv 4)))), ?_⟩
    have mm : ∀ m ∈ Lat.tens, 1 ≤ m ∧ m ≤ 27 := by decide
    obtain ⟨m2, m27⟩ := mm m hm
    have small : ∀ {i : Nat} {l : List Int}, i ≤ n → (∀ a ∈ l, 0 ≤ a ∧ a < 28 + 729 * (i : Int)) → ∀ a ∈ l, 0 ≤ a ∧ a < 2 ^ 24 := fun {i l} hi h a ha => by
      have := h a ha
      exact ⟨this.1, by omega⟩
    have gD : ∀ (l : List Int) (i t : Nat), (l.drop i).getD t 0 = l.getD (i + t) 0 := fun l i t => by rw [List.getD_eq_getElem?_getD, List.getD_eq_getElem?_getD, List.getElem?_drop]
    have last : ∀ (gr : Bool) (ks' : List Nat) (row' : Nat → List Int) (l' : List Int) (H2 : Hp), H2 d = some (.dK (kvsOf ks' row')) → (∀ b o, H b = some o → b ≠ d → H2 b = some o) → Piv n m ks' row' →
        Lat.Put n m (hOf m ks' row') (vec l') n (Lat.Gen n m (Lat.With (Lat.All n (hOf m ks row)) (vec l))) → (gr = false → ks' = ks ∧ row' = row) → Q (.bl gr) H2 := fun gr ks' row' l' H2 hd2 off pv pt fr => by
      obtain ⟨g, same⟩ := pt.done
      exact q gr ks' row' pv g same fr H2 hd2 off
    refine ⟨fun σ' H' => ∃ (gr : Bool) (z1 z5 z6 z7 z8 : Option V), σ' = [some (.ref d), z1, some (.int n), some (.int m), some (.bl gr), z5, z6, z7, z8] ∧ Q (.bl gr) H', ?_, ?_⟩
    · refine ⟨_, rfl, n, rfl, by omega, by omega, for_range (lo := 0) (n := (n : Int).toNat) (fun i σ H2 => ∃ (gr : Bool) (ks' : List Nat) (row' : Nat → List Int) (l' : List Int) (z5 z6 z7 z8 : Option V),
          σ = [some (.ref d), some (.int (Lat.P (l'.drop i))), some (.int n), some (.int m), some (.bl gr), z5, z6, z7, z8] ∧ H2 d = some (.dK (kvsOf ks' row')) ∧ (∀ b o, H b = some o → b ≠ d → H2 b = some o) ∧ Piv n m ks' row' ∧
          Lat.Put n m (hOf m ks' row') (vec l') i (Lat.Gen n m (Lat.With (Lat.All n (hOf m ks row)) (vec l))) ∧ l'.length = n ∧ (∀ a ∈ l', 0 ≤ a ∧ a < 28 + 729 * (i : Int)) ∧ (gr = false → ks' = ks ∧ row' = row))
        ⟨false, ks, row, l, none, none, none, none, rfl, hd, fun _ _ e _ => e, pv0, good.puts _, ll, fun a ha => by have := lb a ha; omega, fun _ => ⟨rfl, rfl⟩⟩ ?_ ?_⟩
      · rintro i σ H2 hi ⟨gr, ks', row', l', z5, z6, z7, z8, rfl, hd2, off, pv, pt, le, lt, fr⟩
        have hi : i < n := by omega
        have lS := small (Nat.le_of_lt hi) lt
        refine ⟨_, rfl, rfl, _, rfl, ite2 (fun z => ?_) (fun z => ?_)⟩
        · -- nothing left
          have z : Lat.P (l'.drop i) = 0 := V.int.inj (of_decide_eq_true z)
          have zz := Lat.P_zero (fun a ha => (lS a (List.mem_of_mem_drop ha)).1) z
          exact ⟨gr, _, _, _, _, _, rfl, last gr ks' row' l' H2 hd2 off pv (pt.skips (fun t h1 h2 => by
            have : l'.getD t 0 = 0 := by
              have e : l'[t]? = some l'[t] := List.getElem?_eq_getElem (by omega)
              rw [List.getD_eq_getElem?_getD, e]
              refine zz _ (List.mem_of_getElem? (i := t - i) ?_)
              rw [List.getElem?_drop, show i + (t - i) = t by omega]
              exact e
            show (m : Int) ∣ l'.getD t 0
            rw [this]
            exact Int.dvd_zero _) n (Nat.le_of_lt hi) (Nat.le_refl _)) fr⟩
        refine ⟨_, rfl, _, 24, rfl, rfl, _, rfl, _, _, rfl, rfl, by omega, ?_⟩
        rw [Lat.P_low lS i]
        show gName 6 (V.int (l'.getD i 0 % (m : Int))) _ _ _
        have x0 := Int.emod_nonneg (l'.getD i 0) (show (m : Int) ≠ 0 by omega)
        have x1 := Int.emod_lt_of_pos (l'.getD i 0) (show (0 : Int) < m by omega)
        generalize hx : l'.getD i 0 % (m : Int) = x at *
        have grow : ∀ {l : List Int}, (∀ a ∈ l, 0 ≤ a ∧ a < 28 + 729 * (i : Int)) → ∀ a ∈ l, 0 ≤ a ∧ a < 28 + 729 * ((i + 1 : Nat) : Int) := fun {l} h a ha => by
          have := h a ha
          exact ⟨this.1, by omega⟩
        refine ⟨fun σ H3 => ∃ (gr : Bool) (ks' : List Nat) (row' : Nat → List Int) (l' : List Int) (z5 z6 z7 z8 : Option V),
          σ = [some (.ref d), some (.int (Lat.P (l'.drop i))), some (.int n), some (.int m), some (.bl gr), z5, z6, z7, z8] ∧ H3 d = some (.dK (kvsOf ks' row')) ∧ (∀ b o, H b = some o → b ≠ d → H3 b = some o) ∧ Piv n m ks' row' ∧
          Lat.Put n m (hOf m ks' row') (vec l') (i + 1) (Lat.Gen n m (Lat.With (Lat.All n (hOf m ks row)) (vec l))) ∧ l'.length = n ∧ (∀ a ∈ l', 0 ≤ a ∧ a < 28 + 729 * ((i + 1 : Nat) : Int)) ∧ (gr = false → ks' = ks ∧ row' = row), ?_, ?_⟩
        · refine ⟨_, rfl, rfl, _, rfl, ite2 (fun z => ?_) (fun z => ?_)⟩
          rotate_left
          · have z : x = 0 := by
              refine Decidable.byContradiction fun xn => z ?_
              rw [decide_eq_false (fun e => xn (V.int.inj e))]
              rfl
            exact ⟨gr, ks', row', l', _, _, _, _, rfl, hd2, off, pv, pt.skip (fun _ => Int.dvd_of_emod_eq_zero (by show l'.getD i 0 % (m : Int) = 0; omega)), le, grow lt, fr⟩
          have xn : x ≠ 0 := fun e => by
            rw [e, decide_eq_true rfl] at z
            cases z
          -- the row that stands there
          obtain ⟨pr, e0, hpr, prl, prb, hdv, he0, ep, ed, heq⟩ : ∃ (pr : List Int) (e0 : Int), ((valV (kvsOf ks' row') (Sum.inl (i : Int))).getD (.int 0) = V.int (Lat.P (pr.drop i))) ∧ pr.length = n ∧ (∀ a ∈ pr, 0 ≤ a ∧ a < (m : Int)) ∧ (∀ t, (m : Int) ∣ hOf m ks' row' i t - pr.getD t 0) ∧
              hOf m ks' row' i i = e0 ∧ 0 < e0 ∧ e0 ∣ (m : Int) ∧ ((pr.getD i 0 ≠ 0 ∧ e0 = pr.getD i 0 ∧ (∀ t, hOf m ks' row' i t = pr.getD t 0)) ∨ (pr.getD i 0 = 0 ∧ e0 = m ∧ ∀ t, pr.getD t 0 = 0)) := by
            rw [kvs_val]
            have pos := pt.pos i hi
            have dvd := pt.dvd i hi
            by_cases q : i ∈ ks'
            · have hh : hOf m ks' row' i = vec (row' i) := if_pos q
              rw [hh] at pos dvd
              have pos : 0 < (row' i).getD i 0 := pos
              rw [if_pos q]
              exact ⟨row' i, (row' i).getD i 0, rfl, pv.len i q, pv.rest i q, fun t => by rw [hh]; exact ⟨0, by rw [Int.mul_zero]; exact Int.sub_self _⟩, by rw [hh]; rfl, pos, dvd, .inl ⟨by omega, rfl, fun t => by rw [hh]; rfl⟩⟩
            · have hh : hOf m ks' row' i = Lat.none_ m i := if_neg q
              have zz : ∀ t, (List.replicate n (0 : Int)).getD t 0 = 0 := fun t => by
                by_cases ht : t < n
                · simp [List.getD, ht]
                · simp [List.getD, ht]
              rw [if_neg q]
              refine ⟨List.replicate n 0, m, ?_, List.length_replicate, fun a ha => ?_, fun t => ?_, by rw [hh]; exact if_pos rfl, by omega, ⟨1, by rw [Int.mul_one]⟩, .inr ⟨zz _, rfl, zz⟩⟩
              · have := Lat.P_short (n - i) []
                rw [List.nil_append] at this
                rw [List.drop_replicate, this]
                rfl
              · rw [(List.mem_replicate.mp ha).2]
                omega
              · rw [hh, zz, Int.sub_zero]
                show (m : Int) ∣ if t = i then (m : Int) else 0
                by_cases e : t = i
                · rw [if_pos e]
                  exact ⟨1, by rw [Int.mul_one]⟩
                · rw [if_neg e]
                  exact ⟨0, by rw [Int.mul_zero]⟩
          have prS : ∀ a ∈ pr, 0 ≤ a ∧ a < 2 ^ 24 := fun a ha => by have := prb a ha; exact ⟨this.1, by omega⟩
          refine ⟨_, rfl, d, rfl, .inl ⟨_, .inl hd2⟩, _, rfl, _, .inl ⟨_, Sum.inl (i : Int), .inl hd2, by rw [Int.zero_add]; rfl, rfl⟩, ?_⟩
          rw [hpr]
          refine ⟨_, rfl, _, 24, rfl, rfl, ?_⟩
          rw [Lat.P_low prS i]
          refine or_m (e := e0) ?_ ?_
          · obtain ⟨a, b, _⟩ | ⟨a, b, _⟩ := heq
            · exact .inl ⟨a, b⟩
            · exact .inr ⟨a, by rw [b]; rfl⟩
          have e0m : e0 ≤ m := Int.le_of_dvd (by omega) ed
          have qb : 0 ≤ x / e0 ∧ x / e0 ≤ x := ⟨Int.ediv_nonneg x0 (by omega), Int.ediv_le_self _ x0⟩
          refine ⟨_, rfl, _, rfl, _, _, rfl, rfl, ep, rfl, _, rfl, ?_⟩
          by_cases q0 : x % e0 = 0
          · refine iteNS (by show V.int (x % e0) = V.int 0; rw [q0]) ?_
            refine ⟨_, rfl, _, rfl, _, rfl, _, rfl, _, _, rfl, rfl, ⟨ep, by omega⟩, _, _, rfl, rfl, _, rfl, _, _, rfl, rfl, .inl ⟨by omega, by omega⟩, _, _, rfl, rfl, ?_⟩
            have xe : x / e0 * e0 = x := by have := Int.emod_def x e0; rw [Int.mul_comm e0] at this; omega
            have pri : pr.getD i 0 = e0 := by
              obtain ⟨a, b, _⟩ | ⟨a, b, _⟩ := heq
              · exact b.symm
              · rw [b] at q0
                rw [Int.emod_eq_of_lt x0 x1] at q0
                exact (xn q0).elim
            refine ⟨gr, ks', row', List.zipWith (fun a b => a + ((m : Int) - x / e0) * b) l' pr, some (.int (0 + (i : Int))), some (.int x), some (.int (Lat.P (pr.drop i))), some (.int e0), ?_, hd2, off, pv, pt.take (x / e0) hi (fun t ht => ?_) ?_, ?_, ?_, fr⟩
            · rw [← Lat.P_zip _ (le.trans prl.symm)]
              rfl
            · show (m : Int) ∣ (List.zipWith _ l' pr).getD t 0 - (l'.getD t 0 - x / e0 * hOf m ks' row' i t)
              rw [zip_get _ _ _ _ (le.trans prl.symm)]
              have h1 := Int.dvd_mul_of_dvd_right (b := x / e0) (hdv t)
              have h2 : (m : Int) ∣ (m : Int) * pr.getD t 0 := ⟨_, rfl⟩
              have h3 := Int.dvd_add h2 h1
              rw [show l'.getD t 0 + ((m : Int) - x / e0) * pr.getD t 0 - (l'.getD t 0 - x / e0 * hOf m ks' row' i t) = (m : Int) * pr.getD t 0 + x / e0 * (hOf m ks' row' i t - pr.getD t 0) by rw [Int.sub_mul, Int.mul_sub]; omega]
              exact h3
            · show (m : Int) ∣ (List.zipWith _ l' pr).getD i 0
              rw [zip_get _ _ _ _ (le.trans prl.symm), pri, Int.sub_mul, xe]
              have := Int.emod_def (l'.getD i 0) m
              rw [hx] at this
              refine ⟨l'.getD i 0 / m + e0, ?_⟩
              rw [Int.mul_add]
              omega
            · rw [List.length_zipWith, le, prl]
              exact Nat.min_self n
            · refine zip_all (le.trans prl.symm) lt prb (by omega) fun a b a0 a1 b0 b1 => ?_
              have h1 : ((m : Int) - x / e0) * b ≤ 27 * b := Int.mul_le_mul_of_nonneg_right (by omega) b0
              omega
          · rw [show decide ((fun i j => V.int (i % j)) x e0 = V.int 0) = false from decide_eq_false fun z => q0 (V.int.inj z)]
            refine iteT ?_
            -- the head, its unit
            have xX : ((x.toNat : Nat) : Int) = x := Int.toNat_of_nonneg x0
            have gc : ((Nat.gcd x.natAbs (m : Int).natAbs : Nat) : Int) = ((Nat.gcd x.toNat m : Nat) : Int) := by
              rw [show x.natAbs = x.toNat by omega]
              rfl
            obtain ⟨gm, ⟨u', ul, up0, ue, _, _⟩, cmp⟩ := Lat.heads hm (x := x.toNat) (by omega) (by omega)
            have l0 : (l'.drop i).getD 0 0 = l'.getD i 0 := gD l' i 0
            refine ⟨_, rfl, _, rfl, _, rfl, _, _, rfl, rfl, _, rfl, l'.drop i, n - i, m, by rw [Int.zero_add]; show [_, V.int ((n : Int) - (i : Int)), _] = _; rw [← Int.natCast_sub (Nat.le_of_lt hi)], fun a ha => lS a (List.mem_of_mem_drop ha), by omega, by omega, by omega, ?_, fun H3 u s3 u0 u1 u2 => ?_⟩
            · rw [l0, hx, gc]
              refine ⟨u', by omega, by omega, ?_⟩
              have h2 : (u' : Int) * ((x.toNat : Nat) : Int) % (m : Int) = ((Nat.gcd x.toNat m : Nat) : Int) := by exact_mod_cast ue
              rw [xX] at h2
              exact h2
            rw [l0, hx, gc] at u2
            have hd3 := s3 _ _ hd2
            have kl : (kvsOf ks' row').length < sizeLine := by
              unfold kvsOf
              rw [List.length_map]
              exact small1000 (by have := nd_len n ks' pv.nd pv.lt; omega)
            have hgd : (((List.range (n - i)).map fun t => u * ((l'.drop i).getD t 0 % (m : Int))).map (· % (m : Int))) = (((List.range n).map fun t => u * (l'.getD t 0 % (m : Int))).map (· % (m : Int))).drop i := by
              rw [← List.map_drop, drop_rng]
              simp only [gD]
            rw [hgd]
            generalize hg : ((List.range n).map fun t => u * (l'.getD t 0 % (m : Int))).map (· % (m : Int)) = g at *
            refine ⟨_, rfl, _, rfl, d, _, rfl, .inl ⟨_, Sum.inl (i : Int), hd3, by rw [Int.zero_add]; rfl, kl, rfl⟩, ?_⟩
            have gl : g.length = n := by rw [← hg, List.length_map, List.length_map, List.length_range]
            have gb : ∀ a ∈ g, 0 ≤ a ∧ a < (m : Int) := by
              intro a ha
              rw [← hg] at ha
              obtain ⟨b, _, rfl⟩ := List.mem_map.mp ha
              exact ⟨Int.emod_nonneg _ (by omega), Int.emod_lt_of_pos _ (by omega)⟩
            have gS : ∀ a ∈ g, 0 ≤ a ∧ a < 2 ^ 24 := fun a ha => by have := gb a ha; exact ⟨this.1, by omega⟩
            have gt : ∀ t, t < n → g.getD t 0 = u * (l'.getD t 0 % (m : Int)) % (m : Int) := by
              intro t ht
              rw [← hg]
              simp [List.getD, ht]
            rw [kvs_put]
            generalize hks : (if i ∈ ks' then ks' else ks' ++ [i]) = ks2 at *
            have pv2 := pv.put hi gl gb
            rw [hks] at pv2
            have hval : valV (kvsOf ks2 (setR row' i g)) (Sum.inl (i : Int)) = some (V.int (Lat.P (g.drop i))) := by
              rw [kvs_val, if_pos (by rw [← hks]; by_cases z : i ∈ ks' <;> simp [z])]
              unfold setR
              rw [if_pos rfl]
            refine ⟨_, rfl, _, rfl, _, _, rfl, _, rfl, _, rfl, d, _, rfl, .inl ⟨_, Sum.inl (i : Int), .inl upd_same, by rw [Int.zero_add]; rfl, hval.symm⟩, ?_⟩
            refine ⟨_, rfl, _, 24, rfl, rfl, ?_⟩
            rw [Lat.P_low gS i]
            -- the heads
            have gi : g.getD i 0 = ((Nat.gcd x.toNat m : Nat) : Int) := by rw [gt i hi, hx, u2]
            have g1 : 0 < Nat.gcd x.toNat m := Nat.gcd_pos_of_pos_left _ (by omega)
            have g2 : Nat.gcd x.toNat m ≤ x.toNat := Nat.gcd_le_left _ (by omega)
            generalize hE : Nat.gcd x.toNat m = e1 at *
            rw [gi]
            have dv : (e1 : Int) ∣ e0 := by
              have eN : ((e0.toNat : Nat) : Int) = e0 := Int.toNat_of_nonneg (by omega)
              rcases cmp e0.toNat (by omega) (by omega) (by have := ed; rw [← eN] at this; exact Int.natCast_dvd_natCast.mp this) with q | ⟨q, _⟩
              · exfalso
                have q := Int.natCast_dvd_natCast.mpr q
                rw [eN, xX] at q
                exact q0 (Int.emod_eq_zero_of_dvd q)
              · have q := Int.natCast_dvd_natCast.mpr q
                rw [eN] at q
                exact q
            have qe : e0 / (e1 : Int) * (e1 : Int) = e0 := Int.ediv_mul_cancel dv
            have qb2 : 0 ≤ e0 / (e1 : Int) ∧ e0 / (e1 : Int) ≤ e0 := ⟨Int.ediv_nonneg (by omega) (by omega), Int.ediv_le_self _ (by omega)⟩
            refine ⟨_, rfl, _, rfl, _, rfl, _, rfl, _, _, rfl, rfl, ⟨by omega, by omega⟩, _, _, rfl, rfl, _, rfl, _, _, rfl, rfl, .inl ⟨by omega, by omega⟩, _, _, rfl, rfl, ?_⟩
            obtain ⟨y, hy⟩ : ∃ y k : Int, y * u = 1 + (m : Int) * k := by
              have uN : ((u.toNat : Nat) : Int) = u := Int.toNat_of_nonneg (by omega)
              have ug : u.toNat * x.toNat % m = Nat.gcd x.toNat m := by
                rw [hE]
                have : ((u.toNat * x.toNat % m : Nat) : Int) = (e1 : Int) := by
                  rw [Int.natCast_emod, Int.natCast_mul, uN, xX]
                  exact u2
                exact_mod_cast this
              obtain ⟨v, _, hv⟩ := unit_all m hm x.toNat (List.mem_range.mpr (by omega)) (by omega) u.toNat (List.mem_range.mpr (by omega)) ug
              refine ⟨(v : Int), ((v * u.toNat / m : Nat) : Int), ?_⟩
              have h1 := Nat.div_add_mod (v * u.toNat) m
              rw [hv, Nat.mod_eq_of_lt (show 1 < m by omega)] at h1
              have h2 : ((m * (v * u.toNat / m) + 1 : Nat) : Int) = ((v * u.toNat : Nat) : Int) := congrArg Nat.cast h1
              rw [Int.natCast_add, Int.natCast_mul, Int.natCast_mul, uN] at h2
              rw [← h2, Int.add_comm]
              rfl
            obtain ⟨k, hy⟩ := hy
            have egt : ∀ t, t < n → (m : Int) ∣ g.getD t 0 - u * l'.getD t 0 := by
              intro t ht
              rw [gt t ht, Int.emod_def, Int.emod_def (l'.getD t 0)]
              refine ⟨-(u * (l'.getD t 0 / (m : Int))) - u * (l'.getD t 0 - m * (l'.getD t 0 / m)) / m, ?_⟩
              rw [Int.mul_sub, Int.mul_sub, Int.mul_neg, Int.mul_left_comm u]
              omega
            refine ⟨true, ks2, setR row' i g, List.zipWith (fun a b => a + ((m : Int) - e0 / e1) * b) pr g, some (.int (0 + (i : Int))), some (.int e0), some (.int (Lat.P (g.drop i))), some (.int e1), ?_, upd_same, ?_, pv2, ?_, ?_, ?_, (fun z => nomatch z)⟩
            · rw [← Lat.P_zip _ (prl.trans gl.symm)]
              rfl
            · intro b o eb nb
              rw [upd_ne nb]
              exact s3 b o (off b o eb nb)
            · rw [← hks, hOf_put]
              refine pt.swap u y (e0 / e1) hi (fun t ht => ?_) ?_ ?_ egt (fun t ht => ?_) ?_ (fun t ht => ?_)
              · show g.getD t 0 = 0
                have z := Int.emod_eq_zero_of_dvd (pt.zero t ht (by omega))
                have z : l'.getD t 0 % (m : Int) = 0 := z
                rw [gt t (by omega), z, Int.mul_zero, Int.zero_emod]
              · show 0 < g.getD i 0
                omega
              · show g.getD i 0 ∣ (m : Int)
                rw [gi]
                exact Int.natCast_dvd_natCast.mpr gm
              · show (m : Int) ∣ l'.getD t 0 - y * g.getD t 0
                have h1 := Int.dvd_mul_of_dvd_right (b := -y) (egt t ht)
                have h2 : (m : Int) ∣ (m : Int) * (-(k * l'.getD t 0)) := ⟨_, rfl⟩
                have h3 := Int.dvd_add h1 h2
                have f : l'.getD t 0 - y * g.getD t 0 = -y * (g.getD t 0 - u * l'.getD t 0) + (m : Int) * (-(k * l'.getD t 0)) := by
                  have e2 : y * (u * l'.getD t 0) = l'.getD t 0 + m * (k * l'.getD t 0) := by
                    rw [← Int.mul_assoc, hy, Int.add_mul, Int.one_mul, Int.mul_assoc]
                  rw [Int.neg_mul, Int.mul_sub, e2, Int.mul_neg]
                  omega
                rw [f]
                exact h3
              · show hOf m ks' row' i i = e0 / e1 * g.getD i 0
                rw [he0, gi, qe]
              · show (m : Int) ∣ (List.zipWith _ pr g).getD t 0 - (hOf m ks' row' i t - e0 / e1 * g.getD t 0)
                rw [zip_get _ _ _ _ (prl.trans gl.symm)]
                have h2 : (m : Int) ∣ (m : Int) * g.getD t 0 := ⟨_, rfl⟩
                have h3 := Int.dvd_sub h2 (hdv t)
                rw [show pr.getD t 0 + ((m : Int) - e0 / e1) * g.getD t 0 - (hOf m ks' row' i t - e0 / e1 * g.getD t 0) = (m : Int) * g.getD t 0 - (hOf m ks' row' i t - pr.getD t 0) by rw [Int.sub_mul]; omega]
                exact h3
            · rw [List.length_zipWith, prl, gl]
              exact Nat.min_self n
            · refine zip_all (prl.trans gl.symm) prb gb (by omega) fun a b a0 a1 b0 b1 => ?_
              have h1 : ((m : Int) - e0 / e1) * b ≤ 27 * b := Int.mul_le_mul_of_nonneg_right (by omega) b0
              omega
        rintro σ3 H3 ⟨gr, ks', row', l', z5, z6, z7, z8, rfl, hd2, off, pv, pt, le, lt, fr⟩
        refine ⟨_, rfl, _, 24, rfl, rfl, ?_⟩
        rw [Lat.P_up (small (by omega) lt) i]
        exact ⟨gr, ks', row', l', z5, z6, z7, z8, rfl, hd2, off, pv, pt, le, lt, fr⟩
      · rintro σ H2 ⟨gr, ks', row', l', z5, z6, z7, z8, rfl, hd2, off, pv, pt, le, lt, fr⟩
        rw [show (n : Int).toNat = n from rfl] at pt
        exact ⟨gr, _, _, _, _, _, rfl, last gr ks' row' l' H2 hd2 off pv pt fr⟩
    rintro σ1 H1 ⟨gr, z1, z5, z6, z7, z8, rfl, q1⟩
    exact ⟨_, rfl, q1⟩
end
end K02

/-! po: pivots_of -/
namespace K02
open PySem L2 Gd B5
abbrev sPo : Stmt := top 27
section
variable {P : Program} {w : World} {K : PySem.W.Frag} {mg : Str → Option Value} {base : Heap} {f fP fU : Addr} {fd fdP fdU : FuncData}
theorem scPo : FnScope ["rows", "width", "m", "pivots", "row"] ["rows", "width", "m"] (defScope sPo) := ⟨rfl, rfl, rfl, by decide +kernel, rfl, by decide +kernel, by decide +kernel⟩
theorem ok_po (F : Fun K "pivots_of" "pivots_of" sPo f fd) (B : Blt mg) (Pk : Cl K mg "pack" sPack ["row", "m"] fP fdP) (GP : FnOk P w K mg base CX0 1 fP fdP ["row", "m"] (spPack K))
    (Pu : Cl K mg "put_row" sPut ["pivots", "packed", "width", "m"] fU fdU) (GU : FnOk P w K mg base CX0 3 fU fdU ["pivots", "packed", "width", "m"] spPut) :
    FnOk P w K mg base CX0 4 f fd ["rows", "width", "m"] (spPo K) := by
  refine F.ok scPo (fun vs H Q E h => ?_) (fun cdv A outer s H vs Q E hr h => ?_)
  · obtain ⟨a, ys, rs, n, m, rfl, _⟩ := h
    rfl
  · obtain ⟨a, ys, rs, n, m, rfl, sq, ⟨yl, rows⟩, hm, n8', few, q⟩ := h
    have hr1 : Room 1 _ := hr.mono (by decide)
    have mm : ∀ m ∈ Lat.tens, 1 ≤ m ∧ m ≤ 27 := by decide
    obtain ⟨m1, m27⟩ := mm m hm
    refine ⟨_, pss_cons (ps_set (i := 3) scPo.nd rfl (Or.inl rfl) pe_dnewK)
      (pss_cons (ps_for PassesOwn.never rfl (RT.pi_revA rfl B.rev_ (pv 0)) (pg_name (i := 4) scPo.nd rfl (Or.inl rfl))
        (pss_one (ps_expr (pe_call GU hr rfl Pu.g Pu.k Pu.b .nil pass0 (pa_cons (pv 3) (pa_cons (pe_call GP hr1 rfl Pk.g Pk.k Pk.b .nil pass0 (pa_cons (pv 4) (pa_cons (pv 2) pa_nil))) (pa_cons (pv 1) (pa_cons (pv 2) pa_nil))))))))
      (pss_one (ps_ret (pv 3)))), ?_⟩
    intro d hd
    have ne : ∀ {b : Addr} {o : HO}, H b = some o → b ≠ d := fun e z => by rw [z, hd] at e; cases e
    have hnone : hOf (m : Int) [] (fun _ => []) = Lat.none_ m := funext fun j => if_neg (List.not_mem_nil)
    have g0 : Lat.Good n m (hOf m [] (fun _ => [])) := by rw [hnone]; exact Lat.none_good (by omega)
    have s0 : ∀ u, Lat.Mem n (hOf m [] (fun _ => [])) n u ↔ Lat.Gen n m (rowsSet (rs.drop (ys.length - 0))) u := by
      intro u
      rw [g0.gen u, hnone, Nat.sub_zero, yl, List.drop_length]
      have e : Lat.Gen n m (rowsSet []) u ↔ Lat.Gen n m (fun _ => False) u := ⟨fun g => g.mono fun x ⟨r, hr, _⟩ => (List.not_mem_nil hr).elim, fun g => g.mono fun x z => z.elim⟩
      rw [e]
      exact Lat.none_gen
    have start : (upd H d (.dK [])) d = some (.dK (kvsOf [] (fun _ => []))) := upd_same
    have sm0 : More H (upd H d (.dK [])) := fun b o e => by rw [upd_ne (ne e)]; exact e
    have pv0 : Piv n m [] (fun _ => []) := ⟨List.nodup_nil, fun k z => (List.not_mem_nil z).elim, fun k z => (List.not_mem_nil z).elim, fun k z => (List.not_mem_nil z).elim⟩
    have join : ∀ (i : Nat) (r : List Int) (ks : List Nat) (row : Nat → List Int), i < ys.length → rs[ys.length - 1 - i]? = some r → Lat.Good n m (hOf m ks row) → (∀ u, Lat.Mem n (hOf m ks row) n u ↔ Lat.Gen n m (rowsSet (rs.drop (ys.length - i))) u) →
        ∀ u, Lat.Gen n m (Lat.With (Lat.All n (hOf m ks row)) (vec (r.map (· % (m : Int))))) u ↔ Lat.Gen n m (rowsSet (rs.drop (ys.length - (i + 1)))) u := by
      intro i r ks row hi hr0 g same u
      have hl : ys.length - 1 - i < rs.length := by omega
      have hd0 : rs.drop (ys.length - (i + 1)) = r :: rs.drop (ys.length - i) := by
        rw [show ys.length - (i + 1) = ys.length - 1 - i by omega, List.drop_eq_getElem_cons hl, show ys.length - 1 - i + 1 = ys.length - i by omega]
        rw [List.getElem?_eq_getElem hl] at hr0
        rw [Option.some.inj hr0]
      rw [hd0]
      constructor
      · refine fun k => k.into fun x hx => ?_
        rcases hx with ⟨j, hj, rfl⟩ | rfl
        · exact ((same _).mp (g.mem hj (Nat.le_refl _) (by omega))).mono fun y ⟨r', h', e⟩ => ⟨r', .tail _ h', e⟩
        · exact .cong (u := vec r) (fun t _ => vec_mod r m t) (.row ⟨r, .head _, rfl⟩)
      · refine fun k => k.into fun x ⟨r', h', e⟩ => ?_
        rcases List.mem_cons.mp h' with rfl | h'
        · rw [e]
          refine .cong (u := vec (r'.map (· % (m : Int)))) (fun t _ => ?_) (.row (.inr rfl))
          have := Int.dvd_neg.mpr (vec_mod r' m t)
          rw [show vec r' t - vec (r'.map (· % (m : Int))) t = -(vec (r'.map (· % (m : Int))) t - vec r' t) by omega]
          exact this
        · have := (same x).mpr (.row ⟨r', h', e⟩)
          exact ((g.gen x).mp this).mono fun y z => .inl z
    have body : ∀ (i : Nat) (y : V) (H2 : Hp) (ks : List Nat) (row : Nat → List Int), i < ys.length → ys[ys.length - 1 - i]? = some y → H2 d = some (.dK (kvsOf ks row)) → More H H2 → Piv n m ks row → Lat.Good n m (hOf m ks row) →
        (∀ u, Lat.Mem n (hOf m ks row) n u ↔ Lat.Gen n m (rowsSet (rs.drop (ys.length - i))) u) → ∃ (a' : Addr) (r : List Int), y = .ref a' ∧ Sq K H2 a' (r.map V.int) ∧ r.length = n ∧ rs[ys.length - 1 - i]? = some r := by
      intro i y H2 ks row hi hy hd2 sm pv g same
      have hl : ys.length - 1 - i < rs.length := by omega
      obtain ⟨a', e, sq', l'⟩ := rows _ y _ hy (List.getElem?_eq_getElem hl)
      exact ⟨a', _, e, sq'.more sm, l', List.getElem?_eq_getElem hl⟩
    have last : ∀ (H2 : Hp) (ks : List Nat) (row : Nat → List Int), H2 d = some (.dK (kvsOf ks row)) → More H H2 → Piv n m ks row → Lat.Good n m (hOf m ks row) →
        (∀ u, Lat.Mem n (hOf m ks row) n u ↔ Lat.Gen n m (rowsSet (rs.drop (ys.length - ys.length))) u) → Q (.ref d) H2 := by
      intro H2 ks row hd2 sm pv g same
      rw [Nat.sub_self, List.drop_zero] at same
      exact q H2 d ks row pv g same hd hd2 sm
    have rmod : ∀ (r : List Int), ∀ x ∈ r.map (· % (m : Int)), 0 ≤ x ∧ x < (m : Int) := by
      intro r x hx
      obtain ⟨b, _, rfl⟩ := List.mem_map.mp hx
      exact ⟨Int.emod_nonneg _ (by omega), Int.emod_lt_of_pos _ (by omega)⟩
    obtain sq | sq := sq
    · refine ⟨_, rfl, a, ys, rfl, .inl ⟨sq.ext sm0, RT.for_Itv (fun i σ H2 => ∃ (ks : List Nat) (row : Nat → List Int) (z : Option V), σ = [some (.ref a), some (.int n), some (.int m), some (.ref d), z] ∧ H2 d = some (.dK (kvsOf ks row)) ∧ More H H2 ∧ Piv n m ks row ∧ Lat.Good n m (hOf m ks row) ∧
          ∀ u, Lat.Mem n (hOf m ks row) n u ↔ Lat.Gen n m (rowsSet (rs.drop (ys.length - i))) u) ⟨[], fun _ => [], none, rfl, start, sm0, pv0, g0, s0⟩ (fun i σ H2 ⟨_, _, _, _, _, sm, _⟩ => sq.ext sm) ?_ ?_⟩⟩
      · rintro i y σ H2 hi hy ⟨ks, row, z, rfl, hd2, sm, pv, g, same⟩
        obtain ⟨a', r, rfl, sq', rl, er⟩ := body i y H2 ks row hi hy hd2 sm pv g same
        have n8 := n8' (fun z => by rw [z] at er; cases er)
        refine ⟨_, rfl, _, rfl, _, rfl, a', r, m, rfl, sq', by omega, by omega, by omega, fun H3 m3 => ⟨_, rfl, _, rfl, d, r.map (· % (m : Int)), n, m, ks, row, rfl, hm, n8, by rw [List.length_map]; exact rl, rmod r, pv, m3 _ _ hd2, g, fun gr ks' row' pv' g' same' _ H' hd' off' => ?_⟩⟩
        exact ⟨ks', row', _, rfl, hd', fun b o e => off' b o (m3 _ _ (sm b o e)) (ne e), pv', g', fun u => (same' u).trans (join i r ks row hi er g same u)⟩
      · rintro σ H2 ⟨ks, row, z, rfl, hd2, sm, pv, g, same⟩
        exact ⟨_, rfl, last H2 ks row hd2 sm pv g same⟩
    · refine ⟨_, rfl, a, ys, rfl, .inr ⟨sqT_more sm0 sq, RT.for_ItvT (fun i σ H2 => ∃ (ks : List Nat) (row : Nat → List Int) (z : Option V), σ = [some (.ref a), some (.int n), some (.int m), some (.ref d), z] ∧ H2 d = some (.dK (kvsOf ks row)) ∧ More H H2 ∧ Piv n m ks row ∧ Lat.Good n m (hOf m ks row) ∧
          ∀ u, Lat.Mem n (hOf m ks row) n u ↔ Lat.Gen n m (rowsSet (rs.drop (ys.length - i))) u) ⟨[], fun _ => [], none, rfl, start, sm0, pv0, g0, s0⟩ (fun i σ H2 ⟨_, _, _, _, _, sm, _⟩ => sqT_more sm sq) ?_ ?_⟩⟩
      · rintro i y σ H2 hi hy ⟨ks, row, z, rfl, hd2, sm, pv, g, same⟩
        obtain ⟨a', r, rfl, sq', rl, er⟩ := body i y H2 ks row hi hy hd2 sm pv g same
        have n8 := n8' (fun z => by rw [z] at er; cases er)
        refine ⟨_, rfl, _, rfl, _, rfl, a', r, m, rfl, sq', by omega, by omega, by omega, fun H3 m3 => ⟨_, rfl, _, rfl, d, r.map (· % (m : Int)), n, m, ks, row, rfl, hm, n8, by rw [List.length_map]; exact rl, rmod r, pv, m3 _ _ hd2, g, fun gr ks' row' pv' g' same' _ H' hd' off' => ?_⟩⟩
        exact ⟨ks', row', _, rfl, hd', fun b o e => off' b o (m3 _ _ (sm b o e)) (ne e), pv', g', fun u => (same' u).trans (join i r ks row hi er g same u)⟩
      · rintro σ H2 ⟨ks, row, z, rfl, hd2, sm, pv, g, same⟩
        exact ⟨_, rfl, last H2 ks row hd2 sm pv g same⟩
end
end K02

/-! sz: entry_of, size_of -/
namespace K02
open PySem L2 Gd B5
abbrev sEn : Stmt := top 30
abbrev sSz : Stmt := top 35
section
variable {P : Program} {w : World} {K : PySem.W.Frag} {mg : Str → Option Value} {base : Heap} {f fA : Addr} {fd fdA : FuncData} {tf : Tok}
theorem scEn : FnScope ["pivot"] ["pivot"] (defScope sEn) := ⟨rfl, rfl, rfl, by decide +kernel, rfl, by decide +kernel, by decide +kernel⟩
def spEn : Sp := fun vs H Q _ => ∃ (l : List Int) (i : Nat), vs = [.int (Lat.P (l.drop i))] ∧ (∀ a ∈ l, 0 ≤ a ∧ a < 2 ^ 24) ∧ Q (.int (l.getD i 0)) H
theorem ok_en (F : Fun K "entry_of" "entry_of" sEn f fd) (gF : mg "FIELD" = some (.int 16777215 tf)) : FnOk P w K mg base CX0 1 f fd ["pivot"] spEn := by
  refine F.ok scEn (fun vs H Q E h => ?_) (fun cdv A outer s H vs Q E hr h => ?_)
  · obtain ⟨l, i, rfl, _⟩ := h
    rfl
  · obtain ⟨l, i, rfl, hl, q⟩ := h
    refine ⟨_, pss_one (ps_ret (pe_op op_andM (pv 0) (pe_glob (v := .int 16777215) rfl gF ⟨_, rfl⟩))), ?_⟩
    refine ⟨_, rfl, _, 24, rfl, rfl, ?_⟩
    rw [Lat.P_low hl i]
    exact q
theorem scSz : FnScope ["pivots", "m", "size", "place"] ["pivots", "m"] (defScope sSz) := ⟨rfl, rfl, rfl, by decide +kernel, rfl, by decide +kernel, by decide +kernel⟩
theorem ok_sz (F : Fun K "size_of" "size_of" sSz f fd) (En : Cl K mg "entry_of" sEn ["pivot"] fA fdA) (gF : mg "FIELD" = some (.int 16777215 tf)) :
    FnOk P w K mg base CX0 2 f fd ["pivots", "m"] spSz := by
  have GA : FnOk P w K mg base CX0 1 fA fdA ["pivot"] spEn := ok_en En.fn gF
  refine F.ok scSz (fun vs H Q E h => ?_) (fun cdv A outer s H vs Q E hr h => ?_)
  · obtain ⟨d, n, m, ks, row, rfl, _⟩ := h
    rfl
  · obtain ⟨d, n, m, ks, row, rfl, hm, n8, pv0, hd, hp, q⟩ := h
    have hu := hu_of hr
    refine ⟨_, pss_cons (ps_set (i := 2) scSz.nd rfl (Or.inl rfl) pe_int)
      (pss_cons (ps_lock (ps_for PassesOwn.never rfl (pi_keys (pv 0)) (pg_name (i := 3) scSz.nd rfl (Or.inl rfl))
        (pss_one (ps_set (i := 2) scSz.nd rfl (Or.inl rfl) (pe_op op_mul (pv 2) (pe_op op_fdiv (pv 1) (pe_call GA hr rfl En.g En.k En.b .nil pass0 (pa_cons (pe_dget hu (pv 0) (pv 3) (fun _ _ => rfl)) pa_nil))))))))
      (pss_one (ps_ret (pv 2)))), ?_⟩
    have mm : ∀ m ∈ Lat.tens, 1 ≤ m ∧ m ≤ 27 := by decide
    obtain ⟨m1, m27⟩ := mm m hm
    refine ⟨d, .dK (kvsOf ks row), hd, trivial, fun od => ⟨_, rfl, d, od, rfl, .inl ⟨_, upd_same, for_it (walk_keys) (fun i σ H2 => ∃ (t : Int) (z : Option V), σ = [some (.ref d), some (.int m), some (.int t), z] ∧ H2 = upd H d (.frz od (.dK (kvsOf ks row))) ∧
        t * sizeOf m row (ks.drop i) = sizeOf m row ks) ⟨1, none, rfl, rfl, by rw [Int.one_mul, List.drop_zero]⟩ (fun i σ H2 _ ⟨_, _, _, e, _⟩ => by rw [e]; exact upd_same) ?_ ?_⟩⟩⟩
    · rintro i x σ H2 H3 hi ⟨t, z, rfl, rfl, e⟩ ⟨rfl, k, v, hk, rfl⟩
      have hk : (kvsOf ks row)[i]? = some (k, v) := hk
      unfold kvsOf at hk hi
      rw [List.length_map] at hi
      rw [List.getElem?_map, List.getElem?_eq_getElem hi] at hk
      have hk := Option.some.inj hk
      obtain ⟨rfl, rfl⟩ := Prod.mk.inj hk
      have mem : ks[i] ∈ ks := List.getElem_mem hi
      have r1 := hp _ mem
      have r2 : (row ks[i]).getD ks[i] 0 < (m : Int) := (mem_get (pv0.rest _ mem) (t := ks[i]) (by rw [pv0.len _ mem]; exact pv0.lt _ mem)).2
      refine ⟨_, rfl, _, rfl, _, rfl, _, rfl, d, _, rfl, .inl ⟨_, Sum.inl (ks[i] : Int), .inr ⟨od, upd_same⟩, rfl, (by rw [kvs_val, if_pos mem] : some (V.int (Lat.P ((row ks[i]).drop ks[i]))) = _)⟩, row ks[i], ks[i], rfl, fun a ha => by have := pv0.rest _ mem a ha; exact ⟨this.1, by omega⟩, ?_⟩
      refine ⟨_, _, rfl, rfl, ⟨r1, by omega⟩, _, _, rfl, rfl, .inr ?_, _, _, rfl, rfl, ?_⟩
      · have h1 := Int.ediv_nonneg (show (0 : Int) ≤ m by omega) (Int.le_of_lt r1)
        have h2 := Int.ediv_le_self ((row ks[i]).getD ks[i] 0) (show (0 : Int) ≤ m by omega)
        exact ⟨by omega, by omega⟩
      · rw [← e, List.drop_eq_getElem_cons hi]
        show t * _ * _ = t * (_ * _)
        rw [Int.mul_assoc, Int.mul_comm ((m : Int) / _)]
    · rintro σ H2 ⟨t, z, rfl, rfl, e⟩
      have e : t = sizeOf m row ks := by
        rw [show (kvsOf ks row).length = ks.length by unfold kvsOf; rw [List.length_map], List.drop_length] at e
        have e : t * 1 = _ := e
        rw [Int.mul_one] at e
        exact e
      subst e
      refine ⟨upd_same, _, rfl, q _ fun b o eb => ?_⟩
      rw [upd_upd]
      by_cases z : b = d
      · subst z
        rw [upd_same, ← hd]
        exact eb
      · rw [upd_ne z]
        exact eb
end
end K02

/-! lmk: least_makers -/
namespace K02
open PySem L2 Gd B5
abbrev sLk : Stmt := top 41
abbrev NLk : List Str := ["rows", "size", "width", "m", "p", "_", "size_below"]
theorem scLk : FnScope NLk ["rows", "size", "width", "m"] (defScope sLk) := ⟨rfl, rfl, rfl, by decide +kernel, rfl, by decide +kernel, by decide +kernel⟩
section
variable {P : Program} {w : World} {K : PySem.W.Frag} {mg : Str → Option Value} {base : Heap} {CN gP gS gO gD f : Addr} {dP dS dO dD fd : FuncData}
theorem ok_lk (F : Fun K "least_makers" "least_makers" sLk f fd) (B : Blt mg) (PP : Cl K mg "prime_power" sPP ["m"] gP dP) (GP : FnOk P w K mg base (L2.CX P w) 3 gP dP ["m"] (spPP K CN))
    (Sz : Cl K mg "size_of" sSz ["pivots", "m"] gS dS) (GS : FnOk P w K mg base CX0 2 gS dS ["pivots", "m"] spSz) (Po : Cl K mg "pivots_of" sPo ["rows", "width", "m"] gO dO) (GO : FnOk P w K mg base CX0 4 gO dO ["rows", "width", "m"] (spPo K))
    (Dg : Cl K mg "digits" sDg ["n", "p"] gD dD) (GD : FnOk P w K mg base (L2.CX P w) 4 gD dD ["n", "p"] (spDg K CN)) : FnOk P w K mg base (L2.CX P w) 5 f fd ["rows", "size", "width", "m"] (spLk K) := by
  refine F.okX scLk (fun vs H Q E h => ?_) (fun cdv A outer s H vs Q E hr h => ?_)
  · obtain ⟨a, ys, rs, n, M, p, S, rfl, _⟩ := h
    rfl
  · obtain ⟨a, ys, rs, n, M, p, S, rfl, sq, rows, md, n4, n6, few, ⟨h0, G, sG, eS⟩, small, q⟩ := h
    have hr2 : Room 2 _ := hr.mono (by decide)
    have hr3 : Room 3 _ := hr.mono (by decide)
    obtain ⟨M2, M27, pr, pM, mt, mt', pd⟩ := md.facts
    obtain ⟨p2i, p7⟩ := isPr_small pr
    have p2 : 2 ≤ p := by omega
    refine ⟨_, pss_cons (ps_asg (pe_call GP hr3 rfl PP.g PP.k PP.b .nil (passes_call (takes_of rfl rfl rfl rfl) (fun _ _ _ _ h => h)) (pa_cons (pv 3) pa_nil)) (pg_tup (by rfl) (pgs_cons (pg_name (i := 4) scLk.nd rfl (Or.inl rfl)) (pgs_cons (pg_name (i := 5) scLk.nd rfl (Or.inl rfl)) pgs_nil))))
      (Evl.pss_cut (ps_set (i := 6) scLk.nd rfl (Or.inl rfl) (pe_call GS hr2 rfl Sz.g Sz.k Sz.b .nil pass0 (pa_cons (pe_call GO hr rfl Po.g Po.k Po.b .nil pass0 (pa_cons (pv 0) (pa_cons (pv 2) (pa_cons (pe_op op_fdiv (pv 3) (pv 4)) pa_nil)))) (pa_cons (pe_op op_fdiv (pv 3) (pv 4)) pa_nil))))
      (pss_one (ps_ret (pe_op op_sub (pe_callB call_len_seq (by rfl) B.len_ PySem.boot_len (pa_cons (pe_call GD hr rfl Dg.g Dg.k Dg.b .nil (passes_call (takes_of rfl rfl rfl rfl) (fun _ _ _ _ h => h)) (pa_cons (pe_op op_fdivW (pv 1) (pv 6)) (pa_cons (pv 4) pa_nil))) pa_nil)) pe_int)))), ?_⟩
    obtain ⟨k, hk⟩ := md
    refine ⟨_, rfl, _, rfl, .inl ⟨_, _, rfl, hk, fun t0 ht0 => ⟨t0, _, rfl, ht0, rfl, _, _, rfl, _, _, rfl, rfl, ?_⟩⟩⟩
    have eM : (M : Int) / (p : Int) = ((M / p : Nat) : Int) := (Int.natCast_ediv M p).symm
    have Mp : p * (M / p) = M := Nat.mul_div_cancel' pM
    have m0 : 0 < M / p := Nat.div_pos (Nat.le_of_dvd (by omega) pM) (by omega)
    -- the size below
    refine ⟨fun σ' H' => ∃ S' : Int, σ' = [some (.ref a), some (.int S), some (.int n), some (.int M), some (.int p), some (.int k), some (.int S')] ∧ More H H' ∧ ∃ g, Lat.Good n M g ∧ (∀ u, Lat.Mem n g n u ↔ Lat.Gen n M (Lat.Fold p (rowsSet rs)) u) ∧ S' = Lat.siz M g n, ?_, ?_⟩
    · refine ⟨_, rfl, _, rfl, _, rfl, _, rfl, _, _, rfl, rfl, ⟨by omega, by omega⟩, a, ys, rs, n, M / p, ?_, sq, rows, mt', fun z => by have := n6 z; omega, few, fun H1 d ks row pv gd sm nd kd m1 => ?_⟩
      · show [V.ref a, V.int n, V.int ((M : Int) / (p : Int))] = _
        rw [eM]
      have T := Tr.of pv gd
      refine ⟨_, rfl, _, rfl, _, _, rfl, rfl, ⟨by omega, by omega⟩, d, n, M / p, ks, row, ?_, mt', n4, pv, kd, T.pos, fun H2 m2 => ?_⟩
      · show [V.ref d, V.int ((M : Int) / (p : Int))] = _
        rw [eM]
      -- a lot of the p-folds
      obtain ⟨g, Gg, sg⟩ : ∃ g, Lat.Good n M g ∧ ∀ u, Lat.Mem n g n u ↔ Lat.Gen n M (Lat.Fold p (rowsSet rs)) u := Lat.good_fold (by omega) Mp (by omega) gd sm
      refine ⟨_, rfl, fun b o e => m2 _ _ (m1 _ _ e), g, Gg, sg, ?_⟩
      have Gg' : Lat.Good n ((p : Int) * ((M / p : Nat) : Int)) g := by rw [← Int.natCast_mul, Mp]; exact Gg
      have sg' : ∀ u, Lat.Mem n g n u ↔ Lat.Gen n ((p : Int) * ((M / p : Nat) : Int)) (Lat.Fold p (rowsSet rs)) u := by rw [← Int.natCast_mul, Mp]; exact sg
      have := Lat.fold_siz (by omega) (by omega) gd sm Gg' sg' n (Nat.le_refl _)
      rw [← Int.natCast_mul, Mp] at this
      rw [this, sizeOf_siz m0 n ks pv.nd pv.lt]
    rintro σ1 H1 ⟨S', rfl, m1, g, Gg, sg, eS'⟩
    have sub : ∀ u, Lat.Mem n g n u → Lat.Mem n h0 n u := fun u hu => (sG u).mpr (((sg u).mp hu).into fun v hv => by
      obtain ⟨r, hr, rfl⟩ := hv
      exact .mul p (.row hr))
    obtain ⟨t, ht, et⟩ := Lat.siz_pow pd (by omega) G Gg sub n (Nat.le_refl _)
    rw [← eS, ← eS'] at et
    obtain ⟨b1, b2⟩ := siz_bd (by omega) M27 Gg n (Nat.le_refl _)
    rw [← eS'] at b1 b2
    have eq : S / S' = ((p ^ t : Nat) : Int) := by rw [et]; exact Int.mul_ediv_cancel_left _ (by omega)
    have ptl : ((p ^ t : Nat) : Int) ≤ S := by
      rw [et]
      have := Int.mul_le_mul_of_nonneg_right b1 (show (0 : Int) ≤ ((p ^ t : Nat) : Int) by omega)
      omega
    have pt4 : p ^ t < 2 ^ 400 := by
      have : ((p ^ t : Nat) : Int) < ((2 ^ 400 : Nat) : Int) := by
        rw [Int.natCast_pow 2 400]
        exact Int.lt_of_le_of_lt ptl small
      exact_mod_cast this
    have sl : S' ≤ S := by
      rw [et]
      have p0 : 1 ≤ p ^ t := Nat.pow_pos (by omega)
      have := Int.mul_le_mul_of_nonneg_left (show (1 : Int) ≤ ((p ^ t : Nat) : Int) by omega) (show (0 : Int) ≤ S' by omega)
      omega
    have big : S'.natAbs < 2 ^ 400 := by
      have : ((S'.natAbs : Nat) : Int) < ((2 ^ 400 : Nat) : Int) := by
        rw [Int.natAbs_of_nonneg (by omega), Int.natCast_pow 2 400]
        exact Int.lt_of_le_of_lt sl small
      exact_mod_cast this
    refine ⟨_, rfl, _, rfl, _, _, rfl, rfl, ⟨by omega, ?_⟩, _, rfl, _, _, rfl, .inl ⟨p ^ t, p, ?_, rfl, pr, pt4, fun H2 b m2 nb kb => ?_⟩⟩
    · exact Nat.lt_of_lt_of_le ((Nat.log2_lt (by omega)).mpr big) (by decide)
    · show V.int (S / S') = _
      rw [eq]
    refine ⟨b, _, rfl, .inr (SqT.of kb), _, _, rfl, rfl, ?_⟩
    have ln : (((dgs p (p ^ t)).map V.int).length : Int) - 1 = (t : Int) := by rw [List.length_map, dgs_pow p2]; omega
    show Q (V.int ((((dgs p (p ^ t)).map V.int).length : Int) - 1)) H2
    rw [ln]
    exact q H2 t (fun b o e => m2 _ _ (m1 _ _ e)) ⟨g, Gg, sg, by rw [et, ← eS']⟩
end
end K02

/-! lo: left_over -/
namespace K02
open PySem L2 Gd B5
abbrev sLo : Stmt := top 31
abbrev NLo : List Str := ["pivots", "packed", "m", "place", "pivot", "times"]
section
variable {P : Program} {w : World} {K : PySem.W.Frag} {mg : Str → Option Value} {base : Heap} {f fA : Addr} {fd fdA : FuncData} {tb tf : Tok}
theorem scLo : FnScope NLo ["pivots", "packed", "m"] (defScope sLo) := ⟨rfl, rfl, rfl, by decide +kernel, rfl, by decide +kernel, by decide +kernel⟩
theorem ok_lo (F : Fun K "left_over" "left_over" sLo f fd) (zSorted : mg "sorted" = none) (A : Cl K mg "number_at" sAt ["packed", "place", "m"] fA fdA) (gB : mg "BITS" = some (.int 24 tb)) (gF : mg "FIELD" = some (.int 16777215 tf)) : FnOk P w K mg base CX0 2 f fd ["pivots", "packed", "m"] spLo := by
  have GA : FnOk P w K mg base CX0 1 fA fdA ["packed", "place", "m"] spAt := ok_at A.fn gB gF
  refine F.ok scLo (fun vs H Q E h => ?_) (fun cdv A' outer s H vs Q E hr h => ?_)
  · obtain ⟨d, l, n, m, ks, row, rfl, _⟩ := h
    rfl
  · obtain ⟨d, l, n, m, ks, row, rfl, hm, n8, ll, lb, T, hd, q⟩ := h
    have hu := hu_of hr
    have mm : ∀ m ∈ Lat.tens, 1 ≤ m ∧ m ≤ 27 := by decide
    obtain ⟨m1, m27⟩ := mm m hm
    refine ⟨_, Evl.pss_cut (ps_for PassesOwn.never rfl (pi_list (pe_callB (cr_sortedDk rfl) (by rfl) zSorted (by decide +kernel) (pa_cons (pv 0) pa_nil))) (pg_name (i := 3) scLo.nd rfl (Or.inl rfl))
        (pss_cons (ps_set (i := 4) scLo.nd rfl (Or.inl rfl) (pe_dget hu (pv 0) (pv 3) (fun _ _ => rfl)))
        (pss_cons (ps_set (i := 5) scLo.nd rfl (Or.inl rfl) (pe_op op_fdiv (pe_call GA hr rfl A.g A.k A.b .nil pass0 (pa_cons (pv 1) (pa_cons (pv 3) (pa_cons (pv 2) pa_nil)))) (pe_op op_andM (pv 4) (pe_glob (v := .int 16777215) rfl gF ⟨_, rfl⟩))))
        (pss_one (ps_if (pt_cmpR op_ne (pv 5) pe_int (nomark _)) (pss_one (ps_set (i := 1) scLo.nd rfl (Or.inl rfl) (pe_op op_add (pv 1) (pe_op op_shlN (pe_op op_mul (pe_op op_sub (pv 2) (pv 5)) (pv 4)) (pe_op op_mul (pe_glob (v := .int 24) rfl gB ⟨_, rfl⟩) (pv 3)))))) pss_nil)))))
      (pss_one (ps_ret (pv 1))), ?_⟩
    refine ⟨fun σ' H' => ∃ (r : List Int) (z3 z4 z5 : Option V), σ' = [some (.ref d), some (.int (Lat.P r)), some (.int m), z3, z4, z5] ∧ More H H' ∧ (∀ a ∈ r, 0 ≤ a ∧ a < 2 ^ 24) ∧ LeftOv n m ks row l r, ?_, ?_⟩
    · have kl : ks.length ≤ n := nd_len n ks T.pv.nd T.pv.lt
      refine ⟨_, rfl, d, kvsOf ks row, ks.map fun k : Nat => (k : Int), rfl, .inl hd, ?_, by rw [List.length_map]; omega, fun ys p perm ord hp => ?_⟩
      · unfold kvsOf
        rw [List.map_map, List.map_map]
        rfl
      obtain ⟨zs, rfl, perm'⟩ : ∃ zs : List Nat, ys = zs.map (fun k : Nat => (k : Int)) ∧ zs.Perm ks := by
        refine ⟨ys.map Int.toNat, ?_, ?_⟩
        · rw [List.map_map]
          have : ∀ y ∈ ys, ((fun k : Nat => (k : Int)) ∘ Int.toNat) y = y := fun y hy => by
            obtain ⟨k, _, rfl⟩ := List.mem_map.mp (perm.mem_iff.mp hy)
            show ((Int.toNat (k : Int) : Nat) : Int) = (k : Int)
            rw [Int.toNat_natCast]
          rw [List.map_congr_left this, List.map_id']
        · have := perm.map Int.toNat
          rw [List.map_map] at this
          have e : (Int.toNat ∘ fun k : Nat => (k : Int)) = id := funext fun k => Int.toNat_natCast k
          rw [e, List.map_id] at this
          exact this
      have ord : (zs.map fun k : Nat => (k : Int)).Pairwise (· ≤ ·) := ord
      have asc : zs.Pairwise (· < ·) := by
        have nd := perm'.nodup_iff.mpr T.pv.nd
        have o2 := List.pairwise_map.mp ord
        exact (o2.and nd).imp fun {a b} h => by
          have := h.1
          have := h.2
          omega
      have mem : ∀ k, k ∈ zs ↔ k ∈ ks := fun k => perm'.mem_iff
      have zl : zs.length ≤ n := by rw [perm'.length_eq]; exact kl
      rw [List.map_map]
      have mp := new_more (o := .lst (zs.map (V.int ∘ fun k : Nat => (k : Int)))) hp
      have kp : (upd H p (.lst (zs.map (V.int ∘ fun k : Nat => (k : Int))))) p = some (.lst (zs.map (V.int ∘ fun k : Nat => (k : Int)))) := upd_same
      have hd2 := mp _ _ hd
      generalize upd H p (.lst (zs.map (V.int ∘ fun k : Nat => (k : Int)))) = H2 at mp kp hd2 ⊢
      refine ⟨p, rfl, ⟨_, SqL.of kp⟩, for_list (K := K) (a := p) (xs := zs.map (V.int ∘ fun k : Nat => (k : Int))) (fun i σ' H' => ∃ (r : List Int) (z3 z4 z5 : Option V), σ' = [some (.ref d), some (.int (Lat.P r)), some (.int m), z3, z4, z5] ∧ H' = H2 ∧ (∀ a ∈ r, 0 ≤ a ∧ a < 28 + 729 * (i : Int)) ∧ LeftOv n m (zs.take i) row l r)
        ⟨l, none, none, none, rfl, rfl, fun a ha => by have := lb a ha; omega, left_none ll⟩ (fun i σ H' _ ⟨_, _, _, _, _, e, _⟩ => by rw [e]; exact SqL.of kp) ?_ ?_⟩
      · rintro i y σ G hy ⟨r, z3, z4, z5, rfl, rfl, rb, L⟩
        obtain ⟨k, hk, rfl⟩ := map_at hy
        have hi := (List.getElem?_eq_some_iff.mp hk).1
        have kks : k ∈ ks := (mem k).mp (List.mem_of_getElem? hk)
        have kn := T.pv.lt k kks
        have tk : zs.take (i + 1) = zs.take i ++ [k] := take_snoc hk
        have sub : ∀ j ∈ zs.take i, j < k := fun j hj => by
          obtain ⟨t, ht⟩ := List.getElem?_of_mem hj
          have tl : t < i := by
            have := (List.getElem?_eq_some_iff.mp ht).1
            rw [List.length_take] at this
            omega
          rw [List.getElem?_take_of_lt tl] at ht
          have h1 := (List.getElem?_eq_some_iff.mp ht)
          have h2 := (List.getElem?_eq_some_iff.mp hk)
          have := List.pairwise_iff_getElem.mp asc t i h1.1 h2.1 tl
          rw [h1.2, h2.2] at this
          exact this
        have rS : ∀ a ∈ r, 0 ≤ a ∧ a < 2 ^ 24 := fun a ha => by have := rb a ha; exact ⟨this.1, by omega⟩
        have hp := T.pos k kks
        have rowS : ∀ a ∈ row k, 0 ≤ a ∧ a < 2 ^ 24 := fun a ha => by have := T.pv.rest k kks a ha; exact ⟨this.1, by omega⟩
        have hh : (row k).getD k 0 < (m : Int) := (mem_get (T.pv.rest k kks) (t := k) (by rw [T.pv.len k kks]; exact kn)).2
        refine ⟨_, rfl, _, rfl, d, _, rfl, .inl ⟨_, Sum.inl (k : Int), .inl hd2, rfl, (by rw [kvs_val, if_pos kks] : some (V.int (Lat.P ((row k).drop k))) = _)⟩, ?_⟩
        refine ⟨_, rfl, _, rfl, _, rfl, r, k, m, rfl, rS, by omega, _, rfl, _, 24, rfl, rfl, ?_⟩
        rw [Lat.P_low rowS k]
        obtain ⟨t, et⟩ : ∃ t, t = r.getD k 0 % (m : Int) / (row k).getD k 0 := ⟨_, rfl⟩
        have x0 := Int.emod_nonneg (r.getD k 0) (show (m : Int) ≠ 0 by omega)
        have x1 := Int.emod_lt_of_pos (r.getD k 0) (show (0 : Int) < m by omega)
        have t0 : 0 ≤ t ∧ t ≤ r.getD k 0 % (m : Int) := by rw [et]; exact ⟨Int.ediv_nonneg x0 (by omega), Int.ediv_le_self _ x0⟩
        refine ⟨_, _, rfl, rfl, ⟨hp, by omega⟩, ?_⟩
        show gName 5 (V.int (r.getD k 0 % (m : Int) / (row k).getD k 0)) _ _ _
        rw [← et]
        refine ⟨_, rfl, rfl, _, rfl, ite2 (fun z => ?_) (fun z => ?_)⟩
        · refine ⟨_, rfl, _, rfl, _, rfl, _, _, rfl, rfl, _, rfl, _, _, rfl, rfl, .inl ⟨by omega, by omega⟩, _, rfl, _, _, rfl, rfl, .inl ⟨by omega, by omega⟩, ((m : Int) - t) * Lat.P ((row k).drop k), 24 * k, rfl, rfl, ?_, _, _, rfl, rfl, ?_⟩
          · have b0 := Lat.P_nonneg (l := (row k).drop k) fun a ha => (rowS a (List.mem_of_mem_drop ha)).1
            have b1 := Lat.P_bits (l := (row k).drop k) fun a ha => rowS a (List.mem_of_mem_drop ha)
            have b2 : ((m : Int) - t) * Lat.P ((row k).drop k) ≤ 32 * Lat.P ((row k).drop k) := Int.mul_le_mul_of_nonneg_right (by omega) b0
            have b3 : (0 : Int) ≤ ((m : Int) - t) * Lat.P ((row k).drop k) := Int.mul_nonneg (by omega) b0
            have b4 : (2 : Int) ^ (24 * ((row k).drop k).length) ≤ 2 ^ 2400 := by
              have hl := T.pv.len k kks
              have := Nat.pow_le_pow_right (show 0 < 2 by decide) (show 24 * ((row k).drop k).length ≤ 2400 by rw [List.length_drop]; omega)
              exact_mod_cast this
            have b5 : (32 : Int) * 2 ^ 2400 = ((2 ^ 2405 : Nat) : Int) := by rw [show 2405 = 5 + 2400 from rfl, Nat.pow_add, Int.natCast_mul, Int.natCast_pow, Int.natCast_pow]; rfl
            refine shl_ok (n := 2405) ?_ (by omega)
            have : (((((m : Int) - t) * Lat.P ((row k).drop k)).natAbs : Nat) : Int) < ((2 ^ 2405 : Nat) : Int) := by
              rw [Int.natAbs_of_nonneg b3, ← b5]
              generalize (2 : Int) ^ 2400 = B at b4
              omega
            exact_mod_cast this
          · have le : r.length = (row k).length := by rw [L.len, T.pv.len k kks]
            have e : Lat.P r + ((m : Int) - t) * Lat.P ((row k).drop k) * 2 ^ (24 * k) = Lat.P (List.zipWith (fun a b => a + ((m : Int) - t) * b) r (row k)) := by
              rw [← Lat.P_add _ le, ← P_full (n := n) (m := m) (Nat.le_of_lt kn) (T.pv.len k kks) (T.low k kks), Int.mul_assoc]
            refine ⟨List.zipWith (fun a b => a + ((m : Int) - t) * b) r (row k), some (.int k), some (.int (Lat.P ((row k).drop k))), some (.int t), ?_, rfl, ?_, ?_⟩
            · rw [← e]
              rfl
            · refine zip_all le rb (T.pv.rest k kks) (by omega) fun a b a0 a1 b0 b1 => ?_
              have h1 : ((m : Int) - t) * b ≤ 27 * b := Int.mul_le_mul_of_nonneg_right (by omega) b0
              omega
            · rw [tk]
              exact left_step T (by omega) L kks sub t et
        · have z : t = 0 := by
            refine Decidable.byContradiction fun xn => z ?_
            rw [decide_eq_false (fun e => xn (V.int.inj e))]
            rfl
          exact ⟨r, _, _, _, rfl, rfl, fun a ha => by have := rb a ha; omega, by rw [tk]; exact left_skip T (by omega) L kks (by rw [← et]; exact z)⟩
      · rintro σ G ⟨r, z3, z4, z5, rfl, rfl, rb, L⟩
        rw [List.length_map] at L rb
        rw [List.take_length] at L
        exact ⟨r, _, _, _, rfl, mp, fun a ha => by have := rb a ha; exact ⟨this.1, by omega⟩, L.perm fun k => (mem k).symm⟩
    rintro σ1 H1 ⟨r, z3, z4, z5, rfl, m1, rb, L⟩
    exact ⟨_, rfl, q H1 r m1 rb L⟩
end
end K02

/-! fo: in_form -/
namespace K02
open PySem L2 Gd B5
abbrev sFo : Stmt := top 32
abbrev NFo : List Str := ["pivots", "width", "m", "formed", "place", "packed"]
section
variable {P : Program} {w : World} {K : PySem.W.Frag} {mg : Str → Option Value} {base : Heap} {f fL fU fP : Addr} {fd fdL fdU fdP : FuncData} {tb : Tok}
theorem scFo : FnScope NFo ["pivots", "width", "m"] (defScope sFo) := ⟨rfl, rfl, rfl, by decide +kernel, rfl, by decide +kernel, by decide +kernel⟩
theorem ok_fo (F : Fun K "in_form" "in_form" sFo f fd) (zSorted : mg "sorted" = none) (Lo : Cl K mg "left_over" sLo ["pivots", "packed", "m"] fL fdL) (GL : FnOk P w K mg base CX0 2 fL fdL ["pivots", "packed", "m"] spLo)
    (U : Cl K mg "unpack" sUn ["packed", "width", "m"] fU fdU) (GU : FnOk P w K mg base CX0 1 fU fdU ["packed", "width", "m"] spUn) (Pk : Cl K mg "pack" sPack ["row", "m"] fP fdP) (GP : FnOk P w K mg base CX0 1 fP fdP ["row", "m"] (spPack K)) (gB : mg "BITS" = some (.int 24 tb)) :
    FnOk P w K mg base CX0 3 f fd ["pivots", "width", "m"] spFo := by
  refine F.ok scFo (fun vs H Q E h => ?_) (fun cdv A' outer s H vs Q E hr h => ?_)
  · obtain ⟨d, n, m, ks, row, rfl, _⟩ := h
    rfl
  · obtain ⟨d, n, m, ks, row, rfl, hm, n4, n8', pv0, hd, g, q⟩ := h
    have hu := hu_of hr
    have hr1 : Room 1 _ := hr.mono (by decide)
    have mm : ∀ m ∈ Lat.tens, 1 ≤ m ∧ m ≤ 27 := by decide
    obtain ⟨m1, m27⟩ := mm m hm
    have T := Tr.of pv0 g
    refine ⟨_, pss_cons (ps_set (i := 3) scFo.nd rfl (Or.inl rfl) pe_dnewK)
      (Evl.pss_cut (ps_for PassesOwn.never rfl (pi_list (pe_callBK (cr_sortedDkRev (b := true) rfl) (by rfl) zSorted (by decide +kernel) (pa_cons (pv 0) pa_nil) (pk_cons pe_bl pk_nil))) (pg_name (i := 4) scFo.nd rfl (Or.inl rfl))
        (pss_cons (ps_set (i := 5) scFo.nd rfl (Or.inl rfl) (pe_call GL hr rfl Lo.g Lo.k Lo.b .nil pass0 (pa_cons (pv 3) (pa_cons (pe_op op_shlN (pe_dget hu (pv 0) (pv 4) (fun _ _ => rfl)) (pe_op op_mul (pe_glob (v := .int 24) rfl gB ⟨_, rfl⟩) (pv 4))) (pa_cons (pv 2) pa_nil)))))
        (pss_one (ps_dput hu (pv 3) (pv 4) (pe_call GP hr1 rfl Pk.g Pk.k Pk.b .nil pass0 (pa_cons (pe_slice sl_tupA (pe_call GU hr1 rfl U.g U.k U.b .nil pass0 (pa_cons (pv 5) (pa_cons (pv 1) (pa_cons (pv 2) pa_nil)))) (po_some (pv 4)) po_none) (pa_cons (pv 2) pa_nil))) rfl))))
      (pss_one (ps_ret (pv 3)))), ?_⟩
    intro d' hd'
    have nd' : d ≠ d' := ne_of_none hd hd'
    have m0 : More H (upd H d' (.dK [])) := new_more hd'
    refine ⟨fun σ' H' => ∃ (zs : List Nat) (row' : Nat → List Int) (z4 z5 : Option V), σ' = [some (.ref d), some (.int n), some (.int m), some (.ref d'), z4, z5] ∧ More H H' ∧ H' d' = some (.dK (kvsOf zs row')) ∧ (∀ k, k ∈ zs ↔ k ∈ ks) ∧ FormI n m zs row row', ?_, ?_⟩
    · have kl : ks.length ≤ n := nd_len n ks pv0.nd pv0.lt
      refine ⟨_, rfl, rfl, d, kvsOf ks row, ks.map fun k : Nat => (k : Int), rfl, .inl (m0 _ _ hd), ?_, by rw [List.length_map]; omega, fun ys p perm ord hp => ?_⟩
      · unfold kvsOf
        rw [List.map_map, List.map_map]
        rfl
      obtain ⟨zs, rfl, perm'⟩ : ∃ zs : List Nat, ys = zs.map (fun k : Nat => (k : Int)) ∧ zs.Perm ks := by
        refine ⟨ys.map Int.toNat, ?_, ?_⟩
        · rw [List.map_map]
          have : ∀ y ∈ ys, ((fun k : Nat => (k : Int)) ∘ Int.toNat) y = y := fun y hy => by
            obtain ⟨k, _, rfl⟩ := List.mem_map.mp (perm.mem_iff.mp hy)
            show ((Int.toNat (k : Int) : Nat) : Int) = (k : Int)
            rw [Int.toNat_natCast]
          rw [List.map_congr_left this, List.map_id']
        · have := perm.map Int.toNat
          rw [List.map_map] at this
          have e : (Int.toNat ∘ fun k : Nat => (k : Int)) = id := funext fun k => Int.toNat_natCast k
          rw [e, List.map_id] at this
          exact this
      have ord : (zs.map fun k : Nat => (k : Int)).Pairwise (· ≥ ·) := ord
      have dsc : zs.Pairwise (· > ·) := by
        have nd := perm'.nodup_iff.mpr pv0.nd
        have o2 := List.pairwise_map.mp ord
        exact (o2.and nd).imp fun {a b} h => by
          have := h.1
          have := h.2
          omega
      have mem : ∀ k, k ∈ zs ↔ k ∈ ks := fun k => perm'.mem_iff
      have zl : zs.length ≤ n := by rw [perm'.length_eq]; exact kl
      rw [List.map_map]
      have mp := new_more (o := .lst (zs.map (V.int ∘ fun k : Nat => (k : Int)))) hp
      have kp : (upd (upd H d' (.dK [])) p (.lst (zs.map (V.int ∘ fun k : Nat => (k : Int))))) p = some (.lst (zs.map (V.int ∘ fun k : Nat => (k : Int)))) := upd_same
      have hd2 := mp _ _ (m0 _ _ hd)
      have hd2' := mp _ _ (show (upd H d' (.dK [])) d' = some (.dK []) from upd_same)
      have np : p ≠ d' := fun e => by
        rw [e, upd_same] at hp
        cases hp
      have mH2 : More H (upd (upd H d' (.dK [])) p (.lst (zs.map (V.int ∘ fun k : Nat => (k : Int))))) := fun b o e => mp _ _ (m0 _ _ e)
      generalize upd (upd H d' (.dK [])) p (.lst (zs.map (V.int ∘ fun k : Nat => (k : Int)))) = H2 at kp hd2 hd2' mH2 ⊢
      refine ⟨p, rfl, ⟨_, SqL.of kp⟩, for_list (K := K) (a := p) (xs := zs.map (V.int ∘ fun k : Nat => (k : Int))) (fun i σ' H' => ∃ (row' : Nat → List Int) (z4 z5 : Option V), σ' = [some (.ref d), some (.int n), some (.int m), some (.ref d'), z4, z5] ∧ Off d' H2 H' ∧ H' d' = some (.dK (kvsOf (zs.take i) row')) ∧ FormI n m (zs.take i) row row')
        ⟨fun _ => [], none, none, rfl, Off.refl, hd2', formI_none⟩ (fun i σ H' _ ⟨_, _, _, _, o, _⟩ => SqL.of (o _ _ kp np)) ?_ ?_⟩
      · rintro i y σ G hy ⟨row', z4, z5, rfl, off, kd, Fi⟩
        obtain ⟨k, hk, rfl⟩ := map_at hy
        have hi := (List.getElem?_eq_some_iff.mp hk).1
        have kks : k ∈ ks := (mem k).mp (List.mem_of_getElem? hk)
        have kn := pv0.lt k kks
        have n8 := n8' (fun z => by rw [z] at kks; cases kks)
        have tk : zs.take (i + 1) = zs.take i ++ [k] := take_snoc hk
        have sub : ∀ j ∈ zs.take i, k < j := fun j hj => by
          obtain ⟨t, ht⟩ := List.getElem?_of_mem hj
          have tl : t < i := by
            have := (List.getElem?_eq_some_iff.mp ht).1
            rw [List.length_take] at this
            omega
          rw [List.getElem?_take_of_lt tl] at ht
          have h1 := (List.getElem?_eq_some_iff.mp ht)
          have h2 := (List.getElem?_eq_some_iff.mp hk)
          have := List.pairwise_iff_getElem.mp dsc t i h1.1 h2.1 tl
          rw [h1.2, h2.2] at this
          exact this
        have rowS : ∀ a ∈ row k, 0 ≤ a ∧ a < 2 ^ 24 := fun a ha => by have := pv0.rest k kks a ha; exact ⟨this.1, by omega⟩
        have hdG := off _ _ hd2 nd'
        refine ⟨_, rfl, _, rfl, _, rfl, d, _, rfl, .inl ⟨_, Sum.inl (k : Int), .inl hdG, rfl, (by rw [kvs_val, if_pos kks] : some (V.int (Lat.P ((row k).drop k))) = _)⟩, _, rfl, _, _, rfl, rfl, .inl ⟨by omega, by omega⟩, Lat.P ((row k).drop k), 24 * k, rfl, rfl, ?_, ?_⟩
        · have b0 := Lat.P_nonneg (l := (row k).drop k) fun a ha => (rowS a (List.mem_of_mem_drop ha)).1
          have b1 := Lat.P_bits (l := (row k).drop k) fun a ha => rowS a (List.mem_of_mem_drop ha)
          have b4 : (2 : Int) ^ (24 * ((row k).drop k).length) ≤ ((2 ^ 2400 : Nat) : Int) := by
            have hl := pv0.len k kks
            have := Nat.pow_le_pow_right (show 0 < 2 by decide) (show 24 * ((row k).drop k).length ≤ 2400 by rw [List.length_drop]; omega)
            exact_mod_cast this
          refine shl_ok (n := 2400) ?_ (by omega)
          have : (((Lat.P ((row k).drop k)).natAbs : Nat) : Int) < ((2 ^ 2400 : Nat) : Int) := by
            rw [Int.natAbs_of_nonneg b0]
            exact Int.lt_of_lt_of_le b1 b4
          exact_mod_cast this
        rw [P_full (n := n) (m := m) (Nat.le_of_lt kn) (pv0.len k kks) (T.low k kks)]
        refine ⟨_, rfl, d', row k, n, m, zs.take i, row', rfl, hm, n8, pv0.len k kks, pv0.rest k kks, Fi.tr, kd, fun G1 r m1 rb L => ?_⟩
        have Fn := formI_step (by omega) T Fi kks sub L
        refine ⟨_, rfl, _, rfl, _, rfl, r, n, m, rfl, rb, by omega, by omega, fun G2 t m2 nt kt => ?_⟩
        have eg : ((List.range n).map fun j => r.getD j 0 % (m : Int)) = r.map (· % (m : Int)) := by
          refine List.ext_getElem? fun j => ?_
          rw [List.getElem?_map, List.getElem?_map]
          rcases Nat.lt_or_ge j n with lt | ge
          · rw [List.getElem?_range lt, List.getElem?_eq_getElem (by rw [L.len]; exact lt)]
            show some (r.getD j 0 % (m : Int)) = some (r[j]'(by rw [L.len]; exact lt) % (m : Int))
            rw [List.getD_eq_getElem?_getD, List.getElem?_eq_getElem (by rw [L.len]; exact lt)]
            rfl
          · rw [List.getElem?_eq_none (by rw [List.length_range]; omega), List.getElem?_eq_none (by rw [L.len]; exact ge)]
            rfl
        rw [eg] at kt
        generalize hgr : r.map (· % (m : Int)) = gr at *
        have grl : gr.length = n := by rw [← hgr, List.length_map]; exact L.len
        have grm : gr.map (· % (m : Int)) = gr := by
          rw [← hgr, List.map_map]
          refine List.map_congr_left fun a _ => ?_
          exact Int.emod_emod_of_dvd a (Int.dvd_refl _)
        have kdl : (kvsOf (zs.take i) row').length < sizeLine := by
          unfold kvsOf
          rw [List.length_map]
          exact small1000 (by rw [List.length_take]; omega)
        have kzs : k ∉ zs.take i := fun z => Nat.lt_irrefl k (sub k z)
        have m02 : More G G2 := fun b o e => m2 _ _ (m1 _ _ e)
        have gdm : (gr.drop k).map (· % (m : Int)) = gr.drop k := by rw [List.map_drop, grm]
        have last : ∀ G3, More G2 G3 → ∃ (rw' : Nat → List Int) (z4 z5 : Option V), [some (.ref d), some (.int n), some (.int m), some (.ref d'), some (.int k), some (.int (Lat.P r))] = [some (.ref d), some (.int n), some (.int m), some (.ref d'), z4, z5] ∧
            Off d' H2 (upd G3 d' (.dK (putK (kvsOf (zs.take i) row') (Sum.inl (k : Int)) (V.int (Lat.P (gr.drop k)))))) ∧ (upd G3 d' (.dK (putK (kvsOf (zs.take i) row') (Sum.inl (k : Int)) (V.int (Lat.P (gr.drop k)))))) d' = some (.dK (kvsOf (zs.take (i + 1)) rw')) ∧ FormI n m (zs.take (i + 1)) row rw' := fun G3 m3 => by
          refine ⟨setR row' k gr, _, _, rfl, fun b o e nb => ?_, ?_, by rw [tk]; exact Fn⟩
          · rw [upd_ne nb]
            exact m3 _ _ (m02 _ _ (off b o e nb))
          · rw [upd_same, kvs_put, if_neg kzs, tk]
        refine ⟨_, rfl, _, rfl, t, gr.map V.int, rfl, SqT.of kt, fun hw => ?_, fun hw S hS => ?_⟩
        · have k0 : gr.drop k = gr := by
            have h1 : min k (gr.map V.int).length = 0 := by
              have := hw.1
              rw [HT.sIx_nat] at this
              exact this
            rw [List.length_map, grl] at h1
            have : k = 0 := by omega
            rw [this, List.drop_zero]
          refine ⟨_, rfl, t, gr.drop k, m, rfl, .inr (by rw [k0]; exact SqT.of kt), by rw [List.length_drop]; omega, by omega, by omega, fun G3 m3 => ?_⟩
          rw [gdm]
          exact ⟨_, rfl, _, rfl, d', _, rfl, .inl ⟨_, Sum.inl (k : Int), m3 _ _ (m02 _ _ kd), rfl, kdl, rfl⟩, last G3 m3⟩
        · have mS := new_more (o := .tup (cutV (gr.map V.int) (some (k : Int)) none)) hS
          have kS : (upd G2 S (.tup (cutV (gr.map V.int) (some (k : Int)) none))) S = some (.tup ((gr.drop k).map V.int)) := by
            rw [upd_same, cut_from (by rw [List.length_map]; omega), List.map_drop]
          refine ⟨_, rfl, S, gr.drop k, m, rfl, .inr (SqT.of kS), by rw [List.length_drop]; omega, by omega, by omega, fun G3 m3 => ?_⟩
          rw [gdm]
          have m3' : More G2 G3 := fun b o e => m3 _ _ (mS _ _ e)
          exact ⟨_, rfl, _, rfl, d', _, rfl, .inl ⟨_, Sum.inl (k : Int), m3' _ _ (m02 _ _ kd), rfl, kdl, rfl⟩, last G3 m3'⟩
      · rintro σ G ⟨row', z4, z5, rfl, off, kd, Fi⟩
        rw [List.length_map, List.take_length] at Fi kd
        refine ⟨zs, row', _, _, rfl, fun b o e => ?_, kd, mem, Fi⟩
        exact off _ _ (mH2 _ _ e) (ne_of_none e hd')
    rintro σ1 H1 ⟨zs, row', z4, z5, rfl, m1, kd, mem, Fi⟩
    obtain ⟨g', same, rd⟩ := formI_done (by omega) pv0 g Fi mem
    exact ⟨_, rfl, q H1 d' zs row' mem Fi.tr.pv g' same rd hd' kd m1⟩
end
end K02

/-! Rp: a tuple times 0 or 1. -/
namespace Gd
open PySem PySem.Spec PyProof.Rows L2
theorem mul_one (l : Addr) (items : Array Value) (n : Nat) (dd : Option Addr) (sl : Array (Option Value)) (u : Tok) :
    Meets (Builtin.«tuple.__mul__» ⟨[.ref l, .int 1 u], []⟩)
      (fun _ R s => s.heap.get? l = some { cls := .type "tuple", dict := dd, data := .seq items n, slots := sl } ∧ R (.ok (.ret (Value.ref l))) s) :=
  .of_wp fun prog w A R s h => by
    obtain ⟨hp, g, d, tk, os⟩ := s
    obtain ⟨hl, h⟩ := h
    have f1 := AutoSeq1.idx_int
    wp_walk using wpAny_loadPart' hl
    repeat (first
      | (refine wpAny_ite_false (by decide) ?_; wp_walk using wpAny_loadPart' hl)
      | (refine wpAny_ite_true (by simp) ?_; wp_walk using wpAny_loadPart' hl))
    exact ⟨_, rfl, h⟩
theorem mul_zero (l : Addr) (items : Array Value) (n : Nat) (dd : Option Addr) (sl : Array (Option Value)) (u : Tok) (ne : items.isEmpty = false) :
    Meets (Builtin.«tuple.__mul__» ⟨[.ref l, .int 0 u], []⟩)
      (fun _ R s => s.heap.get? l = some { cls := .type "tuple", dict := dd, data := .seq items n, slots := sl } ∧
        R (.ok (.ret (Value.ref s.heap.objs.size))) { s with heap := s.heap.push { cls := Value.type "tuple", data := Data.seq #[] }, toks := s.toks }) :=
  .of_wp fun prog w A R s h => by
    obtain ⟨hp, g, d, tk, os⟩ := s
    obtain ⟨hl, h⟩ := h
    have f1 := AutoSeq1.idx_int
    wp_walk using wpAny_loadPart' hl
    repeat (first
      | (refine wpAny_ite_false (by simp [ne]) ?_; wp_walk using wpAny_loadPart' hl)
      | (refine wpAny_ite_true (by simp [ne]) ?_; wp_walk using wpAny_loadPart' hl))
    exact ⟨_, rfl, h⟩

/-- a tuple times a small number -/
def rRepN (K : PySem.W.Frag) : R2 := fun x y H Q => rRepT K x y H Q ∨ ∃ (l : Addr) (k : Int) (xs : List V), x = .ref l ∧ y = .int k ∧ SqT K H l xs ∧ xs ≠ [] ∧
  ((k = 1 ∧ Q (.ref l) H) ∨ (k = 0 ∧ ∀ p, H p = none → Q (.ref p) (upd H p (.tup []))))
theorem op_repN {X : Cx} : OpR X (binaryOp .Mult) (rRepN X.K) := by
  intro pins s σ H x y v u Q I rx ry h
  obtain h | ⟨l, k, xs, rfl, rfl, hT, hne, h⟩ := h
  · exact op_repT pins s σ H x y v u Q I rx ry h
  cases rx
  obtain ⟨t, rfl⟩ := ry
  obtain ⟨its, r, ⟨⟨cls, dd, data, sl⟩, ho, hc, n, hd⟩, hs⟩ := I.tuple hT
  simp only at hc hd
  subst hc hd
  have hn : its.toArray.isEmpty = false := by
    cases its with
    | cons a b => rfl
    | nil =>
      have e := r.length
      exact (hne (List.eq_nil_of_length_eq_zero e)).elim
  have is : s.TypeIs (.ref l) "tuple" := ⟨_, ho, rfl⟩
  obtain ⟨rfl, q⟩ | ⟨rfl, q⟩ := h
  · refine wpAny_binaryOp_repeat_ref (T := "tuple") (U := "int") (by decide) is (fun s' => typeIs_int s' 1 t) noFill_tuple_mul F.fills_int_mul F.slot_int_rmul repeat_tuple F.slot_int_index.lookup
      (call_meets F.slot_int_rmul (typeIs_int s 1 t) F.entry_int_rmul (F.args_int_rmul_2 _ _) (int_rmul_tuple 1 t l its.toArray n dd sl)
        ⟨ho, rfl, is, call_meets F.slot_tuple_mul is F.entry_tuple_mul (F.args_tuple_mul_2 _ _) (mul_one l its.toArray n dd sl t) ⟨ho, ?_⟩⟩)
    exact ⟨.ref l, H, I, rfl, q⟩
  · refine wpAny_binaryOp_repeat_ref (T := "tuple") (U := "int") (by decide) is (fun s' => typeIs_int s' 0 t) noFill_tuple_mul F.fills_int_mul F.slot_int_rmul repeat_tuple F.slot_int_index.lookup
      (call_meets F.slot_int_rmul (typeIs_int s 0 t) F.entry_int_rmul (F.args_int_rmul_2 _ _) (int_rmul_tuple 0 t l its.toArray n dd sl)
        ⟨ho, rfl, is, call_meets F.slot_tuple_mul is F.entry_tuple_mul (F.args_tuple_mul_2 _ _) (mul_zero l its.toArray n dd sl t hn) ⟨ho, ?_⟩⟩)
    refine ⟨.ref s.heap.objs.size, _, I.laid (t' := s.toks) (o := .tup []) (fun b ob q => Heap.get?_push_of_some _ q) (Nat.le_refl _) ?_, rfl, q _ (I.hok.fresh (Nat.le_refl _))⟩
    exact ⟨Nat.zero_le _, _, .nil, IsTup.new _ _⟩

/-- two tuples of the same flat values -/
theorem items_same {A : Around} {s : Shared} : ∀ {xs : List V} {us ws : List Value}, xs.all flatB = true → Vals xs us → Vals xs ws →
    ∀ j (h1 : j < us.length) (h2 : j < ws.length), SeqAt.EqAt A s us[j] ws[j] true
  | _, _, _, _, .nil, .nil, j, h1, _ => absurd h1 (Nat.not_lt_zero j)
  | _, _, _, f, .cons a as, .cons b bs, j, h1, h2 => by
    rw [List.all_cons, Bool.and_eq_true] at f
    cases j with
    | zero => exact eqAt_same a b f.1
    | succ j => exact items_same f.2 as bs j (Nat.lt_of_succ_lt_succ h1) (Nat.lt_of_succ_lt_succ h2)
def rTS (K : PySem.W.Frag) (r : Bool) : R2 := fun x y H Q => ∃ (a b : Addr) (xs : List V), x = .ref a ∧ y = .ref b ∧ SqT K H a xs ∧ SqT K H b xs ∧
  xs.all flatB = true ∧ Q (.bl r) H
section
variable {X : Cx}
theorem all_true {m n : Nat} (h : m = n) : ((List.range (min m n)).all (fun _ => true) && m == n) = true := by
  subst h
  rw [beq_self_eq_true, Bool.and_true]
  exact List.all_eq_true.mpr fun _ _ => rfl
theorem op_eqTS (hu : X.A.units < cLine) : OpR X (compareOp .Eq) (rTS X.K true) := by
  intro pins s σ H x y v u Q I rx ry h
  obtain ⟨a, b, xs, rfl, rfl, ha, hb, f, q⟩ := h
  cases (show v = Value.ref a from rx)
  cases (show u = Value.ref b from ry)
  obtain ⟨us, r1, p1, _⟩ := I.tuple ha
  obtain ⟨ws, r2, p2, _⟩ := I.tuple hb
  have same : us.toArray.size = ws.toArray.size := by
    rw [List.size_toArray, List.size_toArray, ← r1.length, ← r2.length]
  have all := SeqAt.RcAt.tuples (A := X.A) (s := s) (e := fun _ => true) p1 p2 hu fun j h1 h2 => by
    have k := items_same (A := X.A.in1) (s := s) f r1 r2 j (by simpa using h1) (by simpa using h2)
    simpa using k
  refine all X.prog X.w _ _ ?_
  rw [all_true same]
  exact ⟨.bl true, H, I, rfl, q⟩
theorem op_neTS (hu : X.A.units < cLine) : OpR X (compareOp .NotEq) (rTS X.K false) := by
  intro pins s σ H x y v u Q I rx ry h
  obtain ⟨a, b, xs, rfl, rfl, ha, hb, f, q⟩ := h
  cases (show v = Value.ref a from rx)
  cases (show u = Value.ref b from ry)
  obtain ⟨us, r1, p1, _⟩ := I.tuple ha
  obtain ⟨ws, r2, p2, _⟩ := I.tuple hb
  have same : us.toArray.size = ws.toArray.size := by
    rw [List.size_toArray, List.size_toArray, ← r1.length, ← r2.length]
  have all := SeqAt.RcNeAt.tuples (A := X.A) (s := s) (e := fun _ => true) p1 p2 hu fun j h1 h2 => by
    have k := items_same (A := X.A.in1) (s := s) f r1 r2 j (by simpa using h1) (by simpa using h2)
    simpa using k
  refine all X.prog X.w _ _ ?_
  rw [all_true same]
  exact ⟨.bl false, H, I, rfl, q⟩
end
end Gd

/-! rb: rows_behind, rows_of -/
namespace K02
open PySem L2 Gd B5
abbrev sRb : Stmt := top 34
abbrev sRo : Stmt := top 33
abbrev NRb : List Str := ["pivots", "places", "width", "m", "place"]
section
variable {P : Program} {w : World} {K : PySem.W.Frag} {mg : Str → Option Value} {base : Heap} {f fU fR : Addr} {fd fdU fdR : FuncData}
theorem scRb : FnScope NRb ["pivots", "places", "width", "m"] (defScope sRb) := ⟨rfl, rfl, rfl, by decide +kernel, rfl, by decide +kernel, by decide +kernel⟩
theorem scRo : FnScope ["pivots", "width", "m"] ["pivots", "width", "m"] (defScope sRo) := ⟨rfl, rfl, rfl, by decide +kernel, rfl, by decide +kernel, by decide +kernel⟩
theorem repN_end {H : Hp} {l : Addr} {x : V} {c : Nat} {Q : VK} (hl : H l = some (.tup [x])) (hc : c ≤ 1000) (q : ∀ (H' : Hp) (p : Addr), More H H' → H' p = some (.tup (List.replicate c x)) → Q (.ref p) H') : rRepN K (.ref l) (.int (c : Nat)) H Q := by
  rcases Nat.lt_or_ge c 2 with lt | ge
  · refine .inr ⟨l, (c : Nat), [x], rfl, rfl, SqT.of hl, by simp, ?_⟩
    rcases Nat.lt_or_ge c 1 with lt' | ge'
    · obtain rfl : c = 0 := by omega
      exact .inr ⟨rfl, fun p hp => q _ p (new_more hp) upd_same⟩
    · obtain rfl : c = 1 := by omega
      exact .inl ⟨rfl, q H l (fun _ _ e => e) hl⟩
  · refine .inl ⟨l, (c : Nat), [x], rfl, rfl, SqT.of hl, by simp, by omega, by omega, by simp, fun p hp => q _ p (new_more hp) ?_⟩
    rw [upd_same, Int.toNat_natCast, List.flatten_replicate_singleton]
theorem ok_rb (F : Fun K "rows_behind" "rows_behind" sRb f fd) (B : Blt mg) (zSorted : mg "sorted" = none) (U : Cl K mg "unpack" sUn ["packed", "width", "m"] fU fdU) (GU : FnOk P w K mg base CX0 1 fU fdU ["packed", "width", "m"] spUn) :
    FnOk P w K mg base CX0 2 f fd ["pivots", "places", "width", "m"] spRb := by
  refine F.ok scRb (fun vs H Q E h => ?_) (fun cdv A' outer s H vs Q E hr h => ?_)
  · obtain ⟨d, pl, n, m, ks, row, rfl, _⟩ := h
    rfl
  · obtain ⟨d, pl, n, m, ks, row, rfl, hm, n8, T, hd, q⟩ := h
    have hu := hu_of hr
    have mm : ∀ m ∈ Lat.tens, 1 ≤ m ∧ m ≤ 27 := by decide
    obtain ⟨m1, m27⟩ := mm m hm
    refine ⟨_, pss_one (ps_ret (pe_callTy call_tuple_of (by rfl) B.tup_ (by decide +kernel) (pa_cons
      (pe_lc (own := [("place", 4)]) (g := gName 4) rfl scRb.nd (pi_list (pe_callB (cr_sortedDk rfl) (by rfl) zSorted (by decide +kernel) (pa_cons (pv 0) pa_nil))) (blkOk_by (N := NRb) (sc := defScope sRb) (by decide +kernel))
        (fun _ _ _ _ _ => pg_name (i := 4) scRb.nd rfl (Or.inl rfl)) (fun _ _ _ _ _ => pts_one (pt_cmpR (r := rGe) op_ge (pv 4) (pv 1) rfl))
        (fun _ _ _ _ _ => pe_op (r := rCatA K) op_catA (pe_op (r := rRepN K) op_repN (pe_tup (pa_cons pe_int pa_nil)) (pe_op (r := rI0 fun i j => .int (i - j)) op_sub (pv 4) (pv 1)))
          (pe_call GU hr rfl U.g U.k U.b .nil pass0 (pa_cons (pe_dget hu (pv 0) (pv 4) (fun _ _ => rfl)) (pa_cons (pe_op (r := rI0 fun i j => .int (i - j)) op_sub (pv 2) (pv 4)) (pa_cons (pv 3) pa_nil)))))) pa_nil))), ?_⟩
    have kl : ks.length ≤ n := nd_len n ks T.pv.nd T.pv.lt
    refine ⟨_, rfl, d, kvsOf ks row, ks.map fun k : Nat => (k : Int), rfl, .inl hd, ?_, by rw [List.length_map]; omega, fun ys p perm ord hp => ?_⟩
    · unfold kvsOf
      rw [List.map_map, List.map_map]
      rfl
    obtain ⟨zs, rfl, perm', asc⟩ := asc_of T.pv.nd perm ord
    have mem : ∀ k, k ∈ zs ↔ k ∈ ks := fun k => perm'.mem_iff
    have zl : zs.length ≤ n := by rw [perm'.length_eq]; exact kl
    rw [List.map_map]
    have mp := new_more (o := .lst (zs.map (V.int ∘ fun k : Nat => (k : Int)))) hp
    have kp : (upd H p (.lst (zs.map (V.int ∘ fun k : Nat => (k : Int))))) p = some (.lst (zs.map (V.int ∘ fun k : Nat => (k : Int)))) := upd_same
    have hd2 := mp _ _ hd
    generalize upd H p (.lst (zs.map (V.int ∘ fun k : Nat => (k : Int)))) = H2 at mp kp hd2 ⊢
    refine ⟨p, rfl, ⟨_, SqL.of kp⟩, fun D hD => lc_list (K := K) (a := p) (xs := zs.map (V.int ∘ fun k : Nat => (k : Int))) (fun i H' => ∃ ts : List Addr, H' D = some (.lst (ts.map V.ref)) ∧ More H2 H' ∧ D ∉ ts ∧ Paired (fun (b : Addr) (r : List Int) => H' b = some (.tup (r.map V.int))) ts (((zs.take i).filter fun k => decide (pl ≤ k)).map fun k => (row k).drop pl))
      ⟨[], upd_same, new_more hD, List.not_mem_nil, .nil⟩ (fun i H' _ ⟨_, _, mm, _⟩ => SqL.of (mm _ _ kp)) ?_ ?_⟩
    · rintro i y G hy ⟨ts, kD, mG, nD, pr⟩
      obtain ⟨k, hk, rfl⟩ := map_at hy
      have kks : k ∈ ks := (mem k).mp (List.mem_of_getElem? hk)
      have kn := T.pv.lt k kks
      have rowS : ∀ a ∈ row k, 0 ≤ a ∧ a < 2 ^ 24 := fun a ha => by have := T.pv.rest k kks a ha; exact ⟨this.1, by omega⟩
      have tk := take_snoc hk
      refine ⟨rfl, _, rfl, _, rfl, _, _, rfl, rfl, _, rfl, ?_⟩
      rw [tk, List.filter_append, List.map_append]
      have out : ∀ (b : Addr) (G' : Hp), pl ≤ k → More G G' → G' b = some (.tup (((row k).drop pl).map V.int)) → ∃ acc, G' D = some (.lst acc) ∧ acc.length < sizeLine ∧ ∃ ts' : List Addr, (upd G' D (.lst (acc ++ [V.ref b]))) D = some (.lst (ts'.map V.ref)) ∧ More H2 (upd G' D (.lst (acc ++ [V.ref b]))) ∧ D ∉ ts' ∧
          Paired (fun (b' : Addr) (r : List Int) => (upd G' D (.lst (acc ++ [V.ref b]))) b' = some (.tup (r.map V.int))) ts' (((zs.take i).filter fun k => decide (pl ≤ k)).map (fun k => (row k).drop pl) ++ ([k].filter fun k => decide (pl ≤ k)).map fun k => (row k).drop pl) := fun b G' hpl mm kb => by
        have nb : b ≠ D := fun e => by
          rw [e, mm _ _ kD] at kb
          cases kb
        refine ⟨_, mm _ _ kD, ?_, ts ++ [b], ?_, More.at (fun b o e => mm _ _ (mG _ _ e)) hD, ?_, ?_⟩
        · rw [List.length_map, Paired.length pr, List.length_map]
          have := List.length_filter_le (fun k => decide (pl ≤ k)) (zs.take i)
          rw [List.length_take] at this
          exact small1000 (by omega)
        · rw [upd_same, List.map_append]
          rfl
        · intro z
          rcases List.mem_append.mp z with z | z
          · exact nD z
          · exact nb (List.mem_singleton.mp z).symm
        · rw [List.filter_cons_of_pos (by simpa using hpl)]
          refine paired_snoc ?_ (paired_memL (fun b' r hb' e => ?_) pr)
          · show (upd G' D _) b = _
            rw [upd_ne nb]
            exact kb
          · show (upd G' D _) b' = _
            rw [upd_ne (fun (e' : b' = D) => nD (e' ▸ hb'))]
            exact mm _ _ e
      refine ite2 (fun hz => ?_) (fun hz => ?_)
      · have hz : pl ≤ k := by
          have h1 : ((pl : Nat) : Int) ≤ ((k : Nat) : Int) := of_decide_eq_true hz
          omega
        refine ⟨by show 1 ≤ sizeLine; decide, fun l0 hl0 => ⟨_, rfl, _, rfl, _, _, rfl, rfl, ?_⟩⟩
        have m0 := new_more (o := .tup [V.int 0]) hl0
        show rRepN K (.ref l0) (.int ((k : Int) - (pl : Int))) _ _
        rw [← Int.natCast_sub hz]
        refine repN_end (K := K) upd_same (by omega) fun G1 p0 m1 kp0 => ?_
        have hdG := m1 _ _ (m0 _ _ (mG _ _ hd2))
        refine ⟨_, rfl, _, rfl, d, _, rfl, .inl ⟨_, Sum.inl (k : Int), .inl hdG, rfl, (by rw [kvs_val, if_pos kks] : some (V.int (Lat.P ((row k).drop k))) = _)⟩, _, rfl, _, rfl, _, _, rfl, rfl, _, rfl, (row k).drop k, n - k, m, ?_, fun a ha => rowS a (List.mem_of_mem_drop ha), by omega, by omega, fun G2 t m2 nt kt => ?_⟩
        · show [V.int (Lat.P ((row k).drop k)), V.int ((n : Int) - (k : Int)), V.int m] = _
          rw [← Int.natCast_sub (Nat.le_of_lt kn)]
        have eg : ((List.range (n - k)).map fun j => ((row k).drop k).getD j 0 % (m : Int)) = (row k).drop k := by
          have rl := T.pv.len k kks
          refine List.ext_getElem? fun j => ?_
          rw [List.getElem?_map]
          rcases Nat.lt_or_ge j (n - k) with lt | ge
          · rw [List.getElem?_range lt]
            have e : ((row k).drop k)[j]? = some (((row k).drop k)[j]'(by rw [List.length_drop]; omega)) := List.getElem?_eq_getElem _
            have r0 := T.pv.rest k kks _ (List.mem_of_mem_drop (List.mem_of_getElem? e))
            rw [e]
            show some (((row k).drop k).getD j 0 % (m : Int)) = _
            rw [List.getD_eq_getElem?_getD, e]
            exact congrArg some (Int.emod_eq_of_lt r0.1 r0.2)
          · rw [List.getElem?_eq_none (by rw [List.length_range]; omega), List.getElem?_eq_none (by rw [List.length_drop]; omega)]
            rfl
        rw [eg] at kt
        have rf := row_from (n := n) (m := m) (T.pv.len k kks) (Nat.le_of_lt kn) hz (T.low k kks)
        have kp2 := m2 _ _ kp0
        have m02 : More G G2 := fun b o e => m2 _ _ (m1 _ _ (m0 _ _ e))
        have ne0 : (((row k).drop k).map V.int) ≠ [] := by
          intro z
          have := congrArg List.length z
          rw [List.length_map, List.length_drop, T.pv.len k kks] at this
          simp at this
          omega
        refine ⟨p0, t, List.replicate (k - pl) (V.int 0), ((row k).drop k).map V.int, rfl, rfl, SqT.of kp2, SqT.of kt, ?_, fun z => ?_, fun _ z => absurd z ne0, fun _ _ p2 hp2 => ?_⟩
        · rw [List.length_replicate, List.length_map, List.length_drop, T.pv.len k kks, sizeLine_eq]
          omega
        · have : k - pl = 0 := by
            have := congrArg List.length z
            rw [List.length_replicate] at this
            exact this
          rw [this] at rf
          exact out t G2 hz m02 (by rw [← rf]; exact kt)
        · have m3 := new_more (o := .tup (List.replicate (k - pl) (V.int 0) ++ ((row k).drop k).map V.int)) hp2
          refine out p2 _ hz (fun b o e => m3 _ _ (m02 _ _ e)) ?_
          rw [upd_same, ← rf, List.map_append, List.map_replicate]
      · have hz : ¬ pl ≤ k := fun z => hz (decide_eq_true (show ((pl : Nat) : Int) ≤ ((k : Nat) : Int) by omega))
        rw [List.filter_cons_of_neg (by simpa using hz), List.filter_nil, List.map_nil, List.append_nil]
        exact ⟨ts, kD, mG, nD, pr⟩
    · rintro G ⟨ts, kD, mG, nD, pr⟩
      rw [List.length_map, List.take_length] at pr
      have m0G : More H G := fun b o e => mG _ _ (mp _ _ e)
      refine ⟨D, _, rfl, .inl ⟨SqL.of kD, fun t ht => ?_⟩⟩
      have mt := new_more (o := .tup (ts.map V.ref)) ht
      have t0 : H t = none := by
        cases z : H t with
        | none => rfl
        | some o =>
          rw [m0G t o z] at ht
          cases ht
      exact q _ t ts zs perm' asc (fun b o e => mt _ _ (m0G _ _ e)) t0 upd_same (paired_imp (fun b r e => mt _ _ e) pr)
def spRo : Sp := fun vs H Q _ => ∃ (d : Addr) (n m : Nat) (ks : List Nat) (row : Nat → List Int), vs = [.ref d, .int n, .int m] ∧ m ∈ Lat.tens ∧ n ≤ 400 ∧ Tr n m ks row ∧ H d = some (.dK (kvsOf ks row)) ∧
  ∀ (H' : Hp) (t : Addr) (ts : List Addr) (zs : List Nat), zs.Perm ks → zs.Pairwise (· < ·) → More H H' → H t = none → H' t = some (.tup (ts.map V.ref)) → Paired (fun (b : Addr) (r : List Int) => H' b = some (.tup (r.map V.int))) ts (zs.map row) → Q (.ref t) H'
theorem ok_ro (F : Fun K "rows_of" "rows_of" sRo f fd) (Rb : Cl K mg "rows_behind" sRb ["pivots", "places", "width", "m"] fR fdR) (GR : FnOk P w K mg base CX0 2 fR fdR ["pivots", "places", "width", "m"] spRb) :
    FnOk P w K mg base CX0 3 f fd ["pivots", "width", "m"] spRo := by
  refine F.ok scRo (fun vs H Q E h => ?_) (fun cdv A' outer s H vs Q E hr h => ?_)
  · obtain ⟨d, n, m, ks, row, rfl, _⟩ := h
    rfl
  · obtain ⟨d, n, m, ks, row, rfl, hm, n8, T, hd, q⟩ := h
    refine ⟨_, pss_one (ps_ret (pe_call GR hr rfl Rb.g Rb.k Rb.b .nil pass0 (pa_cons (pv 0) (pa_cons pe_int (pa_cons (pv 1) (pa_cons (pv 2) pa_nil)))))), ?_⟩
    refine ⟨_, rfl, _, rfl, _, rfl, d, 0, n, m, ks, row, rfl, hm, n8, T, hd, fun H' t ts zs perm asc mm nt kt pr => q H' t ts zs perm asc mm nt kt ?_⟩
    have e : (zs.filter fun k => decide (0 ≤ k)) = zs := List.filter_eq_self.mpr fun k _ => decide_eq_true (Nat.zero_le k)
    rw [e] at pr
    have e2 : (zs.map fun k => (row k).drop 0) = zs.map row := List.map_congr_left fun k _ => List.drop_zero
    rw [e2] at pr
    exact pr
end
end K02

/-! Fd: defs of the text whose last parameters have defaults. -/
namespace Gd
open PySem PySem.Spec PyProof.Rows L2
/-- a def of the text with the defaults dvs -/
structure FunE (K : PySem.W.Frag) (x qual : Str) (st : Stmt) (dvs : List V) (f : Addr) (fd : FuncData) : Prop where
  fn : FunD K x qual (defArgs st) (defBody st) (defScope st) dvs [] f fd
section
variable {P : Program} {w : World} {K : PySem.W.Frag} {mg : Str → Option Value} {base : Heap} {x qual : Str} {st : Stmt} {dvs : List V} {f : Addr} {fd : FuncData}
theorem FunE.kp (F : FunE K x qual st dvs f fd) : PySem.W.keepIn K (.ref f) = true := F.fn.kp
theorem funE_mk {oc dV kV doc pm cdv ct : Value} {od an : Option Addr} {osl : Array (Option Value)} (l : K.lookup f = some ⟨oc, od, .func (PySem.W.fnOf x qual (defArgs st) (defBody st) (defScope st) dV kV doc pm an cdv ct), osl⟩)
    (c : PySem.W.codeIn K cdv qual = true) (k : PySem.W.keepIn K (.ref f) = true) (d : DflV K dV dvs) : FunE K x qual st dvs f (PySem.W.fnOf x qual (defArgs st) (defBody st) (defScope st) dV kV doc pm an cdv ct) :=
  ⟨⟨⟨oc, od, dV, kV, doc, pm, an, cdv, ct, osl, rfl, l, c, d, .inl rfl⟩, k⟩⟩
theorem FunE.ok {N ps : List Str} {k : Nat} {sp : Sp} (F : FunE K x qual st dvs f fd) (S : FnScope N ps (defScope st)) (len : ∀ vs H Q E, sp vs H Q E → vs.length = ps.length)
    (hbody : ∀ (cdv : Value) (A : Around) (outer : List Env) (s : Shared) (H : Hp) (vs : List V) (Q : VK) (E : XK), Room k (A.deeper (envOfC qual (defScope st) s.heap.objs.size f cdv)) → sp vs H Q E →
      ∃ t, PSs (cxOf CX0 P w K mg base N qual (defScope st) f cdv A outer s H E).nox (defBody st) t ∧ t { nx := fun _ H' => Q .non H', rt := Q } (start N vs) H) : FnOk P w K mg base CX0 (k + 1) f fd ps sp := by
  refine F.fn.ok S len fun cdv A outer s H vs Q E hr hsp => ?_
  obtain ⟨t, h, q⟩ := hbody cdv A outer s H vs Q E hr hsp
  exact ⟨t, h.nox, q⟩
theorem FunE.okX {N ps : List Str} {k : Nat} {sp : Sp} (F : FunE K x qual st dvs f fd) (S : FnScope N ps (defScope st)) (len : ∀ vs H Q E, sp vs H Q E → vs.length = ps.length)
    (hbody : ∀ (cdv : Value) (A : Around) (outer : List Env) (s : Shared) (H : Hp) (vs : List V) (Q : VK) (E : XK), Room k (A.deeper (envOfC qual (defScope st) s.heap.objs.size f cdv)) → sp vs H Q E →
      ∃ t, PSs (cxOf (L2.CX P w) P w K mg base N qual (defScope st) f cdv A outer s H E) (defBody st) t ∧ t { nx := fun _ H' => Q .non H', rt := Q } (start N vs) H) : FnOk P w K mg base (L2.CX P w) (k + 1) f fd ps sp :=
  F.fn.ok S len hbody
/-- one default is left, and it is None -/
theorem FunE.binds1 {ps : List Str} (F : FunE K x qual st dvs f fd) (n j : Nat) (hd : dvs ≠ []) (hj : dvs.drop j = [.non]) (hn : n + 1 = ps.length)
    (h : ∀ (T : Addr) (kV doc pm : Value) (an : Option Addr) (cdv ct : Value) (us its : List Value), us.length = n → its.length = dvs.length →
      ∃ k, bindArgs (PySem.W.fnOf x qual (defArgs st) (defBody st) (defScope st) (.ref T) kV doc pm an cdv ct) ⟨us, []⟩ = seqItems? (.ref T) >>= k ∧ k (some its.toArray) = pure (ps.zip (us ++ its.drop j))) : Binds K fd ps [Value.none] := by
  have hl : dvs.length - j = 1 := by rw [← List.length_drop, hj]; rfl
  obtain ⟨ds, rv, b⟩ := F.fn.binds1 n j hd (by rw [hl]; exact hn) h
  rw [hj] at rv
  cases rv with
  | cons r t =>
    cases t
    cases r
    exact b
end
end Gd

/-! lot: Lot.__init__ -/
namespace K02
open PySem L2 Gd B5
abbrev sLI : Stmt := inClass (top 38) 0
abbrev NLI : List Str := ["self", "m", "width", "rows", "pivots"]
theorem scLI : FnScope NLI ["self", "m", "width", "rows"] (defScope sLI) := ⟨rfl, rfl, rfl, by decide +kernel, rfl, by decide +kernel, by decide +kernel⟩
section
variable {P : Program} {w : World} {K : PySem.W.Frag} {mg : Str → Option Value} {base : Heap} {C CN CR gC gF gO gR gS gL f : Addr} {dC dF dO dR dS dL fd : FuncData} {dvs : List V}
theorem ok_li (F : FunE K "__init__" "Lot.__init__" sLI dvs f fd) (Z : LotK K mg C)
    (Cr : Cl K mg "check_rows" sCr ["m", "width", "rows"] gC dC) (GC : FnOk P w K mg base (L2.CX P w) 4 gC dC ["m", "width", "rows"] (spCr K CN CR))
    (Fo : Cl K mg "in_form" sFo ["pivots", "width", "m"] gF dF) (GF : FnOk P w K mg base CX0 3 gF dF ["pivots", "width", "m"] spFo) (Po : Cl K mg "pivots_of" sPo ["rows", "width", "m"] gO dO) (GO : FnOk P w K mg base CX0 4 gO dO ["rows", "width", "m"] (spPo K))
    (Ro : Cl K mg "rows_of" sRo ["pivots", "width", "m"] gR dR) (GR : FnOk P w K mg base CX0 3 gR dR ["pivots", "width", "m"] spRo) (Sz : Cl K mg "size_of" sSz ["pivots", "m"] gS dS) (GS : FnOk P w K mg base CX0 2 gS dS ["pivots", "m"] spSz)
    (Lk : Cl K mg "least_makers" sLk ["rows", "size", "width", "m"] gL dL) (GL : FnOk P w K mg base (L2.CX P w) 5 gL dL ["rows", "size", "width", "m"] (spLk K)) : FnOk P w K mg base (L2.CX P w) 6 f fd ["self", "m", "width", "rows"] (spLI K C CN CR) := by
  refine F.okX scLI (fun vs H Q E h => ?_) (fun cdv A outer s H vs Q E hr h => ?_)
  · obtain ⟨a, dx, x, y, z, rfl, _⟩ := h
    rfl
  · obtain ⟨a, dx, x, y, z, rfl, ha, h⟩ := h
    have hr2 : Room 2 _ := hr.mono (by decide)
    have hr3 : Room 3 _ := hr.mono (by decide)
    have hr4 : Room 4 _ := hr.mono (by decide)
    refine ⟨_, pss_cons (ps_expr (pe_call GC hr4 rfl Cr.g Cr.k Cr.b .nil (passes_call (takes_of rfl rfl rfl rfl) (fun _ _ _ _ h => h)) (pa_cons (pv 1) (pa_cons (pv 2) (pa_cons (pv 3) pa_nil)))))
      (Evl.pss_cut (ps_set (i := 4) scLI.nd rfl (Or.inl rfl) (pe_call GF hr3 rfl Fo.g Fo.k Fo.b .nil pass0 (pa_cons (pe_call GO hr4 rfl Po.g Po.k Po.b .nil pass0 (pa_cons (pv 3) (pa_cons (pv 2) (pa_cons (pv 1) pa_nil)))) (pa_cons (pv 2) (pa_cons (pv 1) pa_nil)))))
      (pss_cons (ps_fld (pv 0) (pv 1) rfl)
      (Evl.pss_cut (ps_fld (pv 0) (pv 2) rfl)
      (Evl.pss_cut (ps_fld (pv 0) (pe_call GR hr3 rfl Ro.g Ro.k Ro.b .nil pass0 (pa_cons (pv 4) (pa_cons (pv 2) (pa_cons (pv 1) pa_nil)))) rfl)
      (Evl.pss_cut (ps_fld (pv 0) (pe_call GS hr2 rfl Sz.g Sz.k Sz.b .nil pass0 (pa_cons (pv 4) (pa_cons (pv 1) pa_nil))) rfl)
      (Evl.pss_cut (ps_fld (pv 0) (pe_call GL hr rfl Lk.g Lk.k Lk.b .nil (passes_call (takes_of rfl rfl rfl rfl) (fun _ _ _ _ h => h)) (pa_cons (pe_fld (pv 0) rfl) (pa_cons (pe_fld (pv 0) rfl) (pa_cons (pv 2) (pa_cons (pv 1) pa_nil))))) rfl)
      (pss_one (ps_fld (pv 0) (pv 4) rfl)))))))), ?_⟩
    obtain h | ⟨M, p, rfl, md, h⟩ := h
    · exact ⟨_, rfl, _, rfl, _, rfl, _, _, _, rfl, .inl h⟩
    obtain h | ⟨n, rfl, n4, h⟩ := h
    · exact ⟨_, rfl, _, rfl, _, rfl, _, _, _, rfl, .inr ⟨M, p, rfl, md, .inl h⟩⟩
    obtain h | ⟨b, ys, rs, rfl, sq, rows, few, n6, q⟩ := h
    · exact ⟨_, rfl, _, rfl, _, rfl, _, _, _, rfl, .inr ⟨M, p, rfl, md, .inr ⟨n, rfl, n4, .inl h⟩⟩⟩
    refine ⟨_, rfl, _, rfl, _, rfl, _, _, _, rfl, .inr ⟨M, p, rfl, md, .inr ⟨n, rfl, n4, .inr ⟨b, ys, rs, rfl, sq, rows, fun H1 m1 => ?_⟩⟩⟩⟩
    obtain ⟨M2, M27, pr, pM, mt, mt', pd⟩ := md.facts
    have rows1 : RowsAt K H1 n ys rs := ⟨rows.1, fun i y r hy hr => by
      obtain ⟨a', e, s, l⟩ := rows.2 i y r hy hr
      exact ⟨a', e, s.more m1, l⟩⟩
    -- the dict of the one form
    refine ⟨fun σ' H' => ∃ (d : Addr) (ks : List Nat) (row : Nat → List Int), σ' = [some (.ref a), some (.int M), some (.int n), some (.ref b), some (.ref d)] ∧ More H H' ∧ H d = none ∧ H' d = some (.dK (kvsOf ks row)) ∧ Piv n M ks row ∧ Lat.Good n M (hOf M ks row) ∧ (∀ u, Lat.Mem n (hOf M ks row) n u ↔ Lat.Gen n M (rowsSet rs) u) ∧ Redd n (hOf M ks row) ∧ (ks ≠ [] → n ≤ 60), ?_, ?_⟩
    · refine ⟨_, rfl, _, rfl, _, rfl, b, ys, rs, n, M, rfl, sq.more m1, rows1, mt, fun z => by have := n6 z; omega, few, fun H2 d0 ks0 row0 pv0 g0 s0 nd0 kd0 m2 => ?_⟩
      have kn : ks0 ≠ [] → n ≤ 60 := fun z => n6 fun e => z (no_keys (by omega) pv0 g0 (by rw [e] at s0; exact s0))
      refine ⟨_, rfl, _, rfl, d0, n, M, ks0, row0, rfl, mt, n4, fun z => by have := kn z; omega, pv0, kd0, g0, fun H3 d ks row mem pv g same rd nd kd m3 => ?_⟩
      have m12 : More H H2 := fun b o e => m2 _ _ (m1 _ _ e)
      refine ⟨d, ks, row, rfl, fun b o e => m3 _ _ (m12 _ _ e), ?_, kd, pv, g, fun u => (same u).trans (s0 u), rd, fun z => kn fun e => z ?_⟩
      · cases e : H d with
        | none => rfl
        | some o =>
          rw [m12 _ _ e] at nd
          cases nd
      · refine List.eq_nil_iff_forall_not_mem.mpr fun k hk => ?_
        have := (mem k).mp hk
        rw [e] at this
        cases this
    clear rows1 m1
    rintro σ2 H2 ⟨d, ks, row, rfl, m2, nd, kd, pv, g, same, rd, kn⟩
    have T := Tr.of pv g
    have nad : d ≠ a := fun e => by rw [e, ha] at nd; cases nd
    have ha2 := m2 _ _ ha
    -- modulus and width
    refine ⟨_, rfl, _, rfl, a, C, dx, _, rfl, ha2, Z.ic.cl, Z.n1, by show 0 < 1000; decide, ?_⟩
    refine ⟨fun σ' H' => σ' = [some (.ref a), some (.int M), some (.int n), some (.ref b), some (.ref d)] ∧ Off a H H' ∧ H' a = some (.ins C dx [("m", .int M), ("width", .int n)]) ∧ H' d = some (.dK (kvsOf ks row)), ?_, ?_⟩
    · refine ⟨_, rfl, _, rfl, a, C, dx, _, rfl, upd_same, Z.ic.cl, Z.n2, by show 1 < 1000; decide, rfl, fun b o e ne => ?_, upd_same, ?_⟩
      · rw [upd_ne ne, upd_ne ne]
        exact m2 _ _ e
      · rw [upd_ne nad, upd_ne nad]
        exact kd
    clear ha2 m2 kd
    rintro σ3 H3 ⟨rfl, o3, ha3, kd3⟩
    -- the rows
    refine ⟨fun σ' H' => ∃ (t : Addr) (ts : List Addr) (zs : List Nat), σ' = [some (.ref a), some (.int M), some (.int n), some (.ref b), some (.ref d)] ∧ Off a H H' ∧ H' a = some (.ins C dx [("m", .int M), ("width", .int n), ("rows", .ref t)]) ∧ H' d = some (.dK (kvsOf ks row)) ∧ zs.Perm ks ∧ zs.Pairwise (· < ·) ∧ a ≠ t ∧ a ∉ ts ∧ H' t = some (.tup (ts.map V.ref)) ∧ Paired (fun (b : Addr) (r : List Int) => H' b = some (.tup (r.map V.int))) ts (zs.map row), ?_, ?_⟩
    · refine ⟨_, rfl, _, rfl, _, rfl, d, n, M, ks, row, rfl, mt, n4, T, kd3, fun H4 t ts zs perm asc m4 nt kt pr => ?_⟩
      have ha4 := m4 _ _ ha3
      have nat : a ≠ t := fun e => by rw [← e, ha3] at nt; cases nt
      have nats : a ∉ ts := fun hm => by
        obtain ⟨i, hi⟩ := List.getElem?_of_mem hm
        obtain ⟨r, _, e⟩ := paired_at pr hi
        have e : H4 a = some (.tup (r.map V.int)) := e
        rw [ha4] at e
        cases e
      refine ⟨_, rfl, a, C, dx, _, rfl, ha4, Z.ic.cl, Z.n3, by show 2 < 1000; decide, t, ts, zs, rfl, fun b o e ne => ?_, upd_same, ?_, perm, asc, nat, nats, ?_, paired_memL (fun b r hb e => ?_) pr⟩
      · rw [upd_ne ne]
        exact m4 _ _ (o3 _ _ e ne)
      · rw [upd_ne nad]
        exact m4 _ _ kd3
      · rw [upd_ne nat.symm]
        exact kt
      · show (upd H4 a _) b = _
        rw [upd_ne (fun (e' : b = a) => nats (e' ▸ hb))]
        exact e
    clear o3 ha3 kd3
    rintro σ4 H4 ⟨t, ts, zs, rfl, o4, ha4, kd4, perm, asc, nat, nats, kt4, pr4⟩
    have mem : ∀ k, k ∈ zs ↔ k ∈ ks := fun k => perm.mem_iff
    obtain ⟨S, eS⟩ : ∃ S, S = Lat.siz M (hOf M ks row) n := ⟨_, rfl⟩
    have eSo := sizeOf_siz (m := M) (row := row) (by omega) n ks pv.nd pv.lt
    rw [← eS] at eSo
    -- the size
    refine ⟨fun σ' H' => σ' = [some (.ref a), some (.int M), some (.int n), some (.ref b), some (.ref d)] ∧ Off a H H' ∧ H' a = some (.ins C dx [("m", .int M), ("width", .int n), ("rows", .ref t), ("size", .int S)]) ∧ H' d = some (.dK (kvsOf ks row)) ∧ H' t = some (.tup (ts.map V.ref)) ∧ Paired (fun (b : Addr) (r : List Int) => H' b = some (.tup (r.map V.int))) ts (zs.map row), ?_, ?_⟩
    · refine ⟨_, rfl, _, rfl, d, n, M, ks, row, rfl, mt, n4, pv, kd4, T.pos, fun H5 m5 => ?_⟩
      rw [eSo]
      have ha5 := m5 _ _ ha4
      refine ⟨_, rfl, a, C, dx, _, rfl, ha5, Z.ic.cl, Z.n4, by show 3 < 1000; decide, rfl, fun b o e ne => ?_, upd_same, ?_, ?_, paired_memL (fun b r hb e => ?_) pr4⟩
      · rw [upd_ne ne]
        exact m5 _ _ (o4 _ _ e ne)
      · rw [upd_ne nad]
        exact m5 _ _ kd4
      · rw [upd_ne nat.symm]
        exact m5 _ _ kt4
      · show (upd H5 a _) b = _
        rw [upd_ne (fun (e' : b = a) => nats (e' ▸ hb))]
        exact m5 _ _ e
    clear o4 ha4 kd4 kt4 pr4
    rintro σ5 H5 ⟨rfl, o5, ha5, kd5, kt5, pr5⟩
    -- the least number of rows
    have zl : (zs.map row).length = ts.length := (Paired.length pr5).symm
    have rz : (zs.map row) ≠ [] → n ≤ 60 := fun z => kn fun e => z (by
      have : zs = [] := List.eq_nil_iff_forall_not_mem.mpr fun k hk => by
        have := (mem k).mp hk
        rw [e] at this
        cases this
      rw [this]
      rfl)
    have S400 : S < 2 ^ 400 := by
      by_cases e : ks = []
      · rw [e] at eSo
        rw [← eSo]
        show (1 : Int) < 2 ^ 400
        decide
      · rw [eS]
        exact siz_400 (by omega) M27 g (kn e)
    have gr := gen_rows pv g mem
    refine ⟨fun σ' H' => ∃ L : Nat, σ' = [some (.ref a), some (.int M), some (.int n), some (.ref b), some (.ref d)] ∧ Off a H H' ∧ H' a = some (.ins C dx [("m", .int M), ("width", .int n), ("rows", .ref t), ("size", .int S), ("least", .int L)]) ∧ H' d = some (.dK (kvsOf ks row)) ∧ H' t = some (.tup (ts.map V.ref)) ∧ Paired (fun (b : Addr) (r : List Int) => H' b = some (.tup (r.map V.int))) ts (zs.map row) ∧
        ∃ g', Lat.Good n M g' ∧ (∀ u, Lat.Mem n g' n u ↔ Lat.Gen n M (Lat.Fold p (rowsSet rs)) u) ∧ S = Lat.siz M g' n * ((p ^ L : Nat) : Int), ?_, ?_⟩
    · refine ⟨_, rfl, a, C, dx, _, _, rfl, ha5, Z.ic.cl, Z.n3, rfl, _, rfl, a, C, dx, _, _, rfl, ha5, Z.ic.cl, Z.n4, rfl, _, rfl, _, rfl, t, ts.map V.ref, zs.map row, n, M, p, S, rfl, .inr (SqT.of kt5), ⟨by rw [List.length_map, zl], fun i y r hy hr => ?_⟩, md, n4, rz, ?_, ⟨_, g, gr, eS⟩, S400, fun H6 L m6 least => ?_⟩
      · obtain ⟨b', hb, rfl⟩ := map_at hy
        obtain ⟨r', hr', e⟩ := paired_at pr5 hb
        rw [hr] at hr'
        cases hr'
        obtain ⟨k, hk, rfl⟩ := List.mem_map.mp (List.mem_of_getElem? hr)
        exact ⟨b', rfl, .inr (SqT.of e), pv.len k ((mem k).mp hk)⟩
      · rw [List.length_map, ← zl, List.length_map, perm.length_eq]
        have := nd_len n ks pv.nd pv.lt
        omega
      have ha6 := m6 _ _ ha5
      obtain ⟨g', G', sg', eL⟩ := least
      refine ⟨_, rfl, a, C, dx, _, rfl, ha6, Z.ic.cl, Z.n5, by show 4 < 1000; decide, L, rfl, fun b o e ne => ?_, upd_same, ?_, ?_, paired_memL (fun b r hb e => ?_) pr5, g', G', fun u => ?_, eL⟩
      · rw [upd_ne ne]
        exact m6 _ _ (o5 _ _ e ne)
      · rw [upd_ne nad]
        exact m6 _ _ kd5
      · rw [upd_ne nat.symm]
        exact m6 _ _ kt5
      · show (upd H6 a _) b = _
        rw [upd_ne (fun (e' : b = a) => nats (e' ▸ hb))]
        exact m6 _ _ e
      · rw [sg' u]
        exact ⟨Lat.fold_into fun r hr => (same r).mp ((gr r).mpr (.row hr)), Lat.fold_into fun r hr => (gr r).mp ((same r).mpr (.row hr))⟩
    clear o5 ha5 kd5 kt5 pr5
    rintro σ6 H6 ⟨L, rfl, o6, ha6, kd6, kt6, pr6, least⟩
    refine ⟨_, rfl, _, rfl, a, C, dx, _, rfl, ha6, Z.ic.cl, Z.n6, by show 5 < 1000; decide, ?_⟩
    have pr7 : Paired (fun (b : Addr) (r : List Int) => (upd H6 a (.ins C dx (putF "_pivots" (.ref d) [("m", .int M), ("width", .int n), ("rows", .ref t), ("size", .int S), ("least", .int L)]))) b = some (.tup (r.map V.int))) ts (formL n ks row) := by
      rw [← formL_of perm asc pv.lt]
      refine paired_memL (fun b r hb e => ?_) pr6
      show (upd H6 a _) b = _
      rw [upd_ne (fun (e' : b = a) => nats (e' ▸ hb))]
      exact e
    refine q _ ks row S L (fun b o e ne => ?_) ⟨dx, t, d, ts, upd_same, ?_, pr7, ?_⟩ ⟨md, n4, kn, pv, g, same, rd, eS, least⟩
    · rw [upd_ne ne]
      exact o6 _ _ e ne
    · rw [upd_ne nat.symm]
      exact kt6
    · rw [upd_ne nad]
      exact kd6
end
end K02

/-! leq: Lot.__eq__ -/
namespace K02
open PySem L2 Gd B5
abbrev sLE : Stmt := inClass (top 38) 1
theorem scLE : FnScope ["self", "other"] ["self", "other"] (defScope sLE) := ⟨rfl, rfl, rfl, by decide +kernel, rfl, by decide +kernel, by decide +kernel⟩
section
variable {P : Program} {w : World} {K : PySem.W.Frag} {mg : Str → Option Value} {base : Heap} {C f : Addr} {fd : FuncData}
theorem ok_le (F : Fun K "__eq__" "Lot.__eq__" sLE f fd) (B : Blt mg) (Z : LotK K mg C) : FnOk P w K mg base CX0 1 f fd ["self", "other"] (spLE K C) := by
  refine F.ok scLE (fun vs H Q E h => ?_) (fun cdv A outer s H vs Q E hr h => ?_)
  · obtain ⟨a, y, M, n, ks, row, S, L, rfl, _⟩ := h
    rfl
  · obtain ⟨a, y, M, n, ks, row, S, L, rfl, ⟨dx, t, d, ts, h1, h2, h3, h4⟩, h⟩ := h
    have hu64 := hr.units
    refine ⟨_, pss_one (ps_ret (pe_and (pe_callB call_isi (by rfl) B.isi_ (by decide +kernel) (pa_cons (pv 1) (pa_cons (pe_glob (v := .ref C) rfl Z.g rfl) pa_nil)))
      (pe_and (pe_cmpR op_eq (pe_fld (pv 0) rfl) (pe_fld (pv 1) rfl) (nomark _))
      (pe_and (pe_cmpR op_eq (pe_fld (pv 0) rfl) (pe_fld (pv 1) rfl) (nomark _))
      (pe_one (pe_cmpR (op_eqD hu64) (pe_fld (pv 0) rfl) (pe_fld (pv 1) rfl) (nomark _))))))), ?_⟩
    obtain ⟨n, hn, ty, q⟩ | ⟨b, M2, n2, ks2, row2, S2, L2, rfl, mb, q⟩ := h
    · exact ⟨_, rfl, y, .ref C, _, _, _, rfl, .own C, ty, Z.no n hn, _, rfl, iteF q⟩
    · have ty := mb.ty Z
      obtain ⟨dx2, t2, d2, ts2, k1, k2, k3, k4⟩ := mb
      have tz : ∀ {ts : List Addr} {l : List (List Int)}, Paired (fun (b : Addr) (r : List Int) => H b = some (.tup (r.map V.int))) ts l → Paired (B5.TupI K H) (ts.map V.ref) l := fun {ts l} h => paired_mapL (paired_imp (fun b r e => ⟨b, rfl, SqT.of e⟩) h)
      refine ⟨_, rfl, _, .ref C, _, _, _, rfl, .own C, ty, Z.ic.me, _, rfl, iteT ?_⟩
      refine ⟨_, rfl, a, C, dx, _, _, rfl, h1, Z.ic.cl, Z.n1, rfl, _, rfl, b, C, dx2, _, _, rfl, k1, Z.ic.cl, Z.n1, rfl, rfl, _, rfl, ?_⟩
      rw [deI]
      by_cases e1 : (M : Int) = M2
      · rw [decide_eq_true e1]
        refine iteT ⟨_, rfl, a, C, dx, _, _, rfl, h1, Z.ic.cl, Z.n2, rfl, _, rfl, b, C, dx2, _, _, rfl, k1, Z.ic.cl, Z.n2, rfl, rfl, _, rfl, ?_⟩
        rw [deI]
        by_cases e2 : (n : Int) = n2
        · rw [decide_eq_true e2]
          refine iteT ⟨_, rfl, a, C, dx, _, _, rfl, h1, Z.ic.cl, Z.n3, rfl, _, rfl, b, C, dx2, _, _, rfl, k1, Z.ic.cl, Z.n3, rfl, _, _, dp_R (SqT.of h2) (tz h3), dp_R (SqT.of k2) (tz k3), shaped_R _, shaped_R _, ?_⟩
          rw [eqv_R]
          have : decide (formL n ks row = formL n2 ks2 row2) = decide (M = M2 ∧ n = n2 ∧ formL n ks row = formL n2 ks2 row2) := by
            rw [decide_eq_decide]
            exact ⟨fun z => ⟨by omega, by omega, z⟩, fun z => z.2.2⟩
          rw [this]
          exact q
        · rw [decide_eq_false e2]
          rw [decide_eq_false fun z => e2 (by omega)] at q
          exact iteF q
      · rw [decide_eq_false e1]
        rw [decide_eq_false fun z => e1 (by omega)] at q
        exact iteF q
end
end K02

/-! LawM: the law's moduli, orders, units. -/
namespace B5
open PySem L2 Gd
/-- M = p ^ k is one of the ten -/
def ModK (M p k : Nat) : Prop := (M, p, k) ∈ [(2, 2, 1), (4, 2, 2), (8, 2, 3), (16, 2, 4), (3, 3, 1), (9, 3, 2), (27, 3, 3), (5, 5, 1), (25, 5, 2), (7, 7, 1)]
theorem ModK.mod {M p k : Nat} (h : ModK M p k) : Mod M p := by
  have all : ∀ q ∈ [((2 : Nat), (2 : Nat), (1 : Nat)), (4, 2, 2), (8, 2, 3), (16, 2, 4), (3, 3, 1), (9, 3, 2), (27, 3, 3), (5, 5, 1), (25, 5, 2), (7, 7, 1)], ppT.lookup ((q.1 : Nat) : Int) = some [((q.2.1 : Nat) : Int), ((q.2.2 : Nat) : Int)] := by decide +kernel
  exact ⟨(k : Int), all _ h⟩
theorem ModK.eq {M p k : Nat} (h : ModK M p k) : M = p ^ k ∧ 1 ≤ k ∧ k ≤ 4 := by
  have all : ∀ q ∈ [((2 : Nat), (2 : Nat), (1 : Nat)), (4, 2, 2), (8, 2, 3), (16, 2, 4), (3, 3, 1), (9, 3, 2), (27, 3, 3), (5, 5, 1), (25, 5, 2), (7, 7, 1)], q.1 = q.2.1 ^ q.2.2 ∧ 1 ≤ q.2.2 ∧ q.2.2 ≤ 4 := by decide +kernel
  exact all _ h
/-- what a display holds, keys ints -/
def lastI (j : Int) : List (Int × V) → Option V → Option V
  | [], o => o
  | (k, v) :: r, o => lastI j r (if j = k then some v else o)
theorem val_merge (j : Int) : ∀ (l : List (Int × V)) (a : List (Key × V)), valV (mergeK a (l.map fun kv => (Sum.inl kv.1, kv.2))) (Sum.inl j) = lastI j l (valV a (Sum.inl j))
  | [], a => rfl
  | (k, v) :: r, a => by
    show valV (mergeK (putK a (Sum.inl k) v) (r.map fun kv => (Sum.inl kv.1, kv.2))) (Sum.inl j) = _
    rw [val_merge j r, valV_put]
    show lastI j r _ = lastI j r _
    by_cases e : j = k
    · rw [if_pos e, if_pos (by rw [e])]
    · rw [if_neg e, if_neg (fun z => e (Sum.inl.inj z))]
/-- _law_power(m) -/
def spLpw : Sp := fun vs H Q _ => ∃ M p k : Nat, vs = [.int M] ∧ ModK M p k ∧ ∀ H' t, More H H' → H' t = some (.tup [.int p, .int k]) → Q (.ref t) H'
/-- _law_modulus(pen) -/
def spLmo : Sp := fun vs H Q _ => ∃ (d c : Addr) (n : Int), vs = [.ref d] ∧ Pen H d c n ∧ 0 ≤ n ∧ n < 900000000 ∧ ∀ (M p k : Nat) (H' : Hp), ModK M p k → Pen H' d c (n + 2) → Off d H H' → Q (.int M) H'
/-- _law_order(number, m): how often p divides a number from 1 to m - 1 -/
def spLor : Sp := fun vs H Q _ => ∃ M p k x : Nat, vs = [.int x, .int M] ∧ ModK M p k ∧ 0 < x ∧ x < M ∧ ∀ (H' : Hp) (t u : Nat), More H H' → t < k → x = p ^ t * u → ¬ p ∣ u → Q (.int t) H'
/-- _law_unit(number, m): what takes a number to 1 -/
def spLun : Sp := fun vs H Q _ => ∃ M p k x : Nat, vs = [.int x, .int M] ∧ ModK M p k ∧ ¬ p ∣ x ∧ x < M ∧ ∀ (H' : Hp) (b : Nat), More H H' → 1 ≤ b → b ≤ M → b * x % M = 1 % M → Q (.int b) H'
theorem unit_ex {M p k x : Nat} (h : ModK M p k) (hx : ¬ p ∣ x) (lt : x < M) : ∃ b, 1 ≤ b ∧ b ≤ M ∧ b * x % M = 1 % M := by
  have all : ∀ q ∈ [((2 : Nat), (2 : Nat), (1 : Nat)), (4, 2, 2), (8, 2, 3), (16, 2, 4), (3, 3, 1), (9, 3, 2), (27, 3, 3), (5, 5, 1), (25, 5, 2), (7, 7, 1)], ∀ x ∈ List.range q.1, ¬ q.2.1 ∣ x → ∃ b ∈ List.range (q.1 + 1), 1 ≤ b ∧ b * x % q.1 = 1 % q.1 := by decide +kernel
  obtain ⟨b, hb, b1, e⟩ := all _ h x (List.mem_range.mpr lt) hx
  exact ⟨b, b1, by have := List.mem_range.mp hb; omega, e⟩
end B5

/-! lpw: _law_power, _law_modulus, _law_order, _law_unit -/
namespace K02
open PySem L2 Gd B5
section
variable {P : Program} {w : World} {K : PySem.W.Frag} {mg : Str → Option Value} {base : Heap} {g1 g2 f : Addr} {d1 d2 fd : FuncData}
abbrev sLpw : Stmt := top 48
theorem scLpw : FnScope ["_law_m", "_law_known"] ["_law_m"] (defScope sLpw) := ⟨rfl, rfl, rfl, by decide +kernel, rfl, by decide +kernel, by decide +kernel⟩
theorem ok_lpw (F : Fun K "_law_power" "_law_power" sLpw f fd) : FnOk P w K mg base CX0 1 f fd ["_law_m"] spLpw := by
  refine F.ok scLpw (fun vs H Q E h => ?_) (fun cdv A outer s H vs Q E hr h => ?_)
  · obtain ⟨M, p, k, rfl, _⟩ := h
    rfl
  · obtain ⟨M, p, k, rfl, md, q⟩ := h
    have hu := hu_of hr
    refine ⟨_, Evl.pss_cut (ps_set (i := 1) scLpw.nd rfl (Or.inl rfl) (pe_disp (pps_cons pe_int (pe_tup (pa_cons pe_int (pa_cons pe_int pa_nil))) (pps_cons pe_int (pe_tup (pa_cons pe_int (pa_cons pe_int pa_nil))) (pps_cons pe_int (pe_tup (pa_cons pe_int (pa_cons pe_int pa_nil)))
        (pps_cons pe_int (pe_tup (pa_cons pe_int (pa_cons pe_int pa_nil))) (pps_cons pe_int (pe_tup (pa_cons pe_int (pa_cons pe_int pa_nil))) (pps_cons pe_int (pe_tup (pa_cons pe_int (pa_cons pe_int pa_nil)))
        (pps_cons pe_int (pe_tup (pa_cons pe_int (pa_cons pe_int pa_nil))) (pps_cons pe_int (pe_tup (pa_cons pe_int (pa_cons pe_int pa_nil))) (pps_cons pe_int (pe_tup (pa_cons pe_int (pa_cons pe_int pa_nil))) pps_nil))))))))) rfl rfl (by simp) (by decide)))
      (pss_one (ps_ret (pe_dget2 hu (pv 1) (pv 0) (pe_tup (pa_cons pe_int (pa_cons pe_int pa_nil))) ⟨rfl, rfl, rfl, rfl⟩))), ?_⟩
    have s2 : ([V.int 2, .int 1] : List V).length ≤ sizeLine := by show 2 ≤ sizeLine; decide
    refine ⟨fun σ' H' => ∃ (D : Addr) (kvs : List (Key × V)) (z : Addr), σ' = [some (.int M), some (.ref D)] ∧ More H H' ∧ H' D = some (.dK kvs) ∧ ((M = 7 ∧ p = 7 ∧ k = 1 ∧ valV kvs (Sum.inl (M : Int)) = none) ∨ (valV kvs (Sum.inl (M : Int)) = some (.ref z) ∧ H' z = some (.tup [.int p, .int k]))), ?_, ?_⟩
    · refine fun D hD => ?_
      have xx := new_more (o := .dK []) hD
      have y0 : (upd H D (.dK [])) D = some (.dK []) := upd_same
      generalize upd H D (.dK []) = G0 at xx y0 ⊢
      refine ⟨s2, fun t1 h1 => ?_⟩
      have mm := new_more (o := .tup [V.int 2, .int 1]) h1
      have y1 : (upd G0 t1 (.tup [V.int 2, .int 1])) t1 = some (.tup [V.int 2, .int 1]) := upd_same
      have y0 := mm _ _ y0
      have xx := fun b o e => mm b o (xx b o e)
      generalize upd G0 t1 (.tup [V.int 2, .int 1]) = G1 at y0 y1 xx ⊢
      clear mm
      refine ⟨s2, fun t2 h2 => ?_⟩
      have mm := new_more (o := .tup [V.int 2, .int 2]) h2
      have y2 : (upd G1 t2 (.tup [V.int 2, .int 2])) t2 = some (.tup [V.int 2, .int 2]) := upd_same
      have y0 := mm _ _ y0
      have y1 := mm _ _ y1
      have xx := fun b o e => mm b o (xx b o e)
      generalize upd G1 t2 (.tup [V.int 2, .int 2]) = G2 at y0 y1 y2 xx ⊢
      clear mm
      refine ⟨s2, fun t3 h3 => ?_⟩
      have mm := new_more (o := .tup [V.int 2, .int 3]) h3
      have y3 : (upd G2 t3 (.tup [V.int 2, .int 3])) t3 = some (.tup [V.int 2, .int 3]) := upd_same
      have y0 := mm _ _ y0
      have y1 := mm _ _ y1
      have y2 := mm _ _ y2
      have xx := fun b o e => mm b o (xx b o e)
      generalize upd G2 t3 (.tup [V.int 2, .int 3]) = G3 at y0 y1 y2 y3 xx ⊢
      clear mm
      refine ⟨s2, fun t4 h4 => ?_⟩
      have mm := new_more (o := .tup [V.int 2, .int 4]) h4
      have y4 : (upd G3 t4 (.tup [V.int 2, .int 4])) t4 = some (.tup [V.int 2, .int 4]) := upd_same
      have y0 := mm _ _ y0
      have y1 := mm _ _ y1
      have y2 := mm _ _ y2
      have y3 := mm _ _ y3
      have xx := fun b o e => mm b o (xx b o e)
      generalize upd G3 t4 (.tup [V.int 2, .int 4]) = G4 at y0 y1 y2 y3 y4 xx ⊢
      clear mm
      refine ⟨s2, fun t5 h5 => ?_⟩
      have mm := new_more (o := .tup [V.int 3, .int 1]) h5
      have y5 : (upd G4 t5 (.tup [V.int 3, .int 1])) t5 = some (.tup [V.int 3, .int 1]) := upd_same
      have y0 := mm _ _ y0
      have y1 := mm _ _ y1
      have y2 := mm _ _ y2
      have y3 := mm _ _ y3
      have y4 := mm _ _ y4
      have xx := fun b o e => mm b o (xx b o e)
      generalize upd G4 t5 (.tup [V.int 3, .int 1]) = G5 at y0 y1 y2 y3 y4 y5 xx ⊢
      clear mm
      refine ⟨s2, fun t6 h6 => ?_⟩
      have mm := new_more (o := .tup [V.int 3, .int 2]) h6
      have y6 : (upd G5 t6 (.tup [V.int 3, .int 2])) t6 = some (.tup [V.int 3, .int 2]) := upd_same
      have y0 := mm _ _ y0
      have y1 := mm _ _ y1
      have y2 := mm _ _ y2
      have y3 := mm _ _ y3
      have y4 := mm _ _ y4
      have y5 := mm _ _ y5
      have xx := fun b o e => mm b o (xx b o e)
      generalize upd G5 t6 (.tup [V.int 3, .int 2]) = G6 at y0 y1 y2 y3 y4 y5 y6 xx ⊢
      clear mm
      refine ⟨s2, fun t7 h7 => ?_⟩
      have mm := new_more (o := .tup [V.int 3, .int 3]) h7
      have y7 : (upd G6 t7 (.tup [V.int 3, .int 3])) t7 = some (.tup [V.int 3, .int 3]) := upd_same
      have y0 := mm _ _ y0
      have y1 := mm _ _ y1
      have y2 := mm _ _ y2
      have y3 := mm _ _ y3
      have y4 := mm _ _ y4
      have y5 := mm _ _ y5
      have y6 := mm _ _ y6
      have xx := fun b o e => mm b o (xx b o e)
      generalize upd G6 t7 (.tup [V.int 3, .int 3]) = G7 at y0 y1 y2 y3 y4 y5 y6 y7 xx ⊢
      clear mm
      refine ⟨s2, fun t8 h8 => ?_⟩
      have mm := new_more (o := .tup [V.int 5, .int 1]) h8
      have y8 : (upd G7 t8 (.tup [V.int 5, .int 1])) t8 = some (.tup [V.int 5, .int 1]) := upd_same
      have y0 := mm _ _ y0
      have y1 := mm _ _ y1
      have y2 := mm _ _ y2
      have y3 := mm _ _ y3
      have y4 := mm _ _ y4
      have y5 := mm _ _ y5
      have y6 := mm _ _ y6
      have y7 := mm _ _ y7
      have xx := fun b o e => mm b o (xx b o e)
      generalize upd G7 t8 (.tup [V.int 5, .int 1]) = G8 at y0 y1 y2 y3 y4 y5 y6 y7 y8 xx ⊢
      clear mm
      refine ⟨s2, fun t9 h9 => ?_⟩
      have mm := new_more (o := .tup [V.int 5, .int 2]) h9
      have y9 : (upd G8 t9 (.tup [V.int 5, .int 2])) t9 = some (.tup [V.int 5, .int 2]) := upd_same
      have y0 := mm _ _ y0
      have y1 := mm _ _ y1
      have y2 := mm _ _ y2
      have y3 := mm _ _ y3
      have y4 := mm _ _ y4
      have y5 := mm _ _ y5
      have y6 := mm _ _ y6
      have y7 := mm _ _ y7
      have y8 := mm _ _ y8
      have xx := fun b o e => mm b o (xx b o e)
      generalize upd G8 t9 (.tup [V.int 5, .int 2]) = G9 at y0 y1 y2 y3 y4 y5 y6 y7 y8 y9 xx ⊢
      clear mm
      refine ⟨y0, [(Sum.inl 2, .ref t1), (Sum.inl 4, .ref t2), (Sum.inl 8, .ref t3), (Sum.inl 16, .ref t4), (Sum.inl 3, .ref t5), (Sum.inl 9, .ref t6), (Sum.inl 27, .ref t7), (Sum.inl 5, .ref t8), (Sum.inl 25, .ref t9)], rfl, by simp, ?_⟩
      have nd : ∀ {t : Addr} {xs : List V}, G9 t = some (.tup xs) → (upd G9 D (.dK (mergeK [] [(Sum.inl 2, .ref t1), (Sum.inl 4, .ref t2), (Sum.inl 8, .ref t3), (Sum.inl 16, .ref t4), (Sum.inl 3, .ref t5), (Sum.inl 9, .ref t6), (Sum.inl 27, .ref t7), (Sum.inl 5, .ref t8), (Sum.inl 25, .ref t9)]))) t = some (.tup xs) := fun {t xs} e => by
        rw [upd_ne (fun z => by rw [z, y0] at e; cases e)]
        exact e
      have hD' : ∀ b o, H b = some o → b ≠ D := fun b o e z => by rw [z, hD] at e; cases e
      have key : ∀ z, ((M = 7 ∧ p = 7 ∧ k = 1 ∧ valV (mergeK [] [(Sum.inl 2, V.ref t1), (Sum.inl 4, .ref t2), (Sum.inl 8, .ref t3), (Sum.inl 16, .ref t4), (Sum.inl 3, .ref t5), (Sum.inl 9, .ref t6), (Sum.inl 27, .ref t7), (Sum.inl 5, .ref t8), (Sum.inl 25, .ref t9)]) (Sum.inl (M : Int)) = none) ∨
          (valV (mergeK [] [(Sum.inl 2, V.ref t1), (Sum.inl 4, .ref t2), (Sum.inl 8, .ref t3), (Sum.inl 16, .ref t4), (Sum.inl 3, .ref t5), (Sum.inl 9, .ref t6), (Sum.inl 27, .ref t7), (Sum.inl 5, .ref t8), (Sum.inl 25, .ref t9)]) (Sum.inl (M : Int)) = some (.ref z) ∧ G9 z = some (.tup [.int p, .int k]))) →
          ∃ (D' : Addr) (kvs : List (Key × V)) (z : Addr), [some (V.int M), some (V.ref D)] = [some (.int M), some (.ref D')] ∧ More H (upd G9 D (.dK (mergeK [] [(Sum.inl 2, .ref t1), (Sum.inl 4, .ref t2), (Sum.inl 8, .ref t3), (Sum.inl 16, .ref t4), (Sum.inl 3, .ref t5), (Sum.inl 9, .ref t6), (Sum.inl 27, .ref t7), (Sum.inl 5, .ref t8), (Sum.inl 25, .ref t9)]))) ∧ (upd G9 D (.dK (mergeK [] [(Sum.inl 2, .ref t1), (Sum.inl 4, .ref t2), (Sum.inl 8, .ref t3), (Sum.inl 16, .ref t4), (Sum.inl 3, .ref t5), (Sum.inl 9, .ref t6), (Sum.inl 27, .ref t7), (Sum.inl 5, .ref t8), (Sum.inl 25, .ref t9)]))) D' = some (.dK kvs) ∧ ((M = 7 ∧ p = 7 ∧ k = 1 ∧ valV kvs (Sum.inl (M : Int)) = none) ∨ (valV kvs (Sum.inl (M : Int)) = some (.ref z) ∧ (upd G9 D (.dK (mergeK [] [(Sum.inl 2, .ref t1), (Sum.inl 4, .ref t2), (Sum.inl 8, .ref t3), (Sum.inl 16, .ref t4), (Sum.inl 3, .ref t5), (Sum.inl 9, .ref t6), (Sum.inl 27, .ref t7), (Sum.inl 5, .ref t8), (Sum.inl 25, .ref t9)]))) z = some (.tup [.int p, .int k]))) := fun z h => by
        refine ⟨D, _, z, rfl, fun b o e => by rw [upd_ne (hD' b o e)]; exact xx _ _ e, upd_same, ?_⟩
        rcases h with h | ⟨h1, h2⟩
        · exact .inl h
        · exact .inr ⟨h1, nd h2⟩
      have vm : ∀ j : Int, valV (mergeK [] [(Sum.inl 2, V.ref t1), (Sum.inl 4, .ref t2), (Sum.inl 8, .ref t3), (Sum.inl 16, .ref t4), (Sum.inl 3, .ref t5), (Sum.inl 9, .ref t6), (Sum.inl 27, .ref t7), (Sum.inl 5, .ref t8), (Sum.inl 25, .ref t9)]) (Sum.inl j) = lastI j [(2, .ref t1), (4, .ref t2), (8, .ref t3), (16, .ref t4), (3, .ref t5), (9, .ref t6), (27, .ref t7), (5, .ref t8), (25, .ref t9)] none := fun j => val_merge j [(2, .ref t1), (4, .ref t2), (8, .ref t3), (16, .ref t4), (3, .ref t5), (9, .ref t6), (27, .ref t7), (5, .ref t8), (25, .ref t9)] []
      rw [vm] at key
      unfold ModK at md
      simp only [List.mem_cons, List.not_mem_nil, or_false, Prod.mk.injEq] at md
      rcases md with ⟨rfl, rfl, rfl⟩ | ⟨rfl, rfl, rfl⟩ | ⟨rfl, rfl, rfl⟩ | ⟨rfl, rfl, rfl⟩ | ⟨rfl, rfl, rfl⟩ | ⟨rfl, rfl, rfl⟩ | ⟨rfl, rfl, rfl⟩ | ⟨rfl, rfl, rfl⟩ | ⟨rfl, rfl, rfl⟩ | ⟨rfl, rfl, rfl⟩
      · exact key t1 (.inr ⟨rfl, y1⟩)
      · exact key t2 (.inr ⟨rfl, y2⟩)
      · exact key t3 (.inr ⟨rfl, y3⟩)
      · exact key t4 (.inr ⟨rfl, y4⟩)
      · exact key t5 (.inr ⟨rfl, y5⟩)
      · exact key t6 (.inr ⟨rfl, y6⟩)
      · exact key t7 (.inr ⟨rfl, y7⟩)
      · exact key t8 (.inr ⟨rfl, y8⟩)
      · exact key t9 (.inr ⟨rfl, y9⟩)
      · exact key t9 (.inl ⟨rfl, rfl, rfl, rfl⟩)
    rintro σ1 H1 ⟨D, kvs, z, rfl, m1, kD, h⟩
    refine ⟨_, rfl, D, rfl, .inl ⟨_, .inl kD⟩, _, rfl, s2, fun t ht => ?_⟩
    have mt := new_more (o := .tup [V.int 7, .int 1]) ht
    refine ⟨_, .inl ⟨_, Sum.inl (M : Int), .inl (mt _ _ kD), rfl, rfl⟩, ?_⟩
    rcases h with ⟨rfl, rfl, rfl, hv⟩ | ⟨hv, hz⟩
    · rw [hv]
      exact q _ t (fun b o e => mt _ _ (m1 _ _ e)) upd_same
    · rw [hv]
      exact q _ z (fun b o e => mt _ _ (m1 _ _ e)) (mt _ _ hz)
abbrev sLmo : Stmt := top 49
theorem scLmo : FnScope ["_law_pen_here"] ["_law_pen_here"] (defScope sLmo) := ⟨rfl, rfl, rfl, by decide +kernel, rfl, by decide +kernel, by decide +kernel⟩
theorem ok_lmo (F : Fun K "_law_modulus" "_law_modulus" sLmo f fd) (B : Blt mg) (Dr : Cl K mg "_law_draw" sDraw ["_law_pen_here", "_law_many"] g1 d1) (Pi : Cl K mg "_law_pick" sPick ["_law_pen_here", "_law_some"] g2 d2) : FnOk P w K mg base CX0 3 f fd ["_law_pen_here"] spLmo := by
  have G2 : FnOk P w K mg base CX0 2 g2 d2 ["_law_pen_here", "_law_some"] (spPick K) := ok_pick Pi.fn Dr.fn Dr.b Dr.g B.int_ B.len_
  refine F.ok scLmo (fun vs H Q E h => ?_) (fun cdv A outer s H vs Q E hr h => ?_)
  · obtain ⟨d, c, n, rfl, _⟩ := h
    rfl
  · obtain ⟨d, c, n, rfl, pen, n0, n1, q⟩ := h
    refine ⟨_, pss_one (ps_ret (pe_call G2 hr rfl Pi.g Pi.k Pi.b .nil pass0 (pa_cons (pv 0) (pa_cons (pe_lst (pa_cons pe_int (pa_cons pe_int (pa_cons pe_int (pa_cons pe_int (pa_cons pe_int (pa_cons pe_int (pa_cons pe_int
        (pa_cons (pe_call G2 hr rfl Pi.g Pi.k Pi.b .nil pass0 (pa_cons (pv 0) (pa_cons (pe_lst (pa_cons pe_int (pa_cons pe_int (pa_cons pe_int pa_nil)))) pa_nil))) pa_nil))))))))) pa_nil)))), ?_⟩
    refine ⟨_, rfl, _, rfl, by show 3 ≤ sizeLine; decide, fun L hL => ?_⟩
    have mL := new_more (o := .lst [V.int 16, .int 27, .int 25]) hL
    refine ⟨d, c, L, n, _, rfl, pen.upd hL, upd_same, by show 0 < 3; decide, by show 3 ≤ 1000; decide, n0, by omega, fun x H1 hx dr => ?_⟩
    have of1 : Off d H H1 := (Off.of mL).trans (.dr dr)
    refine ⟨by show 8 ≤ sizeLine; decide, fun L2 hL2 => ?_⟩
    have mL2 := new_more (o := .lst [V.int 2, .int 4, .int 8, .int 3, .int 9, .int 5, .int 7, x]) hL2
    refine ⟨d, c, L2, n + 1, _, rfl, dr.pen.upd hL2, upd_same, by show 0 < 8; decide, by show 8 ≤ 1000; decide, by omega, by omega, fun y H2 hy dr2 => ?_⟩
    have of2 : Off d H H2 := of1.trans ((Off.of mL2).trans (.dr dr2))
    have pn : Pen H2 d c (n + 2) := by
      have := dr2.pen
      rw [show n + 1 + 1 = n + 2 by omega] at this
      exact this
    simp only [List.mem_cons, List.not_mem_nil, or_false] at hx hy
    rcases hy with rfl | rfl | rfl | rfl | rfl | rfl | rfl | rfl
    · exact q 2 2 1 H2 (by unfold ModK; simp) pn of2
    · exact q 4 2 2 H2 (by unfold ModK; simp) pn of2
    · exact q 8 2 3 H2 (by unfold ModK; simp) pn of2
    · exact q 3 3 1 H2 (by unfold ModK; simp) pn of2
    · exact q 9 3 2 H2 (by unfold ModK; simp) pn of2
    · exact q 5 5 1 H2 (by unfold ModK; simp) pn of2
    · exact q 7 7 1 H2 (by unfold ModK; simp) pn of2
    · rcases hx with rfl | rfl | rfl
      · exact q 16 2 4 H2 (by unfold ModK; simp) pn of2
      · exact q 27 3 3 H2 (by unfold ModK; simp) pn of2
      · exact q 25 5 2 H2 (by unfold ModK; simp) pn of2
abbrev sLor : Stmt := top 50
theorem scLor : FnScope ["_law_number", "_law_m", "_law_p", "_law_k", "_law_t"] ["_law_number", "_law_m"] (defScope sLor) := ⟨rfl, rfl, rfl, by decide +kernel, rfl, by decide +kernel, by decide +kernel⟩
theorem ok_lor (F : Fun K "_law_order" "_law_order" sLor f fd) (B : Blt mg) (Pw : Cl K mg "_law_power" sLpw ["_law_m"] g1 d1) : FnOk P w K mg base CX0 2 f fd ["_law_number", "_law_m"] spLor := by
  have GP : FnOk P w K mg base CX0 1 g1 d1 ["_law_m"] spLpw := ok_lpw Pw.fn
  refine F.ok scLor (fun vs H Q E h => ?_) (fun cdv A outer s H vs Q E hr h => ?_)
  · obtain ⟨M, p, k, x, rfl, _⟩ := h
    rfl
  · obtain ⟨M, p, k, x, rfl, md, x0, xM, q⟩ := h
    obtain ⟨eM, k1, k4⟩ := md.eq
    obtain ⟨_, _, pr, _⟩ := md.mod.facts
    obtain ⟨p2i, p7⟩ := isPr_small pr
    refine ⟨_, pss_cons (ps_asg (pe_call GP hr rfl Pw.g Pw.k Pw.b .nil pass0 (pa_cons (pv 1) pa_nil)) (pg_tup (by rfl) (pgs_cons (pg_name (i := 2) scLor.nd rfl (Or.inl rfl)) (pgs_cons (pg_name (i := 3) scLor.nd rfl (Or.inl rfl)) pgs_nil))))
      (pss_cons (ps_for PassesOwn.never rfl (pi_range1 (by rfl) B.range_ (pa_cons (pv 3) pa_nil)) (pg_name (i := 4) scLor.nd rfl (Or.inl rfl))
        (pss_cons (ps_if (pt_cmpR op_ne (pe_op op_mod (pe_callTy call_int1 (by rfl) B.int_ (by decide +kernel) (pa_cons (pv 0) pa_nil)) (pv 2)) pe_int (nomark _)) (pss_one (ps_ret (pv 4))) pss_nil)
        (pss_one (ps_set (i := 0) scLor.nd rfl (Or.inl rfl) (pe_op op_fdiv (pv 0) (pv 2))))))
      (pss_one (ps_ret (pv 3)))), ?_⟩
    refine ⟨_, rfl, M, p, k, rfl, md, fun H1 t0 m1 ht0 => ⟨t0, _, rfl, SqT.of ht0, rfl, _, _, rfl, _, _, rfl, rfl, ?_⟩⟩
    refine ⟨_, rfl, k, rfl, by omega, by omega, for_range (lo := 0) (n := k) (fun i σ' H' => ∃ (y : Nat) (z4 : Option V), σ' = [some (.int y), some (.int M), some (.int p), some (.int k), z4] ∧ H' = H1 ∧ x = p ^ i * y) ⟨x, none, rfl, rfl, by rw [Nat.pow_zero, Nat.one_mul]⟩ ?_ ?_⟩
    · rintro i σ G hi ⟨y, z4, rfl, rfl, e⟩
      refine ⟨_, rfl, .inl ⟨_, rfl, _, rfl, _, _, rfl, rfl, by omega, rfl, _, rfl, ite2 (fun z => ?_) (fun z => ?_)⟩⟩
      · refine ⟨_, rfl, ?_⟩
        rw [Int.zero_add]
        refine q G i y m1 hi e fun hd => ?_
        obtain ⟨c, rfl⟩ := hd
        rw [show decide (V.int ((((p * c : Nat)) : Int) % (p : Int)) = V.int 0) = true from decide_eq_true (by rw [Int.natCast_mul, Int.mul_emod_right])] at z
        cases z
      · have z : y % p = 0 := by
          refine Decidable.byContradiction fun ne => z ?_
          rw [show decide ((fun i j => V.int (i % j)) (y : Int) (p : Int) = V.int 0) = false from decide_eq_false fun e => ne (by have := V.int.inj e; omega)]
          rfl
        refine ⟨_, rfl, _, rfl, _, _, rfl, rfl, ⟨by omega, by omega⟩, y / p, some (.int (0 + (i : Int))), ?_, rfl, ?_⟩
        · show [some (V.int ((y : Int) / (p : Int))), _, _, _, _] = _
          rw [← Int.natCast_ediv]
        · have := Nat.div_add_mod y p
          rw [z, Nat.add_zero] at this
          rw [e, Nat.pow_succ, Nat.mul_assoc, this]
    · rintro σ G ⟨y, z4, rfl, rfl, e⟩
      exfalso
      have y0 : 0 < y := Nat.pos_of_ne_zero fun z => by rw [z, Nat.mul_zero] at e; omega
      have := Nat.mul_le_mul_left (p ^ k) y0
      omega
abbrev sLun : Stmt := top 51
theorem scLun : FnScope ["_law_number", "_law_m", "_law_by"] ["_law_number", "_law_m"] (defScope sLun) := ⟨rfl, rfl, rfl, by decide +kernel, rfl, by decide +kernel, by decide +kernel⟩
theorem ok_lun (F : Fun K "_law_unit" "_law_unit" sLun f fd) (B : Blt mg) : FnOk P w K mg base CX0 1 f fd ["_law_number", "_law_m"] spLun := by
  refine F.ok scLun (fun vs H Q E h => ?_) (fun cdv A outer s H vs Q E hr h => ?_)
  · obtain ⟨M, p, k, x, rfl, _⟩ := h
    rfl
  · obtain ⟨M, p, k, x, rfl, md, xp, xM, q⟩ := h
    obtain ⟨M2, M27, pr, _⟩ := md.mod.facts
    obtain ⟨b0, b1, bM, eb⟩ := unit_ex md xp xM
    refine ⟨_, pss_one (ps_ret (pe_ix ix_list (pe_lc (own := [("_law_by", 2)]) (g := gName 2) rfl scLun.nd (pi_range2 (by rfl) B.range_ (pa_cons pe_int (pa_cons (pe_op op_add (pv 1) pe_int) pa_nil)))
        (blkOk_by (N := ["_law_number", "_law_m", "_law_by"]) (sc := defScope sLun) (by decide +kernel)) (fun _ _ _ _ _ => pg_name (i := 2) scLun.nd rfl (Or.inl rfl))
        (fun _ _ _ _ _ => pts_one (pt_cmpR (r := rEq) op_eq (pe_op (r := rI (fun _ j => 0 < j) fun i j => .int (i % j)) op_mod (pe_callTy call_int1 (by rfl) B.int_ (by decide +kernel) (pa_cons (pe_op (r := rI CMul fun i j => .int (i * j)) op_mul (pv 2) (pv 0)) pa_nil)) (pv 1))
          (pe_op (r := rI (fun _ j => 0 < j) fun i j => .int (i % j)) op_mod (pe_callTy call_int1 (by rfl) B.int_ (by decide +kernel) (pa_cons pe_int pa_nil)) (pv 1)) (nomark _))) (fun _ _ _ _ _ => pv 2)) pe_int (fun _ _ => rfl))), ?_⟩
    have ne1 : (M : Int) ≠ 0 := by omega
    refine ⟨_, rfl, _, _, rfl, rfl, 1, (M : Int) + 1, rfl, ⟨by decide, by decide, by omega, by omega⟩, fun D hD => lc_range (lo := 1) (n := ((M : Int) + 1 - 1).toNat) (fun i H2 => H2 D = some (.lst ((unitsM M x (1 % (M : Int)) i).map V.int)) ∧ More H H2) ⟨upd_same, new_more hD⟩ ?_ ?_⟩
    · rintro i H2 hi ⟨eD, sm⟩
      have step := unitsM_succ M x (1 % (M : Int)) i
      refine ⟨rfl, _, rfl, _, rfl, _, _, rfl, rfl, .inl ⟨by omega, by omega⟩, .inl ⟨_, rfl, _, rfl, _, _, rfl, rfl, by omega, .inl ⟨_, rfl, _, rfl, _, _, rfl, rfl, by omega, rfl, _, rfl, ?_⟩⟩⟩
      by_cases h : (1 + (i : Int)) * x % (M : Int) = 1 % (M : Int)
      · rw [show decide ((fun i j => V.int (i % j)) ((1 + (i : Int)) * x) (M : Int) = (fun i j => V.int (i % j)) 1 (M : Int)) = true from decide_eq_true (by show V.int _ = V.int _; rw [h])]
        refine iteT ⟨_, rfl, _, eD, ?_, ?_, More.at sm hD⟩
        · have := unitsM_len M x (1 % (M : Int)) i
          rw [List.length_map]
          exact small1000 (by omega)
        · rw [upd_same, step, if_pos h, List.map_append]
          rfl
      · rw [show decide ((fun i j => V.int (i % j)) ((1 + (i : Int)) * x) (M : Int) = (fun i j => V.int (i % j)) 1 (M : Int)) = false from decide_eq_false (fun z => h (V.int.inj z))]
        refine iteF ⟨?_, sm⟩
        rw [eD, step, if_neg h, List.append_nil]
    · rintro H2 ⟨eD, sm⟩
      rw [show ((M : Int) + 1 - 1).toNat = M by omega] at eD
      obtain ⟨v, rest, ev⟩ : ∃ v rest, unitsM M x (1 % (M : Int)) M = v :: rest := by
        cases z : unitsM M x (1 % (M : Int)) M with
        | cons v rest => exact ⟨v, rest, rfl⟩
        | nil =>
          exfalso
          have mem : (b0 : Int) ∈ unitsM M x (1 % (M : Int)) M := by
            unfold unitsM
            rw [List.mem_filter]
            refine ⟨List.mem_map.mpr ⟨b0 - 1, List.mem_range.mpr (by omega), by omega⟩, decide_eq_true ?_⟩
            rw [← Int.natCast_mul, ← Int.natCast_emod, eb]
            rfl
          rw [z] at mem
          cases mem
      have hv : v ∈ unitsM M x (1 % (M : Int)) M := by rw [ev]; exact .head _
      unfold unitsM at hv
      rw [List.mem_filter] at hv
      obtain ⟨hv1, hv2⟩ := hv
      obtain ⟨i, hi, iv⟩ := List.mem_map.mp hv1
      have hi := List.mem_range.mp hi
      have v2 : v * x % (M : Int) = 1 % (M : Int) := of_decide_eq_true hv2
      have e1 : v = ((i + 1 : Nat) : Int) := by omega
      refine ⟨D, _, 0, V.int v, rfl, rfl, SqL.of eD, at_of (j := 0) rfl (by rw [ev]; rfl), ?_⟩
      rw [e1]
      refine q H2 (i + 1) sm (by omega) (by omega) ?_
      rw [e1, ← Int.natCast_mul, ← Int.natCast_emod] at v2
      have : (1 : Int) % (M : Int) = ((1 % M : Nat) : Int) := rfl
      rw [this] at v2
      exact_mod_cast v2
end
end K02

/-! LawL: the law's own lots. -/
namespace B5
open PySem L2 Gd
/-- a lot of the law: its dict, the dict of its rows -/
structure LLat (H : Hp) (a r : Addr) (n M : Nat) (ks : List Nat) (bs : Nat → Addr) (row : Nat → List Int) : Prop where
  hA : H a = some (.dK [(Sum.inr (Str.ofString "m"), .int M), (Sum.inr (Str.ofString "width"), .int n), (Sum.inr (Str.ofString "rows"), .ref r)])
  hR : H r = some (.dK (ks.map fun k : Nat => (Sum.inl (k : Int), V.ref (bs k))))
  hB : ∀ k ∈ ks, H (bs k) = some (.lst ((row k).map V.int))
  pv : Piv n M ks row
theorem LLat.more {H H' : Hp} {a r : Addr} {n M : Nat} {ks : List Nat} {bs : Nat → Addr} {row : Nat → List Int} (m : More H H') (h : LLat H a r n M ks bs row) : LLat H' a r n M ks bs row :=
  ⟨m _ _ h.hA, m _ _ h.hR, fun k hk => m _ _ (h.hB k hk), h.pv⟩
theorem LLat.gM {H : Hp} {a r : Addr} {n M : Nat} {ks : List Nat} {bs : Nat → Addr} {row : Nat → List Int} (h : LLat H a r n M ks bs row) : DGet H a (.str (Str.ofString "m")) (some (.int M)) := .inl ⟨_, Sum.inr _, .inl h.hA, rfl, rfl⟩
theorem LLat.gW {H : Hp} {a r : Addr} {n M : Nat} {ks : List Nat} {bs : Nat → Addr} {row : Nat → List Int} (h : LLat H a r n M ks bs row) : DGet H a (.str (Str.ofString "width")) (some (.int n)) := .inl ⟨_, Sum.inr _, .inl h.hA, rfl, rfl⟩
theorem LLat.gR {H : Hp} {a r : Addr} {n M : Nat} {ks : List Nat} {bs : Nat → Addr} {row : Nat → List Int} (h : LLat H a r n M ks bs row) : DGet H a (.str (Str.ofString "rows")) (some (.ref r)) := .inl ⟨_, Sum.inr _, .inl h.hA, rfl, rfl⟩
theorem val_keys (ks : List Nat) (g : Nat → V) (j : Nat) : valV (ks.map fun k : Nat => ((Sum.inl (k : Int) : Key), g k)) (Sum.inl (j : Int)) = if j ∈ ks then some (g j) else none := by
  induction ks with
  | nil => rfl
  | cons k r ih =>
    unfold valV at ih ⊢
    show Option.map _ (List.find? _ ((Sum.inl (k : Int), g k) :: r.map _)) = _
    by_cases e : k = j
    · subst e
      rw [List.find?_cons_of_pos (by simp), if_pos (.head _)]
      rfl
    · rw [List.find?_cons_of_neg (by simp; omega), ih]
      by_cases q : j ∈ r
      · rw [if_pos q, if_pos (.tail _ q)]
      · rw [if_neg q, if_neg]
        intro z
        rcases List.mem_cons.mp z with z | z
        · exact e z.symm
        · exact q z
theorem LLat.gK {H : Hp} {a r : Addr} {n M : Nat} {ks : List Nat} {bs : Nat → Addr} {row : Nat → List Int} (h : LLat H a r n M ks bs row) (j : Nat) : DGet H r (.int (j : Int)) (if j ∈ ks then some (.ref (bs j)) else none) :=
  .inl ⟨_, Sum.inl (j : Int), .inl h.hR, rfl, (val_keys ks (fun k => V.ref (bs k)) j).symm⟩
/-- where a row stops -/
def StopAt (n : Nat) (ks : List Nat) (row : Nat → List Int) (v : List Int) : Prop := (∀ i, i < n → v.getD i 0 = 0) ∨ ∃ j, j < n ∧ (∀ i, i < j → v.getD i 0 = 0) ∧ v.getD j 0 ≠ 0 ∧ (j ∈ ks → ¬ (row j).getD j 0 ∣ v.getD j 0)
/-- numbers below m -/
def InM (M : Nat) (v : List Int) : Prop := ∀ x ∈ v, 0 ≤ x ∧ x < (M : Int)
/-- _law_left(lot, row) -/
def spLl : Sp := fun vs H Q _ => ∃ (a r b : Addr) (n M : Nat) (ks : List Nat) (bs : Nat → Addr) (row : Nat → List Int) (v : List Int), vs = [.ref a, .ref b] ∧ LLat H a r n M ks bs row ∧ Tr n M ks row ∧ Lat.Tri n M (hOf M ks row) ∧ 0 < M ∧ M ≤ 27 ∧ n ≤ 1000 ∧ H b = some (.lst (v.map V.int)) ∧ v.length = n ∧ InM M v ∧
  ∀ (H' : Hp) (b' : Addr) (v' : List Int), More H H' → H' b' = some (.lst (v'.map V.int)) → v'.length = n → InM M v' → Lat.Left n M (hOf M ks row) (vec v) (vec v') → StopAt n ks row v' → Q (.ref b') H'
/-- a multiple of a row is taken off -/
theorem left_take {n M : Nat} {ks : List Nat} {row : Nat → List Int} (T : Lat.Tri n M (hOf M ks row)) {r : Lat.Vec} {v v' : List Int} (L : Lat.Left n M (hOf M ks row) r (vec v)) (im : InM M v) {j : Nat} (hj : j ∈ ks) (jn : j < n) (z : ∀ i, i < j → v.getD i 0 = 0) (nz : v.getD j 0 ≠ 0) (lv : v.length = n) (c : Int)
    (e : ∀ i, i < n → (M : Int) ∣ v'.getD i 0 - (v.getD i 0 - c * (row j).getD i 0)) : Lat.Left n M (hOf M ks row) r (vec v') := by
  have step : ∀ {R : Lat.Vec → Prop}, Lat.Gen n M R (vec (row j)) → Lat.Gen n M R (fun x => vec v x - vec v' x) := fun {R} g => by
    refine .cong (fun i hi => ?_) (.mul c g)
    have := Int.dvd_neg.mpr (e i hi)
    show (M : Int) ∣ (v.getD i 0 - v'.getD i 0) - c * (row j).getD i 0
    rw [show v.getD i 0 - v'.getD i 0 - c * (row j).getD i 0 = -(v'.getD i 0 - (v.getD i 0 - c * (row j).getD i 0)) by omega]
    exact this
  refine ⟨?_, fun i hi => ?_⟩
  · refine .ext (fun x _ => ?_) (.add L.all (step (.row ⟨j, jn, (hOf_in hj).symm⟩)))
    show r x - vec v x + (vec v x - vec v' x) = r x - vec v' x
    omega
  · have up := L.upto T hi
    have ij : i < j := by
      refine Decidable.byContradiction fun q => nz ?_
      have d := up j (by omega) jn
      have b := mem_get im (t := j) (by omega)
      exact Lat.small_zero d (by omega) b.2
    refine .ext (fun x _ => ?_) (.add (L.low i hi) (step (.row ⟨j, ij, jn, (hOf_in hj).symm⟩)))
    show r x - vec v x + (vec v x - vec v' x) = r x - vec v' x
    omega
theorem left_self {w : Nat} {m : Int} {h : Nat → Lat.Vec} (v : Lat.Vec) : Lat.Left w m h v v :=
  ⟨.top fun i _ => by rw [Int.sub_self]; exact Int.dvd_zero _, fun _ _ => .top fun i _ => by rw [Int.sub_self]; exact Int.dvd_zero _⟩
end B5

/-! LawZ: a comprehension over a zip of two lists of ints. -/
namespace B5
open PySem L2 Gd
theorem get_some {l : List Int} {i : Nat} (h : i < l.length) : l[i]? = some (l.getD i 0) := by
  rw [List.getD_eq_getElem?_getD, List.getElem?_eq_getElem h]
  rfl
theorem getV_some {l : List Int} {i : Nat} (h : i < l.length) : (l.map V.int)[i]? = some (.int (l.getD i 0)) := by
  rw [List.getElem?_map, get_some h]
  rfl
theorem lc_zipI {K : PySem.W.Frag} {J : It} {Z : Hp → Prop} {xs ys zs : List Int} {n : Nat} (w : Walk J n Z (YPair (fun i => (xs.map V.int)[i]?) (fun i => (ys.map V.int)[i]?))) {s1 s2 : Nat} {te : TE} {vs : List Nat} {σ : L2.St} {H1 : Hp} {D : Addr} {Qd : Hp → Prop}
    (hD : H1 D = none) (hZ : ∀ H', More H1 H' → Z H') (lz : zs.length = n) (few : n ≤ 16777215)
    (hw : ∀ y z, wipe (((wipe σ vs).set s1 (some y)).set s2 (some z)) vs = wipe σ vs)
    (el : ∀ (i : Nat) (x y z : Int) (H2 : Hp) (Q : VK), xs[i]? = some x → ys[i]? = some y → zs[i]? = some z → More H1 H2 → (∀ H3, More H2 H3 → Q (.int z) H3) → te (((wipe σ vs).set s1 (some (.int x))).set s2 (some (.int y))) H2 Q)
    (hd : ∀ H', H' D = some (.lst (zs.map V.int)) → More H1 H' → Qd H') :
    ∃ W : Nat → Nat → Hp → Prop, (∃ m, W 0 m (upd H1 D (.lst []))) ∧ ∀ i m H, W i m H →
    (J.stop i H ∧ Qd H) ∨ (J.go i H ∧ ∃ Nx : Hp → Prop, (∀ H', Nx H' → ∃ m', m' < m ∧ W (i + 1) m' H') ∧ ∀ x H', J.yld i H x H' → gTup K 2 (gCons (gName s1) (gCons (gName s2) gNil)) x (wipe σ vs) H' fun σ2 H2 => wipe σ2 vs = wipe σ vs ∧ tYes σ2 H2 fun b H3 =>
      if b = true then te σ2 H3 fun y H4 => ∃ acc, H4 D = some (.lst acc) ∧ acc.length < sizeLine ∧ Nx (upd H4 D (.lst (acc ++ [y]))) else Nx H3) := by
  refine lc_it w (fun i H => H D = some (.lst ((zs.take i).map V.int)) ∧ More H1 H) ⟨upd_same, new_more hD⟩ (fun i H _ h => hZ H h.2) ?_ (fun H ⟨e, m⟩ => hd H (by rw [← lz, List.take_length] at e; exact e) m)
  rintro i v H H' hi ⟨eD, m⟩ ⟨T, x, y, rfl, hT, rfl, ex, ey⟩
  have ex : (xs.map V.int)[i]? = some x := ex
  have ey : (ys.map V.int)[i]? = some y := ey
  obtain ⟨x, ex2, rfl⟩ := map_at ex
  obtain ⟨y, ey2, rfl⟩ := map_at ey
  have mT := new_more (o := .tup [V.int x, V.int y]) hT
  refine ⟨T, _, rfl, SqT.of upd_same, rfl, _, _, rfl, _, _, rfl, rfl, hw _ _, ?_⟩
  unfold tYes
  simp only [if_true]
  refine el i x y (zs.getD i 0) _ _ ex2 ey2 (get_some (by omega)) (fun b o e => mT b o (m b o e)) fun H3 m3 => ?_
  refine ⟨_, m3 _ _ (mT _ _ eD), by rw [List.length_map, List.length_take]; exact Nat.lt_of_le_of_lt (Nat.le_trans (Nat.min_le_left _ _) (Nat.le_trans (Nat.le_of_lt hi) few)) (by decide), ?_, More.at (fun b o e => m3 b o (mT b o (m b o e))) hD⟩
  rw [upd_same, List.take_succ, get_some (show i < zs.length by omega), List.map_append]
  rfl
/-- c of the row k off the row v -/
def offR (M : Nat) (c : Int) (v k : List Int) : List Int := List.zipWith (fun a b => (a - c * b) % (M : Int)) v k
theorem offR_len {M n : Nat} {c : Int} {v k : List Int} (hv : v.length = n) (hk : k.length = n) : (offR M c v k).length = n := by
  unfold offR
  rw [List.length_zipWith, hv, hk, Nat.min_self]
theorem offR_some {M : Nat} {c : Int} {v k : List Int} {i : Nat} {x y : Int} (hx : v[i]? = some x) (hy : k[i]? = some y) : (offR M c v k)[i]? = some ((x - c * y) % (M : Int)) := by
  unfold offR
  rw [List.getElem?_zipWith, hx, hy]
theorem offR_get {M n : Nat} {c : Int} {v k : List Int} (hv : v.length = n) (hk : k.length = n) {i : Nat} (hi : i < n) : (offR M c v k).getD i 0 = (v.getD i 0 - c * k.getD i 0) % (M : Int) := by
  have := offR_some (M := M) (c := c) (get_some (l := v) (i := i) (by omega)) (get_some (l := k) (i := i) (by omega))
  rw [List.getD_eq_getElem?_getD, this]
  rfl
theorem offR_in {M : Nat} (M0 : 0 < M) (c : Int) : ∀ v k : List Int, InM M (offR M c v k)
  | [], _ => fun x hx => nomatch hx
  | _ :: _, [] => fun x hx => nomatch hx
  | a :: v, b :: k => fun x hx => by
    have e : offR M c (a :: v) (b :: k) = (a - c * b) % (M : Int) :: offR M c v k := rfl
    rw [e] at hx
    rcases List.mem_cons.mp hx with rfl | hx
    · exact ⟨Int.emod_nonneg _ (by omega), Int.emod_lt_of_pos _ (by omega)⟩
    · exact offR_in M0 c v k x hx
theorem dvd_emod_sub (M a : Int) : M ∣ a % M - a := ⟨-(a / M), by rw [Int.emod_def, Int.mul_neg]; omega⟩
end B5

/-! llt: _law_left -/
namespace K02
open PySem L2 Gd B5
section
variable {P : Program} {w : World} {K : PySem.W.Frag} {mg : Str → Option Value} {base : Heap} {f : Addr} {fd : FuncData}
abbrev sLlt : Stmt := top 54
abbrev NLlt : List Str := ["_law_lot_here", "_law_row", "_law_m", "_law_at", "_law_head", "_law_by", "_law_one", "_law_two"]
theorem scLlt : FnScope NLlt ["_law_lot_here", "_law_row"] (defScope sLlt) := ⟨rfl, rfl, rfl, by decide +kernel, rfl, by decide +kernel, by decide +kernel⟩
theorem ok_llt (F : Fun K "_law_left" "_law_left" sLlt f fd) (B : Blt mg) (zZip : mg "zip" = none) : FnOk P w K mg base CX0 1 f fd ["_law_lot_here", "_law_row"] spLl := by
  refine F.ok scLlt (fun vs H Q E h => ?_) (fun cdv A outer s H vs Q E hr h => ?_)
  · obtain ⟨a, r, b, n, M, ks, bs, row, v, rfl, _⟩ := h
    rfl
  · obtain ⟨a, r, b, n, M, ks, bs, row, v, rfl, L, T, tri, M0, M27, n1000, hb, lv, im, q⟩ := h
    have hu := hu_of hr
    refine ⟨_, pss_cons (ps_set (i := 2) scLlt.nd rfl (Or.inr rfl) (pe_dget hu (pv 0) pe_str (fun _ _ => rfl)))
      (Evl.pss_cut (ps_for PassesOwn.never rfl (pi_range1 (by rfl) B.range_ (pa_cons (pe_dget hu (pv 0) pe_str (fun _ _ => rfl)) pa_nil)) (pg_name (i := 3) scLlt.nd rfl (Or.inl rfl))
        (pss_one (ps_if (PW.pt (pw_and (pt_cmpR op_ne (pe_ix ix_list (pv 1) (pv 3) (fun _ _ => rfl)) pe_int (nomark _)) (pw_and1 (pt_cmp (pc_din hu (pv 3) (pe_dget hu (pv 0) pe_str (fun _ _ => rfl)))))))
          (pss_cons (ps_set (i := 4) scLlt.nd rfl (Or.inl rfl) (pe_ix ix_list (pe_dget hu (pe_dget hu (pv 0) pe_str (fun _ _ => rfl)) (pv 3) (fun _ _ => rfl)) (pv 3) (fun _ _ => rfl)))
          (pss_one (ps_if (pt_cmpR op_eq (pe_op (r := rI (fun _ j => 0 < j) fun i j => .int (i % j)) op_mod (pe_callTy call_int1 (by rfl) B.int_ (by decide +kernel) (pa_cons (pe_ix ix_list (pv 1) (pv 3) (fun _ _ => rfl)) pa_nil)) (pv 4)) pe_int (nomark _))
            (pss_cons (ps_set (i := 5) scLlt.nd rfl (Or.inr rfl) (pe_op op_fdiv (pe_ix ix_list (pv 1) (pv 3) (fun _ _ => rfl)) (pv 4)))
            (pss_one (ps_setLc (i := 1) (own := [("_law_one", 6), ("_law_two", 7)]) (g := gTup K 2 (gCons (gName 6) (gCons (gName 7) gNil))) (tt := tYes) rfl scLlt.nd rfl rfl (sw_true rfl rfl rfl (by decide +kernel))
              (pi_zip (by rfl) zZip (pa_cons (pv 1) (pa_cons (pe_dget hu (pe_dget hu (pv 0) pe_str (fun _ _ => rfl)) (pv 3) (fun _ _ => rfl)) pa_nil)))
              (blkOk_by (N := NLlt) (sc := defScope sLlt) (by decide +kernel))
              (fun _ _ _ _ _ => pg_tup rfl (pgs_cons (pg_name (i := 6) scLlt.nd rfl (Or.inl rfl)) (pgs_cons (pg_name (i := 7) scLlt.nd rfl (Or.inl rfl)) pgs_nil))) (fun _ _ _ _ _ => pts_nil)
              (fun _ _ _ _ _ => pe_op (r := rI (fun _ j => 0 < j) fun i j => .int (i % j)) op_mod (pe_callTy call_int1 (by rfl) B.int_ (by decide +kernel) (pa_cons (pe_op op_sub (pv 6) (pe_op op_mul (pv 5) (pv 7))) pa_nil)) (pv 2)))))
            (pss_one (ps_ret (pv 1))))))
          (pss_one (ps_if (pt_cmpR op_ne (pe_ix ix_list (pv 1) (pv 3) (fun _ _ => rfl)) pe_int (nomark _)) (pss_one (ps_ret (pv 1))) pss_nil)))))
      (pss_one (ps_ret (pv 1)))), ?_⟩
    refine ⟨_, rfl, a, _, rfl, L.gM, ?_⟩
    refine ⟨fun σ' H' => ∃ (b' : Addr) (v' : List Int) (z3 z4 z5 : Option V), σ' = [some (.ref a), some (.ref b'), some (.int M), z3, z4, z5, none, none] ∧ More H H' ∧ H' b' = some (.lst (v'.map V.int)) ∧ v'.length = n ∧ InM M v' ∧ Lat.Left n M (hOf M ks row) (vec v) (vec v') ∧ StopAt n ks row v', ?_, ?_⟩
    · refine ⟨_, rfl, a, _, rfl, L.gW, (n : Int), rfl, by omega, by omega, ?_⟩
      rw [Int.toNat_natCast]
      refine for_range (fun i σ' H' => ∃ (b' : Addr) (v' : List Int) (z3 z4 z5 : Option V), σ' = [some (.ref a), some (.ref b'), some (.int M), z3, z4, z5, none, none] ∧ More H H' ∧ H' b' = some (.lst (v'.map V.int)) ∧ v'.length = n ∧ InM M v' ∧ Lat.Left n M (hOf M ks row) (vec v) (vec v') ∧ ∀ k, k < i → v'.getD k 0 = 0)
        ⟨b, v, none, none, none, rfl, fun _ _ e => e, hb, lv, im, left_self _, fun k hk => absurd hk (Nat.not_lt_zero _)⟩ ?_ ?_
      · rintro i σ' H' hi ⟨b', v', z3, z4, z5, rfl, m, hb', lv', im', Lf, z⟩
        have L' := L.more m
        have iv : i < v'.length := by omega
        have at1 : atI (v'.map V.int) (0 + (i : Int)) = some (.int (v'.getD i 0)) := at_of (j := i) (by omega) (getV_some iv)
        obtain ⟨x, ex⟩ : ∃ x, x = v'.getD i 0 := ⟨_, rfl⟩
        rw [← ex] at at1
        have i0 : (0 : Int) + (i : Int) = (i : Int) := by omega
        have bx := mem_get im' (t := i) iv
        rw [← ex] at bx
        refine ⟨_, rfl, _, rfl, b', _, _, _, rfl, rfl, SqL.of hb', at1, rfl, _, rfl, ?_⟩
        by_cases x0 : x = 0
        · rw [show decide (V.int x = V.int 0) = true from decide_eq_true (by rw [x0])]
          refine iteF (iteF ⟨_, rfl, _, rfl, b', _, _, _, rfl, rfl, SqL.of hb', at1, rfl, _, rfl, ?_⟩)
          rw [show decide (V.int x = V.int 0) = true from decide_eq_true (by rw [x0])]
          refine iteF ⟨b', v', _, z4, z5, rfl, m, hb', lv', im', Lf, fun k hk => ?_⟩
          by_cases e : k = i
          · rw [e, ← ex, x0]
          · exact z k (by omega)
        · rw [show decide (V.int x = V.int 0) = false from decide_eq_false (fun e => x0 (V.int.inj e))]
          have gk := L'.gK i
          rw [← i0] at gk
          refine iteT ⟨_, rfl, _, rfl, a, _, rfl, L'.gR, _, _, rfl, gk, _, rfl, ?_⟩
          by_cases hk : i ∈ ks
          · rw [if_pos hk] at gk ⊢
            have hb2 := L'.hB i hk
            have lr := T.pv.len i hk
            have hp := T.pos i hk
            obtain ⟨h, eh⟩ : ∃ h, h = (row i).getD i 0 := ⟨_, rfl⟩
            rw [← eh] at hp
            have at2 : atI ((row i).map V.int) (0 + (i : Int)) = some (.int h) := by rw [eh]; exact at_of (j := i) (by omega) (getV_some (by omega))
            have bh := mem_get (T.pv.rest i hk) (t := i) (by omega)
            rw [← eh] at bh
            refine iteT ⟨_, rfl, a, _, rfl, L'.gR, _, rfl, r, _, rfl, gk, _, rfl, bs i, _, _, _, rfl, rfl, SqL.of hb2, at2, ?_⟩
            refine ⟨_, rfl, _, rfl, b', _, _, _, rfl, rfl, SqL.of hb', at1, .inl ⟨x, rfl, _, rfl, _, _, rfl, rfl, hp, rfl, _, rfl, ite2 (fun w => ?_) (fun w => ?_)⟩⟩
            · have w : x % h = 0 := V.int.inj (of_decide_eq_true w)
              have dv : h ∣ x := Int.dvd_of_emod_eq_zero w
              refine ⟨_, rfl, _, rfl, b', _, _, _, rfl, rfl, SqL.of hb', at1, _, rfl, _, _, rfl, rfl, ⟨hp, by omega⟩, ?_⟩
              obtain ⟨t, et⟩ : ∃ t, t = x / h := ⟨_, rfl⟩
              show gName 5 (V.int (x / h)) _ _ _
              rw [← et]
              refine ⟨_, rfl, _, rfl, a, _, rfl, L'.gR, _, rfl, r, _, rfl, gk, b', bs i, _, _, rfl, SqL.of hb', SqL.of hb2, fun D hD => ?_⟩
              have tx : h * t = x := by rw [et]; exact Int.mul_ediv_cancel' dv
              have tb : 0 ≤ t ∧ t < 27 := by
                refine ⟨by rw [et]; exact Int.ediv_nonneg bx.1 (by omega), ?_⟩
                have := Int.ediv_le_self (a := x) h bx.1
                omega
              refine lc_zipI (xs := v') (ys := row i) (zs := offR M t v' (row i)) (n := n) (walk_zip (by rw [List.length_map, List.length_map, lv', lr, Nat.min_self])) hD (fun H2 m2 => ⟨SqL.of (m2 _ _ hb'), SqL.of (m2 _ _ hb2)⟩) (offR_len lv' lr) (by omega) (fun _ _ => rfl) (fun k c d e H2 Q2 hc hd' he m2 q2 => ?_) (fun H2 hl m2 => ?_)
              · rw [offR_some hc hd'] at he
                cases he
                have bc := im' c (List.mem_of_getElem? hc)
                have bd := T.pv.rest i hk d (List.mem_of_getElem? hd')
                refine ⟨_, rfl, _, rfl, _, rfl, _, _, rfl, rfl, .inl ⟨by omega, by omega⟩, _, _, rfl, rfl, .inl ⟨_, rfl, _, rfl, _, _, rfl, rfl, by omega, q2 H2 fun _ _ e => e⟩⟩
              · refine ⟨D, offR M t v' (row i), _, _, _, rfl, fun b o e => m2 b o (m b o e), hl, offR_len lv' lr, offR_in M0 t _ _, left_take tri Lf im' hk hi z (by rw [← ex]; exact x0) lv' t fun k hk2 => ?_, fun k hk2 => ?_⟩
                · rw [offR_get lv' lr hk2]
                  exact dvd_emod_sub _ _
                · rw [offR_get lv' lr (by omega)]
                  by_cases e : k = i
                  · rw [e, ← ex, ← eh, Int.mul_comm, tx, Int.sub_self, Int.zero_emod]
                  · rw [z k (by omega), T.low i hk k (by omega), Int.mul_zero, Int.sub_self, Int.zero_emod]
            · have w : ¬ x % h = 0 := fun e => w (decide_eq_true (congrArg V.int e))
              exact ⟨_, rfl, q H' b' v' m hb' lv' im' Lf (.inr ⟨i, hi, z, by rw [← ex]; exact x0, fun _ d => w (by rw [← ex, ← eh] at d; exact Int.emod_eq_zero_of_dvd d)⟩)⟩
          · rw [if_neg hk]
            refine iteF ⟨_, rfl, _, rfl, b', _, _, _, rfl, rfl, SqL.of hb', at1, rfl, _, rfl, ?_⟩
            rw [show decide (V.int x = V.int 0) = false from decide_eq_false (fun e => x0 (V.int.inj e))]
            exact iteT ⟨_, rfl, q H' b' v' m hb' lv' im' Lf (.inr ⟨i, hi, z, by rw [← ex]; exact x0, fun h => absurd h hk⟩)⟩
      · rintro σ' H' ⟨b', v', z3, z4, z5, rfl, m, hb', lv', im', Lf, z⟩
        exact ⟨b', v', z3, z4, z5, rfl, m, hb', lv', im', Lf, .inl z⟩
    rintro σ1 H1 ⟨b', v', z3, z4, z5, rfl, m, hb', lv', im', Lf, st⟩
    exact ⟨_, rfl, q H1 b' v' m hb' lv' im' Lf st⟩
end
end K02

/-! LawP: the law puts a row into a lot of its own. -/
namespace B5
open PySem L2 Gd
/-! ### lists of lists of ints -/
def dLL (l : List (List Int)) : PyData := .list (l.map fun k => .list (k.map .int))
theorem layLL : ∀ l : List (List Int), PyData.canLayAll0 (l.map fun k => PyData.list (k.map .int)) = true
  | [] => by simp [PyData.canLayAll0]
  | e :: l => by
    rw [List.map_cons]
    simp only [PyData.canLayAll0, PyData.canLay0, lay_ints, layLL l, Bool.and_self]
theorem depLL : ∀ l : List (List Int), PyData.depthAll (l.map fun k => PyData.list (k.map .int)) ≤ 1
  | [] => by simp [PyData.depthAll]
  | e :: l => by
    have := depLL l
    rw [List.map_cons]
    simp only [PyData.depthAll, PyData.depth, dep_ints]
    omega
theorem shaped_LL (l : List (List Int)) : SeqAt.shaped (dLL l) = true := by
  unfold SeqAt.shaped
  have := depLL l
  have e : (dLL l).canLay0 = true := by unfold dLL; simp only [PyData.canLay0, layLL]
  rw [e, Bool.true_and, decide_eq_true_eq]
  unfold dLL
  simp only [PyData.depth]
  omega
theorem eqv_LL (l : List (List Int)) : PyData.eqv (dLL l) (dLL []) = decide (l = []) := by
  unfold dLL
  cases l with
  | nil => simp [PyData.eqv, PyData.eqvAll]
  | cons k l => simp [PyData.eqv, PyData.eqvAll]
/-- the rows that wait: where they stand, and their numbers -/
def WRow (H : Hp) (n M : Nat) (p : Addr × List Int) : Prop := H p.1 = some (.lst (p.2.map V.int)) ∧ p.2.length = n ∧ InM M p.2
theorem dp_LLs {K : PySem.W.Frag} {H : Hp} : ∀ as : List (Addr × List Int), (∀ p ∈ as, H p.1 = some (.lst (p.2.map V.int))) → DpAll K H (as.map fun p => V.ref p.1) ((as.map Prod.snd).map fun k => PyData.list (k.map .int))
  | [], _ => .nil
  | p :: as, h => .cons (.lst (SqL.of (h p (.head _))) (dp_ints p.2)) (dp_LLs as fun q hq => h q (.tail _ hq))
theorem dp_LL {K : PySem.W.Frag} {H : Hp} {t : Addr} {as : List (Addr × List Int)} (h : SqL K H t (as.map fun p => V.ref p.1)) (w : ∀ p ∈ as, H p.1 = some (.lst (p.2.map V.int))) : Dp K H (.ref t) (dLL (as.map Prod.snd)) := .lst h (dp_LLs as w)
/-! ### the dict of rows -/
theorem put_keys (ks : List Nat) (g : Nat → V) (j : Nat) (x : V) : putK (ks.map fun k : Nat => ((Sum.inl (k : Int) : Key), g k)) (Sum.inl (j : Int)) x = (if j ∈ ks then ks else ks ++ [j]).map fun k : Nat => ((Sum.inl (k : Int) : Key), if k = j then x else g k) := by
  unfold putK
  have any : ((ks.map fun k : Nat => ((Sum.inl (k : Int) : Key), g k)).any fun kv => decide (kv.1 = Sum.inl (j : Int))) = decide (j ∈ ks) := by
    have := valV_any (Sum.inl (j : Int)) (ks.map fun k : Nat => ((Sum.inl (k : Int) : Key), g k))
    rw [val_keys] at this
    by_cases q : j ∈ ks
    · rw [if_pos q] at this
      rw [decide_eq_true q]
      simpa using this
    · rw [if_neg q] at this
      rw [decide_eq_false q]
      simpa using this
  rw [any]
  by_cases q : j ∈ ks
  · rw [decide_eq_true q, if_pos rfl, if_pos q, List.map_map]
    refine List.map_congr_left fun k _ => ?_
    show (if Sum.inl (k : Int) = Sum.inl (j : Int) then _ else _) = _
    by_cases e : k = j
    · subst e
      rw [if_pos rfl, if_pos rfl]
    · rw [if_neg e, if_neg (fun z => e (by have := Sum.inl.inj z; omega))]
  · rw [decide_eq_false q, if_neg (by simp), if_neg q, List.map_append]
    congr 1
    · refine List.map_congr_left fun k hk => ?_
      have e : k ≠ j := fun z => q (z ▸ hk)
      rw [if_neg e]
    · show [(Sum.inl (j : Int), x)] = [(Sum.inl (j : Int), if j = j then x else g j)]
      rw [if_pos rfl]
/-! ### the lot -/
structure LawLot (H : Hp) (a r : Addr) (n M p kk : Nat) (ks : List Nat) (bs : Nat → Addr) (row : Nat → List Int) : Prop where
  at_ : LLat H a r n M ks bs row
  tr : Tr n M ks row
  heads : ∀ k ∈ ks, ∃ t, t < kk ∧ (row k).getD k 0 = ((p ^ t : Nat) : Int)
theorem LawLot.more {H H' : Hp} {a r : Addr} {n M p kk : Nat} {ks : List Nat} {bs : Nat → Addr} {row : Nat → List Int} (m : More H H') (h : LawLot H a r n M p kk ks bs row) : LawLot H' a r n M p kk ks bs row := ⟨h.at_.more m, h.tr, h.heads⟩
theorem tri_of {n M p kk : Nat} (md : ModK M p kk) {ks : List Nat} {row : Nat → List Int} (T : Tr n M ks row) (hd : ∀ k ∈ ks, ∃ t, t < kk ∧ (row k).getD k 0 = ((p ^ t : Nat) : Int)) : Lat.Tri n M (hOf M ks row) := by
  obtain ⟨eM, k1, k4⟩ := md.eq
  obtain ⟨M2, _, _⟩ := md.mod.facts
  refine ⟨fun j hj i hi => ?_, fun j hj => ?_, fun j hj => ?_⟩ <;> by_cases q : j ∈ ks
  · rw [hOf_in q]
    exact T.low j q i hi
  · unfold hOf
    rw [if_neg q]
    exact if_neg (by omega)
  · rw [hOf_in q]
    exact T.pos j q
  · unfold hOf
    rw [if_neg q]
    show (0 : Int) < (if j = j then (M : Int) else 0)
    rw [if_pos rfl]
    omega
  · rw [hOf_in q]
    obtain ⟨t, tk, e⟩ := hd j q
    show (row j).getD j 0 ∣ (M : Int)
    rw [e, eM]
    exact Int.natCast_dvd_natCast.mpr (Nat.pow_dvd_pow p (Nat.le_of_lt tk))
  · unfold hOf
    rw [if_neg q]
    show (if j = j then (M : Int) else 0) ∣ _
    rw [if_pos rfl]
    exact Int.dvd_refl _
/-! ### how often p divides each head -/
def Lev (p kk : Nat) (ks : List Nat) (row : Nat → List Int) (lev : Nat → Nat) : Prop := ∀ j, (j ∈ ks → lev j < kk ∧ (row j).getD j 0 = ((p ^ lev j : Nat) : Int)) ∧ (j ∉ ks → lev j = kk)
theorem lev_ex {p kk : Nat} {ks : List Nat} {row : Nat → List Int} (hd : ∀ k ∈ ks, ∃ t, t < kk ∧ (row k).getD k 0 = ((p ^ t : Nat) : Int)) : ∃ lev, Lev p kk ks row lev := by
  refine ⟨fun j => if h : j ∈ ks then Classical.choose (hd j h) else kk, fun j => ⟨fun h => ?_, fun h => dif_neg h⟩⟩
  show (dite _ _ _) < kk ∧ _ = (((p ^ (dite _ _ _) : Nat)) : Int)
  rw [dif_pos h]
  exact Classical.choose_spec (hd j h)
theorem Lev.heads {p kk : Nat} {ks : List Nat} {row : Nat → List Int} {lev : Nat → Nat} (h : Lev p kk ks row lev) : ∀ k ∈ ks, ∃ t, t < kk ∧ (row k).getD k 0 = ((p ^ t : Nat) : Int) := fun k hk => ⟨lev k, (h k).1 hk⟩
theorem Lev.le {p kk : Nat} {ks : List Nat} {row : Nat → List Int} {lev : Nat → Nat} (h : Lev p kk ks row lev) (j : Nat) : lev j ≤ kk := by
  by_cases q : j ∈ ks
  · exact Nat.le_of_lt ((h j).1 q).1
  · exact Nat.le_of_eq ((h j).2 q)
def levS (f : Nat → Nat) : Nat → Nat
  | 0 => 0
  | n + 1 => levS f n + f n
theorem levS_le {f : Nat → Nat} {b : Nat} (h : ∀ j, f j ≤ b) : ∀ n, levS f n ≤ b * n
  | 0 => Nat.zero_le _
  | n + 1 => by
    show levS f n + f n ≤ b * (n + 1)
    have := levS_le h n
    have := h n
    rw [Nat.mul_succ]
    omega
theorem levS_off {f : Nat → Nat} {j t : Nat} : ∀ n, n ≤ j → levS (fun k => if k = j then t else f k) n = levS f n
  | 0, _ => rfl
  | n + 1, h => by
    show levS _ n + (if n = j then t else f n) = levS f n + f n
    rw [levS_off n (by omega), if_neg (by omega)]
theorem levS_set {f : Nat → Nat} {j t : Nat} : ∀ n, j < n → levS (fun k => if k = j then t else f k) n + f j = levS f n + t
  | 0, h => absurd h (Nat.not_lt_zero _)
  | n + 1, h => by
    show levS _ n + (if n = j then t else f n) + f j = levS f n + f n + t
    by_cases e : n = j
    · subst e
      rw [levS_off n (Nat.le_refl _), if_pos rfl]
      omega
    · have := levS_set n (show j < n by omega) (f := f) (t := t)
      rw [if_neg e]
      omega
/-! ### a row times a number -/
def mulR (M : Nat) (c : Int) (l : List Int) : List Int := l.map fun x => c * x % (M : Int)
theorem mulR_len (M : Nat) (c : Int) (l : List Int) : (mulR M c l).length = l.length := List.length_map _
theorem mulR_get (M : Nat) (c : Int) (l : List Int) (i : Nat) : (mulR M c l).getD i 0 = c * l.getD i 0 % (M : Int) := by
  unfold mulR
  rw [List.getD_eq_getElem?_getD, List.getD_eq_getElem?_getD, List.getElem?_map]
  cases l[i]? with
  | none =>
    show (0 : Int) = c * 0 % _
    rw [Int.mul_zero, Int.zero_emod]
  | some x => rfl
theorem mulR_in {M : Nat} (M0 : 0 < M) (c : Int) (l : List Int) : InM M (mulR M c l) := fun x hx => by
  obtain ⟨y, _, rfl⟩ := List.mem_map.mp hx
  exact ⟨Int.emod_nonneg _ (by omega), Int.emod_lt_of_pos _ (by omega)⟩
theorem wait_eq {w : Nat} {m : Int} {h : Nat → Lat.Vec} {W W' G : Lat.Vec → Prop} (p : Lat.Wait w m h W G) (e : ∀ u, W u ↔ W' u) : Lat.Wait w m h W' G := by
  have : W = W' := funext fun u => propext (e u)
  rw [← this]
  exact p
/-- the start: one row waits -/
theorem wait_one {w : Nat} {m : Int} {h : Nat → Lat.Vec} (g : Lat.Good w m h) (v : Lat.Vec) : Lat.Wait w m h (fun u => u = v) (Lat.Gen w m (Lat.With (Lat.All w h) v)) where
  toTri := g.toTri
  near := fun i hi q hq => ((g.puts v).far i (Nat.zero_le _) hi q hq).mono fun u hu => .inl hu
  same := fun u => Iff.rfl
theorem ModK.two {M p k : Nat} (h : ModK M p k) : 2 ≤ p := by
  have all : ∀ q ∈ [((2 : Nat), (2 : Nat), (1 : Nat)), (4, 2, 2), (8, 2, 3), (16, 2, 4), (3, 3, 1), (9, 3, 2), (27, 3, 3), (5, 5, 1), (25, 5, 2), (7, 7, 1)], 2 ≤ q.2.1 := by decide
  exact all _ h
/-- one lap of the law: what is left of q stands at j -/
theorem law_swap {n M p kk : Nat} (md : ModK M p kk) {ks : List Nat} {row : Nat → List Int} {lev : Nat → Nat} {W G : Lat.Vec → Prop} {q v : List Int} (pw : Lat.Wait n M (hOf M ks row) (fun u => W u ∨ u = vec q) G) (T : Tr n M ks row) (L : Lev p kk ks row lev)
    (lf : Lat.Left n M (hOf M ks row) (vec q) (vec v)) (lv : v.length = n) (im : InM M v) {j : Nat} (jn : j < n) (z : ∀ i, i < j → v.getD i 0 = 0) (dv : j ∈ ks → ¬ (row j).getD j 0 ∣ v.getD j 0) {t u b : Nat} (tk : t < kk) (e : v.getD j 0 = ((p ^ t * u : Nat) : Int)) (nz : v.getD j 0 ≠ 0)
    (hb : b * u % M = 1 % M) {g bb : List Int} (eg : g = mulR M b v) (eb : bb = mulR M (M / (p ^ t : Nat) : Nat) g) :
    Lat.Wait n M (hOf M (if j ∈ ks then ks else ks ++ [j]) (setR row j g)) (fun x => (W x ∨ (j ∈ ks ∧ x = vec (row j))) ∨ x = vec bb) G ∧ Tr n M (if j ∈ ks then ks else ks ++ [j]) (setR row j g) ∧
    Lev p kk (if j ∈ ks then ks else ks ++ [j]) (setR row j g) (fun k => if k = j then t else lev k) ∧ t < lev j := by
  obtain ⟨eM, k1, k4⟩ := md.eq
  obtain ⟨M2, M27, pr, _⟩ := md.mod.facts
  have p2 := md.two
  have p0 : 0 < p ^ t := Nat.pow_pos (by omega)
  have pM : p ^ t * (M / p ^ t) = M := Nat.mul_div_cancel' (by rw [eM]; exact Nat.pow_dvd_pow p (Nat.le_of_lt tk))
  have pl : p ^ t < M := by rw [eM]; exact Nat.pow_lt_pow_right (by omega) tk
  have gl : g.length = n := by rw [eg, mulR_len, lv]
  have gin : InM M g := by rw [eg]; exact mulR_in (by omega) _ _
  have gget : ∀ i, g.getD i 0 = (b : Int) * v.getD i 0 % (M : Int) := fun i => by rw [eg, mulR_get]
  obtain ⟨c, bu⟩ : ∃ c : Nat, b * u = M * c + 1 := ⟨b * u / M, by have := Nat.div_add_mod (b * u) M; rw [hb, Nat.mod_eq_of_lt (show 1 < M by omega)] at this; exact this.symm⟩
  have buI : (b : Int) * u = M * c + 1 := by exact_mod_cast bu
  have gj : g.getD j 0 = ((p ^ t : Nat) : Int) := by
    rw [gget j, e]
    have : b * (p ^ t * u) = p ^ t + M * (p ^ t * c) := by
      rw [show b * (p ^ t * u) = p ^ t * (b * u) by rw [Nat.mul_left_comm], bu, Nat.mul_add, Nat.mul_one, Nat.mul_left_comm, Nat.add_comm]
    rw [← Int.natCast_mul, this, ← Int.natCast_emod, Nat.add_mul_mod_self_left, Nat.mod_eq_of_lt pl]
  have g0 : ∀ i, i < j → vec g i = 0 := fun i hi => by
    show g.getD i 0 = 0
    rw [gget i, z i hi, Int.mul_zero, Int.zero_emod]
  have vj : ¬ (M : Int) ∣ vec v j := fun d => by
    have b := mem_get im (t := j) (by omega)
    exact nz (Lat.small_zero d (by omega) b.2)
  have gd : ((M / p ^ t : Nat) : Int) * vec g j = M := by
    show _ * g.getD j 0 = _
    rw [gj, ← Int.natCast_mul, Nat.mul_comm, pM]
  have eg1 : ∀ i, i < n → (M : Int) ∣ vec g i - (b : Int) * vec v i := fun i _ => by
    show (M : Int) ∣ g.getD i 0 - _
    rw [gget i]
    exact dvd_emod_sub _ _
  have ev : ∀ i, i < n → (M : Int) ∣ vec v i - (u : Int) * vec g i := fun i hi => by
    obtain ⟨k, hk⟩ := eg1 i hi
    have e1 : vec g i = (b : Int) * vec v i + M * k := by omega
    have e2 : (u : Int) * vec g i = vec v i + M * ((c : Int) * vec v i + u * k) := by
      rw [e1, Int.mul_add, ← Int.mul_assoc, Int.mul_comm (u : Int) (b : Int), buI, Int.add_mul, Int.one_mul, Int.mul_add, Int.mul_assoc, Int.mul_left_comm (u : Int) (M : Int) k]
      omega
    rw [e2]
    exact ⟨-((c : Int) * vec v i + u * k), by rw [Int.mul_neg]; omega⟩
  have hbb : ∀ i, i < n → (M : Int) ∣ ((M / p ^ t : Nat) : Int) * vec g i - vec bb i := fun i _ => by
    show (M : Int) ∣ _ - bb.getD i 0
    rw [eb, mulR_get]
    have := Int.dvd_neg.mpr (dvd_emod_sub (M : Int) (((M / p ^ t : Nat) : Int) * g.getD i 0))
    rw [Int.neg_sub] at this
    exact this
  have gp : 0 < vec g j := by
    show 0 < g.getD j 0
    rw [gj]
    exact Int.natCast_pos.mpr p0
  refine ⟨?_, ?_, fun k => ?_, ?_⟩
  · rw [hOf_put]
    by_cases q1 : j ∈ ks
    · have w := pw.swap (b : Int) (u : Int) 0 ((M / p ^ t : Nat) : Int) lf jn vj g0 gp gd eg1 ev (o := vec (row j)) (b := vec bb) (fun i _ => by rw [hOf_in q1, Int.sub_self]; exact Int.dvd_zero _) hbb
      refine wait_eq w fun x => ⟨fun h => ?_, fun h => ?_⟩
      · rcases h with h | h | h
        · exact .inl (.inl h)
        · exact .inl (.inr ⟨q1, h⟩)
        · exact .inr h
      · rcases h with (h | ⟨_, h⟩) | h
        · exact .inl h
        · exact .inr (.inl h)
        · exact .inr (.inr h)
    · have w := pw.swap (b : Int) (u : Int) 0 ((M / p ^ t : Nat) : Int) lf jn vj g0 gp gd eg1 ev (o := fun _ => 0) (b := vec bb) (fun i _ => by
        rw [hOf_out q1, Int.sub_zero]
        show (M : Int) ∣ if i = j then (M : Int) else 0
        by_cases e : i = j
        · rw [if_pos e]
          exact Int.dvd_refl _
        · rw [if_neg e]
          exact Int.dvd_zero _) hbb
      have w2 := wait_eq (W' := fun x => (W x ∨ x = vec bb) ∨ x = fun _ => 0) w fun x => ⟨fun h => by
        rcases h with h | h | h
        · exact .inl (.inl h)
        · exact .inr h
        · exact .inl (.inr h), fun h => by
        rcases h with (h | h) | h
        · exact .inl h
        · exact .inr (.inr h)
        · exact .inr (.inl h)⟩
      refine wait_eq (w2.drop (left_self _) fun i _ => Int.dvd_zero _) fun x => ⟨fun h => ?_, fun h => ?_⟩
      · rcases h with h | h
        · exact .inl (.inl h)
        · exact .inr h
      · rcases h with (h | ⟨h, _⟩) | h
        · exact .inl h
        · exact absurd h q1
        · exact .inr h
  · have sub : ∀ k, k ∈ (if j ∈ ks then ks else ks ++ [j]) → k ≠ j → k ∈ ks := fun k hk kj => by
      by_cases q1 : j ∈ ks
      · rw [if_pos q1] at hk
        exact hk
      · rw [if_neg q1] at hk
        rcases List.mem_append.mp hk with y | y
        · exact y
        · exact absurd (List.mem_singleton.mp y) kj
    refine ⟨T.pv.put jn gl gin, fun k hk i hi => ?_, fun k hk => ?_⟩ <;> unfold setR <;> by_cases kj : k = j
    · subst kj
      rw [if_pos rfl]
      exact g0 i hi
    · rw [if_neg kj]
      exact T.low k (sub k hk kj) i hi
    · subst kj
      rw [if_pos rfl]
      exact gp
    · rw [if_neg kj]
      exact T.pos k (sub k hk kj)
  · have mem : k ∈ (if j ∈ ks then ks else ks ++ [j]) ↔ (k = j ∨ k ∈ ks) := by
      by_cases q1 : j ∈ ks
      · rw [if_pos q1]
        exact ⟨.inr, fun h => h.elim (fun e => e ▸ q1) id⟩
      · rw [if_neg q1, List.mem_append, List.mem_singleton]
        exact ⟨fun h => h.symm, fun h => h.symm⟩
    rw [mem]
    unfold setR
    show ((k = j ∨ k ∈ ks) → (if k = j then t else lev k) < kk ∧ (if k = j then g else row k).getD k 0 = ((p ^ (if k = j then t else lev k) : Nat) : Int)) ∧ (¬ (k = j ∨ k ∈ ks) → (if k = j then t else lev k) = kk)
    by_cases kj : k = j
    · subst kj
      rw [if_pos rfl, if_pos rfl]
      exact ⟨fun _ => ⟨tk, gj⟩, fun h => absurd (Or.inl rfl) h⟩
    · rw [if_neg kj, if_neg kj]
      exact ⟨fun h => (L k).1 (h.resolve_left kj), fun h => (L k).2 fun y => h (.inr y)⟩
  · by_cases q1 : j ∈ ks
    · obtain ⟨l1, l2⟩ := (L j).1 q1
      refine Decidable.byContradiction fun h => dv q1 ?_
      rw [l2, e]
      exact Int.natCast_dvd_natCast.mpr (Nat.dvd_trans (Nat.pow_dvd_pow p (by omega)) (Nat.dvd_mul_right _ _))
    · rw [(L j).2 q1]
      exact tk
/-- _law_put(lot, row) -/
def spLpt : Sp := fun vs H Q _ => ∃ (a r b : Addr) (n M p kk : Nat) (ks : List Nat) (bs : Nat → Addr) (row : Nat → List Int) (v : List Int), vs = [.ref a, .ref b] ∧ ModK M p kk ∧ LawLot H a r n M p kk ks bs row ∧ Lat.Good n M (hOf M ks row) ∧ n ≤ 1000 ∧ H b = some (.lst (v.map V.int)) ∧ v.length = n ∧
  ∀ (gr : Bool) (H' : Hp) (ks' : List Nat) (bs' : Nat → Addr) (row' : Nat → List Int), LawLot H' a r n M p kk ks' bs' row' → Lat.Good n M (hOf M ks' row') → (∀ u, Lat.Mem n (hOf M ks' row') n u ↔ Lat.Gen n M (Lat.With (Lat.All n (hOf M ks row)) (vec v)) u) →
    (gr = false ↔ Lat.Gen n M (Lat.All n (hOf M ks row)) (vec v)) → Off r H H' → Q (.bl gr) H'
end B5

/-! LawQ: what holds from lap to lap while the law puts a row. -/
namespace B5
open PySem L2 Gd
structure PutI (H0 : Hp) (n M p kk : Nat) (ks : List Nat) (row : Nat → List Int) (v0 : List Int) (a r W : Addr) (i : Nat) (gr : Bool) (H' : Hp) (ks' : List Nat) (bs' : Nat → Addr) (row' : Nat → List Int) (lev : Nat → Nat) (as : List (Addr × List Int)) : Prop where
  at_ : LLat H' a r n M ks' bs' row'
  tr : Tr n M ks' row'
  lv : Lev p kk ks' row' lev
  hW : H' W = some (.lst (as.map fun p => V.ref p.1))
  rows : ∀ q ∈ as, WRow H' n M q ∧ q.1 ≠ W
  bsW : ∀ k ∈ ks', bs' k ≠ W
  wait : Lat.Wait n M (hOf M ks' row') (fun u => ∃ q ∈ as, u = vec q.2) (Lat.Gen n M (Lat.With (Lat.All n (hOf M ks row)) (vec v0)))
  few : as.length + 2 * levS lev n + i ≤ 8 * n + 1
  yes : gr = true → ¬ Lat.Gen n M (Lat.All n (hOf M ks row)) (vec v0)
  no : gr = false → (ks' = ks ∧ row' = row ∧ as.map Prod.snd = [v0]) ∨ (as = [] ∧ Lat.Gen n M (Lat.All n (hOf M ks row)) (vec v0))
  off : Off r H0 H'
theorem LLat.ne {H : Hp} {a r : Addr} {n M : Nat} {ks : List Nat} {bs : Nat → Addr} {row : Nat → List Int} (h : LLat H a r n M ks bs row) : a ≠ r := fun e => by
  have h1 := h.hA
  rw [e, h.hR] at h1
  have h2 := HO.dK.inj (Option.some.inj h1)
  cases ks with
  | nil => cases h2
  | cons k ks =>
    rw [List.map_cons] at h2
    injection h2 with h3 _
    injection h3 with h4 _
    cases h4
section
variable {H0 H1 H2 : Hp} {n M p kk : Nat} {ks ks' : List Nat} {row row' : Nat → List Int} {bs' : Nat → Addr} {v0 v' : List Int} {a r W : Addr} {i : Nat} {gr : Bool} {lev : Nat → Nat} {as : List (Addr × List Int)} {q0 : Addr × List Int}
theorem LLat.offW {ks : List Nat} {bs : Nat → Addr} {row : Nat → List Int} (h : LLat H1 a r n M ks bs row) (m : ∀ b o, H1 b = some o → b ≠ W → H2 b = some o) (hW : ∃ xs, H1 W = some (.lst xs)) (b : ∀ k ∈ ks, bs k ≠ W) : LLat H2 a r n M ks bs row := by
  obtain ⟨xs, hW⟩ := hW
  refine ⟨m _ _ h.hA fun e => ?_, m _ _ h.hR fun e => ?_, fun k hk => m _ _ (h.hB k hk) (b k hk), h.pv⟩
  · have := h.hA
    rw [e, hW] at this
    cases this
  · have := h.hR
    rw [e, hW] at this
    cases this
theorem PutI.zero (I : PutI H0 n M p kk ks row v0 a r W i gr H1 ks' bs' row' lev (as ++ [q0])) (fresh : H0 W = none) (m : ∀ b o, H1 b = some o → b ≠ W → H2 b = some o) (hW : H2 W = some (.lst (as.map fun p => V.ref p.1)))
    (lf : Lat.Left n M (hOf M ks' row') (vec q0.2) (vec v')) (z : ∀ i, i < n → v'.getD i 0 = 0) : PutI H0 n M p kk ks row v0 a r W (i + 1) gr H2 ks' bs' row' lev as := by
  refine ⟨I.at_.offW m ⟨_, I.hW⟩ I.bsW, I.tr, I.lv, hW, fun q hq => ?_, I.bsW, ?_, ?_, I.yes, fun g => ?_, fun b o e nb => m b o (I.off b o e nb) (ne_of_none e fresh)⟩
  · obtain ⟨⟨h1, h2⟩, h3⟩ := I.rows q (List.mem_append_left _ hq)
    exact ⟨⟨m _ _ h1 h3, h2⟩, h3⟩
  · refine (wait_eq (W' := fun u => (∃ q ∈ as, u = vec q.2) ∨ u = vec q0.2) I.wait fun u => ?_).drop lf fun i hi => ?_
    · constructor
      · rintro ⟨q, hq, e⟩
        rcases List.mem_append.mp hq with h | h
        · exact .inl ⟨q, h, e⟩
        · exact .inr (by rw [e, List.mem_singleton.mp h])
      · rintro (⟨q, hq, e⟩ | e)
        · exact ⟨q, List.mem_append_left _ hq, e⟩
        · exact ⟨q0, List.mem_append_right _ (.head _), e⟩
    · show (M : Int) ∣ v'.getD i 0
      rw [z i hi]
      exact Int.dvd_zero _
  · have := I.few
    rw [List.length_append, List.length_singleton] at this
    omega
  · rcases I.no g with ⟨rfl, rfl, h⟩ | ⟨h, _⟩
    · rw [List.map_append] at h
      have e : as = [] := by
        cases as with
        | nil => rfl
        | cons x t =>
          have := congrArg List.length h
          simp at this
      subst e
      have : q0.2 = v0 := by
        have h : [q0.2] = [v0] := h
        injection h
      rw [this] at lf
      exact .inr ⟨rfl, Lat.Left.back lf.all (.top fun i hi => by
        show (M : Int) ∣ v'.getD i 0
        rw [z i hi]
        exact Int.dvd_zero _)⟩
    · exact absurd h (by simp)
/-- a row that is not in the lot -/
theorem not_in (md : ModK M p kk) (good : Lat.Good n M (hOf M ks row)) (lf : Lat.Left n M (hOf M ks row) (vec v0) (vec v')) (lv : v'.length = n) (im : InM M v') {j : Nat} (jn : j < n) (z : ∀ i, i < j → v'.getD i 0 = 0) (nz : v'.getD j 0 ≠ 0) (dv : j ∈ ks → ¬ (row j).getD j 0 ∣ v'.getD j 0) : ¬ Lat.Gen n M (Lat.All n (hOf M ks row)) (vec v0) := fun g => by
  have g2 := Lat.Left.forth lf.all g
  have mem := (good.gen _).mpr g2
  have d := good.toTri.div (Nat.le_refl n) mem j (by omega) jn fun i _ hi => z i hi
  by_cases q : j ∈ ks
  · rw [hOf_in q] at d
    exact dv q d
  · rw [hOf_out q] at d
    have d : (if j = j then (M : Int) else 0) ∣ v'.getD j 0 := d
    rw [if_pos rfl] at d
    exact nz (Lat.small_zero d (by have := (mem_get im (t := j) (by omega)).1; obtain ⟨_, _⟩ := md.mod.facts; omega) (mem_get im (t := j) (by omega)).2)
theorem PutI.lap (md : ModK M p kk) (good : Lat.Good n M (hOf M ks row)) (I : PutI H0 n M p kk ks row v0 a r W i gr H1 ks' bs' row' lev (as ++ [q0])) (fresh : H0 W = none)
    (lf : Lat.Left n M (hOf M ks' row') (vec q0.2) (vec v')) (lv : v'.length = n) (im : InM M v') {j : Nat} (jn : j < n) (z : ∀ i, i < j → v'.getD i 0 = 0) (dv : j ∈ ks' → ¬ (row' j).getD j 0 ∣ v'.getD j 0) {t u b : Nat} (tk : t < kk) (e : v'.getD j 0 = ((p ^ t * u : Nat) : Int)) (nz : v'.getD j 0 ≠ 0)
    (hb : b * u % M = 1 % M) {g bb : List Int} (eg : g = mulR M b v') (eb : bb = mulR M (M / (p ^ t : Nat) : Nat) g) {D D2 : Addr} (DW : D ≠ W) (D2W : D2 ≠ W) {as2 : List (Addr × List Int)} (ea : as2 = as ++ ((if j ∈ ks' then [(bs' j, row' j)] else []) ++ [(D2, bb)]))
    (m : ∀ b o, H1 b = some o → b ≠ W → b ≠ r → H2 b = some o) (hW : H2 W = some (.lst (as2.map fun p => V.ref p.1))) (hR : H2 r = some (.dK ((if j ∈ ks' then ks' else ks' ++ [j]).map fun k : Nat => (Sum.inl (k : Int), V.ref (if k = j then D else bs' k)))))
    (hD : H2 D = some (.lst (g.map V.int))) (hD2 : H2 D2 = some (.lst (bb.map V.int))) :
    PutI H0 n M p kk ks row v0 a r W (i + 1) true H2 (if j ∈ ks' then ks' else ks' ++ [j]) (fun k => if k = j then D else bs' k) (setR row' j g) (fun k => if k = j then t else lev k) as2 := by
  have M0 : 0 < M := by obtain ⟨_, _⟩ := md.mod.facts; omega
  have w1 := wait_eq (W' := fun u => (∃ q ∈ as, u = vec q.2) ∨ u = vec q0.2) I.wait fun u => by
    constructor
    · rintro ⟨q, hq, e⟩
      rcases List.mem_append.mp hq with h | h
      · exact .inl ⟨q, h, e⟩
      · exact .inr (by rw [e, List.mem_singleton.mp h])
    · rintro (⟨q, hq, e⟩ | e)
      · exact ⟨q, List.mem_append_left _ hq, e⟩
      · exact ⟨q0, List.mem_append_right _ (.head _), e⟩
  obtain ⟨w2, tr2, lv2, tl⟩ := law_swap md w1 I.tr I.lv lf lv im jn z dv tk e nz hb eg eb
  have sub : ∀ k, k ∈ (if j ∈ ks' then ks' else ks' ++ [j]) → k ≠ j → k ∈ ks' := fun k hk kj => by
    by_cases q1 : j ∈ ks'
    · rw [if_pos q1] at hk
      exact hk
    · rw [if_neg q1] at hk
      rcases List.mem_append.mp hk with y | y
      · exact y
      · exact absurd (List.mem_singleton.mp y) kj
  have ltr : ∀ {b : Addr} {xs : List V}, H1 b = some (.lst xs) → b ≠ r := fun h e => by
    rw [e, I.at_.hR] at h
    cases h
  have aW : a ≠ W := fun e => by
    have h1 := I.at_.hA
    rw [e, I.hW] at h1
    cases h1
  refine ⟨⟨m _ _ I.at_.hA aW I.at_.ne, hR, fun k hk => ?_, tr2.pv⟩, tr2, lv2, hW, fun q hq => ?_, fun k hk => ?_, wait_eq w2 fun u => ?_, ?_, fun _ => ?_, (fun h => nomatch h), fun b o e nb => m b o (I.off b o e nb) (ne_of_none e fresh) nb⟩
  · unfold setR
    show H2 (if k = j then D else bs' k) = _
    by_cases kj : k = j
    · rw [if_pos kj, if_pos kj]
      exact hD
    · rw [if_neg kj, if_neg kj]
      have h := I.at_.hB k (sub k hk kj)
      exact m _ _ h (I.bsW k (sub k hk kj)) (ltr h)
  · rw [ea] at hq
    have gin : InM M g := by rw [eg]; exact mulR_in M0 _ _
    rcases List.mem_append.mp hq with h | h
    · obtain ⟨⟨h1, h2⟩, h3⟩ := I.rows q (List.mem_append_left _ h)
      exact ⟨⟨m _ _ h1 h3 (ltr h1), h2⟩, h3⟩
    · rcases List.mem_append.mp h with h | h
      · by_cases q1 : j ∈ ks'
        · rw [if_pos q1] at h
          rw [List.mem_singleton.mp h]
          have h1 := I.at_.hB j q1
          exact ⟨⟨m _ _ h1 (I.bsW j q1) (ltr h1), I.tr.pv.len j q1, I.tr.pv.rest j q1⟩, I.bsW j q1⟩
        · rw [if_neg q1] at h
          cases h
      · rw [List.mem_singleton.mp h]
        exact ⟨⟨hD2, by rw [eb, mulR_len, eg, mulR_len, lv], by rw [eb]; exact mulR_in M0 _ _⟩, D2W⟩
  · show (if k = j then D else bs' k) ≠ W
    by_cases kj : k = j
    · rw [if_pos kj]
      exact DW
    · rw [if_neg kj]
      exact I.bsW k (sub k hk kj)
  · rw [ea]
    constructor
    · rintro ((⟨q, hq, e⟩ | ⟨q1, e⟩) | e)
      · exact ⟨q, List.mem_append_left _ hq, e⟩
      · exact ⟨(bs' j, row' j), List.mem_append_right _ (List.mem_append_left _ (by rw [if_pos q1]; exact .head _)), e⟩
      · exact ⟨(D2, bb), List.mem_append_right _ (List.mem_append_right _ (.head _)), e⟩
    · rintro ⟨q, hq, e⟩
      rcases List.mem_append.mp hq with h | h
      · exact .inl (.inl ⟨q, h, e⟩)
      · rcases List.mem_append.mp h with h | h
        · by_cases q1 : j ∈ ks'
          · rw [if_pos q1] at h
            rw [List.mem_singleton.mp h] at e
            exact .inl (.inr ⟨q1, e⟩)
          · rw [if_neg q1] at h
            cases h
        · rw [List.mem_singleton.mp h] at e
          exact .inr e
  · have f := I.few
    have s := levS_set (f := lev) (t := t) n jn
    rw [ea, List.length_append, List.length_append]
    rw [List.length_append, List.length_singleton] at f
    have l1 : (if j ∈ ks' then [(bs' j, row' j)] else []).length ≤ 1 := by split <;> simp
    rw [List.length_singleton]
    omega
  · cases gr with
    | true => exact I.yes rfl
    | false =>
      rcases I.no rfl with ⟨rfl, rfl, h⟩ | ⟨h, _⟩
      · rw [List.map_append] at h
        have e0 : as = [] := by
          cases as with
          | nil => rfl
          | cons x t =>
            have := congrArg List.length h
            simp at this
        subst e0
        have e1 : q0.2 = v0 := by
          have h : [q0.2] = [v0] := h
          injection h
        rw [e1] at lf
        exact not_in md good lf lv im jn z nz dv
      · exact absurd h (by simp)
theorem PutI.more (I : PutI H0 n M p kk ks row v0 a r W i gr H1 ks' bs' row' lev as) (m : More H1 H2) : PutI H0 n M p kk ks row v0 a r W i gr H2 ks' bs' row' lev as :=
  ⟨I.at_.more m, I.tr, I.lv, m _ _ I.hW, fun q hq => ⟨⟨m _ _ (I.rows q hq).1.1, (I.rows q hq).1.2⟩, (I.rows q hq).2⟩, I.bsW, I.wait, I.few, I.yes, I.no, I.off.trans (.of m)⟩
end
theorem gone_more {H H' : Hp} {b : Addr} (m : More H H') (h : H' b = none) : H b = none := by
  cases e : H b with
  | none => rfl
  | some o =>
    rw [m _ _ e] at h
    cases h
theorem dpLi {K : PySem.W.Frag} {H : Hp} {t : Addr} {l : List Int} (h : SqL K H t (l.map V.int)) : Dp K H (.ref t) (.list (l.map .int)) := .lst h (dp_ints l)
theorem shapedLi (l : List Int) : SeqAt.shaped (.list (l.map .int)) = true := by
  unfold SeqAt.shaped
  simp only [PyData.canLay0, lay_ints, PyData.depth, dep_ints]
  decide
theorem eqvLi (a b : List Int) : PyData.eqv (.list (a.map .int)) (.list (b.map .int)) = decide (a = b) := by
  simp only [PyData.eqv, eqvAll_ints]
/-- the places of a row where something stands -/
def plN (v : List Int) (n : Nat) : List Int := ((List.range n).filter fun k => decide (v.getD k 0 ≠ 0)).map fun k : Nat => (k : Int)
theorem plN_succ (v : List Int) (n : Nat) : plN v (n + 1) = plN v n ++ (if v.getD n 0 ≠ 0 then [(n : Int)] else []) := by
  unfold plN
  rw [List.range_succ, List.filter_append, List.map_append]
  congr 1
  by_cases h : v.getD n 0 ≠ 0
  · rw [if_pos h, List.filter_cons_of_pos (by simpa using h)]
    rfl
  · rw [if_neg h, List.filter_cons_of_neg (by simpa using h)]
    rfl
theorem plN_len (v : List Int) (n : Nat) : (plN v n).length ≤ n := by
  unfold plN
  rw [List.length_map]
  exact Nat.le_trans (List.length_filter_le _ _) (by rw [List.length_range]; exact Nat.le_refl _)
theorem plN_nil {v : List Int} : ∀ {n : Nat}, (∀ i, i < n → v.getD i 0 = 0) → plN v n = []
  | 0, _ => rfl
  | n + 1, h => by
    rw [plN_succ, plN_nil fun i hi => h i (by omega), if_neg fun q => q (h n (by omega))]
    rfl
theorem plN_at {v : List Int} {j : Nat} (z : ∀ i, i < j → v.getD i 0 = 0) (nz : v.getD j 0 ≠ 0) : ∀ {n : Nat}, j < n → ∃ r, plN v n = (j : Int) :: r
  | 0, h => absurd h (Nat.not_lt_zero _)
  | n + 1, h => by
    by_cases e : j = n
    · subst e
      exact ⟨[], by rw [plN_succ, plN_nil z, if_pos nz]; rfl⟩
    · obtain ⟨r, hr⟩ := plN_at z nz (n := n) (by omega)
      exact ⟨_, by rw [plN_succ, hr]; rfl⟩
end B5

/-! lpt: _law_put -/
namespace K02
open PySem L2 Gd B5
section
variable {P : Program} {w : World} {K : PySem.W.Frag} {mg : Str → Option Value} {base : Heap} {g1 g2 g3 g4 f : Addr} {d1 d2 d3 d4 fd : FuncData}
abbrev sLpt : Stmt := top 53
abbrev NLpt : List Str := ["_law_lot_here", "_law_row", "_law_m", "_law_waiting", "_law_is_new", "_law_p", "_law_k", "_law_lap", "_law_at", "_law_places", "_law_t", "_law_power_here", "_law_turn", "_law_by", "_law_one"]
theorem scLpt : FnScope NLpt ["_law_lot_here", "_law_row"] (defScope sLpt) := ⟨rfl, rfl, rfl, by decide +kernel, rfl, by decide +kernel, by decide +kernel⟩
theorem ok_lpt (F : Fun K "_law_put" "_law_put" sLpt f fd) (B : Blt mg) (zZip : mg "zip" = none) (Pw : Cl K mg "_law_power" sLpw ["_law_m"] g1 d1) (Le : Cl K mg "_law_left" sLlt ["_law_lot_here", "_law_row"] g2 d2) (Or_ : Cl K mg "_law_order" sLor ["_law_number", "_law_m"] g3 d3) (Un : Cl K mg "_law_unit" sLun ["_law_number", "_law_m"] g4 d4) :
    FnOk P w K mg base CX0 3 f fd ["_law_lot_here", "_law_row"] spLpt := by
  have GP : FnOk P w K mg base CX0 1 g1 d1 ["_law_m"] spLpw := ok_lpw Pw.fn
  have GL : FnOk P w K mg base CX0 1 g2 d2 ["_law_lot_here", "_law_row"] spLl := ok_llt Le.fn B zZip
  have GO : FnOk P w K mg base CX0 2 g3 d3 ["_law_number", "_law_m"] spLor := ok_lor Or_.fn B Pw
  have GU : FnOk P w K mg base CX0 1 g4 d4 ["_law_number", "_law_m"] spLun := ok_lun Un.fn B
  refine F.ok scLpt (fun vs H Q E h => ?_) (fun cdv A outer s H vs Q E hr h => ?_)
  · obtain ⟨a, r, b, n, M, p, kk, ks, bs, row, v, rfl, _⟩ := h
    rfl
  · obtain ⟨a, r, b, n, M, p, kk, ks, bs, row, v, rfl, md, L, good, n1000, hb, lv, q⟩ := h
    have hu := hu_of hr
    have hu64 := hr.units
    have hr1 : Room 1 _ := hr.mono (by decide)
    refine ⟨_, Evl.pss_cut (ps_asg (pe_tup (pa_cons (pe_dget hu (pv 0) pe_str (fun _ _ => rfl)) (pa_cons (pe_lst (pa_cons (pe_lc (own := [("_law_one", 14)]) (g := gName 14) rfl scLpt.nd (pi_list (pv 1)) (blkOk_by (N := NLpt) (sc := defScope sLpt) (by decide +kernel)) (fun _ _ _ _ _ => pg_name (i := 14) scLpt.nd rfl (Or.inl rfl)) (fun _ _ _ _ _ => pts_nil)
            (fun _ _ _ _ _ => pe_op (r := rI (fun _ j => 0 < j) fun i j => .int (i % j)) op_mod (pe_callTy call_int1 (by rfl) B.int_ (by decide +kernel) (pa_cons (pv 14) pa_nil)) (pe_dget hu (pv 0) pe_str (fun _ _ => rfl)))) pa_nil)) (pa_cons pe_bl pa_nil))))
          (pg_tup (by rfl) (pgs_cons (pg_name (i := 2) scLpt.nd rfl (Or.inr rfl)) (pgs_cons (pg_name (i := 3) scLpt.nd rfl (Or.inl rfl)) (pgs_cons (pg_name (i := 4) scLpt.nd rfl (Or.inl rfl)) pgs_nil)))))
      (pss_cons (ps_asg (pe_call GP hr1 rfl Pw.g Pw.k Pw.b .nil pass0 (pa_cons (pv 2) pa_nil)) (pg_tup (by rfl) (pgs_cons (pg_name (i := 5) scLpt.nd rfl (Or.inl rfl)) (pgs_cons (pg_name (i := 6) scLpt.nd rfl (Or.inl rfl)) pgs_nil))))
      (Evl.pss_cut (ps_for PassesOwn.never rfl (pi_range1 (by rfl) B.range_ (pa_cons pe_int pa_nil)) (pg_name (i := 7) scLpt.nd rfl (Or.inl rfl))
        (pss_cons (ps_if (pt_cmpR (op_eqD hu64) (pv 3) (pe_lst pa_nil) (nomark _)) (pss_one ps_break) pss_nil)
        (pss_cons (ps_set (i := 1) scLpt.nd rfl (Or.inr rfl) (pe_call GL hr1 rfl Le.g Le.k Le.b .nil pass0 (pa_cons (pv 0) (pa_cons (pe_bm0 PySem.F.plainAttrs_list PySem.F.slot_list_pop PySem.F.type_list_pop mt_pop (pv 3)) pa_nil))))
        (pss_cons (ps_setLc (i := 9) (own := [("_law_at", 8)]) (g := gName 8) rfl scLpt.nd rfl rfl (sw_true rfl rfl rfl (by decide +kernel)) (pi_range1 (by rfl) B.range_ (pa_cons (pe_dget hu (pv 0) pe_str (fun _ _ => rfl)) pa_nil)) (blkOk_by (N := NLpt) (sc := defScope sLpt) (by decide +kernel)) (fun _ _ _ _ _ => pg_name (i := 8) scLpt.nd rfl (Or.inl rfl))
            (fun _ _ _ _ _ => pts_one (pt_cmpR (r := rNe) op_ne (pe_ix (r := rIxL K) ix_list (pv 1) (pv 8) (fun _ _ => rfl)) pe_int (nomark _))) (fun _ _ _ _ _ => pv 8))
        (pss_cons (ps_if (pt_cmpR (op_eqD hu64) (pv 9) (pe_lst pa_nil) (nomark _)) (pss_one ps_continue) pss_nil)
        (pss_cons (ps_par (i := 8) (j := 4) rfl scLpt.nd rfl rfl (by decide) rfl rfl (pa_cons (pe_ix ix_list (pv 9) pe_int (fun _ _ => rfl)) (pa_cons pe_bl pa_nil)) (by rfl))
        (pss_cons (ps_set (i := 10) scLpt.nd rfl (Or.inl rfl) (pe_call GO hr rfl Or_.g Or_.k Or_.b .nil pass0 (pa_cons (pe_ix ix_list (pv 1) (pv 8) (fun _ _ => rfl)) (pa_cons (pv 2) pa_nil))))
        (pss_cons (ps_set (i := 11) scLpt.nd rfl (Or.inr rfl) pe_int)
        (Evl.pss_cut (ps_for PassesOwn.never rfl (pi_range1 (by rfl) B.range_ (pa_cons (pv 10) pa_nil)) (pg_name (i := 12) scLpt.nd rfl (Or.inl rfl))
          (pss_one (ps_set (i := 11) scLpt.nd rfl (Or.inr rfl) (pe_op op_mul (pv 11) (pv 5)))))
        (pss_cons (ps_set (i := 13) scLpt.nd rfl (Or.inr rfl) (pe_call GU hr1 rfl Un.g Un.k Un.b .nil pass0 (pa_cons (pe_op op_fdiv (pe_ix ix_list (pv 1) (pv 8) (fun _ _ => rfl)) (pv 11)) (pa_cons (pv 2) pa_nil))))
        (pss_cons (ps_set (i := 1) scLpt.nd rfl (Or.inr rfl) (pe_lc (own := [("_law_one", 14)]) (g := gName 14) rfl scLpt.nd (pi_list (pv 1)) (blkOk_by (N := NLpt) (sc := defScope sLpt) (by decide +kernel)) (fun _ _ _ _ _ => pg_name (i := 14) scLpt.nd rfl (Or.inl rfl)) (fun _ _ _ _ _ => pts_nil)
            (fun _ _ _ _ _ => pe_op (r := rI (fun _ j => 0 < j) fun i j => .int (i % j)) op_mod (pe_callTy call_int1 (by rfl) B.int_ (by decide +kernel) (pa_cons (pe_op (r := rI CMul fun i j => .int (i * j)) op_mul (pv 13) (pv 14)) pa_nil)) (pv 2))))
        (Evl.pss_cut (ps_if (pt_cmp (pc_din hu (pv 8) (pe_dget hu (pv 0) pe_str (fun _ _ => rfl))))
            (pss_one (ps_expr (pe_bm PySem.F.plainAttrs_list PySem.F.slot_list_append PySem.F.type_list_append mt_append (pv 3) (pa_cons (pe_dget hu (pe_dget hu (pv 0) pe_str (fun _ _ => rfl)) (pv 8) (fun _ _ => rfl)) pa_nil)))) pss_nil)
        (pss_cons (ps_dput hu (pe_dget hu (pv 0) pe_str (fun _ _ => rfl)) (pv 8) (pv 1) rfl)
        (pss_one (ps_expr (pe_bm PySem.F.plainAttrs_list PySem.F.slot_list_append PySem.F.type_list_append mt_append (pv 3) (pa_cons
          (pe_lc (own := [("_law_one", 14)]) (g := gName 14) rfl scLpt.nd (pi_list (pv 1)) (blkOk_by (N := NLpt) (sc := defScope sLpt) (by decide +kernel)) (fun _ _ _ _ _ => pg_name (i := 14) scLpt.nd rfl (Or.inl rfl)) (fun _ _ _ _ _ => pts_nil)
            (fun _ _ _ _ _ => pe_op (r := rI (fun _ j => 0 < j) fun i j => .int (i % j)) op_mod (pe_callTy call_int1 (by rfl) B.int_ (by decide +kernel) (pa_cons (pe_op (r := rI CMul fun i j => .int (i * j)) op_mul (pe_op (r := rI CDiv fun i j => .int (i / j)) op_fdiv (pv 2) (pv 11)) (pv 14)) pa_nil)) (pv 2))) pa_nil)))))))))))))))))
      (pss_one (ps_ret (pv 4))))), ?_⟩
    obtain ⟨M2, M27, pr, _⟩ := md.mod.facts
    have M0 : 0 < M := by omega
    obtain ⟨v0, ev0⟩ : ∃ v0, v0 = v.map (· % (M : Int)) := ⟨_, rfl⟩
    have lv0 : v0.length = n := by rw [ev0, List.length_map, lv]
    have iv0 : InM M v0 := fun x hx => by
      rw [ev0] at hx
      obtain ⟨y, _, rfl⟩ := List.mem_map.mp hx
      exact ⟨Int.emod_nonneg _ (by omega), Int.emod_lt_of_pos _ (by omega)⟩
    have dv0 : ∀ i, i < n → (M : Int) ∣ vec v0 i - vec v i := fun i _ => by rw [ev0]; exact vec_mod v M i
    have dv1 : ∀ i, i < n → (M : Int) ∣ vec v i - vec v0 i := fun i hi => by
      have := Int.dvd_neg.mpr (dv0 i hi)
      rw [Int.neg_sub] at this
      exact this
    have gen0 : Lat.Gen n M (Lat.All n (hOf M ks row)) (vec v0) ↔ Lat.Gen n M (Lat.All n (hOf M ks row)) (vec v) := ⟨.cong dv1, .cong dv0⟩
    have genW : ∀ u, Lat.Gen n M (Lat.With (Lat.All n (hOf M ks row)) (vec v0)) u ↔ Lat.Gen n M (Lat.With (Lat.All n (hOf M ks row)) (vec v)) u := fun u =>
      ⟨fun g => g.into fun x hx => by
        rcases hx with h | rfl
        · exact .row (.inl h)
        · exact .cong dv0 (.row (.inr rfl)), fun g => g.into fun x hx => by
        rcases hx with h | rfl
        · exact .row (.inl h)
        · exact .cong dv1 (.row (.inr rfl))⟩
    -- the start
    refine ⟨fun σ' H' => ∃ (W R0 : Addr), σ' = [some (.ref a), some (.ref b), some (.int M), some (.ref W), some (.bl false), none, none, none, none, none, none, none, none, none, none] ∧ More H H' ∧ H' W = some (.lst [.ref R0]) ∧ H' R0 = some (.lst (v0.map V.int)) ∧ H W = none ∧ R0 ≠ W, ?_, ?_⟩
    · refine ⟨_, rfl, a, _, rfl, L.at_.gM, _, rfl, b, rfl, ⟨_, SqL.of hb⟩, fun R hR => ?_⟩
      refine lc_name (n := 14) (D := R) (H1 := H) (xs := v.map V.int) (rs := v0.map V.int) walk_list hR (fun H' m => SqL.of (m _ _ hb)) (by rw [ev0, List.length_map, List.length_map, List.length_map]) (by rw [List.length_map]; omega) (fun _ => rfl) ?_ ?_
      · intro i y v' G Qv hy hv m qv
        obtain ⟨x, ex, rfl⟩ := map_at hy
        rw [ev0, List.map_map, List.getElem?_map, ex] at hv
        cases hv
        exact ⟨_, rfl, .inl ⟨x, rfl, _, rfl, a, _, rfl, (L.more m).at_.gM, _, _, rfl, rfl, by omega, qv G fun _ _ e => e⟩⟩
      · intro G hl m
        refine ⟨by show 1 ≤ sizeLine; decide, fun W hW => ⟨by show 3 ≤ sizeLine; decide, fun t ht => ?_⟩⟩
        have mW := new_more (o := .lst [V.ref R]) hW
        have mt := new_more (o := .tup [.int M, .ref W, .bl false]) ht
        exact ⟨t, _, rfl, SqT.of upd_same, rfl, _, _, rfl, _, _, rfl, _, _, rfl, rfl, W, R, rfl, fun b o e => mt b o (mW b o (m b o e)), mt _ _ upd_same, mt _ _ (mW _ _ hl), gone_more m hW, fun e => by rw [← e, hl] at hW; cases hW⟩
    rintro σ0 G0 ⟨W, R0, rfl, m0, hW0, hR0, freshW, RW⟩
    refine ⟨_, rfl, M, p, kk, rfl, md, fun G1 t m1 ht => ⟨t, _, rfl, SqT.of ht, rfl, _, _, rfl, _, _, rfl, rfl, ?_⟩⟩
    have tri := tri_of md L.tr L.heads
    obtain ⟨lev, hlev⟩ := lev_ex L.heads
    have m01 : More H G1 := fun b o e => m1 b o (m0 b o e)
    have kk4 : kk ≤ 4 := md.eq.2.2
    have I0 : PutI H n M p kk ks row v0 a r W 0 false G1 ks bs row lev [(R0, v0)] := by
      refine ⟨L.at_.more m01, L.tr, hlev, m1 _ _ hW0, fun q hq => ?_, fun k hk e => ?_, wait_eq (wait_one good (vec v0)) fun u => ?_, ?_, (fun h => nomatch h), fun _ => .inl ⟨rfl, rfl, rfl⟩, .of m01⟩
      · rw [List.mem_singleton.mp hq]
        exact ⟨⟨m1 _ _ hR0, lv0, iv0⟩, RW⟩
      · have := L.at_.hB k hk
        rw [e, freshW] at this
        cases this
      · exact ⟨fun e => ⟨_, .head _, e⟩, fun ⟨q, hq, e⟩ => by rw [List.mem_singleton.mp hq] at e; exact e⟩
      · have := levS_le (f := lev) (b := 4) (fun j => Nat.le_trans (hlev.le j) kk4) n
        show 1 + 2 * levS lev n + 0 ≤ _
        omega
    clear m0 m1 m01 hW0 hR0 ht
    refine ⟨fun σ' H' => ∃ (gr : Bool) (ks' : List Nat) (bs' : Nat → Addr) (row' : Nat → List Int) (z1 z7 z8 z9 z10 z11 z12 z13 : Option V), σ' = [some (.ref a), z1, some (.int M), some (.ref W), some (.bl gr), some (.int p), some (.int kk), z7, z8, z9, z10, z11, z12, z13, none] ∧ ∃ i lev', PutI H n M p kk ks row v0 a r W i gr H' ks' bs' row' lev' [], ?_, ?_⟩
    · refine ⟨100000, rfl, by decide, by decide, ?_⟩
      refine for_range (lo := 0) (n := (100000 : Int).toNat) (fun i σ' H' => ∃ (gr : Bool) (ks' : List Nat) (bs' : Nat → Addr) (row' : Nat → List Int) (lev' : Nat → Nat) (as : List (Addr × List Int)) (z1 z7 z8 z9 z10 z11 z12 z13 : Option V), σ' = [some (.ref a), z1, some (.int M), some (.ref W), some (.bl gr), some (.int p), some (.int kk), z7, z8, z9, z10, z11, z12, z13, none] ∧ PutI H n M p kk ks row v0 a r W i gr H' ks' bs' row' lev' as)
        ⟨false, ks, bs, row, lev, _, _, _, _, _, _, _, _, _, rfl, I0⟩ ?_ ?_
      · rintro i σ' H' hi ⟨gr, ks', bs', row', lev', as, z1, z7, z8, z9, z10, z11, z12, z13, rfl, I⟩
        refine ⟨_, rfl, by show 0 ≤ sizeLine; exact Nat.zero_le _, fun e1 he1 => ?_⟩
        have me := new_more (o := .lst []) he1
        have I := I.more me
        have ke : (upd H' e1 (.lst [])) e1 = some (.lst []) := upd_same
        generalize upd H' e1 (.lst []) = G at I ke ⊢
        clear me he1
        refine ⟨_, _, dp_LL (SqL.of I.hW) (fun q hq => (I.rows q hq).1.1), dp_LL (as := []) (SqL.of ke) (fun q hq => nomatch hq), shaped_LL _, shaped_LL _, _, rfl, ?_⟩
        show if PyData.eqv (dLL (as.map Prod.snd)) (dLL []) = true then _ else _
        rw [eqv_LL]
        clear ke
        rcases List.eq_nil_or_concat as with rfl | ⟨as', q0, rfl⟩
        · rw [decide_eq_true (p := ([] : List (Addr × List Int)).map Prod.snd = []) rfl]
          exact iteT ⟨gr, ks', bs', row', _, _, _, _, _, _, _, _, rfl, i, lev', I⟩
        rw [decide_eq_false (by rw [List.concat_eq_append]; simp)]
        rw [List.concat_eq_append] at I
        have lfew := I.few
        rw [List.length_append, List.length_singleton] at lfew
        obtain ⟨⟨hq1, hq2, hq3⟩, hq4⟩ := I.rows q0 (List.mem_append_right _ (.head _))
        refine iteF ⟨_, rfl, _, rfl, .inl ⟨rfl, _, SqL.of I.hW⟩, W, _, .ref q0.1, rfl, rfl, I.hW, by rw [List.map_append, List.length_append]; show (List.map _ as' ++ [V.ref q0.1])[(List.map _ as').length + 1 - 1]? = _; rw [Nat.add_sub_cancel, List.getElem?_append_right (Nat.le_refl _), Nat.sub_self]; rfl, ?_⟩
        have mP : ∀ b o, G b = some o → b ≠ W → (upd G W (.lst (as'.map fun p => V.ref p.1))) b = some o := fun b o e nb => by rw [upd_ne nb]; exact e
        have kW : (upd G W (.lst (as'.map fun p => V.ref p.1))) W = some (.lst (as'.map fun p => V.ref p.1)) := upd_same
        rw [show ((as' ++ [q0]).map fun p : Addr × List Int => V.ref p.1).dropLast = as'.map fun p => V.ref p.1 by rw [List.map_append]; exact List.dropLast_concat]
        generalize upd G W (.lst (as'.map fun p => V.ref p.1)) = G3 at mP kW ⊢
        have L3 := I.at_.offW mP ⟨_, I.hW⟩ I.bsW
        have tri3 := tri_of md I.tr I.lv.heads
        refine ⟨a, r, q0.1, n, M, ks', bs', row', q0.2, rfl, L3, I.tr, tri3, M0, M27, n1000, mP _ _ hq1 hq4, hq2, hq3, fun G4 b' v' m4 hb' lv' im' lf st => ?_⟩
        have L4 := L3.more m4
        have m34 : ∀ b o, G b = some o → b ≠ W → G4 b = some o := fun b o e nb => m4 b o (mP b o e nb)
        have kW4 := m4 _ _ kW
        clear mP kW L3 m4
        refine ⟨_, rfl, a, _, rfl, L4.gW, (n : Int), rfl, by omega, by omega, fun Dp hDp => ?_⟩
        rw [Int.toNat_natCast]
        refine lc_range (lo := 0) (n := n) (fun i H2 => H2 Dp = some (.lst ((plN v' i).map V.int)) ∧ More G4 H2) ⟨upd_same, new_more hDp⟩ ?_ ?_
        · rintro k H2 hk ⟨eD, sm⟩
          have at1 : atI (v'.map V.int) (0 + (k : Int)) = some (.int (v'.getD k 0)) := at_of (j := k) (by omega) (getV_some (by omega))
          refine ⟨rfl, _, rfl, _, rfl, b', _, _, _, rfl, rfl, SqL.of (sm _ _ hb'), at1, rfl, _, rfl, ?_⟩
          by_cases x0 : v'.getD k 0 = 0
          · rw [show decide (V.int (v'.getD k 0) = V.int 0) = true from decide_eq_true (by rw [x0])]
            refine iteF ⟨?_, sm⟩
            rw [eD, plN_succ, if_neg (fun q => q x0), List.append_nil]
          · rw [show decide (V.int (v'.getD k 0) = V.int 0) = false from decide_eq_false (fun e => x0 (V.int.inj e))]
            refine iteT ⟨_, rfl, _, eD, ?_, ?_, More.at sm hDp⟩
            · rw [List.length_map]
              exact small1000 (by have := plN_len v' k; omega)
            · rw [upd_same, plN_succ, if_pos x0, List.map_append, Int.zero_add]
              rfl
        · rintro H2 ⟨eD, sm⟩
          refine ⟨_, rfl, by show 0 ≤ sizeLine; exact Nat.zero_le _, fun e2 he2 => ?_⟩
          have me := new_more (o := .lst []) he2
          have ke : (upd H2 e2 (.lst [])) e2 = some (.lst []) := upd_same
          have kD := me _ _ eD
          have m5 : ∀ b o, G b = some o → b ≠ W → (upd H2 e2 (.lst [])) b = some o := fun b o e nb => me b o (sm b o (m34 b o e nb))
          have kW5 := me _ _ (sm _ _ kW4)
          have hb5 := me _ _ (sm _ _ hb')
          have L5 := (L4.more sm).more me
          generalize upd H2 e2 (.lst []) = G5 at me ke kD m5 kW5 hb5 L5 ⊢
          clear eD sm he2 me m34 kW4 hb' L4 hDp
          refine ⟨_, _, dpLi (SqL.of kD), dpLi (l := []) (SqL.of ke), shapedLi _, shapedLi [], _, rfl, ?_⟩
          show if PyData.eqv (.list ((plN v' n).map .int)) (.list (([] : List Int).map .int)) = true then _ else _
          rw [eqvLi]
          rcases st with z | ⟨j, jn, z, nz, dv⟩
          · rw [decide_eq_true (plN_nil z)]
            exact iteT ⟨gr, ks', bs', row', lev', as', _, _, _, _, _, _, _, _, rfl, I.zero freshW m5 kW5 lf z⟩
          obtain ⟨rest, hpl⟩ := plN_at z nz jn
          rw [decide_eq_false (by rw [hpl]; exact List.cons_ne_nil _ _)]
          rw [hpl] at kD
          refine iteF ⟨_, rfl, Dp, _, ((0 : Nat) : Int), _, rfl, rfl, SqL.of kD, at_of (j := 0) rfl rfl, _, _, rfl, ?_⟩
          -- the head
          have bj := mem_get im' (t := j) (by omega)
          obtain ⟨x, ex⟩ : ∃ x : Nat, v'.getD j 0 = (x : Int) := ⟨_, (Int.toNat_of_nonneg bj.1).symm⟩
          have x0 : 0 < x := by omega
          have xM : x < M := by omega
          have at1 : atI (v'.map V.int) (j : Int) = some (.int (x : Int)) := at_of (j := j) rfl (by rw [getV_some (by omega), ex])
          refine ⟨_, rfl, _, rfl, b', _, _, _, rfl, rfl, SqL.of hb5, at1, _, rfl, M, p, kk, x, rfl, md, x0, xM, fun G6 t u m6 tk eu pu => ?_⟩
          have p2 := md.two
          have eM := md.eq.1
          have ptM : p ^ t < M := by rw [eM]; exact Nat.pow_lt_pow_right (by omega) tk
          have p7 : p ≤ 7 := (isPr_small pr).2 |> fun h => by omega
          have m06 : ∀ b o, G b = some o → b ≠ W → G6 b = some o := fun b o e nb => m6 b o (m5 b o e nb)
          have kW6 := m6 _ _ kW5
          have hb6 := m6 _ _ hb5
          have L6 := L5.more m6
          clear m5 kW5 hb5 L5 m6 ke kD
          obtain ⟨S, hS⟩ : ∃ S : V → Option V → L2.St, S = fun v z => [some (.ref a), some (.ref b'), some (.int M), some (.ref W), some (.bl true), some (.int p), some (.int kk), some (.int (0 + (i : Int))), some (.int (j : Int)), some (.ref Dp), some (.int (t : Nat)), some v, z, z13, none] := ⟨_, rfl⟩
          refine ⟨fun σ' H' => ∃ z, σ' = S (.int ((p ^ t : Nat) : Int)) z ∧ H' = G6, ?_, ?_⟩
          · refine ⟨_, rfl, (t : Int), rfl, by omega, by have := Nat.lt_of_le_of_lt (Nat.le_of_lt (Nat.lt_pow_self (n := t) (show 1 < p by omega))) ptM; omega, ?_⟩
            rw [Int.toNat_natCast]
            refine for_range (lo := 0) (n := t) (fun i σ' H' => ∃ z, σ' = S (.int ((p ^ i : Nat) : Int)) z ∧ H' = G6) ⟨z12, by rw [hS]; rfl, rfl⟩ ?_ (fun σ' H' h => h)
            rintro e σ' H' he ⟨z, rfl, rfl⟩
            rw [hS]
            refine ⟨_, rfl, _, rfl, _, _, rfl, rfl, .inr ⟨by omega, by omega⟩, ?_⟩
            refine ⟨some (.int (0 + (e : Int))), ?_, rfl⟩
            rw [Nat.pow_succ, Int.natCast_mul]
            rfl
          rintro σ' H' ⟨zz, rfl, rfl⟩
          rw [hS]
          have p0 : 0 < p ^ t := Nat.pow_pos (by omega)
          have ux : ((x : Nat) : Int) / ((p ^ t : Nat) : Int) = (u : Int) := by
            rw [eu, ← Int.natCast_ediv, Nat.mul_div_cancel_left _ p0]
          have uM : u < M := Nat.lt_of_le_of_lt (by rw [eu]; exact Nat.le_mul_of_pos_left _ p0) xM
          refine ⟨_, rfl, _, rfl, b', _, _, _, rfl, rfl, SqL.of hb6, at1, _, rfl, _, _, rfl, rfl, ⟨by omega, by omega⟩, _, rfl, M, p, kk, u, by show [V.int (((x : Nat) : Int) / ((p ^ t : Nat) : Int)), V.int (M : Int)] = _; rw [ux], md, pu, uM, fun G7 b m7 b1 bM eb => ?_⟩
          have m07 : ∀ b o, G b = some o → b ≠ W → G7 b = some o := fun b o e nb => m7 b o (m06 b o e nb)
          have kW7 := m7 _ _ kW6
          have hb7 := m7 _ _ hb6
          have L7 := L6.more m7
          clear m06 kW6 hb6 L6 m7
          obtain ⟨g, hg⟩ : ∃ g, g = mulR M b v' := ⟨_, rfl⟩
          have lg : g.length = n := by rw [hg, mulR_len, lv']
          -- the row times the unit
          refine ⟨_, rfl, b', rfl, ⟨_, SqL.of hb7⟩, fun D hD => ?_⟩
          refine lc_name (n := 14) (D := D) (H1 := G7) (xs := v'.map V.int) (rs := g.map V.int) walk_list hD (fun H' m => SqL.of (m _ _ hb7)) (by rw [List.length_map, List.length_map, lg, lv']) (by rw [List.length_map]; omega) (fun _ => rfl) ?_ ?_
          · intro i y w G' Qv hy hv m qv
            obtain ⟨y, ey, rfl⟩ := map_at hy
            rw [hg] at hv
            unfold mulR at hv
            rw [List.map_map, List.getElem?_map, ey] at hv
            cases hv
            exact ⟨_, rfl, _, rfl, _, _, rfl, rfl, .inl ⟨by omega, by omega⟩, .inl ⟨_, rfl, _, rfl, _, _, rfl, rfl, by omega, qv G' fun _ _ e => e⟩⟩
          intro G8 kD8 m8
          have m08 : ∀ b o, G b = some o → b ≠ W → G8 b = some o := fun b o e nb => m8 b o (m07 b o e nb)
          have kW8 := m8 _ _ kW7
          have L8 := L7.more m8
          have DW : D ≠ W := fun e => by rw [e, kW7] at hD; cases hD
          clear m07 kW7 hb7 L7 m8
          obtain ⟨as2, has2⟩ : ∃ as2, as2 = as' ++ (if j ∈ ks' then [(bs' j, row' j)] else []) := ⟨_, rfl⟩
          -- what stood there waits
          refine ⟨fun σ' H' => σ' = [some (.ref a), some (.ref D), some (.int M), some (.ref W), some (.bl true), some (.int p), some (.int kk), some (.int (0 + (i : Int))), some (.int (j : Int)), some (.ref Dp), some (.int (t : Nat)), some (.int ((p ^ t : Nat) : Int)), zz, some (.int (b : Nat)), none] ∧
            (∀ c o, G8 c = some o → c ≠ W → H' c = some o) ∧ H' W = some (.lst (as2.map fun p => V.ref p.1)), ?_, ?_⟩
          · have gk := L8.gK j
            refine ⟨_, rfl, _, rfl, a, _, rfl, L8.gR, _, _, rfl, gk, _, rfl, ?_⟩
            by_cases hk : j ∈ ks'
            · rw [if_pos hk] at gk ⊢
              refine iteT ⟨_, rfl, .inl ⟨rfl, _, SqL.of kW8⟩, _, rfl, a, _, rfl, L8.gR, _, rfl, r, _, rfl, gk, W, _, _, rfl, rfl, kW8, by rw [List.length_map]; exact Nat.lt_of_le_of_lt (m := 8001) (by omega) (by decide), ?_⟩
              refine ⟨rfl, fun c o e nc => by rw [upd_ne nc]; exact e, ?_⟩
              rw [upd_same, has2, if_pos hk, List.map_append]
              rfl
            · rw [if_neg hk]
              refine iteF ⟨rfl, fun c o e nc => e, ?_⟩
              rw [kW8, has2, if_neg hk, List.append_nil]
          rintro σ' G9 ⟨rfl, m9, kW9⟩
          have L9 := L8.offW m9 ⟨_, kW8⟩ I.bsW
          have m09 : ∀ c o, G c = some o → c ≠ W → G9 c = some o := fun c o e nc => m9 c o (m08 c o e nc) nc
          have kD9 := m9 _ _ kD8 DW
          have l2 : as2.length ≤ 8001 := by
            have : (if j ∈ ks' then [(bs' j, row' j)] else []).length ≤ 1 := by split <;> simp
            rw [has2, List.length_append]
            omega
          clear m08 kW8 L8 kD8 m9
          have Wr : W ≠ r := fun e => by
            have := L9.hR
            rw [← e, kW9] at this
            cases this
          have Dr : D ≠ r := fun e => by
            have := L9.hR
            rw [← e, kD9] at this
            cases this
          refine ⟨_, rfl, _, rfl, a, _, rfl, L9.gR, _, rfl, r, _, rfl, .inl ⟨_, Sum.inl (j : Int), L9.hR, rfl, by rw [List.length_map]; exact small1000 (by have := nd_len n ks' I.tr.pv.nd I.tr.pv.lt; omega), rfl⟩, ?_⟩
          rw [put_keys ks' (fun k => V.ref (bs' k)) j (V.ref D)]
          have m10 : ∀ c o, G c = some o → c ≠ W → c ≠ r → (upd G9 r (.dK ((if j ∈ ks' then ks' else ks' ++ [j]).map fun k : Nat => ((Sum.inl (k : Int) : Key), if k = j then V.ref D else V.ref (bs' k))))) c = some o := fun c o e n1 n2 => by rw [upd_ne n2]; exact m09 c o e n1
          have kR10 : (upd G9 r (.dK ((if j ∈ ks' then ks' else ks' ++ [j]).map fun k : Nat => ((Sum.inl (k : Int) : Key), if k = j then V.ref D else V.ref (bs' k))))) r = some (.dK ((if j ∈ ks' then ks' else ks' ++ [j]).map fun k : Nat => ((Sum.inl (k : Int) : Key), if k = j then V.ref D else V.ref (bs' k)))) := upd_same
          have kW10 : (upd G9 r (.dK ((if j ∈ ks' then ks' else ks' ++ [j]).map fun k : Nat => ((Sum.inl (k : Int) : Key), if k = j then V.ref D else V.ref (bs' k))))) W = _ := (upd_ne Wr).trans kW9
          have kD10 : (upd G9 r (.dK ((if j ∈ ks' then ks' else ks' ++ [j]).map fun k : Nat => ((Sum.inl (k : Int) : Key), if k = j then V.ref D else V.ref (bs' k))))) D = _ := (upd_ne Dr).trans kD9
          generalize upd G9 r (.dK ((if j ∈ ks' then ks' else ks' ++ [j]).map fun k : Nat => ((Sum.inl (k : Int) : Key), if k = j then V.ref D else V.ref (bs' k)))) = G10 at m10 kR10 kW10 kD10 ⊢
          clear m09 kW9 L9 kD9
          obtain ⟨bb, hbb⟩ : ∃ bb, bb = mulR M ((M / p ^ t : Nat) : Int) g := ⟨_, rfl⟩
          obtain ⟨q1, hq1⟩ : ∃ q1, q1 = M / p ^ t := ⟨_, rfl⟩
          have eq1 : (M : Int) / ((p ^ t : Nat) : Int) = (q1 : Int) := by rw [hq1]; exact (Int.natCast_ediv _ _).symm
          have q1b : q1 ≤ M := by rw [hq1]; exact Nat.div_le_self _ _
          refine ⟨_, rfl, .inl ⟨rfl, _, SqL.of kW10⟩, _, rfl, D, rfl, ⟨_, SqL.of kD10⟩, fun D2 hD2 => ?_⟩
          refine lc_name (n := 14) (D := D2) (H1 := G10) (xs := g.map V.int) (rs := bb.map V.int) walk_list hD2 (fun H' m => SqL.of (m _ _ kD10)) (by rw [List.length_map, List.length_map, hbb, mulR_len]) (by rw [List.length_map]; omega) (fun _ => rfl) ?_ ?_
          · intro i y w G' Qv hy hv m qv
            obtain ⟨y, ey, rfl⟩ := map_at hy
            rw [hbb, ← hq1] at hv
            unfold mulR at hv
            rw [List.map_map, List.getElem?_map, ey] at hv
            cases hv
            refine ⟨_, rfl, _, rfl, _, _, rfl, rfl, ⟨by omega, by omega⟩, _, rfl, _, _, rfl, rfl, .inl ⟨by rw [eq1]; omega, by rw [eq1]; omega⟩, .inl ⟨_, rfl, _, rfl, _, _, rfl, rfl, by omega, ?_⟩⟩
            show Qv (V.int ((M : Int) / ((p ^ t : Nat) : Int) * y % (M : Int))) G'
            rw [eq1]
            exact qv G' fun _ _ e => e
          intro G11 kD11 m11
          refine ⟨W, _, _, rfl, rfl, m11 _ _ kW10, by rw [List.length_map]; exact Nat.lt_of_le_of_lt (m := 8002) (by omega) (by decide), ?_⟩
          have D2W : D2 ≠ W := fun e => by rw [e, kW10] at hD2; cases hD2
          have rW : r ≠ W := Wr.symm
          refine ⟨true, (if j ∈ ks' then ks' else ks' ++ [j]), (fun k => if k = j then D else bs' k), setR row' j g, (fun k => if k = j then t else lev' k), as2 ++ [(D2, bb)], _, _, _, _, _, _, _, _, rfl, ?_⟩
          refine I.lap md good freshW lf lv' im' jn z dv tk (by rw [ex, eu]) nz eb hg hbb DW D2W (by rw [has2, List.append_assoc]) (fun c o e n1 n2 => ?_) ?_ ?_ ?_ ?_
          · rw [upd_ne n1]
            exact m11 _ _ (m10 c o e n1 n2)
          · rw [upd_same, List.map_append]
            rfl
          · rw [upd_ne rW, m11 _ _ kR10]
            congr 2
            refine List.map_congr_left fun k _ => ?_
            by_cases e : k = j
            · rw [if_pos e, if_pos e]
            · rw [if_neg e, if_neg e]
          · rw [upd_ne DW, m11 _ _ kD10]
          · rw [upd_ne D2W, kD11]
      · rintro σ' H' ⟨gr, ks', bs', row', lev', as, z1, z7, z8, z9, z10, z11, z12, z13, rfl, I⟩
        have := I.few
        have : (100000 : Int).toNat = 100000 := rfl
        omega
    rintro σ1 G2 ⟨gr, ks', bs', row', z1, z7, z8, z9, z10, z11, z12, z13, rfl, i, lev', I⟩
    obtain ⟨good', same⟩ := I.wait.done fun u ⟨q, hq, _⟩ => nomatch hq
    refine ⟨_, rfl, q gr G2 ks' bs' row' ⟨I.at_, I.tr, I.lv.heads⟩ good' (fun u => (same u).trans (genW u)) ⟨fun g => ?_, fun g => ?_⟩ I.off⟩
    · rcases I.no g with ⟨_, _, h⟩ | ⟨_, h⟩
      · cases h
      · exact gen0.mp h
    · cases gr with
      | false => rfl
      | true => exact absurd (gen0.mpr g) (I.yes rfl)
end
end K02

/-! LawR: the law's lot of some rows. -/
namespace B5
open PySem PySem.Spec PyProof.Rows L2 Gd
theorem merge3 {k1 k2 k3 : Key} (a : k1 ≠ k2) (b : k1 ≠ k3) (c : k2 ≠ k3) (v1 v2 v3 : V) : mergeK [] [(k1, v1), (k2, v2), (k3, v3)] = [(k1, v1), (k2, v2), (k3, v3)] := by
  show putK (putK (putK [] k1 v1) k2 v2) k3 v3 = _
  have e1 : putK [] k1 v1 = [(k1, v1)] := rfl
  have e2 : putK [(k1, v1)] k2 v2 = [(k1, v1), (k2, v2)] := by
    unfold putK
    rw [if_neg (by simp [a])]
    rfl
  rw [e1, e2]
  unfold putK
  rw [if_neg (by simp [b, c])]
  rfl
theorem lot_keys : (Sum.inr (Str.ofString "m") : Key) ≠ Sum.inr (Str.ofString "width") ∧ (Sum.inr (Str.ofString "m") : Key) ≠ Sum.inr (Str.ofString "rows") ∧ (Sum.inr (Str.ofString "width") : Key) ≠ Sum.inr (Str.ofString "rows") := by decide +kernel
/-- a list or a tuple is walked while something else changes -/
def iSqZ (K : PySem.W.Frag) (te : TE) : TI := fun σ H R => te σ H fun v H1 => ∃ a xs, v = .ref a ∧ Sq K H1 a xs ∧
  ∀ (J : It) (Z : Hp → Prop), Walk J xs.length Z (YAt xs) → (∀ H', (∀ xs, SqL K H1 a xs → SqL K H' a xs) → (∀ xs, SqT K H1 a xs → SqT K H' a xs) → Z H') → R J H1
theorem pi_sqZ {X : Cx} {K : PySem.W.Frag} {tg e : Expr} {te : TE} (hK : X.K = K) (h : PE X e te) : PI X tg e (iSqZ K te) := by
  subst hK
  refine ⟨fun pins s σ H R I q => ?_⟩
  refine thn (h.run pins s σ H _ I q) fun v s1 ⟨x, H1, I1, r1, q1⟩ => ?_
  obtain ⟨a, xs, e, hq, q⟩ := q1
  subst e
  cases r1
  rcases hq with hq | hq
  · obtain ⟨its, rv, p, hz⟩ := I1.list hq
    refine wpAny_pyIter_list p.isList ?_
    refine ⟨s1.heap.objs.size, [s1.heap.objs.size], _, _, H1, rfl, I1.kept (t' := s1.toks) fun b o e => Heap.get?_push_of_some _ e, turn_list a _, ⟨_, Heap.get?_push_size _ rfl, rfl, rfl⟩, fun b hb => ?_, q _ _ walk_list fun H' k _ => k _ hq⟩
    have e : b = s1.heap.objs.size := by simpa using hb
    subst e
    exact I1.fpOk (Nat.le_refl _) (I1.hok.fresh (Nat.le_refl _))
  · obtain ⟨its, rv, p, hz⟩ := I1.tuple hq
    refine wpAny_pyIter_tuple (show s1.heap.IsTuple a its.toArray from p) ?_
    refine ⟨s1.heap.objs.size, [s1.heap.objs.size], _, _, H1, rfl, I1.kept (t' := s1.toks) fun b o e => Heap.get?_push_of_some _ e, turn_tuple a _, ⟨_, Heap.get?_push_size _ rfl, rfl, rfl⟩, fun b hb => ?_, q _ _ walk_tup fun H' _ k => k _ hq⟩
    have e : b = s1.heap.objs.size := by simpa using hb
    subst e
    exact I1.fpOk (Nat.le_refl _) (I1.hok.fresh (Nat.le_refl _))
/-- _law_lot(m, width, rows) -/
def spLlo (K : PySem.W.Frag) : Sp := fun vs H Q _ => ∃ (R : Addr) (ys : List V) (rs : List (List Int)) (n M p kk : Nat), vs = [.int M, .int n, .ref R] ∧ ModK M p kk ∧ n ≤ 1000 ∧ Sq K H R ys ∧ RowsAt K H n ys rs ∧
  ∀ (H' : Hp) (a r : Addr) (ks : List Nat) (bs : Nat → Addr) (row : Nat → List Int), LawLot H' a r n M p kk ks bs row → Lat.Good n M (hOf M ks row) → (∀ u, Lat.Mem n (hOf M ks row) n u ↔ Lat.Gen n M (rowsSet rs) u) → H a = none → H r = none → More H H' → Q (.ref a) H'
theorem rows_none (n M : Nat) (M0 : 0 < M) : Lat.Good n M (hOf M [] (fun _ => [])) ∧ ∀ u, Lat.Mem n (hOf M [] (fun _ => [])) n u ↔ Lat.Gen n M (rowsSet []) u := by
  have hnone : hOf (M : Int) [] (fun _ => []) = Lat.none_ M := funext fun j => if_neg (List.not_mem_nil)
  have g0 : Lat.Good n M (hOf M [] (fun _ => [])) := by rw [hnone]; exact Lat.none_good (by omega)
  refine ⟨g0, fun u => ?_⟩
  rw [g0.gen u, hnone]
  have e : Lat.Gen n M (rowsSet []) u ↔ Lat.Gen n M (fun _ => False) u := ⟨fun g => g.mono fun x ⟨r, hr, _⟩ => (List.not_mem_nil hr).elim, fun g => g.mono fun x z => z.elim⟩
  rw [e]
  exact Lat.none_gen
/-- one row more -/
theorem rows_more {n M : Nat} {ks : List Nat} {row : Nat → List Int} {rs : List (List Int)} {r : List Int} (g : Lat.Good n M (hOf M ks row)) (same : ∀ u, Lat.Mem n (hOf M ks row) n u ↔ Lat.Gen n M (rowsSet rs) u) (u : Lat.Vec) :
    Lat.Gen n M (Lat.With (Lat.All n (hOf M ks row)) (vec r)) u ↔ Lat.Gen n M (rowsSet (rs ++ [r])) u := by
  constructor
  · refine fun k => k.into fun x hx => ?_
    rcases hx with ⟨j, hj, rfl⟩ | rfl
    · exact ((same _).mp (g.mem hj (Nat.le_refl _) (by omega))).mono fun y ⟨r', h', e⟩ => ⟨r', List.mem_append_left _ h', e⟩
    · exact .row ⟨r, List.mem_append_right _ (.head _), rfl⟩
  · refine fun k => k.into fun x ⟨r', h', e⟩ => ?_
    rcases List.mem_append.mp h' with h' | h'
    · have := (same x).mpr (.row ⟨r', h', e⟩)
      exact ((g.gen x).mp this).mono fun y z => .inl z
    · rw [e, List.mem_singleton.mp h']
      exact .row (.inr rfl)
end B5

/-! llo: _law_lot -/
namespace K02
open PySem L2 Gd B5
section
variable {P : Program} {w : World} {K : PySem.W.Frag} {mg : Str → Option Value} {base : Heap} {g1 f : Addr} {d1 fd : FuncData}
abbrev sLlo : Stmt := top 52
abbrev NLlo : List Str := ["_law_m", "_law_width", "_law_rows_here", "_law_lot_here", "_law_row"]
theorem scLlo : FnScope NLlo ["_law_m", "_law_width", "_law_rows_here"] (defScope sLlo) := ⟨rfl, rfl, rfl, by decide +kernel, rfl, by decide +kernel, by decide +kernel⟩
theorem ok_llo (F : Fun K "_law_lot" "_law_lot" sLlo f fd) (B : Blt mg) (Pt : Cl K mg "_law_put" sLpt ["_law_lot_here", "_law_row"] g1 d1) (GP : FnOk P w K mg base CX0 3 g1 d1 ["_law_lot_here", "_law_row"] spLpt) :
    FnOk P w K mg base CX0 4 f fd ["_law_m", "_law_width", "_law_rows_here"] (spLlo K) := by
  refine F.ok scLlo (fun vs H Q E h => ?_) (fun cdv A outer s H vs Q E hr h => ?_)
  · obtain ⟨R, ys, rs, n, M, p, kk, rfl, _⟩ := h
    rfl
  · obtain ⟨R, ys, rs, n, M, p, kk, rfl, md, n1000, sq, ⟨yl, rows⟩, q⟩ := h
    refine ⟨_, Evl.pss_cut (ps_set (i := 3) scLlo.nd rfl (Or.inl rfl) (pe_disp (pps_cons pe_str (pv 0) (pps_cons pe_str (pv 1) (pps_cons pe_str pe_dnewK pps_nil))) rfl rfl (by simp) (by decide)))
      (pss_cons (ps_for PassesOwn.never rfl (pi_sqZ (K := K) rfl (pv 2)) (pg_name (i := 4) scLlo.nd rfl (Or.inl rfl))
        (pss_one (ps_expr (pe_call GP hr rfl Pt.g Pt.k Pt.b .nil pass0 (pa_cons (pv 3) (pa_cons (pe_callTy (r := rLof K) (call_lof rfl) (by rfl) B.list_ (by decide +kernel) (pa_cons (pv 4) pa_nil)) pa_nil))))))
      (pss_one (ps_ret (pv 3)))), ?_⟩
    obtain ⟨M2, M27, pr, _⟩ := md.mod.facts
    have M0 : 0 < M := by omega
    refine ⟨fun σ' H' => ∃ a r, σ' = [some (.int M), some (.int n), some (.ref R), some (.ref a), none] ∧ LawLot H' a r n M p kk [] (fun _ => 0) (fun _ => []) ∧ H a = none ∧ H r = none ∧ More H H', ?_, ?_⟩
    · refine fun a ha => ⟨_, rfl, _, rfl, fun r hr => ?_⟩
      have ra : r ≠ a := fun e => by rw [e, upd_same] at hr; cases hr
      have hr0 : H r = none := by rw [upd_ne ra] at hr; exact hr
      have k1 : (upd (upd H a (.dK [])) r (.dK [])) a = some (.dK []) := (upd_ne ra.symm).trans upd_same
      have k2 : (upd (upd H a (.dK [])) r (.dK [])) r = some (.dK []) := upd_same
      have m2 : More H (upd (upd H a (.dK [])) r (.dK [])) := fun b o e => (new_more hr) _ _ ((new_more ha) _ _ e)
      generalize upd (upd H a (.dK [])) r (.dK []) = G at k1 k2 m2 ⊢
      refine ⟨k1, [(Sum.inr (Str.ofString "m"), .int M), (Sum.inr (Str.ofString "width"), .int n), (Sum.inr (Str.ofString "rows"), .ref r)], rfl, by simp, ?_⟩
      rw [merge3 lot_keys.1 lot_keys.2.1 lot_keys.2.2]
      refine ⟨a, r, rfl, ⟨⟨upd_same, (upd_ne ra).trans k2, (fun k hk => nomatch hk), ⟨List.nodup_nil, (fun k z => nomatch z), (fun k z => nomatch z), (fun k z => nomatch z)⟩⟩, ⟨⟨List.nodup_nil, (fun k z => nomatch z), (fun k z => nomatch z), (fun k z => nomatch z)⟩, (fun k z => nomatch z), (fun k z => nomatch z)⟩, (fun k z => nomatch z)⟩, ha, hr0, More.at m2 ha⟩
    rintro σ0 G0 ⟨a, r, rfl, L0, na, nr, m0⟩
    obtain ⟨good0, same0⟩ := rows_none n M M0
    have sq0 := sq.more m0
    refine ⟨_, rfl, R, ys, rfl, sq0, fun J Z wk hZ => for_it wk (fun i σ' H' => ∃ (ks : List Nat) (bs : Nat → Addr) (row : Nat → List Int) (z4 : Option V), σ' = [some (.int M), some (.int n), some (.ref R), some (.ref a), z4] ∧ LawLot H' a r n M p kk ks bs row ∧ Lat.Good n M (hOf M ks row) ∧ (∀ u, Lat.Mem n (hOf M ks row) n u ↔ Lat.Gen n M (rowsSet (rs.take i)) u) ∧ More H H' ∧ Off r G0 H')
      ⟨[], _, _, none, rfl, L0, good0, same0, m0, Off.refl⟩ ?_ ?_ ?_⟩
    · rintro i σ' H' _ ⟨ks, bs, row, z4, rfl, L, g, same, m, off⟩
      exact hZ H' (fun xs h => sqL_off L0.at_.hR (fun _ e => nomatch e) (fun _ _ e => nomatch e) off h) (fun xs h => sqT_off L0.at_.hR (fun _ e => nomatch e) (fun _ _ e => nomatch e) off h)
    · rintro i y σ' H' H'' hi ⟨ks, bs, row, z4, rfl, L, g, same, m, off⟩ ⟨rfl, hy⟩
      obtain ⟨x, ex⟩ : ∃ x, rs[i]? = some x := ⟨rs[i]'(by omega), List.getElem?_eq_getElem (by omega)⟩
      obtain ⟨b, rfl, sb, lx⟩ := rows i y x hy ex
      have sb' := sb.more m
      refine ⟨_, rfl, _, rfl, b, _, rfl, sb', fun l hl => ?_⟩
      have ml := new_more (o := .lst (x.map V.int)) hl
      have kl : (upd H'' l (.lst (x.map V.int))) l = some (.lst (x.map V.int)) := upd_same
      generalize upd H'' l (.lst (x.map V.int)) = G at ml kl ⊢
      refine ⟨a, r, l, n, M, p, kk, ks, bs, row, x, rfl, md, L.more ml, g, n1000, kl, lx, fun gr H3 ks' bs' row' L' g' same' _ off' => ?_⟩
      have tk : rs.take (i + 1) = rs.take i ++ [x] := by rw [List.take_succ, ex]; rfl
      refine ⟨ks', bs', row', _, rfl, L', g', fun u => ?_, fun c o e => off' c o (ml _ _ (m _ _ e)) (ne_of_none e nr), fun c o e ne => off' c o (ml _ _ (off c o e ne)) ne⟩
      rw [tk]
      exact (same' u).trans (rows_more g same u)
    · rintro σ' H' ⟨ks, bs, row, z4, rfl, L, g, same, m, off⟩
      rw [yl, List.take_length] at same
      exact ⟨_, rfl, q H' a r ks bs row L g same na nr m⟩
end
end K02

/-! LawF: the law's one form. -/
namespace B5
open PySem L2 Gd
theorem LeftOv.cong {n m : Nat} {ks : List Nat} {row : Nat → List Int} {l r r' : List Int} (L : LeftOv n m ks row l r) (len : r'.length = n) (e : ∀ i, i < n → (m : Int) ∣ r'.getD i 0 - r.getD i 0) (lt : ∀ k ∈ ks, k < n) (same : ∀ j, (∀ k ∈ ks, j < k) → r'.getD j 0 = l.getD j 0) : LeftOv n m ks row l r' := by
  refine ⟨len, .cong (fun i hi => ?_) L.gen, fun k hk => ?_, same⟩
  · have := Int.dvd_neg.mpr (e i hi)
    show (m : Int) ∣ (l.getD i 0 - r'.getD i 0) - (l.getD i 0 - r.getD i 0)
    rw [show l.getD i 0 - r'.getD i 0 - (l.getD i 0 - r.getD i 0) = -(r'.getD i 0 - r.getD i 0) by omega]
    exact this
  · rw [Int.emod_eq_emod_iff_emod_sub_eq_zero.mpr (Int.emod_eq_zero_of_dvd (e k (lt k hk)))]
    exact L.less k hk
/-- one step of the law: a multiple of row k is taken off, so that at k less than its head is left -/
theorem left_lawstep {n m : Nat} {ks : List Nat} {row : Nat → List Int} (T : Tr n m ks row) (m0 : 0 < m) {done : List Nat} {l r : List Int} (L : LeftOv n m done row l r) (im : InM m r) (il : InM m l) (ll : l.length = n) {k : Nat} (hk : k ∈ ks) (sub : ∀ j ∈ done, j < k) (dlt : ∀ j ∈ done, j < n) (t : Int) (ht : t = r.getD k 0 / (row k).getD k 0) :
    LeftOv n m (done ++ [k]) row l (offR m t r (row k)) := by
  have kn := T.pv.lt k hk
  have lk := T.pv.len k hk
  have bk := mem_get im (t := k) (by rw [L.len]; exact kn)
  have S := left_step T m0 L hk sub t (by rw [ht, Int.emod_eq_of_lt bk.1 bk.2])
  refine S.cong (offR_len L.len lk) (fun i hi => ?_) (fun j hj => ?_) fun j hj => ?_
  · rw [offR_get L.len lk hi, zip_get _ _ _ _ (by rw [L.len, lk])]
    have := dvd_emod_sub (m : Int) (r.getD i 0 - t * (row k).getD i 0)
    have h2 : (m : Int) ∣ (m : Int) * (row k).getD i 0 := ⟨_, rfl⟩
    have := Int.dvd_sub this h2
    rw [show r.getD i 0 - t * (row k).getD i 0 = r.getD i 0 - t * (row k).getD i 0 from rfl] at this
    rw [show (r.getD i 0 - t * (row k).getD i 0) % (m : Int) - (r.getD i 0 + ((m : Int) - t) * (row k).getD i 0) = (r.getD i 0 - t * (row k).getD i 0) % (m : Int) - (r.getD i 0 - t * (row k).getD i 0) - (m : Int) * (row k).getD i 0 by rw [Int.sub_mul]; omega]
    exact this
  · rcases List.mem_append.mp hj with h | h
    · exact dlt j h
    · rw [List.mem_singleton.mp h]
      exact kn
  · have jk := hj k (List.mem_append_right _ (.head _))
    have e := L.same j fun i hi => hj i (List.mem_append_left _ hi)
    rw [offR_get L.len lk (by omega), T.low k hk j jk, Int.mul_zero, Int.sub_zero, e]
    have b := mem_get il (t := j) (by rw [ll]; omega)
    exact Int.emod_eq_of_lt b.1 b.2
theorem map_mod_self {m : Nat} {r : List Int} (h : InM m r) : r.map (· % (m : Int)) = r := by
  have : ∀ x ∈ r, x % (m : Int) = x := fun x hx => Int.emod_eq_of_lt (h x hx).1 (h x hx).2
  rw [List.map_congr_left this, List.map_id']
theorem refs_of {H : Hp} : ∀ {rs : List V} {l : List (List Int)}, Paired (fun v r => ∃ b : Addr, v = .ref b ∧ H b = some (.tup (r.map V.int))) rs l → ∃ ts : List Addr, rs = ts.map V.ref ∧ Paired (fun (b : Addr) (r : List Int) => H b = some (.tup (r.map V.int))) ts l
  | _, _, .nil => ⟨[], rfl, .nil⟩
  | _, _, .cons ⟨b, e, h⟩ t => by
    obtain ⟨ts, e2, p⟩ := refs_of t
    exact ⟨b :: ts, by rw [e, e2]; rfl, .cons h p⟩
theorem dsc_take {rz : List Nat} (d : rz.Pairwise (· > ·)) {i k x : Nat} (hk : rz[i]? = some k) (hx : x ∈ rz) : k < x ↔ x ∈ rz.take i := by
  have hi := List.getElem?_eq_some_iff.mp hk
  constructor
  · intro h
    obtain ⟨t, ht⟩ := List.getElem?_of_mem hx
    have h1 := List.getElem?_eq_some_iff.mp ht
    have ti : t < i := by
      refine Decidable.byContradiction fun q => ?_
      rcases Nat.lt_or_ge i t with l | l
      · have := List.pairwise_iff_getElem.mp d i t hi.1 h1.1 l
        rw [hi.2, h1.2] at this
        omega
      · have e : t = i := by omega
        subst e
        rw [hk] at ht
        cases ht
        omega
    exact List.mem_of_getElem? (i := t) (by rw [List.getElem?_take_of_lt ti]; exact ht)
  · intro h
    obtain ⟨t, ht⟩ := List.getElem?_of_mem h
    have tl : t < i := by
      have := (List.getElem?_eq_some_iff.mp ht).1
      rw [List.length_take] at this
      omega
    rw [List.getElem?_take_of_lt tl] at ht
    have h1 := List.getElem?_eq_some_iff.mp ht
    have := List.pairwise_iff_getElem.mp d t i h1.1 hi.1 tl
    rw [hi.2, h1.2] at this
    exact this
/-- _law_lot_size(lot) -/
def spLls : Sp := fun vs H Q _ => ∃ (a r : Addr) (n M p kk : Nat) (ks : List Nat) (bs : Nat → Addr) (row : Nat → List Int), vs = [.ref a] ∧ ModK M p kk ∧ LawLot H a r n M p kk ks bs row ∧ n ≤ 1000 ∧ ∀ H', More H H' → Q (.int (Lat.siz M (hOf M ks row) n)) H'
/-- _law_form(lot) -/
def spLfo : Sp := fun vs H Q _ => ∃ (a r : Addr) (n M p kk : Nat) (ks : List Nat) (bs : Nat → Addr) (row : Nat → List Int), vs = [.ref a] ∧ ModK M p kk ∧ LawLot H a r n M p kk ks bs row ∧ Lat.Good n M (hOf M ks row) ∧ n ≤ 1000 ∧
  ∀ (H' : Hp) (t : Addr) (ts : List Addr) (zs : List Nat) (row' : Nat → List Int), (∀ k, k ∈ zs ↔ k ∈ ks) → Piv n M zs row' → Lat.Good n M (hOf M zs row') → (∀ u, Lat.Mem n (hOf M zs row') n u ↔ Lat.Mem n (hOf M ks row) n u) → Redd n (hOf M zs row') → More H H' → H t = none →
    H' t = some (.tup (ts.map V.ref)) → Paired (fun (b : Addr) (r : List Int) => H' b = some (.tup (r.map V.int))) ts (formL n zs row') → Q (.ref t) H'
end B5

/-! lfo: _law_form -/
namespace K02
open PySem L2 Gd B5
section
variable {P : Program} {w : World} {K : PySem.W.Frag} {mg : Str → Option Value} {base : Heap} {f : Addr} {fd : FuncData}
abbrev sLfo : Stmt := top 55
abbrev NLfo : List Str := ["_law_lot_here", "_law_m", "_law_found", "_law_places", "_law_at", "_law_row", "_law_later", "_law_by", "_law_one", "_law_two"]
theorem scLfo : FnScope NLfo ["_law_lot_here"] (defScope sLfo) := ⟨rfl, rfl, rfl, by decide +kernel, rfl, by decide +kernel, by decide +kernel⟩
theorem ok_lfo (F : Fun K "_law_form" "_law_form" sLfo f fd) (B : Blt mg) (zZip : mg "zip" = none) (zSorted : mg "sorted" = none) : FnOk P w K mg base CX0 1 f fd ["_law_lot_here"] spLfo := by
  refine F.ok scLfo (fun vs H Q E h => ?_) (fun cdv A outer s H vs Q E hr h => ?_)
  · obtain ⟨a, r, n, M, p, kk, ks, bs, row, rfl, _⟩ := h
    rfl
  · obtain ⟨a, r, n, M, p, kk, ks, bs, row, rfl, md, L, good, n1000, q⟩ := h
    have hu := hu_of hr
    refine ⟨_, Evl.pss_cut (ps_asg (pe_tup (pa_cons (pe_dget hu (pv 0) pe_str (fun _ _ => rfl)) (pa_cons pe_dnewK (pa_cons (pe_callB cr_sortedI (by rfl) zSorted (by decide +kernel) (pa_cons (pe_callTy (call_list_dK rfl) (by rfl) B.list_ (by decide +kernel) (pa_cons (pe_dget hu (pv 0) pe_str (fun _ _ => rfl)) pa_nil)) pa_nil)) pa_nil))))
          (pg_tup (by rfl) (pgs_cons (pg_name (i := 1) scLfo.nd rfl (Or.inr rfl)) (pgs_cons (pg_name (i := 2) scLfo.nd rfl (Or.inr rfl)) (pgs_cons (pg_name (i := 3) scLfo.nd rfl (Or.inl rfl)) pgs_nil)))))
      (Evl.pss_cut (ps_for PassesOwn.never rfl (pi_list (pe_revL (pv 3))) (pg_name (i := 4) scLfo.nd rfl (Or.inl rfl))
        (pss_cons (ps_set (i := 5) scLfo.nd rfl (Or.inl rfl) (pe_dget hu (pe_dget hu (pv 0) pe_str (fun _ _ => rfl)) (pv 4) (fun _ _ => rfl)))
        (Evl.pss_cut (ps_for PassesOwn.never rfl (pi_list (pv 3)) (pg_name (i := 6) scLfo.nd rfl (Or.inl rfl))
          (pss_one (ps_if (pt_cmpR op_gt (pv 6) (pv 4) (nomark _))
            (pss_cons (ps_set (i := 7) scLfo.nd rfl (Or.inr rfl) (pe_op op_fdiv (pe_ix ix_list (pv 5) (pv 6) (fun _ _ => rfl)) (pe_ix ix_list (pe_dget hu (pv 2) (pv 6) (fun _ _ => rfl)) (pv 6) (fun _ _ => rfl))))
            (pss_one (ps_setLc (i := 5) (own := [("_law_one", 8), ("_law_two", 9)]) (g := gTup K 2 (gCons (gName 8) (gCons (gName 9) gNil))) (tt := tYes) rfl scLfo.nd rfl rfl (sw_true rfl rfl rfl (by decide +kernel))
              (pi_zip (by rfl) zZip (pa_cons (pv 5) (pa_cons (pe_dget hu (pv 2) (pv 6) (fun _ _ => rfl)) pa_nil)))
              (blkOk_by (N := NLfo) (sc := defScope sLfo) (by decide +kernel))
              (fun _ _ _ _ _ => pg_tup rfl (pgs_cons (pg_name (i := 8) scLfo.nd rfl (Or.inl rfl)) (pgs_cons (pg_name (i := 9) scLfo.nd rfl (Or.inl rfl)) pgs_nil))) (fun _ _ _ _ _ => pts_nil)
              (fun _ _ _ _ _ => pe_op (r := rI (fun _ j => 0 < j) fun i j => .int (i % j)) op_mod (pe_callTy call_int1 (by rfl) B.int_ (by decide +kernel) (pa_cons (pe_op op_sub (pv 8) (pe_op op_mul (pv 7) (pv 9))) pa_nil)) (pv 1))))) pss_nil)))
        (pss_one (ps_dput hu (pv 2) (pv 4) (pv 5) rfl)))))
      (pss_one (ps_ret (pe_callTy (r := rTof K) (call_tof rfl) (by rfl) B.tup_ (by decide +kernel) (pa_cons (pe_lc (own := [("_law_at", 4)]) (g := gName 4) (tt := tYes) rfl scLfo.nd (pi_list (pv 3)) (blkOk_by (N := NLfo) (sc := defScope sLfo) (by decide +kernel)) (fun _ _ _ _ _ => pg_name (i := 4) scLfo.nd rfl (Or.inl rfl)) (fun _ _ _ _ _ => pts_nil)
          (fun _ _ _ _ _ => pe_callTy (r := rTof K) (call_tof rfl) (by rfl) B.tup_ (by decide +kernel) (pa_cons (pe_dget hu (pv 2) (pv 4) (fun _ _ => rfl)) pa_nil))) pa_nil))))), ?_⟩
    obtain ⟨M2, M27, pr, _⟩ := md.mod.facts
    have M0 : 0 < M := by omega
    have kl : ks.length ≤ n := nd_len n ks L.tr.pv.nd L.tr.pv.lt
    refine ⟨fun σ' H' => ∃ (D Pl : Addr) (zs : List Nat), σ' = [some (.ref a), some (.int M), some (.ref D), some (.ref Pl), none, none, none, none, none, none] ∧ zs.Perm ks ∧ zs.Pairwise (· < ·) ∧ H' D = some (.dK []) ∧ H' Pl = some (.lst (zs.map fun k : Nat => V.int (k : Int))) ∧ H D = none ∧ More H H', ?_, ?_⟩
    · refine ⟨_, rfl, a, _, rfl, L.at_.gM, fun D hD => ?_⟩
      have mD := new_more (o := .dK []) hD
      have kD : (upd H D (.dK [])) D = some (.dK []) := upd_same
      generalize upd H D (.dK []) = G at mD kD ⊢
      have LG := L.at_.more mD
      refine ⟨_, rfl, a, _, rfl, LG.gR, r, _, rfl, LG.hR, fun l1 hl1 => ?_⟩
      have m1 := new_more (o := .lst ((ks.map fun k : Nat => ((Sum.inl (k : Int) : Key), V.ref (bs k))).map fun kv => kV kv.1)) hl1
      have k1 : (upd G l1 (.lst ((ks.map fun k : Nat => ((Sum.inl (k : Int) : Key), V.ref (bs k))).map fun kv => kV kv.1))) l1 = some (.lst ((ks.map fun k : Nat => (k : Int)).map V.int)) := by
        rw [upd_same, List.map_map, List.map_map]
        rfl
      generalize upd G l1 (.lst ((ks.map fun k : Nat => ((Sum.inl (k : Int) : Key), V.ref (bs k))).map fun kv => kV kv.1)) = G1 at m1 k1 ⊢
      refine ⟨l1, _, rfl, SqL.of k1, fun ys Pl perm ord hPl => ?_⟩
      obtain ⟨zs, rfl, perm', asc⟩ := asc_of L.tr.pv.nd perm ord
      have m2 := new_more (o := .lst ((zs.map fun k : Nat => (k : Int)).map V.int)) hPl
      refine ⟨by show 3 ≤ sizeLine; decide, fun t ht => ?_⟩
      have m3 := new_more (o := .tup [.int M, .ref D, .ref Pl]) ht
      refine ⟨t, _, rfl, SqT.of upd_same, rfl, _, _, rfl, _, _, rfl, _, _, rfl, rfl, D, Pl, zs, rfl, perm', asc, m3 _ _ (m2 _ _ (m1 _ _ kD)), m3 _ _ ?_, hD, fun b o e => m3 _ _ (m2 _ _ (m1 _ _ (mD _ _ e)))⟩
      rw [upd_same, List.map_map]
      rfl
    rintro σ0 G0 ⟨D, Pl, zs, rfl, perm, asc, kD0, kP0, nD, m0⟩
    have L0 := L.at_.more m0
    obtain ⟨rz, hrz⟩ : ∃ rz, rz = zs.reverse := ⟨_, rfl⟩
    have dsc : rz.Pairwise (· > ·) := by rw [hrz]; exact List.pairwise_reverse.mpr asc
    have mem : ∀ k, k ∈ rz ↔ k ∈ ks := fun k => by rw [hrz, List.mem_reverse]; exact perm.mem_iff
    have memz : ∀ k, k ∈ zs ↔ k ∈ rz := fun k => by rw [hrz, List.mem_reverse]
    refine ⟨fun σ' H' => ∃ (row' : Nat → List Int) (fb : Nat → Addr) (z4 z5 z6 z7 : Option V), σ' = [some (.ref a), some (.int M), some (.ref D), some (.ref Pl), z4, z5, z6, z7, none, none] ∧ Off D G0 H' ∧ H' D = some (.dK (rz.map fun k : Nat => ((Sum.inl (k : Int) : Key), V.ref (fb k)))) ∧ (∀ k ∈ rz, H' (fb k) = some (.lst ((row' k).map V.int))) ∧ FormI n M rz row row', ?_, ?_⟩
    · refine ⟨_, rfl, Pl, _, rfl, SqL.of kP0, fun p1 hp1 => ?_⟩
      have mp := new_more (o := .lst (zs.map fun k : Nat => V.int (k : Int)).reverse) hp1
      have kp : (upd G0 p1 (.lst (zs.map fun k : Nat => V.int (k : Int)).reverse)) p1 = some (.lst (rz.map fun k : Nat => V.int (k : Int))) := by rw [upd_same, hrz, List.map_reverse]
      have kD1 := mp _ _ kD0
      have kP1 := mp _ _ kP0
      have pD : p1 ≠ D := fun e => by rw [e, kD0] at hp1; cases hp1
      have PD : Pl ≠ D := fun e => by rw [e, kD0] at kP0; cases kP0
      have L1 := L0.more mp
      generalize upd G0 p1 (.lst (zs.map fun k : Nat => V.int (k : Int)).reverse) = G1 at mp kp kD1 kP1 L1 ⊢
      have aD : ∀ {b : Addr} {o : HO}, H b = some o → b ≠ D := fun e => ne_of_none e nD
      refine ⟨p1, rfl, ⟨_, SqL.of kp⟩, for_list (K := K) (a := p1) (xs := rz.map fun k : Nat => V.int (k : Int)) (fun i σ' H' => ∃ (row' : Nat → List Int) (fb : Nat → Addr) (z4 z5 z6 z7 : Option V), σ' = [some (.ref a), some (.int M), some (.ref D), some (.ref Pl), z4, z5, z6, z7, none, none] ∧ Off D G1 H' ∧ H' D = some (.dK ((rz.take i).map fun k : Nat => ((Sum.inl (k : Int) : Key), V.ref (fb k)))) ∧ (∀ k ∈ rz.take i, H' (fb k) = some (.lst ((row' k).map V.int))) ∧ FormI n M (rz.take i) row row')
        ⟨fun _ => [], fun _ => 0, _, _, _, _, rfl, Off.refl, kD1, (fun k hk => nomatch hk), formI_none⟩ (fun i σ H' _ ⟨_, _, _, _, _, _, _, o, _⟩ => SqL.of (o _ _ kp pD)) ?_ ?_⟩
      · rintro i y σ G hy ⟨row', fb, z4, z5, z6, z7, rfl, off, kD, kf, Fi⟩
        obtain ⟨k, hk, rfl⟩ := map_at hy
        have kr : k ∈ rz := List.mem_of_getElem? hk
        have kks : k ∈ ks := (mem k).mp kr
        have kn := L.tr.pv.lt k kks
        have lrow := L.tr.pv.len k kks
        have tk : rz.take (i + 1) = rz.take i ++ [k] := take_snoc hk
        have sub : ∀ j ∈ rz.take i, k < j := fun j hj => (dsc_take dsc hk (List.mem_of_mem_take hj)).mpr hj
        have LG : LLat G a r n M ks bs row := ⟨off _ _ L1.hA (aD L.at_.hA), off _ _ L1.hR (aD L.at_.hR), fun x hx => off _ _ (L1.hB x hx) (aD (L.at_.hB x hx)), L.tr.pv⟩
        have kPG := off _ _ kP1 PD
        have gk := LG.gK k
        rw [if_pos kks] at gk
        refine ⟨_, rfl, a, _, rfl, LG.gR, _, rfl, r, _, rfl, gk, ?_⟩
        refine ⟨fun σ' H' => ∃ (b' : Addr) (x : List Int) (z6 z7 : Option V), σ' = [some (.ref a), some (.int M), some (.ref D), some (.ref Pl), some (.int (k : Int)), some (.ref b'), z6, z7, none, none] ∧ More G H' ∧ H' b' = some (.lst (x.map V.int)) ∧ InM M x ∧ LeftOv n M (rz.take i) row' (row k) x, ?_, ?_⟩
        · refine ⟨_, rfl, Pl, rfl, ⟨_, SqL.of kPG⟩, for_list (K := K) (a := Pl) (xs := zs.map fun k : Nat => V.int (k : Int)) (fun j σ' H' => ∃ (b' : Addr) (x : List Int) (z6 z7 : Option V), σ' = [some (.ref a), some (.int M), some (.ref D), some (.ref Pl), some (.int (k : Int)), some (.ref b'), z6, z7, none, none] ∧ More G H' ∧ H' b' = some (.lst (x.map V.int)) ∧ InM M x ∧ LeftOv n M ((zs.take j).filter fun y => decide (k < y)) row' (row k) x)
            ⟨bs k, row k, _, _, rfl, fun _ _ e => e, LG.hB k kks, L.tr.pv.rest k kks, left_none lrow⟩ (fun j σ H' _ ⟨_, _, _, _, _, m, _⟩ => SqL.of (m _ _ kPG)) ?_ ?_⟩
          · rintro j y σ H' hy ⟨b', x, z6, z7, rfl, m, hb', im, Lo⟩
            obtain ⟨l, hl0, rfl⟩ := map_at hy
            have lz : l ∈ zs := List.mem_of_getElem? hl0
            have tl : zs.take (j + 1) = zs.take j ++ [l] := take_snoc hl0
            refine ⟨_, rfl, _, rfl, _, _, rfl, rfl, _, rfl, ite2 (fun h => ?_) (fun h => ?_)⟩
            · have h : k < l := by have := of_decide_eq_true h; omega
              have ld := (dsc_take dsc hk ((memz l).mp lz)).mp h
              have ln := Fi.tr.pv.lt l ld
              have lrl := Fi.tr.pv.len l ld
              have hp := Fi.tr.pos l ld
              have hb2 := m _ _ (kf l ld)
              have atx : atI (x.map V.int) (l : Int) = some (.int (x.getD l 0)) := at_of (j := l) rfl (getV_some (by rw [Lo.len]; exact ln))
              have atl : atI ((row' l).map V.int) (l : Int) = some (.int ((row' l).getD l 0)) := at_of (j := l) rfl (getV_some (by rw [lrl]; exact ln))
              have gl : ∀ {H2 : Hp}, More H' H2 → DGet H2 D (.int (l : Int)) (some (.ref (fb l))) := fun m2 => .inl ⟨_, Sum.inl (l : Int), .inl (m2 _ _ (m _ _ kD)), rfl, (by rw [val_keys (rz.take i) (fun k => V.ref (fb k)), if_pos ld] : some (V.ref (fb l)) = _)⟩
              have bx := mem_get im (t := l) (by rw [Lo.len]; exact ln)
              have bh := mem_get (Fi.tr.pv.rest l ld) (t := l) (by rw [lrl]; exact ln)
              refine ⟨_, rfl, _, rfl, b', _, _, _, rfl, rfl, SqL.of hb', atx, _, rfl, _, rfl, D, _, rfl, gl (fun _ _ e => e), _, rfl, fb l, _, _, _, rfl, rfl, SqL.of hb2, atl, _, _, rfl, rfl, ⟨hp, by omega⟩, ?_⟩
              obtain ⟨t, et⟩ : ∃ t, t = x.getD l 0 / (row' l).getD l 0 := ⟨_, rfl⟩
              show gName 7 (V.int (x.getD l 0 / (row' l).getD l 0)) _ _ _
              rw [← et]
              have tb : 0 ≤ t ∧ t < 27 := by
                refine ⟨by rw [et]; exact Int.ediv_nonneg bx.1 (by omega), ?_⟩
                have := Int.ediv_le_self (a := x.getD l 0) ((row' l).getD l 0) bx.1
                omega
              refine ⟨_, rfl, _, rfl, _, rfl, D, _, rfl, gl (fun _ _ e => e), b', fb l, _, _, rfl, SqL.of hb', SqL.of hb2, fun D2 hD2 => ?_⟩
              refine lc_zipI (xs := x) (ys := row' l) (zs := offR M t x (row' l)) (n := n) (walk_zip (by rw [List.length_map, List.length_map, Lo.len, lrl, Nat.min_self])) hD2 (fun H2 m2 => ⟨SqL.of (m2 _ _ hb'), SqL.of (m2 _ _ hb2)⟩) (offR_len Lo.len lrl) (by omega) (fun _ _ => rfl) (fun u c d e H2 Q2 hc hd' he m2 q2 => ?_) (fun H2 hl m2 => ?_)
              · rw [offR_some hc hd'] at he
                cases he
                refine ⟨_, rfl, _, rfl, _, rfl, _, _, rfl, rfl, .inl ⟨by omega, by omega⟩, _, _, rfl, rfl, .inl ⟨_, rfl, _, rfl, _, _, rfl, rfl, by omega, q2 H2 fun _ _ e => e⟩⟩
              · refine ⟨D2, offR M t x (row' l), _, _, rfl, fun b o e => m2 b o (m b o e), hl, offR_in M0 t _ _, ?_⟩
                rw [tl, List.filter_append, List.filter_cons_of_pos (by simpa using h), List.filter_nil]
                refine left_lawstep Fi.tr M0 Lo im (L.tr.pv.rest k kks) lrow ld (fun y hy => ?_) (fun y hy => ?_) t et
                · have hy := (List.mem_filter.mp hy).1
                  obtain ⟨u, hu'⟩ := List.getElem?_of_mem hy
                  have ul : u < j := by
                    have := (List.getElem?_eq_some_iff.mp hu').1
                    rw [List.length_take] at this
                    omega
                  rw [List.getElem?_take_of_lt ul] at hu'
                  have h1 := List.getElem?_eq_some_iff.mp hu'
                  have h2 := List.getElem?_eq_some_iff.mp hl0
                  have := List.pairwise_iff_getElem.mp asc u j h1.1 h2.1 ul
                  rw [h1.2, h2.2] at this
                  exact this
                · have hy := (List.mem_filter.mp hy).1
                  exact L.tr.pv.lt y ((mem y).mp ((memz y).mp (List.mem_of_mem_take hy)))
            · have h : ¬ k < l := fun q => h (decide_eq_true (by omega))
              refine ⟨b', x, _, _, rfl, m, hb', im, ?_⟩
              rw [tl, List.filter_append, List.filter_cons_of_neg (by simpa using h), List.filter_nil, List.append_nil]
              exact Lo
          · rintro σ H' ⟨b', x, z6, z7, rfl, m, hb', im, Lo⟩
            rw [List.length_map, List.take_length] at Lo
            refine ⟨b', x, _, _, rfl, m, hb', im, Lo.perm fun y => ?_⟩
            rw [List.mem_filter, decide_eq_true_eq, memz y]
            exact ⟨fun h => ⟨List.mem_of_mem_take h, (dsc_take dsc hk (List.mem_of_mem_take h)).mpr h⟩, fun h => (dsc_take dsc hk h.1).mp h.2⟩
        rintro σ' G2 ⟨b', x, z6, z7, rfl, m2, hb', im, Lo⟩
        have Fn := formI_step M0 L.tr Fi kks sub Lo
        rw [map_mod_self im] at Fn
        have kD2 := m2 _ _ kD
        have kn' : k ∉ rz.take i := fun h => Nat.lt_irrefl k (sub k h)
        have rzl : rz.length ≤ n := by rw [hrz, List.length_reverse, perm.length_eq]; exact kl
        refine ⟨_, rfl, _, rfl, _, rfl, D, _, rfl, .inl ⟨_, Sum.inl (k : Int), kD2, rfl, by rw [List.length_map, List.length_take]; exact small1000 (by omega), rfl⟩, ?_⟩
        rw [put_keys (rz.take i) (fun k => V.ref (fb k)) k (V.ref b'), if_neg kn']
        have lstD : ∀ {b : Addr} {xs : List V}, G2 b = some (.lst xs) → b ≠ D := fun h e => by rw [e, kD2] at h; cases h
        refine ⟨setR row' k x, fun y => if y = k then b' else fb y, _, _, _, _, rfl, fun b o e ne => by rw [upd_ne ne]; exact m2 _ _ (off b o e ne), ?_, fun y hy => ?_, by rw [tk]; exact Fn⟩
        · rw [upd_same, tk]
          congr 2
          refine List.map_congr_left fun y _ => ?_
          show (Sum.inl (y : Int), if y = k then V.ref b' else V.ref (fb y)) = (Sum.inl (y : Int), V.ref (if y = k then b' else fb y))
          by_cases e : y = k
          · rw [if_pos e, if_pos e]
          · rw [if_neg e, if_neg e]
        · rw [tk] at hy
          unfold setR
          show (upd G2 D _) (if y = k then b' else fb y) = some (.lst ((if y = k then x else row' y).map V.int))
          by_cases e : y = k
          · rw [if_pos e, if_pos e, upd_ne (lstD hb')]
            exact hb'
          · rw [if_neg e, if_neg e]
            have hy : y ∈ rz.take i := (List.mem_append.mp hy).resolve_right fun h => e (List.mem_singleton.mp h)
            have h := m2 _ _ (kf y hy)
            rw [upd_ne (lstD h)]
            exact h
      · rintro σ G ⟨row', fb, z4, z5, z6, z7, rfl, off, kD, kf, Fi⟩
        rw [List.length_map, List.take_length] at kD kf Fi
        exact ⟨row', fb, _, _, _, _, rfl, fun b o e ne => off b o (mp _ _ e) ne, kD, kf, Fi⟩
    rintro σ1 G1 ⟨row', fb, z4, z5, z6, z7, rfl, off, kD, kf, Fi⟩
    obtain ⟨good', same', redd'⟩ := formI_done M0 L.tr.pv good Fi mem
    have PD : Pl ≠ D := fun e => by rw [e, kD0] at kP0; cases kP0
    have kP := off _ _ kP0 PD
    have m1 : More H G1 := fun b o e => off _ _ (m0 _ _ e) (ne_of_none e nD)
    refine ⟨_, rfl, Pl, rfl, ⟨_, SqL.of kP⟩, fun E1 hE1 => ?_⟩
    refine lc_rel (n := 4) (D := E1) (H1 := G1) (walk_list (xs := zs.map fun k : Nat => V.int (k : Int))) (fun i v H' => ∃ (b : Addr) (x : List Int), (zs.map row')[i]? = some x ∧ v = .ref b ∧ H' b = some (.tup (x.map V.int))) (fun i v H' H'' m ⟨b, x, e1, e2, e3⟩ => ⟨b, x, e1, e2, m _ _ e3⟩) hE1
      (fun H' m => SqL.of (m _ _ kP)) (by rw [List.length_map, perm.length_eq]; omega) (fun _ => rfl) ?_ ?_
    · intro i y H7 Q7 hy m7 m7' ⟨l0, hl0⟩ q7
      obtain ⟨k, hk, rfl⟩ := map_at hy
      have kz := (memz k).mp (List.mem_of_getElem? hk)
      refine ⟨_, rfl, _, rfl, D, _, rfl, .inl ⟨_, Sum.inl (k : Int), .inl (m7 _ _ kD), rfl, (by rw [val_keys rz (fun k => V.ref (fb k)), if_pos kz] : some (V.ref (fb k)) = _)⟩, fb k, _, rfl, .inl ⟨SqL.of (m7 _ _ (kf k kz)), fun l hl => q7 _ _ (new_more hl) ⟨l, row' k, by rw [List.getElem?_map, hk]; rfl, rfl, ?_⟩⟩⟩
      rw [del_ne (ne_of_none hl0 hl).symm, upd_same]
    · intro H7 G rs rl mG mH nG al hD7
      refine ⟨E1, rs, rfl, .inl ⟨SqL.of hD7, fun t ht => ?_⟩⟩
      have mt := new_more (o := .tup rs) ht
      have prs : Paired (fun v r => ∃ b : Addr, v = .ref b ∧ (upd H7 t (.tup rs)) b = some (.tup (r.map V.int))) rs (zs.map row') := paired_of (by rw [rl, List.length_map, List.length_map]) fun i x y hx hy => by
        obtain ⟨b, x', e1, e2, e3⟩ := al i x hx
        rw [hy] at e1
        cases e1
        exact ⟨b, e2, mt _ _ (mH _ _ e3)⟩
      obtain ⟨ts, ets, pts⟩ := refs_of prs
      rw [formL_of (ks := rz) (by rw [hrz]; exact (List.reverse_perm zs).symm) asc (fun k hk => Fi.tr.pv.lt k hk)] at pts
      have mf : More G1 (upd H7 t (.tup rs)) := fun b o e => mt _ _ (mH _ _ (mG _ _ e))
      refine q _ t ts rz row' mem Fi.tr.pv good' same' redd' (fun b o e => mf _ _ (m1 _ _ e)) (gone_more (fun b o e => mH _ _ (mG _ _ (m1 _ _ e))) ht) ?_ pts
      rw [upd_same, ets]
end
end K02

/-! lls: _law_lot_size -/
namespace K02
open PySem L2 Gd B5
section
variable {P : Program} {w : World} {K : PySem.W.Frag} {mg : Str → Option Value} {base : Heap} {f : Addr} {fd : FuncData}
abbrev sLls : Stmt := top 57
theorem scLls : FnScope ["_law_lot_here", "_law_size", "_law_at"] ["_law_lot_here"] (defScope sLls) := ⟨rfl, rfl, rfl, by decide +kernel, rfl, by decide +kernel, by decide +kernel⟩
theorem ok_lls (F : Fun K "_law_lot_size" "_law_lot_size" sLls f fd) : FnOk P w K mg base CX0 1 f fd ["_law_lot_here"] spLls := by
  refine F.ok scLls (fun vs H Q E h => ?_) (fun cdv A outer s H vs Q E hr h => ?_)
  · obtain ⟨a, r, n, M, p, kk, ks, bs, row, rfl, _⟩ := h
    rfl
  · obtain ⟨a, r, n, M, p, kk, ks, bs, row, rfl, md, L, n1000, q⟩ := h
    have hu := hu_of hr
    refine ⟨_, pss_cons (ps_set (i := 1) scLls.nd rfl (Or.inl rfl) pe_int)
      (pss_cons (ps_lock (ps_for PassesOwn.never rfl (pi_keys (pe_dget hu (pv 0) pe_str (fun _ _ => rfl))) (pg_name (i := 2) scLls.nd rfl (Or.inl rfl))
        (pss_one (ps_set (i := 1) scLls.nd rfl (Or.inl rfl) (pe_op op_mul (pv 1) (pe_op op_fdiv (pe_dget hu (pv 0) pe_str (fun _ _ => rfl)) (pe_ix ix_list (pe_dget hu (pe_dget hu (pv 0) pe_str (fun _ _ => rfl)) (pv 2) (fun _ _ => rfl)) (pv 2) (fun _ _ => rfl))))))))
      (pss_one (ps_ret (pv 1)))), ?_⟩
    obtain ⟨M2, M27, pr, _⟩ := md.mod.facts
    have ar := L.at_.ne
    have kA : ∀ o, (upd H r o) a = _ := fun o => (upd_ne ar).trans L.at_.hA
    have kB : ∀ o, ∀ k ∈ ks, (upd H r o) (bs k) = some (.lst ((row k).map V.int)) := fun o k hk => by
      rw [upd_ne (fun e => by have := L.at_.hB k hk; rw [e, L.at_.hR] at this; cases this)]
      exact L.at_.hB k hk
    refine ⟨r, _, L.at_.hR, trivial, fun od => ⟨_, rfl, a, _, rfl, .inl ⟨_, Sum.inr _, .inl (kA _), rfl, rfl⟩, r, od, rfl, .inl ⟨_, upd_same, for_it (walk_keys) (fun i σ H2 => ∃ (t : Int) (z : Option V), σ = [some (.ref a), some (.int t), z] ∧ H2 = upd H r (.frz od (.dK (ks.map fun k : Nat => ((Sum.inl (k : Int) : Key), V.ref (bs k))))) ∧
        t * sizeOf M row (ks.drop i) = sizeOf M row ks) ⟨1, none, rfl, rfl, by rw [Int.one_mul, List.drop_zero]⟩ (fun i σ H2 _ ⟨_, _, _, e, _⟩ => by rw [e]; exact upd_same) ?_ ?_⟩⟩⟩
    · rintro i x σ H2 H3 hi ⟨t, z, rfl, rfl, e⟩ ⟨rfl, k, v, hk, rfl⟩
      rw [List.length_map] at hi
      rw [List.getElem?_map, List.getElem?_eq_getElem hi] at hk
      have hk := Option.some.inj hk
      obtain ⟨rfl, rfl⟩ := Prod.mk.inj hk
      have mem : ks[i] ∈ ks := List.getElem_mem hi
      have r1 := L.tr.pos _ mem
      have lr := L.tr.pv.len _ mem
      have ln := L.tr.pv.lt _ mem
      have r2 : (row ks[i]).getD ks[i] 0 < (M : Int) := (mem_get (L.tr.pv.rest _ mem) (t := ks[i]) (by rw [lr]; exact ln)).2
      have at1 : atI ((row ks[i]).map V.int) (ks[i] : Int) = some (.int ((row ks[i]).getD ks[i] 0)) := at_of (j := ks[i]) rfl (getV_some (by rw [lr]; exact ln))
      refine ⟨_, rfl, _, rfl, a, _, rfl, .inl ⟨_, Sum.inr _, .inl (kA _), rfl, rfl⟩, _, rfl, a, _, rfl, .inl ⟨_, Sum.inr _, .inl (kA _), rfl, rfl⟩, _, rfl, r, _, rfl, .inl ⟨_, Sum.inl (ks[i] : Int), .inr ⟨od, upd_same⟩, rfl, (by rw [val_keys ks (fun k => V.ref (bs k)), if_pos mem] : some (V.ref (bs ks[i])) = _)⟩, _, rfl, bs ks[i], _, _, _, rfl, rfl, SqL.of (kB _ _ mem), at1, ?_⟩
      refine ⟨_, _, rfl, rfl, ⟨r1, by omega⟩, _, _, rfl, rfl, .inr ?_, ?_⟩
      · have h1 := Int.ediv_nonneg (show (0 : Int) ≤ M by omega) (Int.le_of_lt r1)
        have h2 := Int.ediv_le_self ((row ks[i]).getD ks[i] 0) (show (0 : Int) ≤ M by omega)
        exact ⟨by omega, by omega⟩
      · refine ⟨_, _, rfl, rfl, ?_⟩
        rw [← e, List.drop_eq_getElem_cons hi]
        show t * _ * _ = t * (_ * _)
        rw [Int.mul_assoc, Int.mul_comm ((M : Int) / _)]
    · rintro σ H2 ⟨t, z, rfl, rfl, e⟩
      rw [List.length_map, List.drop_length] at e
      have e : t * 1 = _ := e
      rw [Int.mul_one, sizeOf_siz (by omega) n ks L.tr.pv.nd L.tr.pv.lt] at e
      subst e
      refine ⟨upd_same, _, rfl, q _ fun b o eb => ?_⟩
      rw [upd_upd]
      by_cases z : b = r
      · subst z
        rw [upd_same, ← L.at_.hR]
        exact eb
      · rw [upd_ne z]
        exact eb
end
end K02

/-! LawS: the least number of rows, the law's sum. -/
namespace B5
open PySem L2 Gd
def lcScB : Expr → Scope
  | .ListComp _ _ sc _ => sc
  | _ => { kind := .function, names := [], isGenerator := false, isCoroutine := false }
def asgVB : Stmt → Expr
  | .Assign _ v _ => v
  | s => .Constant .none 0 ⟨0, 0, 0, 0⟩
/-- L counts how often the prime divides the size over the size of the p-folds -/
def LotLeast (n M p : Nat) (h : Nat → Lat.Vec) (L : Nat) : Prop := ∃ g, Lat.Good n M g ∧ (∀ u, Lat.Mem n g n u ↔ Lat.Gen n M (Lat.Fold p (Lat.All n h)) u) ∧ Lat.siz M h n = Lat.siz M g n * ((p ^ L : Nat) : Int)
/-- _law_lot_least(lot) -/
def spLlm : Sp := fun vs H Q _ => ∃ (a r : Addr) (n M p kk : Nat) (ks : List Nat) (bs : Nat → Addr) (row : Nat → List Int), vs = [.ref a] ∧ ModK M p kk ∧ LawLot H a r n M p kk ks bs row ∧ Lat.Good n M (hOf M ks row) ∧ n ≤ 200 ∧ ∀ H' L, More H H' → LotLeast n M p (hOf M ks row) L → Q (.int (L : Nat)) H'
/-- the p-folds of the rows -/
def timesL (p : Nat) (l : List Int) : List Int := l.map fun x => (p : Int) * x
theorem vec_times (p : Nat) (l : List Int) : vec (timesL p l) = fun i => (p : Int) * vec l i := funext fun i => by
  unfold vec timesL
  rw [List.getD_eq_getElem?_getD, List.getD_eq_getElem?_getD, List.getElem?_map]
  cases l[i]? with
  | none =>
    show (0 : Int) = _ * 0
    rw [Int.mul_zero]
  | some x => rfl
theorem fold_rows {n M p : Nat} {ks : List Nat} {row : Nat → List Int} (lt : ∀ k ∈ ks, k < n) (u : Lat.Vec) : Lat.Gen n M (rowsSet (ks.map fun k => timesL p (row k))) u ↔ Lat.Gen n M (Lat.Fold p (Lat.All n (hOf M ks row))) u := by
  constructor
  · refine fun g => g.mono fun x ⟨r, hr, e⟩ => ?_
    obtain ⟨k, hk, rfl⟩ := List.mem_map.mp hr
    exact ⟨vec (row k), ⟨k, lt k hk, (hOf_in hk).symm⟩, by rw [e, vec_times]⟩
  · refine fun g => g.into fun x ⟨r, ⟨k, kn, e⟩, ex⟩ => ?_
    by_cases hk : k ∈ ks
    · rw [hOf_in hk] at e
      exact .row ⟨_, List.mem_map.mpr ⟨k, hk, rfl⟩, by rw [ex, e, vec_times]⟩
    · rw [hOf_out hk] at e
      refine .top fun i _ => ?_
      rw [ex, e]
      show (M : Int) ∣ (p : Int) * (if i = k then (M : Int) else 0)
      by_cases q : i = k
      · rw [if_pos q]
        exact Int.dvd_mul_left _ _
      · rw [if_neg q, Int.mul_zero]
        exact Int.dvd_zero _
/-- one number alone -/
theorem LotLeast.one {n M p : Nat} {h h' : Nat → Lat.Vec} (p2 : 2 ≤ p) (M0 : 0 < M) (M27 : M ≤ 27) (G : Lat.Good n M h) (G' : Lat.Good n M h') (same : ∀ u, Lat.Mem n h' n u ↔ Lat.Mem n h n u) {L L' : Nat} (a : LotLeast n M p h L) (b : LotLeast n M p h' L') : L = L' := by
  obtain ⟨g, Gg, sg, e⟩ := a
  obtain ⟨g', Gg', sg', e'⟩ := b
  have s1 := Gg.siz_one Gg' fun u => by
    rw [sg u, sg' u]
    exact ⟨Lat.fold_into fun r hr => by
      have := (same r).mp ((G'.gen r).mpr (.row hr))
      exact (G.gen r).mp this, Lat.fold_into fun r hr => by
      have := (same r).mpr ((G.gen r).mpr (.row hr))
      exact (G'.gen r).mp this⟩
  have s2 := G.siz_one G' same
  have p1 := (siz_bd M0 M27 Gg' n (Nat.le_refl _)).1
  rw [s1, s2, e'] at e
  have := Int.eq_of_mul_eq_mul_left (by omega) e
  have h : p ^ L' = p ^ L := by exact_mod_cast this
  exact (Nat.pow_right_inj (by omega)).mp h.symm
theorem refs_ofG {P : Addr → List Int → Prop} : ∀ {rs : List V} {l : List (List Int)}, Paired (fun v r => ∃ b : Addr, v = .ref b ∧ P b r) rs l → ∃ ts : List Addr, rs = ts.map V.ref ∧ Paired P ts l
  | _, _, .nil => ⟨[], rfl, .nil⟩
  | _, _, .cons ⟨b, e, h⟩ t => by
    obtain ⟨ts, e2, p⟩ := refs_ofG t
    exact ⟨b :: ts, by rw [e, e2]; rfl, .cons h p⟩
/-- rows as lists at some places -/
theorem rowsAt_lists {K : PySem.W.Frag} {H : Hp} {n : Nat} {cs : List Addr} {rs : List (List Int)} (p : Paired (fun (c : Addr) (x : List Int) => H c = some (.lst (x.map V.int))) cs rs) (l : ∀ r ∈ rs, r.length = n) : RowsAt K H n (cs.map V.ref) rs :=
  ⟨by rw [List.length_map]; exact Paired.length p, fun i y r hy hr => by
    obtain ⟨c, hc, rfl⟩ := map_at hy
    obtain ⟨x, hx, h⟩ := paired_at p hc
    rw [hr] at hx
    cases hx
    exact ⟨c, rfl, .inl (SqL.of h), l r (List.mem_of_getElem? hr)⟩⟩
end B5

/-! llm: _law_lot_least -/
namespace K02
open PySem L2 Gd B5
section
variable {P : Program} {w : World} {K : PySem.W.Frag} {mg : Str → Option Value} {base : Heap} {g1 g2 g3 f : Addr} {d1 d2 d3 fd : FuncData}
abbrev sLlm : Stmt := top 58
abbrev NLlm : List Str := ["_law_lot_here", "_law_p", "_law_rows_here", "_law_less", "_law_many", "_law_lap", "_law_one", "_law_at"]
theorem scLlm : FnScope NLlm ["_law_lot_here"] (defScope sLlm) := ⟨rfl, rfl, rfl, by decide +kernel, rfl, by decide +kernel, by decide +kernel⟩
theorem ok_llm (F : Fun K "_law_lot_least" "_law_lot_least" sLlm f fd) (B : Blt mg) (Pw : Cl K mg "_law_power" sLpw ["_law_m"] g1 d1) (Ls : Cl K mg "_law_lot_size" sLls ["_law_lot_here"] g2 d2) (Lo : Cl K mg "_law_lot" sLlo ["_law_m", "_law_width", "_law_rows_here"] g3 d3) (G3 : FnOk P w K mg base CX0 4 g3 d3 ["_law_m", "_law_width", "_law_rows_here"] (spLlo K)) :
    FnOk P w K mg base CX0 5 f fd ["_law_lot_here"] spLlm := by
  have GP : FnOk P w K mg base CX0 1 g1 d1 ["_law_m"] spLpw := ok_lpw Pw.fn
  have GS : FnOk P w K mg base CX0 1 g2 d2 ["_law_lot_here"] spLls := ok_lls Ls.fn
  refine F.ok scLlm (fun vs H Q E h => ?_) (fun cdv A outer s H vs Q E hr h => ?_)
  · obtain ⟨a, r, n, M, p, kk, ks, bs, row, rfl, _⟩ := h
    rfl
  · obtain ⟨a, r, n, M, p, kk, ks, bs, row, rfl, md, L, good, n200, q⟩ := h
    have hu := hu_of hr
    have hr1 : Room 1 _ := hr.mono (by decide)
    refine ⟨_, pss_cons (ps_set (i := 1) scLlm.nd rfl (Or.inr rfl) (pe_ix ix_tup (pe_call GP hr1 rfl Pw.g Pw.k Pw.b .nil pass0 (pa_cons (pe_dget hu (pv 0) pe_str (fun _ _ => rfl)) pa_nil)) pe_int (fun _ _ => rfl)))
      (Evl.pss_cut (ps_lock (ps_setLc (i := 2) (own := [("_law_at", 7)]) (g := gName 7) (tt := tYes) rfl scLlm.nd rfl rfl (sw_true rfl rfl rfl (by decide +kernel)) (pi_keys (pe_dget hu (pv 0) pe_str (fun _ _ => rfl)))
          (blkOk_by (N := NLlm) (sc := defScope sLlm) (by decide +kernel)) (fun _ _ _ _ _ => pg_name (i := 7) scLlm.nd rfl (Or.inl rfl)) (fun _ _ _ _ _ => pts_nil)
          (fun _ _ _ _ _ => by exact (pe_lc (own := [("_law_one", 6)]) (g := gName 6) (tt := tYes) (wi := iList K (tDGet (tDGet (tVar 0) (tC (.str (Str.ofString "rows")))) (tVar 7))) rfl scLlm.nd (by exact pi_list (pe_dget hu (pe_dget hu (pv 0) pe_str (fun _ _ => rfl)) (pv 7) (fun _ _ => rfl)))
            (blkOk_by (N := NLlm) (sc := relabel (lcScB (asgVB ((defBody sLlm).getD 1 (.Pass ⟨0, 0, 0, 0⟩)))) (PyProof.Rows.envOfC "_law_lot_least" (defScope sLlm) 0 0 .none)) (by decide +kernel))
            (fun _ _ _ _ _ => pg_name (i := 6) scLlm.nd rfl (Or.inl rfl)) (fun _ _ _ _ _ => pts_nil)
            (fun _ _ _ _ _ => pe_op (r := rI CMul fun i j => .int (i * j)) op_mul (pv 1) (pv 6))))))
      (pss_cons (ps_par (i := 3) (j := 4) rfl scLlm.nd rfl rfl (by decide) rfl rfl (pa_cons (pe_call GS hr1 rfl Ls.g Ls.k Ls.b .nil pass0 (pa_cons (pe_call G3 hr rfl Lo.g Lo.k Lo.b .nil pass0 (pa_cons (pe_dget hu (pv 0) pe_str (fun _ _ => rfl)) (pa_cons (pe_dget hu (pv 0) pe_str (fun _ _ => rfl)) (pa_cons (pv 2) pa_nil)))) pa_nil)) (pa_cons pe_int pa_nil)) (by rfl))
      (Evl.pss_cut (ps_for PassesOwn.never rfl (pi_range1 (by rfl) B.range_ (pa_cons pe_int pa_nil)) (pg_name (i := 5) scLlm.nd rfl (Or.inl rfl))
        (pss_cons (ps_if (pt_cmpR op_eq (pv 3) (pe_call GS hr1 rfl Ls.g Ls.k Ls.b .nil pass0 (pa_cons (pv 0) pa_nil)) (nomark _)) (pss_one ps_break) pss_nil)
        (pss_one (ps_par (i := 3) (j := 4) rfl scLlm.nd rfl rfl (by decide) rfl rfl (pa_cons (pe_op op_mul (pv 3) (pv 1)) (pa_cons (pe_op op_add (pv 4) pe_int) pa_nil)) (by rfl)))))
      (pss_one (ps_ret (pv 4)))))), ?_⟩
    obtain ⟨M2, M27, pr, pM, mt, mt', pd⟩ := md.mod.facts
    have M0 : 0 < M := by omega
    have p2 := md.two
    have p7 : p ≤ 7 := (isPr_small pr).2 |> fun h => by omega
    have ar := L.at_.ne
    refine ⟨_, rfl, a, _, rfl, L.at_.gM, M, p, kk, rfl, md, fun G0 t m0 ht => ⟨t, _, ((0 : Nat) : Int), _, rfl, rfl, SqT.of ht, atI_nat rfl, ?_⟩⟩
    have L0 := L.more m0
    refine ⟨fun σ' H' => ∃ (R : Addr) (cs : List Addr), σ' = [some (.ref a), some (.int p), some (.ref R), none, none, none, none, none] ∧ More H H' ∧ H' R = some (.lst (cs.map V.ref)) ∧ Paired (fun (c : Addr) (x : List Int) => H' c = some (.lst (x.map V.int))) cs (ks.map fun k => timesL p (row k)), ?_, ?_⟩
    · obtain ⟨u, hu0⟩ : ∃ u, u = HO.dK (ks.map fun k : Nat => ((Sum.inl (k : Int) : Key), V.ref (bs k))) := ⟨_, rfl⟩
      have hR0 : G0 r = some u := by rw [hu0]; exact L0.at_.hR
      refine ⟨r, u, hR0, by rw [hu0]; trivial, fun od => ?_⟩
      have kA : (upd G0 r (.frz od u)) a = _ := (upd_ne ar).trans L0.at_.hA
      have kB : ∀ k ∈ ks, (upd G0 r (.frz od u)) (bs k) = some (.lst ((row k).map V.int)) := fun k hk => by
        rw [upd_ne (fun e => by have := L0.at_.hB k hk; rw [e, L0.at_.hR] at this; cases this)]
        exact L0.at_.hB k hk
      have kR : (upd G0 r (.frz od u)) r = some (.frz od (.dK (ks.map fun k : Nat => ((Sum.inl (k : Int) : Key), V.ref (bs k))))) := by rw [upd_same, hu0]
      have off : ∀ b o, G0 b = some o → b ≠ r → (upd G0 r (.frz od u)) b = some o := fun b o e ne => by rw [upd_ne ne]; exact e
      have hRo : (upd G0 r (.frz od u)) r = some (.frz od u) := upd_same
      generalize upd G0 r (.frz od u) = HL at kA kB kR off hRo ⊢
      refine ⟨_, rfl, a, _, rfl, .inl ⟨_, Sum.inr _, .inl kA, rfl, rfl⟩, r, od, rfl, .inl ⟨_, kR, fun D hD => ?_⟩⟩
      have wk : Walk (Itk r od (ks.map fun k : Nat => ((Sum.inl (k : Int) : Key), V.ref (bs k)))) (ks.map fun k : Nat => V.int (k : Int)).length (fun H => H r = some (.frz od (.dK (ks.map fun k : Nat => ((Sum.inl (k : Int) : Key), V.ref (bs k)))))) (YAt (ks.map fun k : Nat => V.int (k : Int))) := by
        rw [show (ks.map fun k : Nat => V.int (k : Int)).length = (ks.map fun k : Nat => ((Sum.inl (k : Int) : Key), V.ref (bs k))).length by rw [List.length_map, List.length_map]]
        refine walk_keys.mono (fun H h => h) fun i H x H' hi h ⟨e, k, v, hk, ex⟩ => ⟨e, ?_⟩
        obtain ⟨j, hj, e2⟩ := map_at hk
        cases e2
        rw [ex, List.getElem?_map, hj]
        rfl
      have kl : ks.length ≤ n := nd_len n ks L.tr.pv.nd L.tr.pv.lt
      refine lc_rel (n := 7) (D := D) (H1 := HL) wk (fun i v H' => ∃ (x : List Int), (ks.map fun k => timesL p (row k))[i]? = some x ∧ ∃ c : Addr, v = .ref c ∧ H' c = some (.lst (x.map V.int))) (fun i v H' H'' m ⟨x, e1, c, e2, e3⟩ => ⟨x, e1, c, e2, m _ _ e3⟩) hD (fun H' m => m _ _ kR) (by rw [List.length_map]; omega) (fun _ => rfl) ?_ ?_
      · intro i y H7 Q7 hy m7 m7' ⟨l0, hl0⟩ q7
        obtain ⟨k, hk, rfl⟩ := map_at hy
        have mem : k ∈ ks := List.mem_of_getElem? hk
        have kb := m7 _ _ (kB k mem)
        refine ⟨_, rfl, a, _, rfl, .inl ⟨_, Sum.inr _, .inl (m7 _ _ kA), rfl, rfl⟩, _, rfl, r, _, rfl, .inl ⟨_, Sum.inl (k : Int), .inr ⟨od, m7 _ _ kR⟩, rfl, (by rw [val_keys ks (fun k => V.ref (bs k)), if_pos mem] : some (V.ref (bs k)) = _)⟩, bs k, rfl, ⟨_, SqL.of kb⟩, fun E1 hE1 => ?_⟩
        refine lc_name (n := 6) (D := E1) (H1 := H7) (xs := (row k).map V.int) (rs := (timesL p (row k)).map V.int) walk_list hE1 (fun H' m => SqL.of (m _ _ kb)) (by unfold timesL; rw [List.length_map, List.length_map, List.length_map]) (by rw [List.length_map, L.tr.pv.len k mem]; omega) (fun _ => rfl) ?_ ?_
        · intro i y v G' Qv hy hv m qv
          obtain ⟨x, ex, rfl⟩ := map_at hy
          unfold timesL at hv
          rw [List.map_map, List.getElem?_map, ex] at hv
          cases hv
          exact ⟨_, rfl, _, rfl, _, _, rfl, rfl, .inl ⟨by omega, by omega⟩, qv G' fun _ _ e => e⟩
        · intro H8 kE m8
          refine q7 _ _ m8 ⟨timesL p (row k), by rw [List.getElem?_map, hk]; rfl, E1, rfl, ?_⟩
          rw [del_ne (ne_of_none hl0 hE1).symm]
          exact kE
      · intro H7 G rs rl mG mH nG al hD7
        have h7 := mH _ _ (mG _ _ hRo)
        have Dr : D ≠ r := fun e => by rw [e, hRo] at hD; cases hD
        have prs : Paired (fun v x => ∃ c : Addr, v = .ref c ∧ (upd H7 r u) c = some (.lst (x.map V.int))) rs (ks.map fun k => timesL p (row k)) := paired_of (by rw [rl, List.length_map, List.length_map]) fun i x y hx hy => by
          obtain ⟨x', e1, c, e2, e3⟩ := al i x hx
          rw [hy] at e1
          cases e1
          refine ⟨c, e2, ?_⟩
          rw [upd_ne (fun e => by rw [e, mG _ _ hRo] at e3; cases e3)]
          exact mH _ _ e3
        obtain ⟨cs, ecs, pcs⟩ := refs_ofG prs
        refine ⟨h7, D, cs, rfl, fun b o e => ?_, by rw [upd_ne Dr, hD7, ecs], pcs⟩
        by_cases z : b = r
        · rw [z, upd_same, ← hR0, ← z]
          exact m0 _ _ e
        · rw [upd_ne z]
          exact mH _ _ (mG _ _ (off _ _ (m0 _ _ e) z))
    rintro σ1 G1 ⟨R, cs, rfl, m1, kR, prs⟩
    have L1 := L.more m1
    refine ⟨_, rfl, a, _, rfl, L1.at_.gM, _, rfl, a, _, rfl, L1.at_.gW, _, rfl, R, _, _, n, M, p, kk, rfl, md, by omega, .inl (SqL.of kR), rowsAt_lists prs (fun x hx => ?_), fun G2 a2 r2 ks2 bs2 row2 L2 good2 same2 _ _ m2 => ⟨a2, r2, n, M, p, kk, ks2, bs2, row2, rfl, md, L2, by omega, fun G3 m3 => ⟨_, _, rfl, ?_⟩⟩⟩
    · obtain ⟨k, hk, rfl⟩ := List.mem_map.mp hx
      unfold timesL
      rw [List.length_map]
      exact L.tr.pv.len k hk
    have sg : ∀ u, Lat.Mem n (hOf M ks2 row2) n u ↔ Lat.Gen n M (Lat.Fold p (Lat.All n (hOf M ks row))) u := fun u => (same2 u).trans (fold_rows L.tr.pv.lt u)
    obtain ⟨t, t4, et⟩ := Lat.siz_pow pd M0 good good2 (fun u hu => (good.gen u).mpr (((sg u).mp hu).into fun x ⟨y, hy, e⟩ => by rw [e]; exact .mul p (.row hy))) n (Nat.le_refl _)
    obtain ⟨s1, _⟩ := siz_bd M0 M27 good2 n (Nat.le_refl _)
    have lst : LotLeast n M p (hOf M ks row) t := ⟨_, good2, sg, et⟩
    generalize hS' : Lat.siz M (hOf M ks2 row2) n = S' at et s1 ⊢
    have L3 : LawLot G3 a r n M p kk ks bs row := L1.more fun b o e => m3 _ _ (m2 _ _ e)
    have m03 : More H G3 := fun b o e => m3 _ _ (m2 _ _ (m1 _ _ e))
    clear m0 m1 m2 m3 L1 L2 kR prs L0
    refine ⟨fun σ' H' => ∃ z3 z5, σ' = [some (.ref a), some (.int p), some (.ref R), z3, some (.int (t : Nat)), z5, none, none] ∧ More H H', ?_, ?_⟩
    · refine ⟨1000, rfl, by decide, by decide, ?_⟩
      refine for_range (lo := 0) (n := (1000 : Int).toNat) (fun i σ' H' => ∃ z5, σ' = [some (.ref a), some (.int p), some (.ref R), some (.int (S' * ((p ^ i : Nat) : Int))), some (.int (i : Nat)), z5, none, none] ∧ i ≤ t ∧ More G3 H')
        ⟨_, by rw [Nat.pow_zero]; show _ = [_, _, _, some (V.int (S' * 1)), _, _, _, _]; rw [Int.mul_one]; rfl, Nat.zero_le _, fun _ _ e => e⟩ ?_ ?_
      · rintro i σ' H' hi ⟨z5, rfl, it, m⟩
        refine ⟨_, rfl, _, rfl, a, r, n, M, p, kk, ks, bs, row, rfl, md, L3.more m, by omega, fun G4 m4 => ⟨rfl, _, rfl, ?_⟩⟩
        by_cases e : i = t
        · rw [show decide (V.int (S' * ((p ^ i : Nat) : Int)) = V.int (Lat.siz M (hOf M ks row) n)) = true from decide_eq_true (by rw [et, e])]
          exact iteT ⟨_, _, by rw [e]; rfl, fun b o h => m4 _ _ (m _ _ (m03 _ _ h))⟩
        · rw [show decide (V.int (S' * ((p ^ i : Nat) : Int)) = V.int (Lat.siz M (hOf M ks row) n)) = false from decide_eq_false (fun h => e (by
            have h := V.int.inj h
            rw [et] at h
            have h := Int.eq_of_mul_eq_mul_left (by omega) h
            have h : p ^ i = p ^ t := by exact_mod_cast h
            exact (Nat.pow_right_inj (by omega)).mp h))]
          refine iteF ⟨_, rfl, _, rfl, _, _, rfl, rfl, .inr ⟨by omega, by omega⟩, _, rfl, _, _, rfl, rfl, _, _, rfl, ?_⟩
          refine ⟨some (.int (0 + (i : Int))), ?_, by omega, fun b o h => m4 _ _ (m _ _ h)⟩
          rw [Nat.pow_succ, Int.natCast_mul, ← Int.mul_assoc]
          rfl
      · rintro σ' H' ⟨z5, rfl, it, m⟩
        have : (1000 : Int).toNat = 1000 := rfl
        omega
    rintro σ2 G4 ⟨z3, z5, rfl, m4⟩
    exact ⟨_, rfl, q G4 t m4 lst⟩
end
end K02

/-! LawT: the law draws rows. -/
namespace B5
open PySem L2 Gd
/-- the pen has been used, new things have been made -/
structure DS (H0 H : Hp) (d c : Addr) (n : Int) : Prop where
  pen : Pen H d c n
  off : Off d H0 H
theorem Pen.ofMore {H H' : Hp} {d c : Addr} {n : Int} (h : Pen H d c n) (m : More H H') : Pen H' d c n := by
  have h0 := h
  obtain ⟨kvs, cs, p, g, f, h1, h2, _⟩ := h
  exact h0.keep (by rw [h1, m _ _ h1]) (by rw [h2, m _ _ h2])
theorem Pen.has {H : Hp} {d c : Addr} {n : Int} (h : Pen H d c n) : (∃ kvs, H d = some (.dK kvs)) ∧ ∃ xs, H c = some (.lst xs) := by
  obtain ⟨kvs, cs, p, g, f, h1, h2, _⟩ := h
  exact ⟨⟨_, h1⟩, _, h2⟩
theorem DS.refl {H : Hp} {d c : Addr} {n : Int} (h : Pen H d c n) : DS H H d c n := ⟨h, Off.refl⟩
section
variable {H0 H H' : Hp} {d c p : Addr} {n n' : Int} {o : HO}
theorem DS.more (s : DS H0 H d c n) (m : More H H') : DS H0 H' d c n := ⟨s.pen.ofMore m, s.off.trans (.of m)⟩
theorem DS.draw (s : DS H0 H d c n) (dr : Drawn H H' d c n') : DS H0 H' d c n' := ⟨dr.pen, s.off.trans (.dr dr)⟩
theorem DS.to (s : DS H0 H d c n) (pn : Pen H' d c n') (of : Off d H H') : DS H0 H' d c n' := ⟨pn, s.off.trans of⟩
theorem DS.gone (s : DS H0 H d c n) (p0 : Pen H0 d c n') (h : H p = none) : H0 p = none := by
  obtain ⟨⟨kvs, h1⟩, _⟩ := s.pen.has
  exact s.off.gone ⟨_, h1⟩ h
/-- what was made since is put anew -/
theorem DS.set (s : DS H0 H d c n) (p0 : Pen H0 d c n') (h : H0 p = none) : DS H0 (upd H p o) d c n := by
  obtain ⟨⟨kvs, h1⟩, xs, h2⟩ := p0.has
  exact ⟨s.pen.updA (ne_of_none h1 h).symm (ne_of_none h2 h).symm, s.off.at h⟩
theorem DS.ne (p0 : Pen H0 d c n') (h : H0 p = none) : p ≠ d := by
  obtain ⟨⟨kvs, h1⟩, _⟩ := p0.has
  exact (ne_of_none h1 h).symm
end
/-- the rows drawn so far -/
structure RI (H0 H : Hp) (d c R : Addr) (n i : Nat) (cs : List Addr) (rs : List (List Int)) (nn : Int) : Prop where
  ds : DS H0 H d c nn
  nR : H0 R = none
  kR : H R = some (.lst (cs.map V.ref))
  rows : Paired (fun (b : Addr) (x : List Int) => H b = some (.lst (x.map V.int))) cs rs
  new : ∀ b ∈ cs, b ≠ R ∧ H0 b = none
  len : rs.length = i
  wid : ∀ x ∈ rs, x.length = n
theorem RI.snoc {H0 H H' : Hp} {d c R b : Addr} {n i : Nat} {cs : List Addr} {rs : List (List Int)} {x : List Int} {n0 nn nn' : Int} (p0 : Pen H0 d c n0) (I : RI H0 H d c R n i cs rs nn) (s : DS H H' d c nn') (nb : H b = none) (kb : H' b = some (.lst (x.map V.int))) (lx : x.length = n) :
    RI H0 (upd H' R (.lst ((cs ++ [b]).map V.ref))) d c R n (i + 1) (cs ++ [b]) (rs ++ [x]) nn' := by
  have s2 : DS H0 H' d c nn' := I.ds.to s.pen s.off
  have bR : b ≠ R := fun e => by rw [e, I.kR] at nb; cases nb
  have nb0 : H0 b = none := I.ds.gone p0 nb
  have keep : ∀ {y : Addr} {xs : List V}, y ∈ cs → H y = some (.lst xs) → (upd H' R (.lst ((cs ++ [b]).map V.ref))) y = some (.lst xs) := fun {y xs} hy h => by
    rw [upd_ne (I.new y hy).1]
    exact s.off _ _ h (DS.ne p0 (I.new y hy).2)
  refine ⟨s2.set p0 I.nR, I.nR, upd_same, ?_, fun y hy => ?_, by rw [List.length_append, I.len]; rfl, fun y hy => ?_⟩
  · refine paired_of (by rw [List.length_append, List.length_append, Paired.length I.rows]; rfl) fun j y z hy hz => ?_
    by_cases hj : j < cs.length
    · rw [List.getElem?_append_left hj] at hy
      rw [List.getElem?_append_left (by rw [← Paired.length I.rows]; exact hj)] at hz
      obtain ⟨z', e, h⟩ := paired_at I.rows hy
      rw [hz] at e
      cases e
      exact keep (List.mem_of_getElem? hy) h
    · have lt := (List.getElem?_eq_some_iff.mp hy).1
      rw [List.length_append, List.length_singleton] at lt
      have e : j = cs.length := by omega
      subst e
      rw [List.getElem?_append_right (Nat.le_refl _), Nat.sub_self] at hy
      rw [Paired.length I.rows, List.getElem?_append_right (Nat.le_refl _), Nat.sub_self] at hz
      cases hy
      cases hz
      rw [upd_ne bR]
      exact kb
  · rcases List.mem_append.mp hy with h | h
    · exact I.new y h
    · rw [List.mem_singleton.mp h]
      exact ⟨bR, nb0⟩
  · rcases List.mem_append.mp hy with h | h
    · exact I.wid y h
    · rw [List.mem_singleton.mp h]
      exact lx
theorem dp_LLq {K : PySem.W.Frag} {H : Hp} : ∀ {cs : List Addr} {rs : List (List Int)}, Paired (fun (b : Addr) (x : List Int) => H b = some (.lst (x.map V.int))) cs rs → DpAll K H (cs.map V.ref) (rs.map fun k => PyData.list (k.map .int))
  | _, _, .nil => .nil
  | _, _, .cons h t => .cons (.lst (SqL.of h) (dp_ints _)) (dp_LLq t)
theorem dp_LLp {K : PySem.W.Frag} {H : Hp} {t : Addr} {cs : List Addr} {rs : List (List Int)} (h : SqL K H t (cs.map V.ref)) (p : Paired (fun (b : Addr) (x : List Int) => H b = some (.lst (x.map V.int))) cs rs) : Dp K H (.ref t) (dLL rs) := .lst h (dp_LLq p)
theorem dp_nilL {K : PySem.W.Frag} {H : Hp} {t : Addr} (h : H t = some (.lst [])) : Dp K H (.ref t) (dLL []) := .lst (SqL.of h) .nil
/-- some times a row is added -/
def plusR (c : Int) (v k : List Int) : List Int := List.zipWith (fun a b => a + c * b) v k
theorem plusR_len {n : Nat} {c : Int} {v k : List Int} (hv : v.length = n) (hk : k.length = n) : (plusR c v k).length = n := by
  unfold plusR
  rw [List.length_zipWith, hv, hk, Nat.min_self]
theorem plusR_some {c : Int} {v k : List Int} {i : Nat} {x y : Int} (hx : v[i]? = some x) (hy : k[i]? = some y) : (plusR c v k)[i]? = some (x + c * y) := by
  unfold plusR
  rw [List.getElem?_zipWith, hx, hy]
/-- _law_rows(pen, m, width, many) -/
def spLrw : Sp := fun vs H Q _ => ∃ (d c : Addr) (nn : Int) (n N M p kk : Nat), vs = [.ref d, .int M, .int n, .int N] ∧ Pen H d c nn ∧ 0 ≤ nn ∧ nn < 800000000 ∧ ModK M p kk ∧ n ≤ 400 ∧ N ≤ 100 ∧
  ∀ (H' : Hp) (R : Addr) (cs : List Addr) (rs : List (List Int)) (nn' : Int), RI H H' d c R n N cs rs nn' → nn ≤ nn' → nn' ≤ nn + N * (10 + 40 * n) → Q (.ref R) H'
end B5

/-! lrw: _law_rows -/
namespace K02
open PySem L2 Gd B5
section
variable {P : Program} {w : World} {K : PySem.W.Frag} {mg : Str → Option Value} {base : Heap} {g1 g2 g3 g4 f : Addr} {d1 d2 d3 d4 fd : FuncData}
abbrev sLrw : Stmt := top 56
abbrev NLrw : List Str := ["_law_pen_here", "_law_m", "_law_width", "_law_many", "_law_rows_here", "_law_p", "_law_k", "_law_by", "_law_row", "_law_old", "_law_many_old", "_law_place", "_law_one", "_law_two"]
theorem scLrw : FnScope NLrw ["_law_pen_here", "_law_m", "_law_width", "_law_many"] (defScope sLrw) := ⟨rfl, rfl, rfl, by decide +kernel, rfl, by decide +kernel, by decide +kernel⟩
theorem ok_lrw (F : Fun K "_law_rows" "_law_rows" sLrw f fd) (B : Blt mg) (zZip : mg "zip" = none) (Dr : Cl K mg "_law_draw" sDraw ["_law_pen_here", "_law_many"] g1 d1) (Pi : Cl K mg "_law_pick" sPick ["_law_pen_here", "_law_some"] g2 d2) (La : Cl K mg "_law_large" sLarge ["_law_pen_here"] g3 d3) (Pw : Cl K mg "_law_power" sLpw ["_law_m"] g4 d4)
    (G3 : FnOk P w K mg base CX0 3 g3 d3 ["_law_pen_here"] spLarge) : FnOk P w K mg base CX0 4 f fd ["_law_pen_here", "_law_m", "_law_width", "_law_many"] spLrw := by
  have G1 : FnOk P w K mg base CX0 1 g1 d1 ["_law_pen_here", "_law_many"] spDraw := ok_draw Dr.fn B.int_ B.len_
  have G2 : FnOk P w K mg base CX0 2 g2 d2 ["_law_pen_here", "_law_some"] (spPick K) := ok_pick Pi.fn Dr.fn Dr.b Dr.g B.int_ B.len_
  have GP : FnOk P w K mg base CX0 1 g4 d4 ["_law_m"] spLpw := ok_lpw Pw.fn
  refine F.ok scLrw (fun vs H Q E h => ?_) (fun cdv A outer s H vs Q E hr h => ?_)
  · obtain ⟨d, c, nn, n, N, M, p, kk, rfl, _⟩ := h
    rfl
  · obtain ⟨d, c, nn, n, N, M, p, kk, rfl, pen, n0, n1, md, n400, N100, q⟩ := h
    have hr1 : Room 1 _ := hr.mono (by decide)
    have hr2 : Room 2 _ := hr.mono (by decide)
    have hu64 := hr.units
    refine ⟨_, pss_cons (ps_par (i := 4) (j := 5) rfl scLrw.nd rfl rfl (by decide) rfl rfl (pa_cons (pe_lst pa_nil) (pa_cons (pe_ix ix_tup (pe_call GP hr1 rfl Pw.g Pw.k Pw.b .nil pass0 (pa_cons (pv 1) pa_nil)) pe_int (fun _ _ => rfl)) pa_nil)) (by rfl))
      (Evl.pss_cut (ps_for PassesOwn.never rfl (pi_range1 (by rfl) B.range_ (pa_cons (pv 3) pa_nil)) (pg_name (i := 6) scLrw.nd rfl (Or.inl rfl))
        (pss_cons (ps_set (i := 7) scLrw.nd rfl (Or.inr rfl) (pe_call G2 hr2 rfl Pi.g Pi.k Pi.b .nil pass0 (pa_cons (pv 0) (pa_cons (pe_lst (pa_cons pe_int (pa_cons pe_int (pa_cons (pv 5) (pa_cons (pv 5) (pa_cons (pe_op op_fdiv (pv 1) (pv 5)) pa_nil)))))) pa_nil))))
        (Evl.pss_cut (ps_setLc (i := 8) (own := [("_law_place", 11)]) (g := gName 11) (tt := tYes) rfl scLrw.nd rfl rfl (sw_true rfl rfl rfl (by decide +kernel)) (pi_range1 (by rfl) B.range_ (pa_cons (pv 2) pa_nil)) (blkOk_by (N := NLrw) (sc := defScope sLrw) (by decide +kernel)) (fun _ _ _ _ _ => pg_name (i := 11) scLrw.nd rfl (Or.inl rfl)) (fun _ _ _ _ _ => pts_nil)
            (fun _ _ _ _ _ => pe_ifExp (pt_cmpR (r := rI0 fun i j => .bl (decide (i > j))) op_gt (pe_call G1 hr1 rfl Dr.g Dr.k Dr.b .nil pass0 (pa_cons (pv 0) (pa_cons pe_int pa_nil))) pe_int (nomark _))
              (pe_op (r := rI CMul fun i j => .int (i * j)) op_mul (pv 7) (pe_op (r := rI0 fun i j => .int (i - j)) op_sub (pe_call G1 hr1 rfl Dr.g Dr.k Dr.b .nil pass0 (pa_cons (pv 0) (pa_cons (pe_op (r := rI0 fun i j => .int (i + j)) op_add (pe_op (r := rI CMul fun i j => .int (i * j)) op_mul pe_int (pv 1)) pe_int) pa_nil))) (pv 1))) pe_int))
        (Evl.pss_cut (ps_if (PW.pt (pw_and (pt_cmpR (op_neD hu64) (pv 4) (pe_lst pa_nil) (nomark _)) (pw_and1 (pt_cmpR op_eq (pe_call G1 hr1 rfl Dr.g Dr.k Dr.b .nil pass0 (pa_cons (pv 0) (pa_cons pe_int pa_nil))) pe_int (nomark _)))))
            (pss_cons (ps_asg (pe_tup (pa_cons (pe_call G2 hr2 rfl Pi.g Pi.k Pi.b .nil pass0 (pa_cons (pv 0) (pa_cons (pv 4) pa_nil))) (pa_cons (pe_call G1 hr1 rfl Dr.g Dr.k Dr.b .nil pass0 (pa_cons (pv 0) (pa_cons (pv 1) pa_nil))) pa_nil))) (pg_tup (by rfl) (pgs_cons (pg_name (i := 9) scLrw.nd rfl (Or.inl rfl)) (pgs_cons (pg_name (i := 10) scLrw.nd rfl (Or.inr rfl)) pgs_nil))))
            (pss_one (ps_setLc (i := 8) (own := [("_law_one", 12), ("_law_two", 13)]) (g := gTup K 2 (gCons (gName 12) (gCons (gName 13) gNil))) (tt := tYes) rfl scLrw.nd rfl rfl (sw_true rfl rfl rfl (by decide +kernel)) (pi_zip (by rfl) zZip (pa_cons (pv 8) (pa_cons (pv 9) pa_nil)))
              (blkOk_by (N := NLrw) (sc := defScope sLrw) (by decide +kernel)) (fun _ _ _ _ _ => pg_tup rfl (pgs_cons (pg_name (i := 12) scLrw.nd rfl (Or.inl rfl)) (pgs_cons (pg_name (i := 13) scLrw.nd rfl (Or.inl rfl)) pgs_nil))) (fun _ _ _ _ _ => pts_nil)
              (fun _ _ _ _ _ => pe_op (r := rI0 fun i j => .int (i + j)) op_add (pv 12) (pe_op (r := rI CMul fun i j => .int (i * j)) op_mul (pv 10) (pv 13)))))) pss_nil)
        (Evl.pss_cut (ps_if (pt_cmpR op_eq (pe_call G1 hr1 rfl Dr.g Dr.k Dr.b .nil pass0 (pa_cons (pv 0) (pa_cons pe_int pa_nil))) pe_int (nomark _))
            (pss_one (ps_setLc (i := 8) (own := [("_law_one", 12)]) (g := gName 12) (tt := tYes) rfl scLrw.nd rfl rfl (sw_true rfl rfl rfl (by decide +kernel)) (pi_list (pv 8)) (blkOk_by (N := NLrw) (sc := defScope sLrw) (by decide +kernel)) (fun _ _ _ _ _ => pg_name (i := 12) scLrw.nd rfl (Or.inl rfl)) (fun _ _ _ _ _ => pts_nil)
              (fun _ _ _ _ _ => pe_op (r := rI0 fun i j => .int (i + j)) op_add (pv 12) (pe_op (r := rI CMul fun i j => .int (i * j)) op_mul (pv 1) (pe_call G3 hr rfl La.g La.k La.b .nil pass0 (pa_cons (pv 0) pa_nil)))))) pss_nil)
        (pss_one (ps_expr (pe_bm PySem.F.plainAttrs_list PySem.F.slot_list_append PySem.F.type_list_append mt_append (pv 4) (pa_cons (pv 8) pa_nil)))))))))
      (pss_one (ps_ret (pv 4)))), ?_⟩
    obtain ⟨M2, M27, pr, _⟩ := md.mod.facts
    have p2 := md.two
    have p7 : p ≤ 7 := (isPr_small pr).2 |> fun h => by omega
    refine ⟨by show 0 ≤ sizeLine; exact Nat.zero_le _, fun R hR => ⟨_, rfl, M, p, kk, rfl, md, fun G0 t m0 ht => ⟨t, _, ((0 : Nat) : Int), _, rfl, rfl, SqT.of ht, atI_nat rfl, _, _, rfl, ?_⟩⟩⟩
    have I0 : RI H G0 d c R n 0 [] [] nn := ⟨((DS.refl pen).more (new_more hR)).more m0, hR, m0 _ _ upd_same, .nil, (fun b hb => nomatch hb), rfl, (fun b hb => nomatch hb)⟩
    refine ⟨fun σ' H' => ∃ (cs : List Addr) (rs : List (List Int)) (n' : Int) (z6 z7 z8 z9 z10 : Option V), σ' = [some (.ref d), some (.int M), some (.int n), some (.int N), some (.ref R), some (.int p), z6, z7, z8, z9, z10, none, none, none] ∧ RI H H' d c R n N cs rs n' ∧ nn ≤ n' ∧ n' ≤ nn + N * (10 + 40 * n), ?_, ?_⟩
    · refine ⟨_, rfl, (N : Int), rfl, by omega, by omega, ?_⟩
      rw [Int.toNat_natCast]
      refine for_range (lo := 0) (n := N) (fun i σ' H' => ∃ (cs : List Addr) (rs : List (List Int)) (n' : Int) (z6 z7 z8 z9 z10 : Option V), σ' = [some (.ref d), some (.int M), some (.int n), some (.int N), some (.ref R), some (.int p), z6, z7, z8, z9, z10, none, none, none] ∧ RI H H' d c R n i cs rs n' ∧ nn ≤ n' ∧ n' ≤ nn + i * (10 + 40 * n))
        ⟨[], [], nn, _, _, _, _, _, rfl, I0, by omega, by omega⟩ ?_ (fun σ' H' h => h)
      rintro i σ' H1 hi ⟨cs, rs, n', z6, z7, z8, z9, z10, rfl, I, b1, b2⟩
      obtain ⟨Bi, hBi⟩ : ∃ Bi : Int, Bi = (i : Int) * (10 + 40 * n) := ⟨_, rfl⟩
      have bi1 : Bi ≤ 100 * (10 + 40 * n) := by
        rw [hBi]
        exact Int.mul_le_mul_of_nonneg_right (by omega) (by omega)
      have bi2 : ((i + 1 : Nat) : Int) * (10 + 40 * n) = Bi + (10 + 40 * n) := by rw [hBi, Int.natCast_add, Int.add_mul]; omega
      rw [← hBi] at b2
      have pn := I.ds.pen
      refine ⟨_, rfl, _, rfl, _, rfl, _, rfl, _, rfl, _, _, rfl, rfl, ⟨by omega, by omega⟩, by show 5 ≤ sizeLine; decide, fun L hL => ?_⟩
      have mL := new_more (o := .lst [V.int 1, .int 1, .int p, .int p, .int ((M : Int) / (p : Int))]) hL
      refine ⟨d, c, L, n', _, rfl, pn.upd hL, upd_same, by show 0 < 5; decide, by show 5 ≤ 1000; decide, by omega, by omega, fun y G1 hy dr => ?_⟩
      have S1 : DS H1 G1 d c (n' + 1) := ((DS.refl pn).more mL).draw dr
      obtain ⟨e, rfl, e0, e27⟩ : ∃ e : Int, y = V.int e ∧ 0 ≤ e ∧ e ≤ 27 := by
        have q1 := Int.ediv_nonneg (show (0 : Int) ≤ M by omega) (show (0 : Int) ≤ p by omega)
        have q2 := Int.ediv_le_self (p : Int) (show (0 : Int) ≤ M by omega)
        simp only [List.mem_cons, List.not_mem_nil, or_false] at hy
        rcases hy with rfl | rfl | rfl | rfl | rfl
        · exact ⟨_, rfl, by omega, by omega⟩
        · exact ⟨_, rfl, by omega, by omega⟩
        · exact ⟨_, rfl, by omega, by omega⟩
        · exact ⟨_, rfl, by omega, by omega⟩
        · exact ⟨_, rfl, q1, by omega⟩
      clear dr mL hL hy
      -- a row
      refine ⟨fun σ' H' => ∃ (b : Addr) (x : List Int) (m : Int), σ' = [some (.ref d), some (.int M), some (.int n), some (.int N), some (.ref R), some (.int p), some (.int (0 + (i : Int))), some (.int e), some (.ref b), z9, z10, none, none, none] ∧ DS H1 H' d c m ∧ H1 b = none ∧ H' b = some (.lst (x.map V.int)) ∧ x.length = n ∧ n' ≤ m ∧ m ≤ n' + 1 + 2 * n, ?_, ?_⟩
      · refine ⟨_, rfl, (n : Int), rfl, by omega, by omega, fun D hD => ?_⟩
        rw [Int.toNat_natCast]
        have D0 := S1.gone pn hD
        refine lc_range (lo := 0) (n := n) (fun j G => ∃ (m : Int) (x : List Int), DS G1 G d c m ∧ G D = some (.lst (x.map V.int)) ∧ x.length = j ∧ n' + 1 ≤ m ∧ m ≤ n' + 1 + 2 * j) ⟨n' + 1, [], (DS.refl S1.pen).more (new_more hD), upd_same, rfl, by omega, by omega⟩ ?_ ?_
        · rintro j G hj ⟨m, x, S, kD, lx, m1, m2⟩
          have Dd := DS.ne S1.pen hD
          have put : ∀ (y : Int) (G' : Hp) (m' : Int), DS G1 G' d c m' → G' D = some (.lst (x.map V.int)) → n' + 1 ≤ m' → m' ≤ n' + 1 + 2 * ((j + 1 : Nat) : Int) → ∃ acc, G' D = some (.lst acc) ∧ acc.length < sizeLine ∧ ∃ (m : Int) (x : List Int), DS G1 (upd G' D (.lst (acc ++ [V.int y]))) d c m ∧ (upd G' D (.lst (acc ++ [V.int y]))) D = some (.lst (x.map V.int)) ∧ x.length = j + 1 ∧ n' + 1 ≤ m ∧ m ≤ n' + 1 + 2 * ((j + 1 : Nat) : Int) := fun y G' m' S' k h1 h2 =>
            ⟨_, k, by rw [List.length_map]; exact small1000 (by omega), m', x ++ [y], S'.set S1.pen hD, by rw [upd_same, List.map_append]; rfl, by rw [List.length_append, lx]; rfl, h1, h2⟩
          refine ⟨rfl, _, rfl, d, c, m, 3, rfl, S.pen, by decide, by decide, by omega, by omega, fun r G2 r0 r1 dr => ⟨_, _, rfl, rfl, _, rfl, ite2 (fun _ => ?_) (fun _ => ?_)⟩⟩
          · have S2 := S.draw dr
            have kD2 := (Off.dr dr) _ _ kD Dd
            refine ⟨_, rfl, _, rfl, _, rfl, _, _, rfl, rfl, .inl ⟨by omega, by omega⟩, _, _, rfl, rfl, d, c, m + 1, 2 * (M : Int) + 1, rfl, S2.pen, by omega, by omega, by omega, by omega, fun r' G3 s0 s1 dr3 => ⟨_, rfl, _, _, rfl, rfl, _, _, rfl, rfl, .inl ⟨by omega, by omega⟩, ?_⟩⟩
            exact put _ _ _ (S2.draw dr3) ((Off.dr dr3) _ _ kD2 Dd) (by omega) (by omega)
          · exact put _ _ _ (S.draw dr) ((Off.dr dr) _ _ kD Dd) (by omega) (by omega)
        · rintro G ⟨m, x, S, kD, lx, m1, m2⟩
          exact ⟨D, x, m, rfl, S1.to S.pen S.off, D0, kD, lx, by omega, by omega⟩
      rintro σ2 G2 ⟨b, x, m, rfl, S2, nb, kb, lx, c1, c2⟩
      clear S1
      -- another row's multiple
      refine ⟨fun σ' H' => ∃ (b : Addr) (x : List Int) (m : Int) (z9 z10 : Option V), σ' = [some (.ref d), some (.int M), some (.int n), some (.int N), some (.ref R), some (.int p), some (.int (0 + (i : Int))), some (.int e), some (.ref b), z9, z10, none, none, none] ∧ DS H1 H' d c m ∧ H1 b = none ∧ H' b = some (.lst (x.map V.int)) ∧ x.length = n ∧ n' ≤ m ∧ m ≤ n' + 4 + 2 * n, ?_, ?_⟩
      · refine ⟨_, rfl, by show 0 ≤ sizeLine; exact Nat.zero_le _, fun e1 he1 => ?_⟩
        have me := new_more (o := .lst []) he1
        have ke : (upd G2 e1 (.lst [])) e1 = some (.lst []) := upd_same
        have S := S2.more me
        have kb1 := me _ _ kb
        generalize upd G2 e1 (.lst []) = G at me ke S kb1 ⊢
        have Rd := DS.ne pen I.nR
        have kR := S.off _ _ I.kR Rd
        have keepR : ∀ {H' : Hp}, Off d H1 H' → Paired (fun (b : Addr) (x : List Int) => H' b = some (.lst (x.map V.int))) cs rs := fun of => paired_memL (fun b x hb h => of _ _ h (DS.ne pen (I.new b hb).2)) I.rows
        refine ⟨_, _, dp_LLp (SqL.of kR) (keepR S.off), dp_nilL ke, shaped_LL _, shaped_LL _, _, rfl, ?_⟩
        show if (!PyData.eqv (dLL rs) (dLL [])) = true then _ else _
        rw [eqv_LL]
        by_cases rn : rs = []
        · rw [decide_eq_true rn]
          exact iteF (iteF ⟨b, x, m, _, _, rfl, S, nb, kb1, lx, by omega, by omega⟩)
        rw [decide_eq_false rn]
        refine iteT ⟨_, rfl, d, c, m, 4, rfl, S.pen, by decide, by decide, by omega, by omega, fun r G' r0 r1 dr => ⟨rfl, _, rfl, ite2 (fun _ => ?_) (fun _ => ?_)⟩⟩
        · have Sa := S.draw dr
          have kRa := Sa.off _ _ I.kR Rd
          have cl : cs.length = rs.length := Paired.length I.rows
          have rl : 0 < rs.length := List.length_pos_iff.mpr rn
          have ri := I.len
          refine ⟨_, rfl, _, rfl, d, c, R, m + 1, _, rfl, Sa.pen, kRa, by rw [List.length_map]; omega, by rw [List.length_map]; omega, by omega, by omega, fun y Gb hy drb => ?_⟩
          obtain ⟨b0, hb0, rfl⟩ := List.mem_map.mp hy
          obtain ⟨j0, hj0⟩ := List.getElem?_of_mem hb0
          obtain ⟨x0, hx0, kx0⟩ := paired_at I.rows hj0
          have lx0 := I.wid x0 (List.mem_of_getElem? hx0)
          have Sb := Sa.draw drb
          have bd : b ≠ d := DS.ne pn nb
          have b0d : b0 ≠ d := DS.ne pen (I.new b0 hb0).2
          refine ⟨_, rfl, _, rfl, d, c, m + 1 + 1, (M : Int), rfl, Sb.pen, by omega, by omega, by omega, by omega, fun ee Gc ee0 ee1 drc => ⟨by show 2 ≤ sizeLine; decide, fun t ht => ?_⟩⟩
          have mt := new_more (o := .tup [.ref b0, .int ee]) ht
          have Sc := (Sb.draw drc).more mt
          have kbc := mt _ _ ((Off.dr drc) _ _ ((Off.dr drb) _ _ ((Off.dr dr) _ _ kb1 bd) bd) bd)
          have kx0c := Sc.off _ _ kx0 b0d
          have tt : (upd Gc t (.tup [.ref b0, .int ee])) t = some (.tup [.ref b0, .int ee]) := upd_same
          generalize upd Gc t (.tup [.ref b0, .int ee]) = Gd at Sc kbc kx0c tt ⊢
          refine ⟨t, _, rfl, SqT.of tt, rfl, _, _, rfl, _, _, rfl, rfl, ?_⟩
          refine ⟨_, rfl, _, rfl, b, b0, _, _, rfl, SqL.of kbc, SqL.of kx0c, fun D hD => ?_⟩
          refine lc_zipI (xs := x) (ys := x0) (zs := plusR ee x x0) (n := n) (walk_zip (by rw [List.length_map, List.length_map, lx, lx0, Nat.min_self])) hD (fun H2 m2 => ⟨SqL.of (m2 _ _ kbc), SqL.of (m2 _ _ kx0c)⟩) (plusR_len lx lx0) (by omega) (fun _ _ => rfl) (fun u c' d' e' H2 Q2 hc hd' he m2 q2 => ?_) (fun H2 hl m2 => ?_)
          · rw [plusR_some hc hd'] at he
            cases he
            exact ⟨_, rfl, _, rfl, _, rfl, _, _, rfl, rfl, .inl ⟨by omega, by omega⟩, _, _, rfl, rfl, q2 H2 fun _ _ e => e⟩
          · exact ⟨D, plusR ee x x0, m + 1 + 1 + 1, _, _, rfl, Sc.more m2, Sc.gone pn hD, hl, plusR_len lx lx0, by omega, by omega⟩
        · exact ⟨b, x, m + 1, _, _, rfl, S.draw dr, nb, (Off.dr dr) _ _ kb1 (DS.ne pn nb), lx, by omega, by omega⟩
      clear S2 nb kb lx c1 c2
      rintro σ3 G3 ⟨b, x, m, z9, z10, rfl, S3, nb, kb, lx, c1, c2⟩
      refine ⟨fun σ' H' => ∃ (b : Addr) (x : List Int) (m : Int), σ' = [some (.ref d), some (.int M), some (.int n), some (.int N), some (.ref R), some (.int p), some (.int (0 + (i : Int))), some (.int e), some (.ref b), z9, z10, none, none, none] ∧ DS H1 H' d c m ∧ H1 b = none ∧ H' b = some (.lst (x.map V.int)) ∧ x.length = n ∧ n' ≤ m ∧ m ≤ n' + 5 + 32 * n, ?_, ?_⟩
      · have bd : b ≠ d := DS.ne pn nb
        refine ⟨_, rfl, d, c, m, 8, rfl, S3.pen, by decide, by decide, by omega, by omega, fun r G' r0 r1 dr => ⟨rfl, _, rfl, ite2 (fun _ => ?_) (fun _ => ?_)⟩⟩
        · have Sa := S3.draw dr
          have kba := (Off.dr dr) _ _ kb bd
          refine ⟨_, rfl, b, rfl, ⟨_, SqL.of kba⟩, fun D hD => ?_⟩
          have D1 := Sa.gone pn hD
          have Dd := DS.ne Sa.pen hD
          have Db : b ≠ D := fun e => by rw [e, hD] at kba; cases kba
          refine lc_list (Pv := fun j G => ∃ (m' : Int) (y : List Int), DS G' G d c m' ∧ G D = some (.lst (y.map V.int)) ∧ y.length = j ∧ m + 1 ≤ m' ∧ m' ≤ m + 1 + 30 * j) ⟨m + 1, [], (DS.refl Sa.pen).more (new_more hD), upd_same, rfl, by omega, by omega⟩ (fun j G _ ⟨_, _, S, _⟩ => SqL.of (S.off _ _ kba bd)) ?_ ?_
          · rintro j y0 G hy0 ⟨m', y, S, kD, ly, d1, d2⟩
            obtain ⟨v, hv, rfl⟩ := map_at hy0
            have jn : j < n := by
              have := (List.getElem?_eq_some_iff.mp hv).1
              omega
            refine ⟨rfl, _, rfl, _, rfl, _, rfl, d, c, m', rfl, S.pen, by omega, by omega, fun la n2 Gl l0 l1 n21 n22 pl ofl => ⟨_, _, rfl, rfl, .inl ⟨by omega, by omega⟩, _, _, rfl, rfl, ?_⟩⟩
            have Sl := S.to pl ofl
            exact ⟨_, ofl _ _ kD Dd, by rw [List.length_map]; exact small1000 (by omega), n2, y ++ [v + (M : Int) * la], Sl.set Sa.pen hD, by rw [upd_same, List.map_append]; rfl, by rw [List.length_append, ly]; rfl, by omega, by omega⟩
          · rintro G ⟨m', y, S, kD, ly, d1, d2⟩
            rw [List.length_map, lx] at ly d2
            exact ⟨D, y, m', rfl, Sa.to S.pen S.off, D1, kD, ly, by omega, by omega⟩
        · exact ⟨b, x, m + 1, rfl, S3.draw dr, nb, (Off.dr dr) _ _ kb bd, lx, by omega, by omega⟩
      clear S3 nb kb lx c1 c2
      rintro σ4 G4 ⟨b, x, m, rfl, S4, nb, kb, lx, c1, c2⟩
      have kR := S4.off _ _ I.kR (DS.ne pen I.nR)
      refine ⟨_, rfl, .inl ⟨rfl, _, SqL.of kR⟩, _, rfl, R, _, _, rfl, rfl, kR, by rw [List.length_map, Paired.length I.rows, I.len]; exact small1000 (by omega), ?_⟩
      have I2 := I.snoc pen S4 nb kb lx
      rw [List.map_append] at I2
      exact ⟨_, _, m, _, _, _, _, _, rfl, I2, by omega, by rw [bi2]; omega⟩
    rintro σ1 G1 ⟨cs, rs, n', z6, z7, z8, z9, z10, rfl, I, b1, b2⟩
    exact ⟨_, rfl, q G1 R cs rs n' I b1 b2⟩
end
end K02

/-! LawU: other rows that make the same lot. -/
namespace B5
open PySem L2 Gd
theorem RI.put {H0 H H' : Hp} {d c R b : Addr} {n i a : Nat} {cs : List Addr} {rs : List (List Int)} {x : List Int} {n0 nn nn' : Int} (p0 : Pen H0 d c n0) (I : RI H0 H d c R n i cs rs nn) (s : DS H H' d c nn') (nb : H b = none) (kb : H' b = some (.lst (x.map V.int))) (lx : x.length = n) :
    RI H0 (upd H' R (.lst ((cs.set a b).map V.ref))) d c R n i (cs.set a b) (rs.set a x) nn' := by
  have s2 : DS H0 H' d c nn' := I.ds.to s.pen s.off
  have bR : b ≠ R := fun e => by rw [e, I.kR] at nb; cases nb
  have nb0 : H0 b = none := I.ds.gone p0 nb
  refine ⟨s2.set p0 I.nR, I.nR, upd_same, ?_, fun y hy => ?_, by rw [List.length_set, I.len], fun y hy => ?_⟩
  · refine paired_of (by rw [List.length_set, List.length_set, Paired.length I.rows]) fun j y z hy hz => ?_
    by_cases hj : a = j
    · subst hj
      have lt := (List.getElem?_eq_some_iff.mp hy).1
      rw [List.length_set] at lt
      rw [List.getElem?_set_self lt] at hy
      rw [List.getElem?_set_self (by rw [← Paired.length I.rows]; exact lt)] at hz
      cases hy
      cases hz
      rw [upd_ne bR]
      exact kb
    · rw [List.getElem?_set_ne hj] at hy hz
      obtain ⟨z', e, h⟩ := paired_at I.rows hy
      rw [hz] at e
      cases e
      have nw := I.new y (List.mem_of_getElem? hy)
      rw [upd_ne nw.1]
      exact s.off _ _ h (DS.ne p0 nw.2)
  · rcases List.mem_or_eq_of_mem_set hy with h | h
    · exact I.new y h
    · rw [h]
      exact ⟨bR, nb0⟩
  · rcases List.mem_or_eq_of_mem_set hy with h | h
    · exact I.wid y h
    · rw [h]
      exact lx
theorem RI.to {H0 H H' : Hp} {d c R : Addr} {n i : Nat} {cs : List Addr} {rs : List (List Int)} {nn nn' : Int} (p0 : Pen H0 d c n0) (I : RI H0 H d c R n i cs rs nn) (s : DS H H' d c nn') : RI H0 H' d c R n i cs rs nn' :=
  ⟨I.ds.to s.pen s.off, I.nR, s.off _ _ I.kR (DS.ne p0 I.nR), paired_memL (fun b x hb h => s.off _ _ h (DS.ne p0 (I.new b hb).2)) I.rows, I.new, I.len, I.wid⟩
theorem paired_apd {α β : Type} {R : α → β → Prop} : ∀ {xs ys : List α} {l k : List β}, Paired R xs l → Paired R ys k → Paired R (xs ++ ys) (l ++ k)
  | _, _, _, _, .nil, h => h
  | _, _, _, _, .cons r t, h => .cons r (paired_apd t h)
theorem paired_rvs {α β : Type} {R : α → β → Prop} : ∀ {xs : List α} {l : List β}, Paired R xs l → Paired R xs.reverse l.reverse
  | _, _, .nil => .nil
  | _, _, .cons r t => by
    rw [List.reverse_cons, List.reverse_cons]
    exact paired_apd (paired_rvs t) (.cons r .nil)
/-- two lists of rows make the same -/
def SameG (n M : Nat) (rs rs' : List (List Int)) : Prop := ∀ u, Lat.Gen n M (rowsSet rs') u ↔ Lat.Gen n M (rowsSet rs) u
theorem SameG.refl {n M : Nat} {rs : List (List Int)} : SameG n M rs rs := fun _ => Iff.rfl
theorem SameG.trans {n M : Nat} {a b c : List (List Int)} (h : SameG n M a b) (h' : SameG n M b c) : SameG n M a c := fun u => (h' u).trans (h u)
theorem SameG.of {n M : Nat} {a b : List (List Int)} (h1 : ∀ r ∈ b, Lat.Gen n M (rowsSet a) (vec r)) (h2 : ∀ r ∈ a, Lat.Gen n M (rowsSet b) (vec r)) : SameG n M a b := fun u =>
  ⟨fun g => g.into fun x ⟨r, hr, e⟩ => e ▸ h1 r hr, fun g => g.into fun x ⟨r, hr, e⟩ => e ▸ h2 r hr⟩
theorem gen_row {n M : Nat} {rs : List (List Int)} {r : List Int} (h : r ∈ rs) : Lat.Gen n M (rowsSet rs) (vec r) := .row ⟨r, h, rfl⟩
theorem plusR_vec {c : Int} {v k : List Int} (e : v.length = k.length) (i : Nat) : vec (plusR c v k) i = vec v i + c * vec k i := zip_get c v k i e
theorem set_mem {α : Type} {l : List α} {a : Nat} {x y : α} (h : y ∈ l) : y ∈ l.set a x ∨ l[a]? = some y := by
  obtain ⟨j, hj⟩ := List.getElem?_of_mem h
  by_cases e : a = j
  · subst e
    exact .inr hj
  · exact .inl (List.mem_of_getElem? (i := j) (by rw [List.getElem?_set_ne e]; exact hj))
/-- a row is changed by another one's multiple -/
theorem same_plus {n M : Nat} {rs : List (List Int)} {a o : Nat} {x y : List Int} (c : Int) (hx : rs[a]? = some x) (hy : rs[o]? = some y) (ne : a ≠ o) (lx : x.length = n) (ly : y.length = n) : SameG n M rs (rs.set a (plusR c x y)) := by
  have al := (List.getElem?_eq_some_iff.mp hx).1
  have my : y ∈ rs.set a (plusR c x y) := List.mem_of_getElem? (i := o) (by rw [List.getElem?_set_ne ne]; exact hy)
  have mz : plusR c x y ∈ rs.set a (plusR c x y) := List.mem_of_getElem? (i := a) (List.getElem?_set_self al)
  refine .of (fun r hr => ?_) (fun r hr => ?_)
  · rcases List.mem_or_eq_of_mem_set hr with h | h
    · exact gen_row h
    · rw [h]
      refine .lin 1 c (fun i _ => ?_) (gen_row (List.mem_of_getElem? hx)) (gen_row (List.mem_of_getElem? hy))
      rw [plusR_vec (by rw [lx, ly]), Int.one_mul, Int.sub_self]
      exact Int.dvd_zero _
  · rcases set_mem (a := a) (x := plusR c x y) hr with h | h
    · exact gen_row h
    · rw [hx] at h
      cases h
      refine .lin 1 (-c) (fun i _ => ?_) (gen_row mz) (gen_row my)
      rw [plusR_vec (by rw [lx, ly]), Int.one_mul, Int.neg_mul, show vec x i - (vec x i + c * vec y i + -(c * vec y i)) = 0 by omega]
      exact Int.dvd_zero _
theorem unit_all2 {M p k : Nat} (h : ModK M p k) {c : Nat} (hc : ¬ p ∣ c) : ∃ b : Nat, b * c % M = 1 % M := by
  obtain ⟨M2, _, _⟩ := h.mod.facts
  have pM : p ∣ M := h.mod.facts.2.2.2.1
  obtain ⟨b, _, _, e⟩ := unit_ex h (x := c % M) (fun d => hc ((Nat.dvd_mod_iff pM).mp d)) (Nat.mod_lt _ (by omega))
  refine ⟨b, ?_⟩
  rw [Nat.mul_mod, ← e, Nat.mul_mod b (c % M), Nat.mod_mod]
/-- a row is changed by a unit -/
theorem same_unit {n M p kk : Nat} (md : ModK M p kk) {rs : List (List Int)} {a : Nat} {x : List Int} {c : Nat} (hc : ¬ p ∣ c) (hx : rs[a]? = some x) : SameG n M rs (rs.set a (timesL c x)) := by
  have al := (List.getElem?_eq_some_iff.mp hx).1
  have mz : timesL c x ∈ rs.set a (timesL c x) := List.mem_of_getElem? (i := a) (List.getElem?_set_self al)
  obtain ⟨b, hb⟩ := unit_all2 md hc
  refine .of (fun r hr => ?_) (fun r hr => ?_)
  · rcases List.mem_or_eq_of_mem_set hr with h | h
    · exact gen_row h
    · rw [h, vec_times]
      exact .mul c (gen_row (List.mem_of_getElem? hx))
  · rcases set_mem (a := a) (x := timesL c x) hr with h | h
    · exact gen_row h
    · rw [hx] at h
      cases h
      refine .cong (fun i _ => ?_) (.mul (b : Int) (gen_row mz))
      rw [vec_times]
      show (M : Int) ∣ vec x i - (b : Int) * ((c : Int) * vec x i)
      have d : (M : Int) ∣ 1 - (b : Int) * c := by
        have h1 : ((b * c : Nat) : Int) % (M : Int) = ((1 : Nat) : Int) % (M : Int) := by rw [← Int.natCast_emod, ← Int.natCast_emod, hb]
        rw [Int.natCast_mul] at h1
        exact Int.dvd_of_emod_eq_zero (Int.emod_eq_emod_iff_emod_sub_eq_zero.mp h1.symm)
      rw [← Int.mul_assoc, show vec x i - (b : Int) * c * vec x i = (1 - (b : Int) * c) * vec x i by rw [Int.sub_mul, Int.one_mul]]
      exact Int.dvd_mul_of_dvd_left d
/-- the rows' sum -/
def sumR (n : Nat) : List (List Int) → List Int
  | [] => List.replicate n 0
  | r :: rs => plusR 1 r (sumR n rs)
theorem sumR_len {n : Nat} : ∀ {rs : List (List Int)}, (∀ r ∈ rs, r.length = n) → (sumR n rs).length = n
  | [], _ => List.length_replicate
  | r :: rs, h => plusR_len (h r (.head _)) (sumR_len fun x hx => h x (.tail _ hx))
theorem sumR_get {n : Nat} : ∀ {rs : List (List Int)}, (∀ r ∈ rs, r.length = n) → ∀ i, (sumR n rs).getD i 0 = (rs.map fun r => r.getD i 0).sum
  | [], _, i => by
    show (List.replicate n (0 : Int)).getD i 0 = 0
    rw [List.getD_eq_getElem?_getD, List.getElem?_replicate]
    split <;> rfl
  | r :: rs, h, i => by
    show (plusR 1 r (sumR n rs)).getD i 0 = _
    unfold plusR
    rw [zip_get 1 _ _ _ (by rw [h r (.head _), sumR_len fun x hx => h x (.tail _ hx)]), sumR_get fun x hx => h x (.tail _ hx)]
    rw [Int.one_mul, List.map_cons, List.sum_cons]
theorem sumR_gen {n M : Nat} {R : Lat.Vec → Prop} : ∀ {rs : List (List Int)}, (∀ r ∈ rs, r.length = n) → (∀ r ∈ rs, Lat.Gen n M R (vec r)) → Lat.Gen n M R (vec (sumR n rs))
  | [], _, _ => .top fun i _ => by
    show (M : Int) ∣ (List.replicate n (0 : Int)).getD i 0
    rw [List.getD_eq_getElem?_getD, List.getElem?_replicate]
    split <;> exact Int.dvd_zero _
  | r :: rs, h, g => by
    refine .lin 1 1 (fun i _ => ?_) (g r (.head _)) (sumR_gen (rs := rs) (fun x hx => h x (.tail _ hx)) fun x hx => g x (.tail _ hx))
    show (M : Int) ∣ vec (plusR 1 r (sumR n rs)) i - _
    rw [plusR_vec (by rw [h r (.head _), sumR_len fun x hx => h x (.tail _ hx)]), Int.one_mul, Int.one_mul, Int.sub_self]
    exact Int.dvd_zero _
theorem same_sum {n M : Nat} {rs : List (List Int)} (h : ∀ r ∈ rs, r.length = n) : SameG n M rs (rs ++ [sumR n rs]) := .of (fun r hr => by
  rcases List.mem_append.mp hr with z | z
  · exact gen_row z
  · rw [List.mem_singleton.mp z]
    exact sumR_gen h fun x hx => gen_row hx) fun r hr => gen_row (List.mem_append_left _ hr)
theorem same_rev {n M : Nat} {rs : List (List Int)} : SameG n M rs rs.reverse := .of (fun r hr => gen_row (List.mem_reverse.mp hr)) fun r hr => gen_row (List.mem_reverse.mpr hr)
/-- _law_other_rows(pen, rows, m) -/
def spLow : Sp := fun vs H Q _ => ∃ (d c R : Addr) (cs : List Addr) (rs : List (List Int)) (nn : Int) (n M p kk : Nat), vs = [.ref d, .ref R, .int M] ∧ Pen H d c nn ∧ 0 ≤ nn ∧ nn < 800000000 ∧ ModK M p kk ∧ n ≤ 400 ∧ H R = some (.lst (cs.map V.ref)) ∧ Paired (fun (b : Addr) (x : List Int) => H b = some (.lst (x.map V.int))) cs rs ∧ (∀ x ∈ rs, x.length = n) ∧ rs.length ≤ 100 ∧
  ∀ (H' : Hp) (R' : Addr) (cs' : List Addr) (rs' : List (List Int)) (nn' : Int), DS H H' d c nn' → nn ≤ nn' → nn' ≤ nn + 6 * rs.length + 2 → H' R' = some (.lst (cs'.map V.ref)) → Paired (fun (b : Addr) (x : List Int) => H' b = some (.lst (x.map V.int))) cs' rs' → (∀ x ∈ rs', x.length = n) → rs'.length ≤ rs.length + 1 → SameG n M rs rs' → Q (.ref R') H'
end B5

/-! low: _law_other_rows -/
namespace K02
open PySem L2 Gd B5
section
variable {P : Program} {w : World} {K : PySem.W.Frag} {mg : Str → Option Value} {base : Heap} {g1 g4 f : Addr} {d1 d4 fd : FuncData}
abbrev sLow : Stmt := top 59
abbrev NLow : List Str := ["_law_pen_here", "_law_rows_here", "_law_m", "_law_p", "_law_lap", "_law_at", "_law_by", "_law_other", "_law_row", "_law_one", "_law_two", "_law_place"]
theorem scLow : FnScope NLow ["_law_pen_here", "_law_rows_here", "_law_m"] (defScope sLow) := ⟨rfl, rfl, rfl, by decide +kernel, rfl, by decide +kernel, by decide +kernel⟩
def ifBB : Stmt → List Stmt
  | .If _ b _ _ => b
  | _ => []
def arg1 : Stmt → Expr
  | .Expr (.Call _ (e :: _) _ _) _ => e
  | _ => .Constant .none 0 ⟨0, 0, 0, 0⟩
theorem ok_low (F : Fun K "_law_other_rows" "_law_other_rows" sLow f fd) (B : Blt mg) (zZip : mg "zip" = none) (zSum : mg "sum" = none) (Dr : Cl K mg "_law_draw" sDraw ["_law_pen_here", "_law_many"] g1 d1) (Pw : Cl K mg "_law_power" sLpw ["_law_m"] g4 d4) :
    FnOk P w K mg base CX0 2 f fd ["_law_pen_here", "_law_rows_here", "_law_m"] spLow := by
  have G1 : FnOk P w K mg base CX0 1 g1 d1 ["_law_pen_here", "_law_many"] spDraw := ok_draw Dr.fn B.int_ B.len_
  have GP : FnOk P w K mg base CX0 1 g4 d4 ["_law_m"] spLpw := ok_lpw Pw.fn
  refine F.ok scLow (fun vs H Q E h => ?_) (fun cdv A outer s H vs Q E hr h => ?_)
  · obtain ⟨d, c, R, cs, rs, nn, n, M, p, kk, rfl, _⟩ := h
    rfl
  · obtain ⟨d, c, R, cs, rs, nn, n, M, p, kk, rfl, pen, n0, n1, md, n400, kR, prs, wid, r100, q⟩ := h
    have hr1 : Room 1 _ := hr.mono (by decide)
    have hu64 := hr.units
    refine ⟨_, Evl.pss_cut (ps_asg (pe_tup (pa_cons (pe_lc (own := [("_law_row", 8)]) (g := gName 8) (tt := tYes) rfl scLow.nd (pi_list (pv 1)) (blkOk_by (N := NLow) (sc := defScope sLow) (by decide +kernel)) (fun _ _ _ _ _ => pg_name (i := 8) scLow.nd rfl (Or.inl rfl)) (fun _ _ _ _ _ => pts_nil)
            (fun _ _ _ _ _ => pe_callTy (r := rLof K) (call_lof rfl) (by rfl) B.list_ (by decide +kernel) (pa_cons (pv 8) pa_nil))) (pa_cons (pe_ix ix_tup (pe_call GP hr1 rfl Pw.g Pw.k Pw.b .nil pass0 (pa_cons (pv 2) pa_nil)) pe_int (fun _ _ => rfl)) pa_nil)))
          (pg_tup (by rfl) (pgs_cons (pg_name (i := 1) scLow.nd rfl (Or.inr rfl)) (pgs_cons (pg_name (i := 3) scLow.nd rfl (Or.inl rfl)) pgs_nil))))
      (Evl.pss_cut (ps_for PassesOwn.never rfl (pi_range1 (by rfl) B.range_ (pa_cons (pe_op op_mul pe_int (pe_callB call_len_seq (by rfl) B.len_ PySem.boot_len (pa_cons (pv 1) pa_nil))) pa_nil)) (pg_name (i := 4) scLow.nd rfl (Or.inl rfl))
        (pss_cons (ps_asg (pe_tup (pa_cons (pe_call G1 hr1 rfl Dr.g Dr.k Dr.b .nil pass0 (pa_cons (pv 0) (pa_cons (pe_callB call_len_seq (by rfl) B.len_ PySem.boot_len (pa_cons (pv 1) pa_nil)) pa_nil))) (pa_cons (pe_call G1 hr1 rfl Dr.g Dr.k Dr.b .nil pass0 (pa_cons (pv 0) (pa_cons (pe_op op_mul pe_int (pv 2)) pa_nil))) pa_nil)))
          (pg_tup (by rfl) (pgs_cons (pg_name (i := 5) scLow.nd rfl (Or.inl rfl)) (pgs_cons (pg_name (i := 6) scLow.nd rfl (Or.inr rfl)) pgs_nil))))
        (pss_cons (ps_set (i := 7) scLow.nd rfl (Or.inl rfl) (pe_call G1 hr1 rfl Dr.g Dr.k Dr.b .nil pass0 (pa_cons (pv 0) (pa_cons (pe_callB call_len_seq (by rfl) B.len_ PySem.boot_len (pa_cons (pv 1) pa_nil)) pa_nil))))
        (pss_one (ps_if (pt_cmpR op_ne (pv 5) (pv 7) (nomark _))
          (pss_one (ps_asg (pe_lc (own := [("_law_one", 9), ("_law_two", 10)]) (g := gTup K 2 (gCons (gName 9) (gCons (gName 10) gNil))) (tt := tYes) rfl scLow.nd (pi_zip (by rfl) zZip (pa_cons (pe_ix ix_list (pv 1) (pv 5) (fun _ _ => rfl)) (pa_cons (pe_ix ix_list (pv 1) (pv 7) (fun _ _ => rfl)) pa_nil)))
              (blkOk_by (N := NLow) (sc := defScope sLow) (by decide +kernel)) (fun _ _ _ _ _ => pg_tup rfl (pgs_cons (pg_name (i := 9) scLow.nd rfl (Or.inl rfl)) (pgs_cons (pg_name (i := 10) scLow.nd rfl (Or.inl rfl)) pgs_nil))) (fun _ _ _ _ _ => pts_nil)
              (fun _ _ _ _ _ => pe_op (r := rI0 fun i j => .int (i + j)) op_add (pv 9) (pe_op (r := rI CMul fun i j => .int (i * j)) op_mul (pv 6) (pv 10)))) (pg_sub (pv 1) (pv 5) set_list)))
          (pss_one (ps_if (pt_cmpR op_ne (pe_op (r := rI (fun _ j => 0 < j) fun i j => .int (i % j)) op_mod (pe_callTy call_int1 (by rfl) B.int_ (by decide +kernel) (pa_cons (pv 6) pa_nil)) (pv 3)) pe_int (nomark _))
            (pss_one (ps_asg (pe_lc (own := [("_law_one", 9)]) (g := gName 9) (tt := tYes) rfl scLow.nd (pi_list (pe_ix ix_list (pv 1) (pv 5) (fun _ _ => rfl)))
              (blkOk_by (N := NLow) (sc := defScope sLow) (by decide +kernel)) (fun _ _ _ _ _ => pg_name (i := 9) scLow.nd rfl (Or.inl rfl)) (fun _ _ _ _ _ => pts_nil)
              (fun _ _ _ _ _ => pe_op (r := rI CMul fun i j => .int (i * j)) op_mul (pv 6) (pv 9))) (pg_sub (pv 1) (pv 5) set_list))) pss_nil)))))))
      (Evl.pss_cut (ps_if (PW.pt (pw_and (pt_cmpR (op_neD hu64) (pv 1) (pe_lst pa_nil) (nomark _)) (pw_and1 (pt_cmpR op_eq (pe_call G1 hr1 rfl Dr.g Dr.k Dr.b .nil pass0 (pa_cons (pv 0) (pa_cons pe_int pa_nil))) pe_int (nomark _)))))
          (pss_one (ps_expr (pe_bm PySem.F.plainAttrs_list PySem.F.slot_list_append PySem.F.type_list_append mt_append (pv 1) (pa_cons
            (pe_lc (own := [("_law_place", 11)]) (g := gName 11) (tt := tYes) rfl scLow.nd (pi_range1 (by rfl) B.range_ (pa_cons (pe_callB call_len_seq (by rfl) B.len_ PySem.boot_len (pa_cons (pe_ix ix_list (pv 1) pe_int (fun _ _ => rfl)) pa_nil)) pa_nil))
              (blkOk_by (N := NLow) (sc := defScope sLow) (by decide +kernel)) (fun _ _ _ _ _ => pg_name (i := 11) scLow.nd rfl (Or.inr rfl)) (fun _ _ _ _ _ => pts_nil)
              (fun _ _ _ _ _ => by exact pe_callB (id := "sum") (r := rSum K) (cr_sum rfl) (by rfl) zSum (by decide +kernel) (pa_cons (pe_lc (own := [("_law_row", 8)]) (g := gName 8) (tt := tYes) (wi := iList K (tVar 1)) rfl scLow.nd (by exact pi_list (pv 1))
                (blkOk_by (N := NLow) (sc := relabel (lcScB (arg1 ((ifBB ((defBody sLow).getD 2 (.Pass ⟨0, 0, 0, 0⟩))).getD 0 (.Pass ⟨0, 0, 0, 0⟩)))) (PyProof.Rows.envOfC "_law_other_rows" (defScope sLow) 0 0 .none)) (by decide +kernel))
                (fun _ _ _ _ _ => pg_name (i := 8) scLow.nd rfl (Or.inl rfl)) (fun _ _ _ _ _ => pts_nil)
                (fun _ _ _ _ _ => by exact pe_ix (r := rIxL K) ix_list (pv 8) (pv 11) (fun _ _ => rfl))) pa_nil))) pa_nil)))) pss_nil)
      (pss_one (ps_ret (pe_ifExp (pt_cmpR op_eq (pe_call G1 hr1 rfl Dr.g Dr.k Dr.b .nil pass0 (pa_cons (pv 0) (pa_cons pe_int pa_nil))) pe_int (nomark _)) (pe_revL (pv 1)) (pv 1)))))), ?_⟩
    obtain ⟨M2, M27, pr, _⟩ := md.mod.facts
    have p2 := md.two
    have p7 : p ≤ 7 := (isPr_small pr).2 |> fun h => by omega
    have cl : cs.length = rs.length := Paired.length prs
    obtain ⟨Lr, hLr⟩ : ∃ Lr, Lr = rs.length := ⟨_, rfl⟩
    refine ⟨fun σ' H' => ∃ (R2 : Addr) (cs2 : List Addr), σ' = [some (.ref d), some (.ref R2), some (.int M), some (.int p), none, none, none, none, none, none, none, none] ∧ RI H H' d c R2 n Lr cs2 rs nn, ?_, ?_⟩
    · refine ⟨_, rfl, R, rfl, ⟨_, SqL.of kR⟩, fun D hD => ?_⟩
      refine lc_rel (n := 8) (D := D) (H1 := H) (walk_list (xs := cs.map V.ref)) (fun i v H' => ∃ (x : List Int), rs[i]? = some x ∧ ∃ b : Addr, v = .ref b ∧ H' b = some (.lst (x.map V.int)) ∧ H b = none) (fun i v H' H'' m ⟨x, e1, b, e2, e3, e4⟩ => ⟨x, e1, b, e2, m _ _ e3, e4⟩) hD (fun H' m => SqL.of (m _ _ kR)) (by rw [List.length_map]; omega) (fun _ => rfl) ?_ ?_
      · intro i y H7 Q7 hy m7 m7' ⟨l0, hl0⟩ q7
        obtain ⟨b0, hb0, rfl⟩ := map_at hy
        obtain ⟨x, hx, kx⟩ := paired_at prs hb0
        refine ⟨_, rfl, b0, _, rfl, .inl (SqL.of (m7 _ _ kx)), fun l hl => q7 _ _ (new_more hl) ⟨x, hx, l, rfl, ?_, gone_more m7 hl⟩⟩
        rw [del_ne (ne_of_none hl0 hl).symm, upd_same]
      · intro H7 G rs' rl mG mH nG al hD7
        have prs' : Paired (fun v x => ∃ b : Addr, v = .ref b ∧ (H7 b = some (.lst (x.map V.int)) ∧ H b = none ∧ b ≠ D)) rs' rs := paired_of (by rw [rl, List.length_map, cl]) fun i x y hx hy => by
          obtain ⟨x', e1, b, e2, e3, e4⟩ := al i x hx
          rw [hy] at e1
          cases e1
          exact ⟨b, e2, mH _ _ e3, e4, fun e => by rw [e, nG] at e3; cases e3⟩
        obtain ⟨cs2, ecs, pcs⟩ := refs_ofG prs'
        have m7 : More H H7 := fun b o e => mH _ _ (mG _ _ e)
        have S7 := (DS.refl pen).more m7
        have I7 : RI H H7 d c D n Lr cs2 rs nn := ⟨S7, hD, by rw [hD7, ecs], paired_imp (fun _ _ h => h.1) pcs, fun b hb => by
          obtain ⟨j, hj⟩ := List.getElem?_of_mem hb
          obtain ⟨_, _, h⟩ := paired_at pcs hj
          exact ⟨h.2.2, h.2.1⟩, hLr.symm, wid⟩
        refine ⟨_, rfl, M, p, kk, rfl, md, fun G0 t m0 ht => ⟨t, _, ((0 : Nat) : Int), _, rfl, rfl, SqT.of ht, atI_nat rfl, by show 2 ≤ sizeLine; decide, fun t2 ht2 => ?_⟩⟩
        have m2 := new_more (o := .tup [.ref D, .int p]) ht2
        refine ⟨t2, _, rfl, SqT.of upd_same, rfl, _, _, rfl, _, _, rfl, rfl, D, cs2, rfl, ?_⟩
        have mf : More H7 (upd G0 t2 (.tup [.ref D, .int p])) := fun b o e => m2 _ _ (m0 _ _ e)
        exact ⟨I7.ds.more mf, hD, mf _ _ I7.kR, paired_imp (fun _ _ h => mf _ _ h) I7.rows, I7.new, I7.len, wid⟩
    rintro σ1 G1 ⟨R2, cs2, rfl, I1⟩
    have Rd := DS.ne pen I1.nR
    refine ⟨fun σ' H' => ∃ (cs' : List Addr) (rs' : List (List Int)) (n' : Int) (z4 z5 z6 z7 : Option V), σ' = [some (.ref d), some (.ref R2), some (.int M), some (.int p), z4, z5, z6, z7, none, none, none, none] ∧ RI H H' d c R2 n Lr cs' rs' n' ∧ SameG n M rs rs' ∧ nn ≤ n' ∧ n' ≤ nn + 6 * Lr, ?_, ?_⟩
    · refine ⟨_, rfl, R2, _, rfl, .inl (SqL.of I1.kR), _, _, rfl, rfl, .inl ⟨by decide, by decide⟩, ?_⟩
      rw [List.length_map, Paired.length I1.rows, I1.len]
      refine ⟨_, rfl, by omega, by omega, ?_⟩
      rw [show ((2 : Int) * (Lr : Int)).toNat = 2 * Lr by omega]
      refine for_range (lo := 0) (n := 2 * Lr) (fun i σ' H' => ∃ (cs' : List Addr) (rs' : List (List Int)) (n' : Int) (z4 z5 z6 z7 : Option V), σ' = [some (.ref d), some (.ref R2), some (.int M), some (.int p), z4, z5, z6, z7, none, none, none, none] ∧ RI H H' d c R2 n Lr cs' rs' n' ∧ SameG n M rs rs' ∧ nn ≤ n' ∧ n' ≤ nn + 3 * i)
        ⟨cs2, rs, nn, _, _, _, _, rfl, I1, SameG.refl, by omega, by omega⟩ ?_ ?_
      · rintro i σ' H1 hi ⟨cs', rs', n', z4, z5, z6, z7, rfl, I, sg, b1, b2⟩
        have L0 : 0 < Lr := by omega
        have cl' : (cs'.map V.ref).length = Lr := by rw [List.length_map, Paired.length I.rows, I.len]
        have at_row : ∀ {a : Nat}, a < Lr → ∃ (b : Addr) (x : List Int), cs'[a]? = some b ∧ rs'[a]? = some x ∧ x.length = n ∧ H1 b = some (.lst (x.map V.int)) ∧ b ≠ d := fun {a} ha => by
          have h1 : cs'[a]? = some (cs'[a]'(by rw [← cl', List.length_map] at ha; exact ha)) := List.getElem?_eq_getElem _
          obtain ⟨x, hx, kx⟩ := paired_at I.rows h1
          exact ⟨_, x, h1, hx, I.wid x (List.mem_of_getElem? hx), kx, DS.ne pen (I.new _ (List.mem_of_getElem? h1)).2⟩
        refine ⟨_, rfl, _, rfl, R2, _, rfl, .inl (SqL.of I.kR), ?_⟩
        rw [cl']
        refine ⟨d, c, n', (Lr : Int), rfl, I.ds.pen, by omega, by omega, by omega, by omega, fun ra Ga ra0 ra1 dra => ?_⟩
        have Sa := (DS.refl I.ds.pen).draw dra
        refine ⟨_, rfl, _, rfl, _, _, rfl, rfl, .inl ⟨by decide, by decide⟩, d, c, n' + 1, 3 * (M : Int), rfl, Sa.pen, by omega, by omega, by omega, by omega, fun by_ Gb by0 by1 drb => ⟨by show 2 ≤ sizeLine; decide, fun t ht => ?_⟩⟩
        have mt := new_more (o := .tup [.int ra, .int by_]) ht
        have Sb := (Sa.draw drb).more mt
        have tt : (upd Gb t (.tup [.int ra, .int by_])) t = some (.tup [.int ra, .int by_]) := upd_same
        generalize upd Gb t (.tup [.int ra, .int by_]) = Gc at Sb tt ⊢
        have kRc := Sb.off _ _ I.kR Rd
        refine ⟨t, _, rfl, SqT.of tt, rfl, _, _, rfl, _, _, rfl, rfl, _, rfl, _, rfl, R2, _, rfl, .inl (SqL.of kRc), ?_⟩
        rw [cl']
        refine ⟨d, c, n' + 1 + 1, (Lr : Int), rfl, Sb.pen, by omega, by omega, by omega, by omega, fun ro Gd ro0 ro1 drd => ?_⟩
        have Sd := Sb.draw drd
        have kRd := Sd.off _ _ I.kR Rd
        obtain ⟨na, rfl⟩ : ∃ na : Nat, ra = (na : Int) := ⟨ra.toNat, (Int.toNat_of_nonneg ra0).symm⟩
        obtain ⟨no, rfl⟩ : ∃ no : Nat, ro = (no : Int) := ⟨ro.toNat, (Int.toNat_of_nonneg ro0).symm⟩
        obtain ⟨nb, rfl⟩ : ∃ nb : Nat, by_ = (nb : Int) := ⟨by_.toNat, (Int.toNat_of_nonneg by0).symm⟩
        obtain ⟨ba, xa, hba, hxa, lxa, kxa, bad⟩ := at_row (a := na) (by omega)
        obtain ⟨bo, xo, hbo, hxo, lxo, kxo, bod⟩ := at_row (a := no) (by omega)
        have kxa' := Sd.off _ _ kxa bad
        have kxo' := Sd.off _ _ kxo bod
        have ata : atI (cs'.map V.ref) (na : Int) = some (.ref ba) := atI_nat (by rw [List.getElem?_map, hba]; rfl)
        have ato : atI (cs'.map V.ref) (no : Int) = some (.ref bo) := atI_nat (by rw [List.getElem?_map, hbo]; rfl)
        have setR2 : ∀ (x : List Int) (D : Addr) (G : Hp), More Gd G → H1 D = none → G D = some (.lst (x.map V.int)) → x.length = n → SameG n M rs (rs'.set na x) → ∃ (pp : Addr) (xs : List V) (k : Int) (j : Nat), V.ref R2 = .ref pp ∧ V.int (na : Int) = .int k ∧ G pp = some (.lst xs) ∧ ixN xs.length k = some j ∧
            ∃ (cs' : List Addr) (rs' : List (List Int)) (n' : Int) (z4 z5 z6 z7 : Option V), [some (V.ref d), some (.ref R2), some (.int M), some (.int (p : Int)), some (.int (0 + (i : Int))), some (.int (na : Int)), some (.int (nb : Int)), some (.int (no : Int)), none, none, none, none] = [some (.ref d), some (.ref R2), some (.int M), some (.int (p : Int)), z4, z5, z6, z7, none, none, none, none] ∧ RI H (upd G pp (.lst (xs.set j (.ref D)))) d c R2 n Lr cs' rs' n' ∧ SameG n M rs rs' ∧ nn ≤ n' ∧ n' ≤ nn + 3 * ((i + 1 : Nat) : Int) := fun x D G m nD kD lx sg' => by
          have I2 := I.put (a := na) pen (Sd.more m) nD kD lx
          rw [List.map_set] at I2
          exact ⟨R2, _, _, na, rfl, rfl, m _ _ kRd, Evl.ixN_nat (by rw [cl']; omega), _, _, _, _, _, _, _, rfl, I2, sg', by omega, by omega⟩
        refine ⟨_, rfl, _, rfl, rfl, _, rfl, ?_⟩
        by_cases ne : na = no
        · rw [show decide (V.int (na : Int) = V.int (no : Int)) = true from decide_eq_true (by rw [ne])]
          refine iteF ⟨_, rfl, .inl ⟨_, rfl, _, rfl, _, _, rfl, rfl, by omega, rfl, _, rfl, ?_⟩⟩
          show if (!decide (V.int ((nb : Int) % (p : Int)) = V.int 0)) = true then _ else _
          by_cases dv : p ∣ nb
          · rw [show decide (V.int ((nb : Int) % (p : Int)) = V.int 0) = true from decide_eq_true (by rw [Int.emod_eq_zero_of_dvd (Int.natCast_dvd_natCast.mpr dv)])]
            exact iteF ⟨cs', rs', _, _, _, _, _, rfl, I.to pen Sd, sg, by omega, by omega⟩
          · rw [show decide (V.int ((nb : Int) % (p : Int)) = V.int 0) = false from decide_eq_false (fun e => dv (by
              have e := V.int.inj e
              exact Int.natCast_dvd_natCast.mp (Int.dvd_of_emod_eq_zero e)))]
            refine iteT ⟨_, rfl, _, rfl, R2, _, _, _, rfl, rfl, SqL.of kRd, ata, ba, rfl, ⟨_, SqL.of kxa'⟩, fun D hD => ?_⟩
            refine lc_name (n := 9) (D := D) (H1 := Gd) (xs := xa.map V.int) (rs := (timesL nb xa).map V.int) walk_list hD (fun H' m => SqL.of (m _ _ kxa')) (by unfold timesL; rw [List.length_map, List.length_map, List.length_map]) (by rw [List.length_map, lxa]; omega) (fun _ => rfl) ?_ ?_
            · intro u y v G' Qv hy hv m qv
              obtain ⟨x, ex, rfl⟩ := map_at hy
              unfold timesL at hv
              rw [List.map_map, List.getElem?_map, ex] at hv
              cases hv
              exact ⟨_, rfl, _, rfl, _, _, rfl, rfl, .inl ⟨by omega, by omega⟩, qv G' fun _ _ e => e⟩
            · intro G kD m
              refine ⟨_, rfl, _, rfl, ?_⟩
              exact setR2 _ D G m (Sd.gone I.ds.pen hD) kD (by unfold timesL; rw [List.length_map, lxa]) (sg.trans (same_unit md dv hxa))
        · rw [show decide (V.int (na : Int) = V.int (no : Int)) = false from decide_eq_false (fun e => ne (by have := V.int.inj e; omega))]
          refine iteT ⟨_, rfl, _, rfl, R2, _, _, _, rfl, rfl, SqL.of kRd, ata, _, rfl, _, rfl, R2, _, _, _, rfl, rfl, SqL.of kRd, ato, ba, bo, _, _, rfl, SqL.of kxa', SqL.of kxo', fun D hD => ?_⟩
          refine lc_zipI (xs := xa) (ys := xo) (zs := plusR (nb : Int) xa xo) (n := n) (walk_zip (by rw [List.length_map, List.length_map, lxa, lxo, Nat.min_self])) hD (fun H2 m2 => ⟨SqL.of (m2 _ _ kxa'), SqL.of (m2 _ _ kxo')⟩) (plusR_len lxa lxo) (by omega) (fun _ _ => rfl) (fun u c' d' e' H2 Q2 hc hd' he m2 q2 => ?_) (fun H2 hl m2 => ?_)
          · rw [plusR_some hc hd'] at he
            cases he
            exact ⟨_, rfl, _, rfl, _, rfl, _, _, rfl, rfl, .inl ⟨by omega, by omega⟩, _, _, rfl, rfl, q2 H2 fun _ _ e => e⟩
          · refine ⟨_, rfl, _, rfl, ?_⟩
            exact setR2 _ D H2 m2 (Sd.gone I.ds.pen hD) hl (plusR_len lxa lxo) (sg.trans (same_plus (nb : Int) hxa hxo ne lxa lxo))
      · rintro σ' H' ⟨cs', rs', n', z4, z5, z6, z7, rfl, I, sg, b1, b2⟩
        exact ⟨cs', rs', n', _, _, _, _, rfl, I, sg, b1, by omega⟩
    rintro σ2 G2 ⟨cs', rs', n', z4, z5, z6, z7, rfl, I, sg, b1, b2⟩
    -- the sum
    refine ⟨fun σ' H' => ∃ (cs' : List Addr) (rs' : List (List Int)) (n' : Int), σ' = [some (.ref d), some (.ref R2), some (.int M), some (.int p), z4, z5, z6, z7, none, none, none, none] ∧ RI H H' d c R2 n rs'.length cs' rs' n' ∧ rs'.length ≤ Lr + 1 ∧ SameG n M rs rs' ∧ nn ≤ n' ∧ n' ≤ nn + 6 * Lr + 1, ?_, ?_⟩
    · refine ⟨_, rfl, by show 0 ≤ sizeLine; exact Nat.zero_le _, fun e1 he1 => ?_⟩
      have me := new_more (o := .lst []) he1
      have ke : (upd G2 e1 (.lst [])) e1 = some (.lst []) := upd_same
      have Ie := I.to pen ((DS.refl I.ds.pen).more me)
      generalize upd G2 e1 (.lst []) = G at ke Ie ⊢
      clear me he1
      refine ⟨_, _, dp_LLp (SqL.of Ie.kR) Ie.rows, dp_nilL ke, shaped_LL _, shaped_LL _, _, rfl, ?_⟩
      show if (!PyData.eqv (dLL rs') (dLL [])) = true then _ else _
      rw [eqv_LL]
      have el := I.len
      by_cases rn : rs' = []
      · rw [decide_eq_true rn]
        exact iteF (iteF ⟨cs', rs', n', rfl, by rw [el]; exact Ie, by omega, sg, by omega, by omega⟩)
      rw [decide_eq_false rn]
      refine iteT ⟨_, rfl, d, c, n', 2, rfl, Ie.ds.pen, by decide, by decide, by omega, by omega, fun r G' r0 r1 dr => ⟨rfl, _, rfl, ite2 (fun _ => ?_) (fun _ => ?_)⟩⟩
      · have If := Ie.to pen ((DS.refl Ie.ds.pen).draw dr)
        have rl : 0 < rs'.length := List.length_pos_iff.mpr rn
        have cl2 : cs'.length = rs'.length := Paired.length If.rows
        have h0 : cs'[0]? = some (cs'[0]'(by omega)) := List.getElem?_eq_getElem _
        obtain ⟨x0, hx0, kx0⟩ := paired_at If.rows h0
        have lx0 := If.wid x0 (List.mem_of_getElem? hx0)
        refine ⟨_, rfl, .inl ⟨rfl, _, SqL.of If.kR⟩, _, rfl, R2, _, ((0 : Nat) : Int), _, rfl, rfl, SqL.of If.kR, atI_nat (by rw [List.getElem?_map, h0]; rfl), cs'[0], _, rfl, .inl (SqL.of kx0), ?_⟩
        rw [List.length_map, lx0]
        refine ⟨_, rfl, by omega, by omega, fun D hD => ?_⟩
        rw [Int.toNat_natCast]
        have lsum := sumR_len If.wid
        refine lc_range (lo := 0) (n := n) (fun j G3 => G3 D = some (.lst (((sumR n rs').take j).map V.int)) ∧ More G' G3) ⟨upd_same, new_more hD⟩ ?_ ?_
        · rintro j G3 hj ⟨kD, m⟩
          refine ⟨rfl, _, rfl, R2, rfl, ⟨_, SqL.of (m _ _ If.kR)⟩, fun E1 hE1 => ?_⟩
          refine lc_name (n := 8) (D := E1) (H1 := G3) (xs := cs'.map V.ref) (rs := (rs'.map fun x => x.getD j 0).map V.int) walk_list hE1 (fun H' m' => SqL.of (m' _ _ (m _ _ If.kR))) (by rw [List.length_map, List.length_map, List.length_map, cl2]) (by rw [List.length_map]; omega) (fun _ => rfl) ?_ ?_
          · intro u y v G5 Qv hy hv m5 qv
            obtain ⟨b, hb, rfl⟩ := map_at hy
            obtain ⟨x, hx, kx⟩ := paired_at If.rows hb
            rw [List.map_map, List.getElem?_map, hx] at hv
            cases hv
            have lx := If.wid x (List.mem_of_getElem? hx)
            exact ⟨_, rfl, _, rfl, b, _, _, _, rfl, rfl, SqL.of (m5 _ _ (m _ _ kx)), at_of (j := j) (by omega) (getV_some (by omega)), qv G5 fun _ _ e => e⟩
          · intro G5 kE m5
            refine ⟨E1, _, rfl, SqL.of kE, _, m5 _ _ kD, by rw [List.length_map, List.length_take]; exact small1000 (by omega), ?_, More.at (fun b o e => m5 _ _ (m _ _ e)) hD⟩
            rw [upd_same, List.take_succ, get_some (show j < (sumR n rs').length by omega), sumR_get If.wid, List.map_append]
            rfl
        · rintro G3 ⟨kD, m⟩
          rw [List.take_of_length_le (Nat.le_of_eq lsum)] at kD
          have If3 := If.to pen ((DS.refl If.ds.pen).more m)
          refine ⟨R2, _, _, rfl, rfl, If3.kR, by rw [List.length_map]; exact small1000 (by omega), ?_⟩
          have I5 := If.snoc pen ((DS.refl If.ds.pen).more m) hD kD lsum
          rw [List.map_append] at I5
          refine ⟨_, _, n' + 1, rfl, by rw [List.length_append, List.length_singleton, el]; exact I5, by rw [List.length_append, List.length_singleton]; omega, sg.trans (same_sum If.wid), by omega, by omega⟩
      · exact ⟨cs', rs', n' + 1, rfl, by rw [el]; exact Ie.to pen ((DS.refl Ie.ds.pen).draw dr), by omega, sg, by omega, by omega⟩
    clear I sg b1 b2
    rintro σ3 G3 ⟨cs', rs', n', rfl, I, ll, sg, b1, b2⟩
    refine ⟨_, rfl, d, c, n', 2, rfl, I.ds.pen, by decide, by decide, by omega, by omega, fun r G4 r0 r1 dr => ⟨rfl, _, rfl, ite2 (fun _ => ?_) (fun _ => ?_)⟩⟩
    · have S := (DS.refl I.ds.pen).draw dr
      have I4 := I.to pen S
      refine ⟨_, rfl, R2, _, rfl, SqL.of I4.kR, fun p1 hp1 => ?_⟩
      have mp := new_more (o := .lst (cs'.map V.ref).reverse) hp1
      refine q _ p1 cs'.reverse rs'.reverse (n' + 1) (I4.ds.more mp) (by omega) (by omega) (by rw [upd_same, List.map_reverse]) (paired_rvs (paired_imp (fun _ _ h => mp _ _ h) I4.rows)) (fun x hx => I.wid x (List.mem_reverse.mp hx)) (by rw [List.length_reverse]; omega) (sg.trans same_rev)
    · have S := (DS.refl I.ds.pen).draw dr
      have I4 := I.to pen S
      exact ⟨_, rfl, q G4 R2 cs' rs' (n' + 1) I4.ds (by omega) (by omega) I4.kR I4.rows I.wid (by omega) sg⟩
end
end K02

namespace K02
open PySem L2 Gd B5
section
variable {P : Program} {w : World} {K : PySem.W.Frag} {mg : Str → Option Value} {base : Heap}
abbrev sIw : Stmt := top 46
theorem scIw : FnScope ["_law_value"] ["_law_value"] (defScope sIw) := ⟨rfl, rfl, rfl, by decide +kernel, rfl, by decide +kernel, by decide +kernel⟩
theorem ok_iw {f : Addr} {fd : FuncData} (F : Fun K "_law_is_whole" "_law_is_whole" sIw f fd) (mIsi : mg "isinstance" = none) (mInt : mg "int" = none) (mBool : mg "bool" = none) : FnOk P w K mg base CX0 1 f fd ["_law_value"] (spIsI K) := by
  refine F.ok scIw (fun vs H Q E h => ?_) (fun cdv A outer s H vs Q E hr h => ?_)
  · obtain ⟨x, rfl, _⟩ := h
    rfl
  · obtain ⟨x, rfl, h⟩ := h
    refine ⟨_, pss_one (ps_ret (pe_and (pe_callB call_isi (by rfl) mIsi (by decide +kernel) (pa_cons (pv 0) (pa_cons (pe_bltn (v := .ty "int") rfl mInt (by decide +kernel) rfl) pa_nil)))
      (pe_one (pe_not (pe_callB call_isi (by rfl) mIsi (by decide +kernel) (pa_cons (pv 0) (pa_cons (pe_bltn (v := .ty "bool") rfl mBool (by decide +kernel) rfl) pa_nil))))))), ?_⟩
    obtain ⟨i, rfl, q⟩ | ⟨⟨n, hn, t⟩, q⟩ | ⟨t, ty, kt, q⟩ := h
    · refine ⟨_, rfl, _, _, _, _, _, rfl, .ty "int", .base (.int i), kit_ty on_int.1, _, rfl, iteT ?_⟩
      exact ⟨_, rfl, _, _, _, _, _, rfl, .ty "bool", .base (.int i), kit_ty on_int.2, _, rfl, q⟩
    · obtain ⟨k1, k2⟩ := off_int n hn
      refine ⟨_, rfl, _, _, _, _, _, rfl, .ty "int", t, kit_ty k1, _, rfl, ite2 (fun z => ?_) (fun z => q)⟩
      refine ⟨_, rfl, _, _, _, _, _, rfl, .ty "bool", t, kit_ty k2, _, rfl, ?_⟩
      rw [z]
      exact q
    · exact ⟨_, rfl, _, _, _, _, _, rfl, .ty "int", ty, kt, _, rfl, iteF q⟩
end
end K02

/-! LawV: the form's text. -/
namespace B5
open PySem L2 Gd
theorem small_show {i : Int} (h : 0 ≤ i ∧ i < 27) : PyData.showable (.int i) = true ∧ (PyData.shown (.int i)).length ≤ 2000 := by
  have big : i.natAbs.log2 < 1920 := by
    by_cases z : i.natAbs = 0
    · rw [z]; decide
    · have : i.natAbs < 2 ^ 1920 := Nat.lt_trans (show i.natAbs < 27 by omega) (by decide +kernel)
      exact (Nat.log2_lt z).mpr this
  refine ⟨by simp only [PyData.showable]; exact decide_eq_true big, ?_⟩
  have := PyProof.Rows.int_text_len_1921 big
  simp only [PyData.shown]
  exact Nat.le_trans this (by decide)
theorem show_ints : ∀ {r : List Int}, (∀ i ∈ r, 0 ≤ i ∧ i < 27) → PyData.showableAll (r.map PyData.int) = true ∧ PyData.leavesShortAll 2000 (r.map PyData.int) = true ∧ PyData.bulkAll (r.map PyData.int) ≤ 5 * r.length
  | [], _ => by simp [PyData.showableAll, PyData.leavesShortAll, PyData.bulkAll]
  | i :: r, hh => by
    obtain ⟨a1, a3, a4⟩ := show_ints (r := r) fun j hj => hh j (.tail _ hj)
    obtain ⟨s1, s2⟩ := small_show (hh i (.head _))
    refine ⟨?_, ?_, ?_⟩
    · simp only [List.map_cons, PyData.showableAll, s1, a1, Bool.and_self]
    · simp only [List.map_cons, PyData.leavesShortAll, PyData.leavesShort, a3, Bool.and_true]
      exact decide_eq_true s2
    · simp only [List.map_cons, PyData.bulkAll, PyData.bulk, List.length_cons]
      omega
theorem show_rows {n : Nat} : ∀ {l : List (List Int)}, (∀ r ∈ l, r.length ≤ n ∧ ∀ i ∈ r, 0 ≤ i ∧ i < 27) → PyData.showableAll (l.map dI) = true ∧ PyData.leavesShortAll 2000 (l.map dI) = true ∧ PyData.bulkAll (l.map dI) ≤ (5 * n + 10) * l.length
  | [], _ => by simp [PyData.showableAll, PyData.leavesShortAll, PyData.bulkAll]
  | r :: l, hh => by
    obtain ⟨a1, a3, a4⟩ := show_rows (l := l) fun j hj => hh j (.tail _ hj)
    obtain ⟨h1, h2⟩ := hh r (.head _)
    obtain ⟨s1, s2, s3⟩ := show_ints h2
    refine ⟨?_, ?_, ?_⟩
    · simp only [List.map_cons, PyData.showableAll, dI, PyData.showable, s1, a1, Bool.and_self]
    · simp only [List.map_cons, PyData.leavesShortAll, dI, PyData.leavesShort, s2, a3, Bool.and_self]
    · simp only [List.map_cons, PyData.bulkAll, dI, PyData.bulk, List.length_cons]
      rw [Nat.mul_succ]
      have : 5 * r.length ≤ 5 * n := Nat.mul_le_mul_left _ h1
      omega
/-- the text of a form: it can be told, it is short -/
theorem show_R {n : Nat} {l : List (List Int)} (h : ∀ r ∈ l, r.length ≤ n ∧ ∀ i ∈ r, 0 ≤ i ∧ i < 27) (n20 : n ≤ 20) (l20 : l.length ≤ 20) : (dR l).showable = true ∧ (dR l).depth ≤ 60 ∧ (dR l).shown.length ≤ sizeLine := by
  obtain ⟨a1, a3, a4⟩ := show_rows h
  have dp := dep_rows l
  refine ⟨by unfold dR; simp only [PyData.showable]; exact a1, by unfold dR; simp only [PyData.depth]; omega, ?_⟩
  have q := PyData.shown_le_bulk 2000 (by decide) (dR l) (by unfold dR; simp only [PyData.leavesShort]; exact a3)
  refine Nat.le_trans q ?_
  have b : (5 * n + 10) * l.length ≤ 110 * 20 := Nat.mul_le_mul (by omega) l20
  have : (dR l).bulk ≤ 2300 := by
    unfold dR
    simp only [PyData.bulk]
    omega
  have : (2000 + 2) * (dR l).bulk ≤ (2000 + 2) * 2300 := Nat.mul_le_mul_left _ this
  rw [sizeLine_eq]
  omega
theorem shaped_T3 (a b : Int) (l : List (List Int)) : SeqAt.shaped (.tuple [.int a, .int b, dR l]) = true := by
  unfold SeqAt.shaped
  have := dep_rows l
  have e : (PyData.tuple [.int a, .int b, dR l]).canLay0 = true := by unfold dR; simp only [PyData.canLay0, PyData.canLayAll0, lay_rows, Bool.and_self]
  rw [e, Bool.true_and, decide_eq_true_eq]
  unfold dR
  simp only [PyData.depth, PyData.depthAll]
  omega
theorem eqv_T3 (a b : Int) (l : List (List Int)) : PyData.eqv (.tuple [.int a, .int b, dR l]) (.tuple [.int a, .int b, dR l]) = true := by
  simp [PyData.eqv, PyData.eqvAll, eqv_R]
theorem tups_R {K : PySem.W.Frag} {H : Hp} {ts : List Addr} {l : List (List Int)} (h : Paired (fun (b : Addr) (r : List Int) => H b = some (.tup (r.map V.int))) ts l) : Paired (B5.TupI K H) (ts.map V.ref) l := paired_mapL (paired_imp (fun b r e => ⟨b, rfl, SqT.of e⟩) h)
theorem formL_len {n : Nat} {ks : List Nat} {row : Nat → List Int} : (formL n ks row).length ≤ n := by
  unfold formL
  rw [List.length_map]
  exact Nat.le_trans (List.length_filter_le _ _) (by rw [List.length_range]; exact Nat.le_refl _)
theorem formL_show {n M : Nat} {ks : List Nat} {row : Nat → List Int} (M27 : M ≤ 27) (n20 : n ≤ 20) (p : Piv n M ks row) : (dR (formL n ks row)).showable = true ∧ (dR (formL n ks row)).depth ≤ 60 ∧ (dR (formL n ks row)).shown.length ≤ sizeLine := by
  refine show_R (n := n) (fun r hr => ?_) n20 (Nat.le_trans formL_len n20)
  unfold formL at hr
  obtain ⟨k, hk, rfl⟩ := List.mem_map.mp hr
  have hk := of_decide_eq_true (List.mem_filter.mp hk).2
  exact ⟨Nat.le_of_eq (p.len k hk), fun i hi => by have := p.rest k hk i hi; exact ⟨this.1, by omega⟩⟩
theorem LotLeast.ofGood {M n p : Nat} {ks : List Nat} {row : Nat → List Int} {R : Lat.Vec → Prop} {S : Int} {L : Nat} (h : LGood M n p ks row R S L) : LotLeast n M p (hOf M ks row) L := by
  obtain ⟨g, Gg, sg, e⟩ := h.least
  refine ⟨g, Gg, fun u => (sg u).trans ⟨Lat.fold_into fun r hr => (h.good.gen r).mp ((h.same r).mpr (.row hr)), Lat.fold_into fun r hr => (h.same r).mp ((h.good.gen r).mpr (.row hr))⟩, by rw [← h.size]; exact e⟩
/-- _law_right(told, lot): true for one and the same lot -/
def spLrt (K : PySem.W.Frag) (C : Addr) : Sp := fun vs H Q _ => ∃ (x a r : Addr) (M n p kk : Nat) (ks ks1 : List Nat) (bs : Nat → Addr) (row row1 : Nat → List Int) (R : Lat.Vec → Prop) (S : Int) (L : Nat), vs = [.ref x, .ref a] ∧ ModK M p kk ∧ n ≤ 20 ∧ LAt K H C x M n ks1 row1 S L ∧ LGood M n p ks1 row1 R S L ∧
  LawLot H a r n M p kk ks bs row ∧ Lat.Good n M (hOf M ks row) ∧ (∀ u, Lat.Mem n (hOf M ks row) n u ↔ Lat.Gen n M R u) ∧ ∀ H', More H H' → Q (.bl true) H'
end B5

/-! lrt: _law_right -/
namespace K02
open PySem L2 Gd B5
section
variable {P : Program} {w : World} {K : PySem.W.Frag} {mg : Str → Option Value} {base : Heap} {C g1 g2 g3 g4 f : Addr} {d1 d2 d3 d4 fd : FuncData}
abbrev sLrt : Stmt := top 60
theorem scLrt : FnScope ["_law_told", "_law_lot_here"] ["_law_told", "_law_lot_here"] (defScope sLrt) := ⟨rfl, rfl, rfl, by decide +kernel, rfl, by decide +kernel, by decide +kernel⟩
theorem ok_lrt (F : Fun K "_law_right" "_law_right" sLrt f fd) (B : Blt mg) (Z : LotK K mg C) (zRepr : mg "repr" = none) (Fo : Cl K mg "_law_form" sLfo ["_law_lot_here"] g1 d1) (GF : FnOk P w K mg base CX0 1 g1 d1 ["_law_lot_here"] spLfo) (Ls : Cl K mg "_law_lot_size" sLls ["_law_lot_here"] g2 d2)
    (Lm : Cl K mg "_law_lot_least" sLlm ["_law_lot_here"] g3 d3) (GM : FnOk P w K mg base CX0 5 g3 d3 ["_law_lot_here"] spLlm) (Iw : Cl K mg "_law_is_whole" sIw ["_law_value"] g4 d4) : FnG P w K mg base CX0 6 f fd ["_law_told", "_law_lot_here"] (spLrt K C) := by
  have GS : FnOk P w K mg base CX0 1 g2 d2 ["_law_lot_here"] spLls := ok_lls Ls.fn
  have GW : FnOk P w K mg base CX0 1 g4 d4 ["_law_value"] (spIsI K) := ok_iw Iw.fn B.isi_ B.int_ B.bool_
  refine okG F scLrt (fun vs H Q E h => ?_) (fun cdv A outer s H vs Q E hgd hr h => ?_)
  · obtain ⟨x, a, r, M, n, p, kk, ks, ks1, bs, row, row1, R, S, L, rfl, _⟩ := h
    rfl
  · obtain ⟨x, a, r, M, n, p, kk, ks, ks1, bs, row, row1, R, S, L, rfl, md, n20, la, lg, LL, good, same, q⟩ := h
    have hu := hu_of hr
    have hu64 := hr.units
    have hr1 : Room 1 _ := hr.mono (by decide)
    refine ⟨_, pss_cons (ps_if (pt_cmpR (op_neD hu64) (pe_tup (pa_cons (pe_fld (pv 0) rfl) (pa_cons (pe_fld (pv 0) rfl) (pa_cons (pe_fld (pv 0) rfl) pa_nil)))) (pe_tup (pa_cons (pe_dget hu (pv 1) pe_str (fun _ _ => rfl)) (pa_cons (pe_dget hu (pv 1) pe_str (fun _ _ => rfl)) (pa_cons (pe_call GF hr1 rfl Fo.g Fo.k Fo.b .nil pass0 (pa_cons (pv 1) pa_nil)) pa_nil)))) (nomark _)) (pss_one (ps_ret pe_bl)) pss_nil)
      (pss_cons (ps_if (PW.pt (pw_or (pt_cmpR op_ne (pe_callB (call_repr hgd hu64) (by rfl) zRepr (by decide +kernel) (pa_cons (pe_fld (pv 0) rfl) pa_nil)) (pe_callB (call_repr hgd hu64) (by rfl) zRepr (by decide +kernel) (pa_cons (pe_call GF hr1 rfl Fo.g Fo.k Fo.b .nil pass0 (pa_cons (pv 1) pa_nil)) pa_nil)) (nomark _))
          (pw_or (pt_not (pt_val (pe_call GW hr1 rfl Iw.g Iw.k Iw.b .nil pass0 (pa_cons (pe_fld (pv 0) rfl) pa_nil)))) (pw_or1 (pt_not (pt_val (pe_call GW hr1 rfl Iw.g Iw.k Iw.b .nil pass0 (pa_cons (pe_fld (pv 0) rfl) pa_nil)))))))) (pss_one (ps_ret pe_bl)) pss_nil)
      (pss_one (ps_ret (pe_and (pe_cmpR op_eq (pe_fld (pv 0) rfl) (pe_call GS hr1 rfl Ls.g Ls.k Ls.b .nil pass0 (pa_cons (pv 1) pa_nil)) (nomark _))
        (pe_one (pe_cmpR op_eq (pe_fld (pv 0) rfl) (pe_call GM hr rfl Lm.g Lm.k Lm.b .nil pass0 (pa_cons (pv 1) pa_nil)) (nomark _))))))), ?_⟩
    obtain ⟨dx, t, dd, ts, h1, h2, h3, h4⟩ := la
    obtain ⟨M2, M27, pr, _⟩ := md.mod.facts
    have M0 : 0 < M := by omega
    have p2 := md.two
    have one : ∀ {zs : List Nat} {row' : Nat → List Int}, Piv n M zs row' → Lat.Good n M (hOf M zs row') → (∀ u, Lat.Mem n (hOf M zs row') n u ↔ Lat.Mem n (hOf M ks row) n u) → Redd n (hOf M zs row') → formL n zs row' = formL n ks1 row1 := fun pz gz sz rz =>
      (form_one M0 pz lg.pv gz lg.good rz lg.redd fun u => (sz u).trans ((same u).trans (lg.same u).symm)).2
    have s1 := Lat.Good.siz_one lg.good good fun u => (same u).trans (lg.same u).symm
    obtain ⟨sh, dp, ln⟩ := formL_show M27 n20 lg.pv
    refine ⟨_, rfl, x, C, dx, _, _, rfl, h1, Z.ic.cl, Z.n1, rfl, _, rfl, x, C, dx, _, _, rfl, h1, Z.ic.cl, Z.n2, rfl, _, rfl, x, C, dx, _, _, rfl, h1, Z.ic.cl, Z.n3, rfl, by show 3 ≤ sizeLine; decide, fun t1 ht1 => ?_⟩
    have m1 := new_more (o := .tup [.int M, .int n, .ref t]) ht1
    have k1 : (upd H t1 (.tup [.int M, .int n, .ref t])) t1 = some (.tup [.int M, .int n, .ref t]) := upd_same
    generalize upd H t1 (.tup [.int M, .int n, .ref t]) = G1 at m1 k1 ⊢
    have L1 := LL.more m1
    refine ⟨_, rfl, a, _, rfl, L1.at_.gM, _, rfl, a, _, rfl, L1.at_.gW, _, rfl, a, r, n, M, p, kk, ks, bs, row, rfl, md, L1, good, by omega, fun G2 tf ts2 zs row' mem pz gz sz rz m2 ntf ktf pts => ⟨by show 3 ≤ sizeLine; decide, fun t2 ht2 => ?_⟩⟩
    have m3 := new_more (o := .tup [.int M, .int n, .ref tf]) ht2
    have k3 : (upd G2 t2 (.tup [.int M, .int n, .ref tf])) t2 = some (.tup [.int M, .int n, .ref tf]) := upd_same
    generalize upd G2 t2 (.tup [.int M, .int n, .ref tf]) = G3 at m3 k3 ⊢
    rw [one pz gz sz rz] at pts
    have m03 : More H G3 := fun b o e => m3 _ _ (m2 _ _ (m1 _ _ e))
    refine ⟨_, _, .tup (SqT.of (m3 _ _ (m2 _ _ k1))) (.cons (.int _) (.cons (.int _) (.cons (dp_R (SqT.of (m03 _ _ h2)) (tups_R (paired_imp (fun _ _ e => m03 _ _ e) h3))) .nil))), .tup (SqT.of k3) (.cons (.int _) (.cons (.int _) (.cons (dp_R (SqT.of (m3 _ _ ktf)) (tups_R (paired_imp (fun _ _ e => m3 _ _ e) pts))) .nil))), shaped_T3 _ _ _, shaped_T3 _ _ _, _, rfl, ?_⟩
    show if (!PyData.eqv (.tuple [.int M, .int n, dR (formL n ks1 row1)]) (.tuple [.int M, .int n, dR (formL n ks1 row1)])) = true then _ else _
    rw [eqv_T3]
    have L3 := LL.more m03
    clear m1 m2 m3 k1 k3 pts ktf L1
    refine iteF ⟨_, rfl, x, C, dx, _, _, rfl, m03 _ _ h1, Z.ic.cl, Z.n3, rfl, _, _, rfl, dp_R (SqT.of (m03 _ _ h2)) (tups_R (paired_imp (fun _ _ e => m03 _ _ e) h3)), sh, dp, ln, _, rfl, a, r, n, M, p, kk, ks, bs, row, rfl, md, L3, good, by omega, fun G4 tf ts2 zs row' mem pz gz sz rz m4 ntf ktf pts => ?_⟩
    rw [one pz gz sz rz] at pts
    have m04 : More H G4 := fun b o e => m4 _ _ (m03 _ _ e)
    refine ⟨_, _, rfl, dp_R (SqT.of ktf) (tups_R pts), sh, dp, ln, rfl, _, rfl, ?_⟩
    rw [show decide (V.str (dR (formL n ks1 row1)).shown = V.str (dR (formL n ks1 row1)).shown) = true from decide_eq_true rfl]
    refine iteF ⟨_, rfl, x, C, dx, _, _, rfl, m04 _ _ h1, Z.ic.cl, Z.n4, rfl, _, rfl, .inl ⟨S, rfl, _, rfl, ?_⟩⟩
    refine iteF ⟨_, rfl, x, C, dx, _, _, rfl, m04 _ _ h1, Z.ic.cl, Z.n5, rfl, _, rfl, .inl ⟨(L : Int), rfl, _, rfl, ?_⟩⟩
    refine iteF ?_
    have L4 := LL.more m04
    refine ⟨_, rfl, x, C, dx, _, _, rfl, m04 _ _ h1, Z.ic.cl, Z.n4, rfl, _, rfl, a, r, n, M, p, kk, ks, bs, row, rfl, md, L4, by omega, fun G5 m5 => ⟨rfl, _, rfl, ?_⟩⟩
    rw [show decide (V.int S = V.int (Lat.siz M (hOf M ks row) n)) = true from decide_eq_true (by rw [lg.size, s1])]
    have m05 : More H G5 := fun b o e => m5 _ _ (m04 _ _ e)
    refine iteT ⟨_, rfl, x, C, dx, _, _, rfl, m05 _ _ h1, Z.ic.cl, Z.n5, rfl, _, rfl, a, r, n, M, p, kk, ks, bs, row, rfl, md, LL.more m05, good, by omega, fun G6 L' m6 ll => ⟨rfl, ?_⟩⟩
    have e := LotLeast.one p2 M0 M27 lg.good good (fun u => (same u).trans (lg.same u).symm) (LotLeast.ofGood lg) ll
    rw [show decide (V.int (L : Int) = V.int (L' : Int)) = true from decide_eq_true (by rw [e])]
    exact q G6 fun b o h => m6 _ _ (m05 _ _ h)
end
end K02

/-! LawW: what the law of the one form knows. -/
namespace B5
open PySem L2 Gd
/-- a lot is made -/
theorem mk_lot {K : PySem.W.Frag} {C CN CR : Addr} {H : Hp} {Q : VK} {E : XK} {M p n : Nat} {b x dx : Addr} {ys : List V} {rs : List (List Int)} (hx : H x = none) (hdx : H dx = none) (ne : dx ≠ x) (md : Mod M p) (n400 : n ≤ 400) (sq : Sq K H b ys) (ra : RowsAt K H n ys rs) (few : ys.length ≤ 1000) (n60 : rs ≠ [] → n ≤ 60)
    (q : ∀ (H' : Hp) (ks : List Nat) (row : Nat → List Int) (S : Int) (L : Nat), More H H' → LAt K H' C x M n ks row S L → LGood M n p ks row (rowsSet rs) S L → Q .non H') :
    spLI K C CN CR [.ref x, .int M, .int n, .ref b] (upd (upd H dx (.own x)) x (.ins C dx [])) Q E := by
  have m : More H (upd (upd H dx (.own x)) x (.ins C dx [])) := fun b o e => by
    rw [upd_ne (ne_of_none e hx), upd_ne (ne_of_none e hdx)]
    exact e
  refine ⟨x, dx, _, _, _, rfl, upd_same, .inr ⟨M, p, rfl, md, .inr ⟨n, rfl, n400, .inr ⟨b, ys, rs, rfl, sq.more m, ⟨ra.1, fun i y r hy hr => ?_⟩, few, n60, fun H' ks row S L of la lg => q H' ks row S L (fun b o e => of _ _ (m _ _ e) (ne_of_none e hx)) la lg⟩⟩⟩⟩
  obtain ⟨a, e, s, l⟩ := ra.2 i y r hy hr
  exact ⟨a, e, s.more m, l⟩
/-- rows as tuples at some places -/
theorem rowsAt_tups {K : PySem.W.Frag} {H : Hp} {n : Nat} {cs : List Addr} {rs : List (List Int)} (p : Paired (fun (c : Addr) (x : List Int) => H c = some (.tup (x.map V.int))) cs rs) (l : ∀ r ∈ rs, r.length = n) : RowsAt K H n (cs.map V.ref) rs :=
  ⟨by rw [List.length_map]; exact Paired.length p, fun i y r hy hr => by
    obtain ⟨c, hc, rfl⟩ := map_at hy
    obtain ⟨x, hx, h⟩ := paired_at p hc
    rw [hr] at hx
    cases hx
    exact ⟨c, rfl, .inr (SqT.of h), l r (List.mem_of_getElem? hr)⟩⟩
/-- forms of two lots -/
theorem forms_eq {M n p : Nat} {ks ks' : List Nat} {row row' : Nat → List Int} {R R' : Lat.Vec → Prop} {S S' : Int} {L L' : Nat} (M0 : 0 < M) (a : LGood M n p ks row R S L) (b : LGood M n p ks' row' R' S' L') (e : ∀ u, Lat.Gen n M R' u ↔ Lat.Gen n M R u) : formL n ks' row' = formL n ks row :=
  (form_one M0 b.pv a.pv b.good a.good b.redd a.redd fun u => (b.same u).trans ((e u).trans (a.same u).symm)).2
/-- the rows that are told make the lot anew -/
theorem told_rows {M n p : Nat} {ks : List Nat} {row : Nat → List Int} {R : Lat.Vec → Prop} {S : Int} {L : Nat} (a : LGood M n p ks row R S L) (u : Lat.Vec) : Lat.Gen n M (rowsSet (formL n ks row)) u ↔ Lat.Gen n M R u := by
  unfold formL
  rw [← gen_rows a.pv a.good (fun k => ?_) u]
  · exact a.same u
  · rw [List.mem_filter, decide_eq_true_eq, List.mem_range]
    exact ⟨fun h => h.2, fun h => ⟨a.pv.lt k h, h⟩⟩
theorem formL_wid {M n p : Nat} {ks : List Nat} {row : Nat → List Int} {R : Lat.Vec → Prop} {S : Int} {L : Nat} (a : LGood M n p ks row R S L) : ∀ r ∈ formL n ks row, r.length = n := fun r hr => by
  unfold formL at hr
  obtain ⟨k, hk, rfl⟩ := List.mem_map.mp hr
  exact a.pv.len k (of_decide_eq_true (List.mem_filter.mp hk).2)
/-- a lot of no rows -/
theorem lot_none {M n p : Nat} {ks : List Nat} {row : Nat → List Int} {S : Int} {L : Nat} (M0 : 0 < M) (p2 : 2 ≤ p) (a : LGood M n p ks row (rowsSet []) S L) : formL n ks row = [] ∧ S = 1 ∧ L = 0 := by
  have none : ∀ u, Lat.Mem n (hOf M ks row) n u → Lat.Gen n M (fun _ => False) u := fun u h => ((a.same u).mp h).mono fun x ⟨r, hr, _⟩ => List.not_mem_nil hr
  have hd : ∀ j, j < n → hOf M ks row j j = M := fun j hj => a.good.nothing (by omega) none hj
  have nk : ks = [] := by
    cases e : ks with
    | nil => rfl
    | cons k r =>
      exfalso
      have hk : k ∈ ks := by rw [e]; exact .head _
      have h := hd k (a.pv.lt k hk)
      rw [hOf_in hk] at h
      have h : (row k).getD k 0 = M := h
      have := (mem_get (a.pv.rest k hk) (t := k) (by rw [a.pv.len k hk]; exact a.pv.lt k hk)).2
      omega
  have sizM : ∀ {h : Nat → Lat.Vec} (m : Nat), m ≤ n → (∀ j, j < n → h j j = M) → Lat.siz M h m = 1 := fun {h} m => by
    induction m with
    | zero => exact fun _ _ => rfl
    | succ m ih =>
      intro hm hh
      show Lat.siz M h m * ((M : Int) / h m m) = 1
      rw [ih (by omega) hh, hh m (by omega), Int.ediv_self (by omega)]
      rfl
  have S1 : S = 1 := by rw [a.size]; exact sizM n (Nat.le_refl _) hd
  refine ⟨?_, S1, ?_⟩
  · unfold formL
    rw [nk]
    have : (List.range n).filter (fun k => decide (k ∈ ([] : List Nat))) = [] := List.filter_eq_nil_iff.mpr fun k _ => by simp
    rw [this]
    rfl
  · obtain ⟨g, Gg, sg, e⟩ := a.least
    have gn : ∀ u, Lat.Mem n g n u → Lat.Gen n M (fun _ => False) u := fun u h => ((sg u).mp h).mono fun x ⟨r, ⟨r', hr, _⟩, _⟩ => List.not_mem_nil hr
    have g1 := sizM (h := g) n (Nat.le_refl _) fun j hj => Gg.nothing (by omega) gn hj
    rw [g1, S1, Int.one_mul] at e
    have e : p ^ L = 1 := by exact_mod_cast e.symm
    cases L with
    | zero => rfl
    | succ L =>
      rw [Nat.pow_succ] at e
      have : 0 < p ^ L := Nat.pow_pos (by omega)
      have : 1 * 2 ≤ p ^ L * p := Nat.mul_le_mul this p2
      omega
/-! ### while the pen is used -/
theorem pen_kvs {H : Hp} {d c : Addr} {n : Int} (h : Pen H d c n) : ∃ kvs, H d = some (.dK kvs) ∧ valV kvs kC = some (.ref c) := by
  obtain ⟨kvs, cs, p, g, f, h1, h2, h3, h4, _⟩ := h
  exact ⟨kvs, h1, h4⟩
theorem LAt.offD {K : PySem.W.Frag} {H H' : Hp} {C a d c : Addr} {M n : Nat} {ks : List Nat} {row : Nat → List Int} {S : Int} {L : Nat} {nn : Int} (pn : Pen H d c nn) (of : Off d H H') (h : LAt K H C a M n ks row S L) : LAt K H' C a M n ks row S L := by
  obtain ⟨kvs, hd, hv⟩ := pen_kvs pn
  obtain ⟨dx, t, q, ts, h1, h2, h3, h4⟩ := h
  refine ⟨dx, t, q, ts, of _ _ h1 fun e => ?_, of _ _ h2 fun e => ?_, paired_imp (fun b x hb => of _ _ hb fun e => ?_) h3, of _ _ h4 fun e => ?_⟩
  · rw [e, hd] at h1
    cases h1
  · rw [e, hd] at h2
    cases h2
  · rw [e, hd] at hb
    cases hb
  · rw [e, hd] at h4
    have h := HO.dK.inj (Option.some.inj h4)
    rw [h] at hv
    have : valV (kvsOf ks row) kC = none := by
      unfold kvsOf
      clear h hv h4 h3
      induction ks with
      | nil => rfl
      | cons k r ih =>
        unfold valV at ih ⊢
        rw [List.map_cons, List.find?_cons_of_neg (by simp [kC])]
        exact ih
    rw [this] at hv
    cases hv
theorem LawLot.offD {H H' : Hp} {a r d c : Addr} {n M p kk : Nat} {ks : List Nat} {bs : Nat → Addr} {row : Nat → List Int} {nn : Int} (pn : Pen H d c nn) (of : Off d H H') (h : LawLot H a r n M p kk ks bs row) : LawLot H' a r n M p kk ks bs row := by
  obtain ⟨kvs, hd, hv⟩ := pen_kvs pn
  have nk : ∀ (g : Nat → V), valV (ks.map fun k : Nat => ((Sum.inl (k : Int) : Key), g k)) kC = none := fun g => by
    clear h
    induction ks with
    | nil => rfl
    | cons k r ih =>
      unfold valV at ih ⊢
      rw [List.map_cons, List.find?_cons_of_neg (by simp [kC])]
      exact ih
  refine ⟨⟨of _ _ h.at_.hA fun e => ?_, of _ _ h.at_.hR fun e => ?_, fun k hk => of _ _ (h.at_.hB k hk) fun e => ?_, h.tr.pv⟩, h.tr, h.heads⟩
  · have h1 := h.at_.hA
    rw [e, hd] at h1
    have h1 := HO.dK.inj (Option.some.inj h1)
    rw [h1] at hv
    have : valV [((Sum.inr (Str.ofString "m") : Key), V.int (M : Int)), (Sum.inr (Str.ofString "width"), .int n), (Sum.inr (Str.ofString "rows"), .ref r)] kC = none := by
      unfold valV
      rw [List.find?_cons_of_neg (by simp only [decide_eq_true_eq]; decide +kernel), List.find?_cons_of_neg (by simp only [decide_eq_true_eq]; decide +kernel), List.find?_cons_of_neg (by simp only [decide_eq_true_eq]; decide +kernel)]
      rfl
    rw [this] at hv
    cases hv
  · have h1 := h.at_.hR
    rw [e, hd] at h1
    have h1 := HO.dK.inj (Option.some.inj h1)
    rw [h1, nk] at hv
    cases hv
  · have h1 := h.at_.hB k hk
    rw [e, hd] at h1
    cases h1
theorem cut_one (xs : List V) : cutV xs (some 1) none = xs.drop 1 := by
  cases xs with
  | nil => rfl
  | cons x r => exact cut_from (k := 1) (by simp)
theorem paired_tl {α β : Type} {R : α → β → Prop} : ∀ {xs : List α} {l : List β}, Paired R xs l → Paired R (xs.drop 1) (l.drop 1)
  | _, _, .nil => .nil
  | _, _, .cons _ t => t
theorem lot_eq {K : PySem.W.Frag} {H : Hp} {C xa x : Addr} {M n M2 n2 : Nat} {ksa ks : List Nat} {rowa row : Nat → List Int} {Sa S : Int} {La L : Nat} {Q : VK} {E : XK} (laa : LAt K H C xa M n ksa rowa Sa La) (la : LAt K H C x M2 n2 ks row S L)
    (q : Q (.bl (decide (M = M2 ∧ n = n2 ∧ formL n ksa rowa = formL n2 ks row))) H) : rOwnE K C (spLE K C) E (.ref xa) (.ref x) H Q := by
  obtain ⟨dx, t, dd, ts, h1, _⟩ := id laa
  obtain ⟨dy, t2, dd2, ts2, i1, _⟩ := id la
  exact ⟨xa, dx, _, .ref C, rfl, h1, .inr ⟨x, dy, _, rfl, i1, rfl⟩, by simp [PySem.W.notFirst], xa, .ref x, M, n, ksa, rowa, Sa, La, rfl, laa, .inr ⟨x, M2, n2, ks, row, S, L, rfl, la, q⟩⟩
theorem lot_neT {K : PySem.W.Frag} {H : Hp} {C xa t : Addr} {M n : Nat} {ksa : List Nat} {rowa : Nat → List Int} {Sa : Int} {La : Nat} {xs : List V} {Q : VK} {E : XK} (laa : LAt K H C xa M n ksa rowa Sa La) (ht : SqT K H t xs) (nf : PySem.W.notFirst K C (.type "tuple") = true)
    (q : Q (.bl false) H) : rOwnE K C (spLE K C) E (.ref xa) (.ref t) H Q := by
  obtain ⟨dx, t', dd, ts, h1, _⟩ := id laa
  exact ⟨xa, dx, _, .type "tuple", rfl, h1, .inl (tyT ht), nf, xa, .ref t, M, n, ksa, rowa, Sa, La, rfl, laa, .inl ⟨"tuple", by simp [offOwn], tyT ht, q⟩⟩
theorem shaped_E : SeqAt.shaped (.tuple [dR [], .int 1, .int 0]) = true := by
  unfold SeqAt.shaped dR
  simp [PyData.canLay0, PyData.canLayAll0, PyData.depth, PyData.depthAll]
theorem eqv_E : PyData.eqv (.tuple [dR [], .int 1, .int 0]) (.tuple [dR [], .int 1, .int 0]) = true := by
  simp [PyData.eqv, PyData.eqvAll, eqv_R]
end B5

/-! law02: the law -/
namespace K02
open PySem L2 Gd B5
abbrev sLaw : Stmt := top 61
abbrev NLaw : List Str := ["_law_script", "_law_pen_here", "_law_lap", "_law_m", "_law_width", "_law_rows_here", "_law_lot_here", "_law_told", "_law_again", "_law_fewer", "_law_empty", "_law_row"]
def spLaw (K : PySem.W.Frag) : Sp := fun vs H Q _ => ∃ (a : Addr) (ns : List Int), vs = [.ref a] ∧ SqL K H a (ns.map V.int) ∧ ∀ H', Q (.bl true) H'
theorem scLaw : FnScope NLaw ["_law_script"] (defScope sLaw) := ⟨rfl, rfl, rfl, by decide +kernel, rfl, by decide +kernel, by decide +kernel⟩
section
variable {P : Program} {w : World} {K : PySem.W.Frag} {mg : Str → Option Value} {base : Heap}
theorem ok_law {f tE : Addr} {kV doc pm ct oc cdv : Value} {an od : Option Addr} {osl : Array (Option Value)} {g0 g1 g2 g3 g4 g5 g6 g7 g8 gI gE C CN CR : Addr} {d0 d1 d2 d3 d4 d5 d6 d7 d8 dI' dE : FuncData} {dsE : List Value}
    (lk : K.lookup f = some ⟨oc, od, .func (PySem.W.fnOf "law" "law" (defArgs sLaw) (defBody sLaw) (defScope sLaw) .none kV doc pm an cdv ct), osl⟩)
    (hcd : PySem.W.codeIn K cdv "law" = true) (B : Blt mg) (Z : LotK K mg C) (nf : PySem.W.notFirst K C (.type "tuple") = true) (zZip : mg "zip" = none) (zSum : mg "sum" = none)
    (M_ : Mk K C gI) (bI : Binds K dI' ["self", "m", "width", "rows"] []) (bI0 : Binds K dI' ["self", "m", "width", "rows"] dsE) (hdE : Vals [V.ref tE] dsE) (zE : ∀ H : Hp, SqT K H tE []) (GI : FnOk P w K mg base (L2.CX P w) 6 gI dI' ["self", "m", "width", "rows"] (spLI K C CN CR))
    (hE : PySem.W.findIn K (.ref C) "__eq__" = some (some (.ref gE))) (fE : PySem.W.isFn K (.ref gE) = true) (bE : Binds K dE ["self", "other"] []) (GE : FnOk P w K mg base CX0 1 gE dE ["self", "other"] (spLE K C))
    (Pe : Cl K mg "_law_pen" sPen ["_law_script"] g0 d0) (Dr : Cl K mg "_law_draw" sDraw ["_law_pen_here", "_law_many"] g1 d1) (Pi : Cl K mg "_law_pick" sPick ["_law_pen_here", "_law_some"] g2 d2)
    (Mo : Cl K mg "_law_modulus" sLmo ["_law_pen_here"] g3 d3) (Rw : Cl K mg "_law_rows" sLrw ["_law_pen_here", "_law_m", "_law_width", "_law_many"] g4 d4) (GRw : FnOk P w K mg base CX0 4 g4 d4 ["_law_pen_here", "_law_m", "_law_width", "_law_many"] spLrw)
    (Lo : Cl K mg "_law_lot" sLlo ["_law_m", "_law_width", "_law_rows_here"] g5 d5) (GLo : FnOk P w K mg base CX0 4 g5 d5 ["_law_m", "_law_width", "_law_rows_here"] (spLlo K))
    (Rt : Cl K mg "_law_right" sLrt ["_law_told", "_law_lot_here"] g6 d6) (GRt : FnG P w K mg base CX0 6 g6 d6 ["_law_told", "_law_lot_here"] (spLrt K C))
    (Ow : Cl K mg "_law_other_rows" sLow ["_law_pen_here", "_law_rows_here", "_law_m"] g7 d7) (GOw : FnOk P w K mg base CX0 2 g7 d7 ["_law_pen_here", "_law_rows_here", "_law_m"] spLow)
    (Fo : Cl K mg "_law_form" sLfo ["_law_lot_here"] g8 d8) (GFo : FnOk P w K mg base CX0 1 g8 d8 ["_law_lot_here"] spLfo) :
    FnG P w K mg base CX0 8 f (PySem.W.fnOf "law" "law" (defArgs sLaw) (defBody sLaw) (defScope sLaw) .none kV doc pm an cdv ct) ["_law_script"] (spLaw K) := by
  have G0 : FnOk P w K mg base CX0 1 g0 d0 ["_law_script"] (spPen K) := ok_pen Pe.fn B.int_ B.list_
  have G1 : FnOk P w K mg base CX0 1 g1 d1 ["_law_pen_here", "_law_many"] spDraw := ok_draw Dr.fn B.int_ B.len_
  have G2 : FnOk P w K mg base CX0 2 g2 d2 ["_law_pen_here", "_law_some"] (spPick K) := ok_pick Pi.fn Dr.fn Dr.b Dr.g B.int_ B.len_
  have GMo : FnOk P w K mg base CX0 3 g3 d3 ["_law_pen_here"] spLmo := ok_lmo Mo.fn B Dr Pi
  refine fnG_of lk hcd scLaw (fun vs H Q E h => ?_) (fun A outer s H vs Q E hgd hr h => ?_)
  · obtain ⟨a, ns, rfl, _⟩ := h
    rfl
  · obtain ⟨sa, ns, rfl, hS, fin⟩ := h
    have hr1 : Room 1 _ := hr.mono (by decide)
    have hr2 : Room 2 _ := hr.mono (by decide)
    have hr3 : Room 3 _ := hr.mono (by decide)
    have hr4 : Room 4 _ := hr.mono (by decide)
    have hr6 : Room 6 _ := hr.mono (by decide)
    have hu64 := hr.units
    suffices hh : ∃ t, PSs (cxOf CX0 P w K mg base NLaw "law" (defScope sLaw) f cdv A outer s H E).nox (defBody sLaw) t ∧ t { nx := fun _ H' => Q .non H', rt := Q } (L2.start NLaw [.ref sa]) H by
      obtain ⟨t, d, q⟩ := hh
      exact ⟨t, d.nox, q⟩
    refine ⟨_, pss_cons (ps_set (i := 1) scLaw.nd rfl (Or.inl rfl) (pe_call G0 hr1 rfl Pe.g Pe.k Pe.b .nil pass0 (pa_cons (pv 0) pa_nil)))
      (Evl.pss_cut (ps_for PassesOwn.never rfl (pi_range1 (by rfl) B.range_ (pa_cons pe_int pa_nil)) (pg_name (i := 2) scLaw.nd rfl (Or.inl rfl))
        (Evl.pss_cut (ps_par (i := 3) (j := 4) rfl scLaw.nd rfl rfl (by decide) rfl rfl (pa_cons (pe_call GMo hr3 rfl Mo.g Mo.k Mo.b .nil pass0 (pa_cons (pv 1) pa_nil)) (pa_cons (pe_call G1 hr1 rfl Dr.g Dr.k Dr.b .nil pass0 (pa_cons (pv 1) (pa_cons pe_int pa_nil))) pa_nil)) (by rfl))
        (Evl.pss_cut (ps_set (i := 5) scLaw.nd rfl (Or.inl rfl) (pe_call GRw hr4 rfl Rw.g Rw.k Rw.b .nil pass0 (pa_cons (pv 1) (pa_cons (pv 3) (pa_cons (pv 4) (pa_cons (pe_call G2 hr2 rfl Pi.g Pi.k Pi.b .nil pass0 (pa_cons (pv 1) (pa_cons (pe_lst (pa_cons (pe_call G1 hr1 rfl Dr.g Dr.k Dr.b .nil pass0 (pa_cons (pv 1) (pa_cons pe_int pa_nil)))
            (pa_cons (pe_op op_add pe_int (pe_call G1 hr1 rfl Dr.g Dr.k Dr.b .nil pass0 (pa_cons (pv 1) (pa_cons pe_int pa_nil)))) pa_nil))) pa_nil))) pa_nil))))))
        (Evl.pss_cut (ps_par (i := 6) (j := 7) rfl scLaw.nd rfl rfl (by decide) rfl rfl (pa_cons (pe_call GLo hr4 rfl Lo.g Lo.k Lo.b .nil pass0 (pa_cons (pv 3) (pa_cons (pv 4) (pa_cons (pv 5) pa_nil))))
            (pa_cons (pe_make M_ GI (hr.mono (by decide)) rfl Z.g bI .nil (passes_call LamX.takes0 (fun _ _ _ _ h => h)) (pa_cons (pv 3) (pa_cons (pv 4) (pa_cons (pe_lc (own := [("_law_row", 11)]) (g := gName 11) (tt := tYes) rfl scLaw.nd (pi_list (pv 5)) (blkOk_by (N := NLaw) (sc := defScope sLaw) (by decide +kernel)) (fun _ _ _ _ _ => pg_name (i := 11) scLaw.nd rfl (Or.inl rfl)) (fun _ _ _ _ _ => pts_nil)
              (fun _ _ _ _ _ => pe_callTy (r := rTof K) (call_tof rfl) (by rfl) B.tup_ (by decide +kernel) (pa_cons (pv 11) pa_nil))) pa_nil)))) pa_nil)) (by rfl))
        (Evl.pss_cut (ps_if (pt_not (pt_val (pe_callG GRt hgd hr6 rfl Rt.g Rt.k Rt.b .nil pass0 (pa_cons (pv 7) (pa_cons (pv 6) pa_nil))))) (pss_one (ps_ret pe_bl)) pss_nil)
        (Evl.pss_cut (ps_par (i := 8) (j := 9) rfl scLaw.nd rfl rfl (by decide) rfl rfl (pa_cons (pe_make M_ GI (hr.mono (by decide)) rfl Z.g bI .nil (passes_call LamX.takes0 (fun _ _ _ _ h => h)) (pa_cons (pv 3) (pa_cons (pv 4) (pa_cons (pe_call GOw hr2 rfl Ow.g Ow.k Ow.b .nil pass0 (pa_cons (pv 1) (pa_cons (pv 5) (pa_cons (pv 3) pa_nil)))) pa_nil))))
            (pa_cons (pe_make M_ GI (hr.mono (by decide)) rfl Z.g bI .nil (passes_call LamX.takes0 (fun _ _ _ _ h => h)) (pa_cons (pv 3) (pa_cons (pv 4) (pa_cons (pe_slice sl_list (pv 5) (po_some pe_int) po_none) pa_nil)))) pa_nil)) (by rfl))
        (Evl.pss_cut (ps_if (PW.pt (pw_or (pt_not (pt_val (pe_callG GRt hgd hr6 rfl Rt.g Rt.k Rt.b .nil pass0 (pa_cons (pv 8) (pa_cons (pv 6) pa_nil)))))
            (pw_or (pt_not (pt_cmpR (op_eqOwn hE fE GE bE hr1 pass0) (pv 8) (pv 7) (nomark _)))
            (pw_or1 (pt_not (pt_cmpR (op_eqOwn hE fE GE bE hr1 pass0) (pe_make M_ GI (hr.mono (by decide)) rfl Z.g bI .nil (passes_call LamX.takes0 (fun _ _ _ _ h => h)) (pa_cons (pv 3) (pa_cons (pv 4) (pa_cons (pe_fld (pv 7) rfl) pa_nil)))) (pv 7) (nomark _))))))) (pss_one (ps_ret pe_bl)) pss_nil)
        (Evl.pss_cut (ps_if (pt_cmpR op_ne (pe_cmpR (op_eqOwn hE fE GE bE hr1 pass0) (pv 9) (pv 7) (nomark _)) (pe_cmpR (op_eqD hu64) (pe_call GFo hr1 rfl Fo.g Fo.k Fo.b .nil pass0 (pa_cons (pe_call GLo hr4 rfl Lo.g Lo.k Lo.b .nil pass0 (pa_cons (pv 3) (pa_cons (pv 4) (pa_cons (pe_slice sl_list (pv 5) (po_some pe_int) po_none) pa_nil)))) pa_nil)) (pe_call GFo hr1 rfl Fo.g Fo.k Fo.b .nil pass0 (pa_cons (pv 6) pa_nil)) (nomark _)) (nomark _)) (pss_one (ps_ret pe_bl)) pss_nil)
        (pss_one (ps_if (PW.pt (pw_or (pt_cmpR (op_eqOwn hE fE GE bE hr1 pass0) (pv 7) (pe_fld (pv 7) rfl) (nomark _)) (pw_or1 (pt_cmpR (op_eqOwn hE fE GE bE hr1 pass0) (pv 7)
            (pe_make M_ GI (hr.mono (by decide)) rfl Z.g bI .nil (passes_call LamX.takes0 (fun _ _ _ _ h => h)) (pa_cons (pv 3) (pa_cons (pe_op op_add (pv 4) pe_int) (pa_cons (pe_lc (own := [("_law_row", 11)]) (g := gName 11) (tt := tYes) rfl scLaw.nd (pi_list (pv 5)) (blkOk_by (N := NLaw) (sc := defScope sLaw) (by decide +kernel)) (fun _ _ _ _ _ => pg_name (i := 11) scLaw.nd rfl (Or.inl rfl)) (fun _ _ _ _ _ => pts_nil)
              (fun _ _ _ _ _ => pe_op (r := rCat) op_cat (pe_callTy (r := rLof K) (call_lof rfl) (by rfl) B.list_ (by decide +kernel) (pa_cons (pv 11) pa_nil)) (pe_lst (pa_cons pe_int pa_nil)))) pa_nil)))) (nomark _))))) (pss_one (ps_ret pe_bl)) pss_nil))))))))))
      (pss_cons (ps_set (i := 10) scLaw.nd rfl (Or.inl rfl) (pe_make M_ GI (hr.mono (by decide)) rfl Z.g bI0 hdE (passes_call LamX.takes0 (fun _ _ _ _ h => h)) (pa_cons (pe_call GMo hr3 rfl Mo.g Mo.k Mo.b .nil pass0 (pa_cons (pv 1) pa_nil)) (pa_cons (pe_call G1 hr1 rfl Dr.g Dr.k Dr.b .nil pass0 (pa_cons (pv 1) (pa_cons pe_int pa_nil))) pa_nil))))
      (pss_one (ps_ret (pe_cmpR (op_eqD hu64) (pe_tup (pa_cons (pe_fld (pv 10) rfl) (pa_cons (pe_fld (pv 10) rfl) (pa_cons (pe_fld (pv 10) rfl) pa_nil)))) (pe_tup (pa_cons (pe_tup pa_nil) (pa_cons pe_int (pa_cons pe_int pa_nil)))) (nomark _)))))), ?_⟩
    refine ⟨_, rfl, sa, ns, rfl, hS, fun H0 d c pen0 fr nd => ?_⟩
    refine ⟨fun σ' H' => ∃ (z2 z3 z4 z5 z6 z7 z8 z9 : Option V) (nn : Int), σ' = [some (.ref sa), some (.ref d), z2, z3, z4, z5, z6, z7, z8, z9, none, none] ∧ Pen H' d c nn ∧ 0 ≤ nn ∧ nn ≤ 12000, ?_, ?_⟩
    · refine ⟨3, rfl, by decide, by decide, ?_⟩
      refine for_range (lo := 0) (n := 3) (fun i σ' H' => ∃ (z2 z3 z4 z5 z6 z7 z8 z9 : Option V) (nn : Int), σ' = [some (.ref sa), some (.ref d), z2, z3, z4, z5, z6, z7, z8, z9, none, none] ∧ Pen H' d c nn ∧ 0 ≤ nn ∧ nn ≤ 4000 * i)
        ⟨_, _, _, _, _, _, _, _, 0, rfl, pen0, by omega, by omega⟩ ?_ ?_
      · rintro i σ' H1 hi ⟨z2, z3, z4, z5, z6, z7, z8, z9, nn, rfl, pen, n0, n1⟩
        refine ⟨fun σ' H' => ∃ (M p kk n : Nat), σ' = [some (.ref sa), some (.ref d), some (.int (0 + (i : Int))), some (.int M), some (.int n), z5, z6, z7, z8, z9, none, none] ∧ ModK M p kk ∧ n ≤ 6 ∧ Pen H' d c (nn + 3), ?_, ?_⟩
        · refine ⟨_, rfl, d, c, nn, rfl, pen, n0, by omega, fun M p kk H2 md pn2 of2 => ⟨_, rfl, d, c, nn + 2, 7, rfl, pn2, by decide, by decide, by omega, by omega, fun r H3 r0 r1 dr => ⟨_, _, rfl, M, p, kk, r.toNat, ?_, md, by omega, ?_⟩⟩⟩
          · rw [Int.toNat_of_nonneg r0]
            rfl
          · have := dr.pen
            rw [show nn + 2 + 1 = nn + 3 by omega] at this
            exact this
        clear pen
        rintro σ1 H2 ⟨M, p, kk, n, rfl, md, n6, pen⟩
        obtain ⟨M2, M27, pr, _⟩ := md.mod.facts
        have M0 : 0 < M := by omega
        have p2 := md.two
        -- the rows
        refine ⟨fun σ' H' => ∃ (R : Addr) (cs : List Addr) (rs : List (List Int)) (m : Int), σ' = [some (.ref sa), some (.ref d), some (.int (0 + (i : Int))), some (.int M), some (.int n), some (.ref R), z6, z7, z8, z9, none, none] ∧ Pen H' d c m ∧ nn ≤ m ∧ m ≤ nn + 3600 ∧ H' R = some (.lst (cs.map V.ref)) ∧ Paired (fun (b : Addr) (x : List Int) => H' b = some (.lst (x.map V.int))) cs rs ∧ (∀ x ∈ rs, x.length = n) ∧ rs.length ≤ 14, ?_, ?_⟩
        · refine ⟨_, rfl, _, rfl, _, rfl, _, rfl, _, rfl, d, c, nn + 3, 7, rfl, pen, by decide, by decide, by omega, by omega, fun ra Ha a0 a1 dra => ⟨_, rfl, d, c, nn + 3 + 1, 8, rfl, dra.pen, by decide, by decide, by omega, by omega, fun rb Hb b0 b1 drb => ⟨_, _, rfl, rfl, by show 2 ≤ sizeLine; decide, fun Lp hLp => ?_⟩⟩⟩
          refine ⟨d, c, Lp, nn + 3 + 1 + 1, _, rfl, drb.pen.upd hLp, upd_same, by show 0 < 2; decide, by show 2 ≤ 1000; decide, by omega, by omega, fun y Hy hy dry => ?_⟩
          obtain ⟨N, rfl, N14⟩ : ∃ N : Nat, y = V.int (N : Int) ∧ N ≤ 14 := by
            simp only [List.mem_cons, List.not_mem_nil, or_false] at hy
            rcases hy with rfl | rfl
            · exact ⟨ra.toNat, by rw [Int.toNat_of_nonneg a0], by omega⟩
            · exact ⟨(7 + rb).toNat, by rw [Int.toNat_of_nonneg (by omega)], by omega⟩
          refine ⟨d, c, nn + 3 + 1 + 1 + 1, n, N, M, p, kk, rfl, dry.pen, by omega, by omega, md, by omega, by omega, fun H' R cs rs m I b1 b2 => ?_⟩
          have bd : (N : Int) * (10 + 40 * n) ≤ 14 * 250 := Int.mul_le_mul (by omega) (by omega) (by omega) (by omega)
          exact ⟨R, cs, rs, m, rfl, I.ds.pen, by omega, by omega, I.kR, I.rows, I.wid, by have := I.len; omega⟩
        clear pen
        rintro σ2 H3 ⟨R, cs, rs, m, rfl, pen, m1, m2, kR, prs, wid, r14⟩
        have cl : cs.length = rs.length := Paired.length prs
        -- the law's lot, the program's
        refine ⟨fun σ' H' => ∃ (a r x : Addr) (ks ks1 : List Nat) (bs : Nat → Addr) (row row1 : Nat → List Int) (S : Int) (L : Nat), σ' = [some (.ref sa), some (.ref d), some (.int (0 + (i : Int))), some (.int M), some (.int n), some (.ref R), some (.ref a), some (.ref x), z8, z9, none, none] ∧ More H3 H' ∧ LawLot H' a r n M p kk ks bs row ∧ Lat.Good n M (hOf M ks row) ∧
          (∀ u, Lat.Mem n (hOf M ks row) n u ↔ Lat.Gen n M (rowsSet rs) u) ∧ LAt K H' C x M n ks1 row1 S L ∧ LGood M n p ks1 row1 (rowsSet rs) S L, ?_, ?_⟩
        · refine ⟨_, rfl, _, rfl, _, rfl, R, _, rs, n, M, p, kk, rfl, md, by omega, .inl (SqL.of kR), rowsAt_lists prs wid, fun H4 a r ks bs row LL good same na nr m4 => ⟨_, rfl, _, rfl, _, rfl, R, rfl, ⟨_, SqL.of (m4 _ _ kR)⟩, fun D hD => ?_⟩⟩
          refine lc_rel (n := 11) (D := D) (H1 := H4) (walk_list (xs := cs.map V.ref)) (fun i v H' => ∃ (x : List Int), rs[i]? = some x ∧ ∃ b : Addr, v = .ref b ∧ H' b = some (.tup (x.map V.int))) (fun i v H' H'' m ⟨x, e1, b, e2, e3⟩ => ⟨x, e1, b, e2, m _ _ e3⟩) hD (fun H' m => SqL.of (m _ _ (m4 _ _ kR))) (by rw [List.length_map]; omega) (fun _ => rfl) ?_ ?_
          · intro i y H7 Q7 hy m7 m7' ⟨l0, hl0⟩ q7
            obtain ⟨b0, hb0, rfl⟩ := map_at hy
            obtain ⟨x, hx, kx⟩ := paired_at prs hb0
            refine ⟨_, rfl, b0, _, rfl, .inl ⟨SqL.of (m7 _ _ (m4 _ _ kx)), fun l hl => q7 _ _ (new_more hl) ⟨x, hx, l, rfl, ?_⟩⟩⟩
            rw [del_ne (ne_of_none hl0 hl).symm, upd_same]
          · intro H7 G rs' rl mG mH nG al hD7
            have prs' : Paired (fun v x => ∃ b : Addr, v = .ref b ∧ H7 b = some (.tup (x.map V.int))) rs' rs := paired_of (by rw [rl, List.length_map, cl]) fun i x y hx hy => by
              obtain ⟨x', e1, b, e2, e3⟩ := al i x hx
              rw [hy] at e1
              cases e1
              exact ⟨b, e2, mH _ _ e3⟩
            obtain ⟨cs2, ecs, pcs⟩ := refs_ofG prs'
            rw [ecs] at hD7
            refine fun x dx hx hdx ne => mk_lot hx hdx ne md.mod (by omega) (.inl (SqL.of hD7)) (rowsAt_tups pcs wid) (by rw [List.length_map, Paired.length pcs]; omega) (fun _ => by omega) fun H8 ks1 row1 S L m8 la lg => ⟨rfl, ?_⟩
            have m48 : More H4 H8 := fun b o e => m8 _ _ (mH _ _ (mG _ _ e))
            exact ⟨_, _, rfl, a, r, x, ks, ks1, bs, row, row1, S, L, rfl, fun b o e => m48 _ _ (m4 _ _ e), LL.more m48, good, same, la, lg⟩
        rintro σ3 H4 ⟨a, r, x, ks, ks1, bs, row, row1, S, L, rfl, m34, LL, good, same, la, lg⟩
        have pen4 := pen.ofMore m34
        have kR4 := m34 _ _ kR
        have prs4 : Paired (fun (b : Addr) (x : List Int) => H4 b = some (.lst (x.map V.int))) cs rs := paired_imp (fun _ _ e => m34 _ _ e) prs
        clear pen kR prs m34
        -- told rightly
        refine ⟨fun σ' H' => σ' = [some (.ref sa), some (.ref d), some (.int (0 + (i : Int))), some (.int M), some (.int n), some (.ref R), some (.ref a), some (.ref x), z8, z9, none, none] ∧ More H4 H', ?_, ?_⟩
        · exact ⟨_, rfl, _, rfl, x, a, r, M, n, p, kk, ks, ks1, bs, row, row1, rowsSet rs, S, L, rfl, md, by omega, la, lg, LL, good, same, fun H' m => ⟨true, rfl, iteF ⟨rfl, m⟩⟩⟩
        rintro σ4 H5 ⟨rfl, m45⟩
        have pen5 := pen4.ofMore m45
        have kR5 := m45 _ _ kR4
        have prs5 : Paired (fun (b : Addr) (x : List Int) => H5 b = some (.lst (x.map V.int))) cs rs := paired_imp (fun _ _ e => m45 _ _ e) prs4
        have LL5 := LL.more m45
        have la5 := la.more m45
        clear pen4 kR4 prs4 LL la m45
        -- the same anew, fewer rows
        refine ⟨fun σ' H' => ∃ (xa xf : Addr) (rs' : List (List Int)) (ksa ksf : List Nat) (rowa rowf : Nat → List Int) (Sa Sf : Int) (La Lf : Nat) (m' : Int), σ' = [some (.ref sa), some (.ref d), some (.int (0 + (i : Int))), some (.int M), some (.int n), some (.ref R), some (.ref a), some (.ref x), some (.ref xa), some (.ref xf), none, none] ∧ Off d H5 H' ∧ Pen H' d c m' ∧ nn ≤ m' ∧ m' ≤ nn + 3800 ∧ SameG n M rs rs' ∧
          LAt K H' C xa M n ksa rowa Sa La ∧ LGood M n p ksa rowa (rowsSet rs') Sa La ∧ LAt K H' C xf M n ksf rowf Sf Lf ∧ LGood M n p ksf rowf (rowsSet (rs.drop 1)) Sf Lf, ?_, ?_⟩
        · refine ⟨_, rfl, _, rfl, _, rfl, _, rfl, _, rfl, d, c, R, cs, rs, m, n, M, p, kk, rfl, pen5, by omega, by omega, md, by omega, kR5, prs5, wid, by omega, fun H6 R' cs' rs' m' S6 b1 b2 kR' prs' wid' ll sg => ?_⟩
          have cl' : cs'.length = rs'.length := Paired.length prs'
          refine fun xa dxa hxa hdxa nea => mk_lot hxa hdxa nea md.mod (by omega) (.inl (SqL.of kR')) (rowsAt_lists prs' wid') (by rw [List.length_map]; omega) (fun _ => by omega) fun H7 ksa rowa Sa La m7 laa lga => ⟨rfl, ?_⟩
          have S7 := S6.more m7
          have Rd : R ≠ d := fun e => by
            obtain ⟨kvs, h, _⟩ := pen_kvs pen5
            rw [e, h] at kR5
            cases kR5
          have kR7 := S7.off _ _ kR5 Rd
          refine ⟨_, rfl, _, rfl, _, rfl, 1, rfl, R, _, rfl, SqL.of kR7, fun q1 hq1 => ?_⟩
          rw [cut_one, ← List.map_drop]
          have mq := new_more (o := .lst ((cs.drop 1).map V.ref)) hq1
          have kq : (upd H7 q1 (.lst ((cs.drop 1).map V.ref))) q1 = some (.lst ((cs.drop 1).map V.ref)) := upd_same
          have S8 := S7.more mq
          have laa8 := laa.more mq
          generalize upd H7 q1 (.lst ((cs.drop 1).map V.ref)) = H8 at kq S8 laa8 ⊢
          have prs8 : Paired (fun (b : Addr) (x : List Int) => H8 b = some (.lst (x.map V.int))) cs rs := paired_imp (fun b x e => S8.off _ _ e fun h => by
            obtain ⟨kvs, hd, _⟩ := pen_kvs pen5
            rw [h, hd] at e
            cases e) prs5
          refine fun xf dxf hxf hdxf nef => mk_lot hxf hdxf nef md.mod (by omega) (.inl (SqL.of kq)) (rowsAt_lists (paired_tl prs8) fun y hy => wid y (List.mem_of_mem_drop hy)) (by rw [List.length_map, List.length_drop]; omega) (fun _ => by omega) fun H9 ksf rowf Sf Lf m9 laf lgf => ⟨rfl, ?_⟩
          have S9 := S8.more m9
          exact ⟨_, _, rfl, xa, xf, rs', ksa, ksf, rowa, rowf, Sa, Sf, La, Lf, m', rfl, S9.off, S9.pen, by omega, by omega, sg, laa8.more m9, lga, laf, lgf⟩
        rintro σ5 H6 ⟨xa, xf, rs', ksa, ksf, rowa, rowf, Sa, Sf, La, Lf, m', rfl, of6, pen6, b1, b2, sg, laa, lga, laf, lgf⟩
        have LL6 := LL5.offD pen5 of6
        have la6 := la5.offD pen5 of6
        have Rd : R ≠ d := fun e => by
          obtain ⟨kvs, h, _⟩ := pen_kvs pen5
          rw [e, h] at kR5
          cases kR5
        have kR6 := of6 _ _ kR5 Rd
        have prs6 : Paired (fun (b : Addr) (x : List Int) => H6 b = some (.lst (x.map V.int))) cs rs := paired_imp (fun b x e => of6 _ _ e fun h => by
          obtain ⟨kvs, hd, _⟩ := pen_kvs pen5
          rw [h, hd] at e
          cases e) prs5
        clear LL5 la5 kR5 prs5 pen5 of6
        -- they are one
        refine ⟨fun σ' H' => σ' = [some (.ref sa), some (.ref d), some (.int (0 + (i : Int))), some (.int M), some (.int n), some (.ref R), some (.ref a), some (.ref x), some (.ref xa), some (.ref xf), none, none] ∧ More H6 H', ?_, ?_⟩
        · refine ⟨_, rfl, _, rfl, xa, a, r, M, n, p, kk, ks, ksa, bs, row, rowa, rowsSet rs', Sa, La, rfl, md, by omega, laa, lga, LL6, good, fun u => (same u).trans (sg u).symm, fun G m => ⟨true, rfl, iteF ?_⟩⟩
          refine ⟨_, rfl, _, rfl, lot_eq (laa.more m) (la6.more m) ⟨_, rfl, ?_⟩⟩
          rw [decide_eq_true ⟨rfl, rfl, forms_eq M0 lg lga sg⟩]
          refine iteF ?_
          have laG := la6.more m
          obtain ⟨dx, t, dd, ts, h1, h2, h3, h4⟩ := id laG
          refine ⟨_, rfl, _, rfl, _, rfl, x, C, dx, _, _, rfl, h1, Z.ic.cl, Z.n3, rfl, ?_⟩
          refine fun xt dxt hxt hdxt net => mk_lot hxt hdxt net md.mod (by omega) (.inr (SqT.of h2)) (rowsAt_tups h3 (formL_wid lg)) (by rw [List.length_map, Paired.length h3]; exact Nat.le_trans formL_len (by omega)) (fun _ => by omega) fun G2 kst rowt St Lt m2 lat lgt => ⟨rfl, ?_⟩
          refine ⟨_, rfl, lot_eq lat (laG.more m2) ⟨_, rfl, ?_⟩⟩
          rw [decide_eq_true ⟨rfl, rfl, forms_eq M0 lg lgt (told_rows lg)⟩]
          exact iteF ⟨rfl, fun b o e => m2 _ _ (m _ _ e)⟩
        rintro σ6 H7 ⟨rfl, m67⟩
        have LL7 := LL6.more m67
        have la7 := la6.more m67
        have laf7 := laf.more m67
        have pen7 := pen6.ofMore m67
        have kR7 := m67 _ _ kR6
        have prs7 : Paired (fun (b : Addr) (x : List Int) => H7 b = some (.lst (x.map V.int))) cs rs := paired_imp (fun _ _ e => m67 _ _ e) prs6
        clear LL6 la6 laf laa pen6 kR6 prs6 m67
        -- fewer rows
        refine ⟨fun σ' H' => σ' = [some (.ref sa), some (.ref d), some (.int (0 + (i : Int))), some (.int M), some (.int n), some (.ref R), some (.ref a), some (.ref x), some (.ref xa), some (.ref xf), none, none] ∧ More H7 H', ?_, ?_⟩
        · refine ⟨_, rfl, _, rfl, lot_eq laf7 la7 ?_⟩
          refine ⟨_, rfl, _, rfl, _, rfl, 1, rfl, R, _, rfl, SqL.of kR7, fun q1 hq1 => ?_⟩
          rw [cut_one, ← List.map_drop]
          have mq := new_more (o := .lst ((cs.drop 1).map V.ref)) hq1
          have kq : (upd H7 q1 (.lst ((cs.drop 1).map V.ref))) q1 = some (.lst ((cs.drop 1).map V.ref)) := upd_same
          generalize upd H7 q1 (.lst ((cs.drop 1).map V.ref)) = G1 at mq kq ⊢
          refine ⟨q1, _, rs.drop 1, n, M, p, kk, rfl, md, by omega, .inl (SqL.of kq), rowsAt_lists (paired_tl (paired_imp (fun _ _ e => mq _ _ e) prs7)) (fun y hy => wid y (List.mem_of_mem_drop hy)), fun G2 a2 r2 ks2 bs2 row2 LL2 good2 same2 _ _ m2 => ?_⟩
          refine ⟨a2, r2, n, M, p, kk, ks2, bs2, row2, rfl, md, LL2, good2, by omega, fun G3 tf ts' zs row' mem pz gz sz rz m3 ntf ktf pts => ?_⟩
          refine ⟨_, rfl, a, r, n, M, p, kk, ks, bs, row, rfl, md, LL7.more fun b o e => m3 _ _ (m2 _ _ (mq _ _ e)), good, by omega, fun G4 tg ts2 zs2 row2' mem2 pz2 gz2 sz2 rz2 m4 ntg ktg pts2 => ?_⟩
          have e1 := (form_one M0 pz lgf.pv gz lgf.good rz lgf.redd fun u => (sz u).trans ((same2 u).trans (lgf.same u).symm)).2
          have e2 := (form_one M0 pz2 lg.pv gz2 lg.good rz2 lg.redd fun u => (sz2 u).trans ((same u).trans (lg.same u).symm)).2
          refine ⟨_, _, dp_R (SqT.of (m4 _ _ ktf)) (tups_R (paired_imp (fun _ _ e => m4 _ _ e) pts)), dp_R (SqT.of ktg) (tups_R pts2), shaped_R _, shaped_R _, rfl, _, rfl, ?_⟩
          rw [eqv_R, e1, e2]
          rw [show decide (V.bl (decide (M = M ∧ n = n ∧ formL n ksf rowf = formL n ks1 row1)) = V.bl (decide (formL n ksf rowf = formL n ks1 row1))) = true from decide_eq_true (congrArg V.bl (by rw [decide_eq_decide]; exact ⟨fun h => h.2.2, fun h => ⟨rfl, rfl, h⟩⟩))]
          exact iteF ⟨rfl, fun b o e => m4 _ _ (m3 _ _ (m2 _ _ (mq _ _ e)))⟩
        rintro σ7 H8 ⟨rfl, m78⟩
        have la8 := la7.more m78
        have pen8 := pen7.ofMore m78
        have kR8 := m78 _ _ kR7
        have prs8 : Paired (fun (b : Addr) (x : List Int) => H8 b = some (.lst (x.map V.int))) cs rs := paired_imp (fun _ _ e => m78 _ _ e) prs7
        clear la7 laf7 LL7 pen7 kR7 prs7 m78
        obtain ⟨dx, t, dd, ts, h1, h2, h3, h4⟩ := id la8
        refine ⟨_, rfl, _, rfl, x, C, dx, _, _, rfl, h1, Z.ic.cl, Z.n3, rfl, lot_neT la8 (SqT.of h2) nf ⟨_, rfl, iteF ?_⟩⟩
        refine ⟨_, rfl, _, rfl, _, rfl, _, _, rfl, rfl, _, rfl, R, rfl, ⟨_, SqL.of kR8⟩, fun D hD => ?_⟩
        refine lc_rel (n := 11) (D := D) (H1 := H8) (walk_list (xs := cs.map V.ref)) (fun i v H' => ∃ (x : List Int), (rs.map fun r => r ++ [0])[i]? = some x ∧ ∃ b : Addr, v = .ref b ∧ H' b = some (.lst (x.map V.int))) (fun i v H' H'' m ⟨x, e1, b, e2, e3⟩ => ⟨x, e1, b, e2, m _ _ e3⟩) hD (fun H' m => SqL.of (m _ _ kR8)) (by rw [List.length_map]; omega) (fun _ => rfl) ?_ ?_
        · intro j y G Q7 hy m7 m7' ⟨l0, hl0⟩ q7
          obtain ⟨b0, hb0, rfl⟩ := map_at hy
          obtain ⟨y, hy', kx⟩ := paired_at prs8 hb0
          have ly := wid y (List.mem_of_getElem? hy')
          refine ⟨_, rfl, b0, _, rfl, .inl (SqL.of (m7 _ _ kx)), fun l hl => ?_⟩
          have ml := new_more (o := .lst (y.map V.int)) hl
          have kl : (upd G l (.lst (y.map V.int))) l = some (.lst (y.map V.int)) := upd_same
          have kD1 := ml _ _ hl0
          generalize upd G l (.lst (y.map V.int)) = G1 at ml kl kD1 ⊢
          refine ⟨by show 1 ≤ sizeLine; decide, fun l2 hl2 => ?_⟩
          have ml2 := new_more (o := .lst [V.int 0]) hl2
          have kl2 : (upd G1 l2 (.lst [V.int 0])) l2 = some (.lst [V.int 0]) := upd_same
          have kD2 := ml2 _ _ kD1
          have kl' := ml2 _ _ kl
          generalize upd G1 l2 (.lst [V.int 0]) = G2 at ml2 kl2 kD2 kl' ⊢
          refine ⟨l, l2, _, _, rfl, rfl, kl', kl2, by rw [List.length_map]; exact Nat.le_of_lt (small1000 (by show y.length + 1 ≤ 1000; omega)), fun l3 hl3 => ?_⟩
          refine q7 _ _ (fun b o e => new_more hl3 _ _ (ml2 _ _ (ml _ _ e))) ⟨y ++ [0], by rw [List.getElem?_map, hy']; rfl, l3, rfl, ?_⟩
          rw [del_ne (ne_of_none kD2 hl3).symm, upd_same, List.map_append]
          rfl
        · intro G9 G rs2 rl mG mH nG al hD9
          have prs9 : Paired (fun v x => ∃ b : Addr, v = .ref b ∧ G9 b = some (.lst (x.map V.int))) rs2 (rs.map fun r => r ++ [0]) := paired_of (by rw [rl, List.length_map, List.length_map, cl]) fun i x y hx hy => by
            obtain ⟨x', e1, b, e2, e3⟩ := al i x hx
            rw [hy] at e1
            cases e1
            exact ⟨b, e2, mH _ _ e3⟩
          obtain ⟨cs2, ecs, pcs⟩ := refs_ofG prs9
          rw [ecs] at hD9
          have m89 : More H8 G9 := fun b o e => mH _ _ (mG _ _ e)
          refine fun xw dxw hxw hdxw new => mk_lot (n := n + 1) hxw hdxw new md.mod (by omega) (.inl (SqL.of hD9)) (rowsAt_lists pcs fun y hy => ?_) (by rw [List.length_map, Paired.length pcs, List.length_map]; omega) (fun _ => by omega) fun G10 ksw roww Sw Lw m10 law lgw => ⟨rfl, ?_⟩
          · obtain ⟨y', hy', rfl⟩ := List.mem_map.mp hy
            rw [List.length_append, wid y' hy']
            rfl
          have m810 : More H8 G10 := fun b o e => m10 _ _ (m89 _ _ e)
          refine lot_eq (la8.more m810) law ⟨_, rfl, ?_⟩
          rw [decide_eq_false (fun h => by have := h.2.1; omega)]
          exact iteF ⟨_, _, _, _, _, _, _, _, m', rfl, pen8.ofMore m810, by omega, by omega⟩
      · rintro σ' H1 ⟨z2, z3, z4, z5, z6, z7, z8, z9, nn, rfl, pen, n0, n1⟩
        exact ⟨_, _, _, _, _, _, _, _, nn, rfl, pen, n0, by omega⟩
    rintro σ' H1 ⟨z2, z3, z4, z5, z6, z7, z8, z9, nn, rfl, pen, n0, n1⟩
    refine ⟨_, rfl, d, c, nn, rfl, pen, n0, by omega, fun M p kk H2 md pn2 of2 => ⟨_, rfl, d, c, nn + 2, 401, rfl, pn2, by decide, by decide, by omega, by omega, fun ra H3 r0 r1 dr => ?_⟩⟩
    obtain ⟨n, rfl⟩ : ∃ n : Nat, ra = (n : Int) := ⟨ra.toNat, (Int.toNat_of_nonneg r0).symm⟩
    obtain ⟨M2, M27, pr, _⟩ := md.mod.facts
    refine fun x dx hx hdx ne => mk_lot (b := tE) (rs := []) hx hdx ne md.mod (by omega) (.inr (zE _)) ⟨rfl, fun i y r h => nomatch h⟩ (by decide) (fun h => absurd rfl h) fun H4 ks row S L m4 la lg => ⟨rfl, ?_⟩
    obtain ⟨ef, eS, eL⟩ := lot_none (by omega) md.two lg
    obtain ⟨dy, t, dd, ts, h1, h2, h3, h4⟩ := la
    rw [ef] at h3
    subst eS eL
    refine ⟨_, rfl, x, C, dy, _, _, rfl, h1, Z.ic.cl, Z.n3, rfl, _, rfl, x, C, dy, _, _, rfl, h1, Z.ic.cl, Z.n4, rfl, _, rfl, x, C, dy, _, _, rfl, h1, Z.ic.cl, Z.n5, rfl, by show 3 ≤ sizeLine; decide, fun t1 ht1 => ?_⟩
    have m1 := new_more (o := .tup [.ref t, .int 1, .int ((0 : Nat) : Int)]) ht1
    refine ⟨by show 0 ≤ sizeLine; exact Nat.zero_le _, fun t0 ht0 => ⟨by show 3 ≤ sizeLine; decide, fun t2 ht2 => ?_⟩⟩
    have m0 := new_more (o := .tup []) ht0
    have k1 := m0 _ _ (show (upd H4 t1 (.tup [.ref t, .int 1, .int ((0 : Nat) : Int)])) t1 = _ from upd_same)
    have k0 : (upd (upd H4 t1 (.tup [.ref t, .int 1, .int ((0 : Nat) : Int)])) t0 (.tup [])) t0 = some (.tup []) := upd_same
    have kt := m0 _ _ (m1 _ _ h2)
    have hts : ts = [] := by
      cases h3
      rfl
    rw [hts] at kt
    generalize upd (upd H4 t1 (.tup [.ref t, .int 1, .int ((0 : Nat) : Int)])) t0 (.tup []) = H5 at k1 k0 kt ht2 ⊢
    have m2 := new_more (o := .tup [.ref t0, .int 1, .int 0]) ht2
    refine ⟨.tuple [dR [], .int 1, .int 0], .tuple [dR [], .int 1, .int 0], .tup (SqT.of (m2 _ _ k1)) (.cons (dp_R (SqT.of (m2 _ _ kt)) .nil) (.cons (.int _) (.cons (.int _) .nil))), .tup (SqT.of upd_same) (.cons (dp_R (SqT.of (m2 _ _ k0)) .nil) (.cons (.int _) (.cons (.int _) .nil))), shaped_E, shaped_E, ?_⟩
    rw [eqv_E]
    exact fin _
end
end K02

/-! Fd2: how the parameters are bound where any of the defaults fill up. -/
namespace Gd
open PySem PySem.Spec PyProof.Rows L2
theorem FunE.bindsJ {K : PySem.W.Frag} {x qual : Str} {st : Stmt} {dvs : List V} {f : Addr} {fd : FuncData} {ps : List Str} (F : FunE K x qual st dvs f fd) (n j : Nat) (hd : dvs ≠ []) (hn : n + (dvs.length - j) = ps.length)
    (h : ∀ (T : Addr) (kV doc pm : Value) (an : Option Addr) (cdv ct : Value) (us its : List Value), us.length = n → its.length = dvs.length →
      ∃ k, bindArgs (PySem.W.fnOf x qual (defArgs st) (defBody st) (defScope st) (.ref T) kV doc pm an cdv ct) ⟨us, []⟩ = seqItems? (.ref T) >>= k ∧ k (some its.toArray) = pure (ps.zip (us ++ its.drop j))) : ∃ ds, Vals (dvs.drop j) ds ∧ Binds K fd ps ds :=
  F.fn.binds1 n j hd hn h
end Gd

namespace Gd
open PySem PySem.Spec PyProof.Rows L2
/-! the end of a law whose top works constants out (loose names): what is known of them is handed on -/
theorem walkX {l : PySem.W.OpenLaw} {n k : Nat} {q : Program} {loose : List Str} {XP : (Str → Option Value) → Heap → Prop}
    {YP : World → Heap → Prop} {d : DefRec} {K : Params → PySem.W.Frag} {sp : World → Sp} {x : Str}
    (hn : l.most = some n) (hn2 : n ≤ sizeLine) (hdf : d.params.defaults = []) (hr : Room k callerA)
    (hY : ∀ (w : World) (h : Heap), YP w h → (K w.params).In h)
    (F : ∀ (w : World) (mg : Str → Option Value) (fa : Addr) (h : Heap), (K w.params).In h → h.Ns mainGlobals mg → mg d.name = some (.ref fa) → XP mg h →
      ∃ fd : FuncData, (∀ (s : Shared) (u : Value), BindsTo s fd ⟨[u], []⟩ [(x, u)]) ∧
        ∀ base : Heap, (K w.params).In base → base.Ns mainGlobals mg → FnG l.prog w (K w.params) mg base CX0 k fa fd [x] (sp w))
    (hsp : ∀ (w : World) (H : Hp) (a : Addr) (ns : List Int), ns.length ≤ n → Only H → SqL (K w.params) H a (ns.map V.int) →
      sp w [.ref a] H (fun v _ => v = .bl true) fun _ _ _ => False) :
    PySem.W.WalkO q loose XP YP l.row.toRowW d [] (fun f vs => PySem.call f vs) := by
  refine Att.attach_call hn hdf ?_
  intro w s₀ s₁ mg mb fa o pm cd doc a vs ns G Y ho hd hcd hmg hobj hints hlen hgens
  have kin := hY w _ Y
  obtain ⟨fd, binds, all⟩ := F w mg fa _ kin G.T.g hmg G.X
  obtain ⟨H, base, E⟩ := entry_is (P := l.prog) (w := w) kin G.T.g G.T.b G.T.builtins G.T.nolimit hgens hobj hints (Nat.le_trans hlen hn2)
  have run := (all base E.kin E.glob).go callerA [] s₁ H ⟨[.ref a], []⟩ [.ref a] [.ref a] _ _ rfl hr E.env (binds s₁ (.ref a)) (.cons rfl .nil)
    (hsp w H a ns hlen E.only E.script)
  refine codeAny_mono run ?_
  intro res s' hres
  match res, hres with
  | .ok (.ret u), ⟨v, H', os, bare, un, ok', rel, e⟩ =>
    subst e
    cases (show u = Value.bool true from rel)
    exact ⟨rfl, E.old H' s' un ok', os, bare⟩
end Gd

namespace B5
abbrev PMASK : Int := 2 ^ 768 - 1
end B5

namespace K02
open PySem L2 Gd B5
/-! ### what the top has written -/
structure ErIn (K : PySem.W.Frag) (x : Str) (C : Addr) : Prop where
  aC : PySem.W.nsIn K mainGlobals x = some (some (.ref C))
  kC : PySem.W.keepIn K (.ref C) = true
  ga : PySem.W.findIn K (.ref C) "__getattribute__" = some (some (.builtin "BaseException.__getattribute__"))
  gg : PySem.W.findIn K (.ref C) "__getattr__" = some none
  be : PySem.W.subIn K (.ref C) (.type "BaseException") = some true
  hd : PySem.W.hasDictIn K C = true
structure IniIn (K : PySem.W.Frag) (q : Str) (st : Stmt) (C fI : Addr) (oc kV dc pm cd ct : Value) (od an : Option Addr) (sl : Array (Option Value)) (nm q' : Str) (N : Addr) (bs : List Value) (ce : Addr) (sn : List Str) (sub : List Value) (ab : Bool) (col : Option Bool) (dd : Option Addr) (m0 m1 m2 m3 m5 : Option Value) : Prop where
  xL : K.lookup C = some (excClassObj nm q' C N bs [.ref ce, .type "ValueError", .type "Exception", .type "BaseException", .type "object"] true sn sub ab col dd m0 m1 m2 m3 m5 "ValueError.__new__")
  sa : PySem.W.findIn K (.ref C) "__setattr__" = some (some (.builtin "object.__setattr__"))
  tC : PySem.W.typeIn K (.ref C) = some (.type "type")
  iC : PySem.W.findIn K (.ref C) "__init__" = some (some (.ref fI))
  tI : PySem.W.typeIn K (.ref fI) = some (.type "function")
  lI : K.lookup fI = some ⟨oc, od, .func (PySem.W.fnOf "__init__" q (defArgs st) (defBody st) (defScope st) .none kV dc pm an cd ct), sl⟩
  cI : PySem.W.codeIn K cd q = true
  kI : PySem.W.keepIn K (.ref fI) = true
theorem er_of {K : PySem.W.Frag} {h : Heap} {mg : Str → Option Value} (X : K.In h) (G : h.Ns mainGlobals mg) {x q : Str} {st : Stmt} {fs : List Str} {C fI : Addr} {oc kV dc pm cd ct : Value} {od an : Option Addr} {sl : Array (Option Value)} {nm q' : Str} {N : Addr} {bs : List Value} {ce : Addr} {sn : List Str} {sub : List Value} {ab : Bool} {col : Option Bool} {dd : Option Addr} {m0 m1 m2 m3 m5 : Option Value}
    (E : ErIn K x C) (I : IniIn K q st C fI oc kV dc pm cd ct od an sl nm q' N bs ce sn sub ab col dd m0 m1 m2 m3 m5) (no : ∀ g ∈ fs, PySem.W.findIn K (.ref C) g = some none)
    (b : ∀ (kV doc pm : Value) (an : Option Addr) (cdv ct : Value) (us : List Value), us.length = (("self" : Str) :: fs).length → bindArgs (PySem.W.fnOf "__init__" q (defArgs st) (defBody st) (defScope st) .none kV doc pm an cdv ct) ⟨us, []⟩ = pure ((("self" : Str) :: fs).zip us)) :
    Er K mg x q C fI fs st (PySem.W.fnOf "__init__" q (defArgs st) (defBody st) (defScope st) .none kV dc pm an cd ct) := by
  have F := fun_mk (st := st) I.lI I.cI I.kI
  exact ⟨⟨⟨nm, q', N, bs, _, sn, sub, ab, col, dd, m0, m1, m2, m3, m5, I.xL, by show PySem.HandSPX.refsVE [.type "ValueError", .type "Exception", .type "BaseException", .type "object"] = true; decide +kernel⟩, I.sa, E.be, I.tC, E.kC⟩, I.iC, I.tI, F, F.binds b, no, PySem.W.mg_of X G E.aC⟩
theorem all_mk {l : PySem.W.OpenLaw} {w : World} {K : PySem.W.Frag} {h : Heap} {mg : Str → Option Value} {fa gLaw CN CR C D D2 FG ce : Addr} (X : K.In h) (G : h.Ns mainGlobals mg) (hfa : mg "law" = some (.ref fa)) (lo0 : ∃ t, mg "PIECE_MASK" = some (.int B5.PMASK t))
    {i0 : Addr} {oc0 kV0 dc0 pm0 cd0 ct0 : Value} {od0 an0 : Option Addr} {sl0 : Array (Option Value)} {nm0 q0 : Str} {N0 : Addr} {bs0 : List Value} {sn0 : List Str} {sub0 : List Value} {ab0 : Bool} {col0 : Option Bool} {dd0 : Option Addr} {m00 m10 m20 m30 m50 : Option Value}
    {i1 : Addr} {oc1 kV1 dc1 pm1 cd1 ct1 : Value} {od1 an1 : Option Addr} {sl1 : Array (Option Value)} {nm1 q1 : Str} {N1 : Addr} {bs1 : List Value} {sn1 : List Str} {sub1 : List Value} {ab1 : Bool} {col1 : Option Bool} {dd1 : Option Addr} {m01 m11 m21 m31 m51 : Option Value}
    {gf0 : Addr} {oodf0 oanf0 : Option Addr} {oslf0 : Array (Option Value)} {oocf0 okVf0 odcf0 opmf0 ocdf0 octf0 : Value}
    {gf1 : Addr} {oodf1 oanf1 : Option Addr} {oslf1 : Array (Option Value)} {oocf1 okVf1 odcf1 opmf1 ocdf1 octf1 : Value}
    {gf2 : Addr} {oodf2 oanf2 : Option Addr} {oslf2 : Array (Option Value)} {oocf2 okVf2 odcf2 opmf2 ocdf2 octf2 : Value}
    {gf3 : Addr} {oodf3 oanf3 : Option Addr} {oslf3 : Array (Option Value)} {oocf3 okVf3 odcf3 opmf3 ocdf3 octf3 : Value}
    {gf4 : Addr} {oodf4 oanf4 : Option Addr} {oslf4 : Array (Option Value)} {oocf4 okVf4 odcf4 opmf4 ocdf4 octf4 : Value}
    {gf5 : Addr} {oodf5 oanf5 : Option Addr} {oslf5 : Array (Option Value)} {oocf5 okVf5 odcf5 opmf5 ocdf5 octf5 : Value}
    {gf6 : Addr} {oodf6 oanf6 : Option Addr} {oslf6 : Array (Option Value)} {oocf6 okVf6 odcf6 opmf6 ocdf6 octf6 : Value}
    {gf7 : Addr} {oodf7 oanf7 : Option Addr} {oslf7 : Array (Option Value)} {oocf7 okVf7 odcf7 opmf7 ocdf7 octf7 : Value}
    {gf8 : Addr} {oodf8 oanf8 : Option Addr} {oslf8 : Array (Option Value)} {oocf8 okVf8 odcf8 opmf8 ocdf8 octf8 : Value}
    {gf9 : Addr} {oodf9 oanf9 : Option Addr} {oslf9 : Array (Option Value)} {oocf9 okVf9 odcf9 opmf9 ocdf9 octf9 : Value}
    {gf10 : Addr} {oodf10 oanf10 : Option Addr} {oslf10 : Array (Option Value)} {oocf10 okVf10 odcf10 opmf10 ocdf10 octf10 : Value}
    {gf11 : Addr} {oodf11 oanf11 : Option Addr} {oslf11 : Array (Option Value)} {oocf11 okVf11 odcf11 opmf11 ocdf11 octf11 : Value}
    {gf12 : Addr} {oodf12 oanf12 : Option Addr} {oslf12 : Array (Option Value)} {oocf12 okVf12 odcf12 opmf12 ocdf12 octf12 : Value}
    {gf13 : Addr} {oodf13 oanf13 : Option Addr} {oslf13 : Array (Option Value)} {oocf13 okVf13 odcf13 opmf13 ocdf13 octf13 : Value}
    {gf14 : Addr} {oodf14 oanf14 : Option Addr} {oslf14 : Array (Option Value)} {oocf14 okVf14 odcf14 opmf14 ocdf14 octf14 : Value}
    {gf15 : Addr} {oodf15 oanf15 : Option Addr} {oslf15 : Array (Option Value)} {oocf15 okVf15 odcf15 opmf15 ocdf15 octf15 : Value}
    {gf16 : Addr} {oodf16 oanf16 : Option Addr} {oslf16 : Array (Option Value)} {oocf16 okVf16 odcf16 opmf16 ocdf16 octf16 : Value}
    {gf17 : Addr} {oodf17 oanf17 : Option Addr} {oslf17 : Array (Option Value)} {oocf17 okVf17 odcf17 opmf17 ocdf17 octf17 : Value}
    {gf18 : Addr} {oodf18 oanf18 : Option Addr} {oslf18 : Array (Option Value)} {oocf18 okVf18 odcf18 opmf18 ocdf18 octf18 : Value}
    {gf19 : Addr} {oodf19 oanf19 : Option Addr} {oslf19 : Array (Option Value)} {oocf19 okVf19 odcf19 opmf19 ocdf19 octf19 : Value}
    {gf20 : Addr} {oodf20 oanf20 : Option Addr} {oslf20 : Array (Option Value)} {oocf20 okVf20 odcf20 opmf20 ocdf20 octf20 : Value}
    {gf21 : Addr} {oodf21 oanf21 : Option Addr} {oslf21 : Array (Option Value)} {oocf21 okVf21 odcf21 opmf21 ocdf21 octf21 : Value}
    {gf22 : Addr} {oodf22 oanf22 : Option Addr} {oslf22 : Array (Option Value)} {oocf22 okVf22 odcf22 opmf22 ocdf22 octf22 : Value}
    {gf23 : Addr} {oodf23 oanf23 : Option Addr} {oslf23 : Array (Option Value)} {oocf23 okVf23 odcf23 opmf23 ocdf23 octf23 : Value}
    {gf24 : Addr} {oodf24 oanf24 : Option Addr} {oslf24 : Array (Option Value)} {oocf24 okVf24 odcf24 opmf24 ocdf24 octf24 : Value}
    {gf25 : Addr} {oodf25 oanf25 : Option Addr} {oslf25 : Array (Option Value)} {oocf25 okVf25 odcf25 opmf25 ocdf25 octf25 : Value}
    {gf26 : Addr} {oodf26 oanf26 : Option Addr} {oslf26 : Array (Option Value)} {oocf26 okVf26 odcf26 opmf26 ocdf26 octf26 : Value}
    {gf27 : Addr} {oodf27 oanf27 : Option Addr} {oslf27 : Array (Option Value)} {oocf27 okVf27 odcf27 opmf27 ocdf27 octf27 : Value}
    {gf28 : Addr} {oodf28 oanf28 : Option Addr} {oslf28 : Array (Option Value)} {oocf28 okVf28 odcf28 opmf28 ocdf28 octf28 : Value}
    {gf29 : Addr} {oodf29 oanf29 : Option Addr} {oslf29 : Array (Option Value)} {oocf29 okVf29 odcf29 opmf29 ocdf29 octf29 : Value}
    {gf30 : Addr} {oodf30 oanf30 : Option Addr} {oslf30 : Array (Option Value)} {oocf30 okVf30 odcf30 opmf30 ocdf30 octf30 : Value}
    {gf31 : Addr} {oodf31 oanf31 : Option Addr} {oslf31 : Array (Option Value)} {oocf31 okVf31 odcf31 opmf31 ocdf31 octf31 : Value}
    {gf32 : Addr} {oodf32 oanf32 : Option Addr} {oslf32 : Array (Option Value)} {oocf32 okVf32 odcf32 opmf32 ocdf32 octf32 : Value}
    {gf33 : Addr} {oodf33 oanf33 : Option Addr} {oslf33 : Array (Option Value)} {oocf33 okVf33 odcf33 opmf33 ocdf33 octf33 : Value}
    {gf34 : Addr} {oodf34 oanf34 : Option Addr} {oslf34 : Array (Option Value)} {oocf34 okVf34 odcf34 opmf34 ocdf34 octf34 : Value}
    {gf35 : Addr} {oodf35 oanf35 : Option Addr} {oslf35 : Array (Option Value)} {oocf35 okVf35 odcf35 opmf35 ocdf35 octf35 : Value}
    {gf36 : Addr} {oodf36 oanf36 : Option Addr} {oslf36 : Array (Option Value)} {oocf36 okVf36 odcf36 opmf36 ocdf36 octf36 : Value}
    {gf37 : Addr} {oodf37 oanf37 : Option Addr} {oslf37 : Array (Option Value)} {oocf37 okVf37 odcf37 opmf37 ocdf37 octf37 : Value}
    {gm0_0 : Addr} {oodm0_0 oanm0_0 : Option Addr} {oslm0_0 : Array (Option Value)} {oocm0_0 okVm0_0 odcm0_0 opmm0_0 ocdm0_0 octm0_0 : Value}
    {gm0_1 : Addr} {oodm0_1 oanm0_1 : Option Addr} {oslm0_1 : Array (Option Value)} {oocm0_1 okVm0_1 odcm0_1 opmm0_1 ocdm0_1 octm0_1 : Value}
    {oodF oanF : Option Addr} {oslF : Array (Option Value)} {oocF okVF odcF opmF ocdF octF : Value}
    {TDm0_0 : Addr} {tcm0_0 : Value} {tdm0_0 : Option Addr} {tnm0_0 : Nat} {tsm0_0 : Array (Option Value)}
    {tEm0_0 : Addr} {eom0_0 : Option Addr} {enm0_0 : Nat} {esm0_0 : Array (Option Value)}
    {tg0 : Tok}
    {tg1 : Tok}
    {tg2 : Tok}
    {tg3 : Tok}
    (e0 : ErIn K "BadNumber" CN)
    (j0 : IniIn K "BadNumber.__init__" sBadNumber CN i0 oc0 kV0 dc0 pm0 cd0 ct0 od0 an0 sl0 nm0 q0 N0 bs0 ce sn0 sub0 ab0 col0 dd0 m00 m10 m20 m30 m50)
    (n0_0 : PySem.W.findIn K (.ref CN) "what" = some none)
    (n0_1 : PySem.W.findIn K (.ref CN) "number" = some none)
    (e1 : ErIn K "BadRow" CR)
    (j1 : IniIn K "BadRow.__init__" sBadRow CR i1 oc1 kV1 dc1 pm1 cd1 ct1 od1 an1 sl1 nm1 q1 N1 bs1 ce sn1 sub1 ab1 col1 dd1 m01 m11 m21 m31 m51)
    (n1_0 : PySem.W.findIn K (.ref CR) "row" = some none)
    (aC0 : PySem.W.nsIn K mainGlobals "Lot" = some (some (.ref C)))
    (pg0 : PySem.W.plainGet K C Str.empty = true)
    (hd0 : PySem.W.hasDictIn K C = true)
    (po0 : PySem.W.plainOver K C = true)
    (sa0 : PySem.W.findIn K (.ref C) "__setattr__" = some (some (.builtin "object.__setattr__")))
    (ha0 : PySem.W.findIn K (.ref C) "__class__" = some (some (.builtin "object.__class__")))
    (hn0 : PySem.W.specialIn K (.builtin "object.__class__") "__get__" = some (some (.builtin "getset_descriptor.__get__")))
    (ht0 : PySem.W.takesIn K (.builtin "object.__class__") = some true)
    (hm0 : PySem.W.mroIn K C (.type "object") = some true)
    (me0 : PySem.W.kitOne K (.ref C) (.ref C) = some true)
    (at0_0 : PySem.W.findIn K (.ref C) "m" = some none)
    (at0_1 : PySem.W.findIn K (.ref C) "width" = some none)
    (at0_2 : PySem.W.findIn K (.ref C) "rows" = some none)
    (at0_3 : PySem.W.findIn K (.ref C) "size" = some none)
    (at0_4 : PySem.W.findIn K (.ref C) "least" = some none)
    (at0_5 : PySem.W.findIn K (.ref C) "_pivots" = some none)
    (no0_int : PySem.W.kitOne K (.type "int") (.ref C) = some false)
    (no0_bool : PySem.W.kitOne K (.type "bool") (.ref C) = some false)
    (no0_NoneType : PySem.W.kitOne K (.type "NoneType") (.ref C) = some false)
    (no0_str : PySem.W.kitOne K (.type "str") (.ref C) = some false)
    (no0_list : PySem.W.kitOne K (.type "list") (.ref C) = some false)
    (no0_tuple : PySem.W.kitOne K (.type "tuple") (.ref C) = some false)
    (no0_dict : PySem.W.kitOne K (.type "dict") (.ref C) = some false)
    (ni0 : PySem.W.kitOne K (.ref C) (.type "int") = some false)
    (nf0_tuple : PySem.W.notFirst K C (.type "tuple") = true)
    (mk0 : PySem.W.makesIn K C = true)
    (kp0 : PySem.W.keepIn K (.ref C) = true)
    (af0 : PySem.W.nsIn K mainGlobals "is_integer" = some (some (.ref gf0)))
    (lf0 : K.lookup gf0 = some ⟨oocf0, oodf0, .func (PySem.W.fnOf "is_integer" "is_integer" (defArgs sIsI) (defBody sIsI) (defScope sIsI) .none okVf0 odcf0 opmf0 oanf0 ocdf0 octf0), oslf0⟩)
    (cf0 : PySem.W.codeIn K ocdf0 "is_integer" = true)
    (kf0 : PySem.W.keepIn K (.ref gf0) = true)
    (af1 : PySem.W.nsIn K mainGlobals "is_integers" = some (some (.ref gf1)))
    (lf1 : K.lookup gf1 = some ⟨oocf1, oodf1, .func (PySem.W.fnOf "is_integers" "is_integers" (defArgs sIsIs) (defBody sIsIs) (defScope sIsIs) .none okVf1 odcf1 opmf1 oanf1 ocdf1 octf1), oslf1⟩)
    (cf1 : PySem.W.codeIn K ocdf1 "is_integers" = true)
    (kf1 : PySem.W.keepIn K (.ref gf1) = true)
    (af2 : PySem.W.nsIn K mainGlobals "is_row" = some (some (.ref gf2)))
    (lf2 : K.lookup gf2 = some ⟨oocf2, oodf2, .func (PySem.W.fnOf "is_row" "is_row" (defArgs sRow) (defBody sRow) (defScope sRow) .none okVf2 odcf2 opmf2 oanf2 ocdf2 octf2), oslf2⟩)
    (cf2 : PySem.W.codeIn K ocdf2 "is_row" = true)
    (kf2 : PySem.W.keepIn K (.ref gf2) = true)
    (af3 : PySem.W.nsIn K mainGlobals "prime_power" = some (some (.ref gf3)))
    (lf3 : K.lookup gf3 = some ⟨oocf3, oodf3, .func (PySem.W.fnOf "prime_power" "prime_power" (defArgs sPP) (defBody sPP) (defScope sPP) .none okVf3 odcf3 opmf3 oanf3 ocdf3 octf3), oslf3⟩)
    (cf3 : PySem.W.codeIn K ocdf3 "prime_power" = true)
    (kf3 : PySem.W.keepIn K (.ref gf3) = true)
    (af4 : PySem.W.nsIn K mainGlobals "check_prime" = some (some (.ref gf4)))
    (lf4 : K.lookup gf4 = some ⟨oocf4, oodf4, .func (PySem.W.fnOf "check_prime" "check_prime" (defArgs sCP) (defBody sCP) (defScope sCP) .none okVf4 odcf4 opmf4 oanf4 ocdf4 octf4), oslf4⟩)
    (cf4 : PySem.W.codeIn K ocdf4 "check_prime" = true)
    (kf4 : PySem.W.keepIn K (.ref gf4) = true)
    (af5 : PySem.W.nsIn K mainGlobals "digits" = some (some (.ref gf5)))
    (lf5 : K.lookup gf5 = some ⟨oocf5, oodf5, .func (PySem.W.fnOf "digits" "digits" (defArgs sDg) (defBody sDg) (defScope sDg) .none okVf5 odcf5 opmf5 oanf5 ocdf5 octf5), oslf5⟩)
    (cf5 : PySem.W.codeIn K ocdf5 "digits" = true)
    (kf5 : PySem.W.keepIn K (.ref gf5) = true)
    (af6 : PySem.W.nsIn K mainGlobals "pack" = some (some (.ref gf6)))
    (lf6 : K.lookup gf6 = some ⟨oocf6, oodf6, .func (PySem.W.fnOf "pack" "pack" (defArgs sPack) (defBody sPack) (defScope sPack) .none okVf6 odcf6 opmf6 oanf6 ocdf6 octf6), oslf6⟩)
    (cf6 : PySem.W.codeIn K ocdf6 "pack" = true)
    (kf6 : PySem.W.keepIn K (.ref gf6) = true)
    (af7 : PySem.W.nsIn K mainGlobals "number_at" = some (some (.ref gf7)))
    (lf7 : K.lookup gf7 = some ⟨oocf7, oodf7, .func (PySem.W.fnOf "number_at" "number_at" (defArgs sAt) (defBody sAt) (defScope sAt) .none okVf7 odcf7 opmf7 oanf7 ocdf7 octf7), oslf7⟩)
    (cf7 : PySem.W.codeIn K ocdf7 "number_at" = true)
    (kf7 : PySem.W.keepIn K (.ref gf7) = true)
    (af8 : PySem.W.nsIn K mainGlobals "unpack" = some (some (.ref gf8)))
    (lf8 : K.lookup gf8 = some ⟨oocf8, oodf8, .func (PySem.W.fnOf "unpack" "unpack" (defArgs sUn) (defBody sUn) (defScope sUn) .none okVf8 odcf8 opmf8 oanf8 ocdf8 octf8), oslf8⟩)
    (cf8 : PySem.W.codeIn K ocdf8 "unpack" = true)
    (kf8 : PySem.W.keepIn K (.ref gf8) = true)
    (af9 : PySem.W.nsIn K mainGlobals "pivots_of" = some (some (.ref gf9)))
    (lf9 : K.lookup gf9 = some ⟨oocf9, oodf9, .func (PySem.W.fnOf "pivots_of" "pivots_of" (defArgs sPo) (defBody sPo) (defScope sPo) .none okVf9 odcf9 opmf9 oanf9 ocdf9 octf9), oslf9⟩)
    (cf9 : PySem.W.codeIn K ocdf9 "pivots_of" = true)
    (kf9 : PySem.W.keepIn K (.ref gf9) = true)
    (af10 : PySem.W.nsIn K mainGlobals "put_row" = some (some (.ref gf10)))
    (lf10 : K.lookup gf10 = some ⟨oocf10, oodf10, .func (PySem.W.fnOf "put_row" "put_row" (defArgs sPut) (defBody sPut) (defScope sPut) .none okVf10 odcf10 opmf10 oanf10 ocdf10 octf10), oslf10⟩)
    (cf10 : PySem.W.codeIn K ocdf10 "put_row" = true)
    (kf10 : PySem.W.keepIn K (.ref gf10) = true)
    (af11 : PySem.W.nsIn K mainGlobals "headed" = some (some (.ref gf11)))
    (lf11 : K.lookup gf11 = some ⟨oocf11, oodf11, .func (PySem.W.fnOf "headed" "headed" (defArgs sHd) (defBody sHd) (defScope sHd) .none okVf11 odcf11 opmf11 oanf11 ocdf11 octf11), oslf11⟩)
    (cf11 : PySem.W.codeIn K ocdf11 "headed" = true)
    (kf11 : PySem.W.keepIn K (.ref gf11) = true)
    (af12 : PySem.W.nsIn K mainGlobals "entry_of" = some (some (.ref gf12)))
    (lf12 : K.lookup gf12 = some ⟨oocf12, oodf12, .func (PySem.W.fnOf "entry_of" "entry_of" (defArgs sEn) (defBody sEn) (defScope sEn) .none okVf12 odcf12 opmf12 oanf12 ocdf12 octf12), oslf12⟩)
    (cf12 : PySem.W.codeIn K ocdf12 "entry_of" = true)
    (kf12 : PySem.W.keepIn K (.ref gf12) = true)
    (af13 : PySem.W.nsIn K mainGlobals "left_over" = some (some (.ref gf13)))
    (lf13 : K.lookup gf13 = some ⟨oocf13, oodf13, .func (PySem.W.fnOf "left_over" "left_over" (defArgs sLo) (defBody sLo) (defScope sLo) .none okVf13 odcf13 opmf13 oanf13 ocdf13 octf13), oslf13⟩)
    (cf13 : PySem.W.codeIn K ocdf13 "left_over" = true)
    (kf13 : PySem.W.keepIn K (.ref gf13) = true)
    (af14 : PySem.W.nsIn K mainGlobals "in_form" = some (some (.ref gf14)))
    (lf14 : K.lookup gf14 = some ⟨oocf14, oodf14, .func (PySem.W.fnOf "in_form" "in_form" (defArgs sFo) (defBody sFo) (defScope sFo) .none okVf14 odcf14 opmf14 oanf14 ocdf14 octf14), oslf14⟩)
    (cf14 : PySem.W.codeIn K ocdf14 "in_form" = true)
    (kf14 : PySem.W.keepIn K (.ref gf14) = true)
    (af15 : PySem.W.nsIn K mainGlobals "rows_of" = some (some (.ref gf15)))
    (lf15 : K.lookup gf15 = some ⟨oocf15, oodf15, .func (PySem.W.fnOf "rows_of" "rows_of" (defArgs sRo) (defBody sRo) (defScope sRo) .none okVf15 odcf15 opmf15 oanf15 ocdf15 octf15), oslf15⟩)
    (cf15 : PySem.W.codeIn K ocdf15 "rows_of" = true)
    (kf15 : PySem.W.keepIn K (.ref gf15) = true)
    (af16 : PySem.W.nsIn K mainGlobals "rows_behind" = some (some (.ref gf16)))
    (lf16 : K.lookup gf16 = some ⟨oocf16, oodf16, .func (PySem.W.fnOf "rows_behind" "rows_behind" (defArgs sRb) (defBody sRb) (defScope sRb) .none okVf16 odcf16 opmf16 oanf16 ocdf16 octf16), oslf16⟩)
    (cf16 : PySem.W.codeIn K ocdf16 "rows_behind" = true)
    (kf16 : PySem.W.keepIn K (.ref gf16) = true)
    (af17 : PySem.W.nsIn K mainGlobals "size_of" = some (some (.ref gf17)))
    (lf17 : K.lookup gf17 = some ⟨oocf17, oodf17, .func (PySem.W.fnOf "size_of" "size_of" (defArgs sSz) (defBody sSz) (defScope sSz) .none okVf17 odcf17 opmf17 oanf17 ocdf17 octf17), oslf17⟩)
    (cf17 : PySem.W.codeIn K ocdf17 "size_of" = true)
    (kf17 : PySem.W.keepIn K (.ref gf17) = true)
    (af18 : PySem.W.nsIn K mainGlobals "check_rows" = some (some (.ref gf18)))
    (lf18 : K.lookup gf18 = some ⟨oocf18, oodf18, .func (PySem.W.fnOf "check_rows" "check_rows" (defArgs sCr) (defBody sCr) (defScope sCr) .none okVf18 odcf18 opmf18 oanf18 ocdf18 octf18), oslf18⟩)
    (cf18 : PySem.W.codeIn K ocdf18 "check_rows" = true)
    (kf18 : PySem.W.keepIn K (.ref gf18) = true)
    (af19 : PySem.W.nsIn K mainGlobals "least_makers" = some (some (.ref gf19)))
    (lf19 : K.lookup gf19 = some ⟨oocf19, oodf19, .func (PySem.W.fnOf "least_makers" "least_makers" (defArgs sLk) (defBody sLk) (defScope sLk) .none okVf19 odcf19 opmf19 oanf19 ocdf19 octf19), oslf19⟩)
    (cf19 : PySem.W.codeIn K ocdf19 "least_makers" = true)
    (kf19 : PySem.W.keepIn K (.ref gf19) = true)
    (af20 : PySem.W.nsIn K mainGlobals "_law_pen" = some (some (.ref gf20)))
    (lf20 : K.lookup gf20 = some ⟨oocf20, oodf20, .func (PySem.W.fnOf "_law_pen" "_law_pen" (defArgs sPen) (defBody sPen) (defScope sPen) .none okVf20 odcf20 opmf20 oanf20 ocdf20 octf20), oslf20⟩)
    (cf20 : PySem.W.codeIn K ocdf20 "_law_pen" = true)
    (kf20 : PySem.W.keepIn K (.ref gf20) = true)
    (af21 : PySem.W.nsIn K mainGlobals "_law_draw" = some (some (.ref gf21)))
    (lf21 : K.lookup gf21 = some ⟨oocf21, oodf21, .func (PySem.W.fnOf "_law_draw" "_law_draw" (defArgs sDraw) (defBody sDraw) (defScope sDraw) .none okVf21 odcf21 opmf21 oanf21 ocdf21 octf21), oslf21⟩)
    (cf21 : PySem.W.codeIn K ocdf21 "_law_draw" = true)
    (kf21 : PySem.W.keepIn K (.ref gf21) = true)
    (af22 : PySem.W.nsIn K mainGlobals "_law_pick" = some (some (.ref gf22)))
    (lf22 : K.lookup gf22 = some ⟨oocf22, oodf22, .func (PySem.W.fnOf "_law_pick" "_law_pick" (defArgs sPick) (defBody sPick) (defScope sPick) .none okVf22 odcf22 opmf22 oanf22 ocdf22 octf22), oslf22⟩)
    (cf22 : PySem.W.codeIn K ocdf22 "_law_pick" = true)
    (kf22 : PySem.W.keepIn K (.ref gf22) = true)
    (af23 : PySem.W.nsIn K mainGlobals "_law_is_whole" = some (some (.ref gf23)))
    (lf23 : K.lookup gf23 = some ⟨oocf23, oodf23, .func (PySem.W.fnOf "_law_is_whole" "_law_is_whole" (defArgs sIw) (defBody sIw) (defScope sIw) .none okVf23 odcf23 opmf23 oanf23 ocdf23 octf23), oslf23⟩)
    (cf23 : PySem.W.codeIn K ocdf23 "_law_is_whole" = true)
    (kf23 : PySem.W.keepIn K (.ref gf23) = true)
    (af24 : PySem.W.nsIn K mainGlobals "_law_large" = some (some (.ref gf24)))
    (lf24 : K.lookup gf24 = some ⟨oocf24, oodf24, .func (PySem.W.fnOf "_law_large" "_law_large" (defArgs sLarge) (defBody sLarge) (defScope sLarge) .none okVf24 odcf24 opmf24 oanf24 ocdf24 octf24), oslf24⟩)
    (cf24 : PySem.W.codeIn K ocdf24 "_law_large" = true)
    (kf24 : PySem.W.keepIn K (.ref gf24) = true)
    (af25 : PySem.W.nsIn K mainGlobals "_law_power" = some (some (.ref gf25)))
    (lf25 : K.lookup gf25 = some ⟨oocf25, oodf25, .func (PySem.W.fnOf "_law_power" "_law_power" (defArgs sLpw) (defBody sLpw) (defScope sLpw) .none okVf25 odcf25 opmf25 oanf25 ocdf25 octf25), oslf25⟩)
    (cf25 : PySem.W.codeIn K ocdf25 "_law_power" = true)
    (kf25 : PySem.W.keepIn K (.ref gf25) = true)
    (af26 : PySem.W.nsIn K mainGlobals "_law_modulus" = some (some (.ref gf26)))
    (lf26 : K.lookup gf26 = some ⟨oocf26, oodf26, .func (PySem.W.fnOf "_law_modulus" "_law_modulus" (defArgs sLmo) (defBody sLmo) (defScope sLmo) .none okVf26 odcf26 opmf26 oanf26 ocdf26 octf26), oslf26⟩)
    (cf26 : PySem.W.codeIn K ocdf26 "_law_modulus" = true)
    (kf26 : PySem.W.keepIn K (.ref gf26) = true)
    (af27 : PySem.W.nsIn K mainGlobals "_law_order" = some (some (.ref gf27)))
    (lf27 : K.lookup gf27 = some ⟨oocf27, oodf27, .func (PySem.W.fnOf "_law_order" "_law_order" (defArgs sLor) (defBody sLor) (defScope sLor) .none okVf27 odcf27 opmf27 oanf27 ocdf27 octf27), oslf27⟩)
    (cf27 : PySem.W.codeIn K ocdf27 "_law_order" = true)
    (kf27 : PySem.W.keepIn K (.ref gf27) = true)
    (af28 : PySem.W.nsIn K mainGlobals "_law_unit" = some (some (.ref gf28)))
    (lf28 : K.lookup gf28 = some ⟨oocf28, oodf28, .func (PySem.W.fnOf "_law_unit" "_law_unit" (defArgs sLun) (defBody sLun) (defScope sLun) .none okVf28 odcf28 opmf28 oanf28 ocdf28 octf28), oslf28⟩)
    (cf28 : PySem.W.codeIn K ocdf28 "_law_unit" = true)
    (kf28 : PySem.W.keepIn K (.ref gf28) = true)
    (af29 : PySem.W.nsIn K mainGlobals "_law_lot" = some (some (.ref gf29)))
    (lf29 : K.lookup gf29 = some ⟨oocf29, oodf29, .func (PySem.W.fnOf "_law_lot" "_law_lot" (defArgs sLlo) (defBody sLlo) (defScope sLlo) .none okVf29 odcf29 opmf29 oanf29 ocdf29 octf29), oslf29⟩)
    (cf29 : PySem.W.codeIn K ocdf29 "_law_lot" = true)
    (kf29 : PySem.W.keepIn K (.ref gf29) = true)
    (af30 : PySem.W.nsIn K mainGlobals "_law_put" = some (some (.ref gf30)))
    (lf30 : K.lookup gf30 = some ⟨oocf30, oodf30, .func (PySem.W.fnOf "_law_put" "_law_put" (defArgs sLpt) (defBody sLpt) (defScope sLpt) .none okVf30 odcf30 opmf30 oanf30 ocdf30 octf30), oslf30⟩)
    (cf30 : PySem.W.codeIn K ocdf30 "_law_put" = true)
    (kf30 : PySem.W.keepIn K (.ref gf30) = true)
    (af31 : PySem.W.nsIn K mainGlobals "_law_left" = some (some (.ref gf31)))
    (lf31 : K.lookup gf31 = some ⟨oocf31, oodf31, .func (PySem.W.fnOf "_law_left" "_law_left" (defArgs sLlt) (defBody sLlt) (defScope sLlt) .none okVf31 odcf31 opmf31 oanf31 ocdf31 octf31), oslf31⟩)
    (cf31 : PySem.W.codeIn K ocdf31 "_law_left" = true)
    (kf31 : PySem.W.keepIn K (.ref gf31) = true)
    (af32 : PySem.W.nsIn K mainGlobals "_law_form" = some (some (.ref gf32)))
    (lf32 : K.lookup gf32 = some ⟨oocf32, oodf32, .func (PySem.W.fnOf "_law_form" "_law_form" (defArgs sLfo) (defBody sLfo) (defScope sLfo) .none okVf32 odcf32 opmf32 oanf32 ocdf32 octf32), oslf32⟩)
    (cf32 : PySem.W.codeIn K ocdf32 "_law_form" = true)
    (kf32 : PySem.W.keepIn K (.ref gf32) = true)
    (af33 : PySem.W.nsIn K mainGlobals "_law_rows" = some (some (.ref gf33)))
    (lf33 : K.lookup gf33 = some ⟨oocf33, oodf33, .func (PySem.W.fnOf "_law_rows" "_law_rows" (defArgs sLrw) (defBody sLrw) (defScope sLrw) .none okVf33 odcf33 opmf33 oanf33 ocdf33 octf33), oslf33⟩)
    (cf33 : PySem.W.codeIn K ocdf33 "_law_rows" = true)
    (kf33 : PySem.W.keepIn K (.ref gf33) = true)
    (af34 : PySem.W.nsIn K mainGlobals "_law_lot_size" = some (some (.ref gf34)))
    (lf34 : K.lookup gf34 = some ⟨oocf34, oodf34, .func (PySem.W.fnOf "_law_lot_size" "_law_lot_size" (defArgs sLls) (defBody sLls) (defScope sLls) .none okVf34 odcf34 opmf34 oanf34 ocdf34 octf34), oslf34⟩)
    (cf34 : PySem.W.codeIn K ocdf34 "_law_lot_size" = true)
    (kf34 : PySem.W.keepIn K (.ref gf34) = true)
    (af35 : PySem.W.nsIn K mainGlobals "_law_lot_least" = some (some (.ref gf35)))
    (lf35 : K.lookup gf35 = some ⟨oocf35, oodf35, .func (PySem.W.fnOf "_law_lot_least" "_law_lot_least" (defArgs sLlm) (defBody sLlm) (defScope sLlm) .none okVf35 odcf35 opmf35 oanf35 ocdf35 octf35), oslf35⟩)
    (cf35 : PySem.W.codeIn K ocdf35 "_law_lot_least" = true)
    (kf35 : PySem.W.keepIn K (.ref gf35) = true)
    (af36 : PySem.W.nsIn K mainGlobals "_law_other_rows" = some (some (.ref gf36)))
    (lf36 : K.lookup gf36 = some ⟨oocf36, oodf36, .func (PySem.W.fnOf "_law_other_rows" "_law_other_rows" (defArgs sLow) (defBody sLow) (defScope sLow) .none okVf36 odcf36 opmf36 oanf36 ocdf36 octf36), oslf36⟩)
    (cf36 : PySem.W.codeIn K ocdf36 "_law_other_rows" = true)
    (kf36 : PySem.W.keepIn K (.ref gf36) = true)
    (af37 : PySem.W.nsIn K mainGlobals "_law_right" = some (some (.ref gf37)))
    (lf37 : K.lookup gf37 = some ⟨oocf37, oodf37, .func (PySem.W.fnOf "_law_right" "_law_right" (defArgs sLrt) (defBody sLrt) (defScope sLrt) .none okVf37 odcf37 opmf37 oanf37 ocdf37 octf37), oslf37⟩)
    (cf37 : PySem.W.codeIn K ocdf37 "_law_right" = true)
    (kf37 : PySem.W.keepIn K (.ref gf37) = true)
    (fcm0_0 : PySem.W.findIn K (.ref C) "__init__" = some (some (.ref gm0_0)))
    (fnm0_0 : PySem.W.isFn K (.ref gm0_0) = true)
    (lm0_0 : K.lookup gm0_0 = some ⟨oocm0_0, oodm0_0, .func (PySem.W.fnOf "__init__" "Lot.__init__" (defArgs sLI) (defBody sLI) (defScope sLI) (.ref TDm0_0) okVm0_0 odcm0_0 opmm0_0 oanm0_0 ocdm0_0 octm0_0), oslm0_0⟩)
    (lTm0_0 : K.lookup TDm0_0 = some ⟨tcm0_0, tdm0_0, .seq #[.ref tEm0_0] tnm0_0, tsm0_0⟩)
    (lEm0_0 : K.lookup tEm0_0 = some ⟨.type "tuple", eom0_0, .seq #[] enm0_0, esm0_0⟩)
    (cm0_0 : PySem.W.codeIn K ocdm0_0 "Lot.__init__" = true)
    (km0_0 : PySem.W.keepIn K (.ref gm0_0) = true)
    (fcm0_1 : PySem.W.findIn K (.ref C) "__eq__" = some (some (.ref gm0_1)))
    (fnm0_1 : PySem.W.isFn K (.ref gm0_1) = true)
    (lm0_1 : K.lookup gm0_1 = some ⟨oocm0_1, oodm0_1, .func (PySem.W.fnOf "__eq__" "Lot.__eq__" (defArgs sLE) (defBody sLE) (defScope sLE) .none okVm0_1 odcm0_1 opmm0_1 oanm0_1 ocdm0_1 octm0_1), oslm0_1⟩)
    (cm0_1 : PySem.W.codeIn K ocdm0_1 "Lot.__eq__" = true)
    (km0_1 : PySem.W.keepIn K (.ref gm0_1) = true)
    (aF : PySem.W.nsIn K mainGlobals "law" = some (some (.ref gLaw)))
    (lF : K.lookup gLaw = some ⟨oocF, oodF, .func (PySem.W.fnOf "law" "law" (defArgs sLaw) (defBody sLaw) (defScope sLaw) .none okVF odcF opmF oanF ocdF octF), oslF⟩)
    (cF : PySem.W.codeIn K ocdF "law" = true)
    (kF : PySem.W.keepIn K (.ref gLaw) = true)
    (gl0 : PySem.W.nsIn K mainGlobals "BITS" = some (some (.int 24 tg0)))
    (gl1 : PySem.W.nsIn K mainGlobals "FIELD" = some (some (.int 16777215 tg1)))
    (gl2 : PySem.W.nsIn K mainGlobals "PIECE" = some (some (.int 768 tg2)))
    (gl3 : PySem.W.nsIn K mainGlobals "WIDEST" = some (some (.int 400 tg3)))
    (ac0 : PySem.W.nsIn K mainGlobals "PRIMES" = some (some (.ref D)))
    (kc0 : tupI K (.ref D) = some [2, 3, 5, 7])
    (ac1 : PySem.W.nsIn K mainGlobals "PRIME_POWERS" = some (some (.ref D2)))
    (kc1 : dictI K D2 = some ppT)
    (ac2 : PySem.W.nsIn K mainGlobals "FIGURES" = some (some (.ref FG)))
    (kc2 : tupS K (.ref FG) = some FIGS)
    (z_int : PySem.W.nsIn K mainGlobals "int" = some none)
    (z_bool : PySem.W.nsIn K mainGlobals "bool" = some none)
    (z_tuple : PySem.W.nsIn K mainGlobals "tuple" = some none)
    (z_len : PySem.W.nsIn K mainGlobals "len" = some none)
    (z_list : PySem.W.nsIn K mainGlobals "list" = some none)
    (z_range : PySem.W.nsIn K mainGlobals "range" = some none)
    (z_isinstance : PySem.W.nsIn K mainGlobals "isinstance" = some none)
    (z_repr : PySem.W.nsIn K mainGlobals "repr" = some none)
    (z_all : PySem.W.nsIn K mainGlobals "all" = some none)
    (z_divmod : PySem.W.nsIn K mainGlobals "divmod" = some none)
    (z_reversed : PySem.W.nsIn K mainGlobals "reversed" = some none)
    (z_zip : PySem.W.nsIn K mainGlobals "zip" = some none)
    (z_sorted : PySem.W.nsIn K mainGlobals "sorted" = some none)
    (z_sum : PySem.W.nsIn K mainGlobals "sum" = some none)
    (agcd : PySem.W.nsIn K mainGlobals "gcd" = some (some (.builtin "math.gcd")))
    : ∃ fd : FuncData, (∀ (s : Shared) (u : Value), BindsTo s fd ⟨[u], []⟩ [("_law_script", u)]) ∧
      ∀ base : Heap, K.In base → base.Ns mainGlobals mg → FnG l.prog w K mg base CX0 8 fa fd ["_law_script"] (spLaw K) := by
  have e := hfa.symm.trans (PySem.W.mg_of X G aF)
  cases e
  have FL := fun_mk (st := sLaw) lF cF kF
  refine ⟨PySem.W.fnOf "law" "law" (defArgs sLaw) (defBody sLaw) (defScope sLaw) .none okVF odcF opmF oanF ocdF octF, fun s v => .of_eq rfl, fun base _ _ => ?_⟩
  have Ff0 := fun_mk (st := sIsI) lf0 cf0 kf0
  have E_is_integer : Cl K mg "is_integer" sIsI ["value"] gf0 _ := ⟨Ff0, Ff0.binds (ps := ["value"]) (fun _ _ _ _ _ _ us hl => match us, hl with | [_], _ => rfl), PySem.W.mg_of X G af0⟩
  have Ff1 := fun_mk (st := sIsIs) lf1 cf1 kf1
  have E_is_integers : Cl K mg "is_integers" sIsIs ["value"] gf1 _ := ⟨Ff1, Ff1.binds (ps := ["value"]) (fun _ _ _ _ _ _ us hl => match us, hl with | [_], _ => rfl), PySem.W.mg_of X G af1⟩
  have Ff2 := fun_mk (st := sRow) lf2 cf2 kf2
  have E_is_row : Cl K mg "is_row" sRow ["value", "width"] gf2 _ := ⟨Ff2, Ff2.binds (ps := ["value", "width"]) (fun _ _ _ _ _ _ us hl => match us, hl with | [_, _], _ => rfl), PySem.W.mg_of X G af2⟩
  have Ff3 := fun_mk (st := sPP) lf3 cf3 kf3
  have E_prime_power : Cl K mg "prime_power" sPP ["m"] gf3 _ := ⟨Ff3, Ff3.binds (ps := ["m"]) (fun _ _ _ _ _ _ us hl => match us, hl with | [_], _ => rfl), PySem.W.mg_of X G af3⟩
  have Ff4 := fun_mk (st := sCP) lf4 cf4 kf4
  have E_check_prime : Cl K mg "check_prime" sCP ["p"] gf4 _ := ⟨Ff4, Ff4.binds (ps := ["p"]) (fun _ _ _ _ _ _ us hl => match us, hl with | [_], _ => rfl), PySem.W.mg_of X G af4⟩
  have Ff5 := fun_mk (st := sDg) lf5 cf5 kf5
  have E_digits : Cl K mg "digits" sDg ["n", "p"] gf5 _ := ⟨Ff5, Ff5.binds (ps := ["n", "p"]) (fun _ _ _ _ _ _ us hl => match us, hl with | [_, _], _ => rfl), PySem.W.mg_of X G af5⟩
  have Ff6 := fun_mk (st := sPack) lf6 cf6 kf6
  have E_pack : Cl K mg "pack" sPack ["row", "m"] gf6 _ := ⟨Ff6, Ff6.binds (ps := ["row", "m"]) (fun _ _ _ _ _ _ us hl => match us, hl with | [_, _], _ => rfl), PySem.W.mg_of X G af6⟩
  have Ff7 := fun_mk (st := sAt) lf7 cf7 kf7
  have E_number_at : Cl K mg "number_at" sAt ["packed", "place", "m"] gf7 _ := ⟨Ff7, Ff7.binds (ps := ["packed", "place", "m"]) (fun _ _ _ _ _ _ us hl => match us, hl with | [_, _, _], _ => rfl), PySem.W.mg_of X G af7⟩
  have Ff8 := fun_mk (st := sUn) lf8 cf8 kf8
  have E_unpack : Cl K mg "unpack" sUn ["packed", "width", "m"] gf8 _ := ⟨Ff8, Ff8.binds (ps := ["packed", "width", "m"]) (fun _ _ _ _ _ _ us hl => match us, hl with | [_, _, _], _ => rfl), PySem.W.mg_of X G af8⟩
  have Ff9 := fun_mk (st := sPo) lf9 cf9 kf9
  have E_pivots_of : Cl K mg "pivots_of" sPo ["rows", "width", "m"] gf9 _ := ⟨Ff9, Ff9.binds (ps := ["rows", "width", "m"]) (fun _ _ _ _ _ _ us hl => match us, hl with | [_, _, _], _ => rfl), PySem.W.mg_of X G af9⟩
  have Ff10 := fun_mk (st := sPut) lf10 cf10 kf10
  have E_put_row : Cl K mg "put_row" sPut ["pivots", "packed", "width", "m"] gf10 _ := ⟨Ff10, Ff10.binds (ps := ["pivots", "packed", "width", "m"]) (fun _ _ _ _ _ _ us hl => match us, hl with | [_, _, _, _], _ => rfl), PySem.W.mg_of X G af10⟩
  have Ff11 := fun_mk (st := sHd) lf11 cf11 kf11
  have E_headed : Cl K mg "headed" sHd ["packed", "width", "m"] gf11 _ := ⟨Ff11, Ff11.binds (ps := ["packed", "width", "m"]) (fun _ _ _ _ _ _ us hl => match us, hl with | [_, _, _], _ => rfl), PySem.W.mg_of X G af11⟩
  have Ff12 := fun_mk (st := sEn) lf12 cf12 kf12
  have E_entry_of : Cl K mg "entry_of" sEn ["pivot"] gf12 _ := ⟨Ff12, Ff12.binds (ps := ["pivot"]) (fun _ _ _ _ _ _ us hl => match us, hl with | [_], _ => rfl), PySem.W.mg_of X G af12⟩
  have Ff13 := fun_mk (st := sLo) lf13 cf13 kf13
  have E_left_over : Cl K mg "left_over" sLo ["pivots", "packed", "m"] gf13 _ := ⟨Ff13, Ff13.binds (ps := ["pivots", "packed", "m"]) (fun _ _ _ _ _ _ us hl => match us, hl with | [_, _, _], _ => rfl), PySem.W.mg_of X G af13⟩
  have Ff14 := fun_mk (st := sFo) lf14 cf14 kf14
  have E_in_form : Cl K mg "in_form" sFo ["pivots", "width", "m"] gf14 _ := ⟨Ff14, Ff14.binds (ps := ["pivots", "width", "m"]) (fun _ _ _ _ _ _ us hl => match us, hl with | [_, _, _], _ => rfl), PySem.W.mg_of X G af14⟩
  have Ff15 := fun_mk (st := sRo) lf15 cf15 kf15
  have E_rows_of : Cl K mg "rows_of" sRo ["pivots", "width", "m"] gf15 _ := ⟨Ff15, Ff15.binds (ps := ["pivots", "width", "m"]) (fun _ _ _ _ _ _ us hl => match us, hl with | [_, _, _], _ => rfl), PySem.W.mg_of X G af15⟩
  have Ff16 := fun_mk (st := sRb) lf16 cf16 kf16
  have E_rows_behind : Cl K mg "rows_behind" sRb ["pivots", "places", "width", "m"] gf16 _ := ⟨Ff16, Ff16.binds (ps := ["pivots", "places", "width", "m"]) (fun _ _ _ _ _ _ us hl => match us, hl with | [_, _, _, _], _ => rfl), PySem.W.mg_of X G af16⟩
  have Ff17 := fun_mk (st := sSz) lf17 cf17 kf17
  have E_size_of : Cl K mg "size_of" sSz ["pivots", "m"] gf17 _ := ⟨Ff17, Ff17.binds (ps := ["pivots", "m"]) (fun _ _ _ _ _ _ us hl => match us, hl with | [_, _], _ => rfl), PySem.W.mg_of X G af17⟩
  have Ff18 := fun_mk (st := sCr) lf18 cf18 kf18
  have E_check_rows : Cl K mg "check_rows" sCr ["m", "width", "rows"] gf18 _ := ⟨Ff18, Ff18.binds (ps := ["m", "width", "rows"]) (fun _ _ _ _ _ _ us hl => match us, hl with | [_, _, _], _ => rfl), PySem.W.mg_of X G af18⟩
  have Ff19 := fun_mk (st := sLk) lf19 cf19 kf19
  have E_least_makers : Cl K mg "least_makers" sLk ["rows", "size", "width", "m"] gf19 _ := ⟨Ff19, Ff19.binds (ps := ["rows", "size", "width", "m"]) (fun _ _ _ _ _ _ us hl => match us, hl with | [_, _, _, _], _ => rfl), PySem.W.mg_of X G af19⟩
  have Ff20 := fun_mk (st := sPen) lf20 cf20 kf20
  have E__law_pen : Cl K mg "_law_pen" sPen ["_law_script"] gf20 _ := ⟨Ff20, Ff20.binds (ps := ["_law_script"]) (fun _ _ _ _ _ _ us hl => match us, hl with | [_], _ => rfl), PySem.W.mg_of X G af20⟩
  have Ff21 := fun_mk (st := sDraw) lf21 cf21 kf21
  have E__law_draw : Cl K mg "_law_draw" sDraw ["_law_pen_here", "_law_many"] gf21 _ := ⟨Ff21, Ff21.binds (ps := ["_law_pen_here", "_law_many"]) (fun _ _ _ _ _ _ us hl => match us, hl with | [_, _], _ => rfl), PySem.W.mg_of X G af21⟩
  have Ff22 := fun_mk (st := sPick) lf22 cf22 kf22
  have E__law_pick : Cl K mg "_law_pick" sPick ["_law_pen_here", "_law_some"] gf22 _ := ⟨Ff22, Ff22.binds (ps := ["_law_pen_here", "_law_some"]) (fun _ _ _ _ _ _ us hl => match us, hl with | [_, _], _ => rfl), PySem.W.mg_of X G af22⟩
  have Ff23 := fun_mk (st := sIw) lf23 cf23 kf23
  have E__law_is_whole : Cl K mg "_law_is_whole" sIw ["_law_value"] gf23 _ := ⟨Ff23, Ff23.binds (ps := ["_law_value"]) (fun _ _ _ _ _ _ us hl => match us, hl with | [_], _ => rfl), PySem.W.mg_of X G af23⟩
  have Ff24 := fun_mk (st := sLarge) lf24 cf24 kf24
  have E__law_large : Cl K mg "_law_large" sLarge ["_law_pen_here"] gf24 _ := ⟨Ff24, Ff24.binds (ps := ["_law_pen_here"]) (fun _ _ _ _ _ _ us hl => match us, hl with | [_], _ => rfl), PySem.W.mg_of X G af24⟩
  have Ff25 := fun_mk (st := sLpw) lf25 cf25 kf25
  have E__law_power : Cl K mg "_law_power" sLpw ["_law_m"] gf25 _ := ⟨Ff25, Ff25.binds (ps := ["_law_m"]) (fun _ _ _ _ _ _ us hl => match us, hl with | [_], _ => rfl), PySem.W.mg_of X G af25⟩
  have Ff26 := fun_mk (st := sLmo) lf26 cf26 kf26
  have E__law_modulus : Cl K mg "_law_modulus" sLmo ["_law_pen_here"] gf26 _ := ⟨Ff26, Ff26.binds (ps := ["_law_pen_here"]) (fun _ _ _ _ _ _ us hl => match us, hl with | [_], _ => rfl), PySem.W.mg_of X G af26⟩
  have Ff27 := fun_mk (st := sLor) lf27 cf27 kf27
  have E__law_order : Cl K mg "_law_order" sLor ["_law_number", "_law_m"] gf27 _ := ⟨Ff27, Ff27.binds (ps := ["_law_number", "_law_m"]) (fun _ _ _ _ _ _ us hl => match us, hl with | [_, _], _ => rfl), PySem.W.mg_of X G af27⟩
  have Ff28 := fun_mk (st := sLun) lf28 cf28 kf28
  have E__law_unit : Cl K mg "_law_unit" sLun ["_law_number", "_law_m"] gf28 _ := ⟨Ff28, Ff28.binds (ps := ["_law_number", "_law_m"]) (fun _ _ _ _ _ _ us hl => match us, hl with | [_, _], _ => rfl), PySem.W.mg_of X G af28⟩
  have Ff29 := fun_mk (st := sLlo) lf29 cf29 kf29
  have E__law_lot : Cl K mg "_law_lot" sLlo ["_law_m", "_law_width", "_law_rows_here"] gf29 _ := ⟨Ff29, Ff29.binds (ps := ["_law_m", "_law_width", "_law_rows_here"]) (fun _ _ _ _ _ _ us hl => match us, hl with | [_, _, _], _ => rfl), PySem.W.mg_of X G af29⟩
  have Ff30 := fun_mk (st := sLpt) lf30 cf30 kf30
  have E__law_put : Cl K mg "_law_put" sLpt ["_law_lot_here", "_law_row"] gf30 _ := ⟨Ff30, Ff30.binds (ps := ["_law_lot_here", "_law_row"]) (fun _ _ _ _ _ _ us hl => match us, hl with | [_, _], _ => rfl), PySem.W.mg_of X G af30⟩
  have Ff31 := fun_mk (st := sLlt) lf31 cf31 kf31
  have E__law_left : Cl K mg "_law_left" sLlt ["_law_lot_here", "_law_row"] gf31 _ := ⟨Ff31, Ff31.binds (ps := ["_law_lot_here", "_law_row"]) (fun _ _ _ _ _ _ us hl => match us, hl with | [_, _], _ => rfl), PySem.W.mg_of X G af31⟩
  have Ff32 := fun_mk (st := sLfo) lf32 cf32 kf32
  have E__law_form : Cl K mg "_law_form" sLfo ["_law_lot_here"] gf32 _ := ⟨Ff32, Ff32.binds (ps := ["_law_lot_here"]) (fun _ _ _ _ _ _ us hl => match us, hl with | [_], _ => rfl), PySem.W.mg_of X G af32⟩
  have Ff33 := fun_mk (st := sLrw) lf33 cf33 kf33
  have E__law_rows : Cl K mg "_law_rows" sLrw ["_law_pen_here", "_law_m", "_law_width", "_law_many"] gf33 _ := ⟨Ff33, Ff33.binds (ps := ["_law_pen_here", "_law_m", "_law_width", "_law_many"]) (fun _ _ _ _ _ _ us hl => match us, hl with | [_, _, _, _], _ => rfl), PySem.W.mg_of X G af33⟩
  have Ff34 := fun_mk (st := sLls) lf34 cf34 kf34
  have E__law_lot_size : Cl K mg "_law_lot_size" sLls ["_law_lot_here"] gf34 _ := ⟨Ff34, Ff34.binds (ps := ["_law_lot_here"]) (fun _ _ _ _ _ _ us hl => match us, hl with | [_], _ => rfl), PySem.W.mg_of X G af34⟩
  have Ff35 := fun_mk (st := sLlm) lf35 cf35 kf35
  have E__law_lot_least : Cl K mg "_law_lot_least" sLlm ["_law_lot_here"] gf35 _ := ⟨Ff35, Ff35.binds (ps := ["_law_lot_here"]) (fun _ _ _ _ _ _ us hl => match us, hl with | [_], _ => rfl), PySem.W.mg_of X G af35⟩
  have Ff36 := fun_mk (st := sLow) lf36 cf36 kf36
  have E__law_other_rows : Cl K mg "_law_other_rows" sLow ["_law_pen_here", "_law_rows_here", "_law_m"] gf36 _ := ⟨Ff36, Ff36.binds (ps := ["_law_pen_here", "_law_rows_here", "_law_m"]) (fun _ _ _ _ _ _ us hl => match us, hl with | [_, _, _], _ => rfl), PySem.W.mg_of X G af36⟩
  have Ff37 := fun_mk (st := sLrt) lf37 cf37 kf37
  have E__law_right : Cl K mg "_law_right" sLrt ["_law_told", "_law_lot_here"] gf37 _ := ⟨Ff37, Ff37.binds (ps := ["_law_told", "_law_lot_here"]) (fun _ _ _ _ _ _ us hl => match us, hl with | [_, _], _ => rfl), PySem.W.mg_of X G af37⟩
  have Fm0_0 := funE_mk (st := sLI) (dvs := [.ref tEm0_0]) lm0_0 cm0_0 km0_0 (.inr ⟨nofun, TDm0_0, _, [.ref tEm0_0], _, rfl, lTm0_0, rfl, (.cons (show RelV (V.ref tEm0_0) (Value.ref tEm0_0) from rfl) .nil)⟩)
  obtain ⟨dsm0_0, rvm0_0, BE_Lot___init__⟩ := Fm0_0.bindsJ (ps := ["self", "m", "width", "rows"]) 3 0 nofun rfl (fun _ _ _ _ _ _ _ us its hl hi => match us, its, hl, hi with | [_, _, _], [_], _, _ => ⟨_, rfl, rfl⟩)
  obtain ⟨dzm0_0, rzm0_0, BZ_Lot___init__⟩ := Fm0_0.bindsJ (ps := ["self", "m", "width", "rows"]) 4 1 nofun rfl (fun _ _ _ _ _ _ _ us its hl hi => match us, its, hl, hi with | [_, _, _, _], [_], _, _ => ⟨_, rfl, rfl⟩)
  cases rzm0_0
  have B_Lot___init__ := BZ_Lot___init__
  have Fm0_1 := fun_mk (st := sLE) lm0_1 cm0_1 km0_1
  have B_Lot___eq__ := Fm0_1.binds (ps := ["self", "other"]) (fun _ _ _ _ _ _ us hl => match us, hl with | [_, _], _ => rfl)
  have L_Lot : Cls K C := ⟨pg0, hd0, po0, sa0⟩
  have GC_Lot := PySem.W.mg_of X G aC0
  have C_Lot : C8.InsC K C := ⟨L_Lot, ha0, hn0, ht0, hm0, me0⟩
  have M_Lot_init : Meth K C "__init__" gm0_0 := ⟨fcm0_0, fnm0_0, km0_0⟩
  have K_Lot : Mk K C gm0_0 := ⟨mk0, fcm0_0, fnm0_0, kp0⟩
  have M_Lot_eq : Meth K C "__eq__" gm0_1 := ⟨fcm0_1, fnm0_1, km0_1⟩
  have R_BadNumber := er_of (x := "BadNumber") (fs := ["what", "number"]) X G e0 j0 (fun g hg => by
    rcases List.mem_cons.mp hg with rfl | hg
    · exact n0_0
    rcases List.mem_cons.mp hg with rfl | hg
    · exact n0_1
    exact (List.not_mem_nil hg).elim) (fun _ _ _ _ _ _ us hl => match us, hl with | [_, _, _], _ => rfl)
  have R_BadRow := er_of (x := "BadRow") (fs := ["row"]) X G e1 j1 (fun g hg => by
    rcases List.mem_cons.mp hg with rfl | hg
    · exact n1_0
    exact (List.not_mem_nil hg).elim) (fun _ _ _ _ _ _ us hl => match us, hl with | [_, _], _ => rfl)
  obtain ⟨_, G_PIECE_MASK⟩ := lo0
  have G_BITS := PySem.W.mg_of X G gl0
  have G_FIELD := PySem.W.mg_of X G gl1
  have G_PIECE := PySem.W.mg_of X G gl2
  have G_WIDEST := PySem.W.mg_of X G gl3
  have A_PRIMES := PySem.W.mg_of X G ac0
  have A_PRIME_POWERS := PySem.W.mg_of X G ac1
  have A_FIGURES := PySem.W.mg_of X G ac2
  have Z_int := PySem.W.mg_none_of X G z_int
  have Z_bool := PySem.W.mg_none_of X G z_bool
  have Z_tuple := PySem.W.mg_none_of X G z_tuple
  have Z_len := PySem.W.mg_none_of X G z_len
  have Z_list := PySem.W.mg_none_of X G z_list
  have Z_range := PySem.W.mg_none_of X G z_range
  have Z_isinstance := PySem.W.mg_none_of X G z_isinstance
  have Z_repr := PySem.W.mg_none_of X G z_repr
  have Z_all := PySem.W.mg_none_of X G z_all
  have Z_divmod := PySem.W.mg_none_of X G z_divmod
  have Z_reversed := PySem.W.mg_none_of X G z_reversed
  have Z_zip := PySem.W.mg_none_of X G z_zip
  have Z_sorted := PySem.W.mg_none_of X G z_sorted
  have Z_sum := PySem.W.mg_none_of X G z_sum
  have BB : Blt mg := ⟨Z_int, Z_bool, Z_tuple, Z_len, Z_list, Z_range, Z_isinstance, Z_repr, Z_all, Z_divmod, Z_reversed⟩
  have ZZ : LotK K mg C := ⟨C_Lot, at0_0, at0_1, at0_2, at0_3, at0_4, at0_5, GC_Lot, fun n hn => by
    unfold offOwn at hn
    obtain rfl | hn := List.mem_cons.mp hn
    · exact no0_int
    obtain rfl | hn := List.mem_cons.mp hn
    · exact no0_bool
    obtain rfl | hn := List.mem_cons.mp hn
    · exact no0_NoneType
    obtain rfl | hn := List.mem_cons.mp hn
    · exact no0_str
    obtain rfl | hn := List.mem_cons.mp hn
    · exact no0_list
    obtain rfl | hn := List.mem_cons.mp hn
    · exact no0_tuple
    obtain rfl | hn := List.mem_cons.mp hn
    · exact no0_dict
    exact (List.not_mem_nil hn).elim⟩
  have A_gcd := PySem.W.mg_of X G agcd
  have zE : ∀ H : Hp, SqT K H tEm0_0 [] := fun H => .inr ⟨_, #[], _, lEm0_0, rfl, rfl, by decide, .nil⟩
  have GDG := ok_dg (P := l.prog) (w := w) (mg := mg) (base := base) E_digits.fn BB E_is_integer E_check_prime R_BadNumber A_PRIMES kc0
  have GPP := ok_pp (P := l.prog) (w := w) (mg := mg) (base := base) E_prime_power.fn BB E_is_integer R_BadNumber A_PRIME_POWERS kc1
  have GPK := ok_pack (P := l.prog) (w := w) (mg := mg) (base := base) E_pack.fn BB A_FIGURES kc2
  have GUN := ok_un (P := l.prog) (w := w) (mg := mg) (base := base) E_unpack.fn BB G_BITS G_FIELD G_PIECE G_PIECE_MASK
  have GHD := ok_hd (P := l.prog) (w := w) (mg := mg) (base := base) E_headed.fn BB E_number_at E_unpack E_pack G_BITS G_FIELD G_PIECE G_PIECE_MASK A_FIGURES kc2 A_gcd
  have GPU := ok_put (P := l.prog) (w := w) (mg := mg) (base := base) E_put_row.fn BB G_BITS G_FIELD E_headed GHD
  have GPO := ok_po (P := l.prog) (w := w) (mg := mg) (base := base) E_pivots_of.fn BB E_pack GPK E_put_row GPU
  have GSZ := ok_sz (P := l.prog) (w := w) (mg := mg) (base := base) E_size_of.fn E_entry_of G_FIELD
  have GLO := ok_lo (P := l.prog) (w := w) (mg := mg) (base := base) E_left_over.fn Z_sorted E_number_at G_BITS G_FIELD
  have GFO := ok_fo (P := l.prog) (w := w) (mg := mg) (base := base) E_in_form.fn Z_sorted E_left_over GLO E_unpack GUN E_pack GPK G_BITS
  have GRB := ok_rb (P := l.prog) (w := w) (mg := mg) (base := base) E_rows_behind.fn BB Z_sorted E_unpack GUN
  have GRO := ok_ro (P := l.prog) (w := w) (mg := mg) (base := base) E_rows_of.fn E_rows_behind GRB
  have GCR := ok_cr (P := l.prog) (w := w) (mg := mg) (base := base) E_check_rows.fn BB E_is_integer E_is_integers E_is_row E_prime_power R_BadNumber R_BadRow A_PRIME_POWERS kc1 G_WIDEST
  have GLK := ok_lk (P := l.prog) (w := w) (mg := mg) (base := base) E_least_makers.fn BB E_prime_power GPP E_size_of GSZ E_pivots_of GPO E_digits GDG
  have GLI := ok_li (P := l.prog) (w := w) (mg := mg) (base := base) Fm0_0 ZZ E_check_rows GCR E_in_form GFO E_pivots_of GPO E_rows_of GRO E_size_of GSZ E_least_makers GLK
  have GLE := ok_le (P := l.prog) (w := w) (mg := mg) (base := base) Fm0_1 BB ZZ
  have GLA := ok_large (P := l.prog) (w := w) (mg := mg) (base := base) E__law_large.fn E__law_draw.fn E__law_draw.b E__law_draw.g E__law_pick.fn E__law_pick.b E__law_pick.g BB.int_ BB.len_ BB.range_
  have GPT := ok_lpt (P := l.prog) (w := w) (mg := mg) (base := base) E__law_put.fn BB Z_zip E__law_power E__law_left E__law_order E__law_unit
  have GLL := ok_llo (P := l.prog) (w := w) (mg := mg) (base := base) E__law_lot.fn BB E__law_put GPT
  have GLF := ok_lfo (P := l.prog) (w := w) (mg := mg) (base := base) E__law_form.fn BB Z_zip Z_sorted
  have GLM := ok_llm (P := l.prog) (w := w) (mg := mg) (base := base) E__law_lot_least.fn BB E__law_power E__law_lot_size E__law_lot GLL
  have GRW := ok_lrw (P := l.prog) (w := w) (mg := mg) (base := base) E__law_rows.fn BB Z_zip E__law_draw E__law_pick E__law_large E__law_power GLA
  have GOW := ok_low (P := l.prog) (w := w) (mg := mg) (base := base) E__law_other_rows.fn BB Z_zip Z_sum E__law_draw E__law_power
  have GRT := ok_lrt (P := l.prog) (w := w) (mg := mg) (base := base) E__law_right.fn BB ZZ Z_repr E__law_form GLF E__law_lot_size E__law_lot_least GLM E__law_is_whole
  exact ok_law lF cF BB ZZ nf0_tuple Z_zip Z_sum K_Lot B_Lot___init__ BE_Lot___init__ rvm0_0 zE GLI fcm0_1 fnm0_1 B_Lot___eq__ GLE E__law_pen E__law_draw E__law_pick E__law_modulus E__law_rows GRW E__law_lot GLL E__law_right GRT E__law_other_rows GOW E__law_form GLF
theorem walk {l : PySem.W.OpenLaw} {q : Program} {loose : List Str} {XP : (Str → Option Value) → Heap → Prop} {YP : World → Heap → Prop} {d : DefRec} {K : Params → PySem.W.Frag} (hn : l.most = some 63) (hdf : d.params.defaults = [])
    (hY : ∀ (w : World) (h : Heap), YP w h → (K w.params).In h)
    (F : ∀ (w : World) (mg : Str → Option Value) (fa : Addr) (h : Heap), (K w.params).In h → h.Ns mainGlobals mg → mg d.name = some (.ref fa) → XP mg h →
      ∃ fd : FuncData, (∀ (s : Shared) (u : Value), BindsTo s fd ⟨[u], []⟩ [("_law_script", u)]) ∧ ∀ base : Heap, (K w.params).In base → base.Ns mainGlobals mg → FnG l.prog w (K w.params) mg base CX0 8 fa fd ["_law_script"] (spLaw (K w.params))) :
    PySem.W.WalkO q loose XP YP l.row.toRowW d [] (fun f vs => PySem.call f vs) :=
  walkX (n := 63) (k := 8) (x := "_law_script") (sp := fun w => spLaw (K w.params)) hn (by decide) hdf ⟨rfl, by decide, by decide⟩ hY F (fun _ _ a ns _ _ hS => ⟨a, ns, rfl, hS, fun _ => rfl⟩)
end K02

open PySem PySem.W PyProof.Rows
set_option maxRecDepth 100000 in
set_option maxHeartbeats 0 in
theorem PySem.Challenge.cw_restcounts_k02_whole_one_form_of_lots_holds : PySem.Challenge.rw_restcounts_k02_whole_one_form_of_lots.Holds := by
  w_on; o_law; k_head; (case hw => w_witness2)
  k_fill
  refine K02.walk (l := PySem.Challenge.rw_restcounts_k02_whole_one_form_of_lots) rfl rfl (fun w h Y => PySem.W.kIn_of Y) ?F
  case F =>
    intro w mg fa h KX G hmg XPh
    have lo0 : ∃ t, mg "PIECE_MASK" = some (.int B5.PMASK t) := by
      obtain ⟨v, e, r⟩ := XPh.2.val _ (.head _)
      cases r
      exact ⟨_, e⟩
    refine' K02.all_mk KX G hmg lo0 ?e0 ?j0 ?n0_0 ?n0_1 ?e1 ?j1 ?n1_0 ?aC0 ?pg0 ?hd0 ?po0 ?sa0 ?ha0 ?hn0 ?ht0 ?hm0 ?me0 ?at0_0 ?at0_1 ?at0_2 ?at0_3 ?at0_4 ?at0_5 ?no0_int ?no0_bool ?no0_NoneType ?no0_str ?no0_list ?no0_tuple ?no0_dict ?ni0 ?nf0_tuple ?mk0 ?kp0 ?af0 ?lf0 ?cf0 ?kf0 ?af1 ?lf1 ?cf1 ?kf1 ?af2 ?lf2 ?cf2 ?kf2 ?af3 ?lf3 ?cf3 ?kf3 ?af4 ?lf4 ?cf4 ?kf4 ?af5 ?lf5 ?cf5 ?kf5 ?af6 ?lf6 ?cf6 ?kf6 ?af7 ?lf7 ?cf7 ?kf7 ?af8 ?lf8 ?cf8 ?kf8 ?af9 ?lf9 ?cf9 ?kf9 ?af10 ?lf10 ?cf10 ?kf10 ?af11 ?lf11 ?cf11 ?kf11 ?af12 ?lf12 ?cf12 ?kf12 ?af13 ?lf13 ?cf13 ?kf13 ?af14 ?lf14 ?cf14 ?kf14 ?af15 ?lf15 ?cf15 ?kf15 ?af16 ?lf16 ?cf16 ?kf16 ?af17 ?lf17 ?cf17 ?kf17 ?af18 ?lf18 ?cf18 ?kf18 ?af19 ?lf19 ?cf19 ?kf19 ?af20 ?lf20 ?cf20 ?kf20 ?af21 ?lf21 ?cf21 ?kf21 ?af22 ?lf22 ?cf22 ?kf22 ?af23 ?lf23 ?cf23 ?kf23 ?af24 ?lf24 ?cf24 ?kf24 ?af25 ?lf25 ?cf25 ?kf25 ?af26 ?lf26 ?cf26 ?kf26 ?af27 ?lf27 ?cf27 ?kf27 ?af28 ?lf28 ?cf28 ?kf28 ?af29 ?lf29 ?cf29 ?kf29 ?af30 ?lf30 ?cf30 ?kf30 ?af31 ?lf31 ?cf31 ?kf31 ?af32 ?lf32 ?cf32 ?kf32 ?af33 ?lf33 ?cf33 ?kf33 ?af34 ?lf34 ?cf34 ?kf34 ?af35 ?lf35 ?cf35 ?kf35 ?af36 ?lf36 ?cf36 ?kf36 ?af37 ?lf37 ?cf37 ?kf37 ?fcm0_0 ?fnm0_0 ?lm0_0 ?lTm0_0 ?lEm0_0 ?cm0_0 ?km0_0 ?fcm0_1 ?fnm0_1 ?lm0_1 ?cm0_1 ?km0_1 ?aF ?lF ?cF ?kF ?gl0 ?gl1 ?gl2 ?gl3 ?ac0 ?kc0 ?ac1 ?kc1 ?ac2 ?kc2 ?z_int ?z_bool ?z_tuple ?z_len ?z_list ?z_range ?z_isinstance ?z_repr ?z_all ?z_divmod ?z_reversed ?z_zip ?z_sorted ?z_sum ?agcd
    (case e0 => (refine' K02.ErIn.mk ?_ ?_ ?_ ?_ ?_ ?_ <;> try k_is))
    (case j0 => (refine' K02.IniIn.mk ?_ ?_ ?_ ?_ ?_ ?_ ?_ ?_ <;> try k_is))
    (case n0_0 => k_is)
    (case n0_1 => k_is)
    (case e1 => (refine' K02.ErIn.mk ?_ ?_ ?_ ?_ ?_ ?_ <;> try k_is))
    (case j1 => (refine' K02.IniIn.mk ?_ ?_ ?_ ?_ ?_ ?_ ?_ ?_ <;> try k_is))
    (case n1_0 => k_is)
    (case aC0 => k_is)
    (case pg0 => k_is)
    (case hd0 => k_is)
    (case po0 => k_is)
    (case sa0 => k_is)
    (case ha0 => k_is)
    (case hn0 => k_is)
    (case ht0 => k_is)
    (case hm0 => k_is)
    (case me0 => (first | kernel_rfl | k_is | kit_is | decide +kernel))
    (case at0_0 => k_is)
    (case at0_1 => k_is)
    (case at0_2 => k_is)
    (case at0_3 => k_is)
    (case at0_4 => k_is)
    (case at0_5 => k_is)
    (case no0_int => (first | kernel_rfl | k_is | kit_is | decide +kernel))
    (case no0_bool => (first | kernel_rfl | k_is | kit_is | decide +kernel))
    (case no0_NoneType => (first | kernel_rfl | k_is | kit_is | decide +kernel))
    (case no0_str => (first | kernel_rfl | k_is | kit_is | decide +kernel))
    (case no0_list => (first | kernel_rfl | k_is | kit_is | decide +kernel))
    (case no0_tuple => (first | kernel_rfl | k_is | kit_is | decide +kernel))
    (case no0_dict => (first | kernel_rfl | k_is | kit_is | decide +kernel))
    (case ni0 => (first | kernel_rfl | k_is | kit_is | decide +kernel))
    (case nf0_tuple => (first | kernel_rfl | k_is | kit_is | decide +kernel))
    (case mk0 => k_is)
    (case kp0 => k_is)
    (case af0 => k_is)
    (case lf0 => k_is)
    (case cf0 => k_is)
    (case kf0 => k_is)
    (case af1 => k_is)
    (case lf1 => k_is)
    (case cf1 => k_is)
    (case kf1 => k_is)
    (case af2 => k_is)
    (case lf2 => k_is)
    (case cf2 => k_is)
    (case kf2 => k_is)
    (case af3 => k_is)
    (case lf3 => k_is)
    (case cf3 => k_is)
    (case kf3 => k_is)
    (case af4 => k_is)
    (case lf4 => k_is)
    (case cf4 => k_is)
    (case kf4 => k_is)
    (case af5 => k_is)
    (case lf5 => k_is)
    (case cf5 => k_is)
    (case kf5 => k_is)
    (case af6 => k_is)
    (case lf6 => k_is)
    (case cf6 => k_is)
    (case kf6 => k_is)
    (case af7 => k_is)
    (case lf7 => k_is)
    (case cf7 => k_is)
    (case kf7 => k_is)
    (case af8 => k_is)
    (case lf8 => k_is)
    (case cf8 => k_is)
    (case kf8 => k_is)
    (case af9 => k_is)
    (case lf9 => k_is)
    (case cf9 => k_is)
    (case kf9 => k_is)
    (case af10 => k_is)
    (case lf10 => k_is)
    (case cf10 => k_is)
    (case kf10 => k_is)
    (case af11 => k_is)
    (case lf11 => k_is)
    (case cf11 => k_is)
    (case kf11 => k_is)
    (case af12 => k_is)
    (case lf12 => k_is)
    (case cf12 => k_is)
    (case kf12 => k_is)
    (case af13 => k_is)
    (case lf13 => k_is)
    (case cf13 => k_is)
    (case kf13 => k_is)
    (case af14 => k_is)
    (case lf14 => k_is)
    (case cf14 => k_is)
    (case kf14 => k_is)
    (case af15 => k_is)
    (case lf15 => k_is)
    (case cf15 => k_is)
    (case kf15 => k_is)
    (case af16 => k_is)
    (case lf16 => k_is)
    (case cf16 => k_is)
    (case kf16 => k_is)
    (case af17 => k_is)
    (case lf17 => k_is)
    (case cf17 => k_is)
    (case kf17 => k_is)
    (case af18 => k_is)
    (case lf18 => k_is)
    (case cf18 => k_is)
    (case kf18 => k_is)
    (case af19 => k_is)
    (case lf19 => k_is)
    (case cf19 => k_is)
    (case kf19 => k_is)
    (case af20 => k_is)
    (case lf20 => k_is)
    (case cf20 => k_is)
    (case kf20 => k_is)
    (case af21 => k_is)
    (case lf21 => k_is)
    (case cf21 => k_is)
    (case kf21 => k_is)
    (case af22 => k_is)
    (case lf22 => k_is)
    (case cf22 => k_is)
    (case kf22 => k_is)
    (case af23 => k_is)
    (case lf23 => k_is)
    (case cf23 => k_is)
    (case kf23 => k_is)
    (case af24 => k_is)
    (case lf24 => k_is)
    (case cf24 => k_is)
    (case kf24 => k_is)
    (case af25 => k_is)
    (case lf25 => k_is)
    (case cf25 => k_is)
    (case kf25 => k_is)
    (case af26 => k_is)
    (case lf26 => k_is)
    (case cf26 => k_is)
    (case kf26 => k_is)
    (case af27 => k_is)
    (case lf27 => k_is)
    (case cf27 => k_is)
    (case kf27 => k_is)
    (case af28 => k_is)
    (case lf28 => k_is)
    (case cf28 => k_is)
    (case kf28 => k_is)
    (case af29 => k_is)
    (case lf29 => k_is)
    (case cf29 => k_is)
    (case kf29 => k_is)
    (case af30 => k_is)
    (case lf30 => k_is)
    (case cf30 => k_is)
    (case kf30 => k_is)
    (case af31 => k_is)
    (case lf31 => k_is)
    (case cf31 => k_is)
    (case kf31 => k_is)
    (case af32 => k_is)
    (case lf32 => k_is)
    (case cf32 => k_is)
    (case kf32 => k_is)
    (case af33 => k_is)
    (case lf33 => k_is)
    (case cf33 => k_is)
    (case kf33 => k_is)
    (case af34 => k_is)
    (case lf34 => k_is)
    (case cf34 => k_is)
    (case kf34 => k_is)
    (case af35 => k_is)
    (case lf35 => k_is)
    (case cf35 => k_is)
    (case kf35 => k_is)
    (case af36 => k_is)
    (case lf36 => k_is)
    (case cf36 => k_is)
    (case kf36 => k_is)
    (case af37 => k_is)
    (case lf37 => k_is)
    (case cf37 => k_is)
    (case kf37 => k_is)
    (case fcm0_0 => k_is)
    (case fnm0_0 => k_is)
    (case lm0_0 => k_is)
    (case lTm0_0 => k_is)
    (case lEm0_0 => k_is)
    (case cm0_0 => k_is)
    (case km0_0 => k_is)
    (case fcm0_1 => k_is)
    (case fnm0_1 => k_is)
    (case lm0_1 => k_is)
    (case cm0_1 => k_is)
    (case km0_1 => k_is)
    (case aF => k_is)
    (case lF => k_is)
    (case cF => k_is)
    (case kF => k_is)
    (case gl0 => k_is)
    (case gl1 => k_is)
    (case gl2 => k_is)
    (case gl3 => k_is)
    (case ac0 => k_is)
    (case kc0 => (first | kernel_rfl | k_is | kit_is | decide +kernel))
    (case ac1 => k_is)
    (case kc1 => (first | kernel_rfl | k_is | kit_is | decide +kernel))
    (case ac2 => k_is)
    (case kc2 => (first | kernel_rfl | k_is | kit_is | decide +kernel))
    (case z_int => k_is)
    (case z_bool => k_is)
    (case z_tuple => k_is)
    (case z_len => k_is)
    (case z_list => k_is)
    (case z_range => k_is)
    (case z_isinstance => k_is)
    (case z_repr => k_is)
    (case z_all => k_is)
    (case z_divmod => k_is)
    (case z_reversed => k_is)
    (case z_zip => k_is)
    (case z_sorted => k_is)
    (case z_sum => k_is)
    (case agcd => (first | kernel_rfl | k_is | kit_is | decide +kernel))

