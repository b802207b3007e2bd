import PyProof.Rows.All
import Wide.All
import OpenK.AllK
import Wide.FinOn
import HandS.ForMost
import HandS.ExcInit
import HandS.ExcField
import HandS.ExcOwn
import HandS.IsInst
import KE.KExcIs
import HandS.Exc
import HandS.Lambda
import HandS.EndTab
import KE.KNestM
import HandS.Wide
import HandS.Evl
import HandS.Walk
import HandS.WordsExc
import HandS.Rev
import HandS.Zip
import KE.GoesMore
import KE.GoesZip
import PyProof.P3Eq
import KE.KOpsOwn
import HandS.OwnEq
import HandS.SlotsOwn
import HandS.More
import HandS.Codes
import HandS.Conv
import HandS.TupMul
import PyProof.NeKinds
import HandS.TupAny
import HandS.Style
import PySem.Challenge.RW_restcounts_k78_whole_as_many
set_option Elab.async false
set_option linter.all false
set_option maxRecDepth 100000
set_option maxHeartbeats 4000000
/-! Gd: defs whose promise leans on there being no repr under way around them; calls of such; a law's end over such. -/
namespace Gd
open PySem PySem.Spec PyProof.Rows L2

/-- a promise kept wherever no guard stands around -/
structure FnG (P : Program) (w : World) (K : PySem.W.Frag) (mg : Str → Option Value) (base : Heap)
    (CX : CXT) (k : Nat) (f : Addr) (fd : FuncData) (ps : List Str) (sp : Sp) : Prop where
  len : ∀ vs H Q E, sp vs H Q E → vs.length = ps.length
  go : ∀ (A : Around) (outer : List Env) (s : Shared) (H : Hp) (args : Args) (us : List Value) (vs : List V) (Q : VK) (E : XK),
    A.guards = some [] → Room k A → Env0 P w K mg base A outer s H →
    BindsTo s fd args (ps.zip us) → Vals vs us → sp vs H Q E →
    codeAny (model P w) A (.call (.ref f) args) (CR CX outer P w H s Q E) s

section
variable {P : Program} {w : World} {K : PySem.W.Frag} {mg : Str → Option Value} {base : Heap} {CX : CXT}

theorem FnG.ofOk {k : Nat} {f : Addr} {fd : FuncData} {ps : List Str} {sp : Sp}
    (F : FnOk P w K mg base CX k f fd ps sp) : FnG P w K mg base CX k f fd ps sp where
  len := F.len
  go := fun A outer s H args us vs Q E _ => F.run A outer s H args us vs Q E

/-- a def by its body, where the guards are none -/
theorem fnG_of {k : Nat} {f : Addr} {name qual : Str} {params : Arguments} {body : List Stmt} {scope : Scope}
    {dV kV doc pm cdv ct oc : Value} {an od : Option Addr} {osl : Array (Option Value)} {N ps : List Str} {sp : Sp}
    (lk : K.lookup f = some ⟨oc, od, .func (PySem.W.fnOf name qual params body scope dV kV doc pm an cdv ct), osl⟩)
    (hcd : PySem.W.codeIn K cdv qual = true) (S : FnScope N ps scope)
    (len : ∀ vs H Q E, sp vs H Q E → vs.length = ps.length)
    (B : ∀ (A : Around) (outer : List Env) (s : Shared) (H : Hp) (vs : List V) (Q : VK) (E : XK),
      A.guards = some [] → Room k (A.deeper (envOfC qual scope s.heap.objs.size f cdv)) → sp vs H Q E →
      ∃ t, PSs (cxOf CX P w K mg base N qual scope f cdv A outer s H E) body t ∧
        t { nx := fun _ H' => Q .non H', rt := Q } (start N vs) H) :
    FnG P w K mg base CX (k + 1) f (PySem.W.fnOf name qual params body scope dV kV doc pm an cdv ct) ps sp where
  len := len
  go := by
    intro A outer s H args us vs Q E hgd room env0 hbind rel hs
    have hlen := len _ _ _ _ hs
    have old : ∀ b o, base.get? b = some o → s.heap.get? b = some o := fun b o h => (env0.bs b o h).1
    have kin := env0.mod.kin.keeps old
    have nolim := env0.mod.nolimit.keeps old
    refine codeAny_call_function room.depth (kin _ _ lk) rfl S.co S.gen rfl
      (PySem.W.codeRec_of kin hcd) (hbind _ _ _ _ ?_)
    refine wpAny_newFunctionEnv_cells S.kind ?kinds fun env he s1 inC => ?_
    case kinds =>
      rintro ⟨n, v⟩ hm
      have hn := S.par n (List.of_mem_zip hm).1
      exact hn.imp (fun q => q) fun q => ⟨q, PySem.W.cellsFrom_some _ _ _ (.inl q)⟩
    subst he
    refine ⟨nolim.keeps inC.toInCall.keep, codeAny_func ?_⟩
    have ⟨t, derived, reading⟩ := B A outer s H vs Q E hgd (room.deeper _) hs
    have inv0 := inv_start (CX := CX) (E := E) S room.hd env0 hlen rel inC
    refine wpAny_mono (derived.run [] s1 (start N vs) H _ inv0 reading) ?_ fun _ _ he => he
    intro fl s' hfl
    match fl, hfl with
    | .ret _, ⟨v, _, H', J, rv, q⟩ => exact ⟨v, H', J.os, J.bare, J.base, J.hok, rv, q⟩
    | .next, ⟨_, H', J, q⟩ => exact ⟨V.non, H', J.os, J.bare, J.base, J.hok, rfl, q⟩
    | .brk, ⟨_, _, _, q⟩ => exact q.elim
    | .cont, ⟨_, _, _, q⟩ => exact q.elim

/-- for a def of the text that no exception leaves -/
theorem okG {x qual : Str} {st : Stmt} {f : Addr} {fd : FuncData} {N ps : List Str} {k : Nat} {sp : Sp}
    (F : Fun K x qual st f fd) (S : FnScope N ps (defScope st)) (len : ∀ vs H Q E, sp vs H Q E → vs.length = ps.length)
    (B : ∀ (cdv : Value) (A : Around) (outer : List Env) (s : Shared) (H : Hp) (vs : List V) (Q : VK) (E : XK),
      A.guards = some [] → Room k (A.deeper (envOfC qual (defScope st) s.heap.objs.size f cdv)) → sp vs H Q E →
      ∃ t, PSs (cxOf CX0 P w K mg base N qual (defScope st) f cdv A outer s H E).nox (defBody st) t ∧
        t { nx := fun _ H' => Q .non H', rt := Q } (start N vs) H) : FnG P w K mg base CX0 (k + 1) f fd ps sp := by
  have ⟨oc, od, kV, doc, pm, an, cdv, ct, osl, e, lk, hcd⟩ := F.ex
  subst e
  refine fnG_of lk hcd S len ?_
  intro A outer s H vs Q E hgd room hs
  have ⟨t, d, q⟩ := B cdv A outer s H vs Q E hgd room hs
  exact ⟨t, d.nox, q⟩
end

section
variable {X : Cx} {CX : CXT} {k : Nat} {f : Addr} {fd : FuncData} {ps : List Str} {sp : Sp} {dvs : List V} {ds : List Value} {E : XK}
/-- the call of such a def -/
theorem run_fnG {pins : List (Addr × Obj)} {σ : L2.St} {H : Hp} {s : Shared} {Q : VK} {us : List Value} {vs : List V}
    (F : FnG X.prog X.w X.K X.mg X.base CX k f fd ps sp) (hgd : X.A.guards = some []) (room : Room k X.A)
    (hb : Binds X.K fd ps ds) (hd : Vals dvs ds) (hx : Passes CX X E) (I : Inv X pins σ H s) (r : Vals vs us)
    (h : sp (vs ++ dvs) H Q E) : wpAny (model X.prog X.w) X.A (call (.ref f) us) (EP X pins σ Q) X.xe s := by
  have rr := r.append hd
  have hlen := F.len _ _ _ _ h
  rw [rr.length] at hlen
  have c := F.go X.A X.stack s H ⟨us, []⟩ (us ++ ds) (vs ++ dvs) Q E hgd room I.env0 (hb s us I.kIn hlen) rr h
  refine wpAny_call (codeAny_mono c ?_)
  intro res s' hres
  match res, hres with
  | .error e, he => exact hx pins σ H s e s' I he
  | .ok (.ret u), he => exact I.after he
  | .ok .next, he => exact he.elim
  | .ok .brk, he => exact he.elim
  | .ok .cont, he => exact he.elim

theorem pe_callG {x : Str} {p pos : Pos} {e : Expr} {es : List Expr} {t : TA}
    (F : FnG X.prog X.w X.K X.mg X.base CX k f fd ps sp) (hgd : X.A.guards = some []) (hr : Room k X.A) (hg : Gl X x)
    (hm : X.mg x = some (.ref f)) (hk : PySem.W.keepIn X.K (.ref f) = true) (hb : Binds X.K fd ps ds) (hd : Vals dvs ds)
    (hx : Passes CX X E) (ha : PA X (e :: es) t) (hdb : (x == ("__debug__" : Str)) = false := by decide)
    (he : starEach (e :: es) X.env = (false, eval e X.env) :: starEach es X.env := by rfl)
    (hpl : (backTo pos (starEach es X.env)).any (·.1) = false := by rfl) :
    PE X (.Call (.Name x p) (e :: es) [] pos) (tCall sp dvs E t) where
  run := by
    intro pins s σ H Q I h
    refine wpAny_Call_Name_kw (ld_glob I hg hm ?_ hdb)
    refine PySem.W.callWith_K (h₀ := X.base) I.ok.mod.kin hk ?_ he hpl
    refine thn (ha.run pos pins s σ H _ I h) ?_
    rintro us s1 ⟨vs, H1, I1, rel, q⟩
    exact ⟨I1.kIn, run_fnG F hgd hr hb hd hx I1 rel q⟩
end

/-! ### repr of data -/
mutual
theorem dp_nodict {K : PySem.W.Frag} {H : Hp} : ∀ (d : PyData) (v : V), Dp K H v d → d.hasDict = false
  | .none, _, _ => by simp only [PyData.hasDict]
  | .bool _, _, _ => by simp only [PyData.hasDict]
  | .int _, _, _ => by simp only [PyData.hasDict]
  | .str _, _, _ => by simp only [PyData.hasDict]
  | .list ds, _, h => by
    cases h with
    | lst _ ha => simp only [PyData.hasDict]; exact dpAll_nodict ds _ ha
  | .tuple ds, _, h => by
    cases h with
    | tup _ ha => simp only [PyData.hasDict]; exact dpAll_nodict ds _ ha
  | .dict _, _, h => by cases h
theorem dpAll_nodict {K : PySem.W.Frag} {H : Hp} : ∀ (ds : List PyData) (vs : List V), DpAll K H vs ds → PyData.hasDictAll ds = false
  | [], _, _ => by simp only [PyData.hasDictAll]
  | d :: ds, _, h => by
    cases h with
    | cons a b => simp only [PyData.hasDictAll, dp_nodict d _ a, dpAll_nodict ds _ b, Bool.or_self]
end

/-- repr(x) of data without dicts -/
def rRepr (K : PySem.W.Frag) : List V → Hp → VK → Prop := fun xs H Q => ∃ x d, xs = [x] ∧ Dp K H x d ∧
  d.showable = true ∧ d.depth ≤ 60 ∧ d.shown.length ≤ sizeLine ∧ Q (.str d.shown) H
theorem call_repr {X : Cx} (hgd : X.A.guards = some []) (hu : X.A.units + 64 < cLine) : CallR X (.builtin "repr") (rRepr X.K) := by
  intro pins s σ H xs us Q I rel h
  obtain ⟨x, d, rfl, dp, sh, hd, hz, q⟩ := h
  cases rel with
  | cons rx rt =>
    cases rt
    rename_i u
    obtain ⟨as, rd⟩ := Dp.reads I d x u dp rx
    have nod := dp_nodict d x dp
    cases dp with
    | non =>
      cases rx
      exact PySem.P.repr_of_none ⟨.str _, H, I.tok _, ⟨_, rfl⟩, q⟩
    | bl b =>
      cases rx
      exact PySem.P.repr_of_bool ⟨.str _, H, I.tok _, ⟨_, rfl⟩, q⟩
    | int i =>
      obtain ⟨t, rfl⟩ := rx
      exact PySem.P.repr_of_int (by simpa [PyData.showable] using sh) ⟨.str _, H, I.tok _, ⟨_, rfl⟩, q⟩
    | str z =>
      obtain ⟨t, rfl⟩ := rx
      exact PySem.P.repr_of_str ⟨.str _, H, I.tok _, ⟨_, rfl⟩, q⟩ (by simpa only [PyData.shown] using hz)
    | lst _ _ =>
      cases rx
      exact repr_of_reads' rd sh (PySem.PyData.noDict_hsm nod) hgd (by omega) (fun _ _ e => e) (fun h' t tk k => ⟨.str _, H, I.kept k, ⟨_, rfl⟩, q⟩) hz
    | tup _ _ =>
      cases rx
      exact repr_of_reads' rd sh (PySem.PyData.noDict_hsm nod) hgd (by omega) (fun _ _ e => e) (fun h' t tk k => ⟨.str _, H, I.kept k, ⟨_, rfl⟩, q⟩) hz
end Gd

/-! Ex: errors of own classes as values: made, their fields read, asked for their class. -/
namespace Gd
open PySem PySem.Spec PyProof.Rows L2

/-- what isinstance and the fields ask of such a class -/
structure ErC (K : PySem.W.Frag) (C : Addr) : Prop where
  ga : PySem.W.findIn K (.ref C) "__getattribute__" = some (some (.builtin "BaseException.__getattribute__"))
  gg : PySem.W.findIn K (.ref C) "__getattr__" = some none
  be : PySem.W.subIn K (.ref C) (.type "BaseException") = some true
  hd : PySem.W.hasDictIn K C = true
  ci : PySem.W.isClsIn K C = true
  cc : PySem.W.findIn K (.ref C) "__class__" = some (some (.builtin "object.__class__"))
  cg : PySem.W.specialIn K (.builtin "object.__class__") "__get__" = some (some (.builtin "getset_descriptor.__get__"))
  ct : PySem.W.takesIn K (.builtin "object.__class__") = some true
  om : PySem.W.mroIn K C (.type "object") = some true

section
variable {X : Cx} {CX : CXT} {pins : List (Addr × Obj)} {σ : L2.St} {H : Hp} {s : Shared}

/-- an error of the class at C stands at a, its fields fs (the last stored first) -/
def ErA (H : Hp) (a C : Addr) (fs : List (Str × V)) : Prop :=
  (H a = some (exo a C none) ∧ fs = []) ∨ ∃ d, H a = some (exo a C (some d)) ∧ H d = some (exd d fs)

/-- such an error, as the library's rules see it -/
theorem inst_of {a C : Addr} {fs : List (Str × V)} (I : Inv X pins σ H s) (e : ErA H a C fs) :
    ∃ ox od, PySem.W.InstAt s.heap a ox C od ∧ ∀ n v, fs.lookup n = some v →
      ∃ u o, od = some o ∧ PySem.W.lookIn n o = some (some u) ∧ RelV v u := by
  obtain ⟨e, rfl⟩ | ⟨d, e, ed⟩ := e
  · obtain ⟨t, ho⟩ := exo_at I.hok e
    exact ⟨_, none, ⟨ho, rfl, rfl, trivial⟩, fun n v z => by cases z⟩
  · obtain ⟨t, ho⟩ := exo_at I.hok e
    obtain ⟨mA, hns, rel⟩ := exd_at I.hok ed
    obtain ⟨od, hod, look⟩ := lookIn_ns hns
    refine ⟨_, some od, ⟨ho, rfl, rfl, hod⟩, fun n v z => ?_⟩
    have rn := rel n
    rw [z] at rn
    cases q : mA n with
    | none => rw [q] at rn; exact rn.elim
    | some u =>
      rw [q] at rn
      exact ⟨u, od, rfl, by rw [look, q], rn⟩

/-- isinstance(e, c) -/
def rIsEr (K : PySem.W.Frag) : List V → Hp → VK → Prop := fun xs H Q => ∃ (a C : Addr) (fs : List (Str × V)) (c : V) (u : Value) (b : Bool),
  xs = [.ref a, c] ∧ ErA H a C fs ∧ ErC K C ∧ ClsV c u ∧ PySem.W.kitOne K (.ref C) u = some b ∧ Q (.bl b) H
theorem call_isEr : CallR X (.builtin "isinstance") (rIsEr X.K) := by
  intro pins s σ H xs us Q I rel h
  obtain ⟨a, C, fs, c, u, b, rfl, ea, T, kc, kit, q⟩ := h
  obtain ⟨u1, u2, rfl, r1, r2⟩ := vals2 rel
  cases (show u1 = Value.ref a from r1)
  have e2 := kc.eq r2
  subst e2
  obtain ⟨ox, od, J, _⟩ := inst_of I ea
  have Z := PySem.W.kitx_exc (x := a) (ox := ox) (od := od) (K := X.K) T.ci T.ga T.gg T.be T.cc T.cg T.ct T.om
  exact PySem.W.kia_one Z I.kIn J kit (fun z => nomatch z) fun tk => ⟨.bl b, H, I.tok tk, rfl, q⟩

/-- e.f -/
def tErF (K : PySem.W.Frag) (f : Str) (te : TE) : TE := fun σ H Q => te σ H fun x H1 => ∃ (a C : Addr) (fs : List (Str × V)) (v : V),
  x = .ref a ∧ ErA H1 a C fs ∧ ErC K C ∧ PySem.W.findIn K (.ref C) f = some none ∧ fs.lookup f = some v ∧ Q v H1
theorem pe_erF {e : Expr} {te : TE} {pos : Pos} {f : Str} (he : PE X e te)
    (hb : attributeBase e f X.env (eval e X.env) = eval e X.env := by rfl) : PE X (.Attribute e f pos) (tErF X.K f te) where
  run := by
    intro pins s σ H Q I h
    refine attr_of hb (thn (he.run pins s σ H _ I h) ?_)
    rintro u s1 ⟨x, H1, I1, rx, a, C, fs, v, ex, ea, T, no, l, q⟩
    subst ex
    cases (show u = Value.ref a from rx)
    obtain ⟨ox, od, J, g⟩ := inst_of I1 ea
    obtain ⟨u, o, rfl, lk, ru⟩ := g f v l
    exact HandSPX.exc_get I1.kIn J T.ga T.gg T.be (PySem.W.findObj_own T.hd no rfl lk) (handed_of ru) ⟨v, H1, I1.tok _, ru, q⟩

/-- C(), an error class without an __init__ of its own -/
def tEr0 (C : Addr) : TE := fun _ H Q => ∀ a, H a = none → Q (.ref a) (upd H a (exo a C none))
theorem pe_er0 {C : Addr} {bmB : List Value} {B newId initId : String} {x : Str} {p pos : Pos} (F : ExcBaseFacts B newId initId bmB)
    (q : PySem.W.excIn X.K C bmB newId = true) (gC : X.mg x = some (.ref C)) (kC : PySem.W.keepIn X.K (.ref C) = true) (hg : Gl X x)
    (hdb : (x == ("__debug__" : Str)) = false := by decide) : PE X (.Call (.Name x p) [] [] pos) (tEr0 C) where
  run := by
    intro pins s σ H Q I h
    refine wpAny_Call_Name_kw (ld_glob I hg gC ?_ hdb)
    refine PySem.W.callWith_K0 I.kIn kC ?_
    obtain ⟨bm, N, nm, qn, bs, hdct, sn, sub, ab, col, dd, k0, k1, k2, k3, k5, mN, hC, hN, hni, T⟩ := exc_obj I.kIn q
    obtain ⟨hp, g, d, t, os⟩ := s
    refine wpAny_call_exc_subT F T hC hN hni ?_ (by show 0 ≤ sizeLine; exact Nat.zero_le _)
    intro h' a hm
    have fresh : H a = none := I.hok.gone hm.new
    obtain ⟨t0, ht, _, _⟩ := hm.there
    have lay : ObjOk X.prog X.w (upd H a (exo a C none)) h' a (exo a C none) := exo_ok ht
    refine ⟨.ref a, _, I.un (t' := t) ?_ ?_, rfl, h a fresh⟩
    · exact {
        keep := fun b u z _ _ _ => hm.keeps b u z
        slot := fun b u z _ _ _ => ⟨u.slots, hm.keeps b u z⟩
        free := fun b u z n _ => by rw [upd_ne (fun e => by rw [e] at z; have := hm.new; rw [this] at z; cases z)]; exact n
        there := fun b u z _ => ⟨u, hm.keeps b u z⟩
        tups := fun b xs z => by rw [upd_ne (ne_of_none z fresh)]; exact z
        frzs := fun b o u z => by rw [upd_ne (ne_of_none z fresh)]; exact z
        tbls := fun b ps z => ⟨#[], by rw [upd_ne (ne_of_none z fresh), z]; simp⟩ }
    · intro b u z
      by_cases e : b = a
      · subst e
        rw [upd_same] at z
        cases z
        exact lay
      · rw [upd_ne e] at z
        exact (I.hok b u z).stay (fun c v _ y => hm.keeps c v y) (fun c y => by rw [upd_ne (ne_of_none y fresh)]; exact y)
          fun c xs y => by rw [upd_ne (ne_of_none y fresh)]; exact y

/-- C(e, ..), C's own __init__ keeping sp -/
def tErI (C : Addr) (sp : Sp) (ta : TA) : TE := fun σ H Q => ta σ H fun vs H1 => vs.length ≤ 1000 ∧ ∀ a, H1 a = none →
  sp (.ref a :: vs) (upd H1 a (exo a C none)) (fun v H2 => v = .non ∧ Q (.ref a) H2) (fun _ _ _ => False)
theorem pe_erI {x : Str} {C fI : Addr} {k : Nat} {fd : FuncData} {ps : List Str} {sp : Sp} {e : Expr} {es : List Expr} {ta : TA} {p pos : Pos}
    (T : OexC X.K C) (iC : PySem.W.findIn X.K (.ref C) "__init__" = some (some (.ref fI))) (tI : PySem.W.typeIn X.K (.ref fI) = some (.type "function"))
    (F1 : FnOk X.prog X.w X.K X.mg X.base CX k fI fd ps sp) (hr : Room (k + 1) X.A) (hb : Binds X.K fd ps [])
    (hx : Passes CX X (fun _ _ _ => False)) (hg : Gl X x) (hm : X.mg x = some (.ref C)) (ha : PA X (e :: es) ta)
    (hdb : (x == ("__debug__" : Str)) = false := by decide)
    (he : starEach (e :: es) X.env = (false, eval e X.env) :: starEach es X.env := by rfl)
    (hpl : (backTo pos (starEach es X.env)).any (·.1) = false := by rfl) :
    PE X (.Call (.Name x p) (e :: es) [] pos) (tErI C sp ta) where
  run := by
    intro pins s σ H Q I h
    obtain ⟨nm, q, N, bs, bm, sn, sub, ab, col, dd, k0, k1, k2, k3, k5, hC, hbm⟩ := T.cls
    refine wpAny_Call_Name_kw (ld_glob I hg hm ?_ hdb)
    refine PySem.W.callWith_K (h₀ := X.base) I.ok.mod.kin T.kC (thn (ha.run pos pins s σ H _ I h) ?_) he hpl
    rintro us s1 ⟨vs, H1, I1, rel, few, next⟩
    refine ⟨I1.kIn, ?_⟩
    show wpAny _ _ (call (.ref C) us) _ _ _
    obtain ⟨hp, g, dr, tk, os⟩ := s1
    have above : hp.objs.size ≤ hp.objs.size + 1 := Nat.le_succ _
    have call := next (hp.objs.size + 1) (I1.hok.fresh above)
    have kept : ∀ b o, hp.get? b = some o → ((hp.push (PySem.W.kdv_tup us)).push (PySem.HandSPX.excO C hp.objs.size)).get? b = some o :=
      fun b o z => Heap.get?_push_of_some _ (Heap.get?_push_of_some _ z)
    have there : ((hp.push (PySem.W.kdv_tup us)).push (PySem.HandSPX.excO C hp.objs.size)).get? (hp.objs.size + 1) = some (PySem.HandSPX.excO C hp.objs.size) := by heap_get
    have I2 := I1.laid (t' := tk) (o := exo (hp.objs.size + 1) C none) kept above (exo_ok there)
    have rel2 : Vals (V.ref (hp.objs.size + 1) :: vs) (Value.ref (hp.objs.size + 1) :: us) := .cons rfl rel
    have len2 : (Value.ref (hp.objs.size + 1) :: us ++ []).length = ps.length := by
      rw [List.append_nil, ← rel2.length]
      exact F1.len _ _ _ _ call
    have usz : us.length ≤ sizeLine := by
      have := Paired.length rel
      rw [sizeLine_eq]
      omega
    have bound := hb _ (Value.ref (hp.objs.size + 1) :: us) I2.kIn len2
    rw [List.append_nil] at bound
    refine wpAny_call (PySem.HandSPX.call_own F.excBase_ValueError (fun Y => PySem.HandSPX.refsVE_contains Y bm hbm) (I1.kIn _ _ hC)
      (PySem.W.looks_findIn I1.kIn iC) (fun self => PySem.W.bind_fn I1.kIn self tI) usz ?_)
    refine codeAny_mono (F1.run _ X.stack _ _ ⟨Value.ref (hp.objs.size + 1) :: us, []⟩ _ _ _ (fun _ _ _ => False) (hr.make C us [])
      (I2.env0.make C us []) bound rel2 call) ?_
    intro r s' hr'
    match r, hr' with
    | .error er, z => exact hx pins σ _ _ er s' I2 z
    | .ok (.ret u), z =>
      obtain ⟨v, H2, I3, rv, ev, q2⟩ := I2.after z
      subst ev
      exact ⟨rv, ⟨V.ref (hp.objs.size + 1), H2, I3, rfl, q2⟩⟩
    | .ok .next, z => exact z.elim
    | .ok .brk, z => exact z.elim
    | .ok .cont, z => exact z.elim
end
end Gd

/-! Ge: the end of a law row over a def of the kind FnG. -/
namespace Gd
open PySem PySem.Spec PyProof.Rows L2

/-- what the law's call finds: an abstract heap that tracks the script at most, a base without it -/
structure Entry (P : Program) (w : World) (K : PySem.W.Frag) (mg : Str → Option Value) (s : Shared) (a : Addr) (ns : List Int)
    (H : Hp) (base : Heap) : Prop where
  only : Only H
  script : SqL K H a (ns.map V.int)
  kin : K.In base
  glob : base.Ns mainGlobals mg
  env : Env0 P w K mg base callerA [] s H
  old : ∀ (H' : Hp) (s' : Shared), Un [] [] H H' s.heap s'.heap → HOk P w H' s'.heap → PySem.OldK s.heap s'.heap

section
variable {P : Program} {w : World} {K : PySem.W.Frag} {mg mb : Str → Option Value} {s : Shared} {a : Addr} {vs : List Value} {ns : List Int}
theorem entry_of {H : Hp} (kin : K.In s.heap) (hns : s.heap.Ns mainGlobals mg) (hb : s.heap.Ns builtinsNs mb)
    (hbb : ∀ x : Str, x ≠ "__name__" → mb x = bootBuiltins x) (hlim : s.heap.NoLimit) (hg : s.gens = #[])
    (ha : s.heap.get? a = some { cls := .type "list", data := .seq vs.toArray })
    (o1 : Only H) (o2 : SqL K H a (ns.map V.int)) (o3 : HOk P w H s.heap) (o4 : ∀ b, H b ≠ none → b = a)
    (o5 : H a ≠ none → K.lookup a = none) : ∃ base, Entry P w K mg s a ns H base := by
  -- whatever isn't the script's own object is in the base
  have stays : ∀ {b : Addr} {o : Obj}, s.heap.get? b = some o → (b = a → H b = none) → (hidT s.heap H).get? b = some o := by
    intro b o e h
    refine hidT_get e ?_
    by_cases z : b = a
    · exact h z
    · exact Classical.byContradiction fun q => z (o4 b q)
  have ns_in : ∀ {b : Addr} {m : Str → Option Value}, s.heap.Ns b m → (hidT s.heap H).Ns b m := by
    rintro b m ⟨o, es, ep, e, d, r⟩
    refine ⟨o, es, ep, stays e fun z => ?_, d, r⟩
    rw [z, ha] at e
    rw [← Option.some.inj e] at d
    cases d
  have kin' : K.In (hidT s.heap H) := by
    intro b o e
    refine stays (kin b o e) fun z => Classical.byContradiction fun q => ?_
    rw [z] at q e
    rw [o5 q] at e
    cases e
  obtain ⟨mc, l1, l2⟩ := hlim
  refine ⟨hidT s.heap H, o1, o2, kin', ns_in hns, ?_, ?_⟩
  · refine ⟨rfl, ⟨kin', ns_in hns, ⟨mb, ns_in hb, hbb⟩, ⟨mc, ns_in l1, l2⟩⟩, fun b o e => of_hidT e, Nat.le_of_eq (hidT_size _ _), trivial, ?_, o3, .of_eq hg⟩
    intro b hm
    exact (List.not_mem_nil hm).elim
  · intro H' s' un ok'
    refine PySem.OldK.of_keep fun b o e => ?_
    cases q : H b with
    | none => exact un.keep b o e q List.not_mem_nil List.not_mem_nil
    | some u =>
      obtain z | ⟨ob, xs, z⟩ := o1 b
      · rw [q] at z
        cases z
      · obtain ⟨was, _⟩ := o3 b _ z
        obtain ⟨still, _⟩ := ok' b _ (un.frzs b ob _ z)
        rw [e] at was
        rw [Option.some.inj was]
        exact still

theorem entry_is (kin : K.In s.heap) (hns : s.heap.Ns mainGlobals mg) (hb : s.heap.Ns builtinsNs mb)
    (hbb : ∀ x : Str, x ≠ "__name__" → mb x = bootBuiltins x) (hlim : s.heap.NoLimit) (hg : s.gens = #[])
    (ha : s.heap.get? a = some { cls := .type "list", data := .seq vs.toArray })
    (hi : IntsAre vs ns) (hl : ns.length ≤ sizeLine) : ∃ H base, Entry P w K mg s a ns H base := by
  have rv := vals_ints hi
  have ln := hi.length
  cases hk : K.lookup a with
  | some o =>
    have e := kin a o hk
    rw [ha] at e
    cases e
    have sq : SqL K (fun _ => none) a (ns.map V.int) :=
      .inr ⟨_, vs.toArray, _, hk, rfl, rfl, rfl, by rw [List.size_toArray, ln]; exact hl, by simpa using rv⟩
    obtain ⟨base, E⟩ := entry_of (P := P) (w := w) kin hns hb hbb hlim hg ha (fun _ => .inl rfl) sq
      (fun b u z => by cases (show (none : Option HO) = some u from z)) (fun b z => absurd rfl z) fun z => absurd rfl z
    exact ⟨_, base, E⟩
  | none =>
    let H : Hp := fun b => if b = a then some (.frz { cls := .type "list", data := .seq vs.toArray } (.lst (ns.map V.int))) else none
    have at_a : H a = some (.frz { cls := .type "list", data := .seq vs.toArray } (.lst (ns.map V.int))) := if_pos rfl
    have off_a : ∀ {b}, b ≠ a → H b = none := fun z => if_neg z
    have ok : HOk P w H s.heap := by
      intro b u z
      by_cases q : b = a
      · subst q
        rw [at_a] at z
        cases z
        exact ⟨ha, by rw [List.length_map]; exact hl, vs, _, rv, ha⟩
      · rw [off_a q] at z
        cases z
    have on : Only H := by
      intro b
      by_cases q : b = a
      · subst q
        exact .inr ⟨_, _, at_a⟩
      · exact .inl (off_a q)
    obtain ⟨base, E⟩ := entry_of (P := P) (w := w) kin hns hb hbb hlim hg ha on (.inl (.inr ⟨_, at_a⟩)) ok
      (fun b z => Classical.byContradiction fun q => z (off_a q)) fun _ => hk
    exact ⟨H, base, E⟩
end

theorem walkG {l : PySem.W.OpenLaw} {n k : Nat} {q : Program} {loose : List Str} {XP : (Str → Option Value) → Heap → Prop}
    {YP : World → Heap → Prop} {d : DefRec} {K : Params → PySem.W.Frag} {sp : World → Sp} {x : Str}
    (hn : l.most = some n) (hn2 : n ≤ sizeLine) (hdf : d.params.defaults = []) (hr : Room k callerA)
    (hY : ∀ (w : World) (h : Heap), YP w h → (K w.params).In h)
    (F : ∀ (w : World) (mg : Str → Option Value) (fa : Addr) (h : Heap), (K w.params).In h → h.Ns mainGlobals mg → mg d.name = some (.ref fa) →
      ∃ fd : FuncData, (∀ (s : Shared) (u : Value), BindsTo s fd ⟨[u], []⟩ [(x, u)]) ∧
        ∀ base : Heap, (K w.params).In base → base.Ns mainGlobals mg → FnG l.prog w (K w.params) mg base CX0 k fa fd [x] (sp w))
    (hsp : ∀ (w : World) (H : Hp) (a : Addr) (ns : List Int), ns.length ≤ n → Only H → SqL (K w.params) H a (ns.map V.int) →
      sp w [.ref a] H (fun v _ => v = .bl true) fun _ _ _ => False) :
    PySem.W.WalkO q loose XP YP l.row.toRowW d [] (fun f vs => PySem.call f vs) := by
  refine Att.attach_call hn hdf ?_
  intro w s₀ s₁ mg mb fa o pm cd doc a vs ns G Y ho hd hcd hmg hobj hints hlen hgens
  have kin := hY w _ Y
  obtain ⟨fd, binds, all⟩ := F w mg fa _ kin G.T.g hmg
  obtain ⟨H, base, E⟩ := entry_is (P := l.prog) (w := w) kin G.T.g G.T.b G.T.builtins G.T.nolimit hgens hobj hints (Nat.le_trans hlen hn2)
  have run := (all base E.kin E.glob).go callerA [] s₁ H ⟨[.ref a], []⟩ [.ref a] [.ref a] _ _ rfl hr E.env (binds s₁ (.ref a)) (.cons rfl .nil)
    (hsp w H a ns hlen E.only E.script)
  refine codeAny_mono run ?_
  intro res s' hres
  match res, hres with
  | .ok (.ret u), ⟨v, H', os, bare, un, ok', rel, e⟩ =>
    subst e
    cases (show u = Value.bool true from rel)
    exact ⟨rfl, E.old H' s' un ok', os, bare⟩
end Gd

/-! Gr: repr of data, lists and tuples and dicts within one another. -/
namespace Gd
open PySem PySem.Spec PyProof.Rows L2
def kD : Key → PyData
  | .inl i => .int i
  | .inr x => .str x
mutual
/-- v is the data d, at the abstract heap -/
inductive Dq (K : PySem.W.Frag) (H : Hp) : V → PyData → Prop
  | non : Dq K H .non .none
  | bl (b : Bool) : Dq K H (.bl b) (.bool b)
  | int (i : Int) : Dq K H (.int i) (.int i)
  | str (x : Str) : Dq K H (.str x) (.str x)
  | lst {a : Addr} {xs : List V} {ds : List PyData} : SqL K H a xs → DqAll K H xs ds → Dq K H (.ref a) (.list ds)
  | tup {a : Addr} {xs : List V} {ds : List PyData} : SqT K H a xs → DqAll K H xs ds → Dq K H (.ref a) (.tuple ds)
  | dct {a : Addr} {kvs : List (Key × V)} {ds : List (PyData × PyData)} : Rd H a (.dK kvs) → DqKv K H kvs ds → Dq K H (.ref a) (.dict ds)
inductive DqAll (K : PySem.W.Frag) (H : Hp) : List V → List PyData → Prop
  | nil : DqAll K H [] []
  | cons {v : V} {vs : List V} {d : PyData} {ds : List PyData} : Dq K H v d → DqAll K H vs ds → DqAll K H (v :: vs) (d :: ds)
inductive DqKv (K : PySem.W.Frag) (H : Hp) : List (Key × V) → List (PyData × PyData) → Prop
  | nil : DqKv K H [] []
  | cons {k : Key} {v : V} {vs : List (Key × V)} {d : PyData} {ds : List (PyData × PyData)} : Dq K H v d → DqKv K H vs ds → DqKv K H ((k, v) :: vs) ((kD k, d) :: ds)
end

theorem ram_nil {h : Heap} {n : Nat} : ReadAtMost h n [] := fun b hb => (List.not_mem_nil hb).elim
/-- a value's own repr, and what it reads -/
structure Rp (prog : Program) (w : World) (h : Heap) (u : Value) (d : PyData) : Prop where
  reads : ∃ as, Reads h u d as
  repr : d.showable = true → d.shown.length ≤ sizeLine → ∃ bs, ReadAtMost h d.depth bs ∧ ReprK prog w bs h d.depth u d.shown
structure RpAll (prog : Program) (w : World) (h : Heap) (us : List Value) (ds : List PyData) : Prop where
  reads : ∃ as, ReadsAll h us ds as
  repr : PyData.showableAll ds = true → (∀ t ∈ PyData.shownAll ds, t.length ≤ sizeLine) →
    ∃ bs, ReadAtMost h (PyData.depthAll ds) bs ∧ ReprAllK prog w bs h (PyData.depthAll ds) us (PyData.shownAll ds)
section
variable {prog : Program} {w : World} {h : Heap}
theorem RpAll.nil : RpAll prog w h [] [] := ⟨⟨_, .nil⟩, fun _ _ => ⟨[], ram_nil, by simp only [PyData.shownAll]; exact .nil⟩⟩
theorem RpAll.cons {u : Value} {d : PyData} {us : List Value} {ds : List PyData} (a : Rp prog w h u d) (b : RpAll prog w h us ds) : RpAll prog w h (u :: us) (d :: ds) where
  reads := by
    obtain ⟨as, r⟩ := a.reads
    obtain ⟨bs, rs⟩ := b.reads
    exact ⟨_, .cons r rs⟩
  repr := by
    intro hs hz
    obtain ⟨s1, s2⟩ : d.showable = true ∧ PyData.showableAll ds = true := by simpa [PyData.showableAll] using hs
    obtain ⟨b1, m1, k1⟩ := a.repr s1 (hz _ (by simp only [PyData.shownAll]; exact List.mem_cons_self ..))
    obtain ⟨b2, m2, k2⟩ := b.repr s2 fun t ht => hz t (by simp only [PyData.shownAll]; exact List.mem_cons_of_mem _ ht)
    refine ⟨b1 ++ b2, ?_, ?_⟩
    · simp only [PyData.depthAll]
      exact (m1.mono (Nat.le_max_left _ _)).append (m2.mono (Nat.le_max_right _ _))
    · simp only [PyData.depthAll, PyData.shownAll]
      have sub1 : ∀ c ∈ b1, c ∈ b1 ++ b2 := fun c hc => List.mem_append_left _ hc
      have sub2 : ∀ c ∈ b2, c ∈ b1 ++ b2 := fun c hc => List.mem_append_right _ hc
      exact .cons ((k1.more sub1).level_le (Nat.le_max_left _ _)) (k2.more_le sub2 (Nat.le_max_right _ _))
theorem Rp.list {a : Addr} {o : Obj} {us : List Value} {n : Nat} {ds : List PyData} (ho : h.get? a = some o) (hc : o.cls = .type "list") (hd : o.data = .seq us.toArray n) (all : RpAll prog w h us ds) : Rp prog w h (.ref a) (.list ds) := by
  obtain ⟨as, rs⟩ := all.reads
  have r : Reads h (.ref a) (.list ds) _ := .list ho hc hd rs
  refine ⟨⟨_, r⟩, fun hs hz => ?_⟩
  have hz' : (listText (PyData.shownAll ds)).length ≤ sizeLine := by simpa only [PyData.shown] using hz
  obtain ⟨bs, m, k⟩ := all.repr (by simpa [PyData.showable] using hs) fun t ht => Nat.le_trans (listText_mem_le ht) hz'
  have deep : PyData.depthAll ds < PyData.depth (.list ds) := by simp only [PyData.depth]; omega
  have off : a ∉ bs := not_mem_of_deeper r deep m
  refine ⟨a :: bs, ReadAtMost.cons r (Nat.le_of_lt deep) m, ?_⟩
  simp only [PyData.depth, PyData.shown]
  cases us with
  | nil =>
    cases rs
    simp only [PyData.shownAll, listText_nil]
    exact ReprK.listEmpty ho hc hd
  | cons u us => exact ReprK.list ho hc hd off (by simpa using k.length_eq) fun i y e => k.item i y (by simpa using e)
theorem Rp.tuple {a : Addr} {o : Obj} {us : List Value} {n : Nat} {ds : List PyData} (ho : h.get? a = some o) (hc : o.cls = .type "tuple") (hd : o.data = .seq us.toArray n) (all : RpAll prog w h us ds) : Rp prog w h (.ref a) (.tuple ds) := by
  obtain ⟨as, rs⟩ := all.reads
  have r : Reads h (.ref a) (.tuple ds) _ := .tuple ho hc hd rs
  refine ⟨⟨_, r⟩, fun hs hz => ?_⟩
  have hz' : (tupleText (PyData.shownAll ds)).length ≤ sizeLine := by simpa only [PyData.shown] using hz
  obtain ⟨bs, m, k⟩ := all.repr (by simpa [PyData.showable] using hs) fun t ht => Nat.le_trans (tupleText_mem_le ht) hz'
  have deep : PyData.depthAll ds < PyData.depth (.tuple ds) := by simp only [PyData.depth]; omega
  refine ⟨a :: bs, ReadAtMost.cons r (Nat.le_of_lt deep) m, ?_⟩
  simp only [PyData.depth, PyData.shown]
  exact ReprK.tuple ho hc hd (not_mem_of_deeper r deep m) k
theorem Rp.dict {a : Addr} {o : Obj} {es : Array DictEntry} {n : Nat} {ds : List (PyData × PyData)} (ho : h.get? a = some o) (hc : o.cls = .type "dict") (hd : o.data = .dict es n) (low : (a == sysModules) = false)
    (ks : RpAll prog w h (es.toList.map (·.key)) (ds.map (·.1))) (vs : RpAll prog w h (es.toList.map (·.val)) (ds.map (·.2))) : Rp prog w h (.ref a) (.dict ds) := by
  obtain ⟨as, r1⟩ := ks.reads
  obtain ⟨bs, r2⟩ := vs.reads
  have r : Reads h (.ref a) (.dict ds) _ := .dict ho hc hd r1 r2
  refine ⟨⟨_, r⟩, fun hs hz => ?_⟩
  have hz' : (dictText (PyData.shownKv ds)).length ≤ sizeLine := by simpa only [PyData.shown] using hz
  obtain ⟨s1, s2⟩ := PyData.showableKv_split ds (by simpa [PyData.showable] using hs)
  obtain ⟨b1, m1, k1⟩ := ks.repr s1 fun t ht => by
    obtain ⟨p, hp, hl⟩ := PyData.shownKv_key_le ds t ht
    exact Nat.le_trans hl (Nat.le_trans (dictText_mem_le hp) hz')
  obtain ⟨b2, m2, k2⟩ := vs.repr s2 fun t ht => by
    obtain ⟨p, hp, hl⟩ := PyData.shownKv_val_le ds t ht
    exact Nat.le_trans hl (Nat.le_trans (dictText_mem_le hp) hz')
  have deep : PyData.depthKv ds < PyData.depth (.dict ds) := by simp only [PyData.depth]; omega
  have m := (m1.mono (PyData.depthAll_keys_le ds)).append (m2.mono (PyData.depthAll_vals_le ds))
  refine ⟨a :: (b1 ++ b2), ReadAtMost.cons r (Nat.le_of_lt deep) m, ?_⟩
  simp only [PyData.depth, PyData.shown, PyData.shownKv_eq]
  have sub1 : ∀ c ∈ b1, c ∈ b1 ++ b2 := fun c hc => List.mem_append_left _ hc
  have sub2 : ∀ c ∈ b2, c ∈ b1 ++ b2 := fun c hc => List.mem_append_right _ hc
  exact ReprK.dict ho hc hd low (not_mem_of_deeper r deep m) (ReprEntriesK.of_two es.toList _ _ (k1.more_le sub1 (PyData.depthAll_keys_le ds)) (k2.more_le sub2 (PyData.depthAll_vals_le ds)))
theorem Rp.int (i : Int) (t : Tok) : Rp prog w h (.int i t) (.int i) :=
  ⟨⟨_, .int i t⟩, fun hs _ => ⟨[], ram_nil, by simp only [PyData.shown]; exact .of_is (ReprIs.int t (by simpa [PyData.showable] using hs)) _ _ _⟩⟩
theorem Rp.str (x : Str) (t : Tok) : Rp prog w h (.str x t) (.str x) :=
  ⟨⟨_, .str x t⟩, fun _ hz => ⟨[], ram_nil, by simp only [PyData.shown]; exact .of_is (ReprIs.str x t (by simpa only [PyData.shown] using hz)) _ _ _⟩⟩
theorem Rp.bool (b : Bool) : Rp prog w h (.bool b) (.bool b) :=
  ⟨⟨_, .bool b⟩, fun _ _ => ⟨[], ram_nil, by simp only [PyData.shown]; exact .of_is (ReprIs.bool b) _ _ _⟩⟩
theorem Rp.none : Rp prog w h .none .none :=
  ⟨⟨_, .none⟩, fun _ _ => ⟨[], ram_nil, by simp only [PyData.shown]; exact .of_is ReprIs.none _ _ _⟩⟩
end
section
variable {X : Cx} {pins : List (Addr × Obj)} {σ : L2.St} {H : Hp} {s : Shared}
theorem key_rp {prog : Program} {w : World} {h : Heap} {k : Key} {u : Value} (e : keyIs k u = true) : Rp prog w h u (kD k) := by
  rcases keyIs_shape e with ⟨i, t, rfl, rfl⟩ | ⟨x, t, rfl, rfl⟩
  · exact Rp.int i t
  · exact Rp.str x t
mutual
theorem Dq.rp (I : Inv X pins σ H s) : ∀ (d : PyData) (v : V) (u : Value), Dq X.K H v d → RelV v u → Rp X.prog X.w s.heap u d
  | .none, _, _, h, r => by cases h; cases r; exact Rp.none
  | .bool b, _, _, h, r => by cases h; cases r; exact Rp.bool b
  | .int i, _, _, h, r => by cases h; obtain ⟨t, rfl⟩ := r; exact Rp.int i t
  | .str x, _, _, h, r => by cases h; obtain ⟨t, rfl⟩ := r; exact Rp.str x t
  | .list ds, _, _, h, r => by
    cases h with
    | lst hs ha =>
      cases r
      obtain ⟨its, rv, ⟨o, n, ho, hc, _, hd⟩, _⟩ := I.list hs
      exact Rp.list ho hc hd (DqAll.rp I ds _ its ha rv)
  | .tuple ds, _, _, h, r => by
    cases h with
    | tup hs ha =>
      cases r
      obtain ⟨its, rv, ⟨o, ho, hc, n, hd⟩, _⟩ := I.tuple hs
      exact Rp.tuple ho hc hd (DqAll.rp I ds _ its ha rv)
  | .dict ds, _, _, h, r => by
    cases h with
    | dct hs ha =>
      cases r
      obtain ⟨_, low, vs, kv, o, es, ep, ho, hx, hd, _, hp, _⟩ := dk_rd I.hok hs
      obtain ⟨k1, k2⟩ := DqKv.rp I ds _ vs es.toList ha kv hp
      exact Rp.dict ho hx.1 hd low k1 k2
theorem DqAll.rp (I : Inv X pins σ H s) : ∀ (ds : List PyData) (vs : List V) (us : List Value), DqAll X.K H vs ds → Vals vs us → RpAll X.prog X.w s.heap us ds
  | [], _, _, h, r => by cases h; cases r; exact RpAll.nil
  | d :: ds, _, _, h, r => by
    cases h with
    | cons h1 h2 =>
      cases r with
      | cons r1 r2 => exact RpAll.cons (Dq.rp I d _ _ h1 r1) (DqAll.rp I ds _ _ h2 r2)
theorem DqKv.rp (I : Inv X pins σ H s) : ∀ (ds : List (PyData × PyData)) (kvs : List (Key × V)) (vs : List (Key × Value)) (es : List DictEntry), DqKv X.K H kvs ds → KV kvs vs → Pairs (mixKind X.prog X.w) es vs →
    RpAll X.prog X.w s.heap (es.map (·.key)) (ds.map (·.1)) ∧ RpAll X.prog X.w s.heap (es.map (·.val)) (ds.map (·.2))
  | [], _, _, _, h, r, p => by cases h; cases r; cases p; exact ⟨RpAll.nil, RpAll.nil⟩
  | (dk, d) :: ds, _, _, _, h, r, p => by
    cases h with
    | cons h1 h2 =>
      cases r with
      | cons r1 r2 =>
        obtain ⟨r0, r1⟩ := r1
        cases p with
        | cons hk hv ht =>
          obtain ⟨a, b⟩ := DqKv.rp I ds _ _ _ h2 r2 ht
          simp only at r0 r1
          subst r0
          exact ⟨RpAll.cons (key_rp hk) a, RpAll.cons (Dq.rp I d _ _ h1 (by rw [← hv] at r1; exact r1)) b⟩
end
end
/-- repr(x) of data -/
def rReprQ (K : PySem.W.Frag) : List V → Hp → VK → Prop := fun xs H Q => ∃ x d, xs = [x] ∧ Dq K H x d ∧
  d.showable = true ∧ d.depth ≤ 60 ∧ d.shown.length ≤ sizeLine ∧ Q (.str d.shown) H
theorem call_reprQ {X : Cx} (hgd : X.A.guards = some []) (hu : X.A.units + 64 < cLine) : CallR X (.builtin "repr") (rReprQ X.K) := by
  intro pins s σ H xs us Q I rel h
  obtain ⟨x, d, rfl, dq, sh, hd, hz, q⟩ := h
  cases rel with
  | cons rx rt =>
    cases rt
    rename_i u
    cases dq with
    | non =>
      cases rx
      exact PySem.P.repr_of_none ⟨.str _, H, I.tok _, ⟨_, rfl⟩, q⟩
    | bl b =>
      cases rx
      exact PySem.P.repr_of_bool ⟨.str _, H, I.tok _, ⟨_, rfl⟩, q⟩
    | int i =>
      obtain ⟨t, rfl⟩ := rx
      exact PySem.P.repr_of_int (by simpa [PyData.showable] using sh) ⟨.str _, H, I.tok _, ⟨_, rfl⟩, q⟩
    | str z =>
      obtain ⟨t, rfl⟩ := rx
      exact PySem.P.repr_of_str ⟨.str _, H, I.tok _, ⟨_, rfl⟩, q⟩ (by simpa only [PyData.shown] using hz)
    | lst hs ha =>
      cases rx
      rename_i a zs ds
      obtain ⟨its, rv, ⟨o, n, ho, hc, _, hdt⟩, _⟩ := I.list hs
      have all := DqAll.rp I ds _ its ha rv
      obtain ⟨as, rs⟩ := all.reads
      have r : Reads s.heap (.ref a) (.list ds) _ := .list ho hc hdt rs
      have hz' : (listText (PyData.shownAll ds)).length ≤ sizeLine := by simpa only [PyData.shown] using hz
      obtain ⟨bs, m, k⟩ := all.repr (by simpa [PyData.showable] using sh) fun t ht => Nat.le_trans (listText_mem_le ht) hz'
      have deep : PyData.depthAll ds < PyData.depth (.list ds) := by simp only [PyData.depth]; omega
      refine call_repr_slot (by omega) ⟨o, ho, hc⟩ F.slot_list_repr.toG ?_
      cases its with
      | nil =>
        cases rs
        refine call_list_repr_empty ⟨o, ho, hc⟩ ho hdt ?_
        exact ⟨_, _, rfl, .str _, H, I.tok _, ⟨_, rfl⟩, by simpa only [PyData.shown, PyData.shownAll, listText_nil] using q⟩
      | cons u0 us0 =>
        refine call_list_reprK ho hc hdt (not_mem_of_deeper r deep m) (by simpa using k.length_eq) (fun i y e => k.item i y (by simpa using e)) hgd (fun b _ => Clear.nil b) (by show X.A.units + 1 + _ < cLine; omega) (fun _ _ e => e) (fun h' t tk kk => ?_) hz'
        exact ⟨_, _, rfl, .str _, H, I.kept kk, ⟨_, rfl⟩, by simpa only [PyData.shown] using q⟩
    | tup hs ha =>
      cases rx
      rename_i a zs ds
      obtain ⟨its, rv, ⟨o, ho, hc, n, hdt⟩, _⟩ := I.tuple hs
      have all := DqAll.rp I ds _ its ha rv
      obtain ⟨as, rs⟩ := all.reads
      have r : Reads s.heap (.ref a) (.tuple ds) _ := .tuple ho hc hdt rs
      have hz' : (tupleText (PyData.shownAll ds)).length ≤ sizeLine := by simpa only [PyData.shown] using hz
      obtain ⟨bs, m, k⟩ := all.repr (by simpa [PyData.showable] using sh) fun t ht => Nat.le_trans (tupleText_mem_le ht) hz'
      have deep : PyData.depthAll ds < PyData.depth (.tuple ds) := by simp only [PyData.depth]; omega
      refine call_repr_slot (by omega) ⟨o, ho, hc⟩ F.slot_tuple_repr ?_
      refine call_tuple_reprK ho hc hdt (not_mem_of_deeper r deep m) k hgd (fun b _ => Clear.nil b) (by show X.A.units + 1 + _ < cLine; omega) (fun _ _ e => e) (fun h' t tk kk => ?_) hz'
      exact ⟨_, _, rfl, .str _, H, I.kept kk, ⟨_, rfl⟩, by simpa only [PyData.shown] using q⟩
    | dct hs ha =>
      cases rx
      rename_i a kvs ds
      obtain ⟨_, low, vs, kv, o, es, ep, ho, hx, hdt, _, hp, _⟩ := dk_rd I.hok hs
      obtain ⟨ks, vals⟩ := DqKv.rp I ds _ vs es.toList ha kv hp
      obtain ⟨as, r1⟩ := ks.reads
      obtain ⟨bs, r2⟩ := vals.reads
      have r : Reads s.heap (.ref a) (.dict ds) _ := .dict ho hx.1 hdt r1 r2
      have hz' : (dictText (PyData.shownKv ds)).length ≤ sizeLine := by simpa only [PyData.shown] using hz
      obtain ⟨s1, s2⟩ := PyData.showableKv_split ds (by simpa [PyData.showable] using sh)
      obtain ⟨b1, m1, k1⟩ := ks.repr s1 fun t ht => by
        obtain ⟨p, hp, hl⟩ := PyData.shownKv_key_le ds t ht
        exact Nat.le_trans hl (Nat.le_trans (dictText_mem_le hp) hz')
      obtain ⟨b2, m2, k2⟩ := vals.repr s2 fun t ht => by
        obtain ⟨p, hp, hl⟩ := PyData.shownKv_val_le ds t ht
        exact Nat.le_trans hl (Nat.le_trans (dictText_mem_le hp) hz')
      have deep : PyData.depthKv ds < PyData.depth (.dict ds) := by simp only [PyData.depth]; omega
      have m := (m1.mono (PyData.depthAll_keys_le ds)).append (m2.mono (PyData.depthAll_vals_le ds))
      have sub1 : ∀ c ∈ b1, c ∈ b1 ++ b2 := fun c hc => List.mem_append_left _ hc
      have sub2 : ∀ c ∈ b2, c ∈ b1 ++ b2 := fun c hc => List.mem_append_right _ hc
      refine call_repr_slot (by omega) ⟨o, ho, hx.1⟩ F.slot_dict_repr ?_
      refine call_dict_reprK ho hx.1 hdt low (not_mem_of_deeper r deep m) (ReprEntriesK.of_two es.toList _ _ (k1.more_le sub1 (PyData.depthAll_keys_le ds)) (k2.more_le sub2 (PyData.depthAll_vals_le ds)))
        hgd (fun b _ => Clear.nil b) (by show X.A.units + 1 + _ < cLine; omega) (fun _ _ e => e) (fun h' t tk kk => ?_) (by rw [← PyData.shownKv_eq]; exact hz')
      exact ⟨_, _, rfl, .str _, H, I.kept kk, ⟨_, rfl⟩, by simpa only [PyData.shown, PyData.shownKv_eq] using q⟩
end Gd

/-! Lw: several clauses `except .. as n`; the end of a law row that makes lambdas, where no guard stands around. -/
namespace Gd
open PySem PySem.Spec PyProof.Rows L2

/-! ### several clauses, each with the name at slot i -/
abbrev Clause := Value × (Addr → Value → Option Addr → TS)
/-- behind the suite the name is gone -/
def offE (i : Nat) (D : Ends) : Ends :=
  { nx := fun σ H => D.nx (σ.set i none) H, rt := D.rt, bk := fun σ H => D.bk (σ.set i none) H, ct := fun σ H => D.ct (σ.set i none) H }
def wAll (K : PySem.W.Frag) (n i : Nat) (W : WX) (D : Ends) : List Clause → WX
  | [] => W
  | (c, ts) :: r => fun cls d σ H => ∃ b, PySem.W.exmOne K cls c = some b ∧
      (b = true → σ.length = n → ∀ a, H a = none → ts a cls d (offE i D) (σ.set i (some (.ref a))) H) ∧ (b = false → wAll K n i W D r cls d σ H)
inductive Clauses (X : Cx) (n : Str) : List ExceptHandler → List Clause → Prop
  | nil : Clauses X n [] []
  | cons {x : Str} {c : Value} {ts : Addr → Value → Option Addr → TS} {st : Stmt} {sts : List Stmt} {p1 p2 : Pos}
      {hds : List ExceptHandler} {l : List Clause} (nm : Names X x c)
      (su : ∀ (a : Addr) (oe : Obj) (cls : Value) (d : Option Addr) (pn : List (Addr × Obj)), Zc cls d oe →
        (∃ vs, oe.data = .fields vs) → PSs (X.suite a ((a, oe) :: pn)) (st :: sts) (ts a cls d))
      (rest : Clauses X n hds l) : Clauses X n (.ExceptHandler (some (.Name x p1)) (some n) (st :: sts) p2 :: hds) ((c, ts) :: l)

section
variable {X : Cx} {n : Str} {i : Nat} {body : List Stmt} {h₀ : ExceptHandler} {hds : List ExceptHandler} {l : List Clause} {pos : Pos} {tb : WX → TS} {W : WX}
theorem ps_tryAll (stk : X.stack = X.env :: X.outer) (frm : X.env.frame = some X.env.locals) (nd : X.N.Nodup) (at_ : X.N[i]? = some n)
    (loc : X.env.kindOf n = some .local) (tk : Takes X W)
    (hb : ∀ (V : WX) (pn : List (Addr × Obj)) (xe : Value → Shared → Prop), Takes (X.tr pn xe) V → PassesOwn (model X.prog X.w) X.A X.env xe →
      PSs (X.tr pn xe) body (tb V)) (hh : Clauses X n (h₀ :: hds) l) :
    PS X (.Try body (h₀ :: hds) [] [] pos) (fun D σ H => tb (wAll X.K X.N.length i W D l) D σ H) where
  run := by
    intro pins s σ H D I h
    have ok := I.ok
    have frames : X.A.frames = some (X.env :: X.outer) := by rw [ok.frames, stk]
    have isLoc : Loc X.env.scope n := .inl loc
    refine wpAny_Try_except (wpAny_mono ((hb (wAll X.K X.N.length i W D l) (X.pn ++ pins)
      (fun e s₁ => wpAny (model X.prog X.w) X.A (noteFrame e X.env)
        (fun _ s₂ => wpAny (model X.prog X.w) X.A (setFlight e none)
          (fun _ s₃ => wpAny (model X.prog X.w) X.A (handleBy e X.env (h₀ :: hds)) (SP X pins D) X.xe s₃) X.xe s₂) X.xe s₁)
      ?caught PassesOwn.looking).run [] s σ H D (I.toTry _) h) ?through fun _ _ z => z)
    case through =>
      intro f s1 q
      match f, q with
      | .next, ⟨σ', H', J, q⟩ => exact wpAny_execs_nil ⟨σ', H', J.ofTry ok, q⟩
      | .brk, ⟨σ', H', J, q⟩ => exact ⟨σ', H', J.ofTry ok, q⟩
      | .cont, ⟨σ', H', J, q⟩ => exact ⟨σ', H', J.ofTry ok, q⟩
      | .ret u, ⟨v, σ', H', J, r, q⟩ => exact ⟨v, σ', H', J.ofTry ok, r, q⟩
    case caught =>
      rintro u s' ⟨a, B, sI, pins', σ', H', cls, d, rfl, J0, nb, up, sky, na, os, ag, w⟩
      have J : Inv X pins σ' H' sI := J0.ofTry ok
      have sk : Sky B (X.env :: X.outer) a (Zc cls d) X.env.locals s'.heap := stk ▸ sky
      show wpAny (model X.prog X.w) X.A (noteFrame (.ref a) X.env) _ _ _
      refine Sky.land Zc.steady frames frm sk ?_
      intro hp fl up2
      have landed : Inv X pins σ' H' { s' with heap := hp } := J.landed nb fl.1 (up.trans up2) os ag
      obtain ⟨ob, vs, atA, zc, dat⟩ := fl.there
      have noFrame : a ∉ frs (X.env :: X.outer) := by
        intro hm
        obtain ⟨_, o', e', no⟩ := fl.2.2.1.mem hm
        rw [atA] at e'
        cases e'
        exact no _ dat
      have neL : a ≠ X.env.locals := fun z => noFrame (List.mem_filterMap.mpr ⟨X.env, List.mem_cons_self, by rw [frm, z]⟩)
      have neF : a ∉ X.fs := by
        intro hm
        obtain ⟨e, he, q⟩ := List.mem_filterMap.mp hm
        exact noFrame (List.mem_filterMap.mpr ⟨e, List.mem_cons_of_mem _ he, q⟩)
      have inSuite := landed.suite atA dat na neL neF
      have go : ∀ {hs : List ExceptHandler} {ls : List Clause}, Clauses X n hs ls → wAll X.K X.N.length i W D ls cls d σ' H' →
          wpAny (model X.prog X.w) X.A (handleBy (.ref a) X.env hs) (SP X pins D) X.xe { s' with heap := hp } := by
        intro hs ls k
        induction k with
        | nil =>
          intro w
          refine wpAny_handleBy_nil ?_
          obtain ⟨_, _, _, oe, vs2, T, oT, ts', he, hz, hd, h1, _⟩ := id fl
          unfold PySem.passOn
          refine wpAny_bind (wpAny_field he hd h1 ?_)
          have ref : ¬ ((Value.ref T == Value.none) = true) := by simp
          rw [if_neg ref]
          have fin : wpAny (model X.prog X.w) X.A (setFlight (.ref a) X.env.frame)
              (fun _ s4 => wpAny (model X.prog X.w) X.A (throw (.ref a) : Sem Flow) (SP X pins D) X.xe s4) X.xe { s' with heap := hp } := by
            rw [frm]
            refine HandSPX.setFlight_upZ fl fun h4 hh4 up4 => wpAny_throw (tk _ _ ?_)
            exact ⟨a, B, sI, pins, σ', H', cls, d, rfl, J, nb, (up.trans up2).trans up4, .inr (.inr (stk ▸ hh4)), na, os, ag, w⟩
          first
            | exact wpAny_bind (wpAny_pure (wpAny_bind fin))
            | exact wpAny_bind fin
        | @cons x c ts st sts p1 p2 hds2 l2 nm su rest ih =>
          rintro ⟨b, hb1, yes, no⟩
          refine wpAny_handleBy_cons (codeAny_handlers_test ?_) (fun q => by cases q)
          have typ : PySem.W.Looks (model X.prog X.w) hp (typeOf (.ref a)) cls :=
            fun A Q E s k q => wpAny_typeOf_ref (k _ _ atA) (by rw [zc.1]; exact q)
          have fits := PySem.W.exm_one (M := model X.prog X.w) (landed.kIn) typ hb1
          have named : ∀ {Q : Value → Shared → Prop} {E : Value → Shared → Prop}, Q c { s' with heap := hp } →
              wpAny (model X.prog X.w) (X.A.mark (some (.ref a))) (eval (.Name x p1) X.env) Q E { s' with heap := hp } := by
            intro Q E q
            obtain ⟨hg, dbg, hm | ⟨hm, hv, hn⟩⟩ := nm
            · exact ld_glob (X := X.suite a ((a, ob) :: (X.pn ++ pins))) inSuite hg hm q dbg
            · exact ld_blt (X := X.suite a ((a, ob) :: (X.pn ++ pins))) inSuite hg hm hv q hn dbg
          refine named (fits.here ?_)
          cases b with
          | false =>
            show wpAny _ X.A (handleBy (.ref a) X.env hds2) _ _ _
            exact ih (no rfl)
          | true =>
            refine codeAny_handlers_suite_as (HandSPX.lands_againZ fl ?_)
            intro h4 fl4 up4
            have land4 : Inv X pins σ' H' { s' with heap := h4 } := J.landed nb fl4.1 ((up.trans up2).trans up4) os ag
            obtain ⟨ob4, vs4, at4, z4, d4⟩ := fl4.there
            have in4 := land4.suite at4 d4 na neL neF
            refine store_ok (X := X.suite a ((a, ob4) :: (X.pn ++ pins))) (v := .ref a) in4 nd at_ isLoc rfl ?_ (.inr loc)
            intro s5 S5
            refine wpAny_mono ((su a ob4 cls d (X.pn ++ pins) z4 ⟨_, d4⟩).run [] s5 _ H' _ S5 (yes rfl J.len a na)) ?_ fun _ _ z => z.elim
            intro f s6 q
            have over : ∀ {σ6 : L2.St} {H6 : Hp} {Q : Shared → Prop}, Inv (X.suite a ((a, ob4) :: (X.pn ++ pins))) [] σ6 H6 s6 →
                (∀ s7, Inv X pins (σ6.set i none) H6 s7 → Q s7) →
                wpAny (model X.prog X.w) X.A (do bindName X.env n .none; unbindBehindTheSuite X.env n p2) (fun _ s7 => Q s7) X.xe s6 :=
              fun S q => gone_ok (S.unsuite ok) nd at_ loc q
            match f, q with
            | .next, ⟨σ6, H6, S6, q6⟩ => exact over S6 fun s7 J7 => ⟨_, _, J7, q6⟩
            | .brk, ⟨σ6, H6, S6, q6⟩ => exact over S6 fun s7 J7 => ⟨_, _, J7, q6⟩
            | .cont, ⟨σ6, H6, S6, q6⟩ => exact over S6 fun s7 J7 => ⟨_, _, J7, q6⟩
            | .ret u, ⟨v6, σ6, H6, S6, r6, q6⟩ => exact over S6 fun s7 J7 => ⟨_, _, _, J7, r6, q6⟩
      exact go hh w
end

/-! ### the law's end, the tables of its makers' code objects tracked -/
open LamX in
/-- what the law's call finds -/
structure EntryT (P : Program) (w : World) (K : PySem.W.Frag) (mg : Str → Option Value) (s : Shared) (a : Addr) (ns : List Int)
    (cs : List (Addr × Addr)) (H : Hp) (base : Heap) : Prop where
  tabs : ∀ p ∈ cs, H p.2 = some (.tbl #[])
  script : SqL K H a (ns.map V.int)
  kin : K.In base
  glob : base.Ns mainGlobals mg
  env : Env0 P w K mg base callerA [] s H
  bs : ∀ p ∈ cs, TabB base mg p.1 p.2
  old : ∀ (H' : Hp) (s' : Shared), Un [] [] H H' s.heap s'.heap → HOk P w H' s'.heap → PySem.OldK s.heap s'.heap

section
variable {P : Program} {w : World} {K : PySem.W.Frag} {mg mb : Str → Option Value} {s : Shared} {a : Addr} {vs : List Value} {ns : List Int} {cs : List (Addr × Addr)}
open LamX in
theorem entryT_of {H : Hp} (kin : K.In s.heap) (hns : s.heap.Ns mainGlobals mg) (hb : s.heap.Ns builtinsNs mb)
    (hbb : ∀ x : Str, x ≠ "__name__" → mb x = bootBuiltins x) (hlim : s.heap.NoLimit) (hg : s.gens = #[])
    (bmain : ∃ (bm : Addr) (ob : Obj), mg "__builtins__" = some (.ref bm) ∧ bm ≠ builtinsNs ∧ s.heap.get? bm = some ob ∧
      ob.cls = .type "module" ∧ ob.dict = some builtinsNs ∧ ob.data = .plain)
    (tabs : ∀ p ∈ cs, s.heap.get? p.2 = some { cls := .none, data := .fields #[] }) (noK : ∀ p ∈ cs, K.lookup p.2 = none)
    (heads : ∀ p ∈ cs, PySem.W.CodeHd s.heap p.1 p.2)
    (ha : s.heap.get? a = some { cls := .type "list", data := .seq vs.toArray })
    (o0 : ∀ p ∈ cs, H p.2 = some (.tbl #[])) (o1 : ∀ b, H b = none ∨ (∃ p ∈ cs, p.2 = b) ∨ ∃ o xs, H b = some (.frz o (.lst xs)))
    (o2 : SqL K H a (ns.map V.int)) (o3 : HOk P w H s.heap) (o4 : ∀ b, H b ≠ none → b = a ∨ ∃ p ∈ cs, p.2 = b)
    (o5 : H a ≠ none → K.lookup a = none) : ∃ base, EntryT P w K mg s a ns cs H base := by
  -- an object that is neither a sequence nor an empty record is in the base
  have stays : ∀ {b : Addr} {o : Obj}, s.heap.get? b = some o → (b = a → H b = none) → o.data ≠ .fields #[] → (hidT s.heap H).get? b = some o := by
    intro b o e h no
    refine hidT_get e (Classical.byContradiction fun q => ?_)
    obtain z | ⟨p, hp, z⟩ := o4 b q
    · exact q (h z)
    · have t := tabs p hp
      rw [z, e] at t
      rw [Option.some.inj t] at no
      exact no rfl
  have other : ∀ {b : Addr} {o : Obj}, s.heap.get? b = some o → (∀ xs n, o.data ≠ .seq xs n) → o.data ≠ .fields #[] → (hidT s.heap H).get? b = some o := by
    intro b o e nos nof
    refine stays e (fun z => ?_) nof
    rw [z, ha] at e
    rw [← Option.some.inj e] at nos
    exact (nos _ _ rfl).elim
  have ns_in : ∀ {b : Addr} {m : Str → Option Value}, s.heap.Ns b m → (hidT s.heap H).Ns b m := by
    rintro b m ⟨o, es, ep, e, d, r⟩
    refine ⟨o, es, ep, other e (fun xs n z => ?_) (fun z => ?_), d, r⟩
    · rw [d] at z
      cases z
    · rw [d] at z
      cases z
  have kin' : K.In (hidT s.heap H) := by
    intro b o e
    refine hidT_get (kin b o e) (Classical.byContradiction fun q => ?_)
    obtain z | ⟨p, hp, z⟩ := o4 b q
    · rw [z] at q e
      rw [o5 q] at e
      cases e
    · rw [← z, noK p hp] at e
      cases e
  have noPlain : ∀ {o : Obj}, o.data = .plain → (∀ xs n, o.data ≠ .seq xs n) ∧ o.data ≠ .fields #[] := by
    intro o d
    rw [d]
    refine ⟨fun xs n z => ?_, fun z => ?_⟩ <;> cases z
  obtain ⟨mc, l1, l2⟩ := hlim
  refine ⟨hidT s.heap H, o0, o2, kin', ns_in hns, ?_, ?_, ?_⟩
  · refine ⟨rfl, ⟨kin', ns_in hns, ⟨mb, ns_in hb, hbb⟩, ⟨mc, ns_in l1, l2⟩⟩, fun b o e => of_hidT e, Nat.le_of_eq (hidT_size _ _), trivial, ?_, o3, .of_eq hg⟩
    intro b hm
    exact (List.not_mem_nil hm).elim
  · intro p hp
    refine ⟨?_, ?_, ?_⟩
    · obtain ⟨o, us, file, tf, flags, tg, inF, text, tt, e1, r1, r2, r3, rest⟩ := heads p hp
      refine ⟨o, us, file, tf, flags, tg, inF, text, tt, other e1 (fun xs n z => ?_) (fun z => ?_), r1, r2, r3, rest⟩
      · rw [r2] at z
        cases z
      · rw [r2] at z
        cases z
        simp at r3
    · obtain ⟨bm, ob, b1, b2, b3, b4, b5, b6⟩ := bmain
      refine ⟨bm, ob, b1, b2, fun z => ?_, fun z => ?_, other b3 (noPlain b6).1 (noPlain b6).2, b4, b5, b6⟩
      · obtain ⟨o, es, ep, e, d, _⟩ := hns
        rw [z, e] at b3
        rw [← Option.some.inj b3, d] at b6
        cases b6
      · rw [z, tabs p hp] at b3
        rw [← Option.some.inj b3] at b6
        cases b6
    · intro z
      obtain ⟨o, es, ep, e, d, _⟩ := hns
      rw [z, tabs p hp] at e
      rw [← Option.some.inj e] at d
      cases d
  · intro H' s' un ok'
    have grown : ∀ p ∈ cs, ∃ more : Array Value, s'.heap.get? p.2 = some { cls := .none, data := .fields more } := by
      intro p hp
      obtain ⟨more, z⟩ := un.tbls p.2 #[] (o0 p hp)
      exact ⟨_, ok' p.2 _ z⟩
    have key : ∀ b o, (∀ p ∈ cs, p.2 ≠ b) → s.heap.get? b = some o → s'.heap.get? b = some o := by
      intro b o nb e
      cases q : H b with
      | none => exact un.keep b o e q List.not_mem_nil List.not_mem_nil
      | some u =>
        obtain z | ⟨p, hp, z⟩ | ⟨ob, xs, z⟩ := o1 b
        · rw [q] at z
          cases z
        · exact (nb p hp z).elim
        · obtain ⟨was, _⟩ := o3 b _ z
          obtain ⟨still, _⟩ := ok' b _ (un.frzs b ob _ z)
          rw [e] at was
          rw [Option.some.inj was]
          exact still
    refine ⟨fun b o e => ?_, fun b o e => ?_⟩
    · by_cases hb' : ∃ p ∈ cs, p.2 = b
      · obtain ⟨p, hp, rfl⟩ := hb'
        obtain ⟨more, hm⟩ := grown p hp
        have t := tabs p hp
        rw [e] at t
        rw [Option.some.inj t]
        exact .inr (.inl ⟨((heads p hp).tab (tabs p hp)).isCodeTable, rfl, #[], more, rfl, by rw [Array.empty_append]; exact hm⟩)
      · exact .inl (key b o (fun p hp z => hb' ⟨p, hp, z⟩) e)
    · by_cases hb' : ∃ p ∈ cs, p.2 = b
      · obtain ⟨p, hp, rfl⟩ := hb'
        obtain ⟨more, hm⟩ := grown p hp
        exact ⟨_, hm⟩
      · exact ⟨o, key b o (fun p hp z => hb' ⟨p, hp, z⟩) e⟩

open LamX in
theorem entryT_is (kin : K.In s.heap) (hns : s.heap.Ns mainGlobals mg) (hb : s.heap.Ns builtinsNs mb)
    (hbb : ∀ x : Str, x ≠ "__name__" → mb x = bootBuiltins x) (hlim : s.heap.NoLimit) (hg : s.gens = #[])
    (bmain : ∃ (bm : Addr) (ob : Obj), mg "__builtins__" = some (.ref bm) ∧ bm ≠ builtinsNs ∧ s.heap.get? bm = some ob ∧
      ob.cls = .type "module" ∧ ob.dict = some builtinsNs ∧ ob.data = .plain)
    (tabs : ∀ p ∈ cs, s.heap.get? p.2 = some { cls := .none, data := .fields #[] }) (noK : ∀ p ∈ cs, K.lookup p.2 = none)
    (heads : ∀ p ∈ cs, PySem.W.CodeHd s.heap p.1 p.2)
    (ha : s.heap.get? a = some { cls := .type "list", data := .seq vs.toArray })
    (hi : IntsAre vs ns) (hl : ns.length ≤ sizeLine) : ∃ H base, EntryT P w K mg s a ns cs H base := by
  have rv := vals_ints hi
  have ln := hi.length
  have noT : ¬ ∃ p ∈ cs, p.2 = a := by
    rintro ⟨p, hp, z⟩
    have t := tabs p hp
    rw [z, ha] at t
    have d := congrArg Obj.data (Option.some.inj t)
    cases d
  let T : Hp := fun b => if ∃ p ∈ cs, p.2 = b then some (.tbl #[]) else none
  have T_in : ∀ {b}, (∃ p ∈ cs, p.2 = b) → T b = some (.tbl #[]) := fun z => if_pos z
  have T_off : ∀ {b}, (¬ ∃ p ∈ cs, p.2 = b) → T b = none := fun z => if_neg z
  have okT : ∀ (H : Hp) b u, T b = some u → ObjOk P w H s.heap b u := by
    intro H b u z
    by_cases q : ∃ p ∈ cs, p.2 = b
    · rw [T_in q] at z
      cases z
      obtain ⟨p, hp, rfl⟩ := q
      exact tabs p hp
    · rw [T_off q] at z
      cases z
  cases hk : K.lookup a with
  | some o =>
    have e := kin a o hk
    rw [ha] at e
    cases e
    have sq : SqL K T a (ns.map V.int) :=
      .inr ⟨_, vs.toArray, _, hk, rfl, rfl, rfl, by rw [List.size_toArray, ln]; exact hl, by simpa using rv⟩
    obtain ⟨base, E⟩ := entryT_of (P := P) (w := w) (H := T) kin hns hb hbb hlim hg bmain tabs noK heads ha (fun p hp => T_in ⟨p, hp, rfl⟩)
      (fun b => by
        by_cases q : ∃ p ∈ cs, p.2 = b
        · exact .inr (.inl q)
        · exact .inl (T_off q)) sq (fun b u z => okT T b u z)
      (fun b z => by
        by_cases q : ∃ p ∈ cs, p.2 = b
        · exact .inr q
        · exact (z (T_off q)).elim) fun z => (z (T_off noT)).elim
    exact ⟨_, base, E⟩
  | none =>
    let H : Hp := fun b => if b = a then some (.frz { cls := .type "list", data := .seq vs.toArray } (.lst (ns.map V.int))) else T b
    have at_a : H a = some (.frz { cls := .type "list", data := .seq vs.toArray } (.lst (ns.map V.int))) := if_pos rfl
    have off_a : ∀ {b}, b ≠ a → H b = T b := fun z => if_neg z
    have H_in : ∀ p ∈ cs, H p.2 = some (.tbl #[]) := by
      intro p hp
      rw [off_a fun z => noT ⟨p, hp, z⟩]
      exact T_in ⟨p, hp, rfl⟩
    have ok : HOk P w H s.heap := by
      intro b u z
      by_cases q : b = a
      · subst q
        rw [at_a] at z
        cases z
        exact ⟨ha, by rw [List.length_map]; exact hl, vs, _, rv, ha⟩
      · rw [off_a q] at z
        exact okT H b u z
    obtain ⟨base, E⟩ := entryT_of (P := P) (w := w) (H := H) kin hns hb hbb hlim hg bmain tabs noK heads ha H_in
      (fun b => by
        by_cases q : b = a
        · subst q
          exact .inr (.inr ⟨_, _, at_a⟩)
        · by_cases r : ∃ p ∈ cs, p.2 = b
          · exact .inr (.inl r)
          · exact .inl ((off_a q).trans (T_off r))) (.inl (.inr ⟨_, at_a⟩)) ok
      (fun b z => by
        by_cases q : b = a
        · exact .inl q
        · rw [off_a q] at z
          by_cases r : ∃ p ∈ cs, p.2 = b
          · exact .inr r
          · exact (z (T_off r)).elim) fun _ => hk
    exact ⟨H, base, E⟩
end

open LamX in
theorem walkT {l : PySem.W.OpenLaw} {n k : Nat} {q : Program} {loose : List Str} {XP : (Str → Option Value) → Heap → Prop}
    {YP : World → Heap → Prop} {d : DefRec} {K : Params → PySem.W.Frag} {cs : List (Addr × Addr)} {sp : World → Sp} {x : Str}
    (hn : l.most = some n) (hn2 : n ≤ sizeLine) (hdf : d.params.defaults = []) (hr : Room k callerA)
    (hY : ∀ (w : World) (h : Heap), YP w h → (K w.params).In h)
    (hT : ∀ (w : World) (h : Heap), YP w h → ∀ p ∈ cs, h.get? p.2 = some { cls := .none, data := .fields #[] })
    (F : ∀ (w : World) (mg : Str → Option Value) (fa : Addr) (h : Heap), (K w.params).In h → h.Ns mainGlobals mg → mg d.name = some (.ref fa) →
      (∀ p ∈ cs, (K w.params).lookup p.2 = none ∧ PySem.W.codeHdIn (K w.params) p.1 p.2 = true) ∧
      ∃ fd : FuncData, (∀ (s : Shared) (u : Value), BindsTo s fd ⟨[u], []⟩ [(x, u)]) ∧
        ∀ base : Heap, (K w.params).In base → base.Ns mainGlobals mg → (∀ p ∈ cs, TabB base mg p.1 p.2) →
          FnG l.prog w (K w.params) mg base CX0 k fa fd [x] (sp w))
    (hsp : ∀ (w : World) (H : Hp) (a : Addr) (ns : List Int), ns.length ≤ n → (∀ p ∈ cs, H p.2 = some (.tbl #[])) → SqL (K w.params) H a (ns.map V.int) →
      sp w [.ref a] H (fun v _ => v = .bl true) fun _ _ _ => False) :
    PySem.W.WalkO q loose XP YP l.row.toRowW d [] (fun f vs => PySem.call f vs) := by
  refine Att.attach_call hn hdf ?_
  intro w s₀ s₁ mg mb fa o pm cd doc a vs ns G Y ho hd hcd hmg hobj hints hlen hgens
  have kin := hY w _ Y
  obtain ⟨heads, fd, binds, all⟩ := F w mg fa _ kin G.T.g hmg
  obtain ⟨H, base, E⟩ := entryT_is (P := l.prog) (w := w) kin G.T.g G.T.b G.T.builtins G.T.nolimit hgens G.T.bmain (hT w _ Y)
    (fun p hp => (heads p hp).1) (fun p hp => PySem.W.codeHd_of_K kin (heads p hp).2) hobj hints (Nat.le_trans hlen hn2)
  have run := (all base E.kin E.glob E.bs).go callerA [] s₁ H ⟨[.ref a], []⟩ [.ref a] [.ref a] _ _ rfl hr E.env (binds s₁ (.ref a)) (.cons rfl .nil)
    (hsp w H a ns hlen E.tabs E.script)
  refine codeAny_mono run ?_
  intro res s' hres
  match res, hres with
  | .ok (.ret u), ⟨v, H', os, bare, un, ok', rel, e⟩ =>
    subst e
    cases (show u = Value.bool true from rel)
    exact ⟨rfl, E.old H' s' un ok', os, bare⟩

/-! ### a lambda's body: what a callee raises leaves it -/
open LamX in
theorem takesLam {X : Cx} {A : Around} {outer : List Env} {s : Shared} {H : Hp} {E : XK} {scope : Scope} {f c : Addr} :
    Passes (L2.CX X.prog X.w) (lamCx X A outer s H E scope f c) E :=
  passes_call (takes_of (X := lamCx X A outer s H E scope f c) (E := E) rfl rfl rfl rfl) fun _ _ _ _ h => h

/-! ### a written dict of ints: each value a tuple of ints -/
def keyI : Value → Option Int
  | .int i _ => some i
  | _ => none
def allI : List Value → Option (List Int)
  | [] => some []
  | v :: r => match keyI v, allI r with
    | some i, some is => some (i :: is)
    | _, _ => none
/-- the ints of the tuple of the written part at a -/
def tupI (K : PySem.W.Frag) : Value → Option (List Int)
  | .ref a => match K.lookup a with
    | some ⟨.type "tuple", none, .seq us _, _⟩ => allI us.toList
    | _ => none
  | _ => none
def rowsI (K : PySem.W.Frag) : List DictEntry → Option (List (Int × List Int))
  | [] => some []
  | e :: r => match keyI e.key, tupI K e.val, rowsI K r with
    | some i, some t, some l => if e.hash = hashInt i then some ((i, t) :: l) else none
    | _, _, _ => none
def dictI (K : PySem.W.Frag) (d : Addr) : Option (List (Int × List Int)) :=
  match K.lookup d with
  | some ⟨.type "dict", none, .dict es _, sl⟩ => if sl.isEmpty && !(d == sysModules) then rowsI K es.toList else none
  | _ => none

theorem keyI_some {v : Value} {i : Int} (h : keyI v = some i) : ∃ t, v = .int i t := by
  cases v <;> simp_all [keyI]
theorem allI_some : ∀ {us : List Value} {is : List Int}, allI us = some is → Vals (is.map V.int) us := by
  intro us
  induction us with
  | nil =>
    intro is h
    cases h
    exact .nil
  | cons v r ih =>
    intro is h
    unfold allI at h
    split at h
    · rename_i i l e1 e2
      cases h
      obtain ⟨t, rfl⟩ := keyI_some e1
      exact .cons ⟨t, rfl⟩ (ih e2)
    · cases h

theorem tupI_some {K : PySem.W.Frag} {v : Value} {is : List Int} (h : tupI K v = some is) :
    ∃ a us n sl, v = .ref a ∧ K.lookup a = some ⟨.type "tuple", none, .seq us n, sl⟩ ∧ Vals (is.map V.int) us.toList := by
  unfold tupI at h
  split at h
  · rename_i a
    split at h
    · rename_i us n sl e
      exact ⟨a, us, n, sl, rfl, e, allI_some h⟩
    · cases h
  · cases h

theorem rowsI_all {K : PySem.W.Frag} : ∀ {es : List DictEntry} {rows : List (Int × List Int)}, rowsI K es = some rows →
    (∀ e ∈ es, ∃ k t, e.key = .int k t ∧ e.hash = hashInt k) ∧
    (∀ k, rows.lookup k = none → (es.find? fun e => Value.isInt k e.key) = none) ∧
    ∀ k is, rows.lookup k = some is → ∃ e, (es.find? fun e => Value.isInt k e.key) = some e ∧ tupI K e.val = some is := by
  intro es
  induction es with
  | nil =>
    intro rows h
    cases h
    exact ⟨fun e he => (List.not_mem_nil he).elim, fun _ _ => rfl, fun k is z => by cases z⟩
  | cons e r ih =>
    intro rows h
    unfold rowsI at h
    split at h
    · rename_i i t l e1 e2 e3
      split at h
      · rename_i hh
        cases h
        obtain ⟨tk, ek⟩ := keyI_some e1
        obtain ⟨h1, h2, h3⟩ := ih e3
        have test : ∀ k, Value.isInt k e.key = decide (i = k) := by
          intro k
          rw [ek]
          show (i == k) = decide (i = k)
          by_cases q : i = k
          · subst q
            rw [beq_self_eq_true, decide_eq_true rfl]
          · rw [beq_eq_false_iff_ne.mpr q, decide_eq_false q]
        refine ⟨fun x hx => ?_, fun k z => ?_, fun k is z => ?_⟩
        · obtain rfl | hx := List.mem_cons.mp hx
          · exact ⟨i, tk, ek, hh⟩
          · exact h1 x hx
        · rw [List.lookup_cons] at z
          rw [List.find?_cons, test]
          by_cases q : k = i
          · subst q
            rw [beq_self_eq_true] at z
            cases z
          · rw [show (k == i) = false from beq_eq_false_iff_ne.mpr q] at z
            rw [show decide (i = k) = false from decide_eq_false fun y => q y.symm]
            exact h2 k z
        · rw [List.lookup_cons] at z
          rw [List.find?_cons, test]
          by_cases q : k = i
          · subst q
            rw [beq_self_eq_true] at z
            cases z
            rw [show decide (k = k) = true from decide_eq_true rfl]
            exact ⟨e, rfl, e2⟩
          · rw [show (k == i) = false from beq_eq_false_iff_ne.mpr q] at z
            rw [show decide (i = k) = false from decide_eq_false fun y => q y.symm]
            exact h3 k is z
      · cases h
    · cases h

/-- what such a dict tells, as the library's dict rules want it -/
theorem dictI_map {K : PySem.W.Frag} {prog : Program} {w : World} {h : Heap} {d : Addr} {rows : List (Int × List Int)} (kin : K.In h)
    (e : dictI K d = some rows) : (d == sysModules) = false ∧ ∃ f : Int → Option Value, h.MapOf (PySem.intKind prog w) d f ∧
      (∀ k, rows.lookup k = none → f k = none) ∧ ∀ k is, rows.lookup k = some is → ∃ v, f k = some v ∧ tupI K v = some is := by
  unfold dictI at e
  split at e
  · rename_i es n sl hl
    split at e
    · rename_i hc
      rw [Bool.and_eq_true] at hc
      obtain ⟨c1, c2⟩ := hc
      obtain ⟨h1, h2, h3⟩ := rowsI_all e
      have c1 : sl = #[] := Array.isEmpty_iff.mp c1
      subst c1
      have same : ∀ k, findBy Value.isInt es k = ((es.toList.find? fun e => Value.isInt k e.key).map (·.val)) := by
        intro k
        obtain ⟨l⟩ := es
        unfold findBy
        rw [List.find?_toArray]
      refine ⟨by simpa using c2, fun k => findBy Value.isInt es k, ⟨_, es, n, kin _ _ hl, ⟨rfl, rfl, rfl⟩, rfl, fun x hx => ?_, fun k => rfl⟩, fun k z => ?_, fun k is z => ?_⟩
      · obtain ⟨k, t, ek, eh⟩ := h1 x (Array.mem_toList_iff.mpr hx)
        exact ⟨k, by rw [ek]; simp [PySem.intKind, Value.isInt], eh⟩
      · show findBy Value.isInt es k = none
        rw [same, h2 k z]
        rfl
      · obtain ⟨x, e1, e2⟩ := h3 k is z
        exact ⟨x.val, by show findBy Value.isInt es k = _; rw [same, e1]; rfl, e2⟩
    · cases e
  · cases e

section
variable {X : Cx}
/-- k not in d, of such a dict -/
def rNotInI (K : PySem.W.Frag) : R2 := fun x y H Q => ∃ (k : Int) (d : Addr) (rows : List (Int × List Int)),
  x = .int k ∧ y = .ref d ∧ dictI K d = some rows ∧ Q (.bl (!(rows.lookup k).isSome)) H
theorem op_notInI : OpR X (compareOp .NotIn) (rNotInI X.K) := by
  intro pins s σ H x y v u Q I rx ry h
  obtain ⟨k, d, rows, rfl, rfl, e, q⟩ := h
  obtain ⟨t, rfl⟩ := rx
  cases (show u = Value.ref d from ry)
  obtain ⟨low, f, hm, f1, f2⟩ := dictI_map (prog := X.prog) (w := X.w) I.kIn e
  refine wpAny_notIn_of (intKind_is X.prog X.w k t) low hm ?_
  have fe : (f k).isSome = (rows.lookup k).isSome := by
    cases z : rows.lookup k with
    | none =>
      rw [f1 k z]
      rfl
    | some is =>
      obtain ⟨v, e1, _⟩ := f2 k is z
      rw [e1]
      rfl
  rw [fe]
  exact ⟨.bl _, H, I.tok _, rfl, q⟩
/-- d[k]: the tuple that stands there -/
def rIxI (K : PySem.W.Frag) : R2 := fun x y H Q => ∃ (k : Int) (d : Addr) (rows : List (Int × List Int)) (is : List Int),
  x = .ref d ∧ y = .int k ∧ dictI K d = some rows ∧ rows.lookup k = some is ∧ is.length ≤ 1000 ∧ ∀ a, SqT K H a (is.map V.int) → Q (.ref a) H
theorem ix_int : IxR X (rIxI X.K) := by
  intro value slice pins s σ H x y v u Q I rx ry h hs
  obtain ⟨k, d, rows, is, rfl, rfl, e, l, few, q⟩ := h
  cases (show v = Value.ref d from rx)
  obtain ⟨t, rfl⟩ := ry
  obtain ⟨low, f, hm, f1, f2⟩ := dictI_map (prog := X.prog) (w := X.w) I.kIn e
  obtain ⟨v, e1, e2⟩ := f2 k is l
  obtain ⟨a, us, n, sl, rfl, ha, rv⟩ := tupI_some e2
  have size : us.size ≤ sizeLine := by
    have z := Paired.length rv
    rw [List.length_map] at z
    have z2 : us.toList.length = us.size := Array.length_toList
    rw [sizeLine_eq]
    omega
  refine tail_any hm.typeIs slot_dict_getitem.lookup (wpAny_getItem_of (intKind_is X.prog X.w k t) hm e1 ⟨.ref a, H, I.tok _, rfl, q a ?_⟩) hs
  exact .inr ⟨_, us, n, ha, rfl, rfl, size, rv⟩
end
end Gd

/-! Bs: what all laws share: the pen, kinds of values, rows, errors, digits (no statement of any text is named). -/
namespace B5
open PySem L2 Gd
variable {P : Program} {w : World} {K : PySem.W.Frag} {mg : Str → Option Value} {base : Heap}
/-! ### the law's pen: where drawn numbers come from -/
abbrev kC : Key := Sum.inr "cells"
abbrev kA : Key := Sum.inr "at"
abbrev kG : Key := Sum.inr "digits"
abbrev kN : Key := Sum.inr "count"
abbrev kF : Key := Sum.inr "fold"
theorem kne : (kA = kC) = False ∧ (kG = kC) = False ∧ (kN = kC) = False ∧ (kF = kC) = False ∧ (kC = kA) = False ∧ (kG = kA) = False ∧ (kN = kA) = False ∧ (kF = kA) = False ∧
    (kC = kG) = False ∧ (kA = kG) = False ∧ (kN = kG) = False ∧ (kF = kG) = False ∧ (kC = kN) = False ∧ (kA = kN) = False ∧ (kG = kN) = False ∧ (kF = kN) = False ∧
    (kC = kF) = False ∧ (kA = kF) = False ∧ (kG = kF) = False ∧ (kN = kF) = False := by
  refine ⟨?_, ?_, ?_, ?_, ?_, ?_, ?_, ?_, ?_, ?_, ?_, ?_, ?_, ?_, ?_, ?_, ?_, ?_, ?_, ?_⟩ <;> exact eq_false (by decide +kernel)
theorem putK_same {kvs : List (Key × V)} {k : Key} {v x : V} (h : valV kvs k = some x) : (putK kvs k v).length = kvs.length := by
  have e := valV_any k kvs
  rw [h, Option.isSome_some] at e
  unfold putK
  rw [if_pos e, List.length_map]
theorem dg {H : Hp} {a : Addr} {kvs : List (Key × V)} (k : Key) {v : V} (hd : H a = some (.dK kvs)) (h : valV kvs k = some v) : DGet H a (kV k) (some v) := h ▸ DGet.k hd
theorem five {n : Nat} (h : n ≤ 5) : n < sizeLine := small1000 (by omega)
theorem put_in {kvs : List (Key × V)} (k j : Key) (v : V) {x : V} (h : valV kvs j = some x) (ne : (j = k) = False) : valV (putK kvs k v) j = some x := by
  rw [valV_put, if_neg (by rw [ne]; exact id)]
  exact h
theorem put_at {kvs : List (Key × V)} (k : Key) (v : V) : valV (putK kvs k v) k = some v := by
  rw [valV_put, if_pos rfl]
/-- the pen at d, its cells at c; n draws were made -/
def Pen (H : Hp) (d c : Addr) (n : Int) : Prop := ∃ (kvs : List (Key × V)) (cs : List Int) (p g f : Int), H d = some (.dK kvs) ∧ H c = some (.lst (cs.map V.int)) ∧
  kvs.length ≤ 5 ∧ valV kvs kC = some (.ref c) ∧ valV kvs kA = some (.int p) ∧ valV kvs kG = some (.int g) ∧ valV kvs kN = some (.int n) ∧ valV kvs kF = some (.int f) ∧
  (0 ≤ p ∧ 0 ≤ g) ∧ (0 ≤ f ∧ f < 2147483648)
theorem Pen.ne {H : Hp} {d c : Addr} {n : Int} (h : Pen H d c n) : c ≠ d := by
  obtain ⟨kvs, cs, p, g, f, h1, h2, _⟩ := h
  exact ne_of h2 h1 (by intro z; cases z)
theorem Pen.keep {H H' : Hp} {d c : Addr} {n : Int} (h : Pen H d c n) (e1 : H' d = H d) (e2 : H' c = H c) : Pen H' d c n := by
  obtain ⟨kvs, cs, p, g, f, h1, h2, r⟩ := h
  exact ⟨kvs, cs, p, g, f, e1.trans h1, e2.trans h2, r⟩
theorem Pen.at {H : Hp} {d c : Addr} {n : Int} (h : Pen H d c n) : ∃ o, H d = some o := let ⟨_, _, _, _, _, h1, _⟩ := h; ⟨_, h1⟩
theorem Pen.atc {H : Hp} {d c : Addr} {n : Int} (h : Pen H d c n) : ∃ o, H c = some o := let ⟨_, _, _, _, _, _, h2, _⟩ := h; ⟨_, h2⟩
/-- new objects do not touch the pen -/
theorem Pen.upd {H : Hp} {d c p : Addr} {n : Int} {o : HO} (h : Pen H d c n) (hp : H p = none) : Pen (upd H p o) d c n := by
  obtain ⟨o1, h1⟩ := h.at
  obtain ⟨o2, h2⟩ := h.atc
  exact h.keep (upd_ne (ne_of_none h1 hp)) (upd_ne (ne_of_none h2 hp))
/-- what a draw leaves -/
structure Drawn (H H' : Hp) (d c : Addr) (n : Int) : Prop where
  pen : Pen H' d c n
  off : ∀ b, b ≠ d → H' b = H b
theorem Drawn.trans {H H1 H2 : Hp} {d c : Addr} {n m : Int} (a : Drawn H H1 d c n) (b : Drawn H1 H2 d c m) : Drawn H H2 d c m := ⟨b.pen, fun x hx => (b.off x hx).trans (a.off x hx)⟩
/-- one step: a number of the pen is put anew -/
theorem pen_put {H : Hp} {d c : Addr} {kvs : List (Key × V)} {k : Key} {v x : V} (hd : H d = some (.dK kvs)) (l : kvs.length ≤ 5) (h : valV kvs k = some x) :
    (upd H d (.dK (putK kvs k v))) d = some (.dK (putK kvs k v)) ∧ (putK kvs k v).length ≤ 5 := ⟨upd_same, by rw [putK_same h]; exact l⟩

def spDraw : Sp := fun vs H Q _ => ∃ (d c : Addr) (n m : Int), vs = [.ref d, .int m] ∧ Pen H d c n ∧ 0 < m ∧ m ≤ 1000000000000000000000 ∧ 0 ≤ n ∧ n < 1000000000 ∧
  ∀ (r : Int) (H' : Hp), 0 ≤ r → r < m → Drawn H H' d c (n + 1) → Q (.int r) H'
def spPen (K : PySem.W.Frag) : Sp := fun vs H Q _ => ∃ (a : Addr) (ns : List Int), vs = [.ref a] ∧ SqL K H a (ns.map V.int) ∧
  ∀ (H' : Hp) (d c : Addr), Pen H' d c 0 → (∀ b o, H b = some o → H' b = some o) → H d = none → Q (.ref d) H'
def spPick (K : PySem.W.Frag) : Sp := fun vs H Q _ => ∃ (d c a : Addr) (n : Int) (xs : List V), vs = [.ref d, .ref a] ∧ Pen H d c n ∧ H a = some (.lst xs) ∧ 0 < xs.length ∧ xs.length ≤ 1000 ∧ 0 ≤ n ∧ n < 1000000000 ∧
  ∀ (x : V) (H' : Hp), x ∈ xs → Drawn H H' d c (n + 1) → Q x H'
def spLarge : Sp := fun vs H Q _ => ∃ (d c : Addr) (n : Int), vs = [.ref d] ∧ Pen H d c n ∧ 0 ≤ n ∧ n < 900000000 ∧
  ∀ (r n' : Int) (H' : Hp), 0 ≤ r → r < 10 ^ 57 → n ≤ n' → n' ≤ n + 30 → Pen H' d c n' → (∀ b o, H b = some o → b ≠ d → H' b = some o) → Q (.int r) H'
/-! ### the errors -/
/-- what an __init__ that keeps its arguments as fields does -/
def spIni (C : Addr) (fs : List Str) : Sp := fun vs H Q _ => ∃ (a : Addr) (ys : List V), vs = .ref a :: ys ∧ ys.length = fs.length ∧ H a = some (exo a C none) ∧
  ∀ (H' : Hp) (dx : Addr), H dx = none → dx ≠ a → (∀ b, b ≠ a → b ≠ dx → H' b = H b) → H' a = some (exo a C (some dx)) → H' dx = some (exd dx (fs.zip ys).reverse) → Q .non H'
/-! ### kinds of values -/
def offInt : List String := ["bool", "NoneType", "str", "list", "tuple", "dict"]
theorem off_int : ∀ n ∈ offInt, kitB n "int" = some (decide (n = "bool")) ∧ kitB n "bool" = some (decide (n = "bool")) := by decide +kernel
theorem on_int : kitB "int" "int" = some true ∧ kitB "int" "bool" = some false := by decide +kernel
/-- no int at all, or a bool -/
def NoInt (K : PySem.W.Frag) (H : Hp) (x : V) : Prop := ∃ n, n ∈ offInt ∧ TyX K H x (.type n)
theorem tyMore {K : PySem.W.Frag} {H H' : Hp} {x : V} {n : String} (e : ∀ b o, H b = some o → H' b = some o) (t : TyX K H x (.type n)) : TyX K H' x (.type n) := by
  cases t with
  | base t =>
    refine .base ?_
    cases t with
    | non => exact .non
    | bl b => exact .bl b
    | int i => exact .int i
    | str z => exact .str z
    | flt z => exact .flt z
    | lst h => exact .lst (e _ _ h)
    | frz h => exact .frz (e _ _ h)
    | tup h => exact .tup (e _ _ h)
    | dK h => exact .dK (e _ _ h)
    | dT h => exact .dT (e _ _ h)
  | byt b => exact .byt b
  | set h => exact .set (e _ _ h)
  | kList h c => exact .kList h c
  | kTuple h c => exact .kTuple h c
  | kDict h c => exact .kDict h c
  | fTuple h => exact .fTuple (e _ _ h)
  | fDict h => exact .fDict (e _ _ h)
theorem NoInt.more {K : PySem.W.Frag} {H H' : Hp} {x : V} (e : ∀ b o, H b = some o → H' b = some o) (h : NoInt K H x) : NoInt K H' x :=
  let ⟨n, m, t⟩ := h; ⟨n, m, tyMore e t⟩
def spIsI (K : PySem.W.Frag) : Sp := fun vs H Q _ => ∃ x, vs = [x] ∧ ((∃ i, x = .int i ∧ Q (.bl true) H) ∨ (NoInt K H x ∧ Q (.bl false) H) ∨ ∃ t, TyX K H x t ∧ PySem.W.kitOne K t (.type "int") = some false ∧ Q (.bl false) H)
theorem pi_or {X : Cx} {tg it : Expr} {u v : TI} (a : PI X tg it u) (b : PI X tg it v) : PI X tg it (fun σ H R => u σ H R ∨ v σ H R) where
  run := by
    rintro pins s σ H R I (h | h)
    · exact a.run pins s σ H R I h
    · exact b.run pins s σ H R I h
theorem sqT_more {K : PySem.W.Frag} {H H' : Hp} {a : Addr} {xs : List V} (e : ∀ b o, H b = some o → H' b = some o) : SqT K H a xs → SqT K H' a xs
  | .inl (.inl h) => .inl (.inl (e _ _ h))
  | .inl (.inr ⟨o, h⟩) => .inl (.inr ⟨o, e _ _ h⟩)
  | .inr h => .inr h
/-- a list or a tuple of xs -/
def Sq (K : PySem.W.Frag) (H : Hp) (a : Addr) (xs : List V) : Prop := SqL K H a xs ∨ SqT K H a xs
theorem Sq.more {K : PySem.W.Frag} {H H' : Hp} {a : Addr} {xs : List V} (e : ∀ b o, H b = some o → H' b = some o) : Sq K H a xs → Sq K H' a xs
  | .inl h => .inl (Same.seq e h)
  | .inr h => .inr (sqT_more e h)
/-! ### errors of the program -/
structure Er (K : PySem.W.Frag) (mg : Str → Option Value) (x q : Str) (C fI : Addr) (fs : List Str) (st : Stmt) (fd : FuncData) : Prop where
  T : OexC K C
  iC : PySem.W.findIn K (.ref C) "__init__" = some (some (.ref fI))
  tI : PySem.W.typeIn K (.ref fI) = some (.type "function")
  fn : Fun K "__init__" q st fI fd
  b : Binds K fd ("self" :: fs) []
  no : ∀ g ∈ fs, PySem.W.findIn K (.ref C) g = some none
  g : mg x = some (.ref C)
theorem mk_ini {C : Addr} {fs : List Str} {vs : List V} {H1 : Hp} {Q : XK} (hl : vs.length = fs.length) (h9 : vs.length ≤ 900)
    (h : ∀ d, H1 d = none → Q (.ref C) (some d) (upd H1 d (.xd (fs.zip vs).reverse))) : vs.length ≤ 1000 ∧ ∀ a, H1 a = none →
      spIni C fs (.ref a :: (vs ++ [])) (upd H1 a (exo a C none)) (fun v H2 => v = .non ∧ ∃ (d : Addr) (fs' : List (Str × V)), H2 a = some (exo a C (some d)) ∧
        H2 d = some (exd d fs') ∧ H1 d = none ∧ Q (.ref C) (some d) (upd (del H2 a) d (.xd fs'))) (fun _ _ _ => False) := by
  refine ⟨by omega, fun a ha => ⟨a, vs, by rw [List.append_nil], hl, upd_same, fun H' dx hdx ne off e1 e2 => ⟨rfl, dx, _, e1, e2, ?_, ?_⟩⟩⟩
  · rw [upd_ne ne] at hdx
    exact hdx
  · rw [upd_ne ne] at hdx
    have same : upd (del H' a) dx (.xd (fs.zip vs).reverse) = upd H1 dx (.xd (fs.zip vs).reverse) := by
      funext b
      by_cases q : b = dx
      · subst q
        rw [upd_same, upd_same]
      · rw [upd_ne q, upd_ne q]
        by_cases z : b = a
        · subst z
          rw [del_same, ha]
        · rw [del_ne z, off b z q, upd_ne z]
    rw [same]
    exact h dx hdx
def RRow (CR : Addr) (x : V) (H : Hp) (E : XK) : Prop := ∀ d, H d = none → E (.ref CR) (some d) (upd H d (.xd [("row", x)]))
/-- a def of the text -/
structure Cl (K : PySem.W.Frag) (mg : Str → Option Value) (x : Str) (st : Stmt) (ps : List Str) (f : Addr) (fd : FuncData) : Prop where
  fn : Fun K x x st f fd
  b : Binds K fd ps []
  g : mg x = some (.ref f)
theorem Cl.k {x : Str} {st : Stmt} {ps : List Str} {f : Addr} {fd : FuncData} (h : Cl K mg x st ps f fd) : PySem.W.keepIn K (.ref f) = true := h.fn.kp
structure Blt (mg : Str → Option Value) : Prop where
  int_ : mg "int" = none
  bool_ : mg "bool" = none
  tup_ : mg "tuple" = none
  len_ : mg "len" = none
  list_ : mg "list" = none
  range_ : mg "range" = none
  isi_ : mg "isinstance" = none
  repr_ : mg "repr" = none
  all_ : mg "all" = none
  divmod_ : mg "divmod" = none
  rev_ : mg "reversed" = none
abbrev More (H H' : Hp) : Prop := ∀ b o, H b = some o → H' b = some o
theorem More.new {H H' : Hp} {p : Addr} {o : HO} (m : More H H') (hp : H' p = none) : More H (upd H' p o) := fun b u e => by
  rw [upd_ne (ne_of_none (m b u e) hp)]
  exact m b u e
theorem More.at {H H' : Hp} {p : Addr} {o : HO} (m : More H H') (hp : H p = none) : More H (upd H' p o) := fun b u e => by
  rw [upd_ne (ne_of_none e hp)]
  exact m b u e
theorem More.off {H H' : Hp} {p : Addr} (m : More H H') (hp : H' p = none) : H p = none := by
  cases e : H p with
  | none => rfl
  | some o =>
    rw [m p o e] at hp
    cases hp
/-! ### sequences of integers -/
def isI : V → Bool
  | .int _ => true
  | _ => false
theorem noInt_isI {K : PySem.W.Frag} {H : Hp} {y : V} (h : NoInt K H y) : isI y = false := by
  obtain ⟨n, hn, t⟩ := h
  cases y with
  | int i =>
    cases t with
    | base t =>
      cases t
      exact absurd hn (by decide)
  | _ => rfl
theorem tyL {K : PySem.W.Frag} {H : Hp} {a : Addr} {xs : List V} : SqL K H a xs → TyX K H (.ref a) (.type "list")
  | .inl (.inl h) => .base (.lst h)
  | .inl (.inr ⟨o, h⟩) => .base (.frz h)
  | .inr ⟨o, its, n, h, c, _⟩ => .kList h c
theorem tyT {K : PySem.W.Frag} {H : Hp} {a : Addr} {xs : List V} : SqT K H a xs → TyX K H (.ref a) (.type "tuple")
  | .inl (.inl h) => .base (.tup h)
  | .inl (.inr ⟨o, h⟩) => .fTuple h
  | .inr ⟨o, its, n, h, c, _⟩ => .kTuple h c
def noSeq : List String := ["int", "bool", "NoneType", "str", "dict"]
theorem seq_no : ∀ n ∈ noSeq, kitB n "tuple" = some false ∧ kitB n "list" = some false := by decide +kernel
theorem seq_yes : kitB "tuple" "tuple" = some true ∧ kitB "list" "tuple" = some false ∧ kitB "list" "list" = some true := by decide +kernel
def spIsIs (K : PySem.W.Frag) : Sp := fun vs H Q _ => ∃ x, vs = [x] ∧
  ((∃ n, n ∈ noSeq ∧ TyX K H x (.type n) ∧ ∀ H', More H H' → Q (.bl false) H') ∨
    ∃ a xs, x = .ref a ∧ Sq K H a xs ∧ xs.length ≤ 1000 ∧ (∀ y ∈ xs, (∃ i, y = .int i) ∨ NoInt K H y) ∧ ∀ H', More H H' → Q (.bl (xs.all isI)) H')
theorem take_snoc {α : Type} {l : List α} {i : Nat} {x : α} (h : l[i]? = some x) : l.take (i + 1) = l.take i ++ [x] := by
  rw [List.take_succ, h]
  rfl
/-! ### terms of a sum -/
def NoSq (K : PySem.W.Frag) (H : Hp) (x : V) : Prop := ∃ n, n ∈ noSeq ∧ TyX K H x (.type n)
theorem NoSq.more {K : PySem.W.Frag} {H H' : Hp} {x : V} (e : ∀ b o, H b = some o → H' b = some o) (h : NoSq K H x) : NoSq K H' x := let ⟨n, m, t⟩ := h; ⟨n, m, tyMore e t⟩
def Its (K : PySem.W.Frag) (H : Hp) (ys : List V) : Prop := ys.length ≤ 1000 ∧ ∀ y ∈ ys, (∃ i, y = .int i) ∨ NoInt K H y
theorem Its.more {K : PySem.W.Frag} {H H' : Hp} {ys : List V} (e : ∀ b o, H b = some o → H' b = some o) (h : Its K H ys) : Its K H' ys := ⟨h.1, fun y hy => (h.2 y hy).imp id fun z => z.more e⟩
theorem Its.ints {K : PySem.W.Frag} {H : Hp} {ds : List Int} (h : ds.length ≤ 1000) : Its K H (ds.map V.int) := ⟨by rw [List.length_map]; exact h, fun y hy => by
  obtain ⟨d, _, rfl⟩ := List.mem_map.mp hy
  exact .inl ⟨d, rfl⟩⟩
def spRow (K : PySem.W.Frag) : Sp := fun vs H Q _ => ∃ (x : V) (n : Int), vs = [x, .int n] ∧
  ((NoSq K H x ∧ ∀ H', More H H' → Q (.bl false) H') ∨ ∃ a xs, x = .ref a ∧ Sq K H a xs ∧ Its K H xs ∧ ∀ H', More H H' → Q (.bl (xs.all isI && decide (((xs.length : Nat) : Int) = n))) H')
theorem deI {i j : Int} : decide (V.int i = V.int j) = decide (i = j) := by simp only [V.int.injEq]
theorem ix_any {K : PySem.W.Frag} {H : Hp} {a : Addr} {xs : List V} {j : Nat} {i : Int} {v : V} {Q : VK} (s : Sq K H a xs) (e : i = (j : Int)) (h : xs[j]? = some v) (q : Q v H) : rIx K (.ref a) (.int i) H Q := by
  obtain s | s := s
  · exact .inl ⟨a, xs, i, v, rfl, rfl, s, at_of e h, q⟩
  · exact .inr (.inl ⟨a, xs, i, v, rfl, rfl, s, at_of e h, q⟩)
theorem isI_all (ds : List Int) : (ds.map V.int).all isI = true := by
  rw [List.all_map, List.all_eq_true]
  intro d _
  rfl
theorem sq_len {K : PySem.W.Frag} {H : Hp} {a : Addr} {xs : List V} (s : Sq K H a xs) : SqL K H a xs ∨ SqT K H a xs := s
/-! ### words of digits -/
/-- the digits of n to the base p, the low one first -/
def dgs (p : Nat) (n : Nat) : List Int := if h : n = 0 ∨ p < 2 then [] else ((n % p : Nat) : Int) :: dgs p (n / p)
termination_by n
decreasing_by exact Nat.div_lt_self (by omega) (by omega)
theorem dgs_zero {p : Nat} : dgs p 0 = [] := by
  rw [dgs, dif_pos (.inl rfl)]
theorem dgs_pos {p n : Nat} (h : 0 < n) (hp : 2 ≤ p) : dgs p n = ((n % p : Nat) : Int) :: dgs p (n / p) := by
  rw [dgs, dif_neg (by omega)]
theorem dgs_len {p : Nat} (hp : 2 ≤ p) : ∀ (k n : Nat), n < 2 ^ k → (dgs p n).length ≤ k
  | 0, n, h => by
    have e : n = 0 := by simpa using h
    rw [e, dgs_zero]
    exact Nat.le_refl _
  | k + 1, n, h => by
    by_cases z : n = 0
    · rw [z, dgs_zero]
      exact Nat.zero_le _
    · rw [dgs_pos (by omega) hp]
      have h2 : n / p < 2 ^ k := by
        refine Nat.lt_of_le_of_lt (Nat.div_le_div_left hp (by decide)) ?_
        rw [Nat.pow_succ] at h
        omega
      have := dgs_len hp k _ h2
      simp only [List.length_cons]
      omega
theorem dgs_are {p : Nat} (hp : 2 ≤ p) : ∀ (k n : Nat), n ≤ k → ∀ d ∈ dgs p n, 0 ≤ d ∧ d < (p : Int)
  | 0, n, h, d, hd => by
    have e : n = 0 := by omega
    rw [e, dgs_zero] at hd
    cases hd
  | k + 1, n, h, d, hd => by
    by_cases z : n = 0
    · rw [z, dgs_zero] at hd
      cases hd
    · rw [dgs_pos (by omega) hp] at hd
      rcases List.mem_cons.mp hd with rfl | hd
      · have := Nat.mod_lt n (show p > 0 by omega)
        omega
      · exact dgs_are hp k _ (by have := Nat.div_lt_self (show 0 < n by omega) (show 1 < p by omega); omega) d hd
/-- the number that a word tells -/
def val (p : Int) : List Int → Int
  | [] => 0
  | d :: r => val p r * p + d
theorem val_dgs {p : Nat} (hp : 2 ≤ p) : ∀ (k n : Nat), n ≤ k → val p (dgs p n) = n
  | 0, n, h => by
    have e : n = 0 := by omega
    rw [e, dgs_zero]
    rfl
  | k + 1, n, h => by
    by_cases z : n = 0
    · rw [z, dgs_zero]
      rfl
    · rw [dgs_pos (by omega) hp]
      have lt := Nat.div_lt_self (show 0 < n by omega) (show 1 < p by omega)
      show val p (dgs p (n / p)) * p + ((n % p : Nat) : Int) = n
      rw [val_dgs hp k _ (by omega)]
      have := Nat.div_add_mod n p
      rw [Nat.mul_comm] at this
      omega
theorem val_zeros {p : Int} : ∀ (l : List Int) (k : Nat), val p (l ++ List.replicate k 0) = val p l
  | [], 0 => rfl
  | [], k + 1 => by
    have ih := val_zeros (p := p) [] k
    rw [List.nil_append] at ih ⊢
    show val p (List.replicate k 0) * p + 0 = 0
    rw [ih]
    show (0 : Int) * p + 0 = 0
    rw [Int.zero_mul]
    rfl
  | d :: l, k => by
    show val p (l ++ List.replicate k 0) * p + d = val p l * p + d
    rw [val_zeros l k]
theorem val_drop {p : Int} {l : List Int} {i : Nat} {d : Int} (h : l[i]? = some d) : val p (l.drop i) = val p (l.drop (i + 1)) * p + d := by
  have hi : i < l.length := by
    rcases Nat.lt_or_ge i l.length with z | z
    · exact z
    · rw [List.getElem?_eq_none z] at h
      cases h
  rw [List.drop_eq_getElem_cons hi]
  have e : l[i] = d := by
    rw [List.getElem?_eq_getElem hi] at h
    exact Option.some.inj h
  rw [e]
  rfl
/-- BadNumber(what, x) is raised -/
def RNum (CN : Addr) (what : Str) (x : V) (H : Hp) (E : XK) : Prop := ∀ d, H d = none → E (.ref CN) (some d) (upd H d (.xd [("number", x), ("what", .str what)]))
def isPr (p : Int) : Bool := inV (.int p) ([2, 3, 5, 7].map V.int)
def BadP (K : PySem.W.Frag) (H : Hp) (x : V) : Prop := (∃ m, x = .int m ∧ isPr m = false) ∨ NoInt K H x
def spCP (K : PySem.W.Frag) (CN : Addr) : Sp := fun vs H Q E => ∃ x, vs = [x] ∧
  ((∃ m, x = .int m ∧ isPr m = true ∧ Q .non H) ∨ (BadP K H x ∧ RNum CN "p" x H E))
theorem isPr_small {p : Int} (h : isPr p = true) : 2 ≤ p ∧ p ≤ 7 := by
  have z : (decide (2 = p) || (decide (3 = p) || (decide (5 = p) || (decide (7 = p) || false)))) = true := h
  simp only [Bool.or_eq_true, decide_eq_true_eq, Bool.or_false] at z
  omega
def spDg (K : PySem.W.Frag) (CN : Addr) : Sp := fun vs H Q E => ∃ x y, vs = [x, y] ∧
  ((∃ n p : Nat, x = .int n ∧ y = .int p ∧ isPr p = true ∧ n < 2 ^ 400 ∧ ∀ H' a, More H H' → H a = none → H' a = some (.tup ((dgs p n).map V.int)) → Q (.ref a) H') ∨
    (((∃ i, x = .int i ∧ i < 0) ∨ NoInt K H x) ∧ RNum CN "n" x H E) ∨
    ∃ n : Int, x = .int n ∧ 0 ≤ n ∧ BadP K H y ∧ RNum CN "p" y H E)
end B5

namespace K78
open PySem L2 Gd B5
def top (i : Nat) : Stmt := PySem.Challenge.pw_restcounts_k78_whole_as_many.main.body.getD i (.Pass ⟨0, 0, 0, 0⟩)
abbrev sPen : Stmt := top 30
abbrev sDraw : Stmt := top 31
abbrev sPick : Stmt := top 32
section
variable {P : Program} {w : World} {K : PySem.W.Frag} {mg : Str → Option Value} {base : Heap}
theorem scDraw : FnScope ["_law_pen_here", "_law_many", "_law_cell", "_law_digit", "_law_mixed"] ["_law_pen_here", "_law_many"] (defScope sDraw) := ⟨rfl, rfl, rfl, by decide +kernel, rfl, by decide +kernel, by decide +kernel⟩
theorem ok_draw {f : Addr} {fd : FuncData} (F : Fun K "_law_draw" "_law_draw" sDraw f fd) (mInt : mg "int" = none) (mLen : mg "len" = none) : FnOk P w K mg base CX0 1 f fd ["_law_pen_here", "_law_many"] spDraw := by
  refine F.ok scDraw (fun vs H Q E h => ?_) (fun cdv A outer s H vs Q E hr h => ?_)
  · obtain ⟨d, c, n, m, rfl, _⟩ := h
    rfl
  · obtain ⟨d, c, n, m, rfl, pen, m0, m1, n0, n1, k⟩ := h
    have hu := hu_of hr
    have ne := pen.ne
    obtain ⟨kvs, cs, p, g, f, hd, hc, hl, vC, vA, vG, vN, vF, ⟨p0, g0⟩, f0, f1⟩ := pen
    refine ⟨_, pss_cons (ps_dput hu (pv 0) pe_str (pe_op op_add (pe_dget hu (pv 0) pe_str (fun _ _ => rfl)) pe_int) rfl)
      (Evl.pss_cut (ps_if (PW.pt (pw_and (pt_cmpR op_eq (pe_dget hu (pv 0) pe_str (fun _ _ => rfl)) pe_int (nomark _))
            (pw_and1 (pt_cmpR op_lt (pe_dget hu (pv 0) pe_str (fun _ _ => rfl)) (pe_callB call_len_seq (by rfl) mLen PySem.boot_len (pa_cons (pe_dget hu (pv 0) pe_str (fun _ _ => rfl)) pa_nil)) (nomark _)))))
          (pss_cons (ps_set (i := 2) scDraw.nd rfl (Or.inl rfl) (pe_ix ix_list (pe_dget hu (pv 0) pe_str (fun _ _ => rfl)) (pe_dget hu (pv 0) pe_str (fun _ _ => rfl)) (fun _ _ => rfl)))
          (pss_cons (ps_dput hu (pv 0) pe_str (pe_op op_add (pe_dget hu (pv 0) pe_str (fun _ _ => rfl)) pe_int) rfl)
          (pss_one (ps_if (pt_cmpR op_ge (pv 2) (pe_op op_pow pe_int pe_int) (nomark _))
            (pss_one (ps_dput hu (pv 0) pe_str (pe_op op_sub (pv 2) (pe_op op_pow pe_int pe_int)) rfl))
            (pss_one (ps_dput hu (pv 0) pe_str (pe_op op_mod (pe_callTy call_int1 (by rfl) mInt (by decide +kernel) (pa_cons (pe_op op_add (pe_op op_mul (pe_dget hu (pv 0) pe_str (fun _ _ => rfl)) pe_int) (pv 2)) pa_nil)) pe_int) rfl))))))
          pss_nil)
      (pss_cons (ps_if (pt_cmpR op_gt (pe_dget hu (pv 0) pe_str (fun _ _ => rfl)) pe_int (nomark _))
          (pss_cons (ps_set (i := 3) scDraw.nd rfl (Or.inl rfl) (pe_op op_mod (pe_callTy call_int1 (by rfl) mInt (by decide +kernel) (pa_cons (pe_dget hu (pv 0) pe_str (fun _ _ => rfl)) pa_nil)) (pv 1)))
          (pss_cons (ps_dput hu (pv 0) pe_str (pe_op op_fdivW (pe_dget hu (pv 0) pe_str (fun _ _ => rfl)) (pv 1)) rfl)
          (pss_one (ps_ret (pv 3)))))
          pss_nil)
      (pss_cons (ps_set (i := 4) scDraw.nd rfl (Or.inl rfl) (pe_op op_add (pe_op op_add (pe_dget hu (pv 0) pe_str (fun _ _ => rfl)) (pe_op op_mul (pe_dget hu (pv 0) pe_str (fun _ _ => rfl)) pe_int)) pe_int))
      (pss_one (ps_ret (pe_op op_mod (pe_op op_fdiv (pe_callTy call_int1 (by rfl) mInt (by decide +kernel) (pa_cons (pe_op op_mod (pe_op op_pow (pv 4) pe_int) pe_int) pa_nil)) pe_int) (pv 1))))))), ?_⟩
    -- pen['count'] = pen['count'] + 1
    obtain ⟨ac, gc, nc, fc, ca, ga, na, fa, cg, ag, ng, fg, cn, an, gn, fn, cf, af, gf, nf⟩ := kne
    have l1 : (putK kvs kN (V.int (n + 1))).length ≤ 5 := by rw [putK_same vN]; exact hl
    have vC1 := put_in kN kC (V.int (n + 1)) vC cn
    have vA1 := put_in kN kA (V.int (n + 1)) vA an
    have vG1 := put_in kN kG (V.int (n + 1)) vG gn
    have vF1 := put_in kN kF (V.int (n + 1)) vF fn
    have vN1 : valV (putK kvs kN (V.int (n + 1))) kN = some (V.int (n + 1)) := put_at kN _
    refine ⟨_, rfl, d, _, rfl, dg kN hd vN, _, _, rfl, rfl, _, rfl, d, _, rfl, DPut.k (k := kN) hd (five hl), ?_⟩
    have hc1 : ∀ o, (L2.upd H d o) c = some (.lst (cs.map V.int)) := fun o => by rw [upd_ne ne]; exact hc
    generalize putK kvs kN (V.int (n + 1)) = kvs1 at *
    clear vC vA vG vN vF
    -- behind the if: a heap that differs at the pen alone
    refine ⟨fun σ' H' => ∃ (kvs : List (Key × V)) (p g f : Int) (z : Option V), σ' = [some (.ref d), some (.int m), z, none, none] ∧ H' d = some (.dK kvs) ∧ (∀ b, b ≠ d → H' b = H b) ∧
      kvs.length ≤ 5 ∧ valV kvs kC = some (.ref c) ∧ valV kvs kA = some (.int p) ∧ valV kvs kG = some (.int g) ∧ valV kvs kN = some (.int (n + 1)) ∧ valV kvs kF = some (.int f) ∧
      (0 ≤ p ∧ 0 ≤ g) ∧ (0 ≤ f ∧ f < 2147483648), ?_, ?_⟩
    · have mid : ∀ (z : Option V) (kvs2 : List (Key × V)) (H2 : Hp) (p g f : Int), H2 d = some (.dK kvs2) → (∀ b, b ≠ d → H2 b = H b) → kvs2.length ≤ 5 → valV kvs2 kC = some (.ref c) → valV kvs2 kA = some (.int p) →
          valV kvs2 kG = some (.int g) → valV kvs2 kN = some (.int (n + 1)) → valV kvs2 kF = some (.int f) → (0 ≤ p ∧ 0 ≤ g) → (0 ≤ f ∧ f < 2147483648) →
          ∃ (kvs : List (Key × V)) (p g f : Int) (z' : Option V), [some (V.ref d), some (V.int m), z, none, none] = [some (V.ref d), some (V.int m), z', none, none] ∧ H2 d = some (.dK kvs) ∧ (∀ b, b ≠ d → H2 b = H b) ∧
            kvs.length ≤ 5 ∧ valV kvs kC = some (.ref c) ∧ valV kvs kA = some (.int p) ∧ valV kvs kG = some (.int g) ∧ valV kvs kN = some (.int (n + 1)) ∧ valV kvs kF = some (.int f) ∧ (0 ≤ p ∧ 0 ≤ g) ∧ (0 ≤ f ∧ f < 2147483648) :=
        fun z kvs2 H2 p g f a1 a2 a3 a4 a5 a6 a7 a8 a9 a10 => ⟨kvs2, p, g, f, z, rfl, a1, a2, a3, a4, a5, a6, a7, a8, a9, a10⟩
      have off : ∀ o b, b ≠ d → (L2.upd H d o) b = H b := fun o b hb => upd_ne hb
      refine ⟨_, rfl, d, _, rfl, dg kG upd_same vG1, rfl, _, rfl, ite2 (fun _ => ?_) (fun _ => ?_)⟩
      · refine ⟨_, rfl, d, _, rfl, dg kA upd_same vA1, _, rfl, d, _, rfl, dg kC upd_same vC1, c, _, rfl, .inl (SqL.of (hc1 _)), _, _, rfl, rfl, _, rfl, ite2 (fun hlt => ?_) (fun _ => ?_)⟩
        · have hlt := of_decide_eq_true hlt
          rw [List.length_map] at hlt
          have hp : p.toNat < cs.length := by omega
          have hat : (cs.map V.int)[p.toNat]? = some (V.int cs[p.toNat]) := by rw [List.getElem?_map, List.getElem?_eq_getElem hp]; rfl
          refine ⟨_, rfl, d, _, rfl, dg kC upd_same vC1, _, rfl, d, _, rfl, dg kA upd_same vA1, c, _, _, _, rfl, rfl, SqL.of (hc1 _), at_of (by omega) hat, ?_⟩
          generalize cs[p.toNat] = x
          -- pen['at'] = pen['at'] + 1
          have l2 : (putK kvs1 kA (V.int (p + 1))).length ≤ 5 := by rw [putK_same vA1]; exact l1
          have vC2 := put_in kA kC (V.int (p + 1)) vC1 ca
          have vG2 := put_in kA kG (V.int (p + 1)) vG1 ga
          have vF2 := put_in kA kF (V.int (p + 1)) vF1 fa
          have vN2 := put_in kA kN (V.int (p + 1)) vN1 na
          have vA2 : valV (putK kvs1 kA (V.int (p + 1))) kA = some (V.int (p + 1)) := put_at kA _
          refine ⟨_, rfl, d, _, rfl, dg kA upd_same vA1, _, _, rfl, rfl, _, rfl, d, _, rfl, DPut.k (k := kA) upd_same (five l1), ?_⟩
          rw [upd_upd]
          generalize putK kvs1 kA (V.int (p + 1)) = kvs2 at *
          refine ⟨_, rfl, _, _, rfl, rfl, ⟨by decide, by decide, by decide⟩, _, _, rfl, rfl, _, rfl, ite2 (fun hge => ?_) (fun _ => ?_)⟩
          · have hge := of_decide_eq_true hge
            refine ⟨_, rfl, _, _, rfl, rfl, ⟨by decide, by decide, by decide⟩, _, _, rfl, rfl, _, rfl, d, _, rfl, DPut.k (k := kG) upd_same (five l2), ?_⟩
            rw [upd_upd]
            have e10 : (10 : Int) ^ (18 : Int).toNat = 1000000000000000000 := by decide
            exact mid _ _ _ (p + 1) _ f upd_same (off _) (by rw [putK_same vG2]; exact l2) (put_in kG kC _ vC2 cg) (put_in kG kA _ vA2 ag) (put_at kG _) (put_in kG kN _ vN2 ng) (put_in kG kF _ vF2 fg) ⟨by omega, by omega⟩ ⟨f0, f1⟩
          · refine ⟨_, rfl, d, _, rfl, dg kF upd_same vF2, _, _, rfl, rfl, .inl ⟨by omega, by omega⟩, _, rfl, _, _, rfl, rfl, .inl ⟨_, rfl, _, _, rfl, rfl, (by show (0 : Int) < 2147483587; decide), _, rfl, d, _, rfl, DPut.k (k := kF) upd_same (five l2), ?_⟩⟩
            rw [upd_upd]
            exact mid _ _ _ (p + 1) g _ upd_same (off _) (by rw [putK_same vF2]; exact l2) (put_in kF kC _ vC2 cf) (put_in kF kA _ vA2 af) (put_in kF kG _ vG2 gf) (put_in kF kN _ vN2 nf) (put_at kF _) ⟨by omega, by omega⟩ ⟨by omega, by omega⟩
        · exact mid _ _ _ p g f upd_same (off _) l1 vC1 vA1 vG1 vN1 vF1 ⟨p0, g0⟩ ⟨f0, f1⟩
      · refine iteF ?_
        exact mid _ _ _ p g f upd_same (off _) l1 vC1 vA1 vG1 vN1 vF1 ⟨p0, g0⟩ ⟨f0, f1⟩
    · clear vC1 vA1 vG1 vF1 vN1 l1 hc1 p0 g0 f0 f1 hl hd
      rintro σ' H2 ⟨kvs2, p2, g2, f2, z, rfl, hd2, off, l2, vC2, vA2, vG2, vN2, vF2, ⟨p0, g0⟩, f0, f1⟩
      have hc2 : H2 c = some (.lst (cs.map V.int)) := (off c ne).trans hc
      have m80 : m.natAbs < 2 ^ 80 := by
        have e : (2 ^ 80 : Nat) = 1208925819614629174706176 := by decide
        omega
      refine ⟨_, rfl, d, _, rfl, dg kG hd2 vG2, _, _, rfl, rfl, _, rfl, ite2 (fun hgt => ?_) (fun _ => ?_)⟩
      · refine ⟨_, rfl, d, _, rfl, dg kG hd2 vG2, .inl ⟨_, rfl, _, rfl, _, _, rfl, rfl, m0, ?_⟩⟩
        refine ⟨_, rfl, d, _, rfl, dg kG hd2 vG2, _, rfl, _, _, rfl, rfl, wide_div m0 m80 (by decide) (by decide), _, rfl, d, _, rfl, DPut.k (k := kG) hd2 (five l2), _, rfl, ?_⟩
        have q0 : 0 ≤ g2 / m := Int.ediv_nonneg g0 (by omega)
        refine k _ _ (Int.emod_nonneg _ (by omega)) (Int.emod_lt_of_pos _ m0) ⟨⟨_, cs, p2, g2 / m, f2, upd_same, by rw [upd_ne ne]; exact hc2, by rw [putK_same vG2]; exact l2, put_in kG kC _ vC2 cg, put_in kG kA _ vA2 ag, put_at kG _, put_in kG kN _ vN2 ng, put_in kG kF _ vF2 fg, ⟨p0, q0⟩, f0, f1⟩, fun b hb => by rw [upd_ne hb]; exact off b hb⟩
      · refine ⟨_, rfl, d, _, rfl, dg kF hd2 vF2, _, rfl, d, _, rfl, dg kN hd2 vN2, _, _, rfl, rfl, .inr ⟨by decide, by decide⟩, _, _, rfl, rfl, _, _, rfl, rfl, ?_⟩
        refine ⟨_, rfl, _, _, rfl, rfl, ⟨by decide, by decide, by omega⟩, _, _, rfl, rfl, (by show (0 : Int) < 2305843009213693951; decide), .inl ⟨_, rfl, _, _, rfl, rfl, ⟨by decide, by decide⟩, _, rfl, _, _, rfl, rfl, m0, ?_⟩⟩
        exact k _ _ (Int.emod_nonneg _ (by omega)) (Int.emod_lt_of_pos _ m0) ⟨⟨kvs2, cs, p2, g2, f2, hd2, hc2, l2, vC2, vA2, vG2, vN2, vF2, ⟨p0, g0⟩, f0, f1⟩, off⟩

theorem scPen : FnScope ["_law_script", "_law_fold", "_law_cell"] ["_law_script"] (defScope sPen) := ⟨rfl, rfl, rfl, by decide +kernel, rfl, by decide +kernel, by decide +kernel⟩
theorem ok_pen {f : Addr} {fd : FuncData} (F : Fun K "_law_pen" "_law_pen" sPen f fd) (mInt : mg "int" = none) (mLst : mg "list" = none) : FnOk P w K mg base CX0 1 f fd ["_law_script"] (spPen K) := by
  refine F.ok scPen (fun vs H Q E h => ?_) (fun cdv A outer s H vs Q E hr h => ?_)
  · obtain ⟨a, ns, rfl, _⟩ := h
    rfl
  · obtain ⟨a, ns, rfl, hS, k⟩ := h
    refine ⟨_, pss_cons (ps_set (i := 1) scPen.nd rfl (Or.inl rfl) pe_int)
      (pss_cons (ps_for PassesOwn.never rfl (pi_list (pv 0)) (pg_name (i := 2) scPen.nd rfl (Or.inl rfl))
        (pss_one (ps_set (i := 1) scPen.nd rfl (Or.inl rfl) (pe_op op_mod (pe_callTy call_int1 (by rfl) mInt (by decide +kernel) (pa_cons (pe_op op_add (pe_op op_mul (pv 1) pe_int) (pv 2)) pa_nil)) pe_int))))
      (pss_one (ps_ret (pe_disp (pps_cons pe_str (pe_callTy call_list_of (by rfl) mLst (by decide +kernel) (pa_cons (pv 0) pa_nil))
        (pps_cons pe_str pe_int (pps_cons pe_str pe_int (pps_cons pe_str pe_int (pps_cons pe_str (pv 1) pps_nil))))) rfl rfl (by simp) (by decide))))), ?_⟩
    refine ⟨_, rfl, a, rfl, ⟨_, hS⟩, for_list (K := K) (a := a) (xs := ns.map V.int) (fun _ σ H2 => ∃ (f : Int) (v : Option V), σ = [some (.ref a), some (.int f), v] ∧ H2 = H ∧ 0 ≤ f ∧ f < 1000000007)
      ⟨0, none, rfl, rfl, by decide, by decide⟩ (fun i σ H2 _ ⟨_, _, _, e, _⟩ => e ▸ hS) ?_ ?_⟩
    · rintro i y σ H2 hi ⟨f, v, rfl, rfl, f0, f1⟩
      obtain ⟨z, rfl⟩ : ∃ z, y = V.int z := by
        rw [List.getElem?_map] at hi
        cases e : ns[i]? with
        | none => rw [e] at hi; cases hi
        | some z => rw [e] at hi; exact ⟨z, (Option.some.inj hi).symm⟩
      refine ⟨_, rfl, _, _, rfl, rfl, .inl ⟨by omega, by omega⟩, _, rfl, _, _, rfl, rfl, .inl ⟨_, rfl, _, _, rfl, rfl, (by show (0 : Int) < 1000000007; decide), ?_⟩⟩
      exact ⟨_, _, rfl, rfl, Int.emod_nonneg _ (by decide), Int.emod_lt_of_pos _ (by decide)⟩
    · rintro σ H2 ⟨f, v, rfl, rfl, f0, f1⟩
      intro d hd
      have hS1 : SqL K (L2.upd H2 d (.dK [])) a (ns.map V.int) := Same.seq (fun b o e => by rw [upd_ne (ne_of_none e hd)]; exact e) hS
      refine ⟨_, rfl, a, _, rfl, .inl hS1, fun c hc => ?_⟩
      have ncd : c ≠ d := fun e => by
        rw [e, upd_same] at hc
        cases hc
      have hc0 : H2 c = none := by rw [upd_ne ncd] at hc; exact hc
      refine ⟨_, rfl, by rw [upd_ne ncd.symm, upd_same], [(kC, .ref c), (kA, .int 0), (kG, .int 0), (kN, .int 0), (kF, .int f)], rfl, (by show 5 ≤ 15; decide), ?_⟩
      have lm := length_mergeK [(kC, V.ref c), (kA, .int 0), (kG, .int 0), (kN, .int 0), (kF, .int f)] []
      obtain ⟨ac, gc, nc, fc, ca, ga, na, fa, cg, ag, ng, fg, cn, an, gn, fn, cf, af, gf, nf⟩ := kne
      have em : mergeK [] [(kC, V.ref c), (kA, .int 0), (kG, .int 0), (kN, .int 0), (kF, .int f)] = putK (putK (putK (putK (putK [] kC (.ref c)) kA (.int 0)) kG (.int 0)) kN (.int 0)) kF (.int f) := rfl
      have v1 : valV (mergeK [] [(kC, V.ref c), (kA, .int 0), (kG, .int 0), (kN, .int 0), (kF, .int f)]) kC = some (.ref c) := by
        rw [em]; exact put_in _ _ _ (put_in _ _ _ (put_in _ _ _ (put_in _ _ _ (put_at _ _) ca) cg) cn) cf
      have v2 : valV (mergeK [] [(kC, V.ref c), (kA, .int 0), (kG, .int 0), (kN, .int 0), (kF, .int f)]) kA = some (.int 0) := by
        rw [em]; exact put_in _ _ _ (put_in _ _ _ (put_in _ _ _ (put_at _ _) ag) an) af
      have v3 : valV (mergeK [] [(kC, V.ref c), (kA, .int 0), (kG, .int 0), (kN, .int 0), (kF, .int f)]) kG = some (.int 0) := by
        rw [em]; exact put_in _ _ _ (put_in _ _ _ (put_at _ _) gn) gf
      have v4 : valV (mergeK [] [(kC, V.ref c), (kA, .int 0), (kG, .int 0), (kN, .int 0), (kF, .int f)]) kN = some (.int 0) := by
        rw [em]; exact put_in _ _ _ (put_at _ _) nf
      have v5 : valV (mergeK [] [(kC, V.ref c), (kA, .int 0), (kG, .int 0), (kN, .int 0), (kF, .int f)]) kF = some (.int f) := by
        rw [em]; exact put_at _ _
      have l5 : (mergeK [] [(kC, V.ref c), (kA, .int 0), (kG, .int 0), (kN, .int 0), (kF, .int f)]).length ≤ 5 := lm
      refine k _ d c ⟨_, ns, 0, 0, f, upd_same, by rw [upd_ne ncd, upd_same], l5, v1, v2, v3, v4, v5, by decide, f0, by omega⟩ (fun b o e => ?_) hd
      rw [upd_ne (ne_of_none e hd), upd_ne (ne_of_none e hc0), upd_ne (ne_of_none e hd)]
      exact e
theorem scPick : FnScope ["_law_pen_here", "_law_some"] ["_law_pen_here", "_law_some"] (defScope sPick) := ⟨rfl, rfl, rfl, by decide +kernel, rfl, by decide +kernel, by decide +kernel⟩
theorem ok_pick {f fD : Addr} {fd fdD : FuncData} (F : Fun K "_law_pick" "_law_pick" sPick f fd) (FD : Fun K "_law_draw" "_law_draw" sDraw fD fdD) (bD : Binds K fdD ["_law_pen_here", "_law_many"] []) (mD : mg "_law_draw" = some (.ref fD))
    (mInt : mg "int" = none) (mLen : mg "len" = none) : FnOk P w K mg base CX0 2 f fd ["_law_pen_here", "_law_some"] (spPick K) := by
  have GD : FnOk P w K mg base CX0 1 fD fdD ["_law_pen_here", "_law_many"] spDraw := ok_draw FD mInt mLen
  refine F.ok scPick (fun vs H Q E h => ?_) (fun cdv A outer s H vs Q E hr h => ?_)
  · obtain ⟨d, c, a, n, xs, rfl, _⟩ := h
    rfl
  · obtain ⟨d, c, a, n, xs, rfl, pen, ha, x0, x1, n0, n1, k⟩ := h
    refine ⟨_, pss_one (ps_ret (pe_ix ix_list (pv 1) (pe_call GD hr rfl mD FD.kp bD .nil pass0 (pa_cons (pv 0) (pa_cons (pe_callB call_len_seq (by rfl) mLen PySem.boot_len (pa_cons (pv 1) pa_nil)) pa_nil))) (fun _ _ => rfl))), ?_⟩
    refine ⟨_, rfl, _, rfl, _, rfl, a, _, rfl, .inl (SqL.of ha), d, c, n, _, rfl, pen, by omega, by omega, n0, n1, fun r H' r0 r1 dr => ?_⟩
    have nda : a ≠ d := fun e => by
      obtain ⟨kvs, cs, p, g, f, h1, _⟩ := pen
      rw [e, h1] at ha
      cases ha
    have hr : r.toNat < xs.length := by omega
    refine ⟨a, _, _, _, rfl, rfl, SqL.of ((dr.off a nda).trans ha), at_of (j := r.toNat) (by omega) (List.getElem?_eq_getElem hr), ?_⟩
    exact k _ _ (List.getElem_mem hr) dr
end
end K78

namespace K78
open PySem L2 Gd B5
section
variable {P : Program} {w : World} {K : PySem.W.Frag} {mg : Str → Option Value} {base : Heap}
abbrev sBadNumber : Stmt := inClass (top 3) 0
theorem scBadNumber : FnScope ["self", "what", "number"] ["self", "what", "number"] (defScope sBadNumber) := ⟨rfl, rfl, rfl, by decide +kernel, rfl, by decide +kernel, by decide +kernel⟩
theorem okBadNumber {f C : Addr} {fd : FuncData} (F : Fun K "__init__" "BadNumber.__init__" sBadNumber f fd) (T : OexC K C) (no : ∀ g ∈ (["what", "number"] : List Str), PySem.W.findIn K (.ref C) g = some none) : FnOk P w K mg base CX0 1 f fd ["self", "what", "number"] (spIni C ["what", "number"]) := by
  refine F.ok scBadNumber (fun vs H Q E h => ?_) (fun cdv A outer s H vs Q E hr h => ?_)
  · obtain ⟨a, ys, rfl, hl, _⟩ := h
    show ys.length + 1 = _
    rw [hl]
    rfl
  · obtain ⟨a, ys, rfl, hl, ha, k⟩ := h
    match ys, hl with
    | [y0, y1], _ =>
    refine ⟨_, pss_cons (ps_ost (pv 0) (pv 1)) (pss_one (ps_ost (pv 0) (pv 2))), ?_⟩
    refine ⟨_, rfl, _, rfl, a, C, rfl, T, no _ (.head _), .inl ⟨ha, fun dx hdx ne => ?_⟩⟩
    refine ⟨_, rfl, _, rfl, a, C, rfl, T, no _ (.tail _ (.head _)), .inr ⟨dx, _, upd_same, by rw [upd_ne ne, upd_same], by show 1 ≤ 900; decide, ?_⟩⟩
    refine k _ dx hdx ne (fun b hb hd => ?_) ?_ ?_
    · rw [upd_ne hd, upd_ne hb, upd_ne hd]
    · rw [upd_ne ne.symm, upd_same]
    · exact upd_same
abbrev sBadRow : Stmt := inClass (top 4) 0
theorem scBadRow : FnScope ["self", "row"] ["self", "row"] (defScope sBadRow) := ⟨rfl, rfl, rfl, by decide +kernel, rfl, by decide +kernel, by decide +kernel⟩
theorem okBadRow {f C : Addr} {fd : FuncData} (F : Fun K "__init__" "BadRow.__init__" sBadRow f fd) (T : OexC K C) (no : ∀ g ∈ (["row"] : List Str), PySem.W.findIn K (.ref C) g = some none) : FnOk P w K mg base CX0 1 f fd ["self", "row"] (spIni C ["row"]) := by
  refine F.ok scBadRow (fun vs H Q E h => ?_) (fun cdv A outer s H vs Q E hr h => ?_)
  · obtain ⟨a, ys, rfl, hl, _⟩ := h
    show ys.length + 1 = _
    rw [hl]
    rfl
  · obtain ⟨a, ys, rfl, hl, ha, k⟩ := h
    match ys, hl with
    | [y0], _ =>
    refine ⟨_, pss_one (ps_ost (pv 0) (pv 1)), ?_⟩
    refine ⟨_, rfl, _, rfl, a, C, rfl, T, no _ (.head _), .inl ⟨ha, fun dx hdx ne => ?_⟩⟩
    refine k _ dx hdx ne (fun b hb hd => ?_) ?_ ?_
    · rw [upd_ne hb, upd_ne hd]
    · exact upd_same
    · rw [upd_ne ne, upd_same]; rfl
abbrev sUnlike : Stmt := inClass (top 5) 0
theorem scUnlike : FnScope ["self", "what"] ["self", "what"] (defScope sUnlike) := ⟨rfl, rfl, rfl, by decide +kernel, rfl, by decide +kernel, by decide +kernel⟩
theorem okUnlike {f C : Addr} {fd : FuncData} (F : Fun K "__init__" "Unlike.__init__" sUnlike f fd) (T : OexC K C) (no : ∀ g ∈ (["what"] : List Str), PySem.W.findIn K (.ref C) g = some none) : FnOk P w K mg base CX0 1 f fd ["self", "what"] (spIni C ["what"]) := by
  refine F.ok scUnlike (fun vs H Q E h => ?_) (fun cdv A outer s H vs Q E hr h => ?_)
  · obtain ⟨a, ys, rfl, hl, _⟩ := h
    show ys.length + 1 = _
    rw [hl]
    rfl
  · obtain ⟨a, ys, rfl, hl, ha, k⟩ := h
    match ys, hl with
    | [y0], _ =>
    refine ⟨_, pss_one (ps_ost (pv 0) (pv 1)), ?_⟩
    refine ⟨_, rfl, _, rfl, a, C, rfl, T, no _ (.head _), .inl ⟨ha, fun dx hdx ne => ?_⟩⟩
    refine k _ dx hdx ne (fun b hb hd => ?_) ?_ ?_
    · rw [upd_ne hb, upd_ne hd]
    · exact upd_same
    · rw [upd_ne ne, upd_same]; rfl
end
end K78

namespace K78
open PySem L2 Gd B5
section
variable {P : Program} {w : World} {K : PySem.W.Frag} {mg : Str → Option Value} {base : Heap}
abbrev sIsI : Stmt := top 9
theorem scIsI : FnScope ["value"] ["value"] (defScope sIsI) := ⟨rfl, rfl, rfl, by decide +kernel, rfl, by decide +kernel, by decide +kernel⟩
theorem ok_isI {f : Addr} {fd : FuncData} (F : Fun K "is_integer" "is_integer" sIsI f fd) (mIsi : mg "isinstance" = none) (mInt : mg "int" = none) (mBool : mg "bool" = none) : FnOk P w K mg base CX0 1 f fd ["value"] (spIsI K) := by
  refine F.ok scIsI (fun vs H Q E h => ?_) (fun cdv A outer s H vs Q E hr h => ?_)
  · obtain ⟨x, rfl, _⟩ := h
    rfl
  · obtain ⟨x, rfl, h⟩ := h
    refine ⟨_, pss_one (ps_ret (pe_and (pe_callB call_isi (by rfl) mIsi (by decide +kernel) (pa_cons (pv 0) (pa_cons (pe_bltn (v := .ty "int") rfl mInt (by decide +kernel) rfl) pa_nil)))
      (pe_one (pe_not (pe_callB call_isi (by rfl) mIsi (by decide +kernel) (pa_cons (pv 0) (pa_cons (pe_bltn (v := .ty "bool") rfl mBool (by decide +kernel) rfl) pa_nil))))))), ?_⟩
    obtain ⟨i, rfl, q⟩ | ⟨⟨n, hn, t⟩, q⟩ | ⟨t, ty, kt, q⟩ := h
    · refine ⟨_, rfl, _, _, _, _, _, rfl, .ty "int", .base (.int i), kit_ty on_int.1, _, rfl, iteT ?_⟩
      exact ⟨_, rfl, _, _, _, _, _, rfl, .ty "bool", .base (.int i), kit_ty on_int.2, _, rfl, q⟩
    · obtain ⟨k1, k2⟩ := off_int n hn
      refine ⟨_, rfl, _, _, _, _, _, rfl, .ty "int", t, kit_ty k1, _, rfl, ite2 (fun z => ?_) (fun z => q)⟩
      refine ⟨_, rfl, _, _, _, _, _, rfl, .ty "bool", t, kit_ty k2, _, rfl, ?_⟩
      rw [z]
      exact q
    · exact ⟨_, rfl, _, _, _, _, _, rfl, .ty "int", ty, kt, _, rfl, iteF q⟩
end
section
variable {P : Program} {w : World} {K : PySem.W.Frag} {mg : Str → Option Value} {base : Heap}
end
section
variable {P : Program} {w : World} {K : PySem.W.Frag} {mg : Str → Option Value} {base : Heap}
variable {fI f : Addr} {fdI fd : FuncData}
abbrev sIsIs : Stmt := top 10
theorem scIsIs : FnScope ["value", "item"] ["value"] (defScope sIsIs) := ⟨rfl, rfl, rfl, by decide +kernel, rfl, by decide +kernel, by decide +kernel⟩
theorem ok_isIs (F : Fun K "is_integers" "is_integers" sIsIs f fd) (B : Blt mg) (I : Cl K mg "is_integer" sIsI ["value"] fI fdI) :
    FnOk P w K mg base CX0 2 f fd ["value"] (spIsIs K) := by
  have GI : FnOk P w K mg base CX0 1 fI fdI ["value"] (spIsI K) := ok_isI I.fn B.isi_ B.int_ B.bool_
  refine F.ok scIsIs (fun vs H Q E h => ?_) (fun cdv A outer s H vs Q E hr h => ?_)
  · obtain ⟨x, rfl, _⟩ := h
    rfl
  · obtain ⟨x, rfl, h⟩ := h
    refine ⟨_, pss_one (ps_ret (pe_and (pe_callB call_isiT (by rfl) B.isi_ (by decide +kernel) (pa_cons (pv 0) (pa_cons (pe_tup (pa_cons (pe_bltn (v := .ty "tuple") rfl B.tup_ (by decide +kernel) rfl)
        (pa_cons (pe_bltn (v := .ty "list") rfl B.list_ (by decide +kernel) rfl) pa_nil))) pa_nil)))
      (pe_one (pe_callB (cr_all rfl) (by rfl) B.all_ (by decide +kernel) (pa_cons (pe_lc (own := [("item", 1)]) (g := gName 1) (tt := tYes) rfl scIsIs.nd (pi_or (pi_list (pv 0)) (pi_tup (pv 0)))
        (blkOk_by (N := ["value", "item"]) (sc := defScope sIsIs) (by decide +kernel))
        (fun _ _ _ _ _ => pg_name (i := 1) scIsIs.nd rfl (Or.inl rfl)) (fun _ _ _ _ _ => pts_nil)
        (fun _ _ _ _ _ => pe_call GI hr rfl I.g I.k I.b .nil pass0 (pa_cons (pv 1) pa_nil))) pa_nil))))), ?_⟩
    refine ⟨_, rfl, (by show 2 ≤ sizeLine; decide), fun t ht => ?_⟩
    have m1 : More H (upd H t (.tup [.ty "tuple", .ty "list"])) := More.new (fun _ _ e => e) ht
    obtain ⟨n, hn, ty, q⟩ | ⟨a, xs, rfl, sq, few, all, q⟩ := h
    · obtain ⟨k1, k2⟩ := seq_no n hn
      refine ⟨_, t, _, _, _, false, rfl, upd_same, .cons (.ty "tuple") (.cons (.ty "list") .nil), tyMore m1 ty, kitAny_cons (kit_ty k1) (fun _ => kitAny_cons (kit_ty k2) (fun _ => kitAny_nil) (fun z => nomatch z)) (fun z => nomatch z), _, rfl, iteF ?_⟩
      exact q _ m1
    · have yes : ∃ n, TyX K H (.ref a) (.type n) ∧ PySem.W.kitAny K (.type n) [.type "tuple", .type "list"] = some true := by
        obtain h | h := sq
        · exact ⟨_, tyL h, kitAny_cons (kit_ty seq_yes.2.1) (fun _ => kitAny_cons (kit_ty seq_yes.2.2) (fun z => nomatch z) (fun _ => rfl)) (fun z => nomatch z)⟩
        · exact ⟨_, tyT h, kitAny_cons (kit_ty seq_yes.1) (fun z => nomatch z) (fun _ => rfl)⟩
      obtain ⟨n, ty, ka⟩ := yes
      refine ⟨_, t, _, _, _, true, rfl, upd_same, .cons (.ty "tuple") (.cons (.ty "list") .nil), tyMore m1 ty, ka, _, rfl, iteT ?_⟩
      have sq1 := Sq.more m1 sq
      generalize upd H t (.tup [.ty "tuple", .ty "list"]) = H1 at m1 sq1 ⊢
      have body : ∀ (J : It) (G : Hp → Prop), Walk J xs.length G (YAt xs) → (∀ H', More H1 H' → G H') → ∀ L, H1 L = none → _ :=
        fun J G wk hG L hL => lc_it (w := wk) (vs := [1]) (g := gName 1) (tt := tYes) (σ := [some (.ref a), none]) (D := L) (H1 := H1)
          (te := tCall (spIsI K) [] (fun _ _ _ => False) (tCons (tVar 1) tNil))
          (Qd := fun H' => ∃ (b : Addr) (bs : List Bool), [V.ref L] = [V.ref b] ∧ SqL K H' b (bs.map V.bl) ∧ Q (.bl (bs.all id)) H')
          (fun i H' => H' L = some (.lst ((xs.take i).map fun y => V.bl (isI y))) ∧ More H1 H') ⟨upd_same, More.new (fun _ _ e => e) hL⟩ (fun i H' _ h => hG H' h.2)
          (fun i y H2 H3 hi ⟨e1, m2⟩ ⟨eH, hy⟩ => by
            subst eH
            have la : ((xs.take i).map fun y => V.bl (isI y)).length < sizeLine := by
              rw [List.length_map, List.length_take]
              exact small1000 (by omega)
            have fin : ∀ b, isI y = b → ∃ acc, H3 L = some (.lst acc) ∧ acc.length < sizeLine ∧ (upd H3 L (.lst (acc ++ [V.bl b]))) L = some (.lst ((xs.take (i + 1)).map fun y => V.bl (isI y))) ∧ More H1 (upd H3 L (.lst (acc ++ [V.bl b]))) := by
              intro b hb
              refine ⟨_, e1, la, ?_, m2.at hL⟩
              rw [upd_same, take_snoc hy, List.map_append, List.map_cons, List.map_nil, hb]
            refine ⟨rfl, _, rfl, y, rfl, ?_⟩
            obtain ⟨z, rfl⟩ | no := all y (List.mem_of_getElem? hy)
            · exact .inl ⟨z, rfl, fin _ rfl⟩
            · exact .inr (.inl ⟨no.more fun b o e => m2 b o (m1 b o e), fin _ (noInt_isI no)⟩))
          (fun H' ⟨e1, m2⟩ => by
            rw [List.take_length] at e1
            refine ⟨L, xs.map isI, rfl, SqL.of (by rw [List.map_map]; exact e1), ?_⟩
            have : ((xs.map isI).all id) = xs.all isI := by rw [List.all_map]; rfl
            rw [this]
            exact q _ fun b o e => m2 b o (m1 b o e))
      obtain h | h := sq1
      · exact .inl ⟨_, rfl, a, rfl, ⟨xs, h⟩, body _ _ walk_list fun H' m => Same.seq m h⟩
      · exact .inr ⟨_, rfl, a, rfl, ⟨xs, h⟩, body _ _ walk_tup fun H' m => sqT_more m h⟩
end
end K78

namespace K78
open PySem L2 Gd B5
section
variable {P : Program} {w : World} {K : PySem.W.Frag} {mg : Str → Option Value} {base : Heap}
variable {fI fS f : Addr} {fdI fdS fd : FuncData}
abbrev sRow : Stmt := top 11
theorem scRow : FnScope ["value", "width"] ["value", "width"] (defScope sRow) := ⟨rfl, rfl, rfl, by decide +kernel, rfl, by decide +kernel, by decide +kernel⟩
theorem ok_row (F : Fun K "is_row" "is_row" sRow f fd) (B : Blt mg) (I : Cl K mg "is_integer" sIsI ["value"] fI fdI) (S : Cl K mg "is_integers" sIsIs ["value"] fS fdS) :
    FnOk P w K mg base CX0 3 f fd ["value", "width"] (spRow K) := by
  have GS : FnOk P w K mg base CX0 2 fS fdS ["value"] (spIsIs K) := ok_isIs S.fn B I
  refine F.ok scRow (fun vs H Q E h => ?_) (fun cdv A outer s H vs Q E hr h => ?_)
  · obtain ⟨x, n, rfl, _⟩ := h
    rfl
  · obtain ⟨x, n, rfl, h⟩ := h
    refine ⟨_, pss_one (ps_ret (pe_and (pe_call GS hr rfl S.g S.k S.b .nil pass0 (pa_cons (pv 0) pa_nil))
      (pe_one (pe_cmpR op_eq (pe_callB call_len_seq (by rfl) B.len_ PySem.boot_len (pa_cons (pv 0) pa_nil)) (pv 1) (nomark _))))), ?_⟩
    obtain ⟨⟨m, hm, t⟩, q⟩ | ⟨a, xs, rfl, s, i, q⟩ := h
    · exact ⟨_, rfl, x, rfl, .inl ⟨m, hm, t, fun H' mo => ⟨_, rfl, iteF (q H' mo)⟩⟩⟩
    · refine ⟨_, rfl, _, rfl, .inr ⟨a, xs, rfl, s, i.1, i.2, fun H' mo => ⟨_, rfl, ?_⟩⟩⟩
      have q := q H' mo
      cases e : xs.all isI with
      | false =>
        rw [e] at q
        exact iteF q
      | true =>
        rw [e] at q
        exact iteT ⟨_, rfl, a, _, rfl, s.more mo, _, rfl, rfl, by rw [deI]; exact q⟩
end
end K78

namespace K78
open PySem L2 Gd B5
section
variable {P : Program} {w : World} {K : PySem.W.Frag} {mg : Str → Option Value} {base : Heap}
variable {fN CN fI fC f : Addr} {fdN fdI fdC fd : FuncData} {D : Addr}
abbrev sCP : Stmt := top 16
theorem scCP : FnScope ["p"] ["p"] (defScope sCP) := ⟨rfl, rfl, rfl, by decide +kernel, rfl, by decide +kernel, by decide +kernel⟩
abbrev sDg : Stmt := top 17
theorem scDg : FnScope ["n", "p", "found", "digit"] ["n", "p"] (defScope sDg) := ⟨rfl, rfl, rfl, by decide +kernel, rfl, by decide +kernel, by decide +kernel⟩
theorem ok_cp (F : Fun K "check_prime" "check_prime" sCP f fd) (B : Blt mg) (I : Cl K mg "is_integer" sIsI ["value"] fI fdI)
    (N : Er K mg "BadNumber" "BadNumber.__init__" CN fN ["what", "number"] sBadNumber fdN) (gD : mg "PRIMES" = some (.ref D)) (dD : tupI K (.ref D) = some [2, 3, 5, 7]) :
    FnOk P w K mg base (L2.CX P w) 3 f fd ["p"] (spCP K CN) := by
  have GI : FnOk P w K mg base CX0 1 fI fdI ["value"] (spIsI K) := ok_isI I.fn B.isi_ B.int_ B.bool_
  have GN : FnOk P w K mg base CX0 1 fN fdN ["self", "what", "number"] (spIni CN ["what", "number"]) := okBadNumber N.fn N.T N.no
  refine F.okX scCP (fun vs H Q E h => ?_) (fun cdv A outer s H vs Q E hr h => ?_)
  · obtain ⟨x, rfl, _⟩ := h
    rfl
  · obtain ⟨x, rfl, h⟩ := h
    have hT : SqT K H D ([2, 3, 5, 7].map V.int) := by
      obtain ⟨a, us, n, sl, ea, hk, rv⟩ := tupI_some dD
      cases ea
      refine .inr ⟨_, us, n, hk, rfl, rfl, ?_, rv⟩
      have z := Paired.length rv
      have z2 : us.toList.length = us.size := Array.length_toList
      rw [← z2, ← z, sizeLine_eq]
      show 4 ≤ 16777216
      decide
    refine ⟨_, pss_one (ps_if (PW.pt (pw_or (pt_not (pt_val (pe_call GI (hr.mono (by decide)) rfl I.g I.k I.b .nil pass0 (pa_cons (pv 0) pa_nil))))
          (pw_or1 (pt_cmpR op_notIn_seq (pv 0) (pe_glob (v := .ref D) rfl gD rfl) (by rfl)))))
        (pss_one (ps_raise rfl (takes_of rfl rfl rfl rfl) (pmk_oex N.T N.iC N.tI GN hr N.b .nil pass0 rfl N.g (pa_cons pe_str (pa_cons (pv 0) pa_nil))))) pss_nil), ?_⟩
    obtain ⟨m, rfl, l, q⟩ | ⟨⟨m, rfl, l⟩ | bad, q⟩ := h
    · refine ⟨_, rfl, _, rfl, .inl ⟨m, rfl, _, rfl, iteF ⟨_, rfl, D, _, rfl, .inr hT, rfl, rfl, _, rfl, ?_⟩⟩⟩
      rw [if_pos rfl, show inV (V.int m) ([2, 3, 5, 7].map V.int) = true from l]
      exact iteF q
    · refine ⟨_, rfl, _, rfl, .inl ⟨m, rfl, _, rfl, iteF ⟨_, rfl, D, _, rfl, .inr hT, rfl, rfl, _, rfl, ?_⟩⟩⟩
      rw [if_pos rfl, show inV (V.int m) ([2, 3, 5, 7].map V.int) = false from l]
      exact iteT ⟨_, rfl, mk_ini rfl (by show 2 ≤ 900; decide) q⟩
    · exact ⟨_, rfl, _, rfl, .inr (.inl ⟨bad, _, rfl, iteT (iteT ⟨_, rfl, mk_ini rfl (by show 2 ≤ 900; decide) q⟩)⟩)⟩
theorem ok_dg (F : Fun K "digits" "digits" sDg f fd) (B : Blt mg) (I : Cl K mg "is_integer" sIsI ["value"] fI fdI) (C : Cl K mg "check_prime" sCP ["p"] fC fdC)
    (N : Er K mg "BadNumber" "BadNumber.__init__" CN fN ["what", "number"] sBadNumber fdN) (gD : mg "PRIMES" = some (.ref D)) (dD : tupI K (.ref D) = some [2, 3, 5, 7]) :
    FnOk P w K mg base (L2.CX P w) 4 f fd ["n", "p"] (spDg K CN) := by
  have GI : FnOk P w K mg base CX0 1 fI fdI ["value"] (spIsI K) := ok_isI I.fn B.isi_ B.int_ B.bool_
  have GN : FnOk P w K mg base CX0 1 fN fdN ["self", "what", "number"] (spIni CN ["what", "number"]) := okBadNumber N.fn N.T N.no
  have GC : FnOk P w K mg base (L2.CX P w) 3 fC fdC ["p"] (spCP K CN) := ok_cp C.fn B I N gD dD
  refine F.okX scDg (fun vs H Q E h => ?_) (fun cdv A outer s H vs Q E hr h => ?_)
  · obtain ⟨x, y, rfl, _⟩ := h
    rfl
  · obtain ⟨x, y, rfl, h⟩ := h
    refine ⟨_, pss_cons (ps_if (PW.pt (pw_or (pt_not (pt_val (pe_call GI (hr.mono (by decide)) rfl I.g I.k I.b .nil pass0 (pa_cons (pv 0) pa_nil))))
          (pw_or1 (pt_cmpR op_lt (pv 0) pe_int (nomark _)))))
        (pss_one (ps_raise rfl (takes_of rfl rfl rfl rfl) (pmk_oex N.T N.iC N.tI GN (hr.mono (by decide)) N.b .nil pass0 rfl N.g (pa_cons pe_str (pa_cons (pv 0) pa_nil))))) pss_nil)
      (pss_cons (ps_expr (pe_call GC hr rfl C.g C.k C.b .nil (passes_call (takes_of rfl rfl rfl rfl) (fun _ _ _ _ h => h)) (pa_cons (pv 1) pa_nil)))
      (pss_cons (ps_set (i := 2) scDg.nd rfl (Or.inl rfl) (pe_lst pa_nil))
      (pss_cons (ps_while (passes_of rfl) (pt_cmpR op_gt (pv 0) pe_int (nomark _))
        (pss_cons (ps_asg (pe_callB call_divmod (by rfl) B.divmod_ (by decide +kernel) (pa_cons (pv 0) (pa_cons (pv 1) pa_nil)))
            (pg_tup (by rfl) (pgs_cons (pg_name (i := 0) scDg.nd rfl (Or.inl rfl)) (pgs_cons (pg_name (i := 3) scDg.nd rfl (Or.inl rfl)) pgs_nil))))
          (pss_one (ps_expr (pe_bm PySem.F.plainAttrs_list PySem.F.slot_list_append PySem.F.type_list_append mt_append (pv 2) (pa_cons (pv 3) pa_nil))))))
      (pss_one (ps_ret (pe_callTy call_tuple_of (by rfl) B.tup_ (by decide +kernel) (pa_cons (pv 2) pa_nil))))))), ?_⟩
    obtain ⟨n, p, rfl, rfl, pr, big, q⟩ | ⟨⟨i, rfl, neg⟩ | bad, q⟩ | ⟨n, rfl, n0, bad, q⟩ := h
    · obtain ⟨p2, p7⟩ := isPr_small pr
      refine ⟨_, rfl, _, rfl, .inl ⟨_, rfl, _, rfl, iteF ⟨_, rfl, _, _, rfl, rfl, _, rfl, ?_⟩⟩⟩
      rw [show decide ((n : Int) < 0) = false from decide_eq_false (by omega)]
      refine iteF ⟨_, rfl, _, rfl, .inl ⟨_, rfl, pr, ?_⟩⟩
      refine ⟨(by show 0 ≤ sizeLine; exact Nat.zero_le _), fun l hl => ?_⟩
      refine while_by (fun σ H2 => ∃ (m : Nat) (acc : List Int) (z : Option V), σ = [some (.int m), some (.int p), some (.ref l), z] ∧ H2 l = some (.lst (acc.map V.int)) ∧
          More H H2 ∧ acc ++ dgs p m = dgs p n) (fun σ _ => match σ with | some (.int m) :: _ => m.toNat | _ => 0)
        ⟨n, [], none, rfl, upd_same, More.new (fun _ _ e => e) hl, rfl⟩ ?_ ?_
      · rintro σ H2 ⟨m, acc, z, rfl, hl2, mo, eq⟩
        refine ⟨_, rfl, _, _, rfl, rfl, _, rfl, ite2 (fun hm => ?_) (fun hm => ?_)⟩
        · have hm : (0 : Int) < m := of_decide_eq_true hm
          have m0 : 0 < m := by omega
          refine ⟨_, rfl, _, rfl, _, _, rfl, ⟨by omega, by omega⟩, fun t ht => ?_⟩
          have lt : l ≠ t := ne_of_none hl2 ht
          have hl3 : (upd H2 t (.tup [.int ((m : Int) / p), .int ((m : Int) % p)])) l = some (.lst (acc.map V.int)) := by rw [upd_ne lt]; exact hl2
          refine ⟨t, _, rfl, SqT.of upd_same, rfl, _, _, rfl, _, _, rfl, rfl, ?_⟩
          have short : acc.length < sizeLine := by
            have e := congrArg List.length eq
            rw [List.length_append] at e
            have := dgs_len (show 2 ≤ p by omega) 400 n big
            exact small1000 (by omega)
          refine ⟨_, rfl, .inl ⟨rfl, _, SqL.of hl3⟩, _, rfl, l, _, _, rfl, rfl, hl3, by rw [List.length_map]; exact short, ?_⟩
          refine ⟨⟨m / p, acc ++ [((m % p : Nat) : Int)], _, rfl, ?_, ?_, ?_⟩, ?_⟩
          · rw [upd_same, List.map_append]
            rfl
          · refine More.at (More.new mo ht) (More.off ?_ hl)
            exact fun b o e => e
          · rw [List.append_assoc, List.singleton_append, ← dgs_pos m0 (by omega)]
            exact eq
          · show ((m / p : Nat) : Int).toNat < (m : Int).toNat
            have := Nat.div_lt_self m0 (show 1 < p by omega)
            omega
        · have hm : ¬ ((0 : Int) < m) := fun z => hm (decide_eq_true z)
          have m0 : m = 0 := by omega
          rw [m0, dgs_zero, List.append_nil] at eq
          rw [eq] at hl2
          refine ⟨_, rfl, l, _, rfl, .inl ⟨SqL.of hl2, fun t ht => ?_⟩⟩
          exact q _ t (More.new mo ht) (More.off mo ht) upd_same
      · rintro σ H2 Q1 Q2 f ⟨v, e, x, y, e1, e2, c, e3, q2⟩
        exact ⟨v, e, x, y, e1, e2, c, e3, f _ _ q2⟩
    · refine ⟨_, rfl, _, rfl, .inl ⟨i, rfl, _, rfl, iteF ⟨_, rfl, _, _, rfl, rfl, _, rfl, ?_⟩⟩⟩
      rw [show decide (i < 0) = true from decide_eq_true neg]
      exact iteT ⟨_, rfl, mk_ini rfl (by show 2 ≤ 900; decide) q⟩
    · exact ⟨_, rfl, _, rfl, .inr (.inl ⟨bad, _, rfl, iteT (iteT ⟨_, rfl, mk_ini rfl (by show 2 ≤ 900; decide) q⟩)⟩)⟩
    · refine ⟨_, rfl, _, rfl, .inl ⟨n, rfl, _, rfl, iteF ⟨_, rfl, _, _, rfl, rfl, _, rfl, ?_⟩⟩⟩
      rw [show decide (n < 0) = false from decide_eq_false (by omega)]
      exact iteF ⟨_, rfl, _, rfl, .inr ⟨bad, q⟩⟩
end
end K78

namespace ZipG
open PySem L2 PySem.Spec PyProof.Rows
/-! zip of any two of: a list, a tuple, a text -/
inductive Src where
  | l (a : Addr)
  | t (a : Addr)
  | s (z : Str)
def Src.v : Src → V
  | .l a => .ref a
  | .t a => .ref a
  | .s z => .str z
/-- its items as they stand -/
def Src.has (K : PySem.W.Frag) : Src → List V → Hp → Prop
  | .l a, xs, H => SqL K H a xs
  | .t a, xs, H => SqT K H a xs
  | .s z, xs, _ => xs = z.cps.toList.map fun c => V.str ⟨#[c]⟩
def Src.it : Src → Addr → Nat → Heap → Prop
  | .l a, it, i, h => h.IsListIter it a i
  | .t a, it, i, h => h.IsTupleIter it a i
  | .s z, it, i, h => ∃ t, h.IsStrIter it (strIterType z) z t i
def Src.low (n : Nat) : Src → Prop
  | .l a => a < n
  | .t a => a < n
  | .s _ => True
def ItG (K : PySem.W.Frag) (S1 S2 : Src) : It :=
  ⟨fun i H => ∃ xs ys, S1.has K xs H ∧ S2.has K ys H ∧ i < xs.length ∧ i < ys.length,
    fun i H v H' => ∃ T x y, v = .ref T ∧ H T = none ∧ H' = upd H T (.tup [x, y]) ∧ (∀ xs, S1.has K xs H → xs[i]? = some x) ∧ ∀ ys, S2.has K ys H → ys[i]? = some y,
    fun i H => ∃ xs ys : List V, S1.has K xs H ∧ S2.has K ys H ∧ i ≤ xs.length ∧ i ≤ ys.length ∧ (i = xs.length ∨ i = ys.length)⟩
theorem vals_back : ∀ {xs : List V} {us : List Value} {i : Nat} {u : Value}, Vals xs us → us[i]? = some u → ∃ x, xs[i]? = some x ∧ RelV x u
  | _, _, _, _, .nil, e => by simp at e
  | _, _, 0, _, .cons r _, e => by simp at e; subst e; exact ⟨_, rfl, r⟩
  | _, _, i + 1, u, .cons _ t, e => by
    rw [List.getElem?_cons_succ] at e
    obtain ⟨x, h1, h2⟩ := vals_back t e
    exact ⟨x, by rw [List.getElem?_cons_succ]; exact h1, h2⟩
section
variable {X : Cx} {pins : List (Addr × Obj)} {σ : L2.St} {H : Hp} {s : Shared} {A : Around}
theorem src_draw (hh : A.handled = none) (S : Src) (I : Inv X pins σ H s) {it i n : Nat} {xs : List V} (st : S.it it i s.heap) (low : S.low n) (hit : n ≤ it) (h : S.has X.K xs H) :
    ∃ (fp : List Addr) (P : Nat → Value → Prop) (St : Nat → Heap → Prop), Draws X.prog X.w A it fp xs.length P St ∧ St i s.heap ∧ (∀ j h', St j h' → S.it it j h') ∧ it ∈ fp ∧ (∀ b ∈ fp, b = it ∨ b < n) ∧ ∀ j u, P j u → ∃ x, xs[j]? = some x ∧ RelV x u := by
  cases S with
  | l a =>
    obtain ⟨its, rv, p, _⟩ := I.list h
    have hl := rv.length
    have e : its.toArray.size = xs.length := by rw [List.size_toArray, hl]
    have low : a < n := low
    refine ⟨_, _, _, e ▸ Draws.list hh it a (Nat.ne_of_lt (Nat.lt_of_lt_of_le low hit)) its.toArray, ⟨st, p.isList⟩, fun j h' z => z.1, by simp, fun b hb => ?_, fun j u hu => ?_⟩
    · have hb : b = it ∨ b = a := by simpa using hb
      rcases hb with rfl | rfl
      · exact .inl rfl
      · exact .inr low
    · have hu : its[j]? = some u := by simpa using hu
      exact vals_back rv hu
  | t a =>
    obtain ⟨its, rv, p, _⟩ := I.tuple h
    have hl := rv.length
    have e : its.toArray.size = xs.length := by rw [List.size_toArray, hl]
    have low : a < n := low
    refine ⟨_, _, _, e ▸ Draws.tuple hh it a (Nat.ne_of_lt (Nat.lt_of_lt_of_le low hit)) its.toArray, ⟨st, p⟩, fun j h' z => z.1, by simp, fun b hb => ?_, fun j u hu => ?_⟩
    · have hb : b = it ∨ b = a := by simpa using hb
      rcases hb with rfl | rfl
      · exact .inl rfl
      · exact .inr low
    · have hu : its[j]? = some u := by simpa using hu
      exact vals_back rv hu
  | s z =>
    obtain ⟨t, st⟩ := st
    have h : xs = z.cps.toList.map fun c => V.str ⟨#[c]⟩ := h
    subst h
    have e : z.cps.size = (z.cps.toList.map fun c => V.str ⟨#[c]⟩).length := by simp
    refine ⟨_, _, _, e ▸ Draws.text hh it z t, st, fun j h' z => ⟨t, z⟩, by simp, fun b hb => .inl (by simpa using hb), fun j u hu => ?_⟩
    obtain ⟨c, u', hc, rfl⟩ := hu
    refine ⟨.str ⟨#[c]⟩, ?_, u', rfl⟩
    rw [List.getElem?_map, Array.getElem?_toList, hc]
    rfl
theorem src_it {S : Src} {it i : Nat} {h h' : Heap} (st : S.it it i h) (k : ∀ o, h.get? it = some o → h'.get? it = some o) : S.it it i h' := by
  cases S with
  | l a => exact Heap.IsListIter.at st k
  | t a => exact Heap.IsTupleIter.at st k
  | s z =>
    obtain ⟨t, o, e, r⟩ := st
    exact ⟨t, o, k _ e, r⟩
theorem src_obj {S : Src} {it i : Nat} {h : Heap} (st : S.it it i h) : ∃ o, h.get? it = some o ∧ ∀ v, o.data ≠ .cell v := by
  cases S with
  | l a => obtain ⟨o, e, _, d⟩ := st; exact ⟨o, e, fun v q => by rw [d] at q; cases q⟩
  | t a => obtain ⟨o, e, _, d⟩ := st; exact ⟨o, e, fun v q => by rw [d] at q; cases q⟩
  | s z => obtain ⟨t, o, e, _, d⟩ := st; exact ⟨o, e, fun v q => by rw [d] at q; cases q⟩
theorem has_inj {S : Src} (I : Inv X pins σ H s) {xs ys : List V} (h1 : S.has X.K xs H) (h2 : S.has X.K ys H) : xs = ys := by
  cases S with
  | l a => exact I.list_inj h1 h2
  | t a => exact I.tuple_inj h1 h2
  | s z => exact h1.trans h2.symm
theorem nn {a b : Nat} (h : a ≠ b) : @Ne Addr a b := h
theorem ee {a b : Addr} (h : a = b) : @Eq Nat a b := h
abbrev fpG (n : Nat) : List Addr := [n + 4, n + 2, n + 3, n, n + 1]
theorem turn_zipG {P : Program} {w : World} {K : PySem.W.Frag} {elts : List Expr} {kk : Nat} {tpos : Pos} {n : Nat} {S1 S2 : Src} (l1 : S1.low n) (l2 : S2.low n) :
    Turn P w K (.Tuple elts kk tpos) (ItG K S1 S2) (fpG n) (n + 4) (fun i h => IsZip h (n + 4) (n + 2) (n + 3) .none ∧ IsTupOf2 h (n + 2) (.ref n) (.ref (n + 1)) ∧ (∃ x y, IsTupOf2 h (n + 3) x y) ∧ S1.it n i h ∧ S2.it (n + 1) i h) where
  mem := by simp
  obj := fun i h st c hc => by
    obtain ⟨hz, hTI, ⟨x, y, hTO⟩, h1, h2⟩ := st
    have e' : c = n + 4 ∨ c = n + 2 ∨ c = n + 3 ∨ c = n ∨ c = n + 1 := by simpa using hc
    rcases e' with q | q | q | q | q
    · rw [q]; exact ⟨_, hz, fun v q => nomatch q⟩
    · rw [q]; exact ⟨_, hTI, fun v q => nomatch q⟩
    · rw [q]; exact ⟨_, hTO, fun v q => nomatch q⟩
    · rw [q]; exact src_obj h1
    · rw [q]; exact src_obj h2
  keep := fun i h h' st k => by
    obtain ⟨hz, hTI, ⟨x, y, hTO⟩, h1, h2⟩ := st
    exact ⟨k _ (by simp) _ hz, k _ (by simp) _ hTI, ⟨x, y, k _ (by simp) _ hTO⟩, src_it h1 fun o q => k n (by simp) o q, src_it h2 fun o q => k (n + 1) (by simp) o q⟩
  item := by
    intro X hP hw hK hc i pins s σ H E I hf st hg
    subst hP hw hK
    obtain ⟨hz, hTI, ⟨x0, y0, hTO⟩, h1, h2⟩ := st
    obtain ⟨xs, ys, hx, hy, lx, ly⟩ := hg
    have hh : X.A.in1.handled = none := I.ok.hd hc
    obtain ⟨fp1, P1, St1, D1, s1, back1, m1, f1, r1⟩ := src_draw hh S1 I h1 l1 (Nat.le_refl _) hx
    obtain ⟨fp2, P2, St2, D2, s2, back2, m2, f2, r2⟩ := src_draw hh S2 I h2 l2 (Nat.le_succ _) hy
    have no1 : ∀ c : Nat, n < c → c ∉ fp1 := fun c hc hm => by
      rcases f1 c hm with e | e
      · have := ee e
        omega
      · have e : (c : Nat) < n := e
        omega
    have no2 : ∀ c : Nat, n ≤ c → c ≠ n + 1 → c ∉ fp2 := fun c hc hn hm => by
      rcases f2 c hm with e | e
      · exact hn e
      · have e : (c : Nat) < n := e
        omega
    have S : ZipSep2 (n + 4) (n + 2) (n + 3) n (n + 1) fp1 fp2 := ⟨nn (by omega), nn (by omega), nn (by omega), nn (by omega), m1, no1 (n + 4) (by omega), no1 (n + 3) (by omega), nn (by omega), m2, no2 (n + 4) (by omega) (by omega), no2 (n + 3) (by omega) (by omega), no2 n (by omega) (by omega), no1 (n + 1) (by omega)⟩
    have hzl : n + 4 < s.heap.objs.size := Heap.lt_size hz
    refine wpAny_pyNext_zipD2_item S D1 D2 hz hTI hTO s1 s2 lx ly fun u u2 h' tk p1 p2 z' TO' h1' h2' hT hsz hk => ?_
    obtain ⟨x, ex, ru⟩ := r1 _ _ p1
    obtain ⟨y, ey, ru2⟩ := r2 _ _ p2
    refine ⟨_, rfl, wpAny_letOwnedTupleGo_zip (s := { s with heap := h', toks := tk }) z' fun h'' z'' sb => ?_⟩
    have hT2 : h''.get? s.heap.objs.size = some { cls := .type "tuple", data := .seq #[u, u2] } := (sb.2 _ (Nat.ne_of_gt hzl)).trans hT
    have new : ObjOk X.prog X.w (upd H s.heap.objs.size (.tup [x, y])) h'' s.heap.objs.size (.tup [x, y]) :=
      ⟨by show 2 ≤ sizeLine; decide, [u, u2], .cons ru (.cons ru2 .nil), ⟨_, hT2, rfl, _, rfl⟩⟩
    have I1 : Inv X pins σ (upd H s.heap.objs.size (.tup [x, y])) { s with heap := h'', toks := tk } :=
      I.turnedNew (t' := tk) (ch := fpG n) (fun c o hb q => (sb.2 c (fun q' => hb (by simp [q']))).trans (hk c o (fun q' => hb (by simp [q'])) (fun q' => hb (by simp [q'])) (fun q' => hb (by simp [q'])) (fun q' => hb (by simp [q'])) q)) hf (Nat.le_refl _) new
    refine ⟨.ref s.heap.objs.size, _, I1, rfl, ⟨_, x, y, rfl, I.hok.fresh (Nat.le_refl _), rfl, fun l hl => by rw [has_inj I hl hx]; exact ex, fun l hl => by rw [has_inj I hl hy]; exact ey⟩, ⟨z'', ?_, ⟨u, u2, ?_⟩, ?_, ?_⟩, fun c hcm => ?_⟩
    · exact (sb.2 _ (nn (by omega))).trans (hk _ _ (nn (by omega)) (nn (by omega)) (nn (by omega)) (nn (by omega)) hTI)
    · exact (sb.2 _ (nn (by omega))).trans TO'
    · exact src_it (back1 _ _ h1') fun o q => (sb.2 _ (nn (by omega))).trans q
    · exact src_it (back2 _ _ h2') fun o q => (sb.2 _ (nn (by omega))).trans q
    · have hlt : c < s.heap.objs.size := by
        have e' : @Eq Nat c (n + 4) ∨ @Eq Nat c (n + 2) ∨ @Eq Nat c (n + 3) ∨ @Eq Nat c n ∨ @Eq Nat c (n + 1) := by simpa using hcm
        have go : ∀ k : Nat, k ≤ 4 → @Eq Nat c (n + k) → c < s.heap.objs.size := fun k hk e => Nat.lt_of_le_of_lt (Nat.le_trans (Nat.le_of_eq e) (Nat.add_le_add_left hk n)) hzl
        rcases e' with e | e | e | e | e
        · exact go 4 (by decide) e
        · exact go 2 (by decide) e
        · exact go 3 (by decide) e
        · exact go 0 (by decide) e
        · exact go 1 (by decide) e
      rw [upd_ne (Nat.ne_of_lt hlt)]
      exact (hf c hcm).1
  done := by
    intro X hP hw hK hc i pins s σ H E I hf st hg
    subst hP hw hK
    obtain ⟨hz, hTI, ⟨x0, y0, hTO⟩, h1, h2⟩ := st
    obtain ⟨xs, ys, hx, hy, lx, ly, he⟩ := hg
    have hh : X.A.in1.handled = none := I.ok.hd hc
    obtain ⟨fp1, P1, St1, D1, s1, back1, m1, f1, r1⟩ := src_draw hh S1 I h1 l1 (Nat.le_refl _) hx
    obtain ⟨fp2, P2, St2, D2, s2, back2, m2, f2, r2⟩ := src_draw hh S2 I h2 l2 (Nat.le_succ _) hy
    have no1 : ∀ c : Nat, n < c → c ∉ fp1 := fun c hc hm => by
      rcases f1 c hm with e | e
      · have := ee e
        omega
      · have e : (c : Nat) < n := e
        omega
    have no2 : ∀ c : Nat, n ≤ c → c ≠ n + 1 → c ∉ fp2 := fun c hc hn hm => by
      rcases f2 c hm with e | e
      · exact hn e
      · have e : (c : Nat) < n := e
        omega
    have S : ZipSep2 (n + 4) (n + 2) (n + 3) n (n + 1) fp1 fp2 := ⟨nn (by omega), nn (by omega), nn (by omega), nn (by omega), m1, no1 (n + 4) (by omega), no1 (n + 3) (by omega), nn (by omega), m2, no2 (n + 4) (by omega) (by omega), no2 (n + 3) (by omega) (by omega), no2 n (by omega) (by omega), no1 (n + 1) (by omega)⟩
    exact wpAny_pyNext_zipD2_end S D1 D2 hz hTI hTO s1 s2 lx ly he fun h' tk hk => ⟨rfl, I.turnedL (t' := tk) (ch := fpG n) (fun c o hb q =>
      hk c o (fun q' => hb (by simp [q'])) (fun q' => hb (by simp [q'])) (fun q' => hb (by simp [q'])) (fun q' => hb (by simp [q'])) q) hf⟩
  self := fun A i s Q E st h => wpAny_pyIter_zip st.1 h
def iZipG (K : PySem.W.Frag) (ta : TA) : TI := fun σ H R => ta σ H fun vs H1 => ∃ (S1 S2 : Src) (xs ys : List V), vs = [S1.v, S2.v] ∧ S1.has K xs H1 ∧ S2.has K ys H1 ∧ R (ItG K S1 S2) H1
theorem src_begin (S : Src) (I : Inv X pins σ H s) {xs : List V} {u : Value} (h : S.has X.K xs H) (r : RelV S.v u) :
    ∃ (o : Obj) (Hp0 : Heap → Prop), Begins u o Hp0 ∧ Hp0 s.heap ∧ S.low s.heap.objs.size ∧ ∀ (h' : Heap) (it : Addr), h'.get? it = some o → S.it it 0 h' := by
  cases S with
  | l a =>
    obtain ⟨its, rv, p, _⟩ := I.list h
    cases r
    exact ⟨_, _, begins_list a its.toArray, p.isList, p.lt, fun h' it e => ⟨_, e, rfl, rfl⟩⟩
  | t a =>
    obtain ⟨its, rv, p, _⟩ := I.tuple h
    cases r
    exact ⟨_, _, begins_tuple a its.toArray, p, p.lt, fun h' it e => ⟨_, e, rfl, rfl⟩⟩
  | s z =>
    obtain ⟨t, rfl⟩ := r
    exact ⟨_, _, begins_text z t, trivial, trivial, fun h' it e => ⟨t, _, e, rfl, rfl⟩⟩
theorem pi_zipG {X : Cx} {e e2 : Expr} {ta : TA} {p pos tpos : Pos} {elts : List Expr} {kk : Nat} (hg : Gl X "zip") (hm : X.mg "zip" = none) (ha : PA X [e, e2] ta)
    (hs : starEach [e, e2] X.env = (false, eval e X.env) :: starEach [e2] X.env := by rfl) (hpl : (backTo pos (starEach [e2] X.env)).any (·.1) = false := by rfl) :
    PI X (.Tuple elts kk tpos) (.Call (.Name "zip" p) [e, e2] [] pos) (iZipG X.K ta) := by
  refine ⟨fun pins s σ H R I h => ?_⟩
  refine Call_ (ld_blt I hg hm PyProof.Rows.boot_zip (PyProof.Rows.callWith_type1 (thn (ha.run pos pins s σ H _ I h) fun us s1 ⟨vs, H1, I1, r1, q1⟩ => ?_) hs hpl))
  obtain ⟨S1, S2, xs, ys, ex, hx, hy, q⟩ := q1
  subst ex
  cases r1 with
  | cons r rr =>
    cases rr with
    | cons r' rr =>
      cases rr
      obtain ⟨o1, G1, B1, g1, low1, b1⟩ := src_begin S1 I1 hx r
      obtain ⟨o2, G2, B2, g2, low2, b2⟩ := src_begin S2 I1 hy r'
      have fresh5 : ∀ c, c ∈ fpG s1.heap.objs.size → FpOk X pins H1 c := fun c hcm => by
        have e' : @Eq Nat c (s1.heap.objs.size + 4) ∨ @Eq Nat c (s1.heap.objs.size + 2) ∨ @Eq Nat c (s1.heap.objs.size + 3) ∨ @Eq Nat c s1.heap.objs.size ∨ @Eq Nat c (s1.heap.objs.size + 1) := by simpa using hcm
        have go : ∀ k : Nat, @Eq Nat c (s1.heap.objs.size + k) → s1.heap.objs.size ≤ c := fun k e => Nat.le_trans (Nat.le_add_right _ k) (Nat.le_of_eq e.symm)
        have hle : s1.heap.objs.size ≤ c := by
          rcases e' with e | e | e | e | e
          · exact go 4 e
          · exact go 2 e
          · exact go 3 e
          · exact go 0 e
          · exact go 1 e
        exact I1.fpOk hle (I1.hok.fresh hle)
      refine zip_begins2 B1 B2 g1 g2 fun h' hz hTI hTO h1 h2 hsz hk => wpAny_pyIter_zip hz ?_
      have I2 : Inv X pins σ H1 { s1 with heap := h' } := I1.kept (t' := s1.toks) hk
      exact ⟨s1.heap.objs.size + 4, fpG s1.heap.objs.size, _, _, H1, rfl, I2, turn_zipG low1 low2, ⟨hz, hTI, ⟨_, _, hTO⟩, b1 _ _ h1, b2 _ _ h2⟩, fresh5, q⟩
theorem walk_zipG {K : PySem.W.Frag} {S1 S2 : Src} {xs ys : List V} {n : Nat} (hn : n = min xs.length ys.length) : Walk (ItG K S1 S2) n (fun H => S1.has K xs H ∧ S2.has K ys H) (YPair (fun i => xs[i]?) (fun i => ys[i]?)) where
  goes := fun i H hi h => ⟨xs, ys, h.1, h.2, by omega, by omega⟩
  stops := fun H h => ⟨xs, ys, h.1, h.2, by omega, by omega, by omega⟩
  yields := fun i H v H' hi h ⟨T, x, y, e1, e2, e3, e4, e5⟩ => ⟨T, x, y, e1, e2, e3, e4 xs h.1, e5 ys h.2⟩
end
end ZipG

/-! Sqs: lists and tuples alike as what is walked; comprehensions whose items leave what stands. -/
namespace B5
open PySem PySem.Spec PyProof.Rows L2 Gd
/-- what stands at a stands there still -/
def Kept (a : Addr) (H H' : Hp) : Prop := ∀ o, H a = some o → H' a = some o
theorem Kept.sqL {K : PySem.W.Frag} {H H' : Hp} {a : Addr} {xs : List V} (e : Kept a H H') : SqL K H a xs → SqL K H' a xs
  | .inl (.inl h) => .inl (.inl (e _ h))
  | .inl (.inr ⟨o, h⟩) => .inl (.inr ⟨o, e _ h⟩)
  | .inr h => .inr h
theorem Kept.sqT {K : PySem.W.Frag} {H H' : Hp} {a : Addr} {xs : List V} (e : Kept a H H') : SqT K H a xs → SqT K H' a xs
  | .inl (.inl h) => .inl (.inl (e _ h))
  | .inl (.inr ⟨o, h⟩) => .inl (.inr ⟨o, e _ h⟩)
  | .inr h => .inr h
theorem Kept.sq {K : PySem.W.Frag} {H H' : Hp} {a : Addr} {xs : List V} (e : Kept a H H') : Sq K H a xs → Sq K H' a xs
  | .inl h => .inl (e.sqL h)
  | .inr h => .inr (e.sqT h)
theorem Kept.of {a : Addr} {H H' : Hp} (m : More H H') : Kept a H H' := fun o h => m a o h
/-- a list or a tuple is walked -/
def iSq (K : PySem.W.Frag) (te : TE) : TI := fun σ H R => te σ H fun v H1 => ∃ a xs, v = .ref a ∧ Sq K H1 a xs ∧
  ∀ (J : It) (Z : Hp → Prop), Walk J xs.length Z (YAt xs) → (∀ H', Kept a H1 H' → Z H') → R J H1
theorem pi_sq {X : Cx} {K : PySem.W.Frag} {tg e : Expr} {te : TE} (hK : X.K = K) (h : PE X e te) : PI X tg e (iSq K te) := by
  subst hK
  refine ⟨fun pins s σ H R I q => ?_⟩
  refine thn (h.run pins s σ H _ I q) fun v s1 ⟨x, H1, I1, r1, q1⟩ => ?_
  obtain ⟨a, xs, e, hq, q⟩ := q1
  subst e
  cases r1
  rcases hq with hq | hq
  · obtain ⟨its, rv, p, hz⟩ := I1.list hq
    refine wpAny_pyIter_list p.isList ?_
    refine ⟨s1.heap.objs.size, [s1.heap.objs.size], _, _, H1, rfl, I1.kept (t' := s1.toks) fun b o e => Heap.get?_push_of_some _ e, turn_list a _, ⟨_, Heap.get?_push_size _ rfl, rfl, rfl⟩, fun b hb => ?_, q _ _ walk_list fun H' k => k.sqL hq⟩
    have e : b = s1.heap.objs.size := by simpa using hb
    subst e
    exact I1.fpOk (Nat.le_refl _) (I1.hok.fresh (Nat.le_refl _))
  · obtain ⟨its, rv, p, hz⟩ := I1.tuple hq
    refine wpAny_pyIter_tuple (show s1.heap.IsTuple a its.toArray from p) ?_
    refine ⟨s1.heap.objs.size, [s1.heap.objs.size], _, _, H1, rfl, I1.kept (t' := s1.toks) fun b o e => Heap.get?_push_of_some _ e, turn_tuple a _, ⟨_, Heap.get?_push_size _ rfl, rfl, rfl⟩, fun b hb => ?_, q _ _ walk_tup fun H' k => k.sqT hq⟩
    have e : b = s1.heap.objs.size := by simpa using hb
    subst e
    exact I1.fpOk (Nat.le_refl _) (I1.hok.fresh (Nat.le_refl _))
/-- a comprehension without tests over it: each item's value is known, what stands ahead stays -/
theorem lc_pure {J : It} {Z : Hp → Prop} {xs rs : List V} (w : Walk J xs.length Z (YAt xs)) {g : TG} {te : TE} {vs : List Nat} {σ : L2.St} {H1 : Hp} {D : Addr} {Qd : Hp → Prop}
    (hD : H1 D = none) (hZ : ∀ H', More H1 H' → Z H') (hl : rs.length = xs.length) (few : xs.length ≤ 16777215)
    (el : ∀ (i : Nat) (y v : V) (H2 : Hp) (Q : VK), xs[i]? = some y → rs[i]? = some v → More H1 H2 → (∀ H3, More H2 H3 → Q v H3) → g y (wipe σ vs) H2 fun σ2 H3 => wipe σ2 vs = wipe σ vs ∧ te σ2 H3 Q)
    (mo : ∀ y σ' H2 (A B : L2.St → Hp → Prop), (∀ σ2 H3, A σ2 H3 → B σ2 H3) → g y σ' H2 A → g y σ' H2 B)
    (hd : ∀ H', H' D = some (.lst rs) → More H1 H' → Qd H') :
    ∃ W : Nat → Nat → Hp → Prop, (∃ m, W 0 m (upd H1 D (.lst []))) ∧ ∀ i m H, W i m H →
    (J.stop i H ∧ Qd H) ∨ (J.go i H ∧ ∃ Nx : Hp → Prop, (∀ H', Nx H' → ∃ m', m' < m ∧ W (i + 1) m' H') ∧ ∀ x H', J.yld i H x H' → g x (wipe σ vs) H' fun σ2 H2 => wipe σ2 vs = wipe σ vs ∧ tYes σ2 H2 fun b H3 =>
      if b = true then te σ2 H3 fun y H4 => ∃ acc, H4 D = some (.lst acc) ∧ acc.length < sizeLine ∧ Nx (upd H4 D (.lst (acc ++ [y]))) else Nx H3) := by
  refine lc_it (H1 := H1) (D := D) (Qd := Qd) w (fun i H' => H' D = some (.lst (rs.take i)) ∧ More H1 H') ⟨upd_same, More.new (fun _ _ e => e) hD⟩ (fun i H' _ h => hZ H' h.2) ?_ ?_
  · rintro i y H2 H3 hi ⟨h2, m2⟩ ⟨rfl, hy⟩
    have hv : rs[i]? = some rs[i] := List.getElem?_eq_getElem (by omega)
    refine mo _ _ _ _ _ (fun σ2 H4 q => q) (el i y rs[i] H3 (fun y H4 => ∃ acc, H4 D = some (.lst acc) ∧ acc.length < sizeLine ∧ (upd H4 D (.lst (acc ++ [y]))) D = some (.lst (rs.take (i + 1))) ∧ More H1 (upd H4 D (.lst (acc ++ [y])))) hy hv m2 fun H4 m4 => ⟨_, m4 _ _ h2, ?_, ?_, ?_⟩)
    · rw [List.length_take, sizeLine_eq]
      omega
    · rw [upd_same, take_snoc hv]
    · exact More.at (fun b o e => m4 b o (m2 b o e)) hD
  · rintro H' ⟨e, m⟩
    rw [← hl, List.take_length] at e
    exact hd H' e m
/-- the same for one name as the target -/
theorem lc_name {J : It} {Z : Hp → Prop} {xs rs : List V} (w : Walk J xs.length Z (YAt xs)) {n : Nat} {te : TE} {vs : List Nat} {σ : L2.St} {H1 : Hp} {D : Addr} {Qd : Hp → Prop}
    (hD : H1 D = none) (hZ : ∀ H', More H1 H' → Z H') (hl : rs.length = xs.length) (few : xs.length ≤ 16777215)
    (hw : ∀ y, wipe ((wipe σ vs).set n (some y)) vs = wipe σ vs)
    (el : ∀ (i : Nat) (y v : V) (H2 : Hp) (Q : VK), xs[i]? = some y → rs[i]? = some v → More H1 H2 → (∀ H3, More H2 H3 → Q v H3) → te ((wipe σ vs).set n (some y)) H2 Q)
    (hd : ∀ H', H' D = some (.lst rs) → More H1 H' → Qd H') :
    ∃ W : Nat → Nat → Hp → Prop, (∃ m, W 0 m (upd H1 D (.lst []))) ∧ ∀ i m H, W i m H →
    (J.stop i H ∧ Qd H) ∨ (J.go i H ∧ ∃ Nx : Hp → Prop, (∀ H', Nx H' → ∃ m', m' < m ∧ W (i + 1) m' H') ∧ ∀ x H', J.yld i H x H' → gName n x (wipe σ vs) H' fun σ2 H2 => wipe σ2 vs = wipe σ vs ∧ tYes σ2 H2 fun b H3 =>
      if b = true then te σ2 H3 fun y H4 => ∃ acc, H4 D = some (.lst acc) ∧ acc.length < sizeLine ∧ Nx (upd H4 D (.lst (acc ++ [y]))) else Nx H3) :=
  lc_pure w hD hZ hl few (fun i y v H2 Q h1 h2 m h3 => ⟨hw y, el i y v H2 Q h1 h2 m h3⟩) (fun _ _ _ _ _ h q => h _ _ q) hd
end B5

/-! Dat: rows of ints and tuples of such as data; pairs of lists; comprehensions that make objects. -/
namespace B5
open PySem L2 Gd
theorem paired_at {α β : Type} {R : α → β → Prop} : ∀ {xs : List α} {l : List β}, Paired R xs l → ∀ {i : Nat} {y : α}, xs[i]? = some y → ∃ e, l[i]? = some e ∧ R y e
  | _, _, .nil, i, y, h => by rw [List.getElem?_nil] at h; cases h
  | _, _, .cons h t, 0, y, e => by cases e; exact ⟨_, rfl, h⟩
  | _, _, .cons h t, i + 1, y, e => by
    rw [List.getElem?_cons_succ] at e
    obtain ⟨z, h1, h2⟩ := paired_at t e
    exact ⟨z, by rw [List.getElem?_cons_succ]; exact h1, h2⟩
theorem paired_back {α β : Type} {R : α → β → Prop} : ∀ {xs : List α} {l : List β}, Paired R xs l → ∀ e ∈ l, ∃ y ∈ xs, R y e
  | _, _, .nil, e, h => nomatch h
  | _, _, .cons h t, e, he => by
    rcases List.mem_cons.mp he with rfl | he
    · exact ⟨_, .head _, h⟩
    · obtain ⟨y, hy, r⟩ := paired_back t e he
      exact ⟨y, .tail _ hy, r⟩
theorem paired_imp {α β : Type} {R S : α → β → Prop} (h : ∀ x y, R x y → S x y) : ∀ {xs : List α} {l : List β}, Paired R xs l → Paired S xs l
  | _, _, .nil => .nil
  | _, _, .cons a t => .cons (h _ _ a) (paired_imp h t)
theorem paired_snoc {α β : Type} {R : α → β → Prop} {x : α} {y : β} (h : R x y) : ∀ {xs : List α} {l : List β}, Paired R xs l → Paired R (xs ++ [x]) (l ++ [y])
  | _, _, .nil => .cons h .nil
  | _, _, .cons a t => .cons a (paired_snoc h t)
/-- by places -/
theorem paired_of {α β : Type} {R : α → β → Prop} : ∀ {xs : List α} {l : List β}, xs.length = l.length → (∀ (i : Nat) x y, xs[i]? = some x → l[i]? = some y → R x y) → Paired R xs l
  | [], [], _, _ => .nil
  | [], _ :: _, h, _ => by cases h
  | _ :: _, [], h, _ => by cases h
  | x :: xs, y :: l, h, e => .cons (e 0 x y rfl rfl) (paired_of (Nat.succ.inj h) fun i a b ha hb => e (i + 1) a b ha hb)
theorem map_at {α β : Type} {f : α → β} {l : List α} {i : Nat} {v : β} (h : (l.map f)[i]? = some v) : ∃ d, l[i]? = some d ∧ v = f d := by
  rw [List.getElem?_map] at h
  cases e : l[i]? with
  | none => rw [e] at h; cases h
  | some d => rw [e] at h; exact ⟨d, rfl, (Option.some.inj h).symm⟩
theorem at_map {α β : Type} {f : α → β} {l : List α} {i : Nat} {d : α} (h : l[i]? = some d) : (l.map f)[i]? = some (f d) := by
  rw [List.getElem?_map, h]
  rfl
theorem at_getD {α : Type} {l : List α} {i : Nat} (h : i < l.length) (d : α) : l[i]? = some (l.getD i d) := by
  rw [List.getD_eq_getElem?_getD, List.getElem?_eq_getElem h]
  rfl
theorem getD_of {α : Type} {l : List α} {i : Nat} {x : α} (h : l[i]? = some x) (d : α) : l.getD i d = x := by
  rw [List.getD_eq_getElem?_getD, h]
  rfl
/-! ### data -/
def dI (k : List Int) : PyData := .tuple (k.map .int)
def dR (l : List (List Int)) : PyData := .tuple (l.map dI)
theorem lay_ints : ∀ k : List Int, PyData.canLayAll0 (k.map .int) = true
  | [] => by simp [PyData.canLayAll0]
  | x :: k => by
    rw [List.map_cons]
    simp only [PyData.canLayAll0, PyData.canLay0, lay_ints k, Bool.and_self]
theorem lay_rows : ∀ l : List (List Int), PyData.canLayAll0 (l.map dI) = true
  | [] => by simp [PyData.canLayAll0]
  | e :: l => by
    rw [List.map_cons]
    simp only [PyData.canLayAll0, dI, PyData.canLay0, lay_ints, lay_rows l, Bool.and_self]
theorem dep_ints : ∀ k : List Int, PyData.depthAll (k.map .int) = 0
  | [] => by simp [PyData.depthAll]
  | x :: k => by
    rw [List.map_cons]
    simp [PyData.depthAll, PyData.depth, dep_ints k]
theorem dep_rows : ∀ l : List (List Int), PyData.depthAll (l.map dI) ≤ 1
  | [] => by simp [PyData.depthAll]
  | e :: l => by
    have := dep_rows l
    rw [List.map_cons]
    simp only [PyData.depthAll, dI, PyData.depth, dep_ints]
    omega
theorem shaped_I (k : List Int) : SeqAt.shaped (dI k) = true := by
  unfold SeqAt.shaped dI
  simp only [PyData.canLay0, lay_ints, PyData.depth, dep_ints]
  decide
theorem shaped_R (l : List (List Int)) : SeqAt.shaped (dR l) = true := by
  unfold SeqAt.shaped
  have := dep_rows l
  have e : (dR l).canLay0 = true := by unfold dR; simp only [PyData.canLay0, lay_rows]
  rw [e, Bool.true_and, decide_eq_true_eq]
  unfold dR
  simp only [PyData.depth]
  omega
theorem eqvAll_ints : ∀ a b : List Int, PyData.eqvAll (a.map .int) (b.map .int) = decide (a = b)
  | [], [] => by simp [PyData.eqvAll]
  | [], _ :: _ => by simp [PyData.eqvAll]
  | _ :: _, [] => by simp [PyData.eqvAll]
  | x :: a, y :: b => by
    rw [List.map_cons, List.map_cons]
    simp only [PyData.eqvAll, PyData.eqv, eqvAll_ints a b, List.cons.injEq]
    by_cases e : x = y <;> by_cases f : a = b <;> simp [e, f]
theorem eqv_I (a b : List Int) : PyData.eqv (dI a) (dI b) = decide (a = b) := by
  unfold dI
  simp only [PyData.eqv, eqvAll_ints]
theorem eqvAll_rows : ∀ a b : List (List Int), PyData.eqvAll (a.map dI) (b.map dI) = decide (a = b)
  | [], [] => by simp [PyData.eqvAll]
  | [], _ :: _ => by simp [PyData.eqvAll]
  | _ :: _, [] => by simp [PyData.eqvAll]
  | x :: a, y :: b => by
    rw [List.map_cons, List.map_cons]
    simp only [PyData.eqvAll, eqv_I, eqvAll_rows a b, List.cons.injEq]
    by_cases e : x = y <;> by_cases f : a = b <;> simp [e, f]
theorem eqv_R (a b : List (List Int)) : PyData.eqv (dR a) (dR b) = decide (a = b) := by
  unfold dR
  simp only [PyData.eqv, eqvAll_rows]
theorem dp_ints {K : PySem.W.Frag} {H : Hp} : ∀ k : List Int, DpAll K H (k.map V.int) (k.map .int)
  | [] => .nil
  | x :: k => .cons (.int x) (dp_ints k)
theorem dp_I {K : PySem.W.Frag} {H : Hp} {t : Addr} {k : List Int} (h : SqT K H t (k.map V.int)) : Dp K H (.ref t) (dI k) := .tup h (dp_ints k)
/-- x is a tuple of the ints k -/
def TupI (K : PySem.W.Frag) (H : Hp) (x : V) (k : List Int) : Prop := ∃ b, x = .ref b ∧ SqT K H b (k.map V.int)
theorem TupI.more {K : PySem.W.Frag} {H H' : Hp} {x : V} {k : List Int} (m : More H H') (h : TupI K H x k) : TupI K H' x k := let ⟨b, e, s⟩ := h; ⟨b, e, sqT_more m s⟩
theorem dp_rows {K : PySem.W.Frag} {H : Hp} : ∀ {xs : List V} {l : List (List Int)}, Paired (TupI K H) xs l → DpAll K H xs (l.map dI)
  | _, _, .nil => .nil
  | _, _, .cons ⟨b, e, s⟩ t => by subst e; exact .cons (dp_I s) (dp_rows t)
theorem dp_R {K : PySem.W.Frag} {H : Hp} {t : Addr} {xs : List V} {l : List (List Int)} (h : SqT K H t xs) (r : Paired (TupI K H) xs l) : Dp K H (.ref t) (dR l) := .tup h (dp_rows r)
def rTof (K : PySem.W.Frag) : List V → Hp → VK → Prop := fun xs H Q => ∃ p ys, xs = [.ref p] ∧ ((SqL K H p ys ∧ ∀ l, H l = none → Q (.ref l) (upd H l (.tup ys))) ∨ (SqT K H p ys ∧ Q (.ref p) H))
theorem call_tof {X : Cx} {K : PySem.W.Frag} (hK : X.K = K) : CallR X (.type "tuple") (rTof K) := by
  subst hK
  exact call_tuple_of
def rLof (K : PySem.W.Frag) : List V → Hp → VK → Prop := fun xs H Q => ∃ p ys, xs = [.ref p] ∧ (SqL K H p ys ∨ SqT K H p ys) ∧ ∀ l, H l = none → Q (.ref l) (upd H l (.lst ys))
theorem call_lof {X : Cx} {K : PySem.W.Frag} (hK : X.K = K) : CallR X (.type "list") (rLof K) := by
  subst hK
  exact call_list_of
/-! ### comprehensions whose items are new objects -/
theorem lc_rel {J : It} {Z : Hp → Prop} {xs : List V} (w : Walk J xs.length Z (YAt xs)) {n : Nat} {te : TE} {vs : List Nat} {σ : L2.St} {H1 : Hp} {D : Addr} {Qd : Hp → Prop} (R : Nat → V → Hp → Prop)
    (mono : ∀ i v H H', More H H' → R i v H → R i v H') (hD : H1 D = none) (hZ : ∀ H', More H1 H' → Z H') (few : xs.length ≤ 16777215)
    (hw : ∀ y, wipe ((wipe σ vs).set n (some y)) vs = wipe σ vs)
    (el : ∀ (i : Nat) (y : V) (H2 : Hp) (Q : VK), xs[i]? = some y → More H1 H2 → More H1 (del H2 D) → (∃ l, H2 D = some (.lst l)) → (∀ v H3, More H2 H3 → R i v (del H3 D) → Q v H3) → te ((wipe σ vs).set n (some y)) H2 Q)
    (hd : ∀ H' G rs, rs.length = xs.length → More H1 G → More G H' → G D = none → (∀ (i : Nat) v, rs[i]? = some v → R i v G) → H' D = some (.lst rs) → Qd H') :
    ∃ W : Nat → Nat → Hp → Prop, (∃ m, W 0 m (upd H1 D (.lst []))) ∧ ∀ i m H, W i m H →
    (J.stop i H ∧ Qd H) ∨ (J.go i H ∧ ∃ Nx : Hp → Prop, (∀ H', Nx H' → ∃ m', m' < m ∧ W (i + 1) m' H') ∧ ∀ x H', J.yld i H x H' → gName n x (wipe σ vs) H' fun σ2 H2 => wipe σ2 vs = wipe σ vs ∧ tYes σ2 H2 fun b H3 =>
      if b = true then te σ2 H3 fun y H4 => ∃ acc, H4 D = some (.lst acc) ∧ acc.length < sizeLine ∧ Nx (upd H4 D (.lst (acc ++ [y]))) else Nx H3) := by
  have dm : ∀ {H H' : Hp}, More H H' → More (del H D) (del H' D) := fun {H H'} m b o e => by
    by_cases z : b = D
    · rw [z, del_same] at e
      cases e
    · rw [del_ne z] at e ⊢
      exact m b o e
  have d1 : ∀ {H : Hp}, More H1 H → More H1 (del H D) := fun {H} m b o e => by
    rw [del_ne (ne_of_none e hD)]
    exact m b o e
  have dd : ∀ {H : Hp} {o : HO}, del (upd H D o) D = del H D := fun {H o} => by
    funext b
    by_cases z : b = D
    · rw [z, del_same, del_same]
    · rw [del_ne z, del_ne z, upd_ne z]
  refine lc_it (H1 := H1) (D := D) (Qd := Qd) w (fun i H' => ∃ rs, rs.length = i ∧ H' D = some (.lst rs) ∧ More H1 H' ∧ ∀ (j : Nat) v, rs[j]? = some v → R j v (del H' D))
    ⟨[], rfl, upd_same, More.new (fun _ _ e => e) hD, fun j v e => by rw [List.getElem?_nil] at e; cases e⟩ (fun i H' _ h => hZ H' h.choose_spec.2.2.1) ?_ ?_
  · rintro i y H2 H3 hi ⟨rs, rl, h2, m2, al⟩ ⟨rfl, hy⟩
    refine ⟨hw y, el i y H3 (fun v H4 => ∃ acc, H4 D = some (.lst acc) ∧ acc.length < sizeLine ∧ ∃ rs, rs.length = i + 1 ∧ (upd H4 D (.lst (acc ++ [v]))) D = some (.lst rs) ∧ More H1 (upd H4 D (.lst (acc ++ [v]))) ∧ ∀ (j : Nat) x, rs[j]? = some x → R j x (del (upd H4 D (.lst (acc ++ [v]))) D)) hy m2 (d1 m2) ⟨_, h2⟩ fun v H4 m4 r => ?_⟩
    refine ⟨rs, m4 _ _ h2, by rw [sizeLine_eq]; omega, rs ++ [v], by rw [List.length_append, rl]; rfl, upd_same, More.at (fun b o e => m4 b o (m2 b o e)) hD, fun j x hx => ?_⟩
    rw [dd]
    by_cases z : j < rs.length
    · rw [List.getElem?_append_left z] at hx
      exact mono _ _ _ _ (dm m4) (al j x hx)
    · have lt : j < rs.length + 1 := by
        have := (List.getElem?_eq_some_iff.mp hx).1
        rw [List.length_append] at this
        exact this
      have ej : j = rs.length := by omega
      subst ej
      rw [List.getElem?_append_right (Nat.le_refl _), Nat.sub_self] at hx
      cases hx
      rw [rl]
      exact r
  · rintro H' ⟨rs, rl, h2, m2, al⟩
    refine hd H' (del H' D) rs rl (d1 m2) (fun b o e => ?_) del_same al h2
    by_cases z : b = D
    · rw [z, del_same] at e
      cases e
    · rw [del_ne z] at e
      exact e
end B5

namespace L2
open PySem PySem.Spec PyProof.Rows
/-! ### x == y, x != y by an own __eq__ of the class of x -/
section
variable {X : Cx} {CX : CXT} {C f : Addr} {fd : FuncData} {ps : List Str} {sp : Sp} {n : Nat} {E : XK}
def OthT (K : PySem.W.Frag) (H : Hp) (C : Addr) (y : V) (t : Value) : Prop := TyX K H y t ∨ ∃ b dy gs, y = .ref b ∧ H b = some (.ins C dy gs) ∧ t = .ref C
def rOwnE (K : PySem.W.Frag) (C : Addr) (sp : Sp) (E : XK) : R2 := fun x y H Q => ∃ a dx fs t, x = .ref a ∧ H a = some (.ins C dx fs) ∧ OthT K H C y t ∧ PySem.W.notFirst K C t = true ∧ sp [x, y] H Q E
theorem oth_looks {pins : List (Addr × Obj)} {σ : L2.St} {H : Hp} {s : Shared} {y : V} {u t : Value} (I : Inv X pins σ H s) (ry : RelV y u) (o : OthT X.K H C y t) : PySem.W.Looks (model X.prog X.w) s.heap (typeOf u) t := by
  obtain ty | ⟨b, dy, gs, rfl, hb, rfl⟩ := o
  · obtain ⟨P, k, p, _⟩ := kit_of I ry ty
    exact k.ty _ _ I.kIn p
  · cases ry
    obtain ⟨mB, J, _⟩ := ins_get I.hok hb
    obtain ⟨od, J, _⟩ := J.look
    exact J.type
theorem rc_own {op : CmpOp} (hs : PySem.W.findIn X.K (.ref C) (cmpInfo op).2.1 = some (some (.ref f))) (hf : PySem.W.isFn X.K (.ref f) = true) (F : FnR X.prog X.w X.K X.mg X.base CX n f sp)
    (hr : Room n X.A) (hx : Passes CX X E) : OpR X (fun a b => richCompare op a b) (rOwnE X.K C sp E) := by
  intro pins s σ H x y v u Q I rx ry h
  obtain ⟨a, dx, fs, t, rfl, ha, o, hn, q⟩ := h
  cases (show v = Value.ref a from rx)
  obtain ⟨mA, J, _⟩ := ins_get I.hok ha
  obtain ⟨od, J, _⟩ := J.look
  obtain ⟨m, hF⟩ := I.fr
  refine PySem.W.cmp_K (op := op) (tb := t) hr.units0 hF I.ok.mod.kin J (oth_looks I ry o) hn hs hf ?_
  refine wpAny_mono (wpAny_call (run_fnR (us := [.ref a, u]) (vs := [.ref a, y]) F hr hx I (.cons rfl (.cons ry .nil)) q)) (fun w s' z => ?_) fun _ _ x => x
  obtain ⟨z', H', I', rz, qz⟩ := z
  exact SlX.cmpback rz ⟨z', H', I', rz, qz⟩
theorem op_eqOwn (hs : PySem.W.findIn X.K (.ref C) "__eq__" = some (some (.ref f))) (hf : PySem.W.isFn X.K (.ref f) = true) (F : FnOk X.prog X.w X.K X.mg X.base CX n f fd ps sp) (hb : Binds X.K fd ps [])
    (hr : Room n X.A) (hx : Passes CX X E) : OpR X (compareOp .Eq) (rOwnE X.K C sp E) := by
  intro pins s σ H x y v u Q I rx ry h
  have F2 := F.raw (sp := sp) hb .nil
  obtain ⟨a, dx, fs, t, e1, ha, o, hn, q⟩ := h
  exact rc_own (op := .Eq) hs hf F2 hr hx pins s σ H x y v u Q I rx ry ⟨a, dx, fs, t, e1, ha, o, hn, by show sp ([x, y] ++ []) H Q E; rw [List.append_nil]; exact q⟩
end
end L2

/-! Mc: what is asked of a machine. -/
namespace B5
open PySem L2 Gd
/-- a right row of states -/
structure GRow (K : PySem.W.Frag) (H : Hp) (p : Int) (many : Nat) (x : V) (ds : List Int) : Prop where
  ex : ∃ b, x = .ref b ∧ Sq K H b (ds.map V.int)
  len : ((ds.length : Nat) : Int) = p
  ok : ∀ d ∈ ds, 0 ≤ d ∧ d < (many : Int)
theorem GRow.more {K : PySem.W.Frag} {H H' : Hp} {p : Int} {many : Nat} {x : V} {ds : List Int} (m : More H H') (h : GRow K H p many x ds) : GRow K H' p many x ds :=
  ⟨let ⟨b, e, s⟩ := h.ex; ⟨b, e, s.more m⟩, h.len, h.ok⟩
/-- no row of states -/
def NRow (K : PySem.W.Frag) (H : Hp) (p : Int) (many : Nat) (x : V) : Prop := NoSq K H x ∨ ∃ b ys, x = .ref b ∧ Sq K H b ys ∧ Its K H ys ∧
  (ys.all isI = false ∨ ((ys.length : Nat) : Int) ≠ p ∨ ∃ ds : List Int, ys = ds.map V.int ∧ ((ds.length : Nat) : Int) = p ∧ ∃ d ∈ ds, ¬ (0 ≤ d ∧ d < (many : Int)))
theorem NRow.more {K : PySem.W.Frag} {H H' : Hp} {p : Int} {many : Nat} {x : V} (m : More H H') (h : NRow K H p many x) : NRow K H' p many x := by
  obtain h | ⟨b, ys, e, s, i, h⟩ := h
  · exact .inl (h.more m)
  · exact .inr ⟨b, ys, e, s.more m, i.more m, h⟩
/-- no row of so many ints -/
def NWor (K : PySem.W.Frag) (H : Hp) (many : Nat) (x : V) : Prop := NoSq K H x ∨ ∃ b ys, x = .ref b ∧ Sq K H b ys ∧ Its K H ys ∧ (ys.all isI = false ∨ ys.length ≠ many)
theorem NWor.more {K : PySem.W.Frag} {H H' : Hp} {many : Nat} {x : V} (m : More H H') (h : NWor K H many x) : NWor K H' many x := by
  obtain h | ⟨b, ys, e, s, i, h⟩ := h
  · exact .inl (h.more m)
  · exact .inr ⟨b, ys, e, s.more m, i.more m, h⟩
def inD (p : Int) : V → Bool
  | .int d => decide (0 ≤ d ∧ d < p)
  | _ => false
theorem inD_all {p : Int} {ds : List Int} (h : ∀ d ∈ ds, 0 ≤ d ∧ d < p) : (ds.map V.int).all (inD p) = true := by
  rw [List.all_map, List.all_eq_true]
  intro d hd
  exact decide_eq_true (h d hd)
open ZipG in
theorem Sq.src {K : PySem.W.Frag} {H : Hp} {a : Addr} {xs : List V} (h : Sq K H a xs) : ∃ S : Src, S.v = .ref a ∧ ∀ H', Kept a H H' → S.has K xs H' := by
  rcases h with h | h
  · exact ⟨.l a, rfl, fun H' k => k.sqL h⟩
  · exact ⟨.t a, rfl, fun H' k => k.sqT h⟩
theorem any_not {α β : Type} (f : α → β → Bool) : ∀ (l : List α) (m : List β), (List.zipWith (fun a b => !f a b) l m).any id = !(List.zipWith f l m).all id
  | [], _ => by simp
  | _ :: _, [] => by simp
  | a :: l, b :: m => by
    rw [List.zipWith_cons_cons, List.zipWith_cons_cons, List.any_cons, List.all_cons, any_not f l m]
    cases f a b <;> simp
theorem zip_at {α β γ : Type} {f : α → β → γ} {l : List α} {m : List β} {i : Nat} {a : α} {b : β} (h1 : l[i]? = some a) (h2 : m[i]? = some b) : (List.zipWith f l m)[i]? = some (f a b) := by
  rw [List.getElem?_zipWith, h1, h2]
/-- a zero changes no worth -/
def stdy (dss : List (List Int)) (ws : List Int) : Bool := (List.zipWith (fun ds (w : Int) => decide (w = ws.getD (ds.getD 0 0).toNat 0)) dss ws).all id
def RUn (CU : Addr) (what : Str) (H : Hp) (E : XK) : Prop := ∀ d, H d = none → E (.ref CU) (some d) (upd H d (.xd [("what", .str what)]))
def spCM0 (K : PySem.W.Frag) (CN CR CU : Addr) : Sp := fun vs H Q E => ∃ x y z, vs = [x, y, z] ∧ ((BadP K H x ∧ RNum CN "p" x H E) ∨
  ∃ (p : Int) (a : Addr) (xs : List V), x = .int p ∧ isPr p = true ∧ y = .ref a ∧ Sq K H a xs ∧ xs.length ≤ 1000 ∧
    ((xs = [] ∧ RNum CN "states" (.int 0) H E) ∨
    (xs ≠ [] ∧ ∃ (i : Nat) (x0 : V), xs[i]? = some x0 ∧ NRow K H p xs.length x0 ∧ (∀ j y, j < i → xs[j]? = some y → ∃ ds, GRow K H p xs.length y ds) ∧ ∀ H', More H H' → RRow CR x0 H' E) ∨
    (xs ≠ [] ∧ ∃ dss : List (List Int), Paired (GRow K H p xs.length) xs dss ∧
      ((NWor K H xs.length z ∧ ∀ H', More H H' → RRow CR z H' E) ∨
      ∃ (b : Addr) (ws : List Int), z = .ref b ∧ Sq K H b (ws.map V.int) ∧ ws.length = xs.length ∧
        ((stdy dss ws = false ∧ ∀ H', More H H' → RUn CU "zeros" H' E) ∨ (stdy dss ws = true ∧ ∀ H', More H H' → Q .non H'))))))
/-- at a stands the machine of these moves and worths -/
def MAt (K : PySem.W.Frag) (H : Hp) (C a : Addr) (p : Int) (dss : List (List Int)) (ws : List Int) : Prop := ∃ (dx t u : Addr) (xs : List V), H a = some (.ins C dx [("p", .int p), ("moves", .ref t), ("worths", .ref u), ("size", .int (dss.length : Nat))]) ∧
  SqT K H t xs ∧ Paired (TupI K H) xs dss ∧ SqT K H u (ws.map V.int)
theorem MAt.more {K : PySem.W.Frag} {H H' : Hp} {C a : Addr} {p : Int} {dss : List (List Int)} {ws : List Int} (m : More H H') (h : MAt K H C a p dss ws) : MAt K H' C a p dss ws :=
  let ⟨dx, t, u, xs, h1, h2, h3, h4⟩ := h; ⟨dx, t, u, xs, m _ _ h1, sqT_more m h2, paired_imp (fun _ _ r => r.more m) h3, sqT_more m h4⟩
/-- all but what stands at a stays -/
def Off (a : Addr) (H H' : Hp) : Prop := ∀ b o, H b = some o → b ≠ a → H' b = some o
theorem Off.refl {a : Addr} {H : Hp} : Off a H H := fun _ _ e _ => e
theorem Off.trans {a : Addr} {H H1 H2 : Hp} (x : Off a H H1) (y : Off a H1 H2) : Off a H H2 := fun b o e n => y b o (x b o e n) n
theorem Off.of {a : Addr} {H H' : Hp} (m : More H H') : Off a H H' := fun b o e _ => m b o e
theorem Off.upd {a : Addr} {H : Hp} {o : HO} : Off a H (upd H a o) := fun b u e n => by
  rw [upd_ne n]
  exact e
theorem Off.dr {d c : Addr} {n : Int} {H H' : Hp} (h : Drawn H H' d c n) : Off d H H' := fun b o e nb => (h.off b nb).trans e
theorem new_more {H : Hp} {p : Addr} {o : HO} (hp : H p = none) : More H (upd H p o) := More.new (fun _ _ e => e) hp
/-- where an instance or a dict stands, no list or tuple does -/
theorem sqL_off {K : PySem.W.Frag} {a b : Addr} {H H' : Hp} {xs : List V} {o : HO} (ha : H a = some o) (no : ∀ xs, o ≠ .lst xs) (nf : ∀ u v, o ≠ .frz u v) (m : Off a H H') : SqL K H b xs → SqL K H' b xs
  | .inl (.inl h) => .inl (.inl (m _ _ h fun e => by rw [e, ha] at h; exact no _ (Option.some.inj h)))
  | .inl (.inr ⟨u, h⟩) => .inl (.inr ⟨u, m _ _ h fun e => by rw [e, ha] at h; exact nf _ _ (Option.some.inj h)⟩)
  | .inr h => .inr h
theorem sqT_off {K : PySem.W.Frag} {a b : Addr} {H H' : Hp} {xs : List V} {o : HO} (ha : H a = some o) (no : ∀ xs, o ≠ .tup xs) (nf : ∀ u v, o ≠ .frz u v) (m : Off a H H') : SqT K H b xs → SqT K H' b xs
  | .inl (.inl h) => .inl (.inl (m _ _ h fun e => by rw [e, ha] at h; exact no _ (Option.some.inj h)))
  | .inl (.inr ⟨u, h⟩) => .inl (.inr ⟨u, m _ _ h fun e => by rw [e, ha] at h; exact nf _ _ (Option.some.inj h)⟩)
  | .inr h => .inr h
theorem sq_ins {K : PySem.W.Frag} {a b C dx : Addr} {H H' : Hp} {xs : List V} {fs : List (Str × V)} (ha : H a = some (.ins C dx fs)) (m : Off a H H') : Sq K H b xs → Sq K H' b xs
  | .inl h => .inl (sqL_off ha (fun _ e => nomatch e) (fun _ _ e => nomatch e) m h)
  | .inr h => .inr (sqT_off ha (fun _ e => nomatch e) (fun _ _ e => nomatch e) m h)
theorem Off.gone {a b : Addr} {H H' : Hp} (m : Off a H H') (ha : ∃ o, H' a = some o) (h : H' b = none) : H b = none := by
  cases e : H b with
  | none => rfl
  | some o =>
    by_cases z : b = a
    · obtain ⟨u, hu⟩ := ha
      rw [z, hu] at h
      cases h
    · rw [m _ _ e z] at h
      cases h
theorem Off.at {a b : Addr} {H H' : Hp} {o : HO} (m : Off a H H') (h : H b = none) : Off a H (L2.upd H' b o) := fun c u e n => by
  rw [upd_ne (ne_of_none e h)]
  exact m c u e n
theorem Pen.updA {H : Hp} {d c b : Addr} {n : Int} {o : HO} (h : Pen H d c n) (h1 : b ≠ d) (h2 : b ≠ c) : Pen (L2.upd H b o) d c n := h.keep (upd_ne h1.symm) (upd_ne h2.symm)
theorem putK_le (kvs : List (Key × V)) (k : Key) (v : V) : (putK kvs k v).length ≤ kvs.length + 1 := by
  unfold putK
  split
  · rw [List.length_map]
    omega
  · rw [List.length_append]
    exact Nat.le_refl _
/-- all is right for a machine -/
structure MOk (K : PySem.W.Frag) (H : Hp) (x y z : V) (p : Int) (dss : List (List Int)) (ws : List Int) : Prop where
  x_ : x = .int p
  pr : isPr p = true
  y_ : ∃ a xs, y = .ref a ∧ Sq K H a xs ∧ xs.length ≤ 1000 ∧ xs ≠ [] ∧ Paired (GRow K H p xs.length) xs dss
  z_ : ∃ b, z = .ref b ∧ Sq K H b (ws.map V.int)
  len : ws.length = dss.length
  st : stdy dss ws = true
/-- what is no machine, and the error for it -/
def BadM (K : PySem.W.Frag) (CN CR CU : Addr) (x y z : V) (H : Hp) (E : XK) : Prop := (BadP K H x ∧ RNum CN "p" x H E) ∨
  ∃ (p : Int) (a : Addr) (xs : List V), x = .int p ∧ isPr p = true ∧ y = .ref a ∧ Sq K H a xs ∧ xs.length ≤ 1000 ∧
    ((xs = [] ∧ RNum CN "states" (.int 0) H E) ∨
    (xs ≠ [] ∧ ∃ (i : Nat) (x0 : V), xs[i]? = some x0 ∧ NRow K H p xs.length x0 ∧ (∀ j y, j < i → xs[j]? = some y → ∃ ds, GRow K H p xs.length y ds) ∧ ∀ H', More H H' → RRow CR x0 H' E) ∨
    (xs ≠ [] ∧ ∃ dss : List (List Int), Paired (GRow K H p xs.length) xs dss ∧
      ((NWor K H xs.length z ∧ ∀ H', More H H' → RRow CR z H' E) ∨
      ∃ (b : Addr) (ws : List Int), z = .ref b ∧ Sq K H b (ws.map V.int) ∧ ws.length = xs.length ∧ stdy dss ws = false ∧ ∀ H', More H H' → RUn CU "zeros" H' E)))
def spCM (K : PySem.W.Frag) (CN CR CU : Addr) : Sp := fun vs H Q E => ∃ x y z, vs = [x, y, z] ∧ (BadM K CN CR CU x y z H E ∨ ∃ p dss ws, MOk K H x y z p dss ws ∧ ∀ H', More H H' → Q .non H')
theorem spCM.to0 {K : PySem.W.Frag} {CN CR CU : Addr} {vs : List V} {H : Hp} {Q : VK} {E : XK} (h : spCM K CN CR CU vs H Q E) : spCM0 K CN CR CU vs H Q E := by
  obtain ⟨x, y, z, e, c | ⟨p, dss, ws, ⟨e1, pr, ⟨ay, xs, e2, sq, few, ne, hp⟩, ⟨az, e3, sw⟩, lw, st⟩, q⟩⟩ := h
  · refine ⟨x, y, z, e, ?_⟩
    obtain c | ⟨p, a, xs, e1, e2, e3, e4, e5, c⟩ := c
    · exact .inl c
    refine .inr ⟨p, a, xs, e1, e2, e3, e4, e5, ?_⟩
    obtain c | c | ⟨c1, dss, c2, c⟩ := c
    · exact .inl c
    · exact .inr (.inl c)
    refine .inr (.inr ⟨c1, dss, c2, ?_⟩)
    obtain c | ⟨b, ws, c3, c4, c5, c⟩ := c
    · exact .inl c
    · exact .inr ⟨b, ws, c3, c4, c5, .inl c⟩
  · exact ⟨x, y, z, e, .inr ⟨p, ay, xs, e1, pr, e2, sq, few, .inr (.inr ⟨ne, dss, hp, .inr ⟨az, ws, e3, sw, by rw [lw, ← Paired.length hp], .inr ⟨st, q⟩⟩⟩)⟩⟩
def spMI (K : PySem.W.Frag) (C CN CR CU : Addr) : Sp := fun vs H Q E => ∃ a dx x y z, vs = [.ref a, x, y, z] ∧ H a = some (.ins C dx []) ∧ (BadM K CN CR CU x y z H E ∨
  ∃ p dss ws, MOk K H x y z p dss ws ∧ ∀ H', Off a H H' → MAt K H' C a p dss ws → Q .non H')
/-- the kinds of values that are no object of a class of one's own -/
def offOwn : List String := ["int", "bool", "NoneType", "str", "list", "tuple", "dict"]
/-- what is asked of the class -/
structure McC (K : PySem.W.Frag) (mg : Str → Option Value) (C : Addr) : Prop where
  ic : C8.InsC K C
  n1 : NoAttr K C "p"
  n2 : NoAttr K C "moves"
  n3 : NoAttr K C "worths"
  n4 : NoAttr K C "size"
  g : mg "Machine" = some (.ref C)
  no : ∀ n ∈ offOwn, PySem.W.kitOne K (.type n) (.ref C) = some false
theorem MAt.ty {K : PySem.W.Frag} {mg : Str → Option Value} {C a : Addr} (Z : McC K mg C) {H : Hp} {p : Int} {dss : List (List Int)} {ws : List Int} (h : MAt K H C a p dss ws) : TyX K H (.ref a) (.ref C) := by
  obtain ⟨dx, t, u, xs, h1, _⟩ := h
  exact .base (.ins h1 Z.ic.cl Z.ic.ha Z.ic.hn Z.ic.htk Z.ic.hm)
def spMEq (K : PySem.W.Frag) (C : Addr) : Sp := fun vs H Q _ => ∃ a y p dss ws, vs = [.ref a, y] ∧ MAt K H C a p dss ws ∧
  ((∃ n ∈ offOwn, TyX K H y (.type n) ∧ Q (.bl false) H) ∨ ∃ b p2 dss2 ws2, y = .ref b ∧ MAt K H C b p2 dss2 ws2 ∧ Q (.bl (decide (p = p2 ∧ dss = dss2 ∧ ws = ws2))) H)
/-- right rows of states, a worth for each -/
structure MGood (p : Int) (dss : List (List Int)) (ws : List Int) : Prop where
  pr : isPr p = true
  ne : dss ≠ []
  rows : ∀ ds ∈ dss, ((ds.length : Nat) : Int) = p ∧ ∀ d ∈ ds, 0 ≤ d ∧ d < (dss.length : Int)
  len : ws.length = dss.length
  few : dss.length ≤ 1000
/-- the state behind a digit -/
def stepM (dss : List (List Int)) (s : Nat) (d : Int) : Nat := ((dss.getD s []).getD d.toNat 0).toNat
def runM (dss : List (List Int)) (word : List Int) : Nat := word.foldl (stepM dss) 0
theorem MGood.step {p : Int} {dss : List (List Int)} {ws : List Int} (g : MGood p dss ws) {s : Nat} (hs : s < dss.length) {d : Int} (d0 : 0 ≤ d) (d1 : d < p) :
    ∃ ds, dss[s]? = some ds ∧ ds[d.toNat]? = some ((stepM dss s d : Nat) : Int) ∧ stepM dss s d < dss.length := by
  have e := at_getD hs []
  have hm : dss.getD s [] ∈ dss := List.mem_of_getElem? e
  obtain ⟨l, r⟩ := g.rows _ hm
  have lt : d.toNat < (dss.getD s []).length := by omega
  have e2 := at_getD lt 0
  obtain ⟨r0, r1⟩ := r _ (List.mem_of_getElem? e2)
  refine ⟨_, e, ?_, ?_⟩
  · rw [e2]
    unfold stepM
    rw [Int.toNat_of_nonneg r0]
  · unfold stepM
    omega
theorem MGood.run {p : Int} {dss : List (List Int)} {ws : List Int} (g : MGood p dss ws) : ∀ (l : List Int) (s : Nat), s < dss.length → (∀ d ∈ l, 0 ≤ d ∧ d < p) → l.foldl (stepM dss) s < dss.length
  | [], s, hs, _ => hs
  | d :: l, s, hs, h => by
    obtain ⟨_, _, _, lt⟩ := g.step hs (h d (.head _)).1 (h d (.head _)).2
    exact g.run l _ lt fun x hx => h x (.tail _ hx)
def spMAt (K : PySem.W.Frag) (C CN : Addr) : Sp := fun vs H Q E => ∃ a x p dss ws, vs = [.ref a, x] ∧ MAt K H C a p dss ws ∧ MGood p dss ws ∧
  ((∃ n : Nat, x = .int n ∧ n < 2 ^ 400 ∧ ∀ H', More H H' → Q (.int (ws.getD (runM dss (dgs p.toNat n)) 0)) H') ∨ (((∃ i, x = .int i ∧ i < 0) ∨ NoInt K H x) ∧ RNum CN "n" x H E))
def spLd : Sp := fun vs H Q _ => ∃ n p : Nat, vs = [.int n, .int p] ∧ isPr p = true ∧ n < 2 ^ 400 ∧
  ∀ H' l, More H H' → H l = none → H' l = some (.lst ((dgs p n).map V.int)) → Q (.ref l) H'
/-- the state behind a word, told by the law -/
def spLs (K : PySem.W.Frag) : Sp := fun vs H Q _ => ∃ (M L : Addr) (rs : List V) (p : Int) (dss : List (List Int)) (ws l : List Int), vs = [.ref M, .ref L] ∧ SqT K H M rs ∧ Paired (TupI K H) rs dss ∧ MGood p dss ws ∧ SqL K H L (l.map V.int) ∧ (∀ d ∈ l, 0 ≤ d ∧ d < p) ∧ Q (.int (runM dss l : Nat)) H
def spIm (K : PySem.W.Frag) (C : Addr) : Sp := fun vs H Q _ => ∃ (a M W : Addr) (rs : List V) (p : Int) (dss : List (List Int)) (ws : List Int), vs = [.ref a, .int p, .ref M, .ref W] ∧ MAt K H C a p dss ws ∧ SqT K H M rs ∧ Paired (TupI K H) rs dss ∧ SqT K H W (ws.map V.int) ∧ ∀ H', More H H' → Q (.bl true) H'
/-- what the clauses and the fields ask of the three classes -/
structure Cau3 (K : PySem.W.Frag) (CN CR CU : Addr) : Prop where
  nn : PySem.W.exmOne K (.ref CN) (.ref CN) = some true
  rn : PySem.W.exmOne K (.ref CR) (.ref CN) = some false
  rr : PySem.W.exmOne K (.ref CR) (.ref CR) = some true
  un : PySem.W.exmOne K (.ref CU) (.ref CN) = some false
  ur : PySem.W.exmOne K (.ref CU) (.ref CR) = some false
  uu : PySem.W.exmOne K (.ref CU) (.ref CU) = some true
  xn : XfC K CN
  xr : XfC K CR
  xu : XfC K CU
/-- the list that tells an error -/
def ERef3 (CN CR CU : Addr) (Q : VK) : XK := fun cls d H =>
  (cls = .ref CN ∧ ∃ (dd : Addr) (what x : V), d = some dd ∧ H dd = some (.xd [("number", x), ("what", what)]) ∧ ∀ l, H l = none → Q (.ref l) (upd H l (.lst [.str "number", what, x]))) ∨
  (cls = .ref CR ∧ ∃ (dd : Addr) (x : V), d = some dd ∧ H dd = some (.xd [("row", x)]) ∧ ∀ l, H l = none → Q (.ref l) (upd H l (.lst [.str "row", x]))) ∨
  (cls = .ref CU ∧ ∃ (dd : Addr) (x : V), d = some dd ∧ H dd = some (.xd [("what", x)]) ∧ ∀ l, H l = none → Q (.ref l) (upd H l (.lst [.str "unlike", x])))
def TRef3 (CN CR CU : Addr) : (XK → Hp → VK → Prop) → Hp → VK → Prop := fun tl H Q => tl (ERef3 CN CR CU Q) H fun _ H' => ([] : List V).length ≤ sizeLine ∧ ∀ l, H' l = none → Q (.ref l) (upd H' l (.lst []))
end B5

namespace K78
open PySem L2 Gd B5 ZipG
section
variable {P : Program} {w : World} {K : PySem.W.Frag} {mg : Str → Option Value} {base : Heap}
variable {fN CN fR CR fU CU fI fS fW fC f : Addr} {fdN fdR fdU fdI fdS fdW fdC fd : FuncData} {D : Addr}
abbrev sCM : Stmt := top 22
abbrev NCM : List Str := ["p", "moves", "worths", "many", "row", "state", "worth"]
theorem scCM : FnScope NCM ["p", "moves", "worths"] (defScope sCM) := ⟨rfl, rfl, rfl, by decide +kernel, rfl, by decide +kernel, by decide +kernel⟩
theorem ok_cm (F : Fun K "check_machine" "check_machine" sCM f fd) (B : Blt mg) (zAny : mg "any" = none) (zZip : mg "zip" = none) (I : Cl K mg "is_integer" sIsI ["value"] fI fdI) (S : Cl K mg "is_integers" sIsIs ["value"] fS fdS)
    (W : Cl K mg "is_row" sRow ["value", "width"] fW fdW) (C : Cl K mg "check_prime" sCP ["p"] fC fdC)
    (N : Er K mg "BadNumber" "BadNumber.__init__" CN fN ["what", "number"] sBadNumber fdN) (R : Er K mg "BadRow" "BadRow.__init__" CR fR ["row"] sBadRow fdR) (U : Er K mg "Unlike" "Unlike.__init__" CU fU ["what"] sUnlike fdU)
    (gD : mg "PRIMES" = some (.ref D)) (dD : tupI K (.ref D) = some [2, 3, 5, 7]) :
    FnOk P w K mg base (L2.CX P w) 4 f fd ["p", "moves", "worths"] (spCM K CN CR CU) := by
  have GN : FnOk P w K mg base CX0 1 fN fdN ["self", "what", "number"] (spIni CN ["what", "number"]) := okBadNumber N.fn N.T N.no
  have GR : FnOk P w K mg base CX0 1 fR fdR ["self", "row"] (spIni CR ["row"]) := okBadRow R.fn R.T R.no
  have GU : FnOk P w K mg base CX0 1 fU fdU ["self", "what"] (spIni CU ["what"]) := okUnlike U.fn U.T U.no
  have GC : FnOk P w K mg base (L2.CX P w) 3 fC fdC ["p"] (spCP K CN) := ok_cp C.fn B I N gD dD
  have GW : FnOk P w K mg base CX0 3 fW fdW ["value", "width"] (spRow K) := ok_row W.fn B I S
  refine F.okX scCM (fun vs H Q E h => ?_) (fun cdv A outer s H vs Q E hr h => ?_)
  · obtain ⟨x, y, z, rfl, _⟩ := h
    rfl
  · replace h := h.to0
    obtain ⟨x, y, z, rfl, h⟩ := h
    have hr2 : Room 2 _ := hr.mono (by decide)
    refine ⟨_, pss_cons (ps_expr (pe_call GC hr rfl C.g C.k C.b .nil (passes_call (takes_of rfl rfl rfl rfl) (fun _ _ _ _ h => h)) (pa_cons (pv 0) pa_nil)))
      (pss_cons (ps_if (pt_not (pt_truth (pv 1) (by intro _; rfl)))
        (pss_one (ps_raise rfl (takes_of rfl rfl rfl rfl) (pmk_oex N.T N.iC N.tI GN hr2 N.b .nil pass0 rfl N.g (pa_cons pe_str (pa_cons pe_int pa_nil))))) pss_nil)
      (pss_cons (ps_set (i := 3) scCM.nd rfl (Or.inr rfl) (pe_callB call_len_seq (by rfl) B.len_ PySem.boot_len (pa_cons (pv 1) pa_nil)))
      (Evl.pss_cut (ps_for (passes_of rfl) rfl (pi_sq (K := K) rfl (pv 1)) (pg_name (i := 4) scCM.nd rfl (Or.inl rfl))
        (pss_one (ps_if (PW.pt (pw_or (pt_not (pt_val (pe_call GW hr rfl W.g W.k W.b .nil pass0 (pa_cons (pv 4) (pa_cons (pv 0) pa_nil)))))
          (pw_or1 (pt_not (pt_val (pe_callB (cr_all rfl) (by rfl) B.all_ (by decide +kernel) (pa_cons (pe_lc (own := [("state", 5)]) (g := gName 5) (tt := tYes) rfl scCM.nd (pi_sq (K := K) rfl (pv 4))
            (blkOk_by (N := NCM) (sc := defScope sCM) (by decide +kernel))
            (fun _ _ _ _ _ => pg_name (i := 5) scCM.nd rfl (Or.inl rfl)) (fun _ _ _ _ _ => pts_nil)
            (fun _ _ _ _ _ => pe_chain op_le op_lt pe_int (pv 5) (pv 3))) pa_nil)))))))
          (pss_one (ps_raise rfl (takes_of rfl rfl rfl rfl) (pmk_oex R.T R.iC R.tI GR hr2 R.b .nil pass0 rfl R.g (pa_cons (pv 4) pa_nil)))) pss_nil)))
      (pss_cons (ps_if (pt_not (pt_val (pe_call GW hr rfl W.g W.k W.b .nil pass0 (pa_cons (pv 2) (pa_cons (pv 3) pa_nil)))))
        (pss_one (ps_raise rfl (takes_of rfl rfl rfl rfl) (pmk_oex R.T R.iC R.tI GR hr2 R.b .nil pass0 rfl R.g (pa_cons (pv 2) pa_nil)))) pss_nil)
      (pss_one (ps_if (pt_val (pe_callB (cr_any rfl) (by rfl) zAny (by decide +kernel) (pa_cons (pe_lc (own := [("worth", 6), ("row", 4)]) (g := gTup K 2 (gCons (gName 6) (gCons (gName 4) gNil))) (tt := tYes) rfl scCM.nd
            (pi_zipG (by rfl) zZip (pa_cons (pv 2) (pa_cons (pv 1) pa_nil)))
            (blkOk_by (N := NCM) (sc := defScope sCM) (by decide +kernel))
            (fun _ _ _ _ _ => pg_tup rfl (pgs_cons (pg_name (i := 6) scCM.nd rfl (Or.inl rfl)) (pgs_cons (pg_name (i := 4) scCM.nd rfl (Or.inl rfl)) pgs_nil))) (fun _ _ _ _ _ => pts_nil)
            (fun _ _ _ _ _ => pe_cmpR op_ne (pv 6) (pe_ix (r := rIx K) ix_seq (pv 2) (pe_ix (r := rIx K) ix_seq (pv 4) pe_int (fun _ _ => rfl)) (fun _ _ => rfl)) (nomark _))) pa_nil)))
        (pss_one (ps_raise rfl (takes_of rfl rfl rfl rfl) (pmk_oex U.T U.iC U.tI GU hr2 U.b .nil pass0 rfl U.g (pa_cons pe_str pa_nil)))) pss_nil)))))), ?_⟩
    obtain ⟨bad, q⟩ | ⟨p, a, xs, rfl, pr, rfl, sq, few, h⟩ := h
    · exact ⟨_, rfl, _, rfl, .inr ⟨bad, q⟩⟩
    refine ⟨_, rfl, _, rfl, .inl ⟨_, rfl, pr, ?_⟩⟩
    have tru : ∀ k, k = !xs.isEmpty → TruV K (.ref a) H k := fun k e => by
      rcases sq with s | s
      · exact .inl ⟨xs, s, e⟩
      · exact .inr (.inl ⟨xs, s, e⟩)
    -- the test over all states of a row
    have comp : ∀ (b : Addr) (ds : List Int) (J : It) (Z : Hp → Prop) (wk : Walk J (ds.map V.int).length Z (YAt (ds.map V.int))) (H1 : Hp) (hZ : ∀ H', Kept b H1 H' → Z H') (few2 : ds.length ≤ 1000) (D' : Addr) (hD : H1 D' = none) (Zq : Hp → Prop)
        (hq : ∀ H', (∃ bs : List Bool, H' D' = some (.lst (bs.map V.bl)) ∧ bs.all id = (ds.map V.int).all (inD xs.length)) → More H1 H' → Zq H'), _ :=
      fun b ds J Z wk H1 hZ few2 D' hD Zq hq => lc_name (n := 5) (te := tChain (rI0 fun i j => .bl (decide (i ≤ j))) (rI0 fun i j => .bl (decide (i < j))) (tC (.int 0)) (tVar 5) (tVar 3)) (vs := [5])
        (σ := [some (.int p), some (.ref a), some z, some (.int (xs.length : Nat)), some (.ref b), none, none]) (D := D') (rs := (ds.map V.int).map fun y => V.bl (inD xs.length y))
        (Qd := Zq) wk hD (fun H' m => hZ H' (.of m)) (by rw [List.length_map]) (by rw [List.length_map]; omega) (fun _ => rfl)
        (fun i y v H2 Q hy hv m2 q => by
          rw [List.getElem?_map] at hy
          cases e : ds[i]? with
          | none => rw [e] at hy; cases hy
          | some d =>
            rw [e] at hy
            cases hy
            rw [List.getElem?_map, List.getElem?_map, e] at hv
            cases hv
            refine ⟨_, rfl, _, _, rfl, rfl, _, rfl, ite2 (fun h => ⟨_, rfl, _, _, rfl, rfl, ?_⟩) (fun h => ?_)⟩
            · have h := of_decide_eq_true h
              have : decide (d < (xs.length : Int)) = inD xs.length (V.int d) := by
                show _ = decide (0 ≤ d ∧ d < (xs.length : Int))
                rw [decide_eq_decide]
                exact ⟨fun q => ⟨h, q⟩, fun q => q.2⟩
              show Q (V.bl (decide (d < (xs.length : Int)))) H2
              rw [this]
              exact q _ fun _ _ e => e
            · have : false = inD xs.length (V.int d) := by
                show _ = decide (0 ≤ d ∧ d < (xs.length : Int))
                rw [decide_eq_false fun q => h (decide_eq_true q.1)]
              show Q (V.bl false) H2
              rw [this]
              exact q _ fun _ _ e => e)
        (fun H' hl m => hq H' ⟨(ds.map V.int).map (inD xs.length), by rw [List.map_map]; exact hl, by rw [List.all_map]; rfl⟩ m)
    have its : ∀ {y : V} {ds : List Int} {H' : Hp}, GRow K H' p xs.length y ds → ds.length ≤ 1000 := fun {y ds H'} g => by
      have := g.len
      have := (isPr_small pr).2
      omega
    obtain ⟨rfl, q⟩ | ⟨ne, i0, x0, hx0, no, before, q⟩ | ⟨ne, dss, hp, h⟩ := h
    · exact ⟨_, rfl, _, tru _ rfl, iteT (mk_ini rfl (by show 2 ≤ 900; decide) q)⟩
    all_goals
      have e0 : xs.isEmpty = false := by cases xs with | nil => exact absurd rfl ne | cons _ _ => rfl
      refine ⟨_, rfl, _, tru _ rfl, ?_⟩
      rw [e0]
      refine iteF ⟨_, rfl, a, _, rfl, sq, ?_⟩
    · -- a wrong row
      refine ⟨fun _ _ => False, ?_, fun _ _ h => h.elim⟩
      refine ⟨_, rfl, a, xs, rfl, sq, fun J Z wk hZ => for_it wk (fun i σ' H' => i ≤ i0 ∧ ∃ z4, σ' = [some (.int p), some (.ref a), some z, some (.int (xs.length : Nat)), z4, none, none] ∧ More H H')
        ⟨Nat.zero_le _, none, rfl, fun _ _ e => e⟩ (fun i σ' H' _ ⟨_, _, _, m⟩ => hZ H' (.of m)) ?_ (fun σ' H' ⟨h, _⟩ => ?_)⟩
      · rintro i y σ2 H2 H3 hi ⟨le, z4, rfl, m2⟩ ⟨rfl, hy⟩
        by_cases e : i = i0
        · subst e
          rw [hx0] at hy
          cases hy
          obtain no | ⟨b, ys, rfl, sb, it, no⟩ := no.more m2
          · exact ⟨_, rfl, _, rfl, _, _, rfl, .inl ⟨no, fun H' m => ⟨_, rfl, iteT (iteT ⟨_, rfl, mk_ini rfl (by show 1 ≤ 900; decide) (q H' fun b o q => m b o (m2 b o q))⟩)⟩⟩⟩
          · refine ⟨_, rfl, _, rfl, _, _, rfl, .inr ⟨b, ys, rfl, sb, it, fun H' m => ⟨_, rfl, ?_⟩⟩⟩
            cases eb : (ys.all isI && decide (((ys.length : Nat) : Int) = p)) with
            | false => exact iteT (iteT ⟨_, rfl, mk_ini rfl (by show 1 ≤ 900; decide) (q H' fun b o q => m b o (m2 b o q))⟩)
            | true =>
              rw [Bool.and_eq_true, decide_eq_true_eq] at eb
              obtain no | no | ⟨ds, rfl, ld, d, hd, nd⟩ := no
              · rw [no] at eb; cases eb.1
              · exact absurd eb.2 no
              · refine iteF ⟨_, rfl, b, _, rfl, sb.more m, fun J2 Z2 wk2 hZ2 D' hD => comp b ds J2 Z2 wk2 H' hZ2 (by have := (isPr_small pr).2; omega) D' hD _ (fun H5 ⟨bs, h5, eb2⟩ m5 => ⟨D', bs, rfl, SqL.of h5, _, rfl, ?_⟩)⟩
                have : (ds.map V.int).all (inD xs.length) = false := by
                  rw [List.all_eq_false]
                  refine ⟨_, List.mem_map.mpr ⟨d, hd, rfl⟩, ?_⟩
                  show ¬ decide (0 ≤ d ∧ d < (xs.length : Int)) = true
                  rw [decide_eq_false nd]
                  exact Bool.false_ne_true
                rw [eb2, this]
                exact iteT ⟨_, rfl, mk_ini rfl (by show 1 ≤ 900; decide) (q H5 fun b o q => m5 b o (m b o (m2 b o q)))⟩
        · obtain ⟨ds, g⟩ := before i y (by omega) hy
          obtain ⟨b, rfl, sb⟩ := (g.more m2).ex
          refine ⟨_, rfl, _, rfl, _, _, rfl, .inr ⟨b, _, rfl, sb, Its.ints (its g), fun H' m => ⟨_, rfl, ?_⟩⟩⟩
          have yes : ((ds.map V.int).all isI && decide ((((ds.map V.int).length : Nat) : Int) = p)) = true := by
            rw [isI_all, List.length_map, Bool.true_and]
            exact decide_eq_true g.len
          rw [yes]
          refine iteF ⟨_, rfl, b, _, rfl, sb.more m, fun J2 Z2 wk2 hZ2 D' hD => comp b ds J2 Z2 wk2 H' hZ2 (its g) D' hD _ (fun H5 ⟨bs, h5, eb2⟩ m5 => ⟨D', bs, rfl, SqL.of h5, _, rfl, ?_⟩)⟩
          rw [eb2, inD_all g.ok]
          exact iteF ⟨by omega, _, rfl, fun b o q => m5 b o (m b o (m2 b o q))⟩
      · have := (List.getElem?_eq_some_iff.mp hx0).1
        omega
    · -- all rows are right
      refine ⟨fun σ' H' => ∃ z4, σ' = [some (.int p), some (.ref a), some z, some (.int (xs.length : Nat)), z4, none, none] ∧ More H H', ?_, ?_⟩
      · refine ⟨_, rfl, a, xs, rfl, sq, fun J Z wk hZ => for_it wk (fun i σ' H' => ∃ z4, σ' = [some (.int p), some (.ref a), some z, some (.int (xs.length : Nat)), z4, none, none] ∧ More H H')
          ⟨none, rfl, fun _ _ e => e⟩ (fun i σ' H' _ ⟨_, _, m⟩ => hZ H' (.of m)) ?_ (fun σ' H' h => h)⟩
        rintro i y σ2 H2 H3 hi ⟨z4, rfl, m2⟩ ⟨rfl, hy⟩
        · obtain ⟨ds, _, g⟩ := paired_at hp hy
          obtain ⟨b, rfl, sb⟩ := (g.more m2).ex
          refine ⟨_, rfl, _, rfl, _, _, rfl, .inr ⟨b, _, rfl, sb, Its.ints (its g), fun H' m => ⟨_, rfl, ?_⟩⟩⟩
          have yes : ((ds.map V.int).all isI && decide ((((ds.map V.int).length : Nat) : Int) = p)) = true := by
            rw [isI_all, List.length_map, Bool.true_and]
            exact decide_eq_true g.len
          rw [yes]
          refine iteF ⟨_, rfl, b, _, rfl, sb.more m, fun J2 Z2 wk2 hZ2 D' hD => comp b ds J2 Z2 wk2 H' hZ2 (its g) D' hD _ (fun H5 ⟨bs, h5, eb2⟩ m5 => ⟨D', bs, rfl, SqL.of h5, _, rfl, ?_⟩)⟩
          rw [eb2, inD_all g.ok]
          exact iteF ⟨_, rfl, fun b o q => m5 b o (m b o (m2 b o q))⟩
      · rintro σ2 H2 ⟨z4, rfl, m2⟩
        obtain ⟨no, q⟩ | ⟨b, ws, rfl, sw, lw, h⟩ := h
        · obtain no | ⟨b, ys, rfl, sb, it, no⟩ := no.more m2
          · exact ⟨_, rfl, _, rfl, _, _, rfl, .inl ⟨no, fun H' m => ⟨_, rfl, iteT ⟨_, rfl, mk_ini rfl (by show 1 ≤ 900; decide) (q H' fun b o q => m b o (m2 b o q))⟩⟩⟩⟩
          · refine ⟨_, rfl, _, rfl, _, _, rfl, .inr ⟨b, ys, rfl, sb, it, fun H' m => ⟨_, rfl, ?_⟩⟩⟩
            have eb : (ys.all isI && decide (((ys.length : Nat) : Int) = (xs.length : Nat))) = false := by
              obtain no | no := no
              · rw [no, Bool.false_and]
              · rw [decide_eq_false (by omega), Bool.and_false]
            rw [eb]
            exact iteT ⟨_, rfl, mk_ini rfl (by show 1 ≤ 900; decide) (q H' fun b o q => m b o (m2 b o q))⟩
        · refine ⟨_, rfl, _, rfl, _, _, rfl, .inr ⟨b, _, rfl, sw.more m2, Its.ints (by omega), fun H3 m3 => ⟨_, rfl, ?_⟩⟩⟩
          have yes : ((ws.map V.int).all isI && decide ((((ws.map V.int).length : Nat) : Int) = (xs.length : Nat))) = true := by
            rw [isI_all, List.length_map, Bool.true_and]
            exact decide_eq_true (by omega)
          rw [yes]
          have m23 : More H H3 := fun b o q => m3 b o (m2 b o q)
          obtain ⟨S1, e1, h1⟩ := (sw.more m23).src
          obtain ⟨S2, e2, h2⟩ := (sq.more m23).src
          have dl : xs.length = dss.length := Paired.length hp
          refine iteF ⟨_, rfl, _, rfl, S1, S2, ws.map V.int, xs, by rw [e1, e2], h1 _ (fun o z => z), h2 _ (fun o z => z), fun D' hD => ?_⟩
          refine lc_it (H1 := H3) (D := D') (walk_zipG (n := xs.length) (by rw [List.length_map]; omega)) (fun i H' => H' D' = some (.lst (((List.zipWith (fun ds (w : Int) => !decide (w = ws.getD (ds.getD 0 0).toNat 0)) dss ws).take i).map V.bl)) ∧ More H3 H')
            ⟨upd_same, More.new (fun _ _ e => e) hD⟩ (fun i H' _ hh => ⟨h1 _ (.of hh.2), h2 _ (.of hh.2)⟩) ?_ ?_
          · rintro i v H4 H5 hi ⟨k4, m4⟩ ⟨T, u, y, rfl, nT, rfl, hu, hy⟩
            obtain ⟨ds, hds, g⟩ := paired_at hp hy
            obtain ⟨w0, hw, rfl⟩ := map_at hu
            have m5 : More H3 (upd H4 T (.tup [.int w0, y])) := More.new m4 nT
            have nTD : D' ≠ T := ne_of_none k4 nT
            have k5 : (upd H4 T (.tup [.int w0, y])) D' = _ := (upd_ne nTD).trans k4
            obtain ⟨b', rfl, sb⟩ := (g.more (fun b o q => m5 b o (m23 b o q))).ex
            have l0 : 0 < ds.length := by have := g.len; have := (isPr_small pr).1; omega
            have d0 : (ds.map V.int)[0]? = some (.int (ds.getD 0 0)) := at_map (at_getD l0 0)
            have ok0 := g.ok (ds.getD 0 0) (by rw [List.getD_eq_getElem?_getD, List.getElem?_eq_getElem l0]; exact List.getElem_mem l0)
            have lt : (ds.getD 0 0).toNat < ws.length := by omega
            have w1 : (ws.map V.int)[(ds.getD 0 0).toNat]? = some (.int (ws.getD (ds.getD 0 0).toNat 0)) := at_map (at_getD lt 0)
            refine ⟨T, _, rfl, SqT.of upd_same, rfl, _, _, rfl, _, _, rfl, rfl, rfl, ?_⟩
            refine ⟨_, rfl, _, rfl, _, rfl, ix_any sb rfl (j := 0) d0 (ix_any (sw.more (fun b o q => m5 b o (m23 b o q))) (by omega) w1 ⟨rfl, ?_⟩)⟩
            have zb := zip_at (f := fun ds (w : Int) => !decide (w = ws.getD (ds.getD 0 0).toNat 0)) hds hw
            refine ⟨_, k5, ?_, ?_, More.at m5 hD⟩
            · rw [List.length_map, List.length_take, sizeLine_eq]
              omega
            · rw [upd_same, take_snoc zb, List.map_append, deI]
              rfl
          · rintro H4 ⟨k4, m4⟩
            have len : (List.zipWith (fun ds (w : Int) => !decide (w = ws.getD (ds.getD 0 0).toNat 0)) dss ws).length = xs.length := by
              rw [List.length_zipWith]
              omega
            rw [← len, List.take_length] at k4
            refine ⟨D', _, rfl, SqL.of k4, _, rfl, ?_⟩
            rw [any_not]
            obtain ⟨no, q⟩ | ⟨ok, q⟩ := h
            · rw [show (List.zipWith (fun ds (w : Int) => decide (w = ws.getD (ds.getD 0 0).toNat 0)) dss ws).all id = false from no]
              exact iteT (mk_ini rfl (by show 1 ≤ 900; decide) (q H4 fun b o q => m4 b o (m23 b o q)))
            · rw [show (List.zipWith (fun ds (w : Int) => decide (w = ws.getD (ds.getD 0 0).toNat 0)) dss ws).all id = true from ok]
              exact iteF (q H4 fun b o q => m4 b o (m23 b o q))
end
end K78

namespace K78
open PySem L2 Gd B5
section
variable {P : Program} {w : World} {K : PySem.W.Frag} {mg : Str → Option Value} {base : Heap}
variable {CN CR CU C fM f : Addr} {fdM fd : FuncData}
abbrev sMI : Stmt := inClass (top 21) 0
abbrev NMI : List Str := ["self", "p", "moves", "worths", "row"]
theorem scMI : FnScope NMI ["self", "p", "moves", "worths"] (defScope sMI) := ⟨rfl, rfl, rfl, by decide +kernel, rfl, by decide +kernel, by decide +kernel⟩
theorem ok_mi (F : Fun K "__init__" "Machine.__init__" sMI f fd) (B : Blt mg) (M : Cl K mg "check_machine" sCM ["p", "moves", "worths"] fM fdM) (Z : McC K mg C)
    (GM : FnOk P w K mg base (L2.CX P w) 4 fM fdM ["p", "moves", "worths"] (spCM K CN CR CU)) : FnOk P w K mg base (L2.CX P w) 5 f fd ["self", "p", "moves", "worths"] (spMI K C CN CR CU) := by
  refine F.okX scMI (fun vs H Q E h => ?_) (fun cdv A outer s H vs Q E hr h => ?_)
  · obtain ⟨a, dx, x, y, z, rfl, _⟩ := h
    rfl
  · obtain ⟨a, dx, x, y, z, rfl, ha, h⟩ := h
    refine ⟨_, pss_cons (ps_expr (pe_call GM hr rfl M.g M.k M.b .nil (passes_call (takes_of rfl rfl rfl rfl) (fun _ _ _ _ h => h)) (pa_cons (pv 1) (pa_cons (pv 2) (pa_cons (pv 3) pa_nil)))))
      (pss_cons (ps_fld (pv 0) (pv 1) rfl)
      (pss_cons (ps_fld (pv 0) (pe_callTy call_tuple_of (by rfl) B.tup_ (by decide +kernel) (pa_cons (pe_lc (own := [("row", 4)]) (g := gName 4) (tt := tYes) rfl scMI.nd (pi_sq (K := K) rfl (pv 2))
          (blkOk_by (N := NMI) (sc := defScope sMI) (by decide +kernel)) (fun _ _ _ _ _ => pg_name (i := 4) scMI.nd rfl (Or.inl rfl)) (fun _ _ _ _ _ => pts_nil)
          (fun _ _ _ _ _ => pe_callTy (r := rTof K) (call_tof rfl) (by rfl) B.tup_ (by decide +kernel) (pa_cons (pv 4) pa_nil))) pa_nil)) rfl)
      (pss_cons (ps_fld (pv 0) (pe_callTy call_tuple_of (by rfl) B.tup_ (by decide +kernel) (pa_cons (pv 3) pa_nil)) rfl)
      (pss_one (ps_fld (pv 0) (pe_callB call_len_seq (by rfl) B.len_ PySem.boot_len (pa_cons (pe_fld (pv 0) rfl) pa_nil)) rfl))))), ?_⟩
    obtain h | ⟨p, dss, ws, ok, q⟩ := h
    · exact ⟨_, rfl, _, rfl, _, rfl, _, _, _, rfl, .inl h⟩
    refine ⟨_, rfl, _, rfl, _, rfl, _, _, _, rfl, .inr ⟨p, dss, ws, ok, fun H1 m1 => ?_⟩⟩
    obtain ⟨rfl, pr, ⟨ay, xs, rfl, sq, few, ne, hp⟩, ⟨az, rfl, sw⟩, lw, st⟩ := ok
    have dl : xs.length = dss.length := Paired.length hp
    have ha1 := m1 _ _ ha
    refine ⟨_, rfl, _, rfl, a, C, dx, _, rfl, ha1, Z.ic.cl, Z.n1, by show 0 < 1000; decide, ?_⟩
    have o2 : Off a H1 (upd H1 a (.ins C dx (putF "p" (.int p) []))) := Off.upd
    have sq2 := sq_ins ha1 o2 (sq.more m1)
    have ha2 : (upd H1 a (.ins C dx (putF "p" (.int p) []))) a = some (.ins C dx [("p", .int p)]) := upd_same
    generalize upd H1 a (.ins C dx (putF "p" (.int p) [])) = H2 at o2 sq2 ha2 ⊢
    refine ⟨_, rfl, ay, xs, rfl, sq2, fun J W wk hZ D hD => ?_⟩
    refine lc_rel (n := 4) (D := D) (H1 := H2) wk (fun i v H' => ∃ ds, dss[i]? = some ds ∧ TupI K H' v ds) (fun i v H' H'' m ⟨ds, e, t⟩ => ⟨ds, e, t.more m⟩) hD (fun H' m => hZ H' (.of m)) (by omega) (fun _ => rfl) ?_ ?_
    · intro i yv H3 Q3 hy m3 m3' ⟨l0, hl0⟩ q3
      obtain ⟨ds, hds, g⟩ := paired_at hp hy
      obtain ⟨b, rfl, sb⟩ := g.ex
      refine ⟨_, rfl, b, ds.map V.int, rfl, ?_⟩
      rcases sq_ins ha1 o2 (sb.more m1) with s | s
      · refine .inl ⟨Same.seq m3 s, fun l hl => q3 _ _ (new_more hl) ⟨ds, hds, l, rfl, SqT.of ?_⟩⟩
        rw [del_ne (ne_of_none hl0 hl).symm, upd_same]
      · exact .inr ⟨sqT_more m3 s, q3 _ _ (fun _ _ e => e) ⟨ds, hds, b, rfl, sqT_more m3' s⟩⟩
    · intro H3 G rs rl mG mH nG al hD3
      refine ⟨D, rs, rfl, .inl ⟨SqL.of hD3, fun t ht => ?_⟩⟩
      have m3 : More H2 (upd H3 t (.tup rs)) := fun b o e => new_more ht _ _ (mH _ _ (mG _ _ e))
      have pr3 : Paired (TupI K (upd H3 t (.tup rs))) rs dss := paired_of (by omega) fun i x y hx hy => by
        obtain ⟨ds, e, ti⟩ := al i x hx
        rw [hy] at e
        cases e
        exact ti.more fun b o e => new_more ht _ _ (mH _ _ e)
      have t3 : (upd H3 t (.tup rs)) t = some (.tup rs) := upd_same
      have nat : a ≠ t := ne_of_none (mH _ _ (mG _ _ ha2)) ht
      generalize upd H3 t (.tup rs) = H4 at m3 pr3 t3 ⊢
      have ha4 := m3 _ _ ha2
      refine ⟨_, rfl, a, C, dx, _, rfl, ha4, Z.ic.cl, Z.n2, by show 1 < 1000; decide, ?_⟩
      have o5 : Off a H4 (upd H4 a (.ins C dx (putF "moves" (.ref t) [("p", .int p)]))) := Off.upd
      have ha5 : (upd H4 a (.ins C dx (putF "moves" (.ref t) [("p", .int p)]))) a = some (.ins C dx [("p", .int p), ("moves", .ref t)]) := upd_same
      generalize upd H4 a (.ins C dx (putF "moves" (.ref t) [("p", .int p)])) = H5 at o5 ha5 ⊢
      have t5 := o5 _ _ t3 nat.symm
      have pr5 : Paired (TupI K H5) rs dss := paired_imp (fun x y ⟨b, e, s⟩ => ⟨b, e, sqT_off ha4 (fun _ e => nomatch e) (fun _ _ e => nomatch e) o5 s⟩) pr3
      have sw5 : Sq K H5 az (ws.map V.int) := sq_ins ha4 o5 ((sq_ins ha1 o2 (sw.more m1)).more m3)
      have o05 : Off a H H5 := fun b o e n => o5 _ _ (m3 _ _ (o2 _ _ (m1 _ _ e) n)) n
      -- the worths
      have fin : ∀ (u : Addr) (H6 : Hp), More H5 H6 → SqT K H6 u (ws.map V.int) → MAt K (upd (upd H6 a (.ins C dx (putF "worths" (.ref u) [("p", .int p), ("moves", .ref t)]))) a (.ins C dx [("p", .int p), ("moves", .ref t), ("worths", .ref u), ("size", .int (rs.length : Nat))])) C a p dss ws := by
        intro u H6 m6 su
        rw [upd_upd]
        have ha6 := m6 _ _ ha5
        have o7 : Off a H6 (upd H6 a (.ins C dx [("p", .int p), ("moves", .ref t), ("worths", .ref u), ("size", .int (rs.length : Nat))])) := Off.upd
        refine ⟨dx, t, u, rs, ?_, SqT.of (o7 _ _ (m6 _ _ t5) nat.symm), paired_imp (fun x y ⟨b, e, s⟩ => ⟨b, e, sqT_off ha6 (fun _ e => nomatch e) (fun _ _ e => nomatch e) o7 (sqT_more m6 s)⟩) pr5, sqT_off ha6 (fun _ e => nomatch e) (fun _ _ e => nomatch e) o7 su⟩
        rw [upd_same, rl, dl]
      have last : ∀ (u : Addr) (H6 : Hp), More H5 H6 → SqT K H6 u (ws.map V.int) → Q .non (upd (upd H6 a (.ins C dx (putF "worths" (.ref u) [("p", .int p), ("moves", .ref t)]))) a (.ins C dx [("p", .int p), ("moves", .ref t), ("worths", .ref u), ("size", .int (rs.length : Nat))])) := by
        intro u H6 m6 su
        refine q _ (fun b o e n => ?_) (fin u H6 m6 su)
        rw [upd_ne n, upd_ne n]
        exact m6 _ _ (o05 _ _ e n)
      have store : ∀ (u : Addr) (H6 : Hp), More H5 H6 → SqT K H6 u (ws.map V.int) → ∃ p' C' dx' fs, V.ref a = .ref p' ∧ H6 p' = some (.ins C' dx' fs) ∧ True := fun u H6 m6 _ => ⟨_, _, _, _, rfl, m6 _ _ ha5, trivial⟩
      have ht7 : ∀ (u : Addr) (H6 : Hp), More H5 H6 → SqT K (upd H6 a (.ins C dx (putF "worths" (.ref u) [("p", .int p), ("moves", .ref t)]))) t rs := fun u H6 m6 => SqT.of (by rw [upd_ne nat.symm]; exact m6 _ _ t5)
      rcases sw5 with s | s
      · refine ⟨_, rfl, az, ws.map V.int, rfl, .inl ⟨s, fun u hu => ?_⟩⟩
        have m6 := new_more (o := .tup (ws.map V.int)) hu
        have su : SqT K (upd H5 u (.tup (ws.map V.int))) u (ws.map V.int) := SqT.of upd_same
        generalize upd H5 u (.tup (ws.map V.int)) = H6 at m6 su ⊢
        refine ⟨_, rfl, a, C, dx, _, rfl, m6 _ _ ha5, Z.ic.cl, Z.n3, by show 2 < 1000; decide, ?_⟩
        exact ⟨_, rfl, a, C, dx, _, _, rfl, upd_same, Z.ic.cl, Z.n2, rfl, t, _, rfl, .inr (ht7 u H6 m6), _, rfl, a, C, dx, _, rfl, upd_same, Z.ic.cl, Z.n4, by show 3 < 1000; decide, last u H6 m6 su⟩
      · refine ⟨_, rfl, az, ws.map V.int, rfl, .inr ⟨s, ?_⟩⟩
        refine ⟨_, rfl, a, C, dx, _, rfl, ha5, Z.ic.cl, Z.n3, by show 2 < 1000; decide, ?_⟩
        exact ⟨_, rfl, a, C, dx, _, _, rfl, upd_same, Z.ic.cl, Z.n2, rfl, t, _, rfl, .inr (ht7 az H5 (fun _ _ e => e)), _, rfl, a, C, dx, _, rfl, upd_same, Z.ic.cl, Z.n4, by show 3 < 1000; decide, last az H5 (fun _ _ e => e) s⟩
end
end K78

namespace K78
open PySem L2 Gd B5
section
variable {P : Program} {w : World} {K : PySem.W.Frag} {mg : Str → Option Value} {base : Heap}
variable {CN C fI fN fD f : Addr} {fdI fdN fdD fd : FuncData}
abbrev sME : Stmt := inClass (top 21) 1
abbrev sMA : Stmt := inClass (top 21) 2
theorem scME : FnScope ["self", "other"] ["self", "other"] (defScope sME) := ⟨rfl, rfl, rfl, by decide +kernel, rfl, by decide +kernel, by decide +kernel⟩
theorem scMA : FnScope ["self", "n", "state", "digit"] ["self", "n"] (defScope sMA) := ⟨rfl, rfl, rfl, by decide +kernel, rfl, by decide +kernel, by decide +kernel⟩
theorem ok_me (F : Fun K "__eq__" "Machine.__eq__" sME f fd) (B : Blt mg) (Z : McC K mg C) : FnOk P w K mg base CX0 1 f fd ["self", "other"] (spMEq K C) := by
  refine F.ok scME (fun vs H Q E h => ?_) (fun cdv A outer s H vs Q E hr h => ?_)
  · obtain ⟨a, y, p, dss, ws, rfl, _⟩ := h
    rfl
  · obtain ⟨a, y, p, dss, ws, rfl, ⟨dx, t, u, xs, h1, h2, h3, h4⟩, h⟩ := h
    have hu64 := hr.units
    refine ⟨_, pss_one (ps_ret (pe_and (pe_callB call_isi (by rfl) B.isi_ (by decide +kernel) (pa_cons (pv 1) (pa_cons (pe_glob (v := .ref C) rfl Z.g rfl) pa_nil)))
      (pe_and (pe_cmpR op_eq (pe_fld (pv 0) rfl) (pe_fld (pv 1) rfl) (nomark _))
      (pe_and (pe_cmpR (op_eqD hu64) (pe_fld (pv 0) rfl) (pe_fld (pv 1) rfl) (nomark _))
      (pe_one (pe_cmpR (op_eqD hu64) (pe_fld (pv 0) rfl) (pe_fld (pv 1) rfl) (nomark _))))))), ?_⟩
    obtain ⟨n, hn, ty, q⟩ | ⟨b, p2, dss2, ws2, rfl, mb, q⟩ := h
    · exact ⟨_, rfl, y, .ref C, _, _, _, rfl, .own C, ty, Z.no n hn, _, rfl, iteF q⟩
    · have ty := mb.ty Z
      obtain ⟨dx2, t2, u2, xs2, k1, k2, k3, k4⟩ := mb
      refine ⟨_, rfl, _, .ref C, _, _, _, rfl, .own C, ty, Z.ic.me, _, rfl, iteT ?_⟩
      refine ⟨_, rfl, a, C, dx, _, _, rfl, h1, Z.ic.cl, Z.n1, rfl, _, rfl, b, C, dx2, _, _, rfl, k1, Z.ic.cl, Z.n1, rfl, rfl, _, rfl, ?_⟩
      rw [deI]
      by_cases e1 : p = p2
      · rw [decide_eq_true e1]
        refine iteT ⟨_, rfl, a, C, dx, _, _, rfl, h1, Z.ic.cl, Z.n2, rfl, _, rfl, b, C, dx2, _, _, rfl, k1, Z.ic.cl, Z.n2, rfl, _, _, dp_R h2 h3, dp_R k2 k3, shaped_R _, shaped_R _, _, rfl, ?_⟩
        rw [eqv_R]
        by_cases e2 : dss = dss2
        · rw [decide_eq_true e2]
          refine iteT ⟨_, rfl, a, C, dx, _, _, rfl, h1, Z.ic.cl, Z.n3, rfl, _, rfl, b, C, dx2, _, _, rfl, k1, Z.ic.cl, Z.n3, rfl, _, _, dp_I h4, dp_I k4, shaped_I _, shaped_I _, ?_⟩
          rw [eqv_I]
          have : decide (ws = ws2) = decide (p = p2 ∧ dss = dss2 ∧ ws = ws2) := by
            rw [decide_eq_decide]
            exact ⟨fun z => ⟨e1, e2, z⟩, fun z => z.2.2⟩
          rw [this]
          exact q
        · rw [decide_eq_false e2]
          rw [decide_eq_false fun z => e2 z.2.1] at q
          exact iteF q
      · rw [decide_eq_false e1]
        rw [decide_eq_false fun z => e1 z.1] at q
        exact iteF q
theorem ok_ma (F : Fun K "at" "Machine.at" sMA f fd) (B : Blt mg) (Z : McC K mg C) (I : Cl K mg "is_integer" sIsI ["value"] fI fdI) (Dg : Cl K mg "digits" sDg ["n", "p"] fD fdD)
    (N : Er K mg "BadNumber" "BadNumber.__init__" CN fN ["what", "number"] sBadNumber fdN) (GD : FnOk P w K mg base (L2.CX P w) 4 fD fdD ["n", "p"] (spDg K CN)) : FnOk P w K mg base (L2.CX P w) 5 f fd ["self", "n"] (spMAt K C CN) := by
  have GI : FnOk P w K mg base CX0 1 fI fdI ["value"] (spIsI K) := ok_isI I.fn B.isi_ B.int_ B.bool_
  have GN : FnOk P w K mg base CX0 1 fN fdN ["self", "what", "number"] (spIni CN ["what", "number"]) := okBadNumber N.fn N.T N.no
  refine F.okX scMA (fun vs H Q E h => ?_) (fun cdv A outer s H vs Q E hr h => ?_)
  · obtain ⟨a, x, p, dss, ws, rfl, _⟩ := h
    rfl
  · obtain ⟨a, x, p, dss, ws, rfl, ma, g, h⟩ := h
    have hr1 : Room 1 _ := hr.mono (by decide)
    have hr2 : Room 2 _ := hr.mono (by decide)
    refine ⟨_, pss_cons (ps_if (PW.pt (pw_or (pt_not (pt_val (pe_call GI hr1 rfl I.g I.k I.b .nil pass0 (pa_cons (pv 1) pa_nil))))
          (pw_or1 (pt_cmpR op_lt (pv 1) pe_int (nomark _)))))
        (pss_one (ps_raise rfl (takes_of rfl rfl rfl rfl) (pmk_oex N.T N.iC N.tI GN hr2 N.b .nil pass0 rfl N.g (pa_cons pe_str (pa_cons (pv 1) pa_nil))))) pss_nil)
      (pss_cons (ps_set (i := 2) scMA.nd rfl (Or.inl rfl) pe_int)
      (pss_cons (ps_for (passes_of rfl) rfl (pi_sq (K := K) rfl (pe_call GD hr rfl Dg.g Dg.k Dg.b .nil (passes_call (takes_of rfl rfl rfl rfl) (fun _ _ _ _ h => h)) (pa_cons (pv 1) (pa_cons (pe_fld (pv 0) rfl) pa_nil)))) (pg_name (i := 3) scMA.nd rfl (Or.inl rfl))
        (pss_one (ps_set (i := 2) scMA.nd rfl (Or.inl rfl) (pe_ix ix_seq (pe_ix ix_seq (pe_fld (pv 0) rfl) (pv 2) (fun _ _ => rfl)) (pv 3) (fun _ _ => rfl)))))
      (pss_one (ps_ret (pe_ix ix_seq (pe_fld (pv 0) rfl) (pv 2) (fun _ _ => rfl)))))), ?_⟩
    obtain ⟨n, rfl, big, q⟩ | ⟨⟨i, rfl, neg⟩ | bad, q⟩ := h
    · obtain ⟨p2, p7⟩ := isPr_small g.pr
      obtain ⟨dx, t, u, xs, h1, h2, h3, h4⟩ := id ma
      refine ⟨_, rfl, _, rfl, .inl ⟨_, rfl, _, rfl, iteF ⟨_, rfl, _, _, rfl, rfl, _, rfl, ?_⟩⟩⟩
      rw [show decide ((n : Int) < 0) = false from decide_eq_false (by omega)]
      refine iteF ?_
      have ep : p = (p.toNat : Int) := by omega
      refine ⟨_, rfl, _, rfl, a, C, dx, _, _, rfl, h1, Z.ic.cl, Z.n1, rfl, _, _, rfl, .inl ⟨n, p.toNat, rfl, by rw [← ep], by rw [← ep]; exact g.pr, big, fun H1 tD m1 nD hD => ?_⟩⟩
      refine ⟨tD, _, rfl, .inr (SqT.of hD), fun J W wk hZ => ?_⟩
      have dl : xs.length = dss.length := Paired.length h3
      have digs : ∀ d ∈ dgs p.toNat n, 0 ≤ d ∧ d < p := fun d hd => by
        have := dgs_are (p := p.toNat) (by omega) n n (Nat.le_refl _) d hd
        omega
      have d0 : 0 < dss.length := List.length_pos_iff.mpr g.ne
      refine for_it wk (fun i σ' H' => ∃ z3, σ' = [some (.ref a), some (.int n), some (.int ((((dgs p.toNat n).take i).foldl (stepM dss) 0 : Nat) : Int)), z3] ∧ More H1 H') ⟨none, rfl, fun _ _ e => e⟩ (fun i σ' H' _ ⟨_, _, m⟩ => hZ H' (.of m)) ?_ ?_
      · rintro i y σ2 H2 H3 hi ⟨z3, rfl, m2⟩ ⟨rfl, hy⟩
        obtain ⟨d, hd, rfl⟩ := map_at hy
        obtain ⟨dd0, dd1⟩ := digs d (List.mem_of_getElem? hd)
        have m3 : More H H3 := fun b o e => m2 b o (m1 b o e)
        have lt := g.run ((dgs p.toNat n).take i) 0 d0 fun x hx => digs x (List.mem_of_mem_take hx)
        obtain ⟨ds, e1, e2, e3⟩ := g.step lt dd0 dd1
        obtain ⟨ds', e4, b, e5, sb⟩ : ∃ ds', dss[((dgs p.toNat n).take i).foldl (stepM dss) 0]? = some ds' ∧ TupI K H (xs.getD (((dgs p.toNat n).take i).foldl (stepM dss) 0) .non) ds' := paired_at h3 (at_getD (by omega) _)
        rw [e1] at e4
        cases e4
        refine ⟨_, rfl, a, C, dx, _, _, rfl, m3 _ _ h1, Z.ic.cl, Z.n2, rfl, _, rfl, ix_any (.inr (sqT_more m3 h2)) rfl (at_getD (by omega) .non) ?_⟩
        refine ⟨_, rfl, ?_⟩
        rw [e5]
        refine ix_any (j := d.toNat) (.inr (sqT_more m3 sb)) (by omega) (at_map e2) ⟨some (.int d), ?_, m2⟩
        rw [take_snoc hd, List.foldl_append]
        rfl
      · rintro σ2 H2 ⟨z3, rfl, m2⟩
        rw [List.length_map, List.take_length]
        have m3 : More H H2 := fun b o e => m2 b o (m1 b o e)
        have lt := g.run (dgs p.toNat n) 0 d0 digs
        exact ⟨_, rfl, a, C, dx, _, _, rfl, m3 _ _ h1, Z.ic.cl, Z.n3, rfl, _, rfl, ix_any (.inr (sqT_more m3 h4)) rfl (at_map (at_getD (by rw [g.len]; exact lt) 0)) (q _ m3)⟩
    · refine ⟨_, rfl, _, rfl, .inl ⟨i, rfl, _, rfl, iteF ⟨_, rfl, _, _, rfl, rfl, _, rfl, ?_⟩⟩⟩
      rw [show decide (i < 0) = true from decide_eq_true neg]
      exact iteT ⟨_, rfl, mk_ini rfl (by show 2 ≤ 900; decide) q⟩
    · exact ⟨_, rfl, _, rfl, .inr (.inl ⟨bad, _, rfl, iteT (iteT ⟨_, rfl, mk_ini rfl (by show 2 ≤ 900; decide) q⟩)⟩)⟩
end
end K78

/-! Cnt: how many numbers below a bound lead to a state with a mark: by words of digits, and one by one. -/
namespace B5
def sumN : Nat → (Nat → Int) → Int
  | 0, _ => 0
  | k + 1, g => sumN k g + g k
theorem sumN_congr {g h : Nat → Int} : ∀ (k : Nat), (∀ i, i < k → g i = h i) → sumN k g = sumN k h
  | 0, _ => rfl
  | k + 1, e => by
    show sumN k g + g k = sumN k h + h k
    rw [sumN_congr k fun i hi => e i (by omega), e k (by omega)]
theorem sumN_add (g : Nat → Int) (a : Nat) : ∀ b, sumN (a + b) g = sumN a g + sumN b fun i => g (a + i)
  | 0 => by show sumN a g = sumN a g + 0; omega
  | b + 1 => by
    show sumN (a + b) g + g (a + b) = sumN a g + (sumN b (fun i => g (a + i)) + g (a + b))
    rw [sumN_add g a b]
    omega
theorem sumN_mul (g : Nat → Int) (q : Nat) : ∀ d, sumN (d * q) g = sumN d fun e => sumN q fun m => g (e * q + m)
  | 0 => by rw [Nat.zero_mul]; rfl
  | d + 1 => by
    rw [Nat.succ_mul, sumN_add, sumN_mul g q d]
    rfl
theorem sumN_plus (g h : Nat → Int) : ∀ k, sumN k (fun i => g i + h i) = sumN k g + sumN k h
  | 0 => rfl
  | k + 1 => by
    show sumN k (fun i => g i + h i) + (g k + h k) = (sumN k g + g k) + (sumN k h + h k)
    rw [sumN_plus g h k]
    omega
theorem sumN_times (c : Int) (g : Nat → Int) : ∀ k, sumN k (fun i => c * g i) = c * sumN k g
  | 0 => by show (0 : Int) = c * 0; rw [Int.mul_zero]
  | k + 1 => by
    show sumN k (fun i => c * g i) + c * g k = c * (sumN k g + g k)
    rw [sumN_times c g k, Int.mul_add]
theorem sumN_zero : ∀ k, sumN k (fun _ => 0) = 0
  | 0 => rfl
  | k + 1 => by show sumN k (fun _ => 0) + 0 = 0; rw [sumN_zero k]; rfl
theorem sumN_swap (g : Nat → Nat → Int) (a : Nat) : ∀ b, sumN a (fun i => sumN b fun j => g i j) = sumN b fun j => sumN a fun i => g i j
  | 0 => sumN_zero a
  | b + 1 => by
    show sumN a (fun i => sumN b (fun j => g i j) + g i b) = sumN b (fun j => sumN a fun i => g i j) + sumN a fun i => g i b
    rw [sumN_plus, sumN_swap g a b]
/-! ### rows of numbers -/
def numI (l : List Int) (i : Nat) : Int := l.getD i 0
def dotN (n : Nat) (a b : List Int) : Int := sumN n fun i => numI a i * numI b i
theorem numI_set {l : List Int} {i : Nat} (h : i < l.length) (v : Int) (j : Nat) : numI (l.set i v) j = if j = i then v else numI l j := by
  unfold numI
  rw [List.getD_eq_getElem?_getD, List.getD_eq_getElem?_getD]
  by_cases e : j = i
  · rw [e, List.getElem?_set_self h, if_pos rfl]
    rfl
  · rw [List.getElem?_set_ne (Ne.symm e), if_neg e]
theorem sumN_one (n i : Nat) (h : i < n) (c : Int) : sumN n (fun j => if j = i then c else 0) = c := by
  obtain ⟨k, rfl⟩ : ∃ k, n = i + (1 + k) := ⟨n - i - 1, by omega⟩
  rw [sumN_add, sumN_add, sumN_congr i (h := fun _ => 0) (fun j hj => if_neg (by omega)), sumN_zero, sumN_congr k (h := fun _ => 0) (fun j hj => if_neg (by omega)), sumN_zero]
  show 0 + ((0 + if i + 0 = i then c else 0) + 0) = c
  rw [if_pos (by omega)]
  omega
/-- so many more at a place -/
def addAt (l : List Int) (i : Nat) (x : Int) : List Int := l.set i (numI l i + x)
theorem addAt_len (l : List Int) (i : Nat) (x : Int) : (addAt l i x).length = l.length := by
  unfold addAt
  rw [List.length_set]
theorem dot_addAt {n : Nat} {l : List Int} (hl : l.length = n) {i : Nat} (h : i < n) (x : Int) (f : List Int) : dotN n (addAt l i x) f = dotN n l f + x * numI f i := by
  unfold dotN
  have e : sumN n (fun j => numI (addAt l i x) j * numI f j) = sumN n fun j => numI l j * numI f j + if j = i then x * numI f i else 0 := by
    refine sumN_congr n fun j hj => ?_
    unfold addAt
    rw [numI_set (by omega)]
    by_cases z : j = i
    · rw [if_pos z, if_pos z, z, Int.add_mul]
    · rw [if_neg z, if_neg z, Int.add_zero]
  rw [e, sumN_plus, sumN_one n i h]
def addRow (l : List Int) (ds : List Int) (x : Int) : List Int := ds.foldl (fun f d => addAt f d.toNat x) l
theorem addRow_len (x : Int) : ∀ (ds l : List Int), (addRow l ds x).length = l.length
  | [], l => rfl
  | d :: ds, l => (addRow_len x ds _).trans (addAt_len _ _ _)
theorem addRow_zero : ∀ (ds l : List Int), (∀ d ∈ ds, d.toNat < l.length) → addRow l ds 0 = l
  | [], l, _ => rfl
  | d :: ds, l, h => by
    have e : addAt l d.toNat 0 = l := by
      unfold addAt numI
      have hd := h d (.head _)
      rw [Int.add_zero, List.getD_eq_getElem?_getD, List.getElem?_eq_getElem hd]
      exact List.set_getElem_self hd
    show addRow (addAt l d.toNat 0) ds 0 = l
    rw [e]
    exact addRow_zero ds l fun x hx => h x (.tail _ hx)
def sumL (l : List Int) : Int := l.foldr (· + ·) 0
theorem dot_addRow {n : Nat} (x : Int) (f : List Int) : ∀ (ds l : List Int), l.length = n → (∀ d ∈ ds, d.toNat < n) → dotN n (addRow l ds x) f = dotN n l f + x * sumL (ds.map fun d => numI f d.toNat)
  | [], l, _, _ => by show dotN n l f = dotN n l f + x * 0; rw [Int.mul_zero, Int.add_zero]
  | d :: ds, l, hl, h => by
    show dotN n (addRow (addAt l d.toNat x) ds x) f = dotN n l f + x * (numI f d.toNat + sumL _)
    rw [dot_addRow x f ds _ (by rw [addAt_len, hl]) fun y hy => h y (.tail _ hy), dot_addAt hl (h d (.head _)), Int.mul_add]
    omega
/-! ### a machine -/
/-- the state behind a digit -/
def stp (dss : List (List Int)) (s d : Nat) : Nat := ((dss.getD s []).getD d 0).toNat
structure MSt (p : Nat) (dss : List (List Int)) : Prop where
  ne : 0 < dss.length
  len : ∀ ds ∈ dss, ds.length = p
  ok : ∀ ds ∈ dss, ∀ d ∈ ds, 0 ≤ d ∧ d.toNat < dss.length
theorem MSt.at {p : Nat} {dss : List (List Int)} (M : MSt p dss) {s : Nat} (hs : s < dss.length) : ∃ ds, dss[s]? = some ds ∧ ds ∈ dss ∧ dss.getD s [] = ds ∧ ds.length = p := by
  have e : dss[s]? = some dss[s] := List.getElem?_eq_getElem hs
  exact ⟨_, e, List.mem_of_getElem? e, by rw [List.getD_eq_getElem?_getD, e]; rfl, M.len _ (List.mem_of_getElem? e)⟩
theorem MSt.stp_lt {p : Nat} {dss : List (List Int)} (M : MSt p dss) {s d : Nat} (hs : s < dss.length) (hd : d < p) : stp dss s d < dss.length := by
  obtain ⟨ds, e1, hm, e2, l⟩ := M.at hs
  unfold stp
  rw [e2, List.getD_eq_getElem?_getD, List.getElem?_eq_getElem (by omega)]
  exact (M.ok ds hm _ (List.getElem_mem _)).2
/-- how many words lead to each state with one digit more -/
def onAll (dss : List (List Int)) (ways : List Int) : Nat → List Int
  | 0 => List.replicate dss.length 0
  | s + 1 => addRow (onAll dss ways s) (dss.getD s []) (numI ways s)
theorem onAll_len (dss : List (List Int)) (ways : List Int) : ∀ s, (onAll dss ways s).length = dss.length
  | 0 => List.length_replicate
  | s + 1 => (addRow_len _ _ _).trans (onAll_len dss ways s)
def onW (dss : List (List Int)) (ways : List Int) : List Int := onAll dss ways dss.length
def waysL (dss : List (List Int)) : Nat → List Int
  | 0 => 1 :: List.replicate (dss.length - 1) 0
  | L + 1 => onW dss (waysL dss L)
/-- the marks behind a digit -/
def bh (dss : List (List Int)) (d : Nat) (f : List Int) : List Int := dss.map fun ds => numI f (ds.getD d 0).toNat
theorem bh_len (dss : List (List Int)) (d : Nat) (f : List Int) : (bh dss d f).length = dss.length := List.length_map _
theorem bh_at {dss : List (List Int)} {d : Nat} {f : List Int} {s : Nat} (h : s < dss.length) : numI (bh dss d f) s = numI f (stp dss s d) := by
  have e : dss.getD s [] = dss[s] := by rw [List.getD_eq_getElem?_getD, List.getElem?_eq_getElem h]; rfl
  unfold stp
  rw [e]
  unfold bh
  show (dss.map _).getD s 0 = _
  rw [List.getD_eq_getElem?_getD, List.getElem?_map, List.getElem?_eq_getElem h]
  rfl
theorem sumL_row {p : Nat} {f : List Int} : ∀ {ds : List Int}, ds.length = p → sumL (ds.map fun d => numI f d.toNat) = sumN p fun d => numI f (ds.getD d 0).toNat := by
  intro ds
  induction ds generalizing p with
  | nil => intro h; cases h; rfl
  | cons x ds ih =>
    intro h
    have hp : p = 1 + ds.length := by simp at h; omega
    rw [hp, sumN_add]
    show numI f x.toNat + sumL _ = (0 + numI f x.toNat) + _
    rw [ih rfl, Int.zero_add]
    congr 1
    refine sumN_congr _ fun i hi => ?_
    rw [show 1 + i = i + 1 by omega]
    rfl
theorem dot_onAll {p : Nat} {dss : List (List Int)} (M : MSt p dss) (ways f : List Int) : ∀ s, s ≤ dss.length → dotN dss.length (onAll dss ways s) f = sumN s fun t => numI ways t * sumN p fun d => numI f (stp dss t d)
  | 0, _ => by
    show dotN dss.length (List.replicate dss.length 0) f = 0
    unfold dotN
    rw [sumN_congr _ (h := fun _ => 0), sumN_zero]
    intro i hi
    unfold numI
    rw [List.getD_eq_getElem?_getD, List.getElem?_replicate, if_pos hi]
    exact Int.zero_mul _
  | s + 1, h => by
    obtain ⟨ds, e1, hm, e2, l⟩ := M.at (s := s) (by omega)
    show dotN dss.length (addRow (onAll dss ways s) (dss.getD s []) (numI ways s)) f = _
    rw [e2, dot_addRow _ _ _ _ (onAll_len _ _ _) (fun d hd => (M.ok ds hm d hd).2), dot_onAll M ways f s (by omega), sumL_row l]
    show _ = sumN s _ + numI ways s * sumN p fun d => numI f (stp dss s d)
    congr 2
    refine sumN_congr p fun d hd => ?_
    unfold stp
    rw [e2]
theorem dot_onW {p : Nat} {dss : List (List Int)} (M : MSt p dss) (ways f : List Int) : dotN dss.length (onW dss ways) f = sumN p fun d => dotN dss.length ways (bh dss d f) := by
  unfold onW
  rw [dot_onAll M ways f _ (Nat.le_refl _)]
  unfold dotN
  rw [sumN_swap]
  refine sumN_congr _ fun t ht => ?_
  rw [← sumN_times]
  exact sumN_congr _ fun d hd => by rw [bh_at ht]
/-! ### words -/
/-- n by L digits to the base p -/
def padL (p : Nat) : Nat → Nat → List Nat
  | 0, _ => []
  | L + 1, n => n % p :: padL p L (n / p)
def runS (dss : List (List Int)) (s : Nat) (w : List Nat) : Nat := w.foldl (stp dss) s
theorem runS_app (dss : List (List Int)) (s : Nat) (w : List Nat) (d : Nat) : runS dss s (w ++ [d]) = stp dss (runS dss s w) d := by
  unfold runS
  rw [List.foldl_append]
  rfl
theorem padL_lt {p : Nat} (hp : 0 < p) : ∀ (L n : Nat), ∀ d ∈ padL p L n, d < p
  | 0, _, d, h => nomatch h
  | L + 1, n, d, h => by
    rcases List.mem_cons.mp h with rfl | h
    · exact Nat.mod_lt _ hp
    · exact padL_lt hp L _ d h
theorem runS_lt {p : Nat} {dss : List (List Int)} (M : MSt p dss) : ∀ (w : List Nat) (s : Nat), s < dss.length → (∀ d ∈ w, d < p) → runS dss s w < dss.length
  | [], s, h, _ => h
  | d :: w, s, h, hw => runS_lt M w _ (M.stp_lt h (hw d (.head _))) fun x hx => hw x (.tail _ hx)
theorem padL_top {p : Nat} (hp : 0 < p) : ∀ (L e m : Nat), e < p → m < p ^ L → padL p (L + 1) (e * p ^ L + m) = padL p L m ++ [e]
  | 0, e, m, he, hm => by
    have : m = 0 := by simp at hm; exact hm
    subst this
    show [(e * 1 + 0) % p] = [e]
    rw [Nat.mul_one, Nat.add_zero, Nat.mod_eq_of_lt he]
  | L + 1, e, m, he, hm => by
    have h1 : (e * p ^ (L + 1) + m) % p = m % p := by
      rw [Nat.pow_succ, ← Nat.mul_assoc, Nat.add_comm, Nat.add_mul_mod_self_right]
    have h2 : (e * p ^ (L + 1) + m) / p = e * p ^ L + m / p := by
      rw [Nat.pow_succ, ← Nat.mul_assoc, Nat.add_comm, Nat.add_mul_div_right _ _ hp, Nat.add_comm]
    show (e * p ^ (L + 1) + m) % p :: padL p (L + 1) ((e * p ^ (L + 1) + m) / p) = (m % p :: padL p L (m / p)) ++ [e]
    rw [h1, h2, padL_top hp L e (m / p) he (by rw [Nat.pow_succ] at hm; exact Nat.div_lt_of_lt_mul (by rw [Nat.mul_comm]; exact hm))]
    rfl
/-- the mark of n, told by L digits -/
def mkL (p : Nat) (dss : List (List Int)) (f : List Int) (L n : Nat) : Int := numI f (runS dss 0 (padL p L n))
theorem mkL_top {p : Nat} (hp : 0 < p) {dss : List (List Int)} (M : MSt p dss) (f : List Int) {L e m : Nat} (he : e < p) (hm : m < p ^ L) : mkL p dss f (L + 1) (e * p ^ L + m) = mkL p dss (bh dss e f) L m := by
  unfold mkL
  rw [padL_top hp L e m he hm, runS_app, bh_at (runS_lt M _ _ M.ne (padL_lt hp L m))]
/-- the words of L digits -/
theorem words_all {p : Nat} (hp : 0 < p) {dss : List (List Int)} (M : MSt p dss) : ∀ (L : Nat) (f : List Int), dotN dss.length (waysL dss L) f = sumN (p ^ L) (mkL p dss f L)
  | 0, f => by
    obtain ⟨k, hk⟩ : ∃ k, dss.length = 1 + k := ⟨dss.length - 1, by have := M.ne; omega⟩
    show dotN dss.length (1 :: List.replicate (dss.length - 1) 0) f = 0 + numI f 0
    unfold dotN
    rw [hk, sumN_add, sumN_congr k (h := fun _ => 0), sumN_zero]
    · show (0 + 1 * numI f 0) + 0 = _
      omega
    · intro i hi
      show (1 :: List.replicate (1 + k - 1) (0 : Int)).getD (1 + i) 0 * _ = 0
      rw [Nat.add_comm 1 i, List.getD_cons_succ, List.getD_eq_getElem?_getD, List.getElem?_replicate, if_pos (by omega)]
      exact Int.zero_mul _
  | L + 1, f => by
    show dotN dss.length (onW dss (waysL dss L)) f = _
    rw [dot_onW M, Nat.pow_succ, Nat.mul_comm, sumN_mul]
    refine sumN_congr p fun e he => ?_
    rw [words_all hp M L]
    exact sumN_congr _ fun m hm => (mkL_top hp M f he hm).symm
/-- from the highest digit down -/
def cntD (dss : List (List Int)) : List Nat → List Int → Int
  | [], _ => 0
  | d :: r, f => (sumN d fun e => dotN dss.length (waysL dss r.length) (bh dss e f)) + cntD dss r (bh dss d f)
/-- the number of a word, its highest digit first -/
def valH (p : Nat) : List Nat → Nat
  | [] => 0
  | d :: r => d * p ^ r.length + valH p r
theorem valH_lt {p : Nat} : ∀ (r : List Nat), (∀ d ∈ r, d < p) → valH p r < p ^ r.length
  | [], _ => by show 0 < p ^ 0; rw [Nat.pow_zero]; exact Nat.one_pos
  | d :: r, h => by
    have := valH_lt r fun x hx => h x (.tail _ hx)
    have hd := h d (.head _)
    show d * p ^ r.length + valH p r < p ^ (r.length + 1)
    have : (d + 1) * p ^ r.length ≤ p * p ^ r.length := Nat.mul_le_mul_right _ hd
    rw [Nat.succ_mul] at this
    rw [Nat.pow_succ, Nat.mul_comm (p ^ r.length)]
    omega
theorem cntD_sum {p : Nat} (hp : 0 < p) {dss : List (List Int)} (M : MSt p dss) : ∀ (r : List Nat) (f : List Int), (∀ d ∈ r, d < p) → cntD dss r f = sumN (valH p r) (mkL p dss f r.length)
  | [], f, _ => rfl
  | d :: r, f, h => by
    have hd := h d (.head _)
    have hr := valH_lt r fun x hx => h x (.tail _ hx)
    show _ + cntD dss r (bh dss d f) = sumN (d * p ^ r.length + valH p r) _
    rw [sumN_add, sumN_mul, cntD_sum hp M r _ fun x hx => h x (.tail _ hx)]
    congr 1
    · refine sumN_congr d fun e he => ?_
      rw [words_all hp M]
      exact sumN_congr _ fun m hm => (mkL_top hp M f (by omega) hm).symm
    · exact sumN_congr _ fun m hm => (mkL_top hp M f hd (by omega)).symm
/-! ### digits without zeros at the end -/
def digN (p : Nat) (n : Nat) : List Nat := if h : n = 0 ∨ p < 2 then [] else n % p :: digN p (n / p)
termination_by n
decreasing_by exact Nat.div_lt_self (by omega) (by omega)
theorem digN_zero {p : Nat} : digN p 0 = [] := by
  rw [digN, dif_pos (.inl rfl)]
theorem digN_pos {p n : Nat} (h : 0 < n) (hp : 2 ≤ p) : digN p n = n % p :: digN p (n / p) := by
  rw [digN, dif_neg (by omega)]
/-- a zero behind a word changes no mark -/
def StdF (dss : List (List Int)) (f : List Int) : Prop := ∀ s, s < dss.length → numI f (stp dss s 0) = numI f s
theorem pad_dig {p : Nat} (hp : 2 ≤ p) {dss : List (List Int)} (M : MSt p dss) {f : List Int} (S : StdF dss f) : ∀ (L n s : Nat), n < p ^ L → s < dss.length → numI f (runS dss s (padL p L n)) = numI f (runS dss s (digN p n))
  | 0, n, s, h, hs => by
    have : n = 0 := by simp at h; exact h
    subst this
    rw [digN_zero]
    rfl
  | L + 1, n, s, h, hs => by
    have hd : n / p < p ^ L := Nat.div_lt_of_lt_mul (by rw [Nat.pow_succ, Nat.mul_comm] at h; exact h)
    have ih := pad_dig hp M S L (n / p) _ hd (M.stp_lt hs (Nat.mod_lt n (show 0 < p by omega)))
    refine Eq.trans ih ?_
    by_cases z : n = 0
    · subst z
      rw [Nat.zero_div, digN_zero, Nat.zero_mod]
      exact S s hs
    · rw [digN_pos (n := n) (by omega) hp]
      rfl
/-- how many numbers below n have the mark -/
def cntB (p : Nat) (dss : List (List Int)) (f : List Int) (n : Nat) : Int := sumN n fun i => numI f (runS dss 0 (digN p i))
theorem digN_lt {p : Nat} (hp : 2 ≤ p) : ∀ (k n : Nat), n ≤ k → ∀ d ∈ digN p n, d < p
  | 0, n, h, d, hd => by
    have e : n = 0 := by omega
    rw [e, digN_zero] at hd
    cases hd
  | k + 1, n, h, d, hd => by
    by_cases z : n = 0
    · rw [z, digN_zero] at hd
      cases hd
    · rw [digN_pos (by omega) hp] at hd
      rcases List.mem_cons.mp hd with rfl | hd
      · exact Nat.mod_lt n (by omega)
      · exact digN_lt hp k _ (by have := Nat.div_lt_self (show 0 < n by omega) (show 1 < p by omega); omega) d hd
theorem valH_snoc {p : Nat} (d : Nat) : ∀ (r : List Nat), valH p (r ++ [d]) = valH p r * p + d
  | [] => by show d * p ^ 0 + 0 = 0 * p + d; rw [Nat.pow_zero]; omega
  | e :: r => by
    show e * p ^ (r ++ [d]).length + valH p (r ++ [d]) = (e * p ^ r.length + valH p r) * p + d
    rw [valH_snoc d r, List.length_append]
    show e * p ^ (r.length + 1) + (valH p r * p + d) = _
    rw [Nat.pow_succ, Nat.add_mul, Nat.mul_assoc]
    omega
theorem valH_dig {p : Nat} (hp : 2 ≤ p) : ∀ (k n : Nat), n ≤ k → valH p (digN p n).reverse = n
  | 0, n, h => by
    have e : n = 0 := by omega
    rw [e, digN_zero]
    rfl
  | k + 1, n, h => by
    by_cases z : n = 0
    · rw [z, digN_zero]
      rfl
    · rw [digN_pos (by omega) hp, List.reverse_cons, valH_snoc, valH_dig hp k _ (by have := Nat.div_lt_self (show 0 < n by omega) (show 1 < p by omega); omega)]
      have := Nat.div_add_mod n p
      rw [Nat.mul_comm] at this
      exact this
/-- what is counted by digits is what is counted one by one -/
theorem cntD_B {p : Nat} (hp : 2 ≤ p) {dss : List (List Int)} (M : MSt p dss) {f : List Int} (S : StdF dss f) (n : Nat) : cntD dss (digN p n).reverse f = cntB p dss f n := by
  have lt := digN_lt hp n n (Nat.le_refl _)
  have lt' : ∀ d ∈ (digN p n).reverse, d < p := fun d hd => lt d (List.mem_reverse.mp hd)
  have hv := valH_dig hp n n (Nat.le_refl _)
  have hb := valH_lt _ lt'
  rw [cntD_sum (by omega) M _ _ lt', hv]
  rw [hv] at hb
  exact sumN_congr n fun i hi => pad_dig hp M S _ i 0 (by omega) M.ne
theorem cntB_succ (p : Nat) (dss : List (List Int)) (f : List Int) (n : Nat) : cntB p dss f (n + 1) = cntB p dss f n + numI f (runS dss 0 (digN p n)) := rfl
end B5

/-! Ct: what is asked of counting by a machine. -/
namespace B5
open PySem L2 Gd
theorem MGood.st {p : Int} {dss : List (List Int)} {ws : List Int} (g : MGood p dss ws) : MSt p.toNat dss where
  ne := List.length_pos_iff.mpr g.ne
  len := fun ds h => by have := (g.rows ds h).1; omega
  ok := fun ds h d hd => by have := (g.rows ds h).2 d hd; omega
theorem dgs_dig {p : Nat} (hp : 2 ≤ p) : ∀ (k n : Nat), n ≤ k → dgs p n = (digN p n).map fun d : Nat => (d : Int)
  | 0, n, h => by
    have e : n = 0 := by omega
    rw [e, dgs_zero, digN_zero]
    rfl
  | k + 1, n, h => by
    by_cases z : n = 0
    · rw [z, dgs_zero, digN_zero]
      rfl
    · rw [dgs_pos (by omega) hp, digN_pos (by omega) hp, dgs_dig hp k _ (by have := Nat.div_lt_self (show 0 < n by omega) (show 1 < p by omega); omega)]
      rfl
theorem stepM_stp (dss : List (List Int)) (s d : Nat) : stepM dss s (d : Int) = stp dss s d := by
  unfold stepM stp
  rw [Int.toNat_natCast]
theorem runM_runS (dss : List (List Int)) (l : List Nat) : ∀ s, (l.map fun d : Nat => (d : Int)).foldl (stepM dss) s = runS dss s l := by
  induction l with
  | nil => exact fun _ => rfl
  | cons d l ih =>
    intro s
    rw [List.map_cons, List.foldl_cons, stepM_stp]
    exact ih _
/-- the marks of a value -/
def mkV (v : Int) (ws : List Int) : List Int := ws.map fun w => if w = v then 1 else 0
theorem mkV_at {v : Int} {ws : List Int} {s : Nat} (h : s < ws.length) : numI (mkV v ws) s = if ws.getD s 0 = v then 1 else 0 := by
  unfold numI mkV
  rw [List.getD_eq_getElem?_getD, List.getElem?_map, List.getD_eq_getElem?_getD, List.getElem?_eq_getElem h]
  rfl
/-- marks are 0 or 1 -/
def Bits (n : Nat) (f : List Int) : Prop := f.length = n ∧ ∀ s, 0 ≤ numI f s ∧ numI f s ≤ 1
theorem bits_mk {v : Int} {ws : List Int} : Bits ws.length (mkV v ws) := by
  refine ⟨List.length_map _, fun s => ?_⟩
  rcases Nat.lt_or_ge s ws.length with h | h
  · rw [mkV_at h]
    split <;> omega
  · unfold numI
    rw [List.getD_eq_getElem?_getD, List.getElem?_eq_none (by unfold mkV; rw [List.length_map]; exact h)]
    exact ⟨Int.le_refl _, by decide⟩
theorem bits_bh {dss : List (List Int)} {d : Nat} {f : List Int} {n : Nat} (h : Bits n f) : Bits dss.length (bh dss d f) := by
  refine ⟨bh_len _ _ _, fun s => ?_⟩
  rcases Nat.lt_or_ge s dss.length with z | z
  · rw [bh_at z]
    exact h.2 _
  · unfold numI
    rw [List.getD_eq_getElem?_getD, List.getElem?_eq_none (by rw [bh_len]; exact z)]
    exact ⟨Int.le_refl _, by decide⟩
theorem Bits.mem {n : Nat} {f : List Int} (h : Bits n f) {y : Int} (hy : y ∈ f) : 0 ≤ y ∧ y ≤ 1 := by
  obtain ⟨i, hi⟩ := List.getElem?_of_mem hy
  have := h.2 i
  unfold numI at this
  rw [getD_of hi] at this
  exact this
theorem stdF_mk {p : Int} {dss : List (List Int)} {ws : List Int} (g : MGood p dss ws) (st : stdy dss ws = true) (v : Int) : StdF dss (mkV v ws) := by
  intro s hs
  have e0 := at_getD hs []
  obtain ⟨l, r⟩ := g.rows _ (List.mem_of_getElem? e0)
  have p2 := (isPr_small g.pr).1
  have lt0 : 0 < (dss.getD s []).length := by omega
  have e1 := at_getD lt0 0
  obtain ⟨r0, r1⟩ := r _ (List.mem_of_getElem? e1)
  have lt1 : stp dss s 0 < ws.length := by
    unfold stp
    rw [g.len]
    omega
  have hs' : s < ws.length := by rw [g.len]; exact hs
  rw [mkV_at lt1, mkV_at hs']
  have z : (List.zipWith (fun ds (w : Int) => decide (w = ws.getD (ds.getD 0 0).toNat 0)) dss ws)[s]? = some (decide (ws.getD s 0 = ws.getD (stp dss s 0) 0)) := zip_at e0 (at_getD hs' 0)
  have := List.all_eq_true.mp st _ (List.mem_of_getElem? z)
  have := of_decide_eq_true this
  rw [this]
theorem dotN_sum : ∀ (n : Nat) (xs ys : List Int), xs.length = n → ys.length = n → (List.zipWith (fun a b => a * b) xs ys).sum = dotN n xs ys
  | 0, xs, ys, h1, h2 => by
    rw [List.eq_nil_of_length_eq_zero h1]
    rfl
  | n + 1, x :: xs, y :: ys, h1, h2 => by
    have ih := dotN_sum n xs ys (Nat.succ.inj h1) (Nat.succ.inj h2)
    rw [List.zipWith_cons_cons, List.sum_cons, ih]
    unfold dotN
    rw [show n + 1 = 1 + n by omega, sumN_add]
    show _ = (0 + x * y) + _
    rw [Int.zero_add]
    congr 1
    refine sumN_congr n fun i hi => ?_
    rw [show 1 + i = i + 1 by omega]
    rfl
theorem rep_end {K : PySem.W.Frag} {H : Hp} {l : Addr} {x : V} {k : Int} {n : Nat} {Q : VK} (hl : H l = some (.lst [x])) (e : k = (n : Int)) (few : n ≤ 1000000) (q : ∀ H' p, More H H' → H p = none → H' p = some (.lst (List.replicate n x)) → Q (.ref p) H') :
    rRep (.ref l) (.int k) H Q := by
  subst e
  refine ⟨l, n, [x], rfl, rfl, hl, by omega, by omega, ?_, fun p hp => ?_⟩
  · rw [sizeLine_eq, Int.toNat_natCast, List.length_singleton]
    omega
  · refine q _ p (new_more hp) hp ?_
    rw [upd_same, Int.toNat_natCast, List.flatten_replicate_singleton]
theorem cat_end {K : PySem.W.Frag} {H : Hp} {l m : Addr} {xs ys : List V} {Q : VK} (h1 : H l = some (.lst xs)) (h2 : H m = some (.lst ys)) (few : xs.length + ys.length ≤ 1000000) (q : ∀ H' p, More H H' → H p = none → H' p = some (.lst (xs ++ ys)) → Q (.ref p) H') : rCat (.ref l) (.ref m) H Q :=
  ⟨l, m, xs, ys, rfl, rfl, h1, h2, by rw [sizeLine_eq]; omega, fun p hp => q _ p (new_more hp) hp upd_same⟩
theorem ixN_int {n : Nat} {d : Int} {j : Nat} (e : d = (j : Int)) (h : j < n) : L2.ixN n d = some j := by
  subst e
  exact Evl.ixN_nat h
theorem waysL_len (dss : List (List Int)) (ne : dss ≠ []) : ∀ i, (waysL dss i).length = dss.length
  | 0 => by
    have := List.length_pos_iff.mpr ne
    show (_ :: List.replicate _ _).length = _
    rw [List.length_cons, List.length_replicate]
    omega
  | i + 1 => onAll_len _ _ _
/-- TooLarge(what, x, limit) is raised -/
def RLarge (CL : Addr) (what : Str) (x : V) (lim : Int) (H : Hp) (E : XK) : Prop := ∀ d, H d = none → E (.ref CL) (some d) (upd H d (.xd [("limit", .int lim), ("number", x), ("what", .str what)]))
def spDot (K : PySem.W.Frag) : Sp := fun vs H Q _ => ∃ (a b : Addr) (xs ys : List Int) (n : Nat), vs = [.ref a, .ref b] ∧ Sq K H a (xs.map V.int) ∧ Sq K H b (ys.map V.int) ∧ xs.length = n ∧ ys.length = n ∧ n ≤ 1000 ∧ (∀ y ∈ ys, 0 ≤ y ∧ y ≤ 1) ∧
  ∀ H', More H H' → Q (.int (dotN n xs ys)) H'
def spWon (K : PySem.W.Frag) : Sp := fun vs H Q _ => ∃ (t b : Addr) (xs : List V) (p : Int) (dss : List (List Int)) (ws ways : List Int), vs = [.ref t, .ref b] ∧ SqT K H t xs ∧ Paired (TupI K H) xs dss ∧ MGood p dss ws ∧ H b = some (.lst (ways.map V.int)) ∧ ways.length = dss.length ∧
  ∀ H' l, More H H' → H l = none → H' l = some (.lst ((onW dss ways).map V.int)) → Q (.ref l) H'
/-- the rows of ways -/
def Ways (dss : List (List Int)) (rs : List Addr) (H : Hp) : Prop := ∀ (i : Nat) r, rs[i]? = some r → H r = some (.lst ((waysL dss i).map V.int))
theorem Ways.more {dss : List (List Int)} {rs : List Addr} {H H' : Hp} (m : More H H') (h : Ways dss rs H) : Ways dss rs H' := fun i r e => m _ _ (h i r e)
def spWbd (K : PySem.W.Frag) (C : Addr) : Sp := fun vs H Q _ => ∃ (a : Addr) (p : Int) (dss : List (List Int)) (ws : List Int) (m : Nat), vs = [.ref a, .int m] ∧ MAt K H C a p dss ws ∧ MGood p dss ws ∧ m ≤ 1000 ∧
  ∀ H' l rs, More H H' → H l = none → H' l = some (.lst (rs.map V.ref)) → rs.length = m → Ways dss rs H' → Q (.ref l) H'
def spMks (K : PySem.W.Frag) (C : Addr) : Sp := fun vs H Q _ => ∃ (a : Addr) (v p : Int) (dss : List (List Int)) (ws : List Int), vs = [.ref a, .int v] ∧ MAt K H C a p dss ws ∧ MGood p dss ws ∧
  ∀ H' l, More H H' → H l = none → H' l = some (.lst ((mkV v ws).map V.int)) → Q (.ref l) H'
def spMbh (K : PySem.W.Frag) (C : Addr) : Sp := fun vs H Q _ => ∃ (a b : Addr) (p : Int) (d : Nat) (dss : List (List Int)) (ws f : List Int), vs = [.ref a, .ref b, .int d] ∧ MAt K H C a p dss ws ∧ MGood p dss ws ∧ H b = some (.lst (f.map V.int)) ∧ f.length = dss.length ∧ (d : Int) < p ∧
  ∀ H' l, More H H' → H l = none → H' l = some (.lst ((bh dss d f).map V.int)) → Q (.ref l) H'
def spCf (K : PySem.W.Frag) (CN : Addr) : Sp := fun vs H Q E => ∃ (wh : Str) (x : V) (l : Int), vs = [.str wh, x, .int l] ∧ ((∃ n, x = .int n ∧ l ≤ n ∧ Q .non H) ∨ (((∃ i, x = .int i ∧ i < l) ∨ NoInt K H x) ∧ RNum CN wh x H E))
def spCt (CL : Addr) : Sp := fun vs H Q E => ∃ (wh : Str) (n l : Int), vs = [.str wh, .int n, .int l] ∧ ((n ≤ l ∧ Q .non H) ∨ (l < n ∧ RLarge CL wh (.int n) l H E))
def most60 : Int := 10 ^ 60
/-- how many numbers below n have the value -/
def cntV (p : Int) (dss : List (List Int)) (ws : List Int) (v : Int) (n : Nat) : Int := cntD dss (digN p.toNat n).reverse (mkV v ws)
def spHm (K : PySem.W.Frag) (C CN CL : Addr) : Sp := fun vs H Q E => ∃ (a : Addr) (v p : Int) (x : V) (dss : List (List Int)) (ws : List Int), vs = [.ref a, .int v, x] ∧ MAt K H C a p dss ws ∧ MGood p dss ws ∧
  ((∃ n : Nat, x = .int n ∧ (n : Int) ≤ most60 ∧ ∀ H', More H H' → Q (.int (cntV p dss ws v n)) H') ∨ (((∃ i, x = .int i ∧ i < 0) ∨ NoInt K H x) ∧ RNum CN "below" x H E) ∨ ∃ n, x = .int n ∧ most60 < n ∧ RLarge CL "below" x most60 H E)
def spN1 (K : PySem.W.Frag) : Sp := fun vs H Q _ => ∃ (a : Addr) (p : Nat) (ds : List Int), vs = [.ref a, .int p] ∧ H a = some (.lst (ds.map V.int)) ∧ ds.length ≤ 1000 ∧ isPr p = true ∧ (∀ d ∈ ds, 0 ≤ d ∧ d < (p : Int)) ∧ ∀ H', More H H' → Q (.int (val p ds)) H'
def spNth (K : PySem.W.Frag) (C CN : Addr) : Sp := fun vs H Q E => ∃ (a : Addr) (v : Int) (p : Nat) (x : V) (dss : List (List Int)) (ws : List Int), vs = [.ref a, .int v, x] ∧ MAt K H C a p dss ws ∧ MGood p dss ws ∧ stdy dss ws = true ∧
  ((∃ N : Int, x = .int N ∧ 1 ≤ N ∧ ((cntV p dss ws v (10 ^ 60) < N ∧ ∀ H', More H H' → Q .non H') ∨
      (N ≤ cntV p dss ws v (10 ^ 60) ∧ ∀ (n : Nat) H', More H H' → n < 2 ^ 400 → cntV p dss ws v n = N - 1 → ws.getD (runM dss (dgs p n)) 0 = v → Q (.int n) H'))) ∨
    (((∃ i, x = .int i ∧ i < 1) ∨ NoInt K H x) ∧ RNum CN "number" x H E))
theorem most_nat : most60 = ((10 ^ 60 : Nat) : Int) := by decide +kernel
theorem most_pow : (10 : Int) ^ (60 : Int).toNat = most60 := by decide +kernel
theorem far_lt {n : Nat} (h : (n : Int) ≤ most60) : n < 2 ^ 400 := by
  have e : ((2 ^ 400 : Nat) : Int) > most60 := by decide +kernel
  omega
/-- what is counted is what is counted one by one -/
theorem cntV_B {p : Nat} {dss : List (List Int)} {ws : List Int} (g : MGood p dss ws) (st : stdy dss ws = true) (v : Int) (n : Nat) : cntV p dss ws v n = cntB p dss (mkV v ws) n := by
  have p2 := (isPr_small g.pr).1
  unfold cntV
  rw [Int.toNat_natCast]
  exact cntD_B (p := p) (by omega) (by have := g.st; rw [Int.toNat_natCast] at this; exact this) (stdF_mk g st v) n
theorem mark_at {p : Nat} {dss : List (List Int)} {ws : List Int} (g : MGood p dss ws) (v : Int) (n : Nat) : numI (mkV v ws) (runS dss 0 (digN p n)) = if ws.getD (runM dss (dgs p n)) 0 = v then 1 else 0 := by
  have p2 := (isPr_small g.pr).1
  have M : MSt p dss := by have := g.st; rw [Int.toNat_natCast] at this; exact this
  have lt := runS_lt M (digN p n) 0 M.ne (digN_lt (by omega) n n (Nat.le_refl _))
  have e : runM dss (dgs p n) = runS dss 0 (digN p n) := by
    unfold runM
    rw [dgs_dig (p := p) (by omega) n n (Nat.le_refl _), runM_runS]
  rw [e, mkV_at (by rw [g.len]; exact lt)]
abbrev MB60 : Int := 1000000000000000000000000000000000000000000000000000000000000
theorem MB60_eq : MB60 = most60 := by decide +kernel
end B5

namespace K78
open PySem L2 Gd B5 ZipG
section
variable {P : Program} {w : World} {K : PySem.W.Frag} {mg : Str → Option Value} {base : Heap}
variable {C fW f : Addr} {fdW fd : FuncData}
abbrev sDot : Stmt := top 19
abbrev NDot : List Str := ["one", "other", "a", "b"]
theorem scDot : FnScope NDot ["one", "other"] (defScope sDot) := ⟨rfl, rfl, rfl, by decide +kernel, rfl, by decide +kernel, by decide +kernel⟩
theorem ok_dot (F : Fun K "dot" "dot" sDot f fd) (zSum : mg "sum" = none) (zZip : mg "zip" = none) : FnOk P w K mg base CX0 1 f fd ["one", "other"] (spDot K) := by
  refine F.ok scDot (fun vs H Q E h => ?_) (fun cdv A outer s H vs Q E hr h => ?_)
  · obtain ⟨a, b, xs, ys, n, rfl, _⟩ := h
    rfl
  · obtain ⟨a, b, xs, ys, n, rfl, sa, sb, la, lb, few, bit, q⟩ := h
    refine ⟨_, pss_one (ps_ret (pe_callB (cr_sum rfl) (by rfl) zSum (by decide +kernel) (pa_cons (pe_lc (own := [("a", 2), ("b", 3)]) (g := gTup K 2 (gCons (gName 2) (gCons (gName 3) gNil))) (tt := tYes) rfl scDot.nd
      (pi_zipG (by rfl) zZip (pa_cons (pv 0) (pa_cons (pv 1) pa_nil))) (blkOk_by (N := NDot) (sc := defScope sDot) (by decide +kernel))
      (fun _ _ _ _ _ => pg_tup rfl (pgs_cons (pg_name (i := 2) scDot.nd rfl (Or.inl rfl)) (pgs_cons (pg_name (i := 3) scDot.nd rfl (Or.inl rfl)) pgs_nil))) (fun _ _ _ _ _ => pts_nil)
      (fun _ _ _ _ _ => pe_op op_mul (pv 2) (pv 3))) pa_nil))), ?_⟩
    obtain ⟨S1, e1, h1⟩ := sa.src
    obtain ⟨S2, e2, h2⟩ := sb.src
    refine ⟨_, rfl, _, rfl, S1, S2, xs.map V.int, ys.map V.int, by rw [e1, e2], h1 _ (fun o z => z), h2 _ (fun o z => z), fun D hD => ?_⟩
    refine lc_it (H1 := H) (D := D) (walk_zipG (n := n) (by rw [List.length_map, List.length_map]; omega)) (fun i H' => H' D = some (.lst (((List.zipWith (fun a b => a * b) xs ys).take i).map V.int)) ∧ More H H')
      ⟨upd_same, new_more hD⟩ (fun i H' _ hh => ⟨h1 _ (.of hh.2), h2 _ (.of hh.2)⟩) ?_ ?_
    · rintro i v H2 H3 hi ⟨k2, m2⟩ ⟨T, u, y, rfl, nT, rfl, hu, hy⟩
      obtain ⟨x, hx, rfl⟩ := map_at hu
      obtain ⟨z, hz, rfl⟩ := map_at hy
      have m3 := m2.new (o := .tup [.int x, .int z]) nT
      have k3 : (upd H2 T (.tup [.int x, .int z])) D = _ := (upd_ne (ne_of_none k2 nT)).trans k2
      have bz := bit z (List.mem_of_getElem? hz)
      refine ⟨T, _, rfl, SqT.of upd_same, rfl, _, _, rfl, _, _, rfl, rfl, rfl, ?_⟩
      refine ⟨_, rfl, _, rfl, _, _, rfl, rfl, .inr ⟨by omega, by omega⟩, _, k3, ?_, ?_, More.at m3 hD⟩
      · rw [List.length_map, List.length_take]
        exact small1000 (by omega)
      · rw [upd_same, take_snoc (zip_at (f := fun a b : Int => a * b) hx hz), List.map_append]
        rfl
    · rintro H4 ⟨k4, m4⟩
      have len : (List.zipWith (fun a b : Int => a * b) xs ys).length = n := by
        rw [List.length_zipWith]
        omega
      rw [← len, List.take_length] at k4
      refine ⟨D, _, rfl, SqL.of k4, ?_⟩
      rw [dotN_sum n xs ys la lb]
      exact q _ m4
abbrev sWon : Stmt := top 13
abbrev NWon : List Str := ["moves", "ways", "found", "row", "many", "further"]
theorem scWon : FnScope NWon ["moves", "ways"] (defScope sWon) := ⟨rfl, rfl, rfl, by decide +kernel, rfl, by decide +kernel, by decide +kernel⟩
theorem ok_won (F : Fun K "ways_on" "ways_on" sWon f fd) (B : Blt mg) (zZip : mg "zip" = none) : FnOk P w K mg base CX0 1 f fd ["moves", "ways"] (spWon K) := by
  refine F.ok scWon (fun vs H Q E h => ?_) (fun cdv A outer s H vs Q E hr h => ?_)
  · obtain ⟨t, b, xs, p, dss, ws, ways, rfl, _⟩ := h
    rfl
  · obtain ⟨t, b, xs, p, dss, ws, ways, rfl, st, pr, g, hb, lw, q⟩ := h
    refine ⟨_, pss_cons (ps_set (i := 2) scWon.nd rfl (Or.inl rfl) (pe_op op_rep (pe_lst (pa_cons pe_int pa_nil)) (pe_callB call_len_seq (by rfl) B.len_ PySem.boot_len (pa_cons (pv 0) pa_nil))))
      (pss_cons (ps_for PassesOwn.never rfl (pi_zipG (by rfl) zZip (pa_cons (pv 0) (pa_cons (pv 1) pa_nil)))
          (pg_tup rfl (pgs_cons (pg_name (i := 3) scWon.nd rfl (Or.inl rfl)) (pgs_cons (pg_name (i := 4) scWon.nd rfl (Or.inl rfl)) pgs_nil)))
        (pss_one (ps_if (pt_cmpR op_ne (pv 4) pe_int (nomark _)) (pss_one (ps_for PassesOwn.never rfl (pi_tup (pv 3)) (pg_name (i := 5) scWon.nd rfl (Or.inl rfl))
          (pss_one (ps_asg (pe_op op_add (pe_ix ix_list (pv 2) (pv 5) (fun _ _ => rfl)) (pv 4)) (pg_sub (pv 2) (pv 5) set_list))))) pss_nil)))
      (pss_one (ps_ret (pv 2)))), ?_⟩
    have dl : xs.length = dss.length := Paired.length pr
    have fewd := g.few
    refine ⟨by show 1 ≤ sizeLine; decide, fun o ho => ?_⟩
    have m1 := new_more (o := .lst [V.int 0]) ho
    refine ⟨_, rfl, t, _, rfl, .inr (sqT_more m1 st), rep_end (K := K) upd_same (n := dss.length) (by rw [dl]) (by omega) fun H1 l m2 nl hl => ?_⟩
    have m12 : More H H1 := fun a u e => m2 _ _ (m1 _ _ e)
    have nl0 : H l = none := m1.off nl
    clear m1 m2 nl
    obtain ⟨S1, e1, h1⟩ := (Sq.src (.inr st) : ∃ S : Src, S.v = .ref t ∧ ∀ H', Kept t H H' → S.has K xs H')
    obtain ⟨S2, e2, h2⟩ := (Sq.src (.inl (SqL.of hb)) : ∃ S : Src, S.v = .ref b ∧ ∀ H', Kept b H H' → S.has K (ways.map V.int) H')
    refine ⟨_, rfl, _, rfl, S1, S2, xs, ways.map V.int, by rw [e1, e2], h1 _ (.of m12), h2 _ (.of m12), ?_⟩
    have hl1 : H1 l = some (.lst ((onAll dss ways 0).map V.int)) := by
      rw [hl]
      show _ = some (HO.lst ((List.replicate dss.length (0 : Int)).map V.int))
      rw [List.map_replicate]
    refine for_it (walk_zipG (n := dss.length) (by rw [List.length_map]; omega)) (fun i σ' H' => ∃ z3 z4 z5, σ' = [some (.ref t), some (.ref b), some (.ref l), z3, z4, z5] ∧ H' l = some (.lst ((onAll dss ways i).map V.int)) ∧ More H H')
      ⟨none, none, none, rfl, hl1, m12⟩ (fun i σ' H' _ ⟨_, _, _, _, _, m⟩ => ⟨h1 _ (.of m), h2 _ (.of m)⟩) ?_ ?_
    · rintro i v σ2 H2 H3 hi ⟨z3, z4, z5, rfl, k2, m2⟩ ⟨T, u, y, rfl, nT, rfl, hu, hy⟩
      obtain ⟨x, hx, rfl⟩ := map_at hy
      obtain ⟨ds, hds, ti⟩ := paired_at pr hu
      have m3 := m2.new (o := .tup [u, .int x]) nT
      have k3 : (upd H2 T (.tup [u, .int x])) l = _ := (upd_ne (ne_of_none k2 nT)).trans k2
      generalize eH : upd H2 T (.tup [u, .int x]) = H3 at m3 k3 ⊢
      have hT : SqT K H3 T [u, .int x] := by rw [← eH]; exact SqT.of upd_same
      obtain ⟨c, rfl, sc⟩ := ti.more m3
      obtain ⟨dlen, dok⟩ := g.rows ds (List.mem_of_getElem? hds)
      refine ⟨T, _, rfl, hT, rfl, _, _, rfl, _, _, rfl, rfl, ?_⟩
      refine ⟨_, rfl, rfl, _, rfl, ?_⟩
      have ex : numI ways i = x := by unfold numI; rw [getD_of hx]
      have ed : dss.getD i [] = ds := getD_of hds _
      rw [deI]
      by_cases z : x = 0
      · rw [decide_eq_true z]
        refine iteF ⟨_, _, _, rfl, ?_, m3⟩
        show H3 l = some (.lst ((addRow (onAll dss ways i) (dss.getD i []) (numI ways i)).map V.int))
        rw [ex, ed, z, addRow_zero ds _ fun d hd => by have := dok d hd; rw [onAll_len]; omega]
        exact k3
      · rw [decide_eq_false z]
        refine iteT ⟨_, rfl, c, rfl, ⟨_, sc⟩, ?_⟩
        refine for_it walk_tup (fun j σ' H' => ∃ z5, σ' = [some (.ref t), some (.ref b), some (.ref l), some (.ref c), some (.int x), z5] ∧ H' l = some (.lst ((addRow (onAll dss ways i) (ds.take j) x).map V.int)) ∧ Off l H3 H' ∧ More H H')
          ⟨_, rfl, k3, .refl, m3⟩ (fun j σ' H' _ ⟨_, _, _, m4, _⟩ => sqT_off k3 (fun _ e => nomatch e) (fun _ _ e => nomatch e) m4 sc) ?_ ?_
        · rintro j y σ4 H4 H5 hj ⟨z5, rfl, k4, m4, m5⟩ ⟨rfl, hy2⟩
          obtain ⟨d, hd, rfl⟩ := map_at hy2
          obtain ⟨d0, d1⟩ := dok d (List.mem_of_getElem? hd)
          have lo : (addRow (onAll dss ways i) (ds.take j) x).length = dss.length := by rw [addRow_len, onAll_len]
          have hat := at_map (f := V.int) (at_getD (l := addRow (onAll dss ways i) (ds.take j) x) (i := d.toNat) (by omega) 0)
          refine ⟨_, rfl, _, rfl, l, _, _, _, rfl, rfl, SqL.of k4, at_of (j := d.toNat) (by omega) hat, _, rfl, _, _, rfl, rfl, _, rfl, _, rfl, l, _, d, d.toNat, rfl, rfl, k4, ?_, ?_⟩
          · exact ixN_int (by omega) (by rw [List.length_map]; omega)
          · refine ⟨_, rfl, ?_, fun a o e n => ?_, fun a o e => ?_⟩
            · rw [upd_same, ← List.map_set, take_snoc hd]
              unfold addRow
              rw [List.foldl_append]
              rfl
            · rw [L2.upd_ne n]
              exact m4 _ _ e n
            · rw [upd_ne (ne_of_none e nl0)]
              exact m5 _ _ e
        · rintro σ4 H4 ⟨z5, rfl, k4, m4, m5⟩
          rw [List.length_map, List.take_length] at k4
          refine ⟨_, _, _, rfl, ?_, m5⟩
          show H4 l = some (.lst ((addRow (onAll dss ways i) (dss.getD i []) (numI ways i)).map V.int))
          rw [ex, ed]
          exact k4
    · rintro σ2 H2 ⟨z3, z4, z5, rfl, k2, m2⟩
      exact ⟨_, rfl, q H2 l m2 nl0 k2⟩
abbrev sWbd : Stmt := top 25
theorem scWbd : FnScope ["machine", "many", "ways", "found", "_"] ["machine", "many"] (defScope sWbd) := ⟨rfl, rfl, rfl, by decide +kernel, rfl, by decide +kernel, by decide +kernel⟩
theorem ok_wbd (F : Fun K "ways_by_digits" "ways_by_digits" sWbd f fd) (B : Blt mg) (zZip : mg "zip" = none) (Z : McC K mg C) (W : Cl K mg "ways_on" sWon ["moves", "ways"] fW fdW) : FnOk P w K mg base CX0 2 f fd ["machine", "many"] (spWbd K C) := by
  have GW : FnOk P w K mg base CX0 1 fW fdW ["moves", "ways"] (spWon K) := ok_won W.fn B zZip
  refine F.ok scWbd (fun vs H Q E h => ?_) (fun cdv A outer s H vs Q E hr h => ?_)
  · obtain ⟨a, p, dss, ws, m, rfl, _⟩ := h
    rfl
  · obtain ⟨a, p, dss, ws, m, rfl, ma, g, few, q⟩ := h
    refine ⟨_, pss_cons (ps_set (i := 2) scWbd.nd rfl (Or.inl rfl) (pe_op op_cat (pe_lst (pa_cons pe_int pa_nil)) (pe_op op_rep (pe_lst (pa_cons pe_int pa_nil)) (pe_op op_sub (pe_fld (pv 0) rfl) pe_int))))
      (pss_cons (ps_set (i := 3) scWbd.nd rfl (Or.inl rfl) (pe_lst pa_nil))
      (pss_cons (ps_for PassesOwn.never rfl (pi_range1 (by rfl) B.range_ (pa_cons (pv 1) pa_nil)) (pg_name (i := 4) scWbd.nd rfl (Or.inl rfl))
        (pss_cons (ps_expr (pe_bm PySem.F.plainAttrs_list PySem.F.slot_list_append PySem.F.type_list_append mt_append (pv 3) (pa_cons (pv 2) pa_nil)))
        (pss_one (ps_set (i := 2) scWbd.nd rfl (Or.inl rfl) (pe_call GW hr rfl W.g W.k W.b .nil pass0 (pa_cons (pe_fld (pv 0) rfl) (pa_cons (pv 2) pa_nil)))))))
      (pss_one (ps_ret (pv 3))))), ?_⟩
    obtain ⟨dx, t, u, xs, h1, h2, h3, h4⟩ := id ma
    have fewd := g.few
    have pos := List.length_pos_iff.mpr g.ne
    refine ⟨by show 1 ≤ sizeLine; decide, fun o1 ho1 => ?_⟩
    have m1 := new_more (o := .lst [V.int 1]) ho1
    have k1 : (upd H o1 (.lst [V.int 1])) o1 = some (.lst [V.int 1]) := upd_same
    generalize upd H o1 (.lst [V.int 1]) = H1 at m1 k1 ⊢
    refine ⟨by show 1 ≤ sizeLine; decide, fun o2 ho2 => ?_⟩
    have m2 := new_more (o := .lst [V.int 0]) ho2
    refine ⟨_, rfl, a, C, dx, _, _, rfl, m2 _ _ (m1 _ _ h1), Z.ic.cl, Z.n4, rfl, _, _, rfl, rfl, rep_end (K := K) upd_same (n := dss.length - 1) (by omega) (by omega) fun H2 o3 m3 n3 k3 => ?_⟩
    refine ⟨o1, o3, _, _, rfl, rfl, m3 _ _ (m2 _ _ k1), k3, by rw [List.length_replicate, sizeLine_eq]; show 1 + _ ≤ _; omega, fun w0 nw0 => ?_⟩
    have m4 := new_more (o := .lst ([V.int 1] ++ List.replicate (dss.length - 1) (V.int 0))) nw0
    have k4 : (upd H2 w0 (.lst ([V.int 1] ++ List.replicate (dss.length - 1) (V.int 0)))) w0 = some (.lst ((waysL dss 0).map V.int)) := by
      rw [upd_same]
      show _ = some (HO.lst (V.int 1 :: (List.replicate (dss.length - 1) (0 : Int)).map V.int))
      rw [List.map_replicate]
      rfl
    have m5 : More H (upd H2 w0 (.lst ([V.int 1] ++ List.replicate (dss.length - 1) (V.int 0)))) := fun b o e => m4 _ _ (m3 _ _ (m2 _ _ (m1 _ _ e)))
    generalize upd H2 w0 (.lst ([V.int 1] ++ List.replicate (dss.length - 1) (V.int 0))) = H3 at k4 m5 ⊢
    clear m1 m2 m3 m4 k1 k3 ho2 n3 nw0
    refine ⟨by show 0 ≤ sizeLine; exact Nat.zero_le _, fun l hl => ?_⟩
    have nl := m5.off hl
    refine ⟨_, rfl, _, rfl, by omega, by omega, for_range (lo := 0) (n := m) (fun i σ' H' => ∃ wi rs z, σ' = [some (.ref a), some (.int m), some (.ref wi), some (.ref l), z] ∧ H' l = some (.lst (rs.map V.ref)) ∧ rs.length = i ∧ (∀ r ∈ rs, r ≠ l) ∧ wi ≠ l ∧ Ways dss (rs ++ [wi]) H' ∧ More H H')
      ⟨w0, [], none, rfl, upd_same, rfl, nofun, ne_of_none k4 hl, fun i r e => ?_, m5.new hl⟩ ?_ ?_⟩
    · cases i with
      | zero => cases e; rw [upd_ne (ne_of_none k4 hl)]; exact k4
      | succ i => simp at e
    · rintro i σ2 H4 hi ⟨wi, rs, z, rfl, k5, lr, nr, nw, wy, m6⟩
      have hw := wy rs.length wi (by rw [List.getElem?_append_right (Nat.le_refl _), Nat.sub_self]; rfl)
      refine ⟨_, rfl, .inl ⟨rfl, _, SqL.of k5⟩, _, rfl, l, _, _, rfl, rfl, k5, by rw [List.length_map]; exact small1000 (by omega), ?_⟩
      have m7 : More H (upd H4 l (.lst (rs.map V.ref ++ [V.ref wi]))) := More.at m6 nl
      have k7 : (upd H4 l (.lst (rs.map V.ref ++ [V.ref wi]))) l = some (.lst ((rs ++ [wi]).map V.ref)) := by rw [upd_same, List.map_append]; rfl
      have wy7 : Ways dss (rs ++ [wi]) (upd H4 l (.lst (rs.map V.ref ++ [V.ref wi]))) := fun j r e => by
        have ner : r ≠ l := by
          rcases List.mem_append.mp (List.mem_of_getElem? e) with h | h
          · exact nr r h
          · have : r = wi := by simpa using h
            rw [this]; exact nw
        rw [upd_ne ner]
        exact wy j r e
      have hw7 : (upd H4 l (.lst (rs.map V.ref ++ [V.ref wi]))) wi = some (.lst ((waysL dss rs.length).map V.int)) := by rw [upd_ne nw]; exact hw
      generalize upd H4 l (.lst (rs.map V.ref ++ [V.ref wi])) = H5 at m7 k7 wy7 hw7 ⊢
      refine ⟨_, rfl, a, C, dx, _, _, rfl, m7 _ _ h1, Z.ic.cl, Z.n2, rfl, _, rfl, t, wi, xs, p, dss, ws, waysL dss rs.length, rfl, sqT_more m7 h2, paired_imp (fun _ _ r => r.more m7) h3, g, hw7, waysL_len dss g.ne _, fun H6 wn m8 nn k8 => ?_⟩
      refine ⟨wn, rs ++ [wi], _, rfl, m8 _ _ k7, by rw [List.length_append, lr]; rfl, fun r hr => ?_, ?_, fun j r e => ?_, fun b o e => m8 _ _ (m7 _ _ e)⟩
      · rcases List.mem_append.mp hr with h | h
        · exact nr r h
        · have : r = wi := by simpa using h
          rw [this]; exact nw
      · exact (ne_of_none k7 nn).symm
      · by_cases z : j < (rs ++ [wi]).length
        · rw [List.getElem?_append_left z] at e
          exact m8 _ _ (wy7 j r e)
        · have lt := (List.getElem?_eq_some_iff.mp e).1
          have ej : j = rs.length + 1 := by
            rw [List.length_append] at z lt
            rw [List.length_append] at lt
            simp at z lt
            omega
          subst ej
          rw [List.getElem?_append_right (by simp)] at e
          simp at e
          rw [← e]
          exact k8
    · rintro σ2 H4 ⟨wi, rs, z, rfl, k5, lr, nr, nw, wy, m6⟩
      exact ⟨_, rfl, q H4 l rs m6 nl k5 lr fun i r e => wy i r (by rw [List.getElem?_append_left (List.getElem?_eq_some_iff.mp e).1]; exact e)⟩
abbrev sMks : Stmt := top 26
abbrev NMks : List Str := ["machine", "value", "worth"]
theorem scMks : FnScope NMks ["machine", "value"] (defScope sMks) := ⟨rfl, rfl, rfl, by decide +kernel, rfl, by decide +kernel, by decide +kernel⟩
theorem ok_mks (F : Fun K "marks_of" "marks_of" sMks f fd) (B : Blt mg) (Z : McC K mg C) : FnOk P w K mg base CX0 1 f fd ["machine", "value"] (spMks K C) := by
  refine F.ok scMks (fun vs H Q E h => ?_) (fun cdv A outer s H vs Q E hr h => ?_)
  · obtain ⟨a, v, p, dss, ws, rfl, _⟩ := h
    rfl
  · obtain ⟨a, v, p, dss, ws, rfl, ma, g, q⟩ := h
    refine ⟨_, pss_one (ps_ret (pe_lc (own := [("worth", 2)]) (g := gName 2) (tt := tYes) rfl scMks.nd (pi_tup (pe_fld (pv 0) rfl)) (blkOk_by (N := NMks) (sc := defScope sMks) (by decide +kernel))
      (fun _ _ _ _ _ => pg_name (i := 2) scMks.nd rfl (Or.inl rfl)) (fun _ _ _ _ _ => pts_nil) (fun _ _ _ _ _ => pe_ifExp (pt_cmpR op_eq (pv 2) (pv 1) (nomark _)) pe_int pe_int))), ?_⟩
    obtain ⟨dx, t, u, xs, h1, h2, h3, h4⟩ := id ma
    have few := g.few
    refine ⟨_, rfl, a, C, dx, _, _, rfl, h1, Z.ic.cl, Z.n3, rfl, u, rfl, ⟨_, h4⟩, fun D hD => ?_⟩
    refine lc_name (n := 2) (D := D) (H1 := H) (xs := ws.map V.int) (rs := (mkV v ws).map V.int) walk_tup hD (fun H' m => sqT_more m h4) (by unfold mkV; simp) (by rw [List.length_map, g.len]; omega) (fun _ => rfl) ?_ (fun H' k m => q H' D m hD k)
    intro i y r H2 Q2 hy hr2 m2 q2
    obtain ⟨w0, hw, rfl⟩ := map_at hy
    obtain ⟨r0, hr0, rfl⟩ := map_at hr2
    unfold mkV at hr0
    obtain ⟨w1, hw1, rfl⟩ := map_at hr0
    rw [hw] at hw1
    cases hw1
    refine ⟨_, rfl, _, rfl, rfl, _, rfl, ?_⟩
    rw [deI]
    by_cases z : w0 = v
    · rw [decide_eq_true z]
      rw [if_pos z] at q2
      exact iteT (q2 _ fun _ _ e => e)
    · rw [decide_eq_false z]
      rw [if_neg z] at q2
      exact iteF (q2 _ fun _ _ e => e)
end
end K78

/-! Moore: the coarsest partition of states that a step keeps and that tells the worths. -/
namespace B5
/-- the first of its class -/
def Rep (c : Nat → Nat) (s : Nat) : Prop := ∀ t, t < s → c t ≠ c s
instance (c : Nat → Nat) (s : Nat) : Decidable (Rep c s) := inferInstanceAs (Decidable (∀ t, t < s → c t ≠ c s))
/-- how many classes there are among the first n -/
def cnt (c : Nat → Nat) (n : Nat) : Nat := (List.range n).countP fun s => decide (Rep c s)
/-- c' tells apart what c tells apart, among the first n -/
def Fin1 (c' c : Nat → Nat) (n : Nat) : Prop := ∀ s t, s < n → t < n → c' s = c' t → c s = c t
def Same1 (c' c : Nat → Nat) (n : Nat) : Prop := ∀ s t, s < n → t < n → (c' s = c' t ↔ c s = c t)
theorem Rep.fin {c' c : Nat → Nat} {n s : Nat} (f : Fin1 c' c n) (h : s < n) (r : Rep c s) : Rep c' s := fun t lt e => r t lt (f t s (by omega) h e)
theorem countP_le {α : Type} {p q : α → Bool} : ∀ {l : List α}, (∀ x ∈ l, p x = true → q x = true) → l.countP p ≤ l.countP q
  | [], _ => Nat.le_refl _
  | x :: l, h => by
    have ih := countP_le (l := l) fun y hy => h y (.tail _ hy)
    have hx := h x (.head _)
    rw [List.countP_cons, List.countP_cons]
    cases e : p x with
    | true => rw [hx e]; omega
    | false => cases q x <;> simp <;> omega
theorem countP_eq {α : Type} {p q : α → Bool} : ∀ {l : List α}, (∀ x ∈ l, p x = true → q x = true) → l.countP q ≤ l.countP p → ∀ x ∈ l, q x = true → p x = true
  | [], _, _, x, hx, _ => nomatch hx
  | x :: l, h, le, y, hy, qy => by
    have h' := fun y hy => h y (.tail _ hy)
    have l1 := countP_le (l := l) h'
    have hx := h x (.head _)
    rw [List.countP_cons, List.countP_cons] at le
    cases e : p x with
    | true =>
      rw [e, hx e] at le
      rcases List.mem_cons.mp hy with rfl | hy
      · exact e
      · exact countP_eq (l := l) h' (by simpa using le) y hy qy
    | false =>
      cases e2 : q x with
      | true => rw [e, e2] at le; simp at le; omega
      | false =>
        rw [e, e2] at le
        rcases List.mem_cons.mp hy with rfl | hy
        · rw [e2] at qy; cases qy
        · exact countP_eq (l := l) h' (by simpa using le) y hy qy
theorem cnt_le {c' c : Nat → Nat} {n : Nat} (f : Fin1 c' c n) : cnt c n ≤ cnt c' n := countP_le fun s hs h => decide_eq_true (Rep.fin f (List.mem_range.mp hs) (of_decide_eq_true h))
theorem cnt_max (c : Nat → Nat) (n : Nat) : cnt c n ≤ n := by
  have := List.countP_le_length (p := fun s => decide (Rep c s)) (l := List.range n)
  rw [List.length_range] at this
  exact this
theorem cnt_pos (c : Nat → Nat) {n : Nat} (h : 0 < n) : 0 < cnt c n := List.countP_pos_iff.mpr ⟨0, List.mem_range.mpr h, decide_eq_true fun t lt => absurd lt (Nat.not_lt_zero t)⟩
/-- every state has a first of its class -/
theorem rep_of (c : Nat → Nat) : ∀ (k s : Nat), s ≤ k → ∃ r, r ≤ s ∧ Rep c r ∧ c r = c s
  | 0, s, h => ⟨s, Nat.le_refl _, fun t lt => by omega, rfl⟩
  | k + 1, s, h => by
    by_cases z : Rep c s
    · exact ⟨s, Nat.le_refl _, z, rfl⟩
    · have : ∃ t, t < s ∧ c t = c s := by
        refine Classical.byContradiction fun q => z fun t lt e => q ⟨t, lt, e⟩
      obtain ⟨t, lt, e⟩ := this
      obtain ⟨r, h1, h2, h3⟩ := rep_of c k t (by omega)
      exact ⟨r, by omega, h2, h3.trans e⟩
theorem rep_one' {c : Nat → Nat} {s t : Nat} (a : Rep c s) (b : Rep c t) (e : c s = c t) : s = t := by
  rcases Nat.lt_trichotomy s t with h | h | h
  · exact absurd e (b s h)
  · exact h
  · exact absurd e.symm (a t h)
/-- as many classes: the same partition -/
theorem same_of_cnt {c' c : Nat → Nat} {n : Nat} (f : Fin1 c' c n) (h : cnt c' n ≤ cnt c n) : Same1 c' c n := fun s t hs ht => by
  refine ⟨f s t hs ht, fun e => ?_⟩
  have all := countP_eq (p := fun s => decide (Rep c s)) (q := fun s => decide (Rep c' s)) (l := List.range n) (fun s hs h => decide_eq_true (Rep.fin f (List.mem_range.mp hs) (of_decide_eq_true h))) h
  have back : ∀ r, r < n → Rep c' r → Rep c r := fun r hr h => of_decide_eq_true (all r (List.mem_range.mpr hr) (decide_eq_true h))
  obtain ⟨s0, l1, r1, e1⟩ := rep_of c' s s (Nat.le_refl _)
  obtain ⟨t0, l2, r2, e2⟩ := rep_of c' t t (Nat.le_refl _)
  have k1 := f s0 s (by omega) hs e1
  have k2 := f t0 t (by omega) ht e2
  have := rep_one' (back s0 (by omega) r1) (back t0 (by omega) r2) (k1.trans (e.trans k2.symm))
  rw [← e1, ← e2, this]
theorem Same1.symm {c' c : Nat → Nat} {n : Nat} (h : Same1 c' c n) : Same1 c c' n := fun s t hs ht => (h s t hs ht).symm
theorem Same1.trans {a b c : Nat → Nat} {n : Nat} (x : Same1 a b n) (y : Same1 b c n) : Same1 a c n := fun s t hs ht => (x s t hs ht).trans (y s t hs ht)
/-! ### steps and words -/
section
variable {n p : Nat} {step : Nat → Nat → Nat} {val : Nat → Int}
def runW (step : Nat → Nat → Nat) (s : Nat) (w : List Nat) : Nat := w.foldl step s
/-- no word tells s from t -/
def Alike1 (p : Nat) (step : Nat → Nat → Nat) (val : Nat → Int) (s t : Nat) : Prop := ∀ w : List Nat, (∀ d ∈ w, d < p) → val (runW step s w) = val (runW step t w)
theorem Alike1.next {s t d : Nat} (h : Alike1 p step val s t) (hd : d < p) : Alike1 p step val (step s d) (step t d) := fun w hw => h (d :: w) fun e he => by
  rcases List.mem_cons.mp he with rfl | he
  · exact hd
  · exact hw e he
theorem Alike1.now {s t : Nat} (h : Alike1 p step val s t) : val s = val t := h [] fun _ h => nomatch h
/-- a partition that steps keep and that tells the worths -/
structure Stab (n p : Nat) (step : Nat → Nat → Nat) (val : Nat → Int) (c : Nat → Nat) : Prop where
  keep : ∀ s t, s < n → t < n → c s = c t → ∀ d, d < p → c (step s d) = c (step t d)
  tell : ∀ s t, s < n → t < n → c s = c t → val s = val t
/-- a partition that tells no more than words do -/
def Coarse (n p : Nat) (step : Nat → Nat → Nat) (val : Nat → Int) (c : Nat → Nat) : Prop := ∀ s t, s < n → t < n → Alike1 p step val s t → c s = c t
theorem Stab.alike {c : Nat → Nat} (cl : ∀ s d, s < n → d < p → step s d < n) (h : Stab n p step val c) : ∀ (w : List Nat) (s t : Nat), s < n → t < n → c s = c t → (∀ d ∈ w, d < p) → val (runW step s w) = val (runW step t w)
  | [], s, t, hs, ht, e, _ => h.tell s t hs ht e
  | d :: w, s, t, hs, ht, e, hw => Stab.alike cl h w _ _ (cl s d hs (hw d (.head _))) (cl t d ht (hw d (.head _))) (h.keep s t hs ht e d (hw d (.head _))) fun x hx => hw x (.tail _ hx)
/-- such a partition is that of the words -/
theorem moore {c : Nat → Nat} (cl : ∀ s d, s < n → d < p → step s d < n) (h : Stab n p step val c) (k : Coarse n p step val c) {s t : Nat} (hs : s < n) (ht : t < n) : c s = c t ↔ Alike1 p step val s t :=
  ⟨fun e w hw => Stab.alike cl h w s t hs ht e hw, k s t hs ht⟩
/-- one lap: what stands together and leads together stands together -/
def Lap (n p : Nat) (step : Nat → Nat → Nat) (c c' : Nat → Nat) : Prop := ∀ s t, s < n → t < n → (c' s = c' t ↔ c s = c t ∧ ∀ d, d < p → c (step s d) = c (step t d))
theorem Lap.fin {c c' : Nat → Nat} (l : Lap n p step c c') : Fin1 c' c n := fun s t hs ht e => ((l s t hs ht).mp e).1
theorem Lap.coarse {c c' : Nat → Nat} (cl : ∀ s d, s < n → d < p → step s d < n) (l : Lap n p step c c') (k : Coarse n p step val c) : Coarse n p step val c' := fun s t hs ht a =>
  (l s t hs ht).mpr ⟨k s t hs ht a, fun d hd => k _ _ (cl s d hs hd) (cl t d ht hd) (a.next hd)⟩
/-- n laps behind a partition that tells the worths it is stable -/
theorem laps_stab (cl : ∀ s d, s < n → d < p → step s d < n) (n0 : 0 < n) (c : Nat → Nat → Nat) (tell : ∀ s t, s < n → t < n → c 0 s = c 0 t → val s = val t) {m : Nat} (hm : n ≤ m) (laps : ∀ k, k < m → Lap n p step (c k) (c (k + 1))) : Stab n p step val (c m) := by
  have tells : ∀ k, k ≤ m → ∀ s t, s < n → t < n → c k s = c k t → val s = val t := by
    intro k
    induction k with
    | zero => exact fun _ => tell
    | succ k ih => exact fun hk s t hs ht e => ih (by omega) s t hs ht ((laps k (by omega)).fin s t hs ht e)
  -- a lap that tells no more
  have still : ∃ k, k < n ∧ cnt (c (k + 1)) n ≤ cnt (c k) n := by
    refine Classical.byContradiction fun q => ?_
    have grow : ∀ k, k ≤ n → k + 1 ≤ cnt (c k) n := by
      intro k
      induction k with
      | zero => exact fun _ => cnt_pos _ n0
      | succ k ih =>
        intro hk
        have h1 := ih (by omega)
        have h2 : ¬ cnt (c (k + 1)) n ≤ cnt (c k) n := fun z => q ⟨k, by omega, z⟩
        omega
    have := grow n (Nat.le_refl _)
    have := cnt_max (c n) n
    omega
  obtain ⟨k, hk, le⟩ := still
  have s0 := same_of_cnt (laps k (by omega)).fin le
  -- from there on each lap is the same
  have on : ∀ j, k + j ≤ m → Same1 (c (k + j)) (c k) n := by
    intro j
    induction j with
    | zero => exact fun _ s t _ _ => Iff.rfl
    | succ j ih =>
      intro hj
      have h1 := ih (by omega)
      intro s t hs ht
      refine (laps (k + j) (by omega) s t hs ht).trans ?_
      rw [h1 s t hs ht]
      refine ⟨fun h => h.1, fun e => ⟨e, fun d hd => ?_⟩⟩
      rw [h1 _ _ (cl s d hs hd) (cl t d ht hd)]
      exact (((laps k (by omega)) s t hs ht).mp ((s0 s t hs ht).mpr e)).2 d hd
  have e := on (m - k) (by omega)
  rw [show k + (m - k) = m by omega] at e
  refine ⟨fun s t hs ht q d hd => ?_, tells m (Nat.le_refl _)⟩
  rw [e _ _ (cl s d hs hd) (cl t d ht hd)]
  exact (((laps k (by omega)) s t hs ht).mp ((s0 s t hs ht).mpr ((e s t hs ht).mp q))).2 d hd
/-- one column: what stands together and is led by it together stands together -/
def Col (n : Nat) (f : Nat → Nat) (c c' : Nat → Nat) : Prop := ∀ s t, s < n → t < n → (c' s = c' t ↔ c s = c t ∧ c (f s) = c (f t))
theorem Col.fin {f c c' : Nat → Nat} (l : Col n f c c') : Fin1 c' c n := fun s t hs ht e => ((l s t hs ht).mp e).1
/-- a column that adds no class is kept -/
theorem Col.still {f c c' : Nat → Nat} (l : Col n f c c') (h : cnt c' n ≤ cnt c n) : Same1 c' c n ∧ ∀ s t, s < n → t < n → c s = c t → c (f s) = c (f t) := by
  have e := same_of_cnt l.fin h
  exact ⟨e, fun s t hs ht q => ((l s t hs ht).mp ((e s t hs ht).mpr q)).2⟩
end
end B5

/-! Heads: heads that are handed on over edges; behind as many laps as there are states they are one for each part. -/
namespace B5
inductive Conn (z : Nat → Nat) : Nat → Nat → Prop
  | refl (a) : Conn z a a
  | fwd {a b} : Conn z a b → Conn z a (z b)
  | bwd {a b} : Conn z a (z b) → Conn z a b
theorem Conn.trans {z : Nat → Nat} {a b c : Nat} (x : Conn z a b) (y : Conn z b c) : Conn z a c := by
  induction y with
  | refl => exact x
  | fwd _ ih => exact .fwd ih
  | bwd _ ih => exact .bwd ih
theorem Conn.edge (z : Nat → Nat) (s : Nat) : Conn z s (z s) := .fwd (.refl s)
theorem Conn.edge' (z : Nat → Nat) (s : Nat) : Conn z (z s) s := .bwd (.refl _)
theorem Conn.symm {z : Nat → Nat} {a b : Nat} (x : Conn z a b) : Conn z b a := by
  induction x with
  | refl => exact .refl _
  | fwd _ ih => exact (Conn.edge' z _).trans ih
  | bwd _ ih => exact (Conn.edge z _).trans ih
/-- a head below all of its part -/
def GoodH (z h : Nat → Nat) (s : Nat) : Prop := ∀ t, Conn z t s → h s ≤ t
structure HInv (z : Nat → Nat) (n : Nat) (h : Nat → Nat) : Prop where
  part : ∀ s, s < n → Conn z (h s) s
  low : ∀ s, s < n → h s ≤ s
/-- one edge -/
def relax (z h : Nat → Nat) (s : Nat) : Nat → Nat := fun t => if t = s ∨ t = z s then min (h s) (h (z s)) else h t
theorem relax_le (z h : Nat → Nat) (s t : Nat) : relax z h s t ≤ h t := by
  unfold relax
  by_cases e : t = s ∨ t = z s
  · rw [if_pos e]
    rcases e with rfl | rfl
    · exact Nat.min_le_left _ _
    · exact Nat.min_le_right _ _
  · rw [if_neg e]
    exact Nat.le_refl _
theorem HInv.relax {z : Nat → Nat} {n : Nat} {h : Nat → Nat} (zl : ∀ s, s < n → z s < n) (I : HInv z n h) {s : Nat} (hs : s < n) : HInv z n (B5.relax z h s) where
  part := fun t ht => by
    unfold B5.relax
    by_cases e : t = s ∨ t = z s
    · rw [if_pos e]
      have c1 : Conn z (h s) t := by
        rcases e with rfl | rfl
        · exact I.part _ hs
        · exact .fwd (I.part _ hs)
      have c2 : Conn z (h (z s)) t := by
        rcases e with rfl | rfl
        · exact .bwd (I.part _ (zl _ hs))
        · exact I.part _ (zl _ hs)
      rcases Nat.le_total (h s) (h (z s)) with q | q
      · rw [Nat.min_eq_left q]; exact c1
      · rw [Nat.min_eq_right q]; exact c2
    · rw [if_neg e]
      exact I.part t ht
  low := fun t ht => Nat.le_trans (relax_le z h s t) (I.low t ht)
theorem GoodH.mono {z h h' : Nat → Nat} (le : ∀ t, h' t ≤ h t) {s : Nat} (g : GoodH z h s) : GoodH z h' s := fun t c => Nat.le_trans (le s) (g t c)
/-- an edge with one good end: behind it both are good -/
theorem relax_good {z h : Nat → Nat} {s : Nat} (g : GoodH z h s ∨ GoodH z h (z s)) : GoodH z (relax z h s) s ∧ GoodH z (relax z h s) (z s) := by
  have e1 : relax z h s s = min (h s) (h (z s)) := if_pos (.inl rfl)
  have e2 : relax z h s (z s) = min (h s) (h (z s)) := if_pos (.inr rfl)
  have both : ∀ t, Conn z t s → min (h s) (h (z s)) ≤ t := fun t c => by
    rcases g with g | g
    · exact Nat.le_trans (Nat.min_le_left _ _) (g t c)
    · exact Nat.le_trans (Nat.min_le_right _ _) (g t (.fwd c))
  exact ⟨fun t c => by rw [e1]; exact both t c, fun t c => by rw [e2]; exact both t (.bwd c)⟩
def lapH (z : Nat → Nat) (h : Nat → Nat) : Nat → (Nat → Nat)
  | 0 => h
  | k + 1 => relax z (lapH z h k) k
theorem lapH_le (z h : Nat → Nat) : ∀ k t, lapH z h k t ≤ h t
  | 0, _ => Nat.le_refl _
  | k + 1, t => Nat.le_trans (relax_le _ _ _ _) (lapH_le z h k t)
theorem lapH_le2 (z h : Nat → Nat) (k : Nat) : ∀ j t, lapH z h (k + j) t ≤ lapH z h k t
  | 0, _ => Nat.le_refl _
  | j + 1, t => Nat.le_trans (relax_le _ _ _ _) (lapH_le2 z h k j t)
theorem HInv.lap {z : Nat → Nat} {n : Nat} {h : Nat → Nat} (zl : ∀ s, s < n → z s < n) (I : HInv z n h) : ∀ k, k ≤ n → HInv z n (lapH z h k)
  | 0, _ => I
  | k + 1, hk => (HInv.lap zl I k (by omega)).relax zl (by omega)
theorem lap_good {z h : Nat → Nat} {n s : Nat} (hs : s < n) (g : GoodH z h s ∨ GoodH z h (z s)) : GoodH z (lapH z h n) s ∧ GoodH z (lapH z h n) (z s) := by
  have g' : GoodH z (lapH z h s) s ∨ GoodH z (lapH z h s) (z s) := g.imp (.mono (lapH_le z h s)) (.mono (lapH_le z h s))
  obtain ⟨a, b⟩ := relax_good g'
  have le := lapH_le2 z h (s + 1) (n - (s + 1))
  rw [show s + 1 + (n - (s + 1)) = n by omega] at le
  exact ⟨a.mono le, b.mono le⟩
/-- between a good and a bad one there is an edge with one good end -/
theorem cut {z h : Nat → Nat} {n : Nat} (zl : ∀ s, s < n → z s < n) {a b : Nat} (c : Conn z a b) (ga : GoodH z h a) (nb : ¬ GoodH z h b) : ∃ t, ((GoodH z h t ∧ ¬ GoodH z h (z t)) ∨ (¬ GoodH z h t ∧ GoodH z h (z t))) := by
  induction c with
  | refl => exact absurd ga nb
  | @fwd b c ih =>
    by_cases g : GoodH z h b
    · exact ⟨b, .inl ⟨g, nb⟩⟩
    · exact ih g
  | @bwd b c ih =>
    by_cases g : GoodH z h (z b)
    · exact ⟨b, .inr ⟨nb, g⟩⟩
    · exact ih g
theorem GoodH.hd {z h : Nat → Nat} {n : Nat} (I : HInv z n h) {s t : Nat} (hs : s < n) (ht : t < n) (c : Conn z s t) (g : GoodH z h s) (g' : GoodH z h t) : h s = h t :=
  Nat.le_antisymm (g _ ((I.part t ht).trans c.symm)) (g' _ ((I.part s hs).trans c))
def lapsH (z : Nat → Nat) (n : Nat) (h : Nat → Nat) : Nat → (Nat → Nat)
  | 0 => h
  | k + 1 => lapH z (lapsH z n h k) n
theorem HInv.laps {z : Nat → Nat} {n : Nat} {h : Nat → Nat} (zl : ∀ s, s < n → z s < n) (I : HInv z n h) : ∀ k, HInv z n (lapsH z n h k)
  | 0 => I
  | k + 1 => (HInv.laps zl I k).lap zl n (Nat.le_refl _)
open Classical in
noncomputable def goods (z h : Nat → Nat) (n : Nat) : Nat := (List.range n).countP fun s => decide (GoodH z h s)
theorem countP_strict {α : Type} {p q : α → Bool} : ∀ {l : List α}, (∀ x ∈ l, p x = true → q x = true) → (∃ x ∈ l, q x = true ∧ p x = false) → l.countP p + 1 ≤ l.countP q := by
  intro l h hx
  obtain ⟨x, hm, qx, px⟩ := hx
  rcases Nat.lt_or_ge (l.countP p) (l.countP q) with z | z
  · exact z
  · have := countP_eq h z x hm qx
    rw [px] at this
    cases this
/-- the part with its least one good -/
theorem least_good {z h : Nat → Nat} {n : Nat} (zl : ∀ s, s < n → z s < n) (I : HInv z n h) : ∀ k s, s ≤ k → s < n → ∃ a, a < n ∧ Conn z a s ∧ GoodH z h a := by
  intro k
  induction k with
  | zero =>
    intro s hk hs
    refine ⟨s, hs, .refl s, fun t c => ?_⟩
    have := I.low s hs
    omega
  | succ k ih =>
    intro s hk hs
    by_cases g : GoodH z h s
    · exact ⟨s, hs, .refl s, g⟩
    · have : ∃ t, Conn z t s ∧ t < h s := Classical.byContradiction fun q => g fun t c => Nat.le_of_not_lt fun lt => q ⟨t, c, lt⟩
      obtain ⟨t, c, lt⟩ := this
      have := I.low s hs
      obtain ⟨a, a1, a2, a3⟩ := ih t (by omega) (by omega)
      exact ⟨a, a1, a2.trans c, a3⟩
open Classical in
theorem lap_more {z h : Nat → Nat} {n : Nat} (zl : ∀ s, s < n → z s < n) (zo : ∀ s, n ≤ s → z s = s) (I : HInv z n h) (bad : ∃ s, s < n ∧ ¬ GoodH z h s) : goods z h n + 1 ≤ goods z (lapH z h n) n := by
  obtain ⟨s, hs, nb⟩ := bad
  obtain ⟨a, ha, c, ga⟩ := least_good zl I s s (Nat.le_refl _) hs
  obtain ⟨t, e⟩ := cut zl c ga nb
  have ht : t < n := by
    rcases Nat.lt_or_ge t n with q | q
    · exact q
    · rw [zo t q] at e
      rcases e with ⟨x, y⟩ | ⟨x, y⟩
      · exact absurd x y
      · exact absurd y x
  unfold goods
  refine countP_strict (fun s _ g => decide_eq_true ((of_decide_eq_true g : GoodH z h s).mono (lapH_le z h n))) ?_
  rcases e with ⟨x, y⟩ | ⟨x, y⟩
  · exact ⟨z t, List.mem_range.mpr (zl t ht), decide_eq_true (lap_good ht (.inl x)).2, decide_eq_false y⟩
  · exact ⟨t, List.mem_range.mpr ht, decide_eq_true (lap_good ht (.inr y)).1, decide_eq_false x⟩
theorem goods_le (z h : Nat → Nat) (n : Nat) : goods z h n ≤ n := by
  unfold goods
  have := List.countP_le_length (p := fun s => @decide (GoodH z h s) (Classical.propDecidable _)) (l := List.range n)
  rw [List.length_range] at this
  exact this
theorem laps_all {z h : Nat → Nat} {n : Nat} (zl : ∀ s, s < n → z s < n) (zo : ∀ s, n ≤ s → z s = s) (I : HInv z n h) : ∀ k, (∀ s, s < n → GoodH z (lapsH z n h k) s) ∨ k ≤ goods z (lapsH z n h k) n
  | 0 => .inr (Nat.zero_le _)
  | k + 1 => by
    rcases laps_all zl zo I k with g | g
    · exact .inl fun s hs => (g s hs).mono (lapH_le _ _ _)
    · by_cases bad : ∃ s, s < n ∧ ¬ GoodH z (lapsH z n h k) s
      · have := lap_more zl zo (I.laps zl k) bad
        exact .inr (Nat.le_trans (Nat.succ_le_succ g) this)
      · exact .inl fun s hs => (Classical.byContradiction fun q => bad ⟨s, hs, q⟩ : GoodH z (lapsH z n h k) s).mono (lapH_le _ _ _)
/-- behind n laps the heads of both ends of each edge are one -/
theorem laps_end_heads {z h : Nat → Nat} {n : Nat} (zl : ∀ s, s < n → z s < n) (zo : ∀ s, n ≤ s → z s = s) (I : HInv z n h) {s : Nat} (hs : s < n) : lapsH z n h n s = lapsH z n h n (z s) := by
  have all : ∀ s, s < n → GoodH z (lapsH z n h n) s := by
    rcases laps_all zl zo I n with g | g
    · exact g
    · have le := goods_le z (lapsH z n h n) n
      refine fun s hs => Classical.byContradiction fun q => ?_
      have := lap_more zl zo (I.laps zl n) ⟨s, hs, q⟩
      have := goods_le z (lapH z (lapsH z n h n) n) n
      omega
  exact GoodH.hd (I.laps zl n) hs (zl s hs) (.edge z s) (all s hs) (all _ (zl s hs))
end B5

/-! Ss: rows of states as they are drawn; the law's plain machines. -/
namespace B5
open PySem L2 Gd
/-- the lists of the states' rows at D -/
structure SS (H0 : Hp) (d c D : Addr) (as : List Addr) (dss : List (List Int)) (i m p : Nat) (n0 n1 : Int) (H : Hp) : Prop where
  pen : ∃ n, Pen H d c n ∧ n0 ≤ n ∧ n ≤ n1
  off : Off d H0 H
  hD : H D = some (.lst (as.map V.ref))
  nD : H0 D = none
  nd : as.Nodup
  new : ∀ a ∈ as, H0 a = none ∧ a ≠ D
  rows : ∀ (j : Nat) a, as[j]? = some a → ∃ ds, dss[j]? = some ds ∧ H a = some (.lst (ds.map V.int))
  la : as.length = i
  ld : dss.length = i
  ok : ∀ ds ∈ dss, ds.length = p ∧ ∀ x ∈ ds, 0 ≤ x ∧ x < (m : Int)
theorem SS.dne {H0 H : Hp} {d c D : Addr} {as : List Addr} {dss : List (List Int)} {i m p : Nat} {n0 n1 : Int} (s : SS H0 d c D as dss i m p n0 n1 H) : ∃ kvs, H d = some (.dK kvs) := let ⟨_, ⟨kvs, _, _, _, _, h, _⟩, _⟩ := s.pen; ⟨kvs, h⟩
/-- what leaves all but the pen's dict as it is -/
theorem SS.keep {H0 H H' : Hp} {d c D : Addr} {as : List Addr} {dss : List (List Int)} {i m p : Nat} {n0 n1 n2 : Int} (s : SS H0 d c D as dss i m p n0 n1 H) (m1 : Off d H H') (pen : ∃ n, Pen H' d c n ∧ n0 ≤ n ∧ n ≤ n2) : SS H0 d c D as dss i m p n0 n2 H' where
  pen := pen
  off := s.off.trans m1
  hD := m1 _ _ s.hD fun e => by
    obtain ⟨kvs, h⟩ := s.dne
    have := s.hD
    rw [e, h] at this
    cases this
  nD := s.nD
  nd := s.nd
  new := s.new
  rows := fun j a h => by
    obtain ⟨ds, e, g⟩ := s.rows j a h
    refine ⟨ds, e, m1 _ _ g fun z => ?_⟩
    obtain ⟨kvs, h⟩ := s.dne
    rw [z, h] at g
    cases g
  la := s.la
  ld := s.ld
  ok := s.ok
theorem SS.more {H0 H H' : Hp} {d c D : Addr} {as : List Addr} {dss : List (List Int)} {i m p : Nat} {n0 n1 : Int} (s : SS H0 d c D as dss i m p n0 n1 H) (m1 : More H H') : SS H0 d c D as dss i m p n0 n1 H' :=
  s.keep (.of m1) (let ⟨n, pn, a, b⟩ := s.pen; let ⟨o1, h1⟩ := pn.at; let ⟨o2, h2⟩ := pn.atc; ⟨n, pn.keep ((m1 _ _ h1).trans h1.symm) ((m1 _ _ h2).trans h2.symm), a, b⟩)
theorem SS.snoc {H0 H H' : Hp} {d c D L : Addr} {as : List Addr} {dss : List (List Int)} {i m p : Nat} {n0 n1 n2 : Int} {ys : List Int} (s : SS H0 d c D as dss i m p n0 n1 H) (m1 : Off d H H') (pen : ∃ n, Pen H' d c n ∧ n0 ≤ n ∧ n ≤ n2) (hc : c ≠ D) (nL : H L = none)
    (hL : H' L = some (.lst (ys.map V.int))) (l : ys.length = p) (al : ∀ x ∈ ys, 0 ≤ x ∧ x < (m : Int)) : SS H0 d c D (as ++ [L]) (dss ++ [ys]) (i + 1) m p n0 n2 (L2.upd H' D (.lst ((as ++ [L]).map V.ref))) := by
  have s' := s.keep m1 pen
  obtain ⟨n, pn, b1, b2⟩ := pen
  have dD : D ≠ d := fun e => by
    obtain ⟨kvs, h⟩ := s'.dne
    have := s'.hD
    rw [e, h] at this
    cases this
  have LD : L ≠ D := fun e => by rw [e, s.hD] at nL; cases nL
  have Lnew : L ∉ as := fun hm => by
    obtain ⟨j, hj, e⟩ := List.getElem_of_mem hm
    obtain ⟨ds, _, g⟩ := s.rows j L (by rw [List.getElem?_eq_getElem hj, e])
    rw [nL] at g
    cases g
  refine ⟨⟨n, pn.updA dD hc.symm, b1, b2⟩, s'.off.at s.nD, upd_same, s.nD, ?_, ?_, ?_, ?_, ?_, ?_⟩
  · rw [List.nodup_append]
    refine ⟨s.nd, by simp, fun a ha b hb e => ?_⟩
    have : b = L := by simpa using hb
    rw [e, this] at ha
    exact Lnew ha
  · intro a ha
    rcases List.mem_append.mp ha with ha | ha
    · exact s.new a ha
    · have : a = L := by simpa using ha
      rw [this]
      exact ⟨s.off.gone (let ⟨kvs, h⟩ := s.dne; ⟨_, h⟩) nL, LD⟩
  · intro j a h
    by_cases z : j < as.length
    · rw [List.getElem?_append_left z] at h
      obtain ⟨ds, e, g⟩ := s'.rows j a h
      refine ⟨ds, by rw [List.getElem?_append_left (by rw [s.ld, ← s.la]; exact z)]; exact e, ?_⟩
      rw [upd_ne (s.new a (List.mem_of_getElem? h)).2]
      exact g
    · have lt := (List.getElem?_eq_some_iff.mp h).1
      rw [List.length_append] at lt
      have lt : j < as.length + 1 := lt
      have ej : j = as.length := by omega
      rw [ej, List.getElem?_append_right (Nat.le_refl _), Nat.sub_self] at h
      cases h
      refine ⟨ys, ?_, ?_⟩
      · rw [ej, show as.length = dss.length by rw [s.la, s.ld], List.getElem?_append_right (Nat.le_refl _), Nat.sub_self]
        rfl
      · rw [upd_ne LD]
        exact hL
  · rw [List.length_append, s.la]; rfl
  · rw [List.length_append, s.ld]; rfl
  · intro ds hds
    rcases List.mem_append.mp hds with hds | hds
    · exact s.ok ds hds
    · have : ds = ys := by simpa using hds
      rw [this]
      exact ⟨l, al⟩
theorem SS.put {H0 H : Hp} {d c D a : Addr} {as : List Addr} {dss : List (List Int)} {i m p j : Nat} {n0 n1 : Int} {ys : List Int} (s : SS H0 d c D as dss i m p n0 n1 H) (hc : ∃ o, H0 c = some o) (ha : as[j]? = some a)
    (l : ys.length = p) (al : ∀ x ∈ ys, 0 ≤ x ∧ x < (m : Int)) : SS H0 d c D as (dss.set j ys) i m p n0 n1 (L2.upd H a (.lst (ys.map V.int))) := by
  obtain ⟨n, pn, b1, b2⟩ := s.pen
  have hm := List.mem_of_getElem? ha
  obtain ⟨na, aD⟩ := s.new a hm
  have ad : a ≠ d := fun e => by
    obtain ⟨ds, _, g⟩ := s.rows j a ha
    obtain ⟨kvs, h⟩ := s.dne
    rw [e, h] at g
    cases g
  have ac : a ≠ c := fun e => by
    obtain ⟨o, h⟩ := hc
    rw [e, h] at na
    cases na
  refine ⟨⟨n, pn.updA ad ac, b1, b2⟩, s.off.at na, by rw [upd_ne aD.symm]; exact s.hD, s.nD, s.nd, s.new, ?_, s.la, by rw [List.length_set, s.ld], ?_⟩
  · intro t b h
    by_cases e : t = j
    · subst e
      rw [ha] at h
      cases h
      refine ⟨ys, ?_, upd_same⟩
      rw [List.getElem?_set_self (by rw [s.ld, ← s.la]; exact (List.getElem?_eq_some_iff.mp ha).1)]
    · obtain ⟨ds, e1, g⟩ := s.rows t b h
      refine ⟨ds, by rw [List.getElem?_set_ne (Ne.symm e)]; exact e1, ?_⟩
      rw [upd_ne fun z => ?_]
      · exact g
      · subst z
        obtain ⟨h1, h2⟩ := List.getElem?_eq_some_iff.mp h
        obtain ⟨h3, h4⟩ := List.getElem?_eq_some_iff.mp ha
        exact e ((List.getElem_inj s.nd).mp (h2.trans h4.symm))
  · intro ds hds
    rcases List.mem_or_eq_of_mem_set hds with h | h
    · exact s.ok ds h
    · rw [h]
      exact ⟨l, al⟩
/-- the state behind a zero -/
def zf (dss : List (List Int)) (s : Nat) : Nat := ((dss.getD s []).getD 0 0).toNat
theorem SS.zero {H0 H : Hp} {d c D : Addr} {as : List Addr} {dss : List (List Int)} {i m p : Nat} {n0 n1 : Int} (s : SS H0 d c D as dss i m p n0 n1 H) (hp : 0 < p) {x : Nat} (hx : x < i) : ∃ a ds, as[x]? = some a ∧ dss[x]? = some ds ∧ H a = some (.lst (ds.map V.int)) ∧ (ds.map V.int)[0]? = some (.int (zf dss x : Nat)) ∧ zf dss x < m := by
  have ha := at_getD (l := as) (i := x) (by rw [s.la]; exact hx) 0
  obtain ⟨ds, e, g⟩ := s.rows _ _ ha
  obtain ⟨l, al⟩ := s.ok ds (List.mem_of_getElem? e)
  have e0 := at_getD (l := ds) (i := 0) (by omega) 0
  obtain ⟨r0, r1⟩ := al _ (List.mem_of_getElem? e0)
  have ez : zf dss x = (ds.getD 0 0).toNat := by
    unfold zf
    rw [getD_of e]
  refine ⟨_, ds, ha, e, g, ?_, by rw [ez]; omega⟩
  rw [ez, Int.toNat_of_nonneg r0]
  exact at_map e0
def lcSc : Expr → Scope
  | .ListComp _ _ sc _ => sc
  | _ => { kind := .function, names := [], isGenerator := false, isCoroutine := false }
def asgV : Stmt → Expr
  | .Assign _ v _ => v
  | s => .Constant .none 0 ⟨0, 0, 0, 0⟩

theorem SS.put1 {H0 H : Hp} {d c D b : Addr} {as : List Addr} {dss : List (List Int)} {i m p : Nat} {n0 n1 : Int} {o : HO} (s : SS H0 d c D as dss i m p n0 n1 H) (b1 : H0 b = none) (b2 : b ≠ D) (b3 : b ∉ as) (b4 : b ≠ d) (b5 : b ≠ c) :
    SS H0 d c D as dss i m p n0 n1 (L2.upd H b o) where
  pen := let ⟨n, pn, x, y⟩ := s.pen; ⟨n, pn.updA b4 b5, x, y⟩
  off := s.off.at b1
  hD := (upd_ne b2.symm).trans s.hD
  nD := s.nD
  nd := s.nd
  new := s.new
  rows := fun j a h => by
    obtain ⟨ds, e, g⟩ := s.rows j a h
    refine ⟨ds, e, ?_⟩
    rw [upd_ne fun z => b3 (by rw [← z]; exact List.mem_of_getElem? h)]
    exact g
  la := s.la
  ld := s.ld
  ok := s.ok
/-- what a new address is not -/
theorem SS.fresh {H0 H : Hp} {d c D b : Addr} {as : List Addr} {dss : List (List Int)} {i m p : Nat} {n0 n1 : Int} (s : SS H0 d c D as dss i m p n0 n1 H) (hb : H b = none) : H0 b = none ∧ b ≠ D ∧ b ∉ as ∧ b ≠ d ∧ b ≠ c := by
  obtain ⟨kvs, hd⟩ := s.dne
  refine ⟨s.off.gone ⟨_, hd⟩ hb, fun e => ?_, fun e => ?_, fun e => ?_, fun e => ?_⟩
  · rw [e, s.hD] at hb; cases hb
  · obtain ⟨j, hj⟩ := List.getElem?_of_mem e
    obtain ⟨ds, _, g⟩ := s.rows j b hj
    rw [g] at hb; cases hb
  · rw [e, hd] at hb; cases hb
  · obtain ⟨n, pn, _⟩ := s.pen
    obtain ⟨o, h⟩ := pn.atc
    rw [e, h] at hb; cases hb
/-- heads as a list -/
def HL (h : Nat → Nat) (m : Nat) : List Int := (List.range m).map fun s => ((h s : Nat) : Int)
theorem HL_len (h : Nat → Nat) (m : Nat) : (HL h m).length = m := by
  unfold HL
  rw [List.length_map, List.length_range]
theorem HL_at {h : Nat → Nat} {m s : Nat} (hs : s < m) : (HL h m)[s]? = some ((h s : Nat) : Int) := by
  unfold HL
  rw [List.getElem?_map, List.getElem?_range hs]
  rfl
theorem HL_set {h : Nat → Nat} {m i v : Nat} (hi : i < m) : (HL h m).set i (v : Int) = HL (fun t => if t = i then v else h t) m := by
  apply List.ext_getElem?
  intro j
  by_cases lt : j < m
  · rw [HL_at lt]
    by_cases e : j = i
    · rw [e, List.getElem?_set_self (by rw [HL_len]; exact hi)]
      simp
    · rw [List.getElem?_set_ne (Ne.symm e), HL_at lt, if_neg e]
  · rw [List.getElem?_eq_none (by rw [List.length_set, HL_len]; omega), List.getElem?_eq_none (by rw [HL_len]; omega)]
theorem HL_relax {z h : Nat → Nat} {m s : Nat} : HL (fun t => if t = z s then min (h s) (h (z s)) else if t = s then min (h s) (h (z s)) else h t) m = HL (relax z h s) m := by
  unfold HL relax
  refine List.map_congr_left fun t _ => ?_
  show (((if t = z s then min (h s) (h (z s)) else if t = s then min (h s) (h (z s)) else h t) : Nat) : Int) = ((if t = s ∨ t = z s then min (h s) (h (z s)) else h t : Nat) : Int)
  by_cases e1 : t = z s
  · rw [if_pos e1, if_pos (.inr e1)]
  · by_cases e2 : t = s
    · rw [if_neg e1, if_pos e2, if_pos (.inl e2)]
    · rw [if_neg e1, if_neg e2, if_neg (fun q => q.elim e2 e1)]
/-! ### the law's plain machines -/
abbrev kP : Key := Sum.inr "p"
abbrev kM : Key := Sum.inr "moves"
abbrev kW : Key := Sum.inr "worths"
theorem kpne : (kP = kM) = False ∧ (kP = kW) = False ∧ (kM = kW) = False ∧ (kM = kP) = False ∧ (kW = kP) = False ∧ (kW = kM) = False := by
  refine ⟨?_, ?_, ?_, ?_, ?_, ?_⟩ <;> exact eq_false (by decide +kernel)
structure PlM (H : Hp) (d a : Addr) (p : Int) (dss : List (List Int)) (ws : List Int) : Prop where
  good : MGood p dss ws
  st : stdy dss ws = true
  ne : a ≠ d
  at_ : ∃ (kvs : List (Key × V)) (M W : Addr) (as : List Addr), H a = some (.dK kvs) ∧ valV kvs kP = some (.int p) ∧ valV kvs kM = some (.ref M) ∧ valV kvs kW = some (.ref W) ∧ H M = some (.lst (as.map V.ref)) ∧
    Paired (fun (b : Addr) ds => H b = some (.lst (ds.map V.int))) as dss ∧ H W = some (.lst (ws.map V.int))
theorem PlM.off {H H' : Hp} {d a : Addr} {p : Int} {dss : List (List Int)} {ws : List Int} (h : PlM H d a p dss ws) (m : Off d H H') (hd : ∃ kvs, H d = some (.dK kvs)) : PlM H' d a p dss ws where
  good := h.good
  st := h.st
  ne := h.ne
  at_ := by
    obtain ⟨kd, hd⟩ := hd
    obtain ⟨kvs, M, W, as, h1, h2, h3, h4, h5, h6, h7⟩ := h.at_
    have nl : ∀ {b : Addr} {xs : List V}, H b = some (.lst xs) → b ≠ d := fun {b xs} e z => by
      rw [z, hd] at e
      cases e
    exact ⟨kvs, M, W, as, m _ _ h1 h.ne, h2, h3, h4, m _ _ h5 (nl h5), paired_imp (fun b ds e => m _ _ e (nl e)) h6, m _ _ h7 (nl h7)⟩
theorem PlM.more {H H' : Hp} {d a : Addr} {p : Int} {dss : List (List Int)} {ws : List Int} (h : PlM H d a p dss ws) (m : More H H') : PlM H' d a p dss ws where
  good := h.good
  st := h.st
  ne := h.ne
  at_ := by
    obtain ⟨kvs, M, W, as, h1, h2, h3, h4, h5, h6, h7⟩ := h.at_
    exact ⟨kvs, M, W, as, m _ _ h1, h2, h3, h4, m _ _ h5, paired_imp (fun b ds e => m _ _ e) h6, m _ _ h7⟩
theorem Pen.isd {H : Hp} {d c : Addr} {n : Int} (h : Pen H d c n) : ∃ kvs, H d = some (.dK kvs) := let ⟨kvs, _, _, _, _, h1, _⟩ := h; ⟨kvs, h1⟩
/-- what a maker of machines tells -/
def MkQ (k : Int) (H : Hp) (d c : Addr) (n : Int) (Q : VK) : Prop := ∀ (H' : Hp) (a : Addr) (p : Int) (dss : List (List Int)) (ws : List Int) (n' : Int), PlM H' d a p dss ws → dss.length ≤ 20 → Pen H' d c n' → n ≤ n' → n' ≤ n + k → Off d H H' → Q (.ref a) H'
def spLm : Sp := fun vs H Q _ => ∃ (d c : Addr) (n : Int) (p m : Nat), vs = [.ref d, .int p, .int m] ∧ Pen H d c n ∧ 0 ≤ n ∧ n < 810000000 ∧ isPr p = true ∧ 1 ≤ m ∧ m ≤ 20 ∧
  ∀ (H' : Hp) (a : Addr) (dss : List (List Int)) (ws : List Int) (n' : Int), PlM H' d a p dss ws → dss.length ≤ m → Pen H' d c n' → n ≤ n' → n' ≤ n + 900 → Off d H H' → Q (.ref a) H'
/-- worths told by heads that are one at both ends of each edge -/
theorem stdy_heads {p : Nat} {dss : List (List Int)} {ws : List Int} (hp : 0 < p) (ok : ∀ ds ∈ dss, ds.length = p ∧ ∀ x ∈ ds, 0 ≤ x ∧ x < (dss.length : Int)) (lw : ws.length = dss.length) (h : ∀ s, s < dss.length → ws.getD s 0 = ws.getD (zf dss s) 0) : stdy dss ws = true := by
  unfold stdy
  rw [List.all_eq_true]
  intro b hb
  obtain ⟨x, hx⟩ := List.getElem?_of_mem hb
  rw [List.getElem?_zipWith] at hx
  cases e1 : dss[x]? with
  | none => rw [e1] at hx; cases hx
  | some ds =>
    cases e2 : ws[x]? with
    | none => rw [e1, e2] at hx; cases hx
    | some w0 =>
      rw [e1, e2] at hx
      cases hx
      have lx := (List.getElem?_eq_some_iff.mp e1).1
      have := h x lx
      rw [getD_of e2] at this
      refine decide_eq_true ?_
      rw [this]
      congr 1
      unfold zf
      rw [getD_of e1]
/-- the dict of a plain machine is made -/
theorem plm_mk {H : Hp} {d a D W : Addr} {p : Int} {as : List Addr} {dss : List (List Int)} {ws : List Int} (good : MGood p dss ws) (st : stdy dss ws = true) (ne : a ≠ d) (hD : H D = some (.lst (as.map V.ref)))
    (hR : Paired (fun (b : Addr) ds => H b = some (.lst (ds.map V.int))) as dss) (hW : H W = some (.lst (ws.map V.int))) (ha : H a = some (.dK [])) : PlM (L2.upd H a (.dK (mergeK [] [(kP, V.int p), (kM, .ref D), (kW, .ref W)]))) d a p dss ws := by
  obtain ⟨q1, q2, q3, q4, q5, q6⟩ := kpne
  have em : mergeK [] [(kP, V.int p), (kM, .ref D), (kW, .ref W)] = putK (putK (putK [] kP (.int p)) kM (.ref D)) kW (.ref W) := rfl
  have nl : ∀ {b : Addr} {xs : List V}, H b = some (.lst xs) → b ≠ a := fun {b xs} e z => by
    rw [z, ha] at e
    cases e
  refine ⟨good, st, ne, _, D, W, as, upd_same, ?_, ?_, ?_, (upd_ne (nl hD)).trans hD, paired_imp (fun b ds e => (upd_ne (nl e)).trans e) hR, (upd_ne (nl hW)).trans hW⟩
  · rw [em]; exact put_in _ _ _ (put_in _ _ _ (put_at _ _) q1) q2
  · rw [em]; exact put_in _ _ _ (put_at _ _) q3
  · rw [em]; exact put_at _ _
theorem SS.paired {H0 H : Hp} {d c D : Addr} {as : List Addr} {dss : List (List Int)} {i m p : Nat} {n0 n1 : Int} (s : SS H0 d c D as dss i m p n0 n1 H) : Paired (fun (b : Addr) ds => H b = some (.lst (ds.map V.int))) as dss :=
  paired_of (by rw [s.la, s.ld]) fun j b ds hb hds => by
    obtain ⟨ds', e, g⟩ := s.rows j b hb
    rw [hds] at e
    cases e
    exact g
theorem SS.good {H0 H : Hp} {d c D : Addr} {as : List Addr} {dss : List (List Int)} {i p : Nat} {n0 n1 : Int} {ws : List Int} (s : SS H0 d c D as dss i i p n0 n1 H) (pr : isPr p = true) (h0 : 0 < i) (h1 : i ≤ 1000) (lw : ws.length = i) : MGood p dss ws :=
  ⟨pr, fun e => by have := s.ld; rw [e, List.length_nil] at this; omega, fun ds hds => by
    obtain ⟨l, al⟩ := s.ok ds hds
    exact ⟨by rw [l], fun x hx => by rw [s.ld]; exact al x hx⟩, by rw [lw, s.ld], by rw [s.ld]; omega⟩
theorem SS.steady {H0 H : Hp} {d c D : Addr} {as : List Addr} {dss : List (List Int)} {i p : Nat} {n0 n1 : Int} {ws : List Int} (s : SS H0 d c D as dss i i p n0 n1 H) (hp : 0 < p) (lw : ws.length = i) (h : ∀ t, t < i → ws.getD t 0 = ws.getD (zf dss t) 0) : stdy dss ws = true :=
  stdy_heads hp (fun ds hds => by
    obtain ⟨l, al⟩ := s.ok ds hds
    exact ⟨l, fun x hx => by rw [s.ld]; exact al x hx⟩) (by rw [lw, s.ld]) fun t ht => h t (by rw [s.ld] at ht; exact ht)
theorem pick_pr {x : V} (h : x ∈ [V.int 2, .int 2, .int 3, .int 5, .int 7]) : ∃ p : Nat, x = .int p ∧ isPr p = true := by
  simp only [List.mem_cons, List.not_mem_nil, or_false] at h
  obtain rfl | rfl | rfl | rfl | rfl := h
  · exact ⟨2, rfl, by decide⟩
  · exact ⟨2, rfl, by decide⟩
  · exact ⟨3, rfl, by decide⟩
  · exact ⟨5, rfl, by decide⟩
  · exact ⟨7, rfl, by decide⟩
def spPl : Sp := fun vs H Q _ => ∃ (d c : Addr) (n : Int), vs = [.ref d] ∧ Pen H d c n ∧ 0 ≤ n ∧ n < 810000000 ∧ MkQ 900 H d c n Q
def spKn : Sp := fun vs H Q _ => ∃ (d c : Addr) (n : Int), vs = [.ref d] ∧ Pen H d c n ∧ 0 ≤ n ∧ n < 800000000 ∧ MkQ 1000 H d c n Q
/-- a row of two numbers -/
theorem row_two {x y : Int} {p k : Nat} (hk : k + 1 = p) : ([V.int x] ++ List.replicate k (V.int y)) = ((x :: List.replicate k y).map V.int) := by
  rw [List.map_cons, List.map_replicate]
  rfl
def spMd (K : PySem.W.Frag) (C : Addr) : Sp := fun vs H Q _ => ∃ (a d : Addr) (p : Int) (dss : List (List Int)) (ws : List Int), vs = [.ref a] ∧ PlM H d a p dss ws ∧ ∀ H' b, More H H' → MAt K H' C b p dss ws → Q (.ref b) H'
def spTd : Sp := fun vs H Q _ => ∃ (a d : Addr) (p : Int) (n : Nat) (dss : List (List Int)) (ws : List Int), vs = [.ref a, .int n] ∧ PlM H d a p dss ws ∧ n < 2 ^ 400 ∧ ∀ H', More H H' → Q (.int (ws.getD (runM dss (dgs p.toNat n)) 0)) H'
def spWt : Sp := fun vs H Q _ => ∃ (a d : Addr) (p : Int) (m : Nat) (dss : List (List Int)) (ws : List Int), vs = [.ref a, .int m] ∧ PlM H d a p dss ws ∧ m ≤ 1000 ∧
  ∀ H' l rs, More H H' → H l = none → H' l = some (.lst (rs.map V.ref)) → rs.length = m + 1 → Ways dss rs H' → Q (.ref l) H'
def spBb : Sp := fun vs H Q _ => ∃ (a d l : Addr) (p v : Int) (n : Nat) (dss : List (List Int)) (ws : List Int) (rs : List Addr), vs = [.ref a, .ref l, .int v, .int n] ∧ PlM H d a p dss ws ∧ H l = some (.lst (rs.map V.ref)) ∧ Ways dss rs H ∧ (digN p.toNat n).length ≤ rs.length ∧ n < 2 ^ 400 ∧
  ∀ H', More H H' → Q (.int (cntV p dss ws v n)) H'
def spBl : Sp := fun vs H Q _ => ∃ (a d : Addr) (p v : Int) (n : Nat) (dss : List (List Int)) (ws : List Int), vs = [.ref a, .int v, .int n] ∧ PlM H d a p dss ws ∧ n < 2 ^ 400 ∧ ∀ H', More H H' → Q (.int (cntV p dss ws v n)) H'
/-- what is read of a plain machine -/
theorem PlM.row {H : Hp} {as : List Addr} {dss : List (List Int)} (h : Paired (fun (b : Addr) ds => H b = some (.lst (ds.map V.int))) as dss) {s : Nat} (hs : s < dss.length) : ∃ b, as[s]? = some b ∧ H b = some (.lst ((dss.getD s []).map V.int)) := by
  have l := Paired.length h
  have e : as[s]? = some (as[s]'(by omega)) := List.getElem?_eq_getElem (by omega)
  obtain ⟨ds, h1, h2⟩ := paired_at h e
  exact ⟨_, e, by rw [getD_of h1]; exact h2⟩
theorem ways_first (n : Nat) (h : 0 < n) : ((List.range n).map fun s => if s = 0 then (1 : Int) else 0) = 1 :: List.replicate (n - 1) 0 := by
  apply List.ext_getElem?
  intro j
  by_cases lt : j < n
  · rw [List.getElem?_map, List.getElem?_range lt]
    cases j with
    | zero => rfl
    | succ j =>
      rw [List.getElem?_cons_succ, List.getElem?_replicate, if_pos (by omega)]
      rfl
  · rw [List.getElem?_eq_none (by rw [List.length_map, List.length_range]; omega), List.getElem?_eq_none (by rw [List.length_cons, List.length_replicate]; omega)]
theorem mkOk {K : PySem.W.Frag} {H : Hp} {p : Int} {a b : Addr} {xs : List V} {dss : List (List Int)} {ws : List Int} (g : MGood p dss ws) (st : stdy dss ws = true) (sq : Sq K H a xs) (hp : Paired (fun x ds => ∃ b, x = .ref b ∧ Sq K H b (ds.map V.int)) xs dss)
    (sw : Sq K H b (ws.map V.int)) : MOk K H (.int p) (.ref a) (.ref b) p dss ws := by
  have l := Paired.length hp
  have d0 := List.length_pos_iff.mpr g.ne
  refine ⟨rfl, g.pr, ⟨a, xs, rfl, sq, by rw [l]; exact g.few, fun e => by rw [e] at l; exact absurd l (by show 0 ≠ _; omega), paired_of l fun i x ds hx hds => ?_⟩, ⟨b, rfl, sw⟩, g.len, st⟩
  obtain ⟨ds', e, b, rfl, sb⟩ := paired_at hp hx
  rw [hds] at e
  cases e
  obtain ⟨l1, r⟩ := g.rows ds (List.mem_of_getElem? hds)
  exact ⟨⟨b, rfl, sb⟩, l1, by rw [l]; exact r⟩
theorem paired_map {α β γ : Type} {R : β → γ → Prop} {f : α → β} : ∀ {xs : List α} {l : List γ}, Paired (fun x y => R (f x) y) xs l → Paired R (xs.map f) l
  | _, _, .nil => .nil
  | _, _, .cons h t => .cons h (paired_map t)
end B5

namespace K78
open PySem L2 Gd B5
section
variable {P : Program} {w : World} {K : PySem.W.Frag} {mg : Str → Option Value} {base : Heap}
variable {g1 g2 f : Addr} {d1 d2 fd : FuncData}
abbrev sLm : Stmt := top 34
abbrev NLm : List Str := ["_law_pen_here", "_law_p", "_law_most", "_law_size", "_law_state", "_law_moves", "_law_heads", "_law_lap", "_law_low", "_law_told", "_law_digit", "_law_head"]
theorem scLm : FnScope NLm ["_law_pen_here", "_law_p", "_law_most"] (defScope sLm) := ⟨rfl, rfl, rfl, by decide +kernel, rfl, by decide +kernel, by decide +kernel⟩
theorem ok_lm (F : Fun K "_law_machine" "_law_machine" sLm f fd) (B : Blt mg) (zMin : mg "min" = none) (Dr : Cl K mg "_law_draw" sDraw ["_law_pen_here", "_law_many"] g1 d1) (Pi : Cl K mg "_law_pick" sPick ["_law_pen_here", "_law_some"] g2 d2) :
    FnOk P w K mg base CX0 3 f fd ["_law_pen_here", "_law_p", "_law_most"] spLm := by
  have G1 : FnOk P w K mg base CX0 1 g1 d1 ["_law_pen_here", "_law_many"] spDraw := ok_draw Dr.fn B.int_ B.len_
  have G2 : FnOk P w K mg base CX0 2 g2 d2 ["_law_pen_here", "_law_some"] (spPick K) := ok_pick Pi.fn Dr.fn Dr.b Dr.g B.int_ B.len_
  refine F.ok scLm (fun vs H Q E h => ?_) (fun cdv A outer s H vs Q E hr h => ?_)
  · obtain ⟨d, c, n, p, m, rfl, _⟩ := h
    rfl
  · obtain ⟨d, c, n, p, m, rfl, pen, n0, n1, pr, m1, m9, q⟩ := h
    have hr1 : Room 1 _ := hr.mono (by decide)
    have hu := hu_of hr
    obtain ⟨p2, p7⟩ := isPr_small pr
    refine ⟨_, pss_cons (ps_set (i := 3) scLm.nd rfl (Or.inr rfl) (pe_op op_add pe_int (pe_call G1 hr1 rfl Dr.g Dr.k Dr.b .nil pass0 (pa_cons (pv 0) (pa_cons (pv 2) pa_nil)))))
      (Evl.pss_cut (ps_setLc (i := 5) (own := [("_law_state", 4)]) (g := gName 4) (tt := tYes) rfl scLm.nd rfl rfl (sw_true rfl rfl rfl (by decide +kernel)) (pi_range1 (by rfl) B.range_ (pa_cons (pv 3) pa_nil))
          (blkOk_by (N := NLm) (sc := defScope sLm) (by decide +kernel)) (fun _ _ _ _ _ => pg_name (i := 4) scLm.nd rfl (Or.inl rfl)) (fun _ _ _ _ _ => pts_nil)
          (fun _ _ _ _ _ => by exact (pe_lc (own := [("_law_digit", 10)]) (g := gName 10) (tt := tYes) rfl scLm.nd (pi_range1 (by rfl) B.range_ (pa_cons (pv 1) pa_nil))
            (blkOk_by (N := NLm) (sc := relabel (lcSc (asgV ((defBody sLm).getD 1 (.Pass ⟨0, 0, 0, 0⟩)))) (PyProof.Rows.envOfC "_law_machine" (defScope sLm) 0 0 .none)) (by decide +kernel))
            (fun _ _ _ _ _ => pg_name (i := 10) scLm.nd rfl (Or.inl rfl)) (fun _ _ _ _ _ => pts_nil)
            (fun _ _ _ _ _ => pe_call G1 hr1 rfl Dr.g Dr.k Dr.b .nil pass0 (pa_cons (pv 0) (pa_cons (pv 3) pa_nil))))))
      (pss_cons (ps_set (i := 6) scLm.nd rfl (Or.inl rfl) (pe_listRg rfl (by rfl) B.list_ (prg_1 (by rfl) B.range_ (pv 3))))
      (Evl.pss_cut (ps_for PassesOwn.never rfl (pi_range1 (by rfl) B.range_ (pa_cons (pv 3) pa_nil)) (pg_name (i := 7) scLm.nd rfl (Or.inl rfl))
        (pss_one (ps_for PassesOwn.never rfl (pi_range1 (by rfl) B.range_ (pa_cons (pv 3) pa_nil)) (pg_name (i := 4) scLm.nd rfl (Or.inl rfl))
          (pss_cons (ps_set (i := 8) scLm.nd rfl (Or.inl rfl) (pe_callB (call_min2 rfl) (by rfl) zMin (by decide +kernel) (pa_cons (pe_ix ix_list (pv 6) (pv 4) (fun _ _ => rfl))
              (pa_cons (pe_ix ix_list (pv 6) (pe_ix ix_list (pe_ix ix_list (pv 5) (pv 4) (fun _ _ => rfl)) pe_int (fun _ _ => rfl)) (fun _ _ => rfl)) pa_nil))))
          (pss_cons (ps_asg (pv 8) (pg_sub (pv 6) (pv 4) set_list))
          (pss_one (ps_asg (pv 8) (pg_sub (pv 6) (pe_ix ix_list (pe_ix ix_list (pv 5) (pv 4) (fun _ _ => rfl)) pe_int (fun _ _ => rfl)) set_list))))))))
      (Evl.pss_cut (ps_set (i := 9) scLm.nd rfl (Or.inr rfl) (pe_lc (own := [("_law_state", 4)]) (g := gName 4) (tt := tYes) rfl scLm.nd (pi_range1 (by rfl) B.range_ (pa_cons (pv 3) pa_nil))
          (blkOk_by (N := NLm) (sc := defScope sLm) (by decide +kernel)) (fun _ _ _ _ _ => pg_name (i := 4) scLm.nd rfl (Or.inl rfl)) (fun _ _ _ _ _ => pts_nil)
          (fun _ _ _ _ _ => pe_call G2 hr rfl Pi.g Pi.k Pi.b .nil pass0 (pa_cons (pv 0) (pa_cons (pe_lst (pa_cons pe_int (pa_cons pe_int (pa_cons pe_int (pa_cons pe_int (pa_cons (pe_un un_neg pe_int) pa_nil)))))) pa_nil)))))
      (pss_one (ps_ret (pe_disp (pps_cons pe_str (pv 1) (pps_cons pe_str (pv 5) (pps_cons pe_str
        (pe_lc (own := [("_law_head", 11)]) (g := gName 11) (tt := tYes) rfl scLm.nd (pi_list (pv 6)) (blkOk_by (N := NLm) (sc := defScope sLm) (by decide +kernel)) (fun _ _ _ _ _ => pg_name (i := 11) scLm.nd rfl (Or.inl rfl)) (fun _ _ _ _ _ => pts_nil)
          (fun _ _ _ _ _ => pe_ix (r := rIxL K) ix_list (pv 9) (pv 11) (fun _ _ => rfl))) pps_nil))) rfl rfl (by simp) (by decide)))))))), ?_⟩
    refine ⟨_, rfl, _, rfl, d, c, n, m, rfl, pen, by omega, by omega, n0, by omega, fun r H1 r0 r1 dr => ?_⟩
    refine ⟨_, _, rfl, rfl, ?_⟩
    obtain ⟨mm, em, mm1, mm9⟩ : ∃ mm : Nat, 1 + r = (mm : Int) ∧ 1 ≤ mm ∧ mm ≤ m := ⟨(1 + r).toNat, by omega, by omega, by omega⟩
    show gName 3 (V.int (1 + r)) _ _ _
    rw [em]
    obtain ⟨oc', hc0⟩ := pen.atc
    have hd1 := dr.pen.at
    refine ⟨fun σ' H' => ∃ D as dss, σ' = [some (.ref d), some (.int p), some (.int m), some (.int mm), none, some (.ref D), none, none, none, none, none, none] ∧ SS H d c D as dss mm mm p n (n + 1 + 7 * mm) H', ?_, ?_⟩
    · refine ⟨_, rfl, _, rfl, by omega, by omega, fun D hD => lc_range (lo := 0) (n := mm) (fun i H' => ∃ as dss, SS H d c D as dss i mm p n (n + 1 + 7 * i) H') ⟨[], [], ?_⟩ ?_ ?_⟩
      · refine ⟨⟨_, dr.pen.upd hD, by omega, by omega⟩, (Off.dr dr).trans (.of (new_more hD)), upd_same, (Off.dr dr).gone hd1 hD, List.nodup_nil, nofun, fun j a h => ?_, rfl, rfl, nofun⟩
        rw [List.getElem?_nil] at h
        cases h
      · rintro i H2 hi ⟨as, dss, s2⟩
        have cD : c ≠ D := fun e => by rw [e, s2.nD] at hc0; cases hc0
        refine ⟨rfl, _, rfl, _, rfl, by omega, by omega, fun L hL => lc_range (lo := 0) (n := p) (fun j H' => ∃ ys : List Int, ys.length = j ∧ (∀ y ∈ ys, 0 ≤ y ∧ y < (mm : Int)) ∧ H' L = some (.lst (ys.map V.int)) ∧ (∃ n', Pen H' d c n' ∧ n ≤ n' ∧ n' ≤ n + 1 + 7 * i + j) ∧ Off d H2 H')
          ⟨[], rfl, nofun, upd_same, ?_, .of (new_more hL)⟩ ?_ ?_⟩
        · obtain ⟨n', pn, b1, b2⟩ := s2.pen
          exact ⟨n', pn.upd hL, b1, by omega⟩
        · rintro j H3 hj ⟨ys, e1, e2, e3, ⟨n', pn, b1, b2⟩, o3⟩
          refine ⟨rfl, _, rfl, _, rfl, d, c, n', mm, rfl, pn, by omega, by omega, by omega, by omega, fun r H4 r0 r1 dr4 => ?_⟩
          have Ld : L ≠ d := fun e => by
            obtain ⟨kvs, h⟩ := s2.dne
            rw [e, h] at hL
            cases hL
          have Lc : L ≠ c := fun e => by
            obtain ⟨_, pn2, _⟩ := s2.pen
            obtain ⟨o, h⟩ := pn2.atc
            rw [e, h] at hL
            cases hL
          refine ⟨_, (dr4.off L Ld).trans e3, by rw [List.length_map]; exact small1000 (by omega), ys ++ [r], by rw [List.length_append, e1]; rfl, ?_, ?_, ⟨_, dr4.pen.updA Ld Lc, by omega, by omega⟩, (o3.trans (.dr dr4)).at hL⟩
          · intro y hy
            rcases List.mem_append.mp hy with hy | hy
            · exact e2 y hy
            · have : y = r := by simpa using hy
              omega
          · rw [upd_same, List.map_append]
            rfl
        · rintro H3 ⟨ys, e1, e2, e3, ⟨n', pn, b1, b2⟩, o3⟩
          have s3 := s2.snoc (n2 := n + 1 + 7 * ((i + 1 : Nat) : Int)) o3 ⟨n', pn, b1, by omega⟩ cD hL e3 e1 e2
          refine ⟨_, (s2.keep o3 ⟨n', pn, b1, b2⟩).hD, by rw [List.length_map, s2.la]; exact small1000 (by omega), as ++ [L], dss ++ [ys], ?_⟩
          rw [List.map_append] at s3
          exact s3
      · rintro H2 ⟨as, dss, s2⟩
        exact ⟨D, as, dss, rfl, s2⟩
    clear hd1 dr
    rintro σ1 H2 ⟨D, as, dss, rfl, s2⟩
    -- heads
    have fl : ∀ x, x < mm → zf dss x < mm := fun x hx => let ⟨_, _, _, _, _, _, z⟩ := s2.zero (by omega) hx; z
    obtain ⟨zz, hzz⟩ : ∃ zz : Nat → Nat, ∀ x, zz x = if x < mm then zf dss x else x := ⟨_, fun _ => rfl⟩
    have zl : ∀ s, s < mm → zz s < mm := fun s hs => by rw [hzz, if_pos hs]; exact fl s hs
    have zo : ∀ s, mm ≤ s → zz s = s := fun s hs => by rw [hzz, if_neg (by omega)]
    have hI : HInv zz mm id := ⟨fun s _ => .refl s, fun s _ => Nat.le_refl _⟩
    refine ⟨_, rfl, mm, rfl, .of_le (by omega) (by omega) (by omega) (by omega), fun hA nhA => ?_⟩
    obtain ⟨b1, b2, b3, b4, b5⟩ := s2.fresh nhA
    refine ⟨fun σ' H' => ∃ z4 z7 z8, σ' = [some (.ref d), some (.int p), some (.int m), some (.int mm), z4, some (.ref D), some (.ref hA), z7, z8, none, none, none] ∧ SS H d c D as dss mm mm p n (n + 1 + 7 * mm) H' ∧ H' hA = some (.lst ((HL (lapsH zz mm id mm) mm).map V.int)), ?_, ?_⟩
    · refine ⟨_, rfl, _, rfl, by omega, by omega, for_range (lo := 0) (n := mm) (fun i σ' H' => ∃ z4 z7 z8, σ' = [some (.ref d), some (.int p), some (.int m), some (.int mm), z4, some (.ref D), some (.ref hA), z7, z8, none, none, none] ∧ SS H d c D as dss mm mm p n (n + 1 + 7 * mm) H' ∧ H' hA = some (.lst ((HL (lapsH zz mm id i) mm).map V.int)))
        ⟨none, none, none, rfl, s2.put1 b1 b2 b3 b4 b5, ?_⟩ ?_ (fun σ' H' h => h)⟩
      · rw [upd_same]
        unfold rgV HL
        rw [List.map_map]
        congr 2
        show List.map _ (List.range (((mm : Nat) : Int) - 0).toNat) = _
        rw [show (((mm : Nat) : Int) - 0).toNat = mm by omega]
        refine List.map_congr_left fun x _ => ?_
        show V.int (0 + (x : Nat)) = V.int ((x : Nat) : Int)
        rw [Int.zero_add]
      · rintro i σ2 H3 hi ⟨z4, z7, z8, rfl, s3, h3⟩
        refine ⟨_, rfl, _, rfl, by omega, by omega, for_range (lo := 0) (n := mm) (fun j σ' H' => ∃ z4 z8, σ' = [some (.ref d), some (.int p), some (.int m), some (.int mm), z4, some (.ref D), some (.ref hA), some (.int (0 + i)), z8, none, none, none] ∧ SS H d c D as dss mm mm p n (n + 1 + 7 * mm) H' ∧ H' hA = some (.lst ((HL (lapH zz (lapsH zz mm id i) j) mm).map V.int)))
          ⟨z4, z8, rfl, s3, h3⟩ ?_ ?_⟩
        · rintro j σ3 H4 hj ⟨z4, z8, rfl, s4, h4⟩
          rw [Int.zero_add]
          obtain ⟨a, ds, ha, hds, hHa, h0, _⟩ := s4.zero (by omega) hj
          have ez : zf dss j = zz j := by rw [hzz, if_pos hj]
          rw [ez] at h0
          have zj := zl j hj
          generalize eh : lapH zz (lapsH zz mm id i) j = hh at h4
          have low : (if ((hh (zz j) : Nat) : Int) < ((hh j : Nat) : Int) then ((hh (zz j) : Nat) : Int) else ((hh j : Nat) : Int)) = ((min (hh j) (hh (zz j)) : Nat) : Int) := by
            by_cases e : hh (zz j) < hh j
            · rw [if_pos (by omega), Nat.min_eq_right (by omega)]
            · rw [if_neg (by omega), Nat.min_eq_left (by omega)]
          refine ⟨_, rfl, _, rfl, hA, _, _, _, rfl, rfl, SqL.of h4, atI_nat (at_map (HL_at hj)), ?_⟩
          refine ⟨_, rfl, _, rfl, _, rfl, D, _, _, _, rfl, rfl, SqL.of s4.hD, atI_nat (at_map ha), a, _, 0, _, rfl, rfl, SqL.of hHa, atI_nat (j := 0) h0, hA, _, _, _, rfl, rfl, SqL.of h4, atI_nat (at_map (HL_at zj)), _, _, rfl, ?_⟩
          show gName 8 (V.int _) _ _ _
          rw [low]
          have s5 := s4.put1 (o := .lst (((HL hh mm).map V.int).set j (.int ((min (hh j) (hh (zz j)) : Nat) : Int)))) b1 b2 b3 b4 b5
          refine ⟨_, rfl, _, rfl, _, rfl, hA, _, _, j, rfl, rfl, h4, ixN_int rfl (by rw [List.length_map, HL_len]; exact hj), ?_⟩
          have k5 : (upd H4 hA (.lst (((HL hh mm).map V.int).set j (.int ((min (hh j) (hh (zz j)) : Nat) : Int))))) hA = some (.lst ((HL (fun t => if t = j then min (hh j) (hh (zz j)) else hh t) mm).map V.int)) := by
            rw [upd_same, ← HL_set hj, List.map_set]
          generalize upd H4 hA (.lst (((HL hh mm).map V.int).set j (.int ((min (hh j) (hh (zz j)) : Nat) : Int)))) = H5 at s5 k5 ⊢
          obtain ⟨a', ds', ha', hds', hHa', h0', _⟩ := s5.zero (by omega) hj
          rw [ez] at h0'
          refine ⟨_, rfl, _, rfl, _, rfl, _, rfl, D, _, _, _, rfl, rfl, SqL.of s5.hD, atI_nat (at_map ha'), a', _, 0, _, rfl, rfl, SqL.of hHa', atI_nat (j := 0) h0', hA, _, _, zz j, rfl, rfl, k5, ixN_int rfl (by rw [List.length_map, HL_len]; exact zj), ?_⟩
          refine ⟨_, _, rfl, s5.put1 b1 b2 b3 b4 b5, ?_⟩
          rw [upd_same, ← List.map_set, HL_set zj, HL_relax, ← eh]
          rfl
        · rintro σ3 H4 ⟨z4, z8, rfl, s4, h4⟩
          exact ⟨_, _, _, rfl, s4, h4⟩
    rintro σ2 H3 ⟨z4, z7, z8, rfl, s3, h3⟩
    -- what they tell
    refine ⟨fun σ' H' => ∃ (T : Addr) (ts : List Int), σ' = [some (.ref d), some (.int p), some (.int m), some (.int mm), z4, some (.ref D), some (.ref hA), z7, z8, some (.ref T), none, none] ∧ SS H d c D as dss mm mm p n (n + 1 + 8 * mm) H' ∧ H' hA = some (.lst ((HL (lapsH zz mm id mm) mm).map V.int)) ∧ H' T = some (.lst (ts.map V.int)) ∧ ts.length = mm, ?_, ?_⟩
    · refine ⟨_, rfl, _, rfl, by omega, by omega, fun T hT => lc_range (lo := 0) (n := mm) (fun i H' => ∃ ts : List Int, SS H d c D as dss mm mm p n (n + 1 + 7 * mm + i) H' ∧ H' hA = some (.lst ((HL (lapsH zz mm id mm) mm).map V.int)) ∧ H' T = some (.lst (ts.map V.int)) ∧ ts.length = i)
        ⟨[], ?_, ?_, upd_same, rfl⟩ ?_ ?_⟩
      · have s4 := s3.more (new_more (o := .lst []) hT)
        exact s4.keep .refl (let ⟨n', a, b, e⟩ := s4.pen; ⟨n', a, b, by omega⟩)
      · exact new_more hT _ _ h3
      · rintro i H4 hi ⟨ts, s4, h4, hT4, lt⟩
        obtain ⟨c1, c2, c3, c4, c5⟩ := s3.fresh hT
        obtain ⟨n', pn, e1, e2⟩ := s4.pen
        refine ⟨rfl, _, rfl, _, rfl, by show 5 ≤ sizeLine; decide, fun L hL => ?_⟩
        refine ⟨d, c, L, n', _, rfl, pn.upd hL, upd_same, by show 0 < 5; decide, by show 5 ≤ 1000; decide, by omega, by omega, fun x H5 hx dr => ?_⟩
        obtain ⟨z, rfl⟩ : ∃ z, x = .int z := by
          rcases List.mem_cons.mp hx with rfl | hx
          · exact ⟨_, rfl⟩
          rcases List.mem_cons.mp hx with rfl | hx
          · exact ⟨_, rfl⟩
          rcases List.mem_cons.mp hx with rfl | hx
          · exact ⟨_, rfl⟩
          rcases List.mem_cons.mp hx with rfl | hx
          · exact ⟨_, rfl⟩
          rcases List.mem_cons.mp hx with rfl | hx
          · exact ⟨_, rfl⟩
          · exact (List.not_mem_nil hx).elim
        have o5 : Off d H4 H5 := (Off.of (new_more hL)).trans (.dr dr)
        have s5 := s4.keep (n2 := n + 1 + 7 * mm + ((i + 1 : Nat) : Int)) o5 ⟨_, dr.pen, by omega, by omega⟩
        have hT5 := o5 _ _ hT4 c4
        have h5 := o5 _ _ h4 b4
        have TA : hA ≠ T := ne_of_none h3 hT
        refine ⟨_, hT5, by rw [List.length_map, lt]; exact small1000 (by omega), ts ++ [z], s5.put1 c1 c2 c3 c4 c5, (upd_ne TA).trans h5, ?_, by rw [List.length_append, lt]; rfl⟩
        rw [upd_same, List.map_append]
        rfl
      · rintro H4 ⟨ts, s4, h4, hT4, lt⟩
        exact ⟨T, ts, rfl, s4.keep .refl (let ⟨n', a, b, e⟩ := s4.pen; ⟨n', a, b, by omega⟩), h4, hT4, lt⟩
    rintro σ3 H4 ⟨T, ts, rfl, s4, h4, hT4, lt⟩
    intro a na
    have m5 := new_more (o := .dK []) na
    have k5 : (upd H4 a (.dK [])) a = some (.dK []) := upd_same
    obtain ⟨a1, a2, a3, a4, a5⟩ := s4.fresh na
    generalize upd H4 a (.dK []) = H5 at m5 k5 ⊢
    have s5 := s4.more m5
    have h5 := m5 _ _ h4
    have hT5 := m5 _ _ hT4
    -- the worths of the states
    obtain ⟨ws, hws⟩ : ∃ ws : List Int, ws = (HL (lapsH zz mm id mm) mm).map fun x => ts.getD x.toNat 0 := ⟨_, rfl⟩
    have hIL := hI.laps zl mm
    have hlow : ∀ s, s < mm → lapsH zz mm id mm s < mm := fun s hs => by have := hIL.low s hs; omega
    have lws : ws.length = mm := by rw [hws, List.length_map, HL_len]
    have wsat : ∀ s, s < mm → ws[s]? = some (ts.getD (lapsH zz mm id mm s) 0) := fun s hs => by
      rw [hws, List.getElem?_map, HL_at hs]
      rfl
    refine ⟨_, rfl, _, rfl, _, rfl, hA, rfl, ⟨_, SqL.of h5⟩, fun W hW => ?_⟩
    refine lc_name (n := 11) (D := W) (H1 := H5) (xs := (HL (lapsH zz mm id mm) mm).map V.int) (rs := ws.map V.int) walk_list hW (fun H' m => Same.seq m (SqL.of h5)) (by rw [List.length_map, List.length_map, lws, HL_len]) (by rw [List.length_map, HL_len]; omega) (fun _ => rfl) ?_ ?_
    · intro i y v H6 Q6 hy hv m6 q6
      obtain ⟨x, hx, rfl⟩ := map_at hy
      obtain ⟨v0, hv0, rfl⟩ := map_at hv
      have hi : i < mm := by have := (List.getElem?_eq_some_iff.mp hx).1; rw [HL_len] at this; exact this
      rw [HL_at hi] at hx
      cases hx
      rw [wsat i hi] at hv0
      cases hv0
      exact ⟨_, rfl, _, rfl, T, _, _, _, rfl, rfl, SqL.of (m6 _ _ hT5), atI_nat (at_map (at_getD (by rw [lt]; exact hlow i hi) 0)), q6 _ fun _ _ e => e⟩
    · intro H6 k6 m6
      have s6 := s5.more m6
      have Wa : W ≠ a := fun e => by rw [e, k5] at hW; cases hW
      refine ⟨m6 _ _ k5, [(kP, .int p), (kM, .ref D), (kW, .ref W)], rfl, by show 3 ≤ 15; decide, ?_⟩
      obtain ⟨q1, q2, q3, q4, q5, q6⟩ := kpne
      have em : mergeK [] [(kP, V.int p), (kM, .ref D), (kW, .ref W)] = putK (putK (putK [] kP (.int p)) kM (.ref D)) kW (.ref W) := rfl
      have s7 := s6.put1 (o := .dK (mergeK [] [(kP, V.int p), (kM, .ref D), (kW, .ref W)])) a1 a2 a3 a4 a5
      have k7 : (upd H6 a (.dK (mergeK [] [(kP, V.int p), (kM, .ref D), (kW, .ref W)]))) W = some (.lst (ws.map V.int)) := (upd_ne Wa).trans k6
      obtain ⟨n', pn, c1, c2⟩ := s7.pen
      refine q _ a dss ws n' ⟨⟨pr, fun e => by have := s4.ld; rw [e, List.length_nil] at this; omega, fun ds hds => ?_, by rw [lws, s4.ld], by rw [s4.ld]; omega⟩, ?_, a4, _, D, W, as, upd_same, ?_, ?_, ?_, s7.hD, ?_, k7⟩ (by rw [s4.ld]; exact mm9) pn c1 (by omega) s7.off
      · obtain ⟨l, al⟩ := s4.ok ds hds
        exact ⟨by rw [l], fun x hx => by rw [s4.ld]; exact al x hx⟩
      · refine stdy_heads (p := p) (by omega) (fun ds hds => ?_) (by rw [lws, s4.ld]) fun s hs => ?_
        · obtain ⟨l, al⟩ := s4.ok ds hds
          exact ⟨l, fun x hx => by rw [s4.ld]; exact al x hx⟩
        · rw [s4.ld] at hs
          rw [getD_of (wsat s hs), getD_of (wsat _ (fl s hs)), laps_end_heads zl zo hI hs, hzz s, if_pos hs]
      · rw [em]; exact put_in _ _ _ (put_in _ _ _ (put_at _ _) q1) q2
      · rw [em]; exact put_in _ _ _ (put_at _ _) q3
      · rw [em]; exact put_at _ _
      · refine paired_of (by rw [s4.la, s4.ld]) fun j b ds hb hds => ?_
        obtain ⟨ds', e, g⟩ := s7.rows j b hb
        rw [hds] at e
        cases e
        exact g
end
end K78

namespace K78
open PySem L2 Gd B5
section
variable {P : Program} {w : World} {K : PySem.W.Frag} {mg : Str → Option Value} {base : Heap}
variable {g1 g2 f : Addr} {d1 d2 fd : FuncData}
abbrev sPl : Stmt := top 36
abbrev NPl : List Str := ["_law_pen_here", "_law_p", "_law_way", "_law_size", "_law_moves", "_law_place", "_law_puts", "_law_flag", "_law_there", "_law_put", "_law_by", "_law_digit", "_law_state"]
theorem scPl : FnScope NPl ["_law_pen_here"] (defScope sPl) := ⟨rfl, rfl, rfl, by decide +kernel, rfl, by decide +kernel, by decide +kernel⟩
theorem ok_pl (F : Fun K "_law_planned_machine" "_law_planned_machine" sPl f fd) (B : Blt mg) (Dr : Cl K mg "_law_draw" sDraw ["_law_pen_here", "_law_many"] g1 d1) (Pi : Cl K mg "_law_pick" sPick ["_law_pen_here", "_law_some"] g2 d2) :
    FnOk P w K mg base CX0 3 f fd ["_law_pen_here"] spPl := by
  have G1 : FnOk P w K mg base CX0 1 g1 d1 ["_law_pen_here", "_law_many"] spDraw := ok_draw Dr.fn B.int_ B.len_
  have G2 : FnOk P w K mg base CX0 2 g2 d2 ["_law_pen_here", "_law_some"] (spPick K) := ok_pick Pi.fn Dr.fn Dr.b Dr.g B.int_ B.len_
  refine F.ok scPl (fun vs H Q E h => ?_) (fun cdv A outer s H vs Q E hr h => ?_)
  · obtain ⟨d, c, n, rfl, _⟩ := h
    rfl
  · obtain ⟨d, c, n, rfl, pen, n0, n1, q⟩ := h
    have hr1 : Room 1 _ := hr.mono (by decide)
    refine ⟨_, pss_cons (ps_asg (pe_tup (pa_cons (pe_call G2 hr rfl Pi.g Pi.k Pi.b .nil pass0 (pa_cons (pv 0) (pa_cons (pe_lst (pa_cons pe_int (pa_cons pe_int (pa_cons pe_int (pa_cons pe_int (pa_cons pe_int pa_nil)))))) pa_nil)))
          (pa_cons (pe_call G1 hr1 rfl Dr.g Dr.k Dr.b .nil pass0 (pa_cons (pv 0) (pa_cons pe_int pa_nil))) pa_nil)))
        (pg_tup (by rfl) (pgs_cons (pg_name (i := 1) scPl.nd rfl (Or.inr rfl)) (pgs_cons (pg_name (i := 2) scPl.nd rfl (Or.inl rfl)) pgs_nil))))
      (pss_cons (ps_if (pt_cmpR op_eq (pv 2) pe_int (nomark _))
        (pss_cons (ps_par (i := 3) (j := 4) rfl scPl.nd rfl rfl (by decide) rfl rfl (pa_cons (pe_op op_add pe_int (pe_call G1 hr1 rfl Dr.g Dr.k Dr.b .nil pass0 (pa_cons (pv 0) (pa_cons pe_int pa_nil)))) (pa_cons (pe_lst pa_nil) pa_nil)) (by rfl))
        (Evl.pss_cut (ps_setLc (i := 6) (own := [("_law_place", 5)]) (g := gName 5) (tt := tYes) rfl scPl.nd rfl rfl (sw_true rfl rfl rfl (by decide +kernel)) (pi_range1 (by rfl) B.range_ (pa_cons (pv 3) pa_nil))
            (blkOk_by (N := NPl) (sc := defScope sPl) (by decide +kernel)) (fun _ _ _ _ _ => pg_name (i := 5) scPl.nd rfl (Or.inl rfl)) (fun _ _ _ _ _ => pts_nil)
            (fun _ _ _ _ _ => pe_call G1 hr1 rfl Dr.g Dr.k Dr.b .nil pass0 (pa_cons (pv 0) (pa_cons pe_int pa_nil))))
        (Evl.pss_cut (ps_for PassesOwn.never rfl (pi_range1 (by rfl) B.range_ (pa_cons pe_int pa_nil)) (pg_name (i := 7) scPl.nd rfl (Or.inl rfl))
          (pss_one (ps_for PassesOwn.never rfl (pi_range1 (by rfl) B.range_ (pa_cons (pv 3) pa_nil)) (pg_name (i := 5) scPl.nd rfl (Or.inl rfl))
            (pss_cons (ps_set (i := 8) scPl.nd rfl (Or.inl rfl) (pe_op op_mod (pe_callTy call_int1 (by rfl) B.int_ (by decide +kernel) (pa_cons (pe_op op_add (pv 5) pe_int) pa_nil)) (pv 3)))
            (Evl.pss_cut (ps_set (i := 9) scPl.nd rfl (Or.inl rfl) (pe_ifExp (pt_cmpR op_eq (pe_ix ix_list (pv 6) (pv 5) (fun _ _ => rfl)) pe_int (nomark _)) (pv 7) (pe_ix ix_list (pv 6) (pv 5) (fun _ _ => rfl))))
            (pss_one (ps_expr (pe_bm PySem.F.plainAttrs_list PySem.F.slot_list_append PySem.F.type_list_append mt_append (pv 4) (pa_cons
              (pe_op op_cat (pe_lst (pa_cons (pe_op op_add (pv 8) (pe_op op_mul (pv 3) (pv 7))) pa_nil)) (pe_op op_rep (pe_lst (pa_cons (pe_op op_add (pv 8) (pe_op op_mul (pv 3) (pv 9))) pa_nil)) (pe_op op_sub (pv 1) pe_int))) pa_nil)))))))))
        (pss_one (ps_ret (pe_disp (pps_cons pe_str (pv 1) (pps_cons pe_str (pv 4) (pps_cons pe_str
          (pe_op op_cat (pe_op op_rep (pe_lst (pa_cons pe_int pa_nil)) (pv 3)) (pe_op op_rep (pe_lst (pa_cons pe_int pa_nil)) (pv 3))) pps_nil))) rfl rfl (by simp) (by decide)))))))
        pss_nil)
      (pss_cons (ps_if (pt_cmpR op_eq (pv 2) pe_int (nomark _))
        (pss_cons (ps_set (i := 4) scPl.nd rfl (Or.inl rfl) (pe_lst (pa_cons (pe_op op_cat (pe_op op_rep (pe_lst (pa_cons pe_int pa_nil)) (pe_op op_sub (pv 1) pe_int)) (pe_lst (pa_cons pe_int pa_nil)))
            (pa_cons (pe_op op_cat (pe_op op_rep (pe_lst (pa_cons pe_int pa_nil)) (pe_op op_sub (pv 1) pe_int)) (pe_lst (pa_cons pe_int pa_nil)))
            (pa_cons (pe_op op_rep (pe_lst (pa_cons pe_int pa_nil)) (pv 1)) pa_nil)))))
        (pss_one (ps_ret (pe_disp (pps_cons pe_str (pv 1) (pps_cons pe_str (pv 4) (pps_cons pe_str (pe_lst (pa_cons pe_int (pa_cons pe_int (pa_cons pe_int pa_nil)))) pps_nil))) rfl rfl (by simp) (by decide)))))
        pss_nil)
      (pss_cons (ps_set (i := 10) scPl.nd rfl (Or.inr rfl) (pe_op op_add pe_int (pe_call G1 hr1 rfl Dr.g Dr.k Dr.b .nil pass0 (pa_cons (pv 0) (pa_cons pe_int pa_nil)))))
      (Evl.pss_cut (ps_setLc (i := 4) (own := [("_law_state", 12)]) (g := gName 12) (tt := tYes) rfl scPl.nd rfl rfl (sw_true rfl rfl rfl (by decide +kernel)) (pi_range1 (by rfl) B.range_ (pa_cons (pv 10) pa_nil))
          (blkOk_by (N := NPl) (sc := defScope sPl) (by decide +kernel)) (fun _ _ _ _ _ => pg_name (i := 12) scPl.nd rfl (Or.inr rfl)) (fun _ _ _ _ _ => pts_nil)
          (fun _ _ _ _ _ => by exact (pe_lc (own := [("_law_digit", 11)]) (g := gName 11) (tt := tYes) rfl scPl.nd (pi_range1 (by rfl) B.range_ (pa_cons (pv 1) pa_nil))
            (blkOk_by (N := NPl) (sc := relabel (lcSc (asgV ((defBody sPl).getD 4 (.Pass ⟨0, 0, 0, 0⟩)))) (PyProof.Rows.envOfC "_law_planned_machine" (defScope sPl) 0 0 .none)) (by decide +kernel))
            (fun _ _ _ _ _ => pg_name (i := 11) scPl.nd rfl (Or.inl rfl)) (fun _ _ _ _ _ => pts_nil)
            (fun _ _ _ _ _ => pe_op (r := rI (fun _ j => 0 < j) fun i j => .int (i % j)) op_mod (pe_callTy call_int1 (by rfl) B.int_ (by decide +kernel) (pa_cons (pe_op op_add (pv 12) (pv 11)) pa_nil)) (pv 10)))))
      (pss_one (ps_ret (pe_disp (pps_cons pe_str (pv 1) (pps_cons pe_str (pv 4) (pps_cons pe_str (pe_listRg rfl (by rfl) B.list_ (prg_1 (by rfl) B.range_ (pv 10))) pps_nil))) rfl rfl (by simp) (by decide)))))))), ?_⟩
    refine ⟨_, rfl, by show 5 ≤ sizeLine; decide, fun L0 hL0 => ?_⟩
    refine ⟨d, c, L0, n, _, rfl, pen.upd hL0, upd_same, by show 0 < 5; decide, by show 5 ≤ 1000; decide, by omega, by omega, fun x H1 hx dr1 => ?_⟩
    obtain ⟨p, rfl, pr⟩ := pick_pr hx
    obtain ⟨p2, p7⟩ := isPr_small pr
    have o1 : Off d H H1 := (Off.of (new_more hL0)).trans (.dr dr1)
    have pen1 := dr1.pen
    clear dr1 hx
    refine ⟨_, rfl, d, c, n + 1, 3, rfl, pen1, by decide, by decide, by omega, by omega, fun r H2 r0 r1 dr2 => ?_⟩
    have o2 := o1.trans (.dr dr2)
    have pen2 := dr2.pen
    clear pen1 o1 dr2
    refine ⟨by show 2 ≤ sizeLine; decide, fun t ht => ?_⟩
    have o3 : Off d H (upd H2 t (.tup [.int p, .int r])) := o2.trans (.of (new_more ht))
    have pen3 := pen2.upd (o := .tup [.int p, .int r]) ht
    have kt : (upd H2 t (.tup [.int p, .int r])) t = some (.tup [.int p, .int r]) := upd_same
    generalize upd H2 t (.tup [.int p, .int r]) = H3 at o3 pen3 kt ⊢
    clear pen2 o2 ht
    refine ⟨t, _, rfl, SqT.of kt, rfl, _, _, rfl, _, _, rfl, rfl, ?_⟩
    clear kt
    obtain ⟨oc', hc0⟩ := pen.atc
    refine ⟨_, rfl, rfl, _, rfl, ?_⟩
    rw [deI]
    by_cases e0 : r = 0
    · rw [decide_eq_true e0]
      refine iteT ?_
      refine ⟨_, rfl, d, c, _, 4, rfl, pen3, by decide, by decide, by omega, by omega, fun r4 H4 s0 s1 dr4 => ?_⟩
      obtain ⟨mm, em, mm1, mm9⟩ : ∃ mm : Nat, 2 + r4 = (mm : Int) ∧ 2 ≤ mm ∧ mm ≤ 5 := ⟨(2 + r4).toNat, by omega, by omega, by omega⟩
      refine ⟨_, _, rfl, rfl, by show 0 ≤ sizeLine; exact Nat.zero_le _, fun D nD => ⟨.int mm, .ref D, by rw [← em], ?_⟩⟩
      have o4 := o3.trans (.dr dr4)
      have pen4 := dr4.pen
      have s5 : SS H d c D [] [] 0 (2 * mm) p n (n + 3) (upd H4 D (.lst [])) := by
        refine ⟨⟨_, pen4.upd nD, by omega, by omega⟩, o4.trans (.of (new_more nD)), upd_same, o4.gone pen4.at nD, List.nodup_nil, nofun, fun j a h => ?_, rfl, rfl, nofun⟩
        rw [List.getElem?_nil] at h
        cases h
      generalize upd H4 D (.lst []) = H5 at s5 ⊢
      clear pen3 o3 dr4 pen4 o4 nD
      -- how digits put
      refine ⟨fun σ' H' => ∃ (T : Addr) (ts : List Int), σ' = [some (.ref d), some (.int p), some (.int r), some (.int mm), some (.ref D), none, some (.ref T), none, none, none, none, none, none] ∧ SS H d c D [] [] 0 (2 * mm) p n (n + 10) H' ∧ H' T = some (.lst (ts.map V.int)) ∧ ts.length = mm ∧ (∀ t ∈ ts, 0 ≤ t ∧ t < 3) ∧ H T = none ∧ T ≠ D ∧ T ≠ d, ?_, ?_⟩
      · refine ⟨_, rfl, _, rfl, by omega, by omega, fun T nT => ?_⟩
        obtain ⟨c1, c2, c3, c4, c5⟩ := s5.fresh nT
        refine lc_range (lo := 0) (n := mm) (fun i H' => ∃ ts : List Int, SS H d c D [] [] 0 (2 * mm) p n (n + 3 + i) H' ∧ H' T = some (.lst (ts.map V.int)) ∧ ts.length = i ∧ ∀ t ∈ ts, 0 ≤ t ∧ t < 3) ⟨[], ?_, upd_same, rfl, nofun⟩ ?_ ?_
        · have s6 := s5.more (new_more (o := .lst []) nT)
          exact s6.keep .refl (let ⟨n', a, b, e⟩ := s6.pen; ⟨n', a, b, by omega⟩)
        · rintro i H6 hi ⟨ts, s6, hT6, lt, al⟩
          obtain ⟨n', pn, b1, b2⟩ := s6.pen
          refine ⟨rfl, _, rfl, d, c, n', 3, rfl, pn, by decide, by decide, by omega, by omega, fun v H7 v0 v1 dr7 => ?_⟩
          have s7 := s6.keep (n2 := n + 3 + ((i + 1 : Nat) : Int)) (.dr dr7) ⟨_, dr7.pen, by omega, by omega⟩
          refine ⟨_, (dr7.off T c4).trans hT6, by rw [List.length_map, lt]; exact small1000 (by omega), ts ++ [v], s7.put1 c1 c2 c3 c4 c5, ?_, by rw [List.length_append, lt]; rfl, fun t ht => ?_⟩
          · rw [upd_same, List.map_append]
            rfl
          · rcases List.mem_append.mp ht with ht | ht
            · exact al t ht
            · have : t = v := by simpa using ht
              rw [this]
              exact ⟨v0, v1⟩
        · rintro H6 ⟨ts, s6, hT6, lt, al⟩
          exact ⟨T, ts, rfl, s6.keep .refl (let ⟨n', a, b, e⟩ := s6.pen; ⟨n', a, b, by omega⟩), hT6, lt, al, c1, c2, c4⟩
      clear s5
      rintro σ1 H6 ⟨T, ts, rfl, s6, hT6, lt, al, c1, c2, c4⟩
      have lin : ∀ {th fl : Int}, 0 ≤ th → th < mm → fl = 0 ∨ fl = 1 → 0 ≤ th + mm * fl ∧ th + mm * fl < ((2 * mm : Nat) : Int) := fun {th fl} h0 h1 h2 => by
        rcases h2 with rfl | rfl
        · rw [Int.mul_zero]; omega
        · rw [Int.mul_one]; omega
      -- the rows
      refine ⟨fun σ' H' => ∃ as dss z5 z7 z8 z9, σ' = [some (.ref d), some (.int p), some (.int r), some (.int mm), some (.ref D), z5, some (.ref T), z7, z8, z9, none, none, none] ∧ SS H d c D as dss (2 * mm) (2 * mm) p n (n + 10) H' ∧ ∀ (j : Nat) ds, dss[j]? = some ds → (j < mm → ds.getD 0 0 < (mm : Int)) ∧ (mm ≤ j → (mm : Int) ≤ ds.getD 0 0), ?_, ?_⟩
      · refine ⟨2, rfl, by decide, by decide, for_range (lo := 0) (n := 2) (fun i σ' H' => ∃ as dss z5 z7 z8 z9, σ' = [some (.ref d), some (.int p), some (.int r), some (.int mm), some (.ref D), z5, some (.ref T), z7, z8, z9, none, none, none] ∧ SS H d c D as dss (i * mm) (2 * mm) p n (n + 10) H' ∧ H' T = some (.lst (ts.map V.int)) ∧ T ∉ as ∧ ∀ (j : Nat) ds, dss[j]? = some ds → (j < mm → ds.getD 0 0 < (mm : Int)) ∧ (mm ≤ j → (mm : Int) ≤ ds.getD 0 0))
          ⟨[], [], none, none, none, none, rfl, by rw [Nat.zero_mul]; exact s6, hT6, nofun, fun j ds h => by rw [List.getElem?_nil] at h; cases h⟩ ?_ (fun σ' H' ⟨as, dss, z5, z7, z8, z9, h1, h2, _, _, h3⟩ => ⟨as, dss, z5, z7, z8, z9, h1, h2, h3⟩)⟩
        rintro i σ2 H7 hi ⟨as, dss, z5, z7, z8, z9, rfl, s7, hT7, nTa, fz⟩
        rw [Int.zero_add]
        have fl01 : ((i : Nat) : Int) = 0 ∨ ((i : Nat) : Int) = 1 := by omega
        refine ⟨_, rfl, _, rfl, by omega, by omega, for_range (lo := 0) (n := mm) (fun k σ' H' => ∃ as dss z5 z8 z9, σ' = [some (.ref d), some (.int p), some (.int r), some (.int mm), some (.ref D), z5, some (.ref T), some (.int i), z8, z9, none, none, none] ∧ SS H d c D as dss (i * mm + k) (2 * mm) p n (n + 10) H' ∧ H' T = some (.lst (ts.map V.int)) ∧ T ∉ as ∧ ∀ (j : Nat) ds, dss[j]? = some ds → (j < mm → ds.getD 0 0 < (mm : Int)) ∧ (mm ≤ j → (mm : Int) ≤ ds.getD 0 0))
          ⟨as, dss, z5, z8, z9, rfl, s7, hT7, nTa, fz⟩ ?_ ?_⟩
        · rintro k σ3 H8 hk ⟨as, dss, z5, z8, z9, rfl, s8, hT8, nTa, fz⟩
          rw [Int.zero_add]
          refine ⟨_, rfl, _, _, rfl, rfl, .inl ⟨_, rfl, _, rfl, _, _, rfl, rfl, (by show (0 : Int) < mm; omega), ?_⟩⟩
          obtain ⟨th, eth, th0, th1⟩ : ∃ th : Int, ((k : Nat) + 1 : Int) % (mm : Int) = th ∧ 0 ≤ th ∧ th < mm := ⟨_, rfl, Int.emod_nonneg _ (by omega), Int.emod_lt_of_pos _ (by omega)⟩
          show gName 8 (V.int (((k : Nat) + 1 : Int) % (mm : Int))) _ _ _
          rw [eth]
          have hk' : (ts.map V.int)[k]? = some (.int (ts.getD k 0)) := at_map (at_getD (by omega) 0)
          obtain ⟨t0, t1⟩ := al (ts.getD k 0) (List.mem_of_getElem? (at_getD (by omega) 0))
          refine ⟨fun σ' H' => ∃ pu : Int, (pu = 0 ∨ pu = 1) ∧ σ' = [some (.ref d), some (.int p), some (.int r), some (.int mm), some (.ref D), some (.int k), some (.ref T), some (.int i), some (.int th), some (.int pu), none, none, none] ∧ H' = H8, ?_, ?_⟩
          · refine ⟨_, rfl, _, rfl, T, _, _, _, rfl, rfl, SqL.of hT8, atI_nat hk', rfl, _, rfl, ?_⟩
            rw [deI]
            by_cases e2 : ts.getD k 0 = 2
            · rw [decide_eq_true e2]
              exact iteT ⟨_, rfl, _, fl01, rfl, rfl⟩
            · rw [decide_eq_false e2]
              exact iteF ⟨_, rfl, _, rfl, T, _, _, _, rfl, rfl, SqL.of hT8, atI_nat hk', _, by omega, rfl, rfl⟩
          rintro σ4 H9 ⟨pu, pu01, rfl, rfl⟩
          refine ⟨_, rfl, .inl ⟨rfl, _, SqL.of s8.hD⟩, ?_⟩
          refine ⟨_, rfl, _, rfl, _, rfl, _, _, rfl, rfl, .inl ⟨by omega, by omega⟩, _, _, rfl, rfl, by show 1 ≤ sizeLine; decide, fun x1 hx1 => ?_⟩
          have m1 := new_more (o := .lst [V.int (th + mm * i)]) hx1
          have k1 : (upd H9 x1 (.lst [V.int (th + mm * i)])) x1 = some (.lst [V.int (th + mm * i)]) := upd_same
          generalize upd H9 x1 (.lst [V.int (th + mm * i)]) = H10 at m1 k1 ⊢
          refine ⟨_, rfl, _, rfl, _, rfl, _, _, rfl, rfl, .inl ⟨by omega, by omega⟩, _, _, rfl, rfl, by show 1 ≤ sizeLine; decide, fun x2 hx2 => ?_⟩
          have m2 := new_more (o := .lst [V.int (th + mm * pu)]) hx2
          refine ⟨_, rfl, _, _, rfl, rfl, rep_end (K := K) upd_same (n := p - 1) (by omega) (by omega) fun H11 y1 m3 ny1 ky1 => ?_⟩
          refine cat_end (K := K) (m3 _ _ (m2 _ _ k1)) ky1 (by rw [List.length_replicate]; show 1 + _ ≤ _; omega) fun H12 L m4 nL kL => ?_
          have m9 : More H9 H12 := fun b o e => m4 _ _ (m3 _ _ (m2 _ _ (m1 _ _ e)))
          have nL9 : H9 L = none := by
            have m : More H9 H11 := fun b o e => m3 _ _ (m2 _ _ (m1 _ _ e))
            exact m.off nL
          rw [row_two (p := p) (by omega)] at kL
          clear m1 m2 m3 m4 k1 hx1 hx2 ny1 ky1 nL
          have s12 := s8.more m9
          have cD : c ≠ D := fun e => by rw [e, s8.nD] at hc0; cases hc0
          obtain ⟨l1, l2⟩ := lin th0 th1 fl01
          obtain ⟨l3, l4⟩ := lin th0 th1 pu01
          have s13 := s8.snoc (n2 := n + 10) (ys := (th + mm * i) :: List.replicate (p - 1) (th + mm * pu)) (.of m9) s12.pen cD nL9 kL (by rw [List.length_cons, List.length_replicate]; omega) (fun x hx => by
            rcases List.mem_cons.mp hx with rfl | hx
            · exact ⟨l1, l2⟩
            · have := List.eq_of_mem_replicate hx
              rw [this]
              exact ⟨l3, l4⟩)
          refine ⟨D, _, _, rfl, rfl, s12.hD, ?_, as ++ [L], dss ++ [(th + mm * i) :: List.replicate (p - 1) (th + mm * pu)], _, _, _, rfl, ?_, ?_, ?_, ?_⟩
          · rw [List.length_map, s12.la]
            have : i * mm ≤ 1 * mm := Nat.mul_le_mul_right _ (by omega)
            exact small1000 (by omega)
          · rw [List.map_append] at s13
            exact s13
          · rw [upd_ne c2]
            exact m9 _ _ hT8
          · intro hm
            rcases List.mem_append.mp hm with hm | hm
            · exact nTa hm
            · have : T = L := by simpa using hm
              rw [← this, hT8] at nL9
              cases nL9
          · intro j ds h
            by_cases z : j < dss.length
            · rw [List.getElem?_append_left z] at h
              exact fz j ds h
            · have lt := (List.getElem?_eq_some_iff.mp h).1
              rw [List.length_append] at lt
              have lt : j < dss.length + 1 := lt
              have ej : j = dss.length := by omega
              rw [ej, List.getElem?_append_right (Nat.le_refl _), Nat.sub_self] at h
              cases h
              have e1 : j = i * mm + k := by rw [ej, s8.ld]
              show (j < mm → th + mm * i < (mm : Int)) ∧ (mm ≤ j → (mm : Int) ≤ th + mm * i)
              rcases (show i = 0 ∨ i = 1 by omega) with rfl | rfl
              · rw [Nat.zero_mul] at e1
                refine ⟨fun _ => ?_, fun _ => by omega⟩
                show th + mm * ((0 : Nat) : Int) < mm
                rw [Int.natCast_zero, Int.mul_zero]
                omega
              · rw [Nat.one_mul] at e1
                refine ⟨fun _ => by omega, fun _ => ?_⟩
                show (mm : Int) ≤ th + mm * ((1 : Nat) : Int)
                rw [Int.natCast_one, Int.mul_one]
                omega
        · rintro σ3 H8 ⟨as, dss, z5, z8, z9, rfl, s8, hT8, nTa, fz⟩
          refine ⟨as, dss, _, _, _, _, rfl, ?_, hT8, nTa, fz⟩
          rw [Nat.succ_mul]
          exact s8
      clear s6
      rintro σ2 H7 ⟨as, dss, z5, z7, z8, z9, rfl, s7, fz⟩
      intro a na
      have m8 := new_more (o := .dK []) na
      have k8 : (upd H7 a (.dK [])) a = some (.dK []) := upd_same
      obtain ⟨a1, a2, a3, a4, a5⟩ := s7.fresh na
      have s8 := s7.more m8
      generalize upd H7 a (.dK []) = H8 at m8 k8 s8 ⊢
      refine ⟨_, rfl, _, rfl, by show 1 ≤ sizeLine; decide, fun x1 hx1 => ?_⟩
      have m1 := new_more (o := .lst [V.int 0]) hx1
      refine ⟨_, rfl, rep_end (K := K) upd_same (n := mm) rfl (by omega) fun H9 y1 m2 ny1 ky1 => ?_⟩
      refine ⟨by show 1 ≤ sizeLine; decide, fun x2 hx2 => ?_⟩
      have m3 := new_more (o := .lst [V.int 1]) hx2
      refine ⟨_, rfl, rep_end (K := K) upd_same (n := mm) rfl (by omega) fun H10 y2 m4 ny2 ky2 => ?_⟩
      refine cat_end (K := K) (m4 _ _ (m3 _ _ ky1)) ky2 (by rw [List.length_replicate, List.length_replicate]; omega) fun H11 W m5 nW wW => ?_
      have m9 : More H8 H11 := fun b o e => m5 _ _ (m4 _ _ (m3 _ _ (m2 _ _ (m1 _ _ e))))
      have ev : List.replicate mm (V.int 0) ++ List.replicate mm (V.int 1) = (List.replicate mm (0 : Int) ++ List.replicate mm 1).map V.int := by rw [List.map_append, List.map_replicate, List.map_replicate]
      rw [ev] at wW
      clear m1 m2 m3 m4 m5 hx1 hx2 ny1 ny2 ky1 ky2 nW
      have s11 := s8.more m9
      have k11 := m9 _ _ k8
      have lws : (List.replicate mm (0 : Int) ++ List.replicate mm 1).length = 2 * mm := by rw [List.length_append, List.length_replicate, List.length_replicate]; omega
      refine ⟨k11, [(kP, .int p), (kM, .ref D), (kW, .ref W)], rfl, by show 3 ≤ 15; decide, ?_⟩
      have s12 := s11.put1 (o := .dK (mergeK [] [(kP, V.int p), (kM, .ref D), (kW, .ref W)])) a1 a2 a3 a4 a5
      obtain ⟨n', pn, b1, b2⟩ := s12.pen
      refine q _ a p dss _ n' (plm_mk (s11.good pr (by omega) (by omega) lws) (s11.steady (by omega) lws fun t ht => ?_) a4 s11.hD s11.paired wW k11) (by rw [s11.ld]; omega) pn b1 (by omega) s12.off
      have w0 : ∀ j, j < mm → (List.replicate mm (0 : Int) ++ List.replicate mm 1).getD j 0 = 0 := fun j hj => by
        rw [List.getD_eq_getElem?_getD, List.getElem?_append_left (by rw [List.length_replicate]; exact hj), List.getElem?_replicate, if_pos hj]
        rfl
      have w1 : ∀ j, mm ≤ j → j < 2 * mm → (List.replicate mm (0 : Int) ++ List.replicate mm 1).getD j 0 = 1 := fun j hj hj2 => by
        rw [List.getD_eq_getElem?_getD, List.getElem?_append_right (by rw [List.length_replicate]; exact hj), List.getElem?_replicate, if_pos (by rw [List.length_replicate]; omega)]
        rfl
      have e := at_getD (l := dss) (i := t) (by rw [s11.ld]; exact ht) []
      obtain ⟨f1, f2⟩ := fz t _ e
      obtain ⟨l, al2⟩ := s11.ok _ (List.mem_of_getElem? e)
      obtain ⟨g0, g1⟩ := al2 _ (List.mem_of_getElem? (at_getD (l := dss.getD t []) (i := 0) (by omega) 0))
      have ez : zf dss t = ((dss.getD t []).getD 0 0).toNat := rfl
      by_cases z : t < mm
      · have := f1 z
        rw [w0 t z, w0 _ (by omega)]
      · have := f2 (by omega)
        rw [w1 t (by omega) ht, w1 _ (by omega) (by omega)]
    rw [decide_eq_false e0]
    refine iteF ⟨_, rfl, rfl, _, rfl, ?_⟩
    rw [deI]
    by_cases e1 : r = 1
    · rw [decide_eq_true e1]
      refine iteT ?_
      have hd3 := pen3.at
      -- a row
      refine ⟨by show 1 ≤ sizeLine; decide, fun x1 hx1 => ?_⟩
      have m1 := new_more (o := .lst [V.int 0]) hx1
      refine ⟨_, rfl, _, _, rfl, rfl, rep_end (K := K) upd_same (n := p - 1) (by omega) (by omega) fun H4 y1 m2 ny1 ky1 => ?_⟩
      refine ⟨by show 1 ≤ sizeLine; decide, fun x2 hx2 => ?_⟩
      have m3 := new_more (o := .lst [V.int 1]) hx2
      refine cat_end (K := K) (m3 _ _ ky1) upd_same (by rw [List.length_replicate]; show _ + 1 ≤ _; omega) fun H5 L1 m4 nL1 kL1 => ?_
      have m35 : More H3 H5 := fun b o e => m4 _ _ (m3 _ _ (m2 _ _ (m1 _ _ e)))
      clear m1 m2 m3 m4 hx1 hx2 ny1 ky1 nL1
      refine ⟨by show 1 ≤ sizeLine; decide, fun x1 hx1 => ?_⟩
      have m1 := new_more (o := .lst [V.int 0]) hx1
      refine ⟨_, rfl, _, _, rfl, rfl, rep_end (K := K) upd_same (n := p - 1) (by omega) (by omega) fun H6 y1 m2 ny1 ky1 => ?_⟩
      refine ⟨by show 1 ≤ sizeLine; decide, fun x2 hx2 => ?_⟩
      have m3 := new_more (o := .lst [V.int 2]) hx2
      refine cat_end (K := K) (m3 _ _ ky1) upd_same (by rw [List.length_replicate]; show _ + 1 ≤ _; omega) fun H7 L2 m4 nL2 kL2 => ?_
      have m57 : More H5 H7 := fun b o e => m4 _ _ (m3 _ _ (m2 _ _ (m1 _ _ e)))
      clear m1 m2 m3 m4 hx1 hx2 ny1 ky1 nL2
      refine ⟨by show 1 ≤ sizeLine; decide, fun x1 hx1 => ?_⟩
      have m1 := new_more (o := .lst [V.int 2]) hx1
      refine ⟨_, rfl, rep_end (K := K) upd_same (n := p) rfl (by omega) fun H8 L3 m2 nL3 kL3 => ?_⟩
      have m78 : More H7 H8 := fun b o e => m2 _ _ (m1 _ _ e)
      refine ⟨by show 3 ≤ sizeLine; decide, fun D nD => ?_⟩
      have m4 := new_more (o := .lst [V.ref L1, .ref L2, .ref L3]) nD
      have kD : (upd H8 D (.lst [V.ref L1, .ref L2, .ref L3])) D = some (.lst ([L1, L2, L3].map V.ref)) := upd_same
      have k1 := m4 _ _ (m78 _ _ (m57 _ _ kL1))
      have k2 := m4 _ _ (m78 _ _ kL2)
      have k3 := m4 _ _ kL3
      have m39 : More H3 (upd H8 D (.lst [V.ref L1, .ref L2, .ref L3])) := fun b o e => m4 _ _ (m78 _ _ (m57 _ _ (m35 _ _ e)))
      generalize upd H8 D (.lst [V.ref L1, .ref L2, .ref L3]) = H9 at m39 kD k1 k2 k3 ⊢
      clear m1 m2 m4 m35 m57 m78 hx1 nL3 kL1 kL2 kL3 nD
      have v1 : List.replicate (p - 1) (V.int 0) ++ [V.int 1] = (List.replicate (p - 1) (0 : Int) ++ [1]).map V.int := by rw [List.map_append, List.map_replicate]; rfl
      have v2 : List.replicate (p - 1) (V.int 0) ++ [V.int 2] = (List.replicate (p - 1) (0 : Int) ++ [2]).map V.int := by rw [List.map_append, List.map_replicate]; rfl
      have v3 : List.replicate p (V.int 2) = (List.replicate p (2 : Int)).map V.int := by rw [List.map_replicate]
      rw [v1] at k1
      rw [v2] at k2
      rw [v3] at k3
      intro a na
      have ma := new_more (o := .dK []) na
      have ka : (upd H9 a (.dK [])) a = some (.dK []) := upd_same
      have nd : a ≠ d := fun e => by
        obtain ⟨o, h⟩ := hd3
        rw [e, m39 _ _ h] at na
        cases na
      have nc : a ≠ c := fun e => by
        obtain ⟨o, h⟩ := pen3.atc
        rw [e, m39 _ _ h] at na
        cases na
      have nH : H a = none := o3.gone hd3 (m39.off na)
      have m3a : More H3 (upd H9 a (.dK [])) := fun b o e => ma _ _ (m39 _ _ e)
      have kD := ma _ _ kD
      have k1 := ma _ _ k1
      have k2 := ma _ _ k2
      have k3 := ma _ _ k3
      generalize upd H9 a (.dK []) = H10 at m3a ka kD k1 k2 k3 ⊢
      clear ma na m39
      refine ⟨_, rfl, _, rfl, by show 3 ≤ sizeLine; decide, fun W nW => ?_⟩
      have mW := new_more (o := .lst [V.int 0, .int 0, .int 1]) nW
      have wW : (upd H10 W (.lst [V.int 0, .int 0, .int 1])) W = some (.lst (([0, 0, 1] : List Int).map V.int)) := upd_same
      have ka := mW _ _ ka
      have kD := mW _ _ kD
      have k1 := mW _ _ k1
      have k2 := mW _ _ k2
      have k3 := mW _ _ k3
      have m3b : More H3 (upd H10 W (.lst [V.int 0, .int 0, .int 1])) := fun b o e => mW _ _ (m3a _ _ e)
      generalize upd H10 W (.lst [V.int 0, .int 0, .int 1]) = H11 at m3b ka kD k1 k2 k3 wW ⊢
      refine ⟨ka, [(kP, .int p), (kM, .ref D), (kW, .ref W)], rfl, by show 3 ≤ 15; decide, ?_⟩
      have ok : ∀ ds ∈ [List.replicate (p - 1) (0 : Int) ++ [1], List.replicate (p - 1) (0 : Int) ++ [2], List.replicate p (2 : Int)], ds.length = p ∧ ∀ x ∈ ds, 0 ≤ x ∧ x < 3 := by
        intro ds hds
        simp only [List.mem_cons, List.not_mem_nil, or_false] at hds
        rcases hds with rfl | rfl | rfl
        · refine ⟨by rw [List.length_append, List.length_replicate]; show _ + 1 = _; omega, fun x hx => ?_⟩
          rcases List.mem_append.mp hx with hx | hx
          · have := List.eq_of_mem_replicate hx; omega
          · have : x = 1 := by simpa using hx
            omega
        · refine ⟨by rw [List.length_append, List.length_replicate]; show _ + 1 = _; omega, fun x hx => ?_⟩
          rcases List.mem_append.mp hx with hx | hx
          · have := List.eq_of_mem_replicate hx; omega
          · have : x = 2 := by simpa using hx
            omega
        · refine ⟨List.length_replicate, fun x hx => ?_⟩
          have := List.eq_of_mem_replicate hx; omega
      have pn := (pen3.keep (H' := H11) (by obtain ⟨o, h⟩ := pen3.at; rw [h]; exact m3b _ _ h) (by obtain ⟨o, h⟩ := pen3.atc; rw [h]; exact m3b _ _ h)).updA (o := .dK (mergeK [] [(kP, V.int p), (kM, .ref D), (kW, .ref W)])) nd nc
      refine q _ a p [List.replicate (p - 1) (0 : Int) ++ [1], List.replicate (p - 1) (0 : Int) ++ [2], List.replicate p (2 : Int)] [0, 0, 1] _ (plm_mk ⟨pr, by simp, fun ds hds => ?_, rfl, by show 3 ≤ 1000; decide⟩ (stdy_heads (p := p) (by omega) (fun ds hds => ok ds hds) rfl fun t ht => ?_) nd kD (.cons k1 (.cons k2 (.cons k3 .nil))) wW ka) (by show 3 ≤ 20; decide) pn (by omega) (by omega) ((o3.trans (.of m3b)).at nH)
      · obtain ⟨l, al⟩ := ok ds hds
        exact ⟨by rw [l], al⟩
      · obtain ⟨k, hk⟩ : ∃ k, p = k + 2 := ⟨p - 2, by omega⟩
        subst hk
        have ht : t < 3 := ht
        have : t = 0 ∨ t = 1 ∨ t = 2 := by omega
        rcases this with rfl | rfl | rfl <;> rfl
    rw [decide_eq_false e1]
    refine iteF ?_
    refine ⟨_, rfl, d, c, _, 4, rfl, pen3, by decide, by decide, by omega, by omega, fun r4 H4 s0 s1 dr4 => ?_⟩
    refine ⟨_, _, rfl, rfl, ?_⟩
    have o4 := o3.trans (.dr dr4)
    have pen4 := dr4.pen
    clear pen3 o3 dr4
    obtain ⟨mm, em, mm1, mm9⟩ : ∃ mm : Nat, 2 + r4 = (mm : Int) ∧ 2 ≤ mm ∧ mm ≤ 5 := ⟨(2 + r4).toNat, by omega, by omega, by omega⟩
    show gName 10 (V.int (2 + r4)) _ _ _
    rw [em]
    have hd4 := pen4.at
    refine ⟨fun σ' H' => ∃ D as dss, σ' = [some (.ref d), some (.int p), some (.int r), none, some (.ref D), none, none, none, none, none, some (.int mm), none, none] ∧ SS H d c D as dss mm mm p n (n + 10) H' ∧ ∀ (j : Nat) ds, dss[j]? = some ds → ds.getD 0 0 = (j : Int), ?_, ?_⟩
    · refine ⟨_, rfl, _, rfl, by omega, by omega, fun D hD => lc_range (lo := 0) (n := mm) (fun i H' => ∃ as dss, SS H d c D as dss i mm p n (n + 10) H' ∧ ∀ (j : Nat) ds, dss[j]? = some ds → ds.getD 0 0 = (j : Int)) ⟨[], [], ?_, ?_⟩ ?_ ?_⟩
      · refine ⟨⟨_, pen4.upd hD, by omega, by omega⟩, o4.trans (.of (new_more hD)), upd_same, o4.gone hd4 hD, List.nodup_nil, nofun, fun j a h => ?_, rfl, rfl, nofun⟩
        rw [List.getElem?_nil] at h
        cases h
      · intro j ds h
        rw [List.getElem?_nil] at h
        cases h
      · rintro i H5 hi ⟨as, dss, s5, z5⟩
        have cD : c ≠ D := fun e => by rw [e, s5.nD] at hc0; cases hc0
        refine ⟨rfl, _, rfl, _, rfl, by omega, by omega, fun L hL => lc_range (lo := 0) (n := p) (fun j H' => ∃ ys : List Int, ys.length = j ∧ (∀ y ∈ ys, 0 ≤ y ∧ y < (mm : Int)) ∧ (0 < j → ys.getD 0 0 = (i : Int)) ∧ H' L = some (.lst (ys.map V.int)) ∧ More H5 H')
          ⟨[], rfl, nofun, (fun z => absurd z (Nat.lt_irrefl 0)), upd_same, new_more hL⟩ ?_ ?_⟩
        · rintro j H6 hj ⟨ys, e1, e2, e4, e3, m6⟩
          refine ⟨rfl, _, rfl, _, rfl, _, _, rfl, rfl, .inl ⟨_, rfl, _, rfl, _, _, rfl, rfl, (by show (0 : Int) < mm; omega), ?_⟩⟩
          refine ⟨_, e3, by rw [List.length_map]; exact small1000 (by omega), ys ++ [(0 + (i : Int) + (0 + (j : Int))) % (mm : Int)], by rw [List.length_append, e1]; rfl, ?_, ?_, ?_, More.at m6 hL⟩
          · intro y hy
            rcases List.mem_append.mp hy with hy | hy
            · exact e2 y hy
            · have : y = (0 + (i : Int) + (0 + (j : Int))) % (mm : Int) := by simpa using hy
              rw [this]
              exact ⟨Int.emod_nonneg _ (by omega), Int.emod_lt_of_pos _ (by omega)⟩
          · intro _
            cases ys with
            | nil =>
              have : j = 0 := e1.symm
              subst this
              show (0 + (i : Int) + (0 + ((0 : Nat) : Int))) % (mm : Int) = i
              rw [Int.emod_eq_of_lt (by omega) (by omega)]
              omega
            | cons y0 ys => exact e4 (by rw [← e1]; exact Nat.succ_pos _)
          · rw [upd_same, List.map_append]
            rfl
        · rintro H6 ⟨ys, e1, e2, e4, e3, m6⟩
          have s6 := s5.more m6
          have s7 := s5.snoc (n2 := n + 10) (.of m6) s6.pen cD hL e3 e1 e2
          refine ⟨_, s6.hD, by rw [List.length_map, s6.la]; exact small1000 (by omega), as ++ [L], dss ++ [ys], ?_, ?_⟩
          · rw [List.map_append] at s7
            exact s7
          · intro j ds h
            by_cases z : j < dss.length
            · rw [List.getElem?_append_left z] at h
              exact z5 j ds h
            · have lt := (List.getElem?_eq_some_iff.mp h).1
              rw [List.length_append] at lt
              have lt : j < dss.length + 1 := lt
              have ej : j = dss.length := by omega
              rw [ej, List.getElem?_append_right (Nat.le_refl _), Nat.sub_self] at h
              cases h
              rw [ej, s5.ld]
              exact e4 (by omega)
      · rintro H5 ⟨as, dss, s5, z5⟩
        exact ⟨D, as, dss, rfl, s5, z5⟩
    rintro σ1 H5 ⟨D, as, dss, rfl, s5, z5⟩
    intro a na
    have m6 := new_more (o := .dK []) na
    have k6 : (upd H5 a (.dK [])) a = some (.dK []) := upd_same
    obtain ⟨a1, a2, a3, a4, a5⟩ := s5.fresh na
    have s6 := s5.more m6
    generalize upd H5 a (.dK []) = H6 at m6 k6 s6 ⊢
    refine ⟨_, rfl, _, rfl, _, rfl, mm, rfl, .of_le (by omega) (by omega) (by omega) (by omega), fun W nW => ?_⟩
    have m7 := new_more (o := .lst (rgV 0 mm)) nW
    have k7 : (upd H6 W (.lst (rgV 0 mm))) W = some (.lst (((List.range mm).map fun x : Nat => (x : Int)).map V.int)) := by
      rw [upd_same]
      unfold rgV
      rw [List.map_map]
      congr 2
      show List.map _ (List.range (((mm : Nat) : Int) - 0).toNat) = _
      rw [show (((mm : Nat) : Int) - 0).toNat = mm by omega]
      refine List.map_congr_left fun x _ => ?_
      show V.int (0 + (x : Nat)) = V.int ((x : Nat) : Int)
      rw [Int.zero_add]
    have k6' := m7 _ _ k6
    have s7 := s6.more m7
    generalize upd H6 W (.lst (rgV 0 mm)) = H7 at m7 k7 k6' s7 ⊢
    have lws : ((List.range mm).map fun x : Nat => (x : Int)).length = mm := by rw [List.length_map, List.length_range]
    refine ⟨k6', [(kP, .int p), (kM, .ref D), (kW, .ref W)], rfl, by show 3 ≤ 15; decide, ?_⟩
    have s8 := s7.put1 (o := .dK (mergeK [] [(kP, V.int p), (kM, .ref D), (kW, .ref W)])) a1 a2 a3 a4 a5
    obtain ⟨n', pn, b1, b2⟩ := s8.pen
    refine q _ a p dss _ n' (plm_mk (s7.good pr (by omega) (by omega) lws) (s7.steady (by omega) lws fun t ht => ?_) a4 s7.hD s7.paired k7 k6') (by rw [s7.ld]; omega) pn b1 (by omega) s8.off
    have : zf dss t = t := by
      have e := at_getD (l := dss) (i := t) (by rw [s7.ld]; exact ht) []
      have := z5 t _ e
      unfold zf
      rw [this, Int.toNat_natCast]
    rw [this]
end
end K78

namespace K78
open PySem L2 Gd B5 ZipG
section
variable {P : Program} {w : World} {K : PySem.W.Frag} {mg : Str → Option Value} {base : Heap}
variable {g1 g2 g3 g4 g5 C CN CR CU fI f : Addr} {d1 d2 d3 d4 d5 fdI fd : FuncData}
abbrev sKn : Stmt := top 35
theorem scKn : FnScope ["_law_pen_here"] ["_law_pen_here"] (defScope sKn) := ⟨rfl, rfl, rfl, by decide +kernel, rfl, by decide +kernel, by decide +kernel⟩
theorem ok_kn (F : Fun K "_law_known_machine" "_law_known_machine" sKn f fd) (B : Blt mg) (zMin : mg "min" = none) (Dr : Cl K mg "_law_draw" sDraw ["_law_pen_here", "_law_many"] g1 d1) (Pi : Cl K mg "_law_pick" sPick ["_law_pen_here", "_law_some"] g2 d2)
    (Lm : Cl K mg "_law_machine" sLm ["_law_pen_here", "_law_p", "_law_most"] g3 d3) (Pl : Cl K mg "_law_planned_machine" sPl ["_law_pen_here"] g4 d4) : FnOk P w K mg base CX0 4 f fd ["_law_pen_here"] spKn := by
  have G1 : FnOk P w K mg base CX0 1 g1 d1 ["_law_pen_here", "_law_many"] spDraw := ok_draw Dr.fn B.int_ B.len_
  have G2 : FnOk P w K mg base CX0 2 g2 d2 ["_law_pen_here", "_law_some"] (spPick K) := ok_pick Pi.fn Dr.fn Dr.b Dr.g B.int_ B.len_
  have G3 : FnOk P w K mg base CX0 3 g3 d3 ["_law_pen_here", "_law_p", "_law_most"] spLm := ok_lm Lm.fn B zMin Dr Pi
  have G4 : FnOk P w K mg base CX0 3 g4 d4 ["_law_pen_here"] spPl := ok_pl Pl.fn B Dr Pi
  refine F.ok scKn (fun vs H Q E h => ?_) (fun cdv A outer s H vs Q E hr h => ?_)
  · obtain ⟨d, c, n, rfl, _⟩ := h
    rfl
  · obtain ⟨d, c, n, rfl, pen, n0, n1, q⟩ := h
    have hr1 : Room 1 _ := hr.mono (by decide)
    have hr2 : Room 2 _ := hr.mono (by decide)
    refine ⟨_, pss_cons (ps_if (pt_cmpR op_eq (pe_call G1 hr1 rfl Dr.g Dr.k Dr.b .nil pass0 (pa_cons (pv 0) (pa_cons pe_int pa_nil))) pe_int (nomark _))
        (pss_one (ps_ret (pe_call G3 hr rfl Lm.g Lm.k Lm.b .nil pass0 (pa_cons (pv 0) (pa_cons (pe_call G2 hr2 rfl Pi.g Pi.k Pi.b .nil pass0 (pa_cons (pv 0) (pa_cons (pe_lst (pa_cons pe_int (pa_cons pe_int (pa_cons pe_int (pa_cons pe_int (pa_cons pe_int pa_nil)))))) pa_nil)))
          (pa_cons pe_int pa_nil)))))) pss_nil)
      (pss_one (ps_ret (pe_call G4 hr rfl Pl.g Pl.k Pl.b .nil pass0 (pa_cons (pv 0) pa_nil)))), ?_⟩
    refine ⟨_, rfl, d, c, n, 2, rfl, pen, by decide, by decide, n0, by omega, fun r H1 r0 r1 dr => ⟨rfl, _, rfl, ?_⟩⟩
    have o1 := Off.dr dr
    refine ite2 (fun _ => ?_) (fun _ => ?_)
    · refine ⟨_, rfl, _, rfl, by show 5 ≤ sizeLine; decide, fun L hL => ?_⟩
      refine ⟨d, c, L, n + 1, _, rfl, dr.pen.upd hL, upd_same, by show 0 < 5; decide, by show 5 ≤ 1000; decide, by omega, by omega, fun x H2 hx dr2 => ?_⟩
      obtain ⟨p, rfl, pr⟩ := pick_pr hx
      have o2 : Off d H H2 := (o1.trans (.of (new_more hL))).trans (.dr dr2)
      exact ⟨d, c, _, p, 6, rfl, dr2.pen, by omega, by omega, pr, by decide, by decide, fun H' a dss ws n' pl few pn b1 b2 o3 => q H' a p dss ws n' pl (by omega) pn (by omega) (by omega) (o2.trans o3)⟩
    · exact ⟨_, rfl, d, c, n + 1, rfl, dr.pen, by omega, by omega, fun H' a p dss ws n' pl few pn b1 b2 o3 => q H' a p dss ws n' pl few pn (by omega) (by omega) (o1.trans o3)⟩
abbrev sMd : Stmt := top 37
theorem scMd : FnScope ["_law_machine_here"] ["_law_machine_here"] (defScope sMd) := ⟨rfl, rfl, rfl, by decide +kernel, rfl, by decide +kernel, by decide +kernel⟩
theorem ok_md (F : Fun K "_law_made" "_law_made" sMd f fd) (B : Blt mg) (Z : McC K mg C) (M : Mk K C fI) (bI : Binds K fdI ["self", "p", "moves", "worths"] []) (GI : FnOk P w K mg base (L2.CX P w) 5 fI fdI ["self", "p", "moves", "worths"] (spMI K C CN CR CU)) :
    FnOk P w K mg base CX0 7 f fd ["_law_machine_here"] (spMd K C) := by
  refine F.ok scMd (fun vs H Q E h => ?_) (fun cdv A outer s H vs Q E hr h => ?_)
  · obtain ⟨a, d, p, dss, ws, rfl, _⟩ := h
    rfl
  · obtain ⟨a, d, p, dss, ws, rfl, pl, q⟩ := h
    have hu := hu_of hr
    refine ⟨_, pss_one (ps_ret (pe_make M GI hr rfl Z.g bI .nil (passes_call LamX.takes0 (fun _ _ _ _ h => h)) (pa_cons (pe_dget hu (pv 0) pe_str (fun _ _ => rfl)) (pa_cons (pe_dget hu (pv 0) pe_str (fun _ _ => rfl)) (pa_cons (pe_dget hu (pv 0) pe_str (fun _ _ => rfl)) pa_nil))))), ?_⟩
    obtain ⟨kvs, M', W, as, h1, h2, h3, h4, h5, h6, h7⟩ := pl.at_
    have la : as.length = dss.length := Paired.length h6
    have few := pl.good.few
    refine ⟨_, rfl, a, _, rfl, dg kP h1 h2, _, rfl, a, _, rfl, dg kM h1 h3, _, rfl, a, _, rfl, dg kW h1 h4, fun x dx hx hdx ne => ?_⟩
    have m5 : More H (upd (upd H dx (.own x)) x (.ins C dx [])) := fun b o e => by
      rw [upd_ne (ne_of_none e hx), upd_ne (ne_of_none e hdx)]
      exact e
    refine ⟨x, dx, _, _, _, rfl, upd_same, .inr ⟨p, dss, ws, mkOk pl.good pl.st (.inl (SqL.of (m5 _ _ h5))) (paired_map (paired_imp (fun b ds e => ⟨b, rfl, .inl (SqL.of (m5 _ _ e))⟩) h6)) (.inl (SqL.of (m5 _ _ h7))), fun H5 of5 ma5 => ⟨rfl, q H5 x (fun b o e => of5 _ _ (m5 _ _ e) (ne_of_none e hx)) ma5⟩⟩⟩
abbrev sWt : Stmt := top 38
abbrev NWt : List Str := ["_law_machine_here", "_law_many", "_law_size", "_law_state", "_law_rows", "_law_lap", "_law_found", "_law_behind"]
theorem scWt : FnScope NWt ["_law_machine_here", "_law_many"] (defScope sWt) := ⟨rfl, rfl, rfl, by decide +kernel, rfl, by decide +kernel, by decide +kernel⟩
theorem ok_wt (F : Fun K "_law_words_to" "_law_words_to" sWt f fd) (B : Blt mg) : FnOk P w K mg base CX0 1 f fd ["_law_machine_here", "_law_many"] spWt := by
  refine F.ok scWt (fun vs H Q E h => ?_) (fun cdv A outer s H vs Q E hr h => ?_)
  · obtain ⟨a, d, p, m, dss, ws, rfl, _⟩ := h
    rfl
  · obtain ⟨a, d, p, m, dss, ws, rfl, pl, few, q⟩ := h
    have hu := hu_of hr
    refine ⟨_, pss_cons (ps_set (i := 2) scWt.nd rfl (Or.inl rfl) (pe_callB call_len_seq (by rfl) B.len_ PySem.boot_len (pa_cons (pe_dget hu (pv 0) pe_str (fun _ _ => rfl)) pa_nil)))
      (pss_cons (ps_set (i := 4) scWt.nd rfl (Or.inl rfl) (pe_lst (pa_cons (pe_lc (own := [("_law_state", 3)]) (g := gName 3) (tt := tYes) rfl scWt.nd (pi_range1 (by rfl) B.range_ (pa_cons (pv 2) pa_nil))
          (blkOk_by (N := NWt) (sc := defScope sWt) (by decide +kernel)) (fun _ _ _ _ _ => pg_name (i := 3) scWt.nd rfl (Or.inl rfl)) (fun _ _ _ _ _ => pts_nil)
          (fun _ _ _ _ _ => pe_callTy call_int1 (by rfl) B.int_ (by decide +kernel) (pa_cons (pe_cmpR op_eq (pv 3) pe_int (nomark _)) pa_nil))) pa_nil)))
      (pss_cons (ps_for PassesOwn.never rfl (pi_range1 (by rfl) B.range_ (pa_cons (pv 1) pa_nil)) (pg_name (i := 5) scWt.nd rfl (Or.inl rfl))
        (pss_cons (ps_set (i := 6) scWt.nd rfl (Or.inl rfl) (pe_op op_rep (pe_lst (pa_cons pe_int pa_nil)) (pv 2)))
        (pss_cons (ps_for PassesOwn.never rfl (pi_range1 (by rfl) B.range_ (pa_cons (pv 2) pa_nil)) (pg_name (i := 3) scWt.nd rfl (Or.inl rfl))
          (pss_one (ps_for PassesOwn.never rfl (pi_list (pe_ix ix_list (pe_dget hu (pv 0) pe_str (fun _ _ => rfl)) (pv 3) (fun _ _ => rfl))) (pg_name (i := 7) scWt.nd rfl (Or.inl rfl))
            (pss_one (ps_asg (pe_op op_add (pe_ix ix_list (pv 6) (pv 7) (fun _ _ => rfl)) (pe_ix ix_list (pe_ix ix_list (pv 4) (pe_un un_neg pe_int) (fun _ _ => rfl)) (pv 3) (fun _ _ => rfl))) (pg_sub (pv 6) (pv 7) set_list))))))
        (pss_one (ps_expr (pe_bm PySem.F.plainAttrs_list PySem.F.slot_list_append PySem.F.type_list_append mt_append (pv 4) (pa_cons (pv 6) pa_nil)))))))
      (pss_one (ps_ret (pv 4))))), ?_⟩
    obtain ⟨kvs, M', W, as, h1, h2, h3, h4, h5, h6, h7⟩ := pl.at_
    have la : as.length = dss.length := Paired.length h6
    have g := pl.good
    have d0 : 0 < dss.length := List.length_pos_iff.mpr g.ne
    have fewd := g.few
    obtain ⟨N, hN⟩ : ∃ N, N = dss.length := ⟨_, rfl⟩
    refine ⟨_, rfl, a, _, rfl, dg kM h1 h3, M', _, rfl, .inl (SqL.of h5), ?_⟩
    have eN : (((as.map V.ref).length : Nat) : Int) = (N : Int) := by rw [List.length_map, la, hN]
    show gName 2 (V.int (((as.map V.ref).length : Nat) : Int)) _ _ _
    rw [eN]
    refine ⟨_, rfl, _, rfl, by omega, by omega, fun w0 nw0 => ?_⟩
    refine lc_range (lo := 0) (n := N) (fun i H' => H' w0 = some (.lst (((List.range i).map fun s => if s = 0 then (1 : Int) else 0).map V.int)) ∧ More H H') ⟨upd_same, new_more nw0⟩ ?_ ?_
    · rintro i H2 hi ⟨k2, m2⟩
      rw [Int.zero_add]
      refine ⟨rfl, _, rfl, rfl, .inr ⟨_, rfl, _, k2, by rw [List.length_map, List.length_map, List.length_range]; exact small1000 (by omega), ?_, More.at m2 nw0⟩⟩
      rw [upd_same, List.range_succ, List.map_append, List.map_append, deI]
      congr 4
      by_cases z : i = 0
      · subst z; rfl
      · rw [decide_eq_false (show ¬ ((i : Nat) : Int) = 0 by omega)]
        show V.int 0 = V.int (if i = 0 then 1 else 0)
        rw [if_neg z]
    rintro H1 ⟨k1, m1⟩
    rw [ways_first N (by omega)] at k1
    have k1 : H1 w0 = some (.lst ((waysL dss 0).map V.int)) := by rw [k1, hN]; rfl
    refine ⟨by show 1 ≤ sizeLine; decide, fun l hl => ?_⟩
    have nl := m1.off hl
    have m2 := new_more (o := .lst [V.ref w0]) hl
    have k2 : (upd H1 l (.lst [V.ref w0])) l = some (.lst ([w0].map V.ref)) := upd_same
    have w0l : w0 ≠ l := ne_of_none k1 hl
    have k12 := m2 _ _ k1
    have m12 : More H (upd H1 l (.lst [V.ref w0])) := fun b o e => m2 _ _ (m1 _ _ e)
    generalize upd H1 l (.lst [V.ref w0]) = H2 at m12 k2 k12 ⊢
    refine ⟨_, rfl, _, rfl, by omega, by omega, for_range (lo := 0) (n := m) (fun i σ' H' => ∃ rs z3 z5 z6 z7, σ' = [some (.ref a), some (.int m), some (.int N), z3, some (.ref l), z5, z6, z7] ∧ H' l = some (.lst (rs.map V.ref)) ∧ rs.length = i + 1 ∧ (∀ r ∈ rs, r ≠ l) ∧ Ways dss rs H' ∧ More H H')
      ⟨[w0], none, none, none, none, rfl, k2, rfl, fun r hr => ?_, fun i r e => ?_, m12⟩ ?_ ?_⟩
    · have : r = w0 := by simpa using hr
      rw [this]; exact w0l
    · cases i with
      | zero => cases e; exact k12
      | succ i => simp at e
    · rintro i σ2 H4 hi ⟨rs, z3, z5, z6, z7, rfl, k5, lr, nr, wy, m6⟩
      -- a new row
      refine ⟨by show 1 ≤ sizeLine; decide, fun o ho => ?_⟩
      have m7 := new_more (o := .lst [V.int 0]) ho
      refine ⟨_, rfl, rep_end (K := K) upd_same (n := N) rfl (by omega) fun H5 fo m8 nfo kfo => ?_⟩
      have m45 : More H4 H5 := fun b o e => m8 _ _ (m7 _ _ e)
      have nfo4 : H4 fo = none := m7.off nfo
      have nfo0 : H fo = none := m6.off nfo4
      clear m7 m8 ho nfo
      obtain ⟨wi, hwi⟩ : ∃ wi, rs[i]? = some wi := ⟨rs[i]'(by omega), List.getElem?_eq_getElem (by omega)⟩
      have hww := wy i wi hwi
      have lww : (waysL dss i).length = N := by rw [waysL_len dss g.ne, hN]
      have fow : wi ≠ fo := ne_of_none hww nfo4
      have fol : l ≠ fo := ne_of_none k5 nfo4
      have elast : ∃ rs', rs = rs' ++ [wi] := ⟨rs.take i, by rw [← take_snoc hwi, ← lr, List.take_length]⟩
      obtain ⟨rs', ers⟩ := elast
      have hlast : L2.atI (rs.map V.ref) (-1) = some (.ref wi) := by
        rw [ers, List.map_append]
        exact atI_last _ _
      have keep5 : H5 fo = some (.lst ((onAll dss (waysL dss i) 0).map V.int)) := by
        rw [kfo, hN]
        show _ = some (HO.lst ((List.replicate dss.length (0 : Int)).map V.int))
        rw [List.map_replicate]
      refine ⟨_, rfl, _, rfl, by omega, by omega, for_range (lo := 0) (n := N) (fun s σ' H' => ∃ z3 z7, σ' = [some (.ref a), some (.int m), some (.int N), z3, some (.ref l), some (.int (0 + i)), some (.ref fo), z7] ∧ H' fo = some (.lst ((onAll dss (waysL dss i) s).map V.int)) ∧ Off fo H5 H' ∧ More H4 H')
        ⟨z3, z7, rfl, keep5, .refl, m45⟩ ?_ ?_⟩
      · rintro s σ3 H6 hs ⟨z3, z7, rfl, k6, o6, m46⟩
        rw [Int.zero_add]
        obtain ⟨b, hb, hHb⟩ := PlM.row h6 (s := s) (by omega)
        have m06 : More H H6 := fun c o e => m46 _ _ (m6 _ _ e)
        obtain ⟨ds, hds⟩ : ∃ ds, ds = dss.getD s [] := ⟨_, rfl⟩
        have hdm : ds ∈ dss := by rw [hds]; exact List.mem_of_getElem? (at_getD (by omega) [])
        rw [← hds] at hHb
        obtain ⟨dlen, dok⟩ := g.rows ds hdm
        have bfo : b ≠ fo := ne_of_none hHb nfo0
        have hHb6 := m06 _ _ hHb
        refine ⟨_, rfl, a, _, rfl, dg kM (m06 _ _ h1) h3, _, rfl, M', _, _, _, rfl, rfl, SqL.of (m06 _ _ h5), atI_nat (at_map hb), b, rfl, ⟨_, SqL.of hHb6⟩, ?_⟩
        refine for_list (K := K) (a := b) (xs := ds.map V.int) (fun j σ' H' => ∃ z7, σ' = [some (.ref a), some (.int m), some (.int N), some (.int s), some (.ref l), some (.int (0 + i)), some (.ref fo), z7] ∧ H' fo = some (.lst ((addRow (onAll dss (waysL dss i) s) (ds.take j) (numI (waysL dss i) s)).map V.int)) ∧ Off fo H6 H' ∧ More H4 H')
          ⟨z7, rfl, k6, .refl, m46⟩ (fun j σ' H' _ ⟨_, _, _, o, _⟩ => SqL.of (o _ _ hHb6 bfo)) ?_ ?_
        · rintro j y σ4 H7 hy ⟨z7, rfl, k7, o7, m47⟩
          obtain ⟨dd, hd, rfl⟩ := map_at hy
          obtain ⟨d0', d1'⟩ := dok dd (List.mem_of_getElem? hd)
          have lo : (addRow (onAll dss (waysL dss i) s) (ds.take j) (numI (waysL dss i) s)).length = N := by rw [addRow_len, onAll_len, hN]
          have hat := at_map (f := V.int) (at_getD (l := addRow (onAll dss (waysL dss i) s) (ds.take j) (numI (waysL dss i) s)) (i := dd.toNat) (by omega) 0)
          have hws := at_map (f := V.int) (at_getD (l := waysL dss i) (i := s) (by omega) 0)
          refine ⟨_, rfl, _, rfl, fo, _, _, _, rfl, rfl, SqL.of k7, at_of (j := dd.toNat) (by omega) hat, ?_⟩
          refine ⟨_, rfl, _, rfl, l, _, _, _, rfl, rfl, SqL.of (m47 _ _ k5), hlast, _, rfl, wi, _, _, _, rfl, rfl, SqL.of (m47 _ _ hww), atI_nat hws, _, _, rfl, rfl, _, rfl, _, rfl, fo, _, dd, dd.toNat, rfl, rfl, k7, ?_, ?_⟩
          · exact ixN_int (by omega) (by rw [List.length_map]; omega)
          · refine ⟨_, rfl, ?_, o7.trans .upd, fun c o e => ?_⟩
            · rw [upd_same, ← List.map_set, take_snoc hd]
              unfold addRow
              rw [List.foldl_append]
              rfl
            · rw [upd_ne (ne_of_none e nfo4)]
              exact m47 _ _ e
        · rintro σ4 H7 ⟨z7, rfl, k7, o7, m47⟩
          rw [List.length_map, List.take_length] at k7
          refine ⟨_, _, rfl, ?_, o6.trans o7, m47⟩
          rw [k7, hds]
          rfl
      · rintro σ3 H6 ⟨z3, z7, rfl, k6, o6, m46⟩
        have k6l := m46 _ _ k5
        refine ⟨_, rfl, .inl ⟨rfl, _, SqL.of k6l⟩, _, rfl, l, _, _, rfl, rfl, k6l, by rw [List.length_map]; exact small1000 (by omega), ?_⟩
        refine ⟨rs ++ [fo], _, _, _, _, rfl, ?_, by rw [List.length_append, lr]; rfl, fun r hr => ?_, fun j r e => ?_, ?_⟩
        · rw [upd_same, List.map_append]
          rfl
        · rcases List.mem_append.mp hr with h | h
          · exact nr r h
          · have : r = fo := by simpa using h
            rw [this]; exact fol.symm
        · by_cases z : j < rs.length
          · rw [List.getElem?_append_left z] at e
            rw [upd_ne (nr r (List.mem_of_getElem? e))]
            exact m46 _ _ (wy j r e)
          · have lt := (List.getElem?_eq_some_iff.mp e).1
            rw [List.length_append] at lt
            have lt : j < rs.length + 1 := lt
            have ej : j = rs.length := by omega
            rw [ej, List.getElem?_append_right (Nat.le_refl _), Nat.sub_self] at e
            cases e
            rw [upd_ne fol.symm, k6, ej, lr, hN]
            rfl
        · exact More.at (fun b o e => m46 _ _ (m6 _ _ e)) nl
    · rintro σ2 H4 ⟨rs, z3, z5, z6, z7, rfl, k5, lr, nr, wy, m6⟩
      exact ⟨_, rfl, q H4 l rs m6 nl k5 lr wy⟩
end
end K78

/-! Rec: two machines with so many alike numbers of words have alike numbers for ever. -/
namespace B5
def comb : List Int → List (Nat → Int) → Nat → Int
  | [], _, _ => 0
  | _ :: _, [], _ => 0
  | a :: as, v :: vs, s => a * v s + comb as vs s
theorem comb_app : ∀ (a1 : List Int) (l1 : List (Nat → Int)) (a2 : List Int) (l2 : List (Nat → Int)) (s : Nat), a1.length = l1.length → comb (a1 ++ a2) (l1 ++ l2) s = comb a1 l1 s + comb a2 l2 s
  | [], [], a2, l2, s, _ => by show comb a2 l2 s = 0 + comb a2 l2 s; omega
  | [], _ :: _, _, _, _, h => by cases h
  | _ :: _, [], _, _, _, h => by cases h
  | a :: a1, v :: l1, a2, l2, s, h => by
    show a * v s + comb (a1 ++ a2) (l1 ++ l2) s = (a * v s + comb a1 l1 s) + comb a2 l2 s
    rw [comb_app a1 l1 a2 l2 s (Nat.succ.inj h)]
    omega
theorem comb_scale (c : Int) : ∀ (as : List Int) (vs : List (Nat → Int)) (s : Nat), comb (as.map (c * ·)) vs s = c * comb as vs s
  | [], _, _ => by show (0 : Int) = c * 0; rw [Int.mul_zero]
  | _ :: _, [], _ => by show (0 : Int) = c * 0; rw [Int.mul_zero]
  | a :: as, v :: vs, s => by
    show c * a * v s + comb (as.map (c * ·)) vs s = c * (a * v s + comb as vs s)
    rw [comb_scale c as vs s, Int.mul_add, Int.mul_assoc]
theorem comb_elim (c : Int) (x : Nat → Int) (N : Nat) : ∀ (bs : List Int) (us : List (Nat → Int)) (s : Nat), comb bs (us.map fun u s => c * u s - u N * x s) s = c * comb bs us s - comb bs us N * x s
  | [], _, s => by show (0 : Int) = c * 0 - 0 * x s; rw [Int.mul_zero, Int.zero_mul]; omega
  | _ :: _, [], s => by show (0 : Int) = c * 0 - 0 * x s; rw [Int.mul_zero, Int.zero_mul]; omega
  | b :: bs, u :: us, s => by
    show b * (c * u s - u N * x s) + comb bs (us.map _) s = c * (b * u s + comb bs us s) - (b * u N + comb bs us N) * x s
    rw [comb_elim c x N bs us s, Int.mul_sub, Int.mul_add, Int.add_mul, ← Int.mul_assoc, ← Int.mul_assoc, ← Int.mul_assoc, Int.mul_comm b c]
    omega
theorem comb_zero : ∀ (as : List Int) (vs : List (Nat → Int)) (s : Nat), (∀ v ∈ vs, v s = 0) → comb as vs s = 0
  | [], _, _, _ => rfl
  | _ :: _, [], _, _ => rfl
  | a :: as, v :: vs, s, h => by
    show a * v s + comb as vs s = 0
    rw [h v (.head _), comb_zero as vs s fun u hu => h u (.tail _ hu), Int.mul_zero]
    rfl
/-- more rows than places: they depend on one another -/
theorem dep : ∀ (N : Nat) (vs : List (Nat → Int)), N < vs.length → ∃ as : List Int, as.length = vs.length ∧ (∃ a ∈ as, a ≠ 0) ∧ ∀ s, s < N → comb as vs s = 0
  | 0, vs, h => by
    cases vs with
    | nil => exact absurd h (Nat.lt_irrefl 0)
    | cons v vs => exact ⟨1 :: List.replicate vs.length 0, by simp, ⟨1, .head _, by decide⟩, fun s hs => absurd hs (Nat.not_lt_zero s)⟩
  | N + 1, vs, h => by
    by_cases z : ∀ v ∈ vs, v N = 0
    · obtain ⟨as, l, nz, e⟩ := dep N vs (by omega)
      refine ⟨as, l, nz, fun s hs => ?_⟩
      rcases Nat.lt_or_ge s N with q | q
      · exact e s q
      · have : s = N := by omega
        subst this
        exact comb_zero as vs s z
    · have : ∃ v, v ∈ vs ∧ v N ≠ 0 := Classical.byContradiction fun q => z fun v hv => Classical.byContradiction fun q2 => q ⟨v, hv, q2⟩
      obtain ⟨v, hv, nv⟩ := this
      obtain ⟨l1, l2, rfl⟩ := List.append_of_mem hv
      have lw : ((l1 ++ l2).map fun u s => v N * u s - u N * v s).length = l1.length + l2.length := by rw [List.length_map, List.length_append]
      rw [List.length_append, List.length_cons] at h
      obtain ⟨bs, l, ⟨b, hb, nb⟩, e⟩ := dep N ((l1 ++ l2).map fun u s => v N * u s - u N * v s) (by omega)
      rw [lw] at l
      have sp : bs.take l1.length ++ bs.drop l1.length = bs := List.take_append_drop _ _
      have lt : (bs.take l1.length).length = l1.length := by rw [List.length_take]; omega
      have ld : (bs.drop l1.length).length = l2.length := by rw [List.length_drop]; omega
      refine ⟨(bs.take l1.length).map (v N * ·) ++ (- comb bs (l1 ++ l2) N) :: (bs.drop l1.length).map (v N * ·), ?_, ?_, fun s hs => ?_⟩
      · rw [List.length_append, List.length_cons, List.length_map, List.length_map, lt, ld, List.length_append, List.length_cons]
      · refine ⟨v N * b, ?_, fun q => ?_⟩
        · rw [← sp] at hb
          rcases List.mem_append.mp hb with hb | hb
          · exact List.mem_append.mpr (.inl (List.mem_map.mpr ⟨b, hb, rfl⟩))
          · exact List.mem_append.mpr (.inr (.tail _ (List.mem_map.mpr ⟨b, hb, rfl⟩)))
        · rcases Int.mul_eq_zero.mp q with q | q
          · exact nv q
          · exact nb q
      · have e1 := comb_app ((bs.take l1.length).map (v N * ·)) l1 ((- comb bs (l1 ++ l2) N) :: (bs.drop l1.length).map (v N * ·)) (v :: l2) s (by rw [List.length_map]; exact lt)
        have e2 : comb ((- comb bs (l1 ++ l2) N) :: (bs.drop l1.length).map (v N * ·)) (v :: l2) s = - comb bs (l1 ++ l2) N * v s + comb ((bs.drop l1.length).map (v N * ·)) l2 s := rfl
        have e3 : comb bs (l1 ++ l2) s = comb (bs.take l1.length) l1 s + comb (bs.drop l1.length) l2 s := by
          have := comb_app (bs.take l1.length) l1 (bs.drop l1.length) l2 s lt
          rw [sp] at this
          exact this
        have e4 := comb_elim (v N) v N bs (l1 ++ l2) s
        rw [e1, e2, comb_scale, comb_scale]
        have goal : v N * comb (bs.take l1.length) l1 s + (- comb bs (l1 ++ l2) N * v s + v N * comb (bs.drop l1.length) l2 s) = v N * comb bs (l1 ++ l2) s - comb bs (l1 ++ l2) N * v s := by
          rw [e3, Int.mul_add, Int.neg_mul]
          omega
        rw [goal, ← e4]
        rcases Nat.lt_or_ge s N with q | q
        · exact e s q
        · have : s = N := by omega
          subst this
          rw [e4, Int.mul_comm]
          omega
theorem comb_sum : ∀ (m : Nat) (as : List Int) (g : Nat → Nat → Int) (s : Nat), as.length = m → comb as ((List.range m).map g) s = sumN m fun i => as.getD i 0 * g i s
  | 0, as, g, s, h => by
    rw [List.eq_nil_of_length_eq_zero h]
    rfl
  | m + 1, a :: as, g, s, h => by
    rw [List.range_succ_eq_map, List.map_cons, List.map_map]
    show a * g 0 s + comb as ((List.range m).map (g ∘ Nat.succ)) s = _
    rw [comb_sum m as (g ∘ Nat.succ) s (Nat.succ.inj h), show m + 1 = 1 + m by omega, sumN_add]
    show _ = (0 + a * g 0 s) + _
    rw [Int.zero_add]
    congr 1
    refine sumN_congr m fun i hi => ?_
    rw [show 1 + i = i + 1 by omega]
    rfl
theorem last_nz (a : Nat → Int) : ∀ m, (∃ i, i < m ∧ a i ≠ 0) → ∃ k, k < m ∧ a k ≠ 0 ∧ ∀ i, k < i → i < m → a i = 0
  | 0, ⟨i, h, _⟩ => absurd h (Nat.not_lt_zero i)
  | m + 1, ⟨i, h, n⟩ => by
    by_cases z : a m = 0
    · have : i ≠ m := fun e => n (by rw [e]; exact z)
      obtain ⟨k, k1, k2, k3⟩ := last_nz a m ⟨i, by omega, n⟩
      refine ⟨k, by omega, k2, fun j h1 h2 => ?_⟩
      by_cases q : j = m
      · rw [q]; exact z
      · exact k3 j h1 (by omega)
    · exact ⟨m, by omega, z, fun j h1 h2 => by omega⟩
/-- a linear step: what is 0 for N turns is 0 for ever -/
theorem zero_ever {N p : Nat} (st : Nat → Nat → Nat) (cl : ∀ s d, s < N → d < p → st s d < N) (G : Nat → Nat → Int) (step : ∀ L s, s < N → G (L + 1) s = sumN p fun d => G L (st s d)) {x y : Nat} (hx : x < N) (hy : y < N)
    (h : ∀ L, L < N → G L x = G L y) : ∀ L, G L x = G L y := by
  obtain ⟨as, la, ⟨a, ha, na⟩, e⟩ := dep N ((List.range (N + 1)).map G) (by rw [List.length_map, List.length_range]; omega)
  rw [List.length_map, List.length_range] at la
  have e0 : ∀ s, s < N → sumN (N + 1) (fun i => as.getD i 0 * G i s) = 0 := fun s hs => by rw [← comb_sum (N + 1) as G s la]; exact e s hs
  have ej : ∀ j s, s < N → sumN (N + 1) (fun i => as.getD i 0 * G (i + j) s) = 0 := by
    intro j
    induction j with
    | zero => exact e0
    | succ j ih =>
      intro s hs
      have q : sumN (N + 1) (fun i => as.getD i 0 * G (i + (j + 1)) s) = sumN (N + 1) fun i => sumN p fun d => as.getD i 0 * G (i + j) (st s d) := sumN_congr _ fun i _ => by
        rw [show i + (j + 1) = i + j + 1 by omega, step _ s hs, sumN_times]
      rw [q, sumN_swap, sumN_congr p (h := fun _ => 0) (fun d hd => ih _ (cl s d hs hd)), sumN_zero]
  have nz : ∃ i, i < N + 1 ∧ as.getD i 0 ≠ 0 := by
    obtain ⟨i, hi⟩ := List.getElem?_of_mem ha
    refine ⟨i, by have := (List.getElem?_eq_some_iff.mp hi).1; omega, ?_⟩
    rw [List.getD_eq_getElem?_getD, hi]
    exact na
  obtain ⟨k, k1, k2, k3⟩ := last_nz (fun i => as.getD i 0) (N + 1) nz
  intro L
  induction L using Nat.strongRecOn with
  | ind L ih =>
    rcases Nat.lt_or_ge L N with q | q
    · exact h L q
    · have ex := ej (L - k) x hx
      have ey := ej (L - k) y hy
      have sx : ∀ s, sumN (N + 1) (fun i => as.getD i 0 * G (i + (L - k)) s) = sumN k (fun i => as.getD i 0 * G (i + (L - k)) s) + as.getD k 0 * G L s := fun s => by
        obtain ⟨r, hr⟩ : ∃ r, N + 1 = k + 1 + r := ⟨N - k, by omega⟩
        rw [hr, sumN_add, sumN_congr r (h := fun _ => 0) (fun i hi => by
          have : as.getD (k + 1 + i) 0 = 0 := k3 (k + 1 + i) (by omega) (by omega)
          rw [this, Int.zero_mul]), sumN_zero, Int.add_zero]
        show sumN k _ + as.getD k 0 * G (k + (L - k)) s = _
        rw [show k + (L - k) = L by omega]
      rw [sx] at ex ey
      have same : sumN k (fun i => as.getD i 0 * G (i + (L - k)) x) = sumN k fun i => as.getD i 0 * G (i + (L - k)) y := sumN_congr k fun i hi => by rw [ih (i + (L - k)) (by omega)]
      rw [same] at ex
      have : as.getD k 0 * G L x = as.getD k 0 * G L y := by omega
      exact Int.eq_of_mul_eq_mul_left k2 this
/-! ### machines -/
/-- how many words of L digits lead from s to a mark -/
def gL (p : Nat) (dss : List (List Int)) (f : List Int) : Nat → Nat → Int
  | 0, s => numI f s
  | L + 1, s => sumN p fun d => gL p dss f L (stp dss s d)
theorem gL_top {p : Nat} {dss : List (List Int)} (M : MSt p dss) (f : List Int) : ∀ L s, s < dss.length → gL p dss f (L + 1) s = sumN p fun d => gL p dss (bh dss d f) L s
  | 0, s, hs => sumN_congr p fun d hd => (bh_at hs).symm
  | L + 1, s, hs => by
    show (sumN p fun e => gL p dss f (L + 1) (stp dss s e)) = sumN p fun d => sumN p fun e => gL p dss (bh dss d f) L (stp dss s e)
    rw [sumN_congr p fun e he => gL_top M f L (stp dss s e) (M.stp_lt hs he), sumN_swap]
theorem gL_ways {p : Nat} {dss : List (List Int)} (hp : 0 < p) (M : MSt p dss) : ∀ (L : Nat) (f : List Int), dotN dss.length (waysL dss L) f = gL p dss f L 0
  | 0, f => by
    have := words_all hp M 0 f
    rw [this]
    show 0 + mkL p dss f 0 0 = numI f 0
    rw [Int.zero_add]
    rfl
  | L + 1, f => by
    rw [gL_top M f L 0 M.ne]
    show dotN dss.length (onW dss (waysL dss L)) f = _
    rw [dot_onW M]
    exact sumN_congr p fun d hd => gL_ways hp M L _
/-- alike for so many digits as there are states: alike for ever -/
theorem alike_ever {p : Nat} (hp : 0 < p) {dss dss2 : List (List Int)} (M : MSt p dss) (M2 : MSt p dss2) (f f2 : List Int) (h : ∀ L, L < dss.length + dss2.length → dotN dss.length (waysL dss L) f = dotN dss2.length (waysL dss2 L) f2) :
    ∀ L, dotN dss.length (waysL dss L) f = dotN dss2.length (waysL dss2 L) f2 := by
  have n1 := M.ne
  have n2 := M2.ne
  have key := zero_ever (N := dss.length + dss2.length) (p := p) (fun s d => if s < dss.length then stp dss s d else dss.length + stp dss2 (s - dss.length) d)
    (fun s d hs hd => by
      by_cases z : s < dss.length
      · simp only [if_pos z]
        have := M.stp_lt z hd
        omega
      · simp only [if_neg z]
        have := M2.stp_lt (s := s - dss.length) (by omega) hd
        omega)
    (fun L s => if s < dss.length then gL p dss f L s else gL p dss2 f2 L (s - dss.length))
    (fun L s hs => by
      by_cases z : s < dss.length
      · simp only [if_pos z]
        refine sumN_congr p fun d hd => ?_
        rw [if_pos (M.stp_lt z hd)]
      · simp only [if_neg z]
        refine sumN_congr p fun d hd => ?_
        rw [if_neg (by omega), Nat.add_sub_cancel_left])
    (x := 0) (y := dss.length) (by omega) (by omega)
    (fun L hL => by
      simp only [if_pos n1, if_neg (Nat.lt_irrefl dss.length), Nat.sub_self]
      rw [← gL_ways hp M, ← gL_ways hp M2]
      exact h L hL)
  intro L
  have := key L
  simp only [if_pos n1, if_neg (Nat.lt_irrefl dss.length), Nat.sub_self] at this
  rw [gL_ways hp M, gL_ways hp M2]
  exact this
end B5

/-! Am: numbers of n below a power, of two machines beside one another. -/
namespace B5
open PySem L2 Gd
/-- how many numbers of L digits have the value -/
def nBel (dss : List (List Int)) (ws : List Int) (v : Int) (L : Nat) : Int := dotN dss.length (waysL dss L) (mkV v ws)
def nRow (dss : List (List Int)) (ws : List Int) (v : Int) (m : Nat) : List Int := (List.range m).map (nBel dss ws v)
theorem nRow_len {dss : List (List Int)} {ws : List Int} {v : Int} {m : Nat} : (nRow dss ws v m).length = m := by
  unfold nRow
  rw [List.length_map, List.length_range]
theorem nRow_at {dss : List (List Int)} {ws : List Int} {v : Int} {m i : Nat} (h : i < m) : (nRow dss ws v m)[i]? = some (nBel dss ws v i) := by
  unfold nRow
  rw [List.getElem?_map, List.getElem?_range h]
  rfl
theorem nRow_succ {dss : List (List Int)} {ws : List Int} {v : Int} {m : Nat} : nRow dss ws v (m + 1) = nRow dss ws v m ++ [nBel dss ws v m] := by
  unfold nRow
  rw [List.range_succ, List.map_append]
  rfl
/-- where two rows are unlike -/
def unl (c1 c2 : Nat → Int) (m : Nat) : List Nat := (List.range m).filter fun L => decide (c1 L ≠ c2 L)
theorem unl_succ (c1 c2 : Nat → Int) (m : Nat) : unl c1 c2 (m + 1) = unl c1 c2 m ++ if c1 m = c2 m then [] else [m] := by
  unfold unl
  rw [List.range_succ, List.filter_append]
  congr 1
  by_cases e : c1 m = c2 m
  · simp [e]
  · simp [e]
def headV : List Nat → V
  | [] => .non
  | L :: _ => .int (L : Nat)
theorem unl_len (c1 c2 : Nat → Int) (m : Nat) : (unl c1 c2 m).length ≤ m := by
  have := List.length_filter_le (fun L => decide (c1 L ≠ c2 L)) (List.range m)
  rw [List.length_range] at this
  exact this
/-- the first one is among as many as there are states -/
theorem unl_more {p : Int} {dss dss2 : List (List Int)} {ws ws2 : List Int} (g : MGood p dss ws) (g2 : MGood p dss2 ws2) (v v2 : Int) (k : Nat) : headV (unl (nBel dss ws v) (nBel dss2 ws2 v2) (dss.length + dss2.length + k)) = headV (unl (nBel dss ws v) (nBel dss2 ws2 v2) (dss.length + dss2.length)) := by
  have p2 := (isPr_small g.pr).1
  induction k with
  | zero => rfl
  | succ k ih =>
    rw [show dss.length + dss2.length + (k + 1) = dss.length + dss2.length + k + 1 by omega, unl_succ, ← ih]
    cases e : unl (nBel dss ws v) (nBel dss2 ws2 v2) (dss.length + dss2.length + k) with
    | cons x l => rfl
    | nil =>
      have all : ∀ L, L < dss.length + dss2.length → nBel dss ws v L = nBel dss2 ws2 v2 L := fun L hL => by
        refine Classical.byContradiction fun q => ?_
        have : L ∈ unl (nBel dss ws v) (nBel dss2 ws2 v2) (dss.length + dss2.length + k) := List.mem_filter.mpr ⟨List.mem_range.mpr (by omega), decide_eq_true q⟩
        rw [e] at this
        cases this
      have this : nBel dss ws v (dss.length + dss2.length + k) = nBel dss2 ws2 v2 (dss.length + dss2.length + k) := alike_ever (p := p.toNat) (by omega) g.st g2.st (mkV v ws) (mkV v2 ws2) all (dss.length + dss2.length + k)
      rw [if_pos this]
      rfl
def spNbd (K : PySem.W.Frag) (C : Addr) : Sp := fun vs H Q _ => ∃ (a : Addr) (v p : Int) (dss : List (List Int)) (ws : List Int) (m : Nat), vs = [.ref a, .int v, .int m] ∧ MAt K H C a p dss ws ∧ MGood p dss ws ∧ m ≤ 1000 ∧
  ∀ H' l, More H H' → H l = none → H' l = some (.lst ((nRow dss ws v m).map V.int)) → Q (.ref l) H'
def spCb (K : PySem.W.Frag) (C CU : Addr) : Sp := fun vs H Q E => ∃ (a b : Addr) (p p2 : Int) (dss dss2 : List (List Int)) (ws ws2 : List Int), vs = [.ref a, .ref b] ∧ MAt K H C a p dss ws ∧ MAt K H C b p2 dss2 ws2 ∧ ((p = p2 ∧ Q .non H) ∨ (p ≠ p2 ∧ RUn CU "p" H E))
def spAm (K : PySem.W.Frag) (C CU : Addr) : Sp := fun vs H Q E => ∃ (a b : Addr) (v v2 p p2 : Int) (dss dss2 : List (List Int)) (ws ws2 : List Int), vs = [.ref a, .int v, .ref b, .int v2] ∧ MAt K H C a p dss ws ∧ MAt K H C b p2 dss2 ws2 ∧ MGood p dss ws ∧ MGood p2 dss2 ws2 ∧ dss.length + dss2.length ≤ 900 ∧
  ((p = p2 ∧ ∀ H', More H H' → Q (headV (unl (nBel dss ws v) (nBel dss2 ws2 v2) (dss.length + dss2.length))) H') ∨ (p ≠ p2 ∧ RUn CU "p" H E))
def spCo : Sp := fun vs H Q _ => ∃ (a d : Addr) (p v : Int) (m : Nat) (dss : List (List Int)) (ws : List Int), vs = [.ref a, .int v, .int m] ∧ PlM H d a p dss ws ∧ m ≤ 900 ∧
  ∀ H' l, More H H' → H l = none → H' l = some (.lst ((nRow dss ws v (m + 1)).map V.int)) → Q (.ref l) H'
def spSf : Sp := fun vs H Q _ => ∃ (d c a : Addr) (n p : Int) (dss : List (List Int)) (ws : List Int), vs = [.ref d, .ref a] ∧ Pen H d c n ∧ 0 ≤ n ∧ n < 810000000 ∧ PlM H d a p dss ws ∧ dss.length ≤ 20 ∧
  ∀ (H' : Hp) (b : Addr) (dss2 : List (List Int)) (ws2 : List Int) (n' : Int), PlM H' d b p dss2 ws2 → dss2.length ≤ 20 → Pen H' d c n' → n ≤ n' → n' ≤ n + 100 → Off d H H' → Q (.ref b) H'
def spLt : Sp := fun vs H Q _ => ∃ (d : Addr) (p m : Nat), vs = [.int p, .int m] ∧ (∃ kvs, H d = some (.dK kvs)) ∧ isPr p = true ∧ 1 ≤ m ∧ m ≤ 10 ∧
  ∀ (H' : Hp) (b : Addr) (dss : List (List Int)) (ws : List Int), PlM H' d b p dss ws → dss.length ≤ 20 → More H H' → Q (.ref b) H'
def spPr : Sp := fun vs H Q _ => ∃ (d c : Addr) (n : Int), vs = [.ref d] ∧ Pen H d c n ∧ 0 ≤ n ∧ n < 700000000 ∧
  ∀ (H' : Hp) (t a b : Addr) (p : Int) (dss dss2 : List (List Int)) (ws ws2 : List Int) (n' : Int), H' t = some (.tup [.ref a, .ref b]) → PlM H' d a p dss ws → PlM H' d b p dss2 ws2 → dss.length ≤ 20 → dss2.length ≤ 20 → Pen H' d c n' → n ≤ n' → n' ≤ n + 3000 → Off d H H' → Q (.ref t) H'
end B5

namespace K78
open PySem L2 Gd B5 ZipG
section
variable {P : Program} {w : World} {K : PySem.W.Frag} {mg : Str → Option Value} {base : Heap}
variable {g1 g2 g3 f : Addr} {d1 d2 d3 fd : FuncData}
abbrev sCo : Stmt := top 39
abbrev NCo : List Str := ["_law_machine_here", "_law_value", "_law_many", "_law_fits", "_law_found", "_law_row", "_law_worth", "_law_one", "_law_two"]
theorem scCo : FnScope NCo ["_law_machine_here", "_law_value", "_law_many"] (defScope sCo) := ⟨rfl, rfl, rfl, by decide +kernel, rfl, by decide +kernel, by decide +kernel⟩
theorem ok_co (F : Fun K "_law_count_of" "_law_count_of" sCo f fd) (B : Blt mg) (zZip : mg "zip" = none) (zSum : mg "sum" = none) (Wt : Cl K mg "_law_words_to" sWt ["_law_machine_here", "_law_many"] g1 d1) :
    FnOk P w K mg base CX0 2 f fd ["_law_machine_here", "_law_value", "_law_many"] spCo := by
  have G1 : FnOk P w K mg base CX0 1 g1 d1 ["_law_machine_here", "_law_many"] spWt := ok_wt Wt.fn B
  refine F.ok scCo (fun vs H Q E h => ?_) (fun cdv A outer s H vs Q E hr h => ?_)
  · obtain ⟨a, d, p, v, m, dss, ws, rfl, _⟩ := h
    rfl
  · obtain ⟨a, d, p, v, m, dss, ws, rfl, pl, few, q⟩ := h
    have hu := hu_of hr
    refine ⟨_, pss_cons (ps_par (i := 3) (j := 4) rfl scCo.nd rfl rfl (by decide) rfl rfl (pa_cons (pe_lc (own := [("_law_worth", 6)]) (g := gName 6) (tt := tYes) rfl scCo.nd (pi_list (pe_dget hu (pv 0) pe_str (fun _ _ => rfl)))
          (blkOk_by (N := NCo) (sc := defScope sCo) (by decide +kernel)) (fun _ _ _ _ _ => pg_name (i := 6) scCo.nd rfl (Or.inl rfl)) (fun _ _ _ _ _ => pts_nil)
          (fun _ _ _ _ _ => pe_callTy call_int1 (by rfl) B.int_ (by decide +kernel) (pa_cons (pe_cmpR op_eq (pv 6) (pv 1) (nomark _)) pa_nil))) (pa_cons (pe_lst pa_nil) pa_nil)) (by rfl))
      (pss_cons (ps_for PassesOwn.never rfl (pi_list (pe_call G1 hr rfl Wt.g Wt.k Wt.b .nil pass0 (pa_cons (pv 0) (pa_cons (pv 2) pa_nil)))) (pg_name (i := 5) scCo.nd rfl (Or.inl rfl))
        (pss_one (ps_expr (pe_bm PySem.F.plainAttrs_list PySem.F.slot_list_append PySem.F.type_list_append mt_append (pv 4) (pa_cons (pe_callB (cr_sum rfl) (by rfl) zSum (by decide +kernel) (pa_cons
            (pe_lc (own := [("_law_one", 7), ("_law_two", 8)]) (g := gTup K 2 (gCons (gName 7) (gCons (gName 8) gNil))) (tt := tYes) rfl scCo.nd
              (pi_zipG (by rfl) zZip (pa_cons (pv 5) (pa_cons (pv 3) pa_nil))) (blkOk_by (N := NCo) (sc := defScope sCo) (by decide +kernel))
              (fun _ _ _ _ _ => pg_tup rfl (pgs_cons (pg_name (i := 7) scCo.nd rfl (Or.inl rfl)) (pgs_cons (pg_name (i := 8) scCo.nd rfl (Or.inl rfl)) pgs_nil))) (fun _ _ _ _ _ => pts_nil)
              (fun _ _ _ _ _ => pe_op op_mul (pv 7) (pv 8))) pa_nil)) pa_nil)))))
      (pss_one (ps_ret (pv 4)))), ?_⟩
    obtain ⟨kvs, M', W, as, h1, h2, h3, h4, h5, h6, h7⟩ := pl.at_
    have la : as.length = dss.length := Paired.length h6
    have g := pl.good
    have few2 := g.few
    have bt := bits_mk (v := v) (ws := ws)
    -- the fits
    refine ⟨_, rfl, a, _, rfl, dg kW h1 h4, W, rfl, ⟨_, SqL.of h7⟩, fun f0 nf0 => ?_⟩
    refine lc_name (n := 6) (D := f0) (H1 := H) (xs := ws.map V.int) (rs := (mkV v ws).map V.int) walk_list nf0 (fun H' m => Same.seq m (SqL.of h7)) (by unfold mkV; simp) (by rw [List.length_map, g.len]; omega) (fun _ => rfl) ?_ ?_
    · intro i y r H3 Q3 hy hr3 m3 q3
      obtain ⟨w0, hw0, rfl⟩ := map_at hy
      obtain ⟨r0, hr0, rfl⟩ := map_at hr3
      unfold mkV at hr0
      obtain ⟨w1, hw1, rfl⟩ := map_at hr0
      rw [hw0] at hw1
      cases hw1
      refine ⟨_, rfl, _, rfl, rfl, .inr ⟨_, rfl, ?_⟩⟩
      rw [deI]
      by_cases z : w0 = v
      · rw [decide_eq_true z]
        rw [if_pos z] at q3
        exact q3 _ fun _ _ e => e
      · rw [decide_eq_false z]
        rw [if_neg z] at q3
        exact q3 _ fun _ _ e => e
    intro H1 k1 m1
    refine ⟨by show 0 ≤ sizeLine; exact Nat.zero_le _, fun o ho => ⟨_, _, rfl, ?_⟩⟩
    have m2 := new_more (o := .lst []) ho
    have k2 : (upd H1 o (.lst [])) o = some (.lst []) := upd_same
    have m02 : More H (upd H1 o (.lst [])) := fun b o e => m2 _ _ (m1 _ _ e)
    have f0o : f0 ≠ o := ne_of_none k1 ho
    have no : H o = none := m1.off ho
    have k12 := m2 _ _ k1
    generalize upd H1 o (.lst []) = H2 at m02 m2 k2 k12 ⊢
    refine ⟨_, rfl, _, rfl, a, d, p, m, dss, ws, rfl, pl.more m02, by omega, fun H3 l rs m3 nl hl lrs wy => ?_⟩
    have k3 := m3 _ _ k2
    have k13 := m3 _ _ k12
    have ol : l ≠ o := fun e => by rw [e, k2] at nl; cases nl
    have d0 : 0 < dss.length := List.length_pos_iff.mpr g.ne
    have nro : ∀ (i : Nat) r, rs[i]? = some r → r ≠ o := fun i r e z => by
      have := wy i r e
      rw [z, k3] at this
      have l0 := waysL_len dss g.ne i
      cases eW : waysL dss i with
      | nil => rw [eW, List.length_nil] at l0; omega
      | cons x xs => rw [eW] at this; cases this
    refine ⟨l, rfl, ⟨_, SqL.of hl⟩, for_list (K := K) (a := l) (xs := rs.map V.ref) (fun i σ' H' => ∃ z5, σ' = [some (.ref a), some (.int v), some (.int m), some (.ref f0), some (.ref o), z5, none, none, none] ∧ H' o = some (.lst ((nRow dss ws v i).map V.int)) ∧ Off o H3 H' ∧ More H H')
      ⟨none, rfl, k3, .refl, fun b o e => m3 _ _ (m02 _ _ e)⟩ (fun i σ' H' _ ⟨_, _, _, o2, _⟩ => SqL.of (o2 _ _ hl ol)) ?_ ?_⟩
    · rintro i y σ2 H4 hy ⟨z5, rfl, k4, o4, m4⟩
      obtain ⟨b, hb, rfl⟩ := map_at hy
      have hi : i < m + 1 := by have := (List.getElem?_eq_some_iff.mp hb).1; omega
      have hb4 := o4 _ _ (wy i b hb) (nro i b hb)
      have k14 := o4 _ _ k13 f0o
      have lw : (waysL dss i).length = dss.length := waysL_len dss g.ne i
      have lm : (mkV v ws).length = dss.length := by rw [bt.1, g.len]
      refine ⟨_, rfl, .inl ⟨rfl, _, SqL.of k4⟩, _, rfl, _, rfl, .l b, .l f0, (waysL dss i).map V.int, (mkV v ws).map V.int, rfl, SqL.of hb4, SqL.of k14, fun D' nD' => ?_⟩
      refine lc_it (H1 := H4) (D := D') (walk_zipG (n := dss.length) (by rw [List.length_map, List.length_map]; omega)) (fun i' H' => H' D' = some (.lst (((List.zipWith (fun a b => a * b) (waysL dss i) (mkV v ws)).take i').map V.int)) ∧ More H4 H')
        ⟨upd_same, new_more nD'⟩ (fun i' H' _ hh => ⟨SqL.of (hh.2 _ _ hb4), SqL.of (hh.2 _ _ k14)⟩) ?_ ?_
      · rintro i' vv H6 H7 hi' ⟨k6, m6⟩ ⟨T, u, y, rfl, nT, rfl, hu', hy⟩
        obtain ⟨x, hx, rfl⟩ := map_at hu'
        obtain ⟨y0, hy0, rfl⟩ := map_at hy
        have m7 := m6.new (o := .tup [.int x, .int y0]) nT
        have k7 : (upd H6 T (.tup [.int x, .int y0])) D' = _ := (upd_ne (ne_of_none k6 nT)).trans k6
        have bz := bt.mem (List.mem_of_getElem? hy0)
        refine ⟨T, _, rfl, SqT.of upd_same, rfl, _, _, rfl, _, _, rfl, rfl, rfl, ?_⟩
        refine ⟨_, rfl, _, rfl, _, _, rfl, rfl, .inr ⟨by omega, by omega⟩, _, k7, ?_, ?_, More.at m7 nD'⟩
        · rw [List.length_map, List.length_take]
          exact small1000 (by omega)
        · rw [upd_same, take_snoc (zip_at (f := fun a b : Int => a * b) hx hy0), List.map_append]
          rfl
      · rintro H6 ⟨k6, m6⟩
        have len : (List.zipWith (fun a b : Int => a * b) (waysL dss i) (mkV v ws)).length = dss.length := by
          rw [List.length_zipWith]
          omega
        rw [← len, List.take_length] at k6
        refine ⟨D', _, rfl, SqL.of k6, ?_⟩
        rw [dotN_sum dss.length _ _ lw lm]
        have k64 := m6 _ _ k4
        refine ⟨o, _, _, rfl, rfl, k64, by rw [List.length_map, nRow_len]; exact small1000 (by omega), _, rfl, ?_, (o4.trans (.of m6)).trans .upd, ?_⟩
        · rw [upd_same, nRow_succ, List.map_append]
          rfl
        · exact More.at (fun b o e => m6 _ _ (m4 _ _ e)) no
    · rintro σ2 H4 ⟨z5, rfl, k4, o4, m4⟩
      rw [List.length_map, lrs] at k4
      exact ⟨_, rfl, q H4 o m4 no k4⟩
end
end K78

/-! Rw: rows that a comprehension makes; a machine's states in another order. -/
namespace B5
open PySem PySem.Spec L2 Gd
theorem Pen.more {H H' : Hp} {d c : Addr} {n : Int} (h : Pen H d c n) (m : More H H') : Pen H' d c n := by
  obtain ⟨o1, e1⟩ := h.at
  obtain ⟨o2, e2⟩ := h.atc
  exact h.keep ((m _ _ e1).trans e1.symm) ((m _ _ e2).trans e2.symm)
/-- a range, as what is walked -/
def rgY (lo : Int) (n : Nat) : List V := (List.range n).map fun i : Nat => V.int (lo + i)
theorem rgY_len (lo : Int) (n : Nat) : (rgY lo n).length = n := by unfold rgY; rw [List.length_map, List.length_range]
theorem rgY_at {lo : Int} {n i : Nat} {y : V} (h : (rgY lo n)[i]? = some y) : i < n ∧ y = .int (lo + i) := by
  have lt := (List.getElem?_eq_some_iff.mp h).1
  rw [rgY_len] at lt
  unfold rgY at h
  rw [List.getElem?_map, List.getElem?_range lt] at h
  cases h
  exact ⟨lt, rfl⟩
theorem walk_rgY {lo : Int} {n : Nat} : Walk (Itr lo n) (rgY lo n).length (fun _ => True) (YAt (rgY lo n)) := by
  rw [rgY_len]
  refine ⟨fun _ _ hi _ => hi, fun _ _ => Nat.le_refl _, fun i H x H' hi _ y => ?_⟩
  obtain ⟨e, y⟩ := y
  subst e y
  refine ⟨rfl, ?_⟩
  unfold rgY
  rw [List.getElem?_map, List.getElem?_range hi]
  rfl
/-- rows that a comprehension makes, one at a time -/
theorem lc_rows {J : It} {Z : Hp → Prop} {xs : List V} {dss : List (List Int)} (w : Walk J xs.length Z (YAt xs)) {n : Nat} {te : TE} {vs : List Nat} {σ : L2.St} {H1 : Hp} {D : Addr} {Qd : Hp → Prop}
    (hD : H1 D = none) (hZ : ∀ H', More H1 H' → Z H') (hl : dss.length = xs.length) (few : xs.length ≤ 16777215)
    (hw : ∀ y, wipe ((wipe σ vs).set n (some y)) vs = wipe σ vs)
    (el : ∀ (i : Nat) (y : V) (ds : List Int) (H2 : Hp) (Q : VK), xs[i]? = some y → dss[i]? = some ds → More H1 H2 → (∀ H3 b, More H2 H3 → H2 b = none → H3 b = some (.lst (ds.map V.int)) → Q (.ref b) H3) → te ((wipe σ vs).set n (some y)) H2 Q)
    (hd : ∀ H' as, H' D = some (.lst (as.map V.ref)) → Paired (fun (b : Addr) ds => H' b = some (.lst (ds.map V.int))) as dss → More H1 H' → Qd H') :
    ∃ W : Nat → Nat → Hp → Prop, (∃ m, W 0 m (upd H1 D (.lst []))) ∧ ∀ i m H, W i m H →
    (J.stop i H ∧ Qd H) ∨ (J.go i H ∧ ∃ Nx : Hp → Prop, (∀ H', Nx H' → ∃ m', m' < m ∧ W (i + 1) m' H') ∧ ∀ x H', J.yld i H x H' → gName n x (wipe σ vs) H' fun σ2 H2 => wipe σ2 vs = wipe σ vs ∧ tYes σ2 H2 fun b H3 =>
      if b = true then te σ2 H3 fun y H4 => ∃ acc, H4 D = some (.lst acc) ∧ acc.length < sizeLine ∧ Nx (upd H4 D (.lst (acc ++ [y]))) else Nx H3) := by
  refine lc_it (H1 := H1) (D := D) (Qd := Qd) w (fun i H' => ∃ as : List Addr, H' D = some (.lst (as.map V.ref)) ∧ as.length = i ∧ (∀ (j : Nat) b ds, as[j]? = some b → dss[j]? = some ds → H' b = some (.lst (ds.map V.int))) ∧ (∀ b ∈ as, b ≠ D) ∧ More H1 H')
    ⟨[], upd_same, rfl, (fun j b ds h => by rw [List.getElem?_nil] at h; cases h), nofun, More.new (fun _ _ e => e) hD⟩ (fun i H' _ ⟨_, _, _, _, _, m⟩ => hZ H' m) ?_ ?_
  · rintro i y H2 H3 hi ⟨as, h2, la, ro, ne, m2⟩ ⟨rfl, hy⟩
    have hv : dss[i]? = some dss[i] := List.getElem?_eq_getElem (by omega)
    refine ⟨hw y, el i y dss[i] H3 _ hy hv m2 fun H4 b m4 nb hb => ⟨_, m4 _ _ h2, by rw [List.length_map, sizeLine_eq]; omega, as ++ [b], by rw [upd_same, List.map_append]; rfl, by rw [List.length_append, la]; rfl, ?_, ?_, More.at (fun b o e => m4 b o (m2 b o e)) hD⟩⟩
    · intro j c ds hc hds
      by_cases lt : j < as.length
      · rw [List.getElem?_append_left lt] at hc
        rw [upd_ne (ne c (List.mem_of_getElem? hc))]
        exact m4 _ _ (ro j c ds hc hds)
      · have l2 := (List.getElem?_eq_some_iff.mp hc).1
        rw [List.length_append] at l2
        have l2 : j < as.length + 1 := l2
        have ej : j = as.length := by omega
        subst ej
        rw [List.getElem?_append_right (Nat.le_refl _), Nat.sub_self] at hc
        cases hc
        rw [la, hv] at hds
        cases hds
        rw [upd_ne fun e => ?_]
        · exact hb
        · rw [← e, nb] at h2
          cases h2
    · intro c hc
      rcases List.mem_append.mp hc with hc | hc
      · exact ne c hc
      · have : c = b := by simpa using hc
        rw [this]
        intro e
        rw [← e, nb] at h2
        cases h2
  · rintro H' ⟨as, h2, la, ro, ne, m2⟩
    exact hd H' as h2 (paired_of (by omega) fun j b ds hb hds => ro j b ds hb hds) m2
/-! ### another order -/
def ixOf (ord : List Nat) (t : Nat) : Nat := ord.findIdx fun x => x == t
def shD (dss : List (List Int)) (ord : List Nat) : List (List Int) := ord.map fun s => (dss.getD s []).map fun (t : Int) => ((ixOf ord t.toNat : Nat) : Int)
def shW (ws : List Int) (ord : List Nat) : List Int := ord.map fun s => ws.getD s 0
theorem ixOf_lt {ord : List Nat} {t : Nat} (h : t ∈ ord) : ixOf ord t < ord.length := List.findIdx_lt_length_of_exists ⟨t, h, by simp⟩
theorem ixOf_at {ord : List Nat} {t : Nat} (h : t ∈ ord) : ord[ixOf ord t]? = some t := by
  have lt := ixOf_lt h
  rw [List.getElem?_eq_getElem lt]
  have := List.findIdx_getElem (xs := ord) (p := fun x => x == t) (w := lt)
  exact congrArg some (eq_of_beq this)
theorem ixOf_no {ord : List Nat} {t m x : Nat} (h : m < ixOf ord t) (hx : ord[m]? = some x) : x ≠ t := by
  obtain ⟨lt, e⟩ := List.getElem?_eq_some_iff.mp hx
  have := List.not_of_lt_findIdx (p := fun x => x == t) (xs := ord) h
  rw [e] at this
  intro z
  simp [z] at this
theorem sh_len {ord : List Nat} {k : Nat} (pm : ord.Perm (List.range k)) : ord.length = k := by rw [pm.length_eq, List.length_range]
theorem sh_mem {ord : List Nat} {k s : Nat} (pm : ord.Perm (List.range k)) : s ∈ ord ↔ s < k := by rw [pm.mem_iff, List.mem_range]
theorem shD_len {dss : List (List Int)} {ord : List Nat} (pm : ord.Perm (List.range dss.length)) : (shD dss ord).length = dss.length := by
  unfold shD
  rw [List.length_map, sh_len pm]
theorem sh_good {p : Int} {dss : List (List Int)} {ws : List Int} {ord : List Nat} (g : MGood p dss ws) (pm : ord.Perm (List.range dss.length)) : MGood p (shD dss ord) (shW ws ord) where
  pr := g.pr
  ne := fun e => by
    have := shD_len pm
    rw [e] at this
    exact g.ne (List.eq_nil_of_length_eq_zero this.symm)
  rows := fun ds hds => by
    unfold shD at hds
    obtain ⟨s, hs, rfl⟩ := List.mem_map.mp hds
    obtain ⟨l, ok⟩ := g.rows _ (List.mem_of_getElem? (at_getD ((sh_mem pm).mp hs) []))
    refine ⟨by rw [List.length_map]; exact l, fun d hd => ?_⟩
    obtain ⟨t, ht, rfl⟩ := List.mem_map.mp hd
    have o := ok t ht
    have := ixOf_lt ((sh_mem pm).mpr (show t.toNat < dss.length by omega))
    rw [sh_len pm] at this
    rw [shD_len pm]
    omega
  len := by
    rw [shD_len pm]
    unfold shW
    rw [List.length_map, sh_len pm]
  few := by
    rw [shD_len pm]
    exact g.few
theorem st_at {p : Int} {dss : List (List Int)} {ws : List Int} (g : MGood p dss ws) (st : stdy dss ws = true) {s : Nat} (hs : s < dss.length) : ws.getD s 0 = ws.getD (zf dss s) 0 := by
  have e0 := at_getD hs []
  have hs' : s < ws.length := by rw [g.len]; exact hs
  have z : (List.zipWith (fun ds (w : Int) => decide (w = ws.getD (ds.getD 0 0).toNat 0)) dss ws)[s]? = some (decide (ws.getD s 0 = ws.getD (zf dss s) 0)) := zip_at e0 (at_getD hs' 0)
  exact of_decide_eq_true (List.all_eq_true.mp st _ (List.mem_of_getElem? z))
theorem sh_st {p : Int} {dss : List (List Int)} {ws : List Int} {ord : List Nat} (g : MGood p dss ws) (st : stdy dss ws = true) (pm : ord.Perm (List.range dss.length)) : stdy (shD dss ord) (shW ws ord) = true := by
  have g2 := sh_good g pm
  obtain ⟨p2, p7⟩ := isPr_small g.pr
  obtain ⟨pn, rfl⟩ : ∃ pn : Nat, p = pn := ⟨p.toNat, by omega⟩
  refine stdy_heads (p := pn) (by omega) (fun ds hds => ⟨by have := (g2.rows ds hds).1; omega, (g2.rows ds hds).2⟩) g2.len fun j hj => ?_
  rw [shD_len pm] at hj
  have hjo : j < ord.length := by rw [sh_len pm]; exact hj
  have eo := List.getElem?_eq_getElem hjo
  generalize ord[j] = s at eo
  have hs := (sh_mem pm).mp (List.mem_of_getElem? eo)
  have w1 : ∀ {j s : Nat}, ord[j]? = some s → (shW ws ord).getD j 0 = ws.getD s 0 := fun {j s} e => by
    unfold shW
    rw [getD_of (by rw [List.getElem?_map, e]; rfl)]
  obtain ⟨l, ok⟩ := g.rows _ (List.mem_of_getElem? (at_getD hs []))
  have e1 := at_getD (l := dss.getD s []) (i := 0) (by omega) 0
  have o1 := ok _ (List.mem_of_getElem? e1)
  have zz : zf (shD dss ord) j = ixOf ord (zf dss s) := by
    have : (shD dss ord)[j]? = some ((dss.getD s []).map fun (t : Int) => ((ixOf ord t.toNat : Nat) : Int)) := by
      unfold shD
      rw [List.getElem?_map, eo]
      rfl
    unfold zf
    rw [getD_of this, getD_of (at_map (f := fun (t : Int) => ((ixOf ord t.toNat : Nat) : Int)) e1), Int.toNat_natCast]
  have lt : zf dss s < dss.length := by unfold zf; omega
  rw [zz, w1 eo, w1 (ixOf_at ((sh_mem pm).mpr lt))]
  exact st_at g st hs
end B5

namespace K78
open PySem L2 Gd B5
section
variable {P : Program} {w : World} {K : PySem.W.Frag} {mg : Str → Option Value} {base : Heap}
variable {g1 f : Addr} {d1 fd : FuncData}
abbrev sSf : Stmt := top 40
abbrev NSf : List Str := ["_law_pen_here", "_law_plain", "_law_size", "_law_left", "_law_order", "_law_lap", "_law_moves", "_law_to", "_law_state"]
theorem scSf : FnScope NSf ["_law_pen_here", "_law_plain"] (defScope sSf) := ⟨rfl, rfl, rfl, by decide +kernel, rfl, by decide +kernel, by decide +kernel⟩
theorem seqIx {r : Int} {n : Nat} (h0 : 0 ≤ r) (h1 : r < (n : Int)) : seqIndex? r n = some r.toNat := by
  unfold seqIndex?
  have e : (if r < 0 then r + (n : Int) else r) = r := if_neg (by omega)
  simp only [e, decide_eq_true h0, decide_eq_true h1, Bool.and_self, if_true]
theorem pop_perm {α : Type} : ∀ {l : List α} {k : Nat} {y : α}, l[k]? = some y → (y :: l.eraseIdx k).Perm l
  | [], k, y, h => by simp at h
  | x :: l, 0, y, h => by
    cases h
    exact List.Perm.refl _
  | x :: l, k + 1, y, h => (List.Perm.swap x y _).trans ((pop_perm (l := l) h).cons x)
abbrev natV : Nat → V := fun x => V.int (x : Nat)
theorem eraseIdx_map {α β : Type} (f : α → β) : ∀ (l : List α) (k : Nat), (l.map f).eraseIdx k = (l.eraseIdx k).map f
  | [], _ => rfl
  | x :: l, 0 => rfl
  | x :: l, k + 1 => congrArg (f x :: ·) (eraseIdx_map f l k)
theorem natV_flat (l : List Nat) : (l.map natV).all flatV = true := List.all_eq_true.mpr fun y hy => by
  obtain ⟨x, _, rfl⟩ := List.mem_map.mp hy
  rfl
theorem ok_sf (F : Fun K "_law_shuffled" "_law_shuffled" sSf f fd) (B : Blt mg) (Dr : Cl K mg "_law_draw" sDraw ["_law_pen_here", "_law_many"] g1 d1) : FnOk P w K mg base CX0 2 f fd ["_law_pen_here", "_law_plain"] spSf := by
  have G1 : FnOk P w K mg base CX0 1 g1 d1 ["_law_pen_here", "_law_many"] spDraw := ok_draw Dr.fn B.int_ B.len_
  refine F.ok scSf (fun vs H Q E h => ?_) (fun cdv A outer s H vs Q E hr h => ?_)
  · obtain ⟨d, c, a, n, p, dss, ws, rfl, _⟩ := h
    rfl
  · obtain ⟨d, c, a, n, p, dss, ws, rfl, pen, n0, n1, pl, few, q⟩ := h
    have hu := hu_of hr
    have hr1 : Room 1 _ := hr.mono (by decide)
    refine ⟨_, pss_cons (ps_set (i := 2) scSf.nd rfl (Or.inl rfl) (pe_callB call_len_seq (by rfl) B.len_ PySem.boot_len (pa_cons (pe_dget hu (pv 1) pe_str (fun _ _ => rfl)) pa_nil)))
      (pss_cons (ps_asg (pe_tup (pa_cons (pe_listRg rfl (by rfl) B.list_ (prg_2 (by rfl) B.range_ pe_int (pv 2))) (pa_cons (pe_lst (pa_cons pe_int pa_nil)) pa_nil)))
        (pg_tup (by rfl) (pgs_cons (pg_name (i := 3) scSf.nd rfl (Or.inl rfl)) (pgs_cons (pg_name (i := 4) scSf.nd rfl (Or.inr rfl)) pgs_nil))))
      (Evl.pss_cut (ps_for PassesOwn.never rfl (pi_range1 (by rfl) B.range_ (pa_cons (pe_op op_sub (pv 2) pe_int) pa_nil)) (pg_name (i := 5) scSf.nd rfl (Or.inl rfl))
        (pss_one (ps_expr (pe_bm PySem.F.plainAttrs_list PySem.F.slot_list_append PySem.F.type_list_append mt_append (pv 4) (pa_cons
          (pe_bm PySem.F.plainAttrs_list PySem.F.slot_list_pop PySem.F.type_list_pop mt_popAt (pv 3) (pa_cons
            (pe_call G1 hr1 rfl Dr.g Dr.k Dr.b .nil pass0 (pa_cons (pv 0) (pa_cons (pe_callB call_len_seq (by rfl) B.len_ PySem.boot_len (pa_cons (pv 3) pa_nil)) pa_nil))) pa_nil)) pa_nil)))))
      (pss_cons (ps_setLc (i := 6) (own := [("_law_state", 8)]) (g := gName 8) (tt := tYes) rfl scSf.nd rfl rfl (sw_true rfl rfl rfl (by decide +kernel)) (pi_list (pv 4))
          (blkOk_by (N := NSf) (sc := defScope sSf) (by decide +kernel)) (fun _ _ _ _ _ => pg_name (i := 8) scSf.nd rfl (Or.inl rfl)) (fun _ _ _ _ _ => pts_nil)
          (fun _ _ _ _ _ => by
            refine pe_lc (own := [("_law_to", 7)]) (g := gName 7) (tt := tYes) (wi := iList K (tOp (rIxL K) (tDGet (tVar 1) (tC (.str "moves"))) (tVar 8))) (te := tBM K "list" (rIndex K) (tVar 4) (tCons (tVar 7) tNil)) rfl scSf.nd ?_
              (blkOk_by (N := NSf) (sc := relabel (lcSc (asgV ((defBody sSf).getD 3 (.Pass ⟨0, 0, 0, 0⟩)))) (PyProof.Rows.envOfC "_law_shuffled" (defScope sSf) 0 0 .none)) (by decide +kernel)) ?_ ?_ ?_
            · exact pi_list (pe_ix (r := rIxL K) ix_list (pe_dget hu (pv 1) pe_str (fun _ _ => rfl)) (pv 8) (fun _ _ => rfl))
            · exact fun _ _ _ _ _ => pg_name (i := 7) scSf.nd rfl (Or.inl rfl)
            · exact fun _ _ _ _ _ => pts_nil
            · exact fun _ _ _ _ _ => pe_bm (r := rIndex K) PySem.F.plainAttrs_list PySem.F.slot_list_index PySem.F.type_list_index mt_index (pv 4) (pa_cons (pv 7) pa_nil)))
      (pss_one (ps_ret (pe_disp (pps_cons pe_str (pe_dget hu (pv 1) pe_str (fun _ _ => rfl)) (pps_cons pe_str (pv 6) (pps_cons pe_str
        (pe_lc (own := [("_law_state", 8)]) (g := gName 8) (tt := tYes) rfl scSf.nd (pi_list (pv 4)) (blkOk_by (N := NSf) (sc := defScope sSf) (by decide +kernel)) (fun _ _ _ _ _ => pg_name (i := 8) scSf.nd rfl (Or.inl rfl)) (fun _ _ _ _ _ => pts_nil)
          (fun _ _ _ _ _ => pe_ix (r := rIxL K) ix_list (pe_dget hu (pv 1) pe_str (fun _ _ => rfl)) (pv 8) (fun _ _ => rfl))) pps_nil))) rfl rfl (by simp) (by decide))))))), ?_⟩
    obtain ⟨kvs, M', W, as, h1, h2, h3, h4, h5, h6, h7⟩ := pl.at_
    have la : as.length = dss.length := Paired.length h6
    have g := pl.good
    have d0 : 0 < dss.length := List.length_pos_iff.mpr g.ne
    obtain ⟨N, hN⟩ : ∃ N, N = dss.length := ⟨_, rfl⟩
    refine ⟨_, rfl, a, _, rfl, dg kM h1 h3, M', _, rfl, .inl (SqL.of h5), ?_⟩
    have eN : (((as.map V.ref).length : Nat) : Int) = (N : Int) := by rw [List.length_map, la, hN]
    show gName 2 (V.int (((as.map V.ref).length : Nat) : Int)) _ _ _
    rw [eN]
    -- what is left, the order
    refine ⟨_, rfl, _, _, rfl, rfl, .of_le (by omega) (by omega) (by omega) (by omega), fun l hl => ?_⟩
    have m1 := new_more (o := .lst (rgV 1 N)) hl
    refine ⟨by show 1 ≤ sizeLine; decide, fun o ho => ?_⟩
    have m2 := new_more (o := .lst [V.int 0]) ho
    have kl := m2 _ _ (show (upd H l (.lst (rgV 1 N))) l = _ from upd_same)
    have ko : (upd (upd H l (.lst (rgV 1 N))) o (.lst [V.int 0])) o = some (.lst [V.int 0]) := upd_same
    have lo : l ≠ o := ne_of_none upd_same ho
    have no : H o = none := m1.off ho
    have pen2 := (pen.upd (o := .lst (rgV 1 N)) hl).upd (o := .lst [V.int 0]) ho
    have m02 : More H (upd (upd H l (.lst (rgV 1 N))) o (.lst [V.int 0])) := fun b o e => m2 _ _ (m1 _ _ e)
    generalize upd (upd H l (.lst (rgV 1 N))) o (.lst [V.int 0]) = H2 at kl ko pen2 m02 ⊢
    refine ⟨by show 2 ≤ sizeLine; decide, fun t ht => ?_⟩
    have mt := new_more (o := .tup [.ref l, .ref o]) ht
    have kt : (upd H2 t (.tup [.ref l, .ref o])) t = some (.tup [.ref l, .ref o]) := upd_same
    have kl := mt _ _ kl
    have ko := mt _ _ ko
    have pen3 := pen2.upd (o := .tup [.ref l, .ref o]) ht
    have m03 : More H (upd H2 t (.tup [.ref l, .ref o])) := fun b o e => mt _ _ (m02 _ _ e)
    generalize upd H2 t (.tup [.ref l, .ref o]) = H3 at kl ko kt pen3 m03 ⊢
    refine ⟨t, _, rfl, SqT.of kt, rfl, _, _, rfl, _, _, rfl, rfl, ?_⟩
    clear m1 m2 ho mt kt ht pen2 m02
    have ld : l ≠ d := fun e => by
      obtain ⟨u, hu⟩ := pen.at
      rw [e, hu] at hl
      cases hl
    have od : o ≠ d := fun e => by
      obtain ⟨u, hu⟩ := pen.at
      rw [e, hu] at no
      cases no
    have lc : l ≠ c := fun e => by
      obtain ⟨u, hu⟩ := pen.atc
      rw [e, hu] at hl
      cases hl
    have oc : o ≠ c := fun e => by
      obtain ⟨u, hu⟩ := pen.atc
      rw [e, hu] at no
      cases no
    refine ⟨fun σ' H' => ∃ (z5 : Option V) (ord : List Nat) (n' : Int), σ' = [some (.ref d), some (.ref a), some (.int N), some (.ref l), some (.ref o), z5, none, none, none] ∧ H' o = some (.lst (ord.map natV)) ∧ ord.Perm (List.range N) ∧ Pen H' d c n' ∧ n ≤ n' ∧ n' ≤ n + 100 ∧ Off d H H', ?_, ?_⟩
    · refine ⟨_, rfl, _, _, rfl, rfl, _, rfl, by omega, by omega, for_range (lo := 0) (n := ((N : Int) - 1).toNat) (fun i σ' H' => ∃ (z5 : Option V) (left out : List Nat) (n' : Int), σ' = [some (.ref d), some (.ref a), some (.int N), some (.ref l), some (.ref o), z5, none, none, none] ∧ H' l = some (.lst (left.map natV)) ∧ H' o = some (.lst (out.map natV)) ∧ (out ++ left).Perm (List.range N) ∧
          left.length + i + 1 = N ∧ out.length = i + 1 ∧ Pen H' d c n' ∧ n ≤ n' ∧ n' ≤ n + i ∧ Off d H H')
        ⟨none, (List.range (N - 1)).map Nat.succ, [0], n, rfl, ?_, ko, ?_, by rw [List.length_map, List.length_range]; omega, rfl, pen3, by omega, by omega, .of m03⟩ ?_ ?_⟩
      · rw [kl]
        unfold rgV
        rw [List.map_map, show ((N : Int) - 1).toNat = N - 1 by omega]
        congr 2
        refine List.map_congr_left fun x _ => ?_
        show V.int (1 + (x : Nat)) = V.int ((x + 1 : Nat) : Int)
        congr 1
        omega
      · obtain ⟨k, rfl⟩ : ∃ k, N = k + 1 := ⟨N - 1, by omega⟩
        rw [List.range_succ_eq_map]
        exact List.Perm.refl _
      · rintro i σ' G hi ⟨z5, left, out, n', rfl, hL, hO, pm, l1, l2, pn, b1, b2, of⟩
        have lL : (left.map natV).length = left.length := List.length_map _
        refine ⟨_, rfl, .inl ⟨rfl, _, SqL.of hO⟩, _, rfl, .inl ⟨rfl, _, SqL.of hL⟩, _, rfl, _, rfl, l, _, rfl, .inl (SqL.of hL), d, c, n', _, rfl, pn, by omega, by omega, by omega, by omega, fun r G2 r0 r1 dr => ?_⟩
        have hL2 : G2 l = some (.lst (left.map natV)) := (dr.off l ld).trans hL
        have hO2 : G2 o = some (.lst (out.map natV)) := (dr.off o od).trans hO
        have rk : r.toNat < left.length := by omega
        have hy : left[r.toNat]? = some left[r.toNat] := List.getElem?_eq_getElem rk
        have hO3 : (upd G2 l (.lst ((left.map natV).eraseIdx r.toNat))) o = some (.lst (out.map natV)) := by rw [upd_ne lo.symm]; exact hO2
        refine ⟨l, left.map natV, r, _, _, rfl, rfl, hL2, by omega, by omega, seqIx r0 r1, at_map hy, o, out.map natV, _, rfl, rfl, hO3, by rw [List.length_map]; exact small1000 (by omega), ?_⟩
        refine ⟨_, left.eraseIdx r.toNat, out ++ [left[r.toNat]], _, rfl, by rw [upd_ne lo, upd_same, eraseIdx_map], by rw [upd_same, List.map_append]; rfl, ?_, ?_, by rw [List.length_append, l2]; rfl, (dr.pen.updA ld lc).updA od oc, by omega, by omega, ?_⟩
        · rw [List.append_assoc]
          exact ((pop_perm hy).append_left out).trans pm
        · rw [List.length_eraseIdx_of_lt rk]
          omega
        · exact ((of.trans (.dr dr)).at hl).at no
      · rintro σ' G ⟨z5, left, out, n', rfl, hL, hO, pm, l1, l2, pn, b1, b2, of⟩
        have : left = [] := List.eq_nil_of_length_eq_zero (by omega)
        rw [this, List.append_nil] at pm
        exact ⟨z5, out, n', rfl, hO, pm, pn, b1, by omega, of⟩
    clear kl ko pen3 m03 h1 h2 h3 h4 h5 h6 h7 eN la
    rintro σ1 H1 ⟨z5, ord, n', rfl, hO, pm, pn, b1, b2, of⟩
    have pl1 := pl.off of pen.isd
    obtain ⟨kvs, M', W, as, h1, h2, h3, h4, h5, h6, h7⟩ := pl1.at_
    rw [hN] at pm
    have lo := sh_len pm
    obtain ⟨p2, p7⟩ := isPr_small g.pr
    -- the rows
    refine ⟨_, rfl, o, rfl, ⟨_, SqL.of hO⟩, fun D nD => ?_⟩
    refine lc_rows (n := 8) (D := D) (H1 := H1) (xs := ord.map natV) (dss := shD dss ord) walk_list nD (fun H' m => SqL.of (m _ _ hO)) (by rw [shD_len pm, List.length_map, lo]) (by rw [List.length_map]; omega) (fun _ => rfl) ?_ ?_
    · intro i y ds H2 Q2 hy hds m2 q2
      obtain ⟨s, hs, rfl⟩ := map_at hy
      have es : (shD dss ord)[i]? = some ((dss.getD s []).map fun (t : Int) => ((ixOf ord t.toNat : Nat) : Int)) := at_map (f := fun s => (dss.getD s []).map fun (t : Int) => ((ixOf ord t.toNat : Nat) : Int)) hs
      rw [es] at hds
      cases hds
      have ls := (sh_mem pm).mp (List.mem_of_getElem? hs)
      obtain ⟨b, hb, hHb⟩ := PlM.row h6 ls
      obtain ⟨lr, okr⟩ := g.rows _ (List.mem_of_getElem? (at_getD ls []))
      refine ⟨_, rfl, a, _, rfl, dg kM (m2 _ _ h1) h3, _, rfl, M', _, _, _, rfl, rfl, SqL.of (m2 _ _ h5), atI_nat (at_map hb), b, rfl, ⟨_, SqL.of (m2 _ _ hHb)⟩, fun L nL => ?_⟩
      refine lc_name (n := 7) (D := L) (H1 := H2) (xs := (dss.getD s []).map V.int) (rs := ((dss.getD s []).map fun (t : Int) => ((ixOf ord t.toNat : Nat) : Int)).map V.int) walk_list nL (fun H' m => SqL.of (m _ _ (m2 _ _ hHb))) (by simp only [List.length_map]) (by rw [List.length_map]; omega) (fun _ => rfl) ?_ fun H3 k3 m3 => q2 H3 L m3 nL k3
      intro j y2 v2 H3 Q3 hy2 hv2 m3 q3
      obtain ⟨t, ht, rfl⟩ := map_at hy2
      obtain ⟨u, hu2, rfl⟩ := map_at hv2
      obtain ⟨t2, ht2, rfl⟩ := map_at hu2
      rw [ht] at ht2
      cases ht2
      obtain ⟨t0, t1⟩ := okr t (List.mem_of_getElem? ht)
      have tm : t.toNat ∈ ord := (sh_mem pm).mpr (by omega)
      have et : natV t.toNat = V.int t := by show V.int ((t.toNat : Nat) : Int) = _; rw [Int.toNat_of_nonneg t0]
      have hO3 := m3 _ _ (m2 _ _ hO)
      refine ⟨_, rfl, .inl ⟨rfl, _, SqL.of hO3⟩, _, rfl, o, ord.map natV, _, ixOf ord t.toNat, natV t.toNat, rfl, rfl, SqL.of hO3, rfl, natV_flat ord, at_map (ixOf_at tm), ?_, ?_, q3 _ fun _ _ e => e⟩
      · rw [et]
        show (t == t) = true
        exact beq_self_eq_true t
      · intro m z' hm hz
        obtain ⟨x, hx, rfl⟩ := map_at hz
        have := ixOf_no hm hx
        show (((x : Nat) : Int) == t) = false
        exact beq_false_of_ne (by omega)
    · intro H2 as2 hD hR m2
      intro x nx
      have m3 := new_more (o := .dK []) nx
      have kx : (upd H2 x (.dK [])) x = some (.dK []) := upd_same
      have m13 : More H1 (upd H2 x (.dK [])) := fun b o e => m3 _ _ (m2 _ _ e)
      have hD := m3 _ _ hD
      have hR := paired_imp (fun b ds e => m3 _ _ e) hR
      have xd : x ≠ d := fun e => by
        obtain ⟨u, hu⟩ := pn.at
        rw [e, m2 _ _ hu] at nx
        cases nx
      have xc : x ≠ c := fun e => by
        obtain ⟨u, hu⟩ := pn.atc
        rw [e, m2 _ _ hu] at nx
        cases nx
      have nx1 : H1 x = none := m2.off nx
      have nxH : H x = none := of.gone pn.at nx1
      generalize upd H2 x (.dK []) = H3 at kx m13 hD hR ⊢
      refine ⟨_, rfl, a, _, rfl, dg kP (m13 _ _ h1) h2, _, rfl, _, rfl, o, rfl, ⟨_, SqL.of (m13 _ _ hO)⟩, fun X nX => ?_⟩
      refine lc_name (n := 8) (D := X) (H1 := H3) (xs := ord.map natV) (rs := (shW ws ord).map V.int) walk_list nX (fun H' m => SqL.of (m _ _ (m13 _ _ hO))) (by unfold shW; simp only [List.length_map]) (by rw [List.length_map]; omega) (fun _ => rfl) ?_ ?_
      · intro j y2 v2 H4 Q4 hy2 hv2 m4 q4
        obtain ⟨s, hs, rfl⟩ := map_at hy2
        obtain ⟨u, hu2, rfl⟩ := map_at hv2
        unfold shW at hu2
        obtain ⟨s2, hs2, rfl⟩ := map_at hu2
        rw [hs] at hs2
        cases hs2
        have ls := (sh_mem pm).mp (List.mem_of_getElem? hs)
        exact ⟨_, rfl, a, _, rfl, dg kW (m4 _ _ (m13 _ _ h1)) h4, _, rfl, W, _, _, _, rfl, rfl, SqL.of (m4 _ _ (m13 _ _ h7)), atI_nat (at_map (at_getD (by rw [g.len]; exact ls) 0)), q4 _ fun _ _ e => e⟩
      · intro H4 k4 m4
        refine ⟨m4 _ _ kx, [(kP, .int p), (kM, .ref D), (kW, .ref X)], rfl, by show 3 ≤ 15; decide, ?_⟩
        have pn4 : Pen H4 d c n' := pn.more fun b o e => m4 _ _ (m13 _ _ e)
        refine q _ x (shD dss ord) (shW ws ord) n' (plm_mk (sh_good g pm) (sh_st g pl.st pm) xd (m4 _ _ hD) (paired_imp (fun b ds e => m4 _ _ e) hR) k4 (m4 _ _ kx)) (by rw [shD_len pm]; exact few) (pn4.updA xd xc) b1 b2 ?_
        exact (of.trans (.of fun b o e => m4 _ _ (m13 _ _ e))).at nxH
end
end K78

namespace K78
open PySem L2 Gd B5
/-- a machine that tells one word: many times the last digit -/
def ltD (p m : Nat) : List (List Int) := ((List.range m).map fun i : Nat => List.replicate (p - 1) ((m : Int) + 1) ++ [(i : Int) + 1]) ++ [List.replicate p (m : Int), List.replicate p ((m : Int) + 1)]
def ltW (m : Nat) : List Int := List.replicate m 0 ++ [1, 0]
theorem ltD_len {p m : Nat} : (ltD p m).length = m + 2 := by
  unfold ltD
  rw [List.length_append, List.length_map, List.length_range]
  rfl
theorem ltW_len {m : Nat} : (ltW m).length = m + 2 := by
  unfold ltW
  rw [List.length_append, List.length_replicate]
  rfl
theorem ltD_ok {p m : Nat} (hp : 2 ≤ p) : ∀ ds ∈ ltD p m, ds.length = p ∧ ∀ x ∈ ds, 0 ≤ x ∧ x < (((ltD p m).length : Nat) : Int) := by
  intro ds hds
  rw [ltD_len]
  unfold ltD at hds
  rcases List.mem_append.mp hds with h | h
  · obtain ⟨i, hi, rfl⟩ := List.mem_map.mp h
    have hi := List.mem_range.mp hi
    refine ⟨by rw [List.length_append, List.length_replicate]; show _ + 1 = _; omega, fun x hx => ?_⟩
    rcases List.mem_append.mp hx with hx | hx
    · have := List.eq_of_mem_replicate hx
      omega
    · have : x = (i : Int) + 1 := by simpa using hx
      omega
  · simp only [List.mem_cons, List.not_mem_nil, or_false] at h
    rcases h with rfl | rfl
    · refine ⟨List.length_replicate, fun x hx => ?_⟩
      have := List.eq_of_mem_replicate hx
      omega
    · refine ⟨List.length_replicate, fun x hx => ?_⟩
      have := List.eq_of_mem_replicate hx
      omega
theorem lt_good {p m : Nat} (hp : isPr p = true) (hm : m ≤ 15) : MGood p (ltD p m) (ltW m) where
  pr := hp
  ne := fun e => by
    have := ltD_len (p := p) (m := m)
    rw [e] at this
    cases this
  rows := fun ds hds => by
    obtain ⟨l, ok⟩ := ltD_ok (by have := (isPr_small hp).1; omega) ds hds
    exact ⟨by rw [l], ok⟩
  len := by rw [ltD_len, ltW_len]
  few := by rw [ltD_len]; omega
theorem rep0 {x : Int} {k : Nat} {r : List Int} (h : 0 < k) : (List.replicate k x ++ r).getD 0 0 = x := by
  obtain ⟨j, rfl⟩ : ∃ j, k = j + 1 := ⟨k - 1, by omega⟩
  rfl
theorem ltW_at {m : Nat} : (∀ s, s < m → (ltW m).getD s 0 = 0) ∧ (ltW m).getD m 0 = 1 ∧ (ltW m).getD (m + 1) 0 = 0 := by
  unfold ltW
  refine ⟨fun s hs => ?_, ?_, ?_⟩
  · rw [List.getD_eq_getElem?_getD, List.getElem?_append_left (by rw [List.length_replicate]; exact hs), List.getElem?_replicate, if_pos hs]
    rfl
  · rw [List.getD_eq_getElem?_getD, List.getElem?_append_right (by rw [List.length_replicate]; exact Nat.le_refl _), List.length_replicate, Nat.sub_self]
    rfl
  · rw [List.getD_eq_getElem?_getD, List.getElem?_append_right (by rw [List.length_replicate]; exact Nat.le_succ _), List.length_replicate, show m + 1 - m = 1 by omega]
    rfl
theorem lt_st {p m : Nat} (hp : 2 ≤ p) : stdy (ltD p m) (ltW m) = true := by
  refine stdy_heads (p := p) (by omega) (ltD_ok hp) (by rw [ltD_len, ltW_len]) fun s hs => ?_
  rw [ltD_len] at hs
  obtain ⟨w0, w1, w2⟩ := ltW_at (m := m)
  unfold zf ltD
  by_cases e : s < m
  · have : (((List.range m).map fun i : Nat => List.replicate (p - 1) ((m : Int) + 1) ++ [(i : Int) + 1]) ++ [List.replicate p (m : Int), List.replicate p ((m : Int) + 1)])[s]? = some (List.replicate (p - 1) ((m : Int) + 1) ++ [(s : Int) + 1]) := by
      rw [List.getElem?_append_left (by rw [List.length_map, List.length_range]; exact e), List.getElem?_map, List.getElem?_range e]
      rfl
    rw [getD_of this, rep0 (by omega), w0 s e, show (((m : Int) + 1).toNat) = m + 1 by omega, w2]
  · have l : ((List.range m).map fun i : Nat => List.replicate (p - 1) ((m : Int) + 1) ++ [(i : Int) + 1]).length = m := by rw [List.length_map, List.length_range]
    rcases (show s = m ∨ s = m + 1 by omega) with rfl | rfl
    · have : (((List.range s).map fun i : Nat => List.replicate (p - 1) ((s : Int) + 1) ++ [(i : Int) + 1]) ++ [List.replicate p (s : Int), List.replicate p ((s : Int) + 1)])[s]? = some (List.replicate p (s : Int) ++ []) := by
        rw [List.getElem?_append_right (by rw [l]; exact Nat.le_refl _), l, Nat.sub_self, List.append_nil]
        rfl
      rw [getD_of this, rep0 (by omega), Int.toNat_natCast]
    · have : (((List.range m).map fun i : Nat => List.replicate (p - 1) ((m : Int) + 1) ++ [(i : Int) + 1]) ++ [List.replicate p (m : Int), List.replicate p ((m : Int) + 1)])[m + 1]? = some (List.replicate p ((m : Int) + 1) ++ []) := by
        rw [List.getElem?_append_right (by rw [l]; exact Nat.le_succ _), l, show m + 1 - m = 1 by omega, List.append_nil]
        rfl
      rw [getD_of this, rep0 (by omega), show (((m : Int) + 1).toNat) = m + 1 by omega]
section
variable {P : Program} {w : World} {K : PySem.W.Frag} {mg : Str → Option Value} {base : Heap}
variable {g1 f : Addr} {d1 fd : FuncData}
abbrev sLt : Stmt := top 41
abbrev NLt : List Str := ["_law_p", "_law_many", "_law_moves", "_law_place"]
theorem scLt : FnScope NLt ["_law_p", "_law_many"] (defScope sLt) := ⟨rfl, rfl, rfl, by decide +kernel, rfl, by decide +kernel, by decide +kernel⟩
theorem ok_lt (F : Fun K "_law_late" "_law_late" sLt f fd) (B : Blt mg) : FnOk P w K mg base CX0 1 f fd ["_law_p", "_law_many"] spLt := by
  refine F.ok scLt (fun vs H Q E h => ?_) (fun cdv A outer s H vs Q E hr h => ?_)
  · obtain ⟨d, p, m, rfl, _⟩ := h
    rfl
  · obtain ⟨d, p, m, rfl, ⟨kd, hd⟩, pr, m1, m10, q⟩ := h
    refine ⟨_, pss_cons (ps_set (i := 2) scLt.nd rfl (Or.inl rfl) (pe_op op_cat
        (pe_lc (own := [("_law_place", 3)]) (g := gName 3) (tt := tYes) rfl scLt.nd (pi_range1 (by rfl) B.range_ (pa_cons (pv 1) pa_nil))
          (blkOk_by (N := NLt) (sc := defScope sLt) (by decide +kernel)) (fun _ _ _ _ _ => pg_name (i := 3) scLt.nd rfl (Or.inl rfl)) (fun _ _ _ _ _ => pts_nil)
          (fun _ _ _ _ _ => pe_op (r := rCat) op_cat (pe_op (r := rRep) op_rep (pe_lst (pa_cons (pe_op (r := rI0 fun i j => .int (i + j)) op_add (pv 1) pe_int) pa_nil)) (pe_op (r := rI0 fun i j => .int (i - j)) op_sub (pv 0) pe_int)) (pe_lst (pa_cons (pe_op (r := rI0 fun i j => .int (i + j)) op_add (pv 3) pe_int) pa_nil))))
        (pe_lst (pa_cons (pe_op op_rep (pe_lst (pa_cons (pv 1) pa_nil)) (pv 0)) (pa_cons (pe_op op_rep (pe_lst (pa_cons (pe_op op_add (pv 1) pe_int) pa_nil)) (pv 0)) pa_nil)))))
      (pss_one (ps_ret (pe_disp (pps_cons pe_str (pv 0) (pps_cons pe_str (pv 2) (pps_cons pe_str (pe_op op_cat (pe_op op_rep (pe_lst (pa_cons pe_int pa_nil)) (pv 1)) (pe_lst (pa_cons pe_int (pa_cons pe_int pa_nil)))) pps_nil))) rfl rfl (by simp) (by decide)))), ?_⟩
    obtain ⟨p2, p7⟩ := isPr_small pr
    refine ⟨_, rfl, _, rfl, by omega, by omega, fun D0 nD0 => ?_⟩
    refine lc_rows (n := 3) (D := D0) (H1 := H) (xs := rgY 0 m) (dss := (List.range m).map fun i : Nat => List.replicate (p - 1) ((m : Int) + 1) ++ [(i : Int) + 1]) walk_rgY nD0 (fun _ _ => trivial) (by rw [rgY_len, List.length_map, List.length_range]) (by rw [rgY_len]; omega) (fun _ => rfl) ?_ ?_
    · intro i y ds H2 Q2 hy hds mm q2
      obtain ⟨hi, rfl⟩ := rgY_at hy
      rw [List.getElem?_map, List.getElem?_range hi] at hds
      cases hds
      refine ⟨_, rfl, _, _, rfl, rfl, by show 1 ≤ sizeLine; decide, fun x1 hx1 => ?_⟩
      have m3 := new_more (o := .lst [V.int ((m : Int) + 1)]) hx1
      refine ⟨_, rfl, _, _, rfl, rfl, rep_end (K := K) upd_same (n := p - 1) (by omega) (by omega) fun H3 y1 m4 ny1 ky1 => ?_⟩
      refine ⟨_, rfl, _, _, rfl, rfl, by show 1 ≤ sizeLine; decide, fun x2 hx2 => ?_⟩
      have m5 := new_more (o := .lst [V.int ((0 : Int) + i + 1)]) hx2
      refine cat_end (K := K) (m5 _ _ ky1) upd_same (by rw [List.length_replicate]; show _ + 1 ≤ _; omega) fun H4 L m6 nL kL => ?_
      refine q2 H4 L (fun b o e => m6 _ _ (m5 _ _ (m4 _ _ (m3 _ _ e)))) (m3.off (m4.off (m5.off nL))) ?_
      rw [kL, List.map_append, List.map_replicate, Int.zero_add]
      rfl
    intro H1 as1 hD1 hR1 mm1
    refine ⟨_, rfl, by show 1 ≤ sizeLine; decide, fun x1 hx1 => ?_⟩
    have m3 := new_more (o := .lst [V.int (m : Int)]) hx1
    refine ⟨_, rfl, rep_end (K := K) upd_same (n := p) rfl (by omega) fun H2 L1 m4 nL1 kL1 => ?_⟩
    have mm2 : More H1 H2 := fun b o e => m4 _ _ (m3 _ _ e)
    refine ⟨_, rfl, _, _, rfl, rfl, by show 1 ≤ sizeLine; decide, fun x2 hx2 => ?_⟩
    have m5 := new_more (o := .lst [V.int ((m : Int) + 1)]) hx2
    refine ⟨_, rfl, rep_end (K := K) upd_same (n := p) rfl (by omega) fun H3 L2 m6 nL2 kL2 => ?_⟩
    have mm3 : More H2 H3 := fun b o e => m6 _ _ (m5 _ _ e)
    refine ⟨by show 2 ≤ sizeLine; decide, fun X nX => ?_⟩
    have m7 := new_more (o := .lst [V.ref L1, .ref L2]) nX
    have la1 : as1.length = m := by
      have := Paired.length hR1
      rw [List.length_map, List.length_range] at this
      exact this
    refine cat_end (K := K) (m7 _ _ (mm3 _ _ (mm2 _ _ hD1))) upd_same (by rw [List.length_map]; show _ + 2 ≤ _; omega) fun H4 D m8 nD kD => ?_
    have mm4 : More H3 H4 := fun b o e => m8 _ _ (m7 _ _ e)
    have kD : H4 D = some (.lst ((as1 ++ [L1, L2]).map V.ref)) := by rw [kD, List.map_append]; rfl
    have hR4 : Paired (fun (b : Addr) ds => H4 b = some (.lst (ds.map V.int))) (as1 ++ [L1, L2]) (ltD p m) := by
      have z1 : H4 L1 = some (.lst ((List.replicate p (m : Int)).map V.int)) := by rw [mm4 _ _ (mm3 _ _ kL1), List.map_replicate]
      have z2 : H4 L2 = some (.lst ((List.replicate p ((m : Int) + 1)).map V.int)) := by rw [mm4 _ _ kL2, List.map_replicate]
      have r1 := paired_imp (S := fun (b : Addr) (ds : List Int) => H4 b = some (.lst (ds.map V.int))) (fun b ds e => mm4 _ _ (mm3 _ _ (mm2 _ _ e))) hR1
      have := paired_snoc (R := fun (b : Addr) (ds : List Int) => H4 b = some (.lst (ds.map V.int))) z2 (paired_snoc (R := fun (b : Addr) (ds : List Int) => H4 b = some (.lst (ds.map V.int))) z1 r1)
      rw [List.append_assoc, List.append_assoc] at this
      exact this
    have m04 : More H H4 := fun b o e => mm4 _ _ (mm3 _ _ (mm2 _ _ (mm1 _ _ e)))
    clear m3 m4 m5 m6 m7 m8 mm1 mm2 mm3 mm4 hx1 hx2 nX nD nL1 nL2 kL1 kL2 hD1 hR1
    intro x nx
    have m5 := new_more (o := .dK []) nx
    have kx : (upd H4 x (.dK [])) x = some (.dK []) := upd_same
    have kD := m5 _ _ kD
    have hR := paired_imp (fun b ds e => m5 _ _ e) hR4
    have xd : x ≠ d := fun e => by
      rw [e, m04 _ _ hd] at nx
      cases nx
    have nxH : H x = none := m04.off nx
    have m05 : More H (upd H4 x (.dK [])) := fun b o e => m5 _ _ (m04 _ _ e)
    generalize upd H4 x (.dK []) = H5 at kx kD hR m05 ⊢
    refine ⟨_, rfl, _, rfl, by show 1 ≤ sizeLine; decide, fun x1 hx1 => ?_⟩
    have m6 := new_more (o := .lst [V.int 0]) hx1
    refine ⟨_, rfl, rep_end (K := K) upd_same (n := m) rfl (by omega) fun H6 W1 m7 nW1 kW1 => ?_⟩
    refine ⟨by show 2 ≤ sizeLine; decide, fun x2 hx2 => ?_⟩
    have m8 := new_more (o := .lst [V.int 1, .int 0]) hx2
    refine cat_end (K := K) (m8 _ _ kW1) upd_same (by rw [List.length_replicate]; show _ + 2 ≤ _; omega) fun H7 W m9 nW wW => ?_
    have m57 : More H5 H7 := fun b o e => m9 _ _ (m8 _ _ (m7 _ _ (m6 _ _ e)))
    have wW : H7 W = some (.lst ((ltW m).map V.int)) := by
      rw [wW]
      unfold ltW
      rw [List.map_append, List.map_replicate]
      rfl
    refine ⟨m57 _ _ kx, [(kP, .int p), (kM, .ref D), (kW, .ref W)], rfl, by show 3 ≤ 15; decide, ?_⟩
    exact q _ x (ltD p m) (ltW m) (plm_mk (lt_good pr (by omega)) (lt_st (by omega)) xd (m57 _ _ kD) (paired_imp (fun b ds e => m57 _ _ e) hR) wW (m57 _ _ kx)) (by rw [ltD_len]; omega) (More.at (fun b o e => m57 _ _ (m05 _ _ e)) nxH)
end
end K78

namespace K78
open PySem L2 Gd B5
def nats (p : Nat) : List Int := (List.range p).map fun x : Nat => (x : Int)
def loR (p : Nat) : List (List Int) := (List.range p).map fun s : Nat => List.replicate p ((s : Int) + 1)
def loD (p : Nat) : List (List Int) := ((List.range p).map fun x : Nat => (x : Int) + 1) :: loR p
def adD (p : Nat) : List (List Int) := (List.range p).map fun s : Nat => (List.range p).map fun d : Nat => ((s : Int) + d) % p
theorem lo_good {p : Nat} (pr : isPr p = true) : MGood p (loD p) (0 :: nats p) ∧ stdy (loD p) (0 :: nats p) = true := by
  obtain ⟨p2, p7⟩ := isPr_small pr
  rcases (show p = 2 ∨ p = 3 ∨ p = 4 ∨ p = 5 ∨ p = 6 ∨ p = 7 by omega) with rfl | rfl | rfl | rfl | rfl | rfl
  all_goals exact ⟨⟨pr, by decide +kernel, by decide +kernel, by decide +kernel, by decide +kernel⟩, by decide +kernel⟩
theorem ad_good {p : Nat} (pr : isPr p = true) : MGood p (adD p) (nats p) ∧ stdy (adD p) (nats p) = true := by
  obtain ⟨p2, p7⟩ := isPr_small pr
  rcases (show p = 2 ∨ p = 3 ∨ p = 4 ∨ p = 5 ∨ p = 6 ∨ p = 7 by omega) with rfl | rfl | rfl | rfl | rfl | rfl
  all_goals exact ⟨⟨pr, by decide +kernel, by decide +kernel, by decide +kernel, by decide +kernel⟩, by decide +kernel⟩
theorem rgV_nats {p : Nat} : rgV 0 p = (nats p).map V.int := by
  unfold rgV nats
  rw [List.map_map, show (((p : Nat) : Int) - 0).toNat = p by omega]
  refine List.map_congr_left fun x _ => ?_
  show V.int (0 + (x : Nat)) = V.int ((x : Nat) : Int)
  rw [Int.zero_add]
theorem rgV_one {p : Nat} : rgV 1 ((p : Int) + 1) = ((List.range p).map fun x : Nat => (x : Int) + 1).map V.int := by
  unfold rgV
  rw [List.map_map, show (((p : Nat) : Int) + 1 - 1).toNat = p by omega]
  refine List.map_congr_left fun x _ => ?_
  show V.int (1 + (x : Nat)) = V.int ((x : Nat) + 1 : Int)
  rw [Int.add_comm]
def ifB : Stmt → List Stmt
  | .If _ b _ _ => b
  | _ => []
section
variable {P : Program} {w : World} {K : PySem.W.Frag} {mg : Str → Option Value} {base : Heap}
variable {g1 g2 g3 g4 g5 f : Addr} {d1 d2 d3 d4 d5 fd : FuncData}
abbrev sPr : Stmt := top 42
abbrev NPr : List Str := ["_law_pen_here", "_law_plain", "_law_way", "_law_p", "_law_many", "_law_lowest", "_law_adding", "_law_one", "_law_state", "_law_digit"]
theorem scPr : FnScope NPr ["_law_pen_here"] (defScope sPr) := ⟨rfl, rfl, rfl, by decide +kernel, rfl, by decide +kernel, by decide +kernel⟩
theorem ok_pr (F : Fun K "_law_pair" "_law_pair" sPr f fd) (B : Blt mg) (Dr : Cl K mg "_law_draw" sDraw ["_law_pen_here", "_law_many"] g1 d1) (Kn : Cl K mg "_law_known_machine" sKn ["_law_pen_here"] g2 d2) (GK : FnOk P w K mg base CX0 4 g2 d2 ["_law_pen_here"] spKn)
    (Sf : Cl K mg "_law_shuffled" sSf ["_law_pen_here", "_law_plain"] g3 d3) (Lt : Cl K mg "_law_late" sLt ["_law_p", "_law_many"] g4 d4) (Lm : Cl K mg "_law_machine" sLm ["_law_pen_here", "_law_p", "_law_most"] g5 d5) (GM : FnOk P w K mg base CX0 3 g5 d5 ["_law_pen_here", "_law_p", "_law_most"] spLm) :
    FnOk P w K mg base CX0 5 f fd ["_law_pen_here"] spPr := by
  have G1 : FnOk P w K mg base CX0 1 g1 d1 ["_law_pen_here", "_law_many"] spDraw := ok_draw Dr.fn B.int_ B.len_
  have G3 : FnOk P w K mg base CX0 2 g3 d3 ["_law_pen_here", "_law_plain"] spSf := ok_sf Sf.fn B Dr
  have G4 : FnOk P w K mg base CX0 1 g4 d4 ["_law_p", "_law_many"] spLt := ok_lt Lt.fn B
  refine F.ok scPr (fun vs H Q E h => ?_) (fun cdv A outer s H vs Q E hr h => ?_)
  · obtain ⟨d, c, n, rfl, _⟩ := h
    rfl
  · obtain ⟨d, c, n, rfl, pen, n0, n1, q⟩ := h
    have hu := hu_of hr
    have hr1 : Room 1 _ := hr.mono (by decide)
    have hr2 : Room 2 _ := hr.mono (by decide)
    have hr3 : Room 3 _ := hr.mono (by decide)
    refine ⟨_, pss_cons (ps_par (i := 1) (j := 2) rfl scPr.nd rfl rfl (by decide) rfl rfl (pa_cons (pe_call GK hr rfl Kn.g Kn.k Kn.b .nil pass0 (pa_cons (pv 0) pa_nil)) (pa_cons (pe_call G1 hr1 rfl Dr.g Dr.k Dr.b .nil pass0 (pa_cons (pv 0) (pa_cons pe_int pa_nil))) pa_nil)) (by rfl))
      (pss_cons (ps_asg (pe_tup (pa_cons (pe_dget hu (pv 1) pe_str (fun _ _ => rfl)) (pa_cons (pe_op op_add pe_int (pe_call G1 hr1 rfl Dr.g Dr.k Dr.b .nil pass0 (pa_cons (pv 0) (pa_cons pe_int pa_nil)))) pa_nil)))
        (pg_tup (by rfl) (pgs_cons (pg_name (i := 3) scPr.nd rfl (Or.inr rfl)) (pgs_cons (pg_name (i := 4) scPr.nd rfl (Or.inl rfl)) pgs_nil))))
      (pss_cons (ps_if (pt_cmpR op_lt (pv 2) pe_int (nomark _)) (pss_one (ps_ret (pe_tup (pa_cons (pv 1) (pa_cons (pe_call G3 hr2 rfl Sf.g Sf.k Sf.b .nil pass0 (pa_cons (pv 0) (pa_cons (pv 1) pa_nil))) pa_nil))))) pss_nil)
      (pss_cons (ps_if (pt_cmpR op_eq (pv 2) pe_int (nomark _)) (pss_one (ps_ret (pe_tup (pa_cons (pe_call G4 hr1 rfl Lt.g Lt.k Lt.b .nil pass0 (pa_cons (pv 3) (pa_cons (pv 4) pa_nil)))
          (pa_cons (pe_call G4 hr1 rfl Lt.g Lt.k Lt.b .nil pass0 (pa_cons (pv 3) (pa_cons (pe_op op_add (pv 4) (pe_call G1 hr1 rfl Dr.g Dr.k Dr.b .nil pass0 (pa_cons (pv 0) (pa_cons pe_int pa_nil)))) pa_nil))) pa_nil))))) pss_nil)
      (pss_cons (ps_if (pt_cmpR op_eq (pv 2) pe_int (nomark _))
        (pss_cons (ps_set (i := 5) scPr.nd rfl (Or.inl rfl) (pe_op op_cat (pe_lst (pa_cons (pe_listRg rfl (by rfl) B.list_ (prg_2 (by rfl) B.range_ pe_int (pe_op op_add (pv 3) pe_int))) pa_nil))
            (pe_lc (own := [("_law_state", 8)]) (g := gName 8) (tt := tYes) rfl scPr.nd (pi_range1 (by rfl) B.range_ (pa_cons (pv 3) pa_nil)) (blkOk_by (N := NPr) (sc := defScope sPr) (by decide +kernel)) (fun _ _ _ _ _ => pg_name (i := 8) scPr.nd rfl (Or.inl rfl)) (fun _ _ _ _ _ => pts_nil)
              (fun _ _ _ _ _ => pe_op (r := rRep) op_rep (pe_lst (pa_cons (pe_op (r := rI0 fun i j => .int (i + j)) op_add (pv 8) pe_int) pa_nil)) (pv 3)))))
        (pss_cons (ps_setLc (i := 6) (own := [("_law_state", 8)]) (g := gName 8) (tt := tYes) rfl scPr.nd rfl rfl (sw_true rfl rfl rfl (by decide +kernel)) (pi_range1 (by rfl) B.range_ (pa_cons (pv 3) pa_nil))
            (blkOk_by (N := NPr) (sc := defScope sPr) (by decide +kernel)) (fun _ _ _ _ _ => pg_name (i := 8) scPr.nd rfl (Or.inr rfl)) (fun _ _ _ _ _ => pts_nil)
            (fun _ _ _ _ _ => by exact (pe_lc (own := [("_law_digit", 9)]) (g := gName 9) (tt := tYes) rfl scPr.nd (pi_range1 (by rfl) B.range_ (pa_cons (pv 3) pa_nil))
              (blkOk_by (N := NPr) (sc := relabel (lcSc (asgV ((ifB ((defBody sPr).getD 4 (.Pass ⟨0, 0, 0, 0⟩))).getD 1 (.Pass ⟨0, 0, 0, 0⟩)))) (PyProof.Rows.envOfC "_law_pair" (defScope sPr) 0 0 .none)) (by decide +kernel))
              (fun _ _ _ _ _ => pg_name (i := 9) scPr.nd rfl (Or.inl rfl)) (fun _ _ _ _ _ => pts_nil)
              (fun _ _ _ _ _ => pe_op (r := rI (fun _ j => 0 < j) fun i j => .int (i % j)) op_mod (pe_callTy call_int1 (by rfl) B.int_ (by decide +kernel) (pa_cons (pe_op op_add (pv 8) (pv 9)) pa_nil)) (pv 3)))))
        (pss_cons (ps_set (i := 7) scPr.nd rfl (Or.inl rfl) (pe_disp (pps_cons pe_str (pv 3) (pps_cons pe_str (pv 5) (pps_cons pe_str
          (pe_op op_cat (pe_lst (pa_cons pe_int pa_nil)) (pe_listRg rfl (by rfl) B.list_ (prg_1 (by rfl) B.range_ (pv 3)))) pps_nil))) rfl rfl (by simp) (by decide)))
        (pss_one (ps_ret (pe_tup (pa_cons (pv 7) (pa_cons (pe_disp (pps_cons pe_str (pv 3) (pps_cons pe_str (pv 6) (pps_cons pe_str (pe_listRg rfl (by rfl) B.list_ (prg_1 (by rfl) B.range_ (pv 3))) pps_nil))) rfl rfl (by simp) (by decide)) pa_nil))))))))
        pss_nil)
      (pss_one (ps_ret (pe_tup (pa_cons (pv 1) (pa_cons (pe_call GM hr3 rfl Lm.g Lm.k Lm.b .nil pass0 (pa_cons (pv 0) (pa_cons (pv 3) (pa_cons pe_int pa_nil)))) pa_nil))))))))), ?_⟩
    refine ⟨_, rfl, d, c, n, rfl, pen, n0, by omega, fun H1 a p dss ws n2 pl few20 pen1 b1 b2 o1 => ?_⟩
    obtain ⟨p2, p7⟩ := isPr_small pl.good.pr
    obtain ⟨pn, rfl⟩ : ∃ pn : Nat, p = pn := ⟨p.toNat, by omega⟩
    refine ⟨_, rfl, d, c, n2, 5, rfl, pen1, by decide, by decide, by omega, by omega, fun way H2 r0 r1 dr2 => ⟨_, _, rfl, ?_⟩⟩
    have o2 := o1.trans (.dr dr2)
    have pl2 := pl.off (.dr dr2) pen1.isd
    have pen2 := dr2.pen
    clear pl pen1 o1 dr2
    obtain ⟨kvs, M', W, as, h1, h2, h3, h4, h5, h6, h7⟩ := pl2.at_
    refine ⟨_, rfl, a, _, rfl, dg kP h1 h2, _, rfl, d, c, _, 5, rfl, pen2, by decide, by decide, by omega, by omega, fun r3 H3 s0 s1 dr3 => ?_⟩
    obtain ⟨mm, em, mm1, mm9⟩ : ∃ mm : Nat, 1 + r3 = (mm : Int) ∧ 1 ≤ mm ∧ mm ≤ 5 := ⟨(1 + r3).toNat, by omega, by omega, by omega⟩
    clear h1 h2 h3 h4 h5 h6 h7
    have o3 := o2.trans (.dr dr3)
    have pl3 := pl2.off (.dr dr3) pen2.isd
    have pen3 := dr3.pen
    clear pl2 pen2 o2 dr3
    refine ⟨_, _, rfl, rfl, ?_⟩
    refine ⟨by show 2 ≤ sizeLine; decide, fun t ht => ?_⟩
    have mt := new_more (o := .tup [V.int pn, .int (1 + r3)]) ht
    have kt : (upd H3 t (.tup [V.int pn, .int (1 + r3)])) t = some (.tup [V.int pn, .int (1 + r3)]) := upd_same
    have o4 := o3.trans (.of mt)
    have pl4 := pl3.more mt
    have pen4 := pen3.more mt
    generalize upd H3 t (.tup [V.int pn, .int (1 + r3)]) = H4 at kt o4 pl4 pen4 ⊢
    rw [em] at kt
    clear mt ht o3 pl3 pen3
    refine ⟨t, _, rfl, SqT.of kt, rfl, _, _, rfl, _, _, rfl, rfl, ?_⟩
    clear kt
    have pr := pl4.good.pr
    -- another order
    refine ⟨_, rfl, _, _, rfl, rfl, _, rfl, ?_⟩
    by_cases w2 : way < 2
    · rw [decide_eq_true w2]
      refine iteT ⟨_, rfl, _, rfl, _, rfl, d, c, a, _, pn, dss, ws, rfl, pen4, by omega, by omega, pl4, few20, fun H5 b dss2 ws2 n5 pl5 few5 pen5 c1 c2 o5 => ?_⟩
      refine ⟨by show 2 ≤ sizeLine; decide, fun t ht => ?_⟩
      have mt := new_more (o := .tup [V.ref a, .ref b]) ht
      exact q _ t a b pn dss dss2 ws ws2 n5 upd_same ((pl4.off o5 pen4.isd).more mt) (pl5.more mt) few20 few5 (pen5.more mt) (by omega) (by omega) ((o4.trans o5).trans (.of mt))
    rw [decide_eq_false w2]
    refine iteF ⟨_, rfl, rfl, _, rfl, ?_⟩
    rw [deI]
    -- late
    by_cases e2 : way = 2
    · rw [decide_eq_true e2]
      refine iteT ⟨_, rfl, _, rfl, d, pn, mm, rfl, pen4.isd, pr, mm1, by omega, fun H5 b dss1 ws1 pl5 few5 m5 => ?_⟩
      have pen5 := pen4.more m5
      refine ⟨_, rfl, _, rfl, _, rfl, d, c, _, 2, rfl, pen5, by decide, by decide, by omega, by omega, fun r6 H6 t0 t1 dr6 => ⟨_, _, rfl, rfl, ?_⟩⟩
      obtain ⟨m2, em2, mm2, mm29⟩ : ∃ m2 : Nat, (mm : Int) + r6 = (m2 : Int) ∧ 1 ≤ m2 ∧ m2 ≤ 10 := ⟨((mm : Int) + r6).toNat, by omega, by omega, by omega⟩
      refine ⟨d, pn, m2, by show [V.int pn, V.int ((mm : Int) + r6)] = _; rw [em2], dr6.pen.isd, pr, mm2, mm29, fun H7 b2 dss2 ws2 pl7 few7 m7 => ?_⟩
      refine ⟨by show 2 ≤ sizeLine; decide, fun t ht => ?_⟩
      have mt := new_more (o := .tup [V.ref b, .ref b2]) ht
      exact q _ t b b2 pn dss1 dss2 ws1 ws2 _ upd_same (((pl5.off (.dr dr6) pen5.isd).more m7).more mt) (pl7.more mt) few5 few7 ((dr6.pen.more m7).more mt) (by omega) (by omega) (((((o4.trans (.of m5)).trans (.dr dr6))).trans (.of m7)).trans (.of mt))
    rw [decide_eq_false e2]
    refine iteF ⟨_, rfl, rfl, _, rfl, ?_⟩
    rw [deI]
    by_cases e3 : way = 3
    · rw [decide_eq_true e3]
      refine iteT ?_
      obtain ⟨g1', s1'⟩ := lo_good pr
      obtain ⟨g2', s2'⟩ := ad_good pr
      -- the lowest word
      refine ⟨_, rfl, _, _, rfl, rfl, _, _, rfl, rfl, .of_le (by omega) (by omega) (by omega) (by omega), fun R0 nR0 => ?_⟩
      have k1 := new_more (o := .lst (rgV 1 ((pn : Int) + 1))) nR0
      have kR : (upd H4 R0 (.lst (rgV 1 ((pn : Int) + 1)))) R0 = some (.lst (((List.range pn).map fun x : Nat => (x : Int) + 1).map V.int)) := by rw [upd_same, rgV_one]
      generalize upd H4 R0 (.lst (rgV 1 ((pn : Int) + 1))) = H5 at k1 kR ⊢
      refine ⟨by show 1 ≤ sizeLine; decide, fun X0 nX0 => ?_⟩
      have k2 := new_more (o := .lst [V.ref R0]) nX0
      have kX : (upd H5 X0 (.lst [V.ref R0])) X0 = some (.lst ([R0].map V.ref)) := upd_same
      have kR := k2 _ _ kR
      have m46 : More H4 (upd H5 X0 (.lst [V.ref R0])) := fun b o e => k2 _ _ (k1 _ _ e)
      generalize upd H5 X0 (.lst [V.ref R0]) = H6 at k2 kX kR m46 ⊢
      clear k1 k2 nR0 nX0
      refine ⟨_, rfl, _, rfl, by omega, by omega, fun D1 nD1 => ?_⟩
      refine lc_rows (n := 8) (D := D1) (H1 := H6) (xs := rgY 0 pn) (dss := loR pn) walk_rgY nD1 (fun _ _ => trivial) (by unfold loR; rw [rgY_len, List.length_map, List.length_range]) (by rw [rgY_len]; omega) (fun _ => rfl) ?_ ?_
      · intro i y ds Ha Qa hy hds mm' qa
        obtain ⟨hi, rfl⟩ := rgY_at hy
        unfold loR at hds
        rw [List.getElem?_map, List.getElem?_range hi] at hds
        cases hds
        refine ⟨_, rfl, _, _, rfl, rfl, by show 1 ≤ sizeLine; decide, fun x1 hx1 => ?_⟩
        have m3 := new_more (o := .lst [V.int ((0 : Int) + i + 1)]) hx1
        refine ⟨_, rfl, rep_end (K := K) upd_same (n := pn) rfl (by omega) fun Hb y1 m4 ny1 ky1 => ?_⟩
        refine qa Hb y1 (fun b o e => m4 _ _ (m3 _ _ e)) (m3.off ny1) ?_
        rw [ky1, List.map_replicate, Int.zero_add]
      intro H7 as1 hD1 hR1 m67
      have la1 : as1.length = pn := by
        have := Paired.length hR1
        unfold loR at this
        rw [List.length_map, List.length_range] at this
        exact this
      refine cat_end (K := K) (m67 _ _ kX) hD1 (by rw [List.length_map, List.length_map]; show 1 + _ ≤ _; omega) fun H8 M1 m78 nM1 kM1 => ?_
      have kM1 : H8 M1 = some (.lst ((R0 :: as1).map V.ref)) := kM1
      have hL : Paired (fun (b : Addr) (ds : List Int) => H8 b = some (.lst (ds.map V.int))) (R0 :: as1) (loD pn) := .cons (m78 _ _ (m67 _ _ kR)) (paired_imp (fun b ds e => m78 _ _ e) hR1)
      have m48 : More H4 H8 := fun b o e => m78 _ _ (m67 _ _ (m46 _ _ e))
      clear kX kR m46 nD1 hD1 hR1 m67 m78 nM1
      -- adding
      refine ⟨_, rfl, _, rfl, by omega, by omega, fun D2 nD2 => ?_⟩
      refine lc_rows (n := 8) (D := D2) (H1 := H8) (xs := rgY 0 pn) (dss := adD pn) walk_rgY nD2 (fun _ _ => trivial) (by unfold adD; rw [rgY_len, List.length_map, List.length_range]) (by rw [rgY_len]; omega) (fun _ => rfl) ?_ ?_
      · intro i y ds Ha Qa hy hds mm' qa
        obtain ⟨hi, rfl⟩ := rgY_at hy
        unfold adD at hds
        rw [List.getElem?_map, List.getElem?_range hi] at hds
        cases hds
        refine ⟨_, rfl, _, rfl, by omega, by omega, fun L nL => ?_⟩
        refine lc_name (n := 9) (D := L) (H1 := Ha) (xs := rgY 0 pn) (rs := ((List.range pn).map fun d : Nat => ((i : Int) + d) % pn).map V.int) walk_rgY nL (fun _ _ => trivial) (by rw [rgY_len, List.length_map, List.length_map, List.length_range]) (by rw [rgY_len]; omega) (fun _ => rfl) ?_ fun Hb kb mb => qa Hb L mb nL kb
        intro j y2 v2 Hb Qb hy2 hv2 mb qb
        obtain ⟨hj, rfl⟩ := rgY_at hy2
        obtain ⟨u, hu2, rfl⟩ := map_at hv2
        rw [List.getElem?_map, List.getElem?_range hj] at hu2
        cases hu2
        refine ⟨_, rfl, _, rfl, _, _, rfl, rfl, .inl ⟨_, rfl, _, rfl, _, _, rfl, rfl, (by show (0 : Int) < pn; omega), ?_⟩⟩
        have e : (0 + (i : Int) + (0 + (j : Int))) % pn = ((i : Int) + j) % pn := by rw [Int.zero_add, Int.zero_add]
        have this : Qb (V.int (((i : Int) + j) % pn)) Hb := qb Hb fun _ _ e => e
        rw [← e] at this
        exact this
      intro H9 as2 hD2 hR2 m89
      have kM1 := m89 _ _ kM1
      have hL := paired_imp (S := fun (b : Addr) (ds : List Int) => H9 b = some (.lst (ds.map V.int))) (fun b ds e => m89 _ _ e) hL
      have m49 : More H4 H9 := fun b o e => m89 _ _ (m48 _ _ e)
      have o9 : Off d H H9 := o4.trans (.of m49)
      have pen9 := pen4.more m49
      clear m48 m89 nD2
      -- one
      intro x nx
      have m1 := new_more (o := .dK []) nx
      have kx : (upd H9 x (.dK [])) x = some (.dK []) := upd_same
      have hd9 := pen9.at
      have hc9 := pen9.atc
      have xd : x ≠ d := fun e => by
        obtain ⟨u, hu⟩ := hd9
        rw [e, hu] at nx
        cases nx
      have xc : x ≠ c := fun e => by
        obtain ⟨u, hu⟩ := hc9
        rw [e, hu] at nx
        cases nx
      generalize upd H9 x (.dK []) = H10 at m1 kx ⊢
      refine ⟨_, rfl, _, rfl, by show 1 ≤ sizeLine; decide, fun x1 hx1 => ?_⟩
      have m2 := new_more (o := .lst [V.int 0]) hx1
      have k2 : (upd H10 x1 (.lst [V.int 0])) x1 = some (.lst [V.int 0]) := upd_same
      generalize upd H10 x1 (.lst [V.int 0]) = H11 at m2 k2 ⊢
      refine ⟨_, rfl, pn, rfl, .of_le (by omega) (by omega) (by omega) (by omega), fun W0 nW0 => ?_⟩
      have m3 := new_more (o := .lst (rgV 0 pn)) nW0
      refine cat_end (K := K) (m3 _ _ k2) upd_same (by rw [rgV_nats, List.length_map]; unfold nats; rw [List.length_map, List.length_range]; show 1 + _ ≤ _; omega) fun H12 W1 m4 nW1 wW1 => ?_
      have m10 : More H10 H12 := fun b o e => m4 _ _ (m3 _ _ (m2 _ _ e))
      have wW1 : H12 W1 = some (.lst (((0 : Int) :: nats pn).map V.int)) := by rw [wW1, rgV_nats]; rfl
      have m912 : More H9 H12 := fun b o e => m10 _ _ (m1 _ _ e)
      refine ⟨m10 _ _ kx, [(kP, .int pn), (kM, .ref M1), (kW, .ref W1)], rfl, by show 3 ≤ 15; decide, ?_⟩
      have pl13 := plm_mk (p := pn) g1' s1' xd (m912 _ _ kM1) (paired_imp (fun b ds e => m912 _ _ e) hL) wW1 (m10 _ _ kx)
      have m913 : More H9 (upd H12 x (.dK (mergeK [] [(kP, V.int pn), (kM, .ref M1), (kW, .ref W1)]))) := More.at m912 nx
      generalize upd H12 x (.dK (mergeK [] [(kP, V.int pn), (kM, .ref M1), (kW, .ref W1)])) = H13 at pl13 m913 ⊢
      clear m1 kx m2 k2 m3 m4 nW1 wW1 m10 m912 nW0 hx1 nx
      have hD2 := m913 _ _ hD2
      have hR2 := paired_imp (S := fun (b : Addr) (ds : List Int) => H13 b = some (.lst (ds.map V.int))) (fun b ds e => m913 _ _ e) hR2
      have pen13 := pen9.more m913
      have o13 := o9.trans (.of m913)
      -- the other
      refine ⟨_, rfl, fun x2 nx2 => ?_⟩
      have m1 := new_more (o := .dK []) nx2
      have kx : (upd H13 x2 (.dK [])) x2 = some (.dK []) := upd_same
      have hd13 := pen13.at
      have x2d : x2 ≠ d := fun e => by
        obtain ⟨u, hu⟩ := hd13
        rw [e, hu] at nx2
        cases nx2
      generalize upd H13 x2 (.dK []) = H14 at m1 kx ⊢
      refine ⟨_, rfl, _, rfl, _, rfl, pn, rfl, .of_le (by omega) (by omega) (by omega) (by omega), fun W2 nW2 => ?_⟩
      have m2 := new_more (o := .lst (rgV 0 pn)) nW2
      have wW2 : (upd H14 W2 (.lst (rgV 0 pn))) W2 = some (.lst ((nats pn).map V.int)) := by rw [upd_same, rgV_nats]
      generalize upd H14 W2 (.lst (rgV 0 pn)) = H15 at m2 wW2 ⊢
      have m15 : More H13 H15 := fun b o e => m2 _ _ (m1 _ _ e)
      refine ⟨m2 _ _ kx, [(kP, .int pn), (kM, .ref D2), (kW, .ref W2)], rfl, by show 3 ≤ 15; decide, ?_⟩
      have pl16 := plm_mk (p := pn) g2' s2' x2d (m15 _ _ hD2) (paired_imp (fun b ds e => m15 _ _ e) hR2) wW2 (m2 _ _ kx)
      have m1316 : More H13 (upd H15 x2 (.dK (mergeK [] [(kP, V.int pn), (kM, .ref D2), (kW, .ref W2)]))) := More.at m15 nx2
      generalize upd H15 x2 (.dK (mergeK [] [(kP, V.int pn), (kM, .ref D2), (kW, .ref W2)])) = H16 at pl16 m1316 ⊢
      refine ⟨by show 2 ≤ sizeLine; decide, fun t ht => ?_⟩
      have mt := new_more (o := .tup [V.ref x, .ref x2]) ht
      have l1 : (loD pn).length = pn + 1 := by unfold loD loR; rw [List.length_cons, List.length_map, List.length_range]
      have l2 : (adD pn).length = pn := by unfold adD; rw [List.length_map, List.length_range]
      exact q _ t x x2 pn _ _ _ _ _ upd_same ((pl13.more m1316).more mt) (pl16.more mt) (by omega) (by omega) ((pen13.more m1316).more mt) (by omega) (by omega) ((o13.trans (.of m1316)).trans (.of mt))
    rw [decide_eq_false e3]
    refine iteF ⟨_, rfl, _, rfl, _, rfl, d, c, _, pn, 5, rfl, pen4, by omega, by omega, pr, by decide, by decide, fun H5 b dss2 ws2 n5 pl5 few5 pen5 c1 c2 o5 => ?_⟩
    refine ⟨by show 2 ≤ sizeLine; decide, fun t ht => ?_⟩
    have mt := new_more (o := .tup [V.ref a, .ref b]) ht
    exact q _ t a b pn dss dss2 ws ws2 n5 upd_same ((pl4.off o5 pen4.isd).more mt) (pl5.more mt) few20 (by omega) (pen5.more mt) (by omega) (by omega) ((o4.trans o5).trans (.of mt))
end
end K78

/-! Rp: a tuple times 0 or 1. -/
namespace Gd
open PySem PySem.Spec PyProof.Rows L2
theorem mul_one (l : Addr) (items : Array Value) (n : Nat) (dd : Option Addr) (sl : Array (Option Value)) (u : Tok) :
    Meets (Builtin.«tuple.__mul__» ⟨[.ref l, .int 1 u], []⟩)
      (fun _ R s => s.heap.get? l = some { cls := .type "tuple", dict := dd, data := .seq items n, slots := sl } ∧ R (.ok (.ret (Value.ref l))) s) :=
  .of_wp fun prog w A R s h => by
    obtain ⟨hp, g, d, tk, os⟩ := s
    obtain ⟨hl, h⟩ := h
    have f1 := AutoSeq1.idx_int
    wp_walk using wpAny_loadPart' hl
    repeat (first
      | (refine wpAny_ite_false (by decide) ?_; wp_walk using wpAny_loadPart' hl)
      | (refine wpAny_ite_true (by simp) ?_; wp_walk using wpAny_loadPart' hl))
    exact ⟨_, rfl, h⟩
theorem mul_zero (l : Addr) (items : Array Value) (n : Nat) (dd : Option Addr) (sl : Array (Option Value)) (u : Tok) (ne : items.isEmpty = false) :
    Meets (Builtin.«tuple.__mul__» ⟨[.ref l, .int 0 u], []⟩)
      (fun _ R s => s.heap.get? l = some { cls := .type "tuple", dict := dd, data := .seq items n, slots := sl } ∧
        R (.ok (.ret (Value.ref s.heap.objs.size))) { s with heap := s.heap.push { cls := Value.type "tuple", data := Data.seq #[] }, toks := s.toks }) :=
  .of_wp fun prog w A R s h => by
    obtain ⟨hp, g, d, tk, os⟩ := s
    obtain ⟨hl, h⟩ := h
    have f1 := AutoSeq1.idx_int
    wp_walk using wpAny_loadPart' hl
    repeat (first
      | (refine wpAny_ite_false (by simp [ne]) ?_; wp_walk using wpAny_loadPart' hl)
      | (refine wpAny_ite_true (by simp [ne]) ?_; wp_walk using wpAny_loadPart' hl))
    exact ⟨_, rfl, h⟩

/-- a tuple times a small number -/
def rRepN (K : PySem.W.Frag) : R2 := fun x y H Q => rRepT K x y H Q ∨ ∃ (l : Addr) (k : Int) (xs : List V), x = .ref l ∧ y = .int k ∧ SqT K H l xs ∧ xs ≠ [] ∧
  ((k = 1 ∧ Q (.ref l) H) ∨ (k = 0 ∧ ∀ p, H p = none → Q (.ref p) (upd H p (.tup []))))
theorem op_repN {X : Cx} : OpR X (binaryOp .Mult) (rRepN X.K) := by
  intro pins s σ H x y v u Q I rx ry h
  obtain h | ⟨l, k, xs, rfl, rfl, hT, hne, h⟩ := h
  · exact op_repT pins s σ H x y v u Q I rx ry h
  cases rx
  obtain ⟨t, rfl⟩ := ry
  obtain ⟨its, r, ⟨⟨cls, dd, data, sl⟩, ho, hc, n, hd⟩, hs⟩ := I.tuple hT
  simp only at hc hd
  subst hc hd
  have hn : its.toArray.isEmpty = false := by
    cases its with
    | cons a b => rfl
    | nil =>
      have e := r.length
      exact (hne (List.eq_nil_of_length_eq_zero e)).elim
  have is : s.TypeIs (.ref l) "tuple" := ⟨_, ho, rfl⟩
  obtain ⟨rfl, q⟩ | ⟨rfl, q⟩ := h
  · refine wpAny_binaryOp_repeat_ref (T := "tuple") (U := "int") (by decide) is (fun s' => typeIs_int s' 1 t) noFill_tuple_mul F.fills_int_mul F.slot_int_rmul repeat_tuple F.slot_int_index.lookup
      (call_meets F.slot_int_rmul (typeIs_int s 1 t) F.entry_int_rmul (F.args_int_rmul_2 _ _) (int_rmul_tuple 1 t l its.toArray n dd sl)
        ⟨ho, rfl, is, call_meets F.slot_tuple_mul is F.entry_tuple_mul (F.args_tuple_mul_2 _ _) (mul_one l its.toArray n dd sl t) ⟨ho, ?_⟩⟩)
    exact ⟨.ref l, H, I, rfl, q⟩
  · refine wpAny_binaryOp_repeat_ref (T := "tuple") (U := "int") (by decide) is (fun s' => typeIs_int s' 0 t) noFill_tuple_mul F.fills_int_mul F.slot_int_rmul repeat_tuple F.slot_int_index.lookup
      (call_meets F.slot_int_rmul (typeIs_int s 0 t) F.entry_int_rmul (F.args_int_rmul_2 _ _) (int_rmul_tuple 0 t l its.toArray n dd sl)
        ⟨ho, rfl, is, call_meets F.slot_tuple_mul is F.entry_tuple_mul (F.args_tuple_mul_2 _ _) (mul_zero l its.toArray n dd sl t hn) ⟨ho, ?_⟩⟩)
    refine ⟨.ref s.heap.objs.size, _, I.laid (t' := s.toks) (o := .tup []) (fun b ob q => Heap.get?_push_of_some _ q) (Nat.le_refl _) ?_, rfl, q _ (I.hok.fresh (Nat.le_refl _))⟩
    exact ⟨Nat.zero_le _, _, .nil, IsTup.new _ _⟩

/-- two tuples of the same flat values -/
theorem items_same {A : Around} {s : Shared} : ∀ {xs : List V} {us ws : List Value}, xs.all flatB = true → Vals xs us → Vals xs ws →
    ∀ j (h1 : j < us.length) (h2 : j < ws.length), SeqAt.EqAt A s us[j] ws[j] true
  | _, _, _, _, .nil, .nil, j, h1, _ => absurd h1 (Nat.not_lt_zero j)
  | _, _, _, f, .cons a as, .cons b bs, j, h1, h2 => by
    rw [List.all_cons, Bool.and_eq_true] at f
    cases j with
    | zero => exact eqAt_same a b f.1
    | succ j => exact items_same f.2 as bs j (Nat.lt_of_succ_lt_succ h1) (Nat.lt_of_succ_lt_succ h2)
def rTS (K : PySem.W.Frag) (r : Bool) : R2 := fun x y H Q => ∃ (a b : Addr) (xs : List V), x = .ref a ∧ y = .ref b ∧ SqT K H a xs ∧ SqT K H b xs ∧
  xs.all flatB = true ∧ Q (.bl r) H
section
variable {X : Cx}
theorem all_true {m n : Nat} (h : m = n) : ((List.range (min m n)).all (fun _ => true) && m == n) = true := by
  subst h
  rw [beq_self_eq_true, Bool.and_true]
  exact List.all_eq_true.mpr fun _ _ => rfl
theorem op_eqTS (hu : X.A.units < cLine) : OpR X (compareOp .Eq) (rTS X.K true) := by
  intro pins s σ H x y v u Q I rx ry h
  obtain ⟨a, b, xs, rfl, rfl, ha, hb, f, q⟩ := h
  cases (show v = Value.ref a from rx)
  cases (show u = Value.ref b from ry)
  obtain ⟨us, r1, p1, _⟩ := I.tuple ha
  obtain ⟨ws, r2, p2, _⟩ := I.tuple hb
  have same : us.toArray.size = ws.toArray.size := by
    rw [List.size_toArray, List.size_toArray, ← r1.length, ← r2.length]
  have all := SeqAt.RcAt.tuples (A := X.A) (s := s) (e := fun _ => true) p1 p2 hu fun j h1 h2 => by
    have k := items_same (A := X.A.in1) (s := s) f r1 r2 j (by simpa using h1) (by simpa using h2)
    simpa using k
  refine all X.prog X.w _ _ ?_
  rw [all_true same]
  exact ⟨.bl true, H, I, rfl, q⟩
theorem op_neTS (hu : X.A.units < cLine) : OpR X (compareOp .NotEq) (rTS X.K false) := by
  intro pins s σ H x y v u Q I rx ry h
  obtain ⟨a, b, xs, rfl, rfl, ha, hb, f, q⟩ := h
  cases (show v = Value.ref a from rx)
  cases (show u = Value.ref b from ry)
  obtain ⟨us, r1, p1, _⟩ := I.tuple ha
  obtain ⟨ws, r2, p2, _⟩ := I.tuple hb
  have same : us.toArray.size = ws.toArray.size := by
    rw [List.size_toArray, List.size_toArray, ← r1.length, ← r2.length]
  have all := SeqAt.RcNeAt.tuples (A := X.A) (s := s) (e := fun _ => true) p1 p2 hu fun j h1 h2 => by
    have k := items_same (A := X.A.in1) (s := s) f r1 r2 j (by simpa using h1) (by simpa using h2)
    simpa using k
  refine all X.prog X.w _ _ ?_
  rw [all_true same]
  exact ⟨.bl false, H, I, rfl, q⟩
end
end Gd

/-! Wy: values that repr shows; the pen and the tables; the errors' tellers. -/
namespace B5
open PySem L2 Gd
/-- what repr asks of a value -/
structure Shows (K : PySem.W.Frag) (H : Hp) (x : V) (d : PyData) : Prop where
  dq : Dq K H x d
  sh : d.showable = true
  dp : d.depth ≤ 60
  ln : d.shown.length ≤ sizeLine
/-! ### data -/
theorem same_seqT {K : PySem.W.Frag} {H H' : Hp} {a : Addr} {xs : List V} (e : Same H H') (h : SqT K H a xs) : SqT K H' a xs := by
  rcases h with (h | ⟨o, h⟩) | h
  · exact .inl (.inl (e _ _ h))
  · exact .inl (.inr ⟨o, e _ _ h⟩)
  · exact .inr h
mutual
theorem Dq.mono {K : PySem.W.Frag} {H H' : Hp} (s : Same H H') : ∀ (d : PyData) (v : V), Dq K H v d → Dq K H' v d
  | .none, _, h => by cases h; exact .non
  | .bool _, _, h => by cases h; exact .bl _
  | .int _, _, h => by cases h; exact .int _
  | .str _, _, h => by cases h; exact .str _
  | .list ds, _, h => by
    cases h with
    | lst a b => exact .lst (s.seq a) (DqAll.mono s ds _ b)
  | .tuple ds, _, h => by
    cases h with
    | tup a b => exact .tup (same_seqT s a) (DqAll.mono s ds _ b)
  | .dict ds, _, h => by
    cases h with
    | dct a b =>
      refine .dct ?_ (DqKv.mono s ds _ b)
      rcases a with a | ⟨o, a⟩
      · exact .inl (s _ _ a)
      · exact .inr ⟨o, s _ _ a⟩
theorem DqAll.mono {K : PySem.W.Frag} {H H' : Hp} (s : Same H H') : ∀ (ds : List PyData) (vs : List V), DqAll K H vs ds → DqAll K H' vs ds
  | [], _, h => by cases h; exact .nil
  | d :: ds, _, h => by
    cases h with
    | cons a b => exact .cons (Dq.mono s d _ a) (DqAll.mono s ds _ b)
theorem DqKv.mono {K : PySem.W.Frag} {H H' : Hp} (s : Same H H') : ∀ (ds : List (PyData × PyData)) (vs : List (Key × V)), DqKv K H vs ds → DqKv K H' vs ds
  | [], _, h => by cases h; exact .nil
  | (_, d) :: ds, _, h => by
    cases h with
    | cons a b => exact .cons (Dq.mono s d _ a) (DqKv.mono s ds _ b)
end
/-- data that a repr shows in a short text -/
structure Sz (d : PyData) : Prop where
  show_ : d.showable = true
  deep : d.depth ≤ 3
  leaves : d.leavesShort 2000 = true
  bulk : d.bulk ≤ 100
theorem big_log {i : Int} (h : i.natAbs < 10 ^ 60) : i.natAbs.log2 < 1920 := by
  by_cases z : i.natAbs = 0
  · rw [z]; decide
  · have : i.natAbs < 2 ^ 1920 := Nat.lt_trans h (by decide +kernel)
    exact (Nat.log2_lt z).mpr this
theorem int_short {i : Int} (h : i.natAbs < 10 ^ 60) : (PyData.shown (.int i)).length ≤ 2000 := by
  have := PyProof.Rows.int_text_len_1921 (big_log h)
  simp only [PyData.shown]
  exact Nat.le_trans this (by decide)
theorem Sz.int {i : Int} (h : i.natAbs < 10 ^ 60) : Sz (.int i) where
  show_ := by simp only [PyData.showable]; exact decide_eq_true (big_log h)
  deep := by simp only [PyData.depth]; omega
  leaves := by simp only [PyData.leavesShort]; exact decide_eq_true (int_short h)
  bulk := by simp only [PyData.bulk]; omega

theorem Shows.of {K : PySem.W.Frag} {H : Hp} {x : V} {d : PyData} (dq : Dq K H x d) (z : Sz d) : Shows K H x d where
  dq := dq
  sh := z.show_
  dp := Nat.le_trans z.deep (by decide)
  ln := by
    have h := PyData.shown_le_bulk 2000 (by decide) d z.leaves
    have : (2000 + 2) * d.bulk ≤ (2000 + 2) * 100 := Nat.mul_le_mul_left _ z.bulk
    rw [sizeLine_eq]
    omega
theorem Shows.more {K : PySem.W.Frag} {H H' : Hp} {x : V} {d : PyData} (s : Same H H') (h : Shows K H x d) : Shows K H' x d := ⟨B5.Dq.mono s _ _ h.dq, h.sh, h.dp, h.ln⟩
theorem Dq.mono' {K : PySem.W.Frag} {H H' : Hp} {d : PyData} {v : V} (s : Same H H') (h : Dq K H v d) : Dq K H' v d := Dq.mono s d v h
/-- a tuple or list of one or two data -/
theorem Sz.two {a b : PyData} (ha : Sz a) (hb : Sz b) (da : a.depth ≤ 1) (db : b.depth ≤ 2) (ka : a.bulk ≤ 20) (kb : b.bulk ≤ 20) : Sz (.tuple [a, b]) ∧ Sz (.list [a, b]) := by
  have := ha.show_
  have := hb.show_
  have := ha.leaves
  have := hb.leaves
  refine ⟨⟨?_, ?_, ?_, ?_⟩, ⟨?_, ?_, ?_, ?_⟩⟩ <;> simp_all only [PyData.showable, PyData.showableAll, PyData.depth, PyData.depthAll, PyData.leavesShort, PyData.leavesShortAll, PyData.bulk, PyData.bulkAll, Bool.and_self] <;> omega
theorem Sz.one {a : PyData} (ha : Sz a) (da : a.depth ≤ 1) (ka : a.bulk ≤ 20) : Sz (.tuple [a]) ∧ Sz (.list [a]) := by
  have := ha.show_
  have := ha.leaves
  refine ⟨⟨?_, ?_, ?_, ?_⟩, ⟨?_, ?_, ?_, ?_⟩⟩ <;> simp_all only [PyData.showable, PyData.showableAll, PyData.depth, PyData.depthAll, PyData.leavesShort, PyData.leavesShortAll, PyData.bulk, PyData.bulkAll, Bool.and_self] <;> omega
theorem sz_ints : ∀ {l : List Int}, (∀ i ∈ l, 0 ≤ i ∧ i < 7) → l.length ≤ 400 → (PyData.tuple (l.map PyData.int)).showable = true ∧ (PyData.tuple (l.map PyData.int)).depth ≤ 60 ∧ (PyData.tuple (l.map PyData.int)).shown.length ≤ sizeLine := by
  intro l hl few
  have all : ∀ r : List Int, (∀ i ∈ r, 0 ≤ i ∧ i < 7) → PyData.showableAll (r.map PyData.int) = true ∧ PyData.depthAll (r.map PyData.int) ≤ 1 ∧ PyData.leavesShortAll 2000 (r.map PyData.int) = true ∧ PyData.bulkAll (r.map PyData.int) ≤ 5 * r.length := by
    intro r
    induction r with
    | nil => intro _; simp [PyData.showableAll, PyData.depthAll, PyData.leavesShortAll, PyData.bulkAll]
    | cons i r ih =>
      intro hh
      obtain ⟨a1, a2, a3, a4⟩ := ih fun j hj => hh j (.tail _ hj)
      have hi := hh i (.head _)
      have s : Sz (.int i) := Sz.int (by omega)
      refine ⟨?_, ?_, ?_, ?_⟩
      · simp only [List.map_cons, PyData.showableAll, s.show_, a1, Bool.and_self]
      · simp only [List.map_cons, PyData.depthAll, PyData.depth]
        omega
      · simp only [List.map_cons, PyData.leavesShortAll, s.leaves, a3, Bool.and_self]
      · simp only [List.map_cons, PyData.bulkAll, PyData.bulk, List.length_cons]
        omega
  obtain ⟨a1, a2, a3, a4⟩ := all l hl
  refine ⟨by simp only [PyData.showable]; exact a1, by simp only [PyData.depth]; omega, ?_⟩
  have h := PyData.shown_le_bulk 2000 (by decide) (.tuple (l.map PyData.int)) (by simp only [PyData.leavesShort]; exact a3)
  simp only [PyData.bulk] at h
  rw [sizeLine_eq]
  have : (2000 + 2) * PyData.bulkAll (l.map PyData.int) ≤ (2000 + 2) * 2000 := Nat.mul_le_mul_left _ (by omega)
  omega
/-! ### the heap without the pen and the tables -/
def Bs (d : Addr) (H : Hp) : Hp := fun b => if b = d then none else match H b with
  | some (.tbl _) => none
  | r => r
def Go (d : Addr) (H H' : Hp) : Prop := ∀ b o, H b = some o → b ≠ d → (∀ ps, o ≠ .tbl ps) → H' b = some o
theorem Bs.of {d b : Addr} {H : Hp} {o : HO} (h : Bs d H b = some o) : b ≠ d ∧ H b = some o ∧ ∀ ps, o ≠ .tbl ps := by
  unfold Bs at h
  split at h
  · cases h
  · rename_i ne
    split at h
    · cases h
    · rename_i no
      refine ⟨ne, h, fun ps e => ?_⟩
      rw [e] at h
      exact no ps h
theorem Bs.at {d b : Addr} {H : Hp} {o : HO} (ne : b ≠ d) (h : H b = some o) (no : ∀ ps, o ≠ .tbl ps) : Bs d H b = some o := by
  unfold Bs
  rw [if_neg ne, h]
  split
  · rename_i ps e
    exact (no ps (Option.some.inj e)).elim
  · rfl
theorem Bs.le {d : Addr} {H : Hp} : Same (Bs d H) H := fun b o e => (Bs.of e).2.1
theorem Go.bs {d : Addr} {H H' : Hp} (g : Go d H H') : Same (Bs d H) (Bs d H') := fun b o e =>
  let ⟨ne, h, no⟩ := Bs.of e; Bs.at ne (g b o h ne no) no
theorem Go.refl {d : Addr} {H : Hp} : Go d H H := fun _ _ e _ _ => e
theorem Go.trans {d : Addr} {H H1 H2 : Hp} (a : Go d H H1) (b : Go d H1 H2) : Go d H H2 := fun x o e ne no => b x o (a x o e ne no) ne no
theorem Go.more {d : Addr} {H H' : Hp} (m : More H H') : Go d H H' := fun b o e _ _ => m b o e
theorem Go.off {d : Addr} {H H' : Hp} (m : ∀ b o, H b = some o → b ≠ d → H' b = some o) : Go d H H' := fun b o e ne _ => m b o e ne
theorem Go.ext {d : Addr} {H H' : Hp} (m : LamX.ExtN H H') : Go d H H' := fun b o e _ no => m b o e no
/-- the pen and the table -/
structure Stt (P : Addr) (q : Str) (d cc : Addr) (n : Int) (H : Hp) : Prop where
  pen : Pen H d cc n
  tab : LamX.Tabs [(P, q)] H
section
variable {P d cc : Addr} {q : Str} {n n' : Int} {H H' : Hp}
theorem Stt.dne (s : Stt P q d cc n H) : ∃ o, H d = some o := s.pen.at
theorem Stt.ne (s : Stt P q d cc n H) {p : Addr} (hp : H p = none) : p ≠ d := by
  obtain ⟨o, e⟩ := s.pen.at
  intro z
  rw [z, e] at hp
  cases hp
theorem Stt.more (s : Stt P q d cc n H) (m : More H H') : Stt P q d cc n H' := by
  obtain ⟨o1, e1⟩ := s.pen.at
  obtain ⟨o2, e2⟩ := s.pen.atc
  exact ⟨s.pen.keep ((m _ _ e1).trans e1.symm) ((m _ _ e2).trans e2.symm), s.tab.ext m⟩
theorem Stt.off (s : Stt P q d cc n H) (p : Pen H' d cc n') (m : ∀ b o, H b = some o → b ≠ d → H' b = some o) : Stt P q d cc n' H' := by
  obtain ⟨kvs, _, _, _, _, hd, _⟩ := s.pen
  refine ⟨p, fun pq hpq => ?_⟩
  obtain ⟨ps, h1, h2, h3⟩ := s.tab pq hpq
  refine ⟨ps, m _ _ h1 (fun z => ?_), h2, fun pos cv hc => ?_⟩
  · rw [z, hd] at h1
    cases h1
  · obtain ⟨c, e1, e2⟩ := h3 pos cv hc
    refine ⟨c, e1, m _ _ e2 fun z => ?_⟩
    rw [z, hd] at e2
    cases e2
theorem Stt.ext (s : Stt P q d cc n H) (m : LamX.ExtN H H') (t : LamX.Tabs [(P, q)] H') : Stt P q d cc n H' := by
  obtain ⟨kvs, cs, p, g, f, h1, h2, r⟩ := s.pen
  refine ⟨⟨kvs, cs, p, g, f, m _ _ h1 (fun ps z => by cases z), m _ _ h2 (fun ps z => by cases z), r⟩, t⟩
end

theorem Go.off' {d : Addr} {H H' : Hp} (m : Off d H H') : Go d H H' := fun b o e ne _ => m b o e ne
/-- what the clauses and the fields ask of the classes -/
structure Cau6 (K : PySem.W.Frag) (CT CN CL CM CR CU : Addr) : Prop where
  nt : PySem.W.exmOne K (.ref CN) (.ref CT) = some false
  nn : PySem.W.exmOne K (.ref CN) (.ref CN) = some true
  lt : PySem.W.exmOne K (.ref CL) (.ref CT) = some false
  ln : PySem.W.exmOne K (.ref CL) (.ref CN) = some false
  ll : PySem.W.exmOne K (.ref CL) (.ref CL) = some true
  ut : PySem.W.exmOne K (.ref CU) (.ref CT) = some false
  un : PySem.W.exmOne K (.ref CU) (.ref CN) = some false
  ul : PySem.W.exmOne K (.ref CU) (.ref CL) = some false
  um : PySem.W.exmOne K (.ref CU) (.ref CM) = some false
  ur : PySem.W.exmOne K (.ref CU) (.ref CR) = some false
  uu : PySem.W.exmOne K (.ref CU) (.ref CU) = some true
  xt : XfC K CT
  xn : XfC K CN
  xl : XfC K CL
  xm : XfC K CM
  xr : XfC K CR
  xu : XfC K CU
  f1 : PySem.W.findIn K (.ref CT) "column" = some none
  f2 : PySem.W.findIn K (.ref CN) "what" = some none
  f3 : PySem.W.findIn K (.ref CN) "number" = some none
  f4 : PySem.W.findIn K (.ref CL) "what" = some none
  f5 : PySem.W.findIn K (.ref CL) "number" = some none
  f6 : PySem.W.findIn K (.ref CL) "limit" = some none
  f7 : PySem.W.findIn K (.ref CM) "what" = some none
  f8 : PySem.W.findIn K (.ref CM) "limit" = some none
  f9 : PySem.W.findIn K (.ref CR) "row" = some none
  f10 : PySem.W.findIn K (.ref CU) "what" = some none
structure Glo6 (mg : Str → Option Value) (CT CN CL CM CR CU : Addr) : Prop where
  t : mg "BadText" = some (.ref CT)
  n : mg "BadNumber" = some (.ref CN)
  l : mg "TooLarge" = some (.ref CL)
  m : mg "TooMany" = some (.ref CM)
  r : mg "BadRow" = some (.ref CR)
  u : mg "Unlike" = some (.ref CU)
/-- the tuple that tells an error -/
def EWhy6 (K : PySem.W.Frag) (CN CL CU : Addr) (Q : VK) : XK := fun cls d H =>
  (cls = .ref CN ∧ ∃ (dd : Addr) (what : Str) (x : V) (dx : PyData), d = some dd ∧ H dd = some (.xd [("number", x), ("what", .str what)]) ∧ Shows K H x dx ∧
    ∀ t, H t = none → Q (.ref t) (upd H t (.tup [.str "number", .str what, .str dx.shown]))) ∨
  (cls = .ref CL ∧ ∃ (dd : Addr) (what x l : V), d = some dd ∧ H dd = some (.xd [("limit", l), ("number", x), ("what", what)]) ∧
    ∀ t, H t = none → Q (.ref t) (upd H t (.tup [.str "large", what, x, l]))) ∨
  (cls = .ref CU ∧ ∃ (dd : Addr) (what : V), d = some dd ∧ H dd = some (.xd [("what", what)]) ∧
    ∀ t, H t = none → Q (.ref t) (upd H t (.tup [.str "unlike", what])))
def TWhy6 (K : PySem.W.Frag) (CN CL CU : Addr) : (XK → Hp → VK → Prop) → Hp → VK → Prop := fun tl H Q => ∀ t0, H t0 = none → tl (EWhy6 K CN CL CU Q) (upd H t0 (.tup [.str "none"])) fun _ H' => ∃ v, some (some (V.ref t0)) = some (some v) ∧ Q v H'
section
variable {K : PySem.W.Frag} {H : Hp}
def Sho (K : PySem.W.Frag) (H : Hp) (x : V) : Prop := ∃ dx, Shows K H x dx
def Bad (K : PySem.W.Frag) (H : Hp) (x : V) : Prop := Sho K H x ∧ ((∃ i, x = .int i ∧ i < 0) ∨ NoInt K H x)
theorem Sho.more {H' : Hp} {x : V} (s : Same H H') : Sho K H x → Sho K H' x := fun ⟨d, h⟩ => ⟨d, h.more s⟩
theorem Bad.more {H' : Hp} {x : V} (s : Same H H') : Bad K H x → Bad K H' x := fun ⟨a, b⟩ => ⟨a.more s, b.imp id fun h => h.more s⟩
theorem sho_int {i : Int} (h : i.natAbs < 10 ^ 60) : Sho K H (.int i) := ⟨_, Shows.of (.int i) (Sz.int h)⟩
theorem sho_bl {b : Bool} : Sho K H (.bl b) := ⟨_, Shows.of (.bl b) (by cases b <;> exact ⟨by decide +kernel, by decide +kernel, by decide +kernel, by decide +kernel⟩)⟩
theorem sho_non : Sho K H .non := ⟨_, Shows.of .non ⟨by decide +kernel, by decide +kernel, by decide +kernel, by decide +kernel⟩⟩
theorem no_bl {b : Bool} : NoInt K H (.bl b) := ⟨"bool", by decide, .base (.bl b)⟩
theorem no_non : NoInt K H .non := ⟨"NoneType", by decide, .base .non⟩
theorem no_str {x : Str} : NoInt K H (.str x) := ⟨"str", by decide, .base (.str x)⟩
theorem no_tup {a : Addr} {xs : List V} (h : H a = some (.tup xs)) : NoInt K H (.ref a) := ⟨"tuple", by decide, .base (.tup h)⟩
theorem no_lst {a : Addr} {xs : List V} (h : H a = some (.lst xs)) : NoInt K H (.ref a) := ⟨"list", by decide, .base (.lst h)⟩
theorem no_dct {a : Addr} {kvs : List (Key × V)} (h : H a = some (.dK kvs)) : NoInt K H (.ref a) := ⟨"dict", by decide, .base (.dK h)⟩
theorem bulk_int {i : Int} : (PyData.int i).bulk ≤ 20 := by simp only [PyData.bulk]; omega
theorem dep_int {i : Int} : (PyData.int i).depth ≤ 1 := by simp only [PyData.depth]; omega
theorem sho_tup1 {a : Addr} {i : Int} (h : H a = some (.tup [.int i])) (b : i.natAbs < 10 ^ 60) : Sho K H (.ref a) :=
  ⟨_, Shows.of (.tup (SqT.of h) (.cons (.int i) .nil)) (Sz.one (Sz.int b) dep_int bulk_int).1⟩
theorem sho_lst1 {a : Addr} {i : Int} (h : H a = some (.lst [.int i])) (b : i.natAbs < 10 ^ 60) : Sho K H (.ref a) :=
  ⟨_, Shows.of (.lst (SqL.of h) (.cons (.int i) .nil)) (Sz.one (Sz.int b) dep_int bulk_int).2⟩
theorem sho_str {z : Str} (s : Sz (.str z)) : Sho K H (.str z) := ⟨_, Shows.of (.str z) s⟩
theorem sz_small : Sz (.str "2") ∧ Sz (.str "5") ∧ Sz (.str "3") ∧ Sz (.str "01") ∧ Sz (.str "1") :=
  ⟨⟨by decide +kernel, by decide +kernel, by decide +kernel, by decide +kernel⟩, ⟨by decide +kernel, by decide +kernel, by decide +kernel, by decide +kernel⟩, ⟨by decide +kernel, by decide +kernel, by decide +kernel, by decide +kernel⟩,
    ⟨by decide +kernel, by decide +kernel, by decide +kernel, by decide +kernel⟩, ⟨by decide +kernel, by decide +kernel, by decide +kernel, by decide +kernel⟩⟩
end
theorem go_new {d p : Addr} {H H' : Hp} {o : HO} (g : Go d H H') (hp : H' p = none) : Go d H (upd H' p o) := g.trans (Go.more (new_more hp))
theorem Go.low {d : Addr} {H H' : Hp} (g : Go d H H') : Same (Bs d H) H' := fun b o e => let ⟨ne, h, no⟩ := Bs.of e; g b o h ne no
theorem mat_go {K : PySem.W.Frag} {H H' : Hp} {C a d : Addr} {p : Int} {dss : List (List Int)} {ws : List Int} (g : Go d H H') (hd : ∃ kvs, H d = some (.dK kvs)) (h : MAt K H C a p dss ws) : MAt K H' C a p dss ws := by
  obtain ⟨kd, hd⟩ := hd
  have tt : ∀ {b : Addr} {xs : List V}, SqT K H b xs → SqT K H' b xs := fun {b xs} q => by
    rcases q with (q | ⟨o, q⟩) | q
    · exact .inl (.inl (g _ _ q (fun z => by rw [z, hd] at q; cases q) (fun ps z => by cases z)))
    · exact .inl (.inr ⟨o, g _ _ q (fun z => by rw [z, hd] at q; cases q) (fun ps z => by cases z)⟩)
    · exact .inr q
  obtain ⟨dx, t, u, xs, h1, h2, h3, h4⟩ := h
  exact ⟨dx, t, u, xs, g _ _ h1 (fun z => by rw [z, hd] at h1; cases h1) (fun ps z => by cases z), tt h2, paired_imp (fun _ _ ⟨b, e, q⟩ => ⟨b, e, tt q⟩) h3, tt h4⟩
end B5

namespace K78
open PySem L2 Gd B5
abbrev sWhy : Stmt := top 33
abbrev NWhy : List Str := ["_law_call", "_law_found", "e"]
theorem scWhy : FnScope NWhy ["_law_call"] (defScope sWhy) := ⟨rfl, rfl, rfl, by decide +kernel, rfl, by decide +kernel, by decide +kernel⟩
open LamX in
theorem why_gives {X : Cx} {k : Nat} {g : Addr} {cdg : Value} {q : Str} {CT CN CL CM CR CU : Addr} (hgd : X.A.guards = some []) (hr : Room (k + 2) X.A) (T : Cau6 X.K CT CN CL CM CR CU) (G : Glo6 X.mg CT CN CL CM CR CU) (mR : X.mg "repr" = none) :
    GivesTo X NWhy "_law_why" (defScope sWhy) g cdg (defBody sWhy) "_law_call" q (TWhy6 X.K CN CL CU) := by
  intro f c' s H Q tl act hc h
  have hr1 : Room (k + 1) (X.A.deeper (PyProof.Rows.envOfC "_law_why" (defScope sWhy) s.heap.objs.size g cdg)) := hr.deeper _
  have hu64 := hr1.units
  have rp : ∀ (a : Addr) (pn : List (Addr × Obj)), CallR (Cx.suite (cxOf C8.CX0 X.prog X.w X.K X.mg X.base NWhy "_law_why" (defScope sWhy) g cdg X.A X.stack s H C8.E0).nox a pn) (.builtin "repr") (rReprQ X.K) :=
    fun a pn => call_reprQ (X := Cx.suite (cxOf C8.CX0 X.prog X.w X.K X.mg X.base NWhy "_law_why" (defScope sWhy) g cdg X.A X.stack s H C8.E0).nox a pn) hgd hu64
  refine ⟨_, pss_cons (ps_set (i := 1) scWhy.nd rfl (Or.inl rfl) (pe_tup (pa_cons pe_str pa_nil)))
    (pss_cons (ps_tryAll (X := (cxOf C8.CX0 X.prog X.w X.K X.mg X.base NWhy "_law_why" (defScope sWhy) g cdg X.A X.stack s H C8.E0).nox) (n := "e") (i := 2)
      (tb := fun W D σ H => ∃ Ech : XK, (∀ cls d σ' H', Ech cls d H' → W cls d σ' H') ∧ σ[0]? = some (some (.ref f)) ∧ H c' = some (CodeO c' q) ∧ tl Ech H (fun _ H' => D.nx σ H'))
      rfl rfl scWhy.nd rfl rfl LamX.takes0 (fun W pn xe tk _ => ?_)
      (.cons (c := .ref CT) ⟨rfl, by decide, .inl G.t⟩ (fun a oe cls d pn hz hf => pss_one (ps_set (i := 1) scWhy.nd rfl (Or.inl rfl) (pe_tup (pa_cons pe_str (pa_cons (pe_xf T.xt T.f1 hz hf (pv 2)) pa_nil)))))
      (.cons (c := .ref CN) ⟨rfl, by decide, .inl G.n⟩ (fun a oe cls d pn hz hf => pss_one (ps_set (i := 1) scWhy.nd rfl (Or.inl rfl) (pe_tup (pa_cons pe_str (pa_cons (pe_xf T.xn T.f2 hz hf (pv 2))
          (pa_cons (pe_callB (rp _ _) (by rfl) mR (by decide +kernel) (pa_cons (pe_xf T.xn T.f3 hz hf (pv 2)) pa_nil)) pa_nil))))))
      (.cons (c := .ref CL) ⟨rfl, by decide, .inl G.l⟩ (fun a oe cls d pn hz hf => pss_one (ps_set (i := 1) scWhy.nd rfl (Or.inl rfl) (pe_tup (pa_cons pe_str (pa_cons (pe_xf T.xl T.f4 hz hf (pv 2)) (pa_cons (pe_xf T.xl T.f5 hz hf (pv 2)) (pa_cons (pe_xf T.xl T.f6 hz hf (pv 2)) pa_nil)))))))
      (.cons (c := .ref CM) ⟨rfl, by decide, .inl G.m⟩ (fun a oe cls d pn hz hf => pss_one (ps_set (i := 1) scWhy.nd rfl (Or.inl rfl) (pe_tup (pa_cons pe_str (pa_cons (pe_xf T.xm T.f7 hz hf (pv 2)) (pa_cons (pe_xf T.xm T.f8 hz hf (pv 2)) pa_nil))))))
      (.cons (c := .ref CR) ⟨rfl, by decide, .inl G.r⟩ (fun a oe cls d pn hz hf => pss_one (ps_set (i := 1) scWhy.nd rfl (Or.inl rfl) (pe_tup (pa_cons pe_str
          (pa_cons (pe_callB (rp _ _) (by rfl) mR (by decide +kernel) (pa_cons (pe_xf T.xr T.f9 hz hf (pv 2)) pa_nil)) pa_nil)))))
      (.cons (c := .ref CU) ⟨rfl, by decide, .inl G.u⟩ (fun a oe cls d pn hz hf => pss_one (ps_set (i := 1) scWhy.nd rfl (Or.inl rfl) (pe_tup (pa_cons pe_str (pa_cons (pe_xf T.xu T.f10 hz hf (pv 2)) pa_nil))))) .nil)))))))
    (pss_one (ps_ret (pv 1)))), ?_⟩
  · refine ⟨fun pins s' σ H' D I h' => ?_⟩
    obtain ⟨Ech, hW, h1, h2, h3⟩ := h'
    exact (pss_one (ps_expr (act W pn xe Ech _ _ tk hW))).run pins s' σ H' D I ⟨h1, h2, h3⟩
  · refine ⟨by show 1 ≤ sizeLine; decide, fun t0 ht0 => ?_⟩
    refine ⟨EWhy6 X.K CN CL CU Q, fun cls d σ' H' e => ?_, rfl, new_more ht0 _ _ hc, ?_⟩
    · have at2 : ∀ {a : Addr} {σ' : L2.St}, σ'.length = NWhy.length → (σ'.set 2 (some (V.ref a)))[2]? = some (some (V.ref a)) := fun {a σ'} hl => List.getElem?_set_self (by rw [hl]; decide)
      have end1 : ∀ {a t : Addr} {σ' : L2.St}, σ'.length = NWhy.length → (((σ'.set 2 (some (V.ref a))).set 1 (some (V.ref t))).set 2 none)[1]? = some (some (V.ref t)) := fun {a t σ'} hl => by
        rw [List.getElem?_set_ne (by decide), List.getElem?_set_self (by rw [List.length_set, hl]; decide)]
      obtain ⟨rfl, dd, what, x, dx, rfl, hd, sw, q1⟩ | ⟨rfl, dd, what, x, l, rfl, hd, q1⟩ | ⟨rfl, dd, what, rfl, hd, q1⟩ := e
      · refine ⟨false, T.nt, (fun z => nomatch z), fun _ => ⟨true, T.nn, fun _ hl a na => ?_, fun z => nomatch z⟩⟩
        exact ⟨_, at2 hl, rfl, rfl, dd, _, _, rfl, hd, rfl, _, at2 hl, rfl, rfl, dd, _, _, rfl, hd, rfl, x, dx, rfl, sw.dq, sw.sh, sw.dp, sw.ln, by show 3 ≤ sizeLine; decide, fun t ht => ⟨_, end1 hl, q1 t ht⟩⟩
      · refine ⟨false, T.lt, (fun z => nomatch z), fun _ => ⟨false, T.ln, (fun z => nomatch z), fun _ => ⟨true, T.ll, fun _ hl a na => ?_, fun z => nomatch z⟩⟩⟩
        exact ⟨_, at2 hl, rfl, rfl, dd, _, _, rfl, hd, rfl, _, at2 hl, rfl, rfl, dd, _, _, rfl, hd, rfl, _, at2 hl, rfl, rfl, dd, _, _, rfl, hd, rfl, by show 4 ≤ sizeLine; decide, fun t ht => ⟨_, end1 hl, q1 t ht⟩⟩
      · refine ⟨false, T.ut, (fun z => nomatch z), fun _ => ⟨false, T.un, (fun z => nomatch z), fun _ => ⟨false, T.ul, (fun z => nomatch z), fun _ => ⟨false, T.um, (fun z => nomatch z), fun _ => ⟨false, T.ur, (fun z => nomatch z), fun _ => ⟨true, T.uu, fun _ hl a na => ?_, fun z => nomatch z⟩⟩⟩⟩⟩⟩
        exact ⟨_, at2 hl, rfl, rfl, dd, _, _, rfl, hd, rfl, by show 2 ≤ sizeLine; decide, fun t ht => ⟨_, end1 hl, q1 t ht⟩⟩
    · exact h t0 ht0
end K78

namespace K78
open PySem L2 Gd B5 ZipG
section
variable {P : Program} {w : World} {K : PySem.W.Frag} {mg : Str → Option Value} {base : Heap}
variable {fU CU fB fE fF fG fO fW fN C f g1 g2 : Addr} {fdU fdB fdE fdF fdG fdO fdW fdN fd d1 d2 : FuncData}
abbrev sCb : Stmt := top 23
theorem scCb : FnScope ["machine", "other"] ["machine", "other"] (defScope sCb) := ⟨rfl, rfl, rfl, by decide +kernel, rfl, by decide +kernel, by decide +kernel⟩
theorem ok_cb (F : Fun K "check_bases" "check_bases" sCb f fd) (Z : McC K mg C) (U : Er K mg "Unlike" "Unlike.__init__" CU fU ["what"] sUnlike fdU) : FnOk P w K mg base (L2.CX P w) 3 f fd ["machine", "other"] (spCb K C CU) := by
  have GU : FnOk P w K mg base CX0 1 fU fdU ["self", "what"] (spIni CU ["what"]) := okUnlike U.fn U.T U.no
  refine F.okX scCb (fun vs H Q E h => ?_) (fun cdv A outer s H vs Q E hr h => ?_)
  · obtain ⟨a, b, p, p2, dss, dss2, ws, ws2, rfl, _⟩ := h
    rfl
  · obtain ⟨a, b, p, p2, dss, dss2, ws, ws2, rfl, ma, mb, h⟩ := h
    refine ⟨_, pss_one (ps_if (pt_cmpR op_ne (pe_fld (pv 0) rfl) (pe_fld (pv 1) rfl) (nomark _))
        (pss_one (ps_raise rfl (takes_of rfl rfl rfl rfl) (pmk_oex U.T U.iC U.tI GU hr U.b .nil pass0 rfl U.g (pa_cons pe_str pa_nil)))) pss_nil), ?_⟩
    obtain ⟨dx, t, u, xs, h1, h2, h3, h4⟩ := ma
    obtain ⟨dx2, t2, u2, xs2, k1, k2, k3, k4⟩ := mb
    refine ⟨_, rfl, a, C, dx, _, _, rfl, h1, Z.ic.cl, Z.n1, rfl, _, rfl, b, C, dx2, _, _, rfl, k1, Z.ic.cl, Z.n1, rfl, rfl, _, rfl, ?_⟩
    obtain ⟨e, q⟩ | ⟨ne, q⟩ := h
    · have : (!decide (V.int p = V.int p2)) = false := by rw [deI, decide_eq_true e]; rfl
      rw [this]
      exact iteF q
    · have : (!decide (V.int p = V.int p2)) = true := by rw [deI, decide_eq_false ne]; rfl
      rw [this]
      exact iteT (mk_ini rfl (by show 1 ≤ 900; decide) q)
abbrev sNbd : Stmt := top 27
abbrev NNbd : List Str := ["machine", "value", "many", "marks", "ways"]
theorem scNbd : FnScope NNbd ["machine", "value", "many"] (defScope sNbd) := ⟨rfl, rfl, rfl, by decide +kernel, rfl, by decide +kernel, by decide +kernel⟩
theorem ok_nbd (F : Fun K "numbers_by_digits" "numbers_by_digits" sNbd f fd) (B : Blt mg) (zZip : mg "zip" = none) (zSum : mg "sum" = none) (Z : McC K mg C) (Wo : Cl K mg "ways_on" sWon ["moves", "ways"] fW fdW) (Wb : Cl K mg "ways_by_digits" sWbd ["machine", "many"] fE fdE)
    (Mo : Cl K mg "marks_of" sMks ["machine", "value"] fF fdF) (Do : Cl K mg "dot" sDot ["one", "other"] fO fdO) : FnOk P w K mg base CX0 3 f fd ["machine", "value", "many"] (spNbd K C) := by
  have GE : FnOk P w K mg base CX0 2 fE fdE ["machine", "many"] (spWbd K C) := ok_wbd Wb.fn B zZip Z Wo
  have GF : FnOk P w K mg base CX0 1 fF fdF ["machine", "value"] (spMks K C) := ok_mks Mo.fn B Z
  have GO : FnOk P w K mg base CX0 1 fO fdO ["one", "other"] (spDot K) := ok_dot Do.fn zSum zZip
  refine F.ok scNbd (fun vs H Q E h => ?_) (fun cdv A outer s H vs Q E hr h => ?_)
  · obtain ⟨a, v, p, dss, ws, m, rfl, _⟩ := h
    rfl
  · obtain ⟨a, v, p, dss, ws, m, rfl, ma, g, fm, q⟩ := h
    have hr1 : Room 1 _ := hr.mono (by decide)
    refine ⟨_, pss_cons (ps_set (i := 3) scNbd.nd rfl (Or.inr rfl) (pe_call GF hr1 rfl Mo.g Mo.k Mo.b .nil pass0 (pa_cons (pv 0) (pa_cons (pv 1) pa_nil))))
      (pss_one (ps_ret (pe_lc (own := [("ways", 4)]) (g := gName 4) (tt := tYes) rfl scNbd.nd (pi_list (pe_call GE hr rfl Wb.g Wb.k Wb.b .nil pass0 (pa_cons (pv 0) (pa_cons (pv 2) pa_nil))))
        (blkOk_by (N := NNbd) (sc := defScope sNbd) (by decide +kernel)) (fun _ _ _ _ _ => pg_name (i := 4) scNbd.nd rfl (Or.inl rfl)) (fun _ _ _ _ _ => pts_nil)
        (fun _ _ _ _ _ => pe_call GO hr1 rfl Do.g Do.k Do.b .nil pass0 (pa_cons (pv 4) (pa_cons (pv 3) pa_nil)))))), ?_⟩
    have few := g.few
    refine ⟨_, rfl, _, rfl, a, v, p, dss, ws, rfl, ma, g, fun H1 mk m1 nmk hmk => ?_⟩
    refine ⟨_, rfl, _, rfl, a, p, dss, ws, m, rfl, ma.more m1, g, fm, fun H2 l rs m2 nl hl lrs wy => ?_⟩
    refine ⟨l, rfl, ⟨_, SqL.of hl⟩, fun D hD => ?_⟩
    have bt := bits_mk (v := v) (ws := ws)
    refine lc_name (n := 4) (D := D) (H1 := H2) (xs := rs.map V.ref) (rs := (nRow dss ws v m).map V.int) walk_list hD (fun H' m => Same.seq m (SqL.of hl)) (by rw [List.length_map, List.length_map, lrs, nRow_len]) (by rw [List.length_map]; omega) (fun _ => rfl) ?_ (fun H' k m3 => q H' D (fun b o e => m3 _ _ (m2 _ _ (m1 _ _ e))) (m1.off (m2.off hD)) k)
    intro i y r H3 Q3 hy hr3 m3 q3
    obtain ⟨b, hb, rfl⟩ := map_at hy
    obtain ⟨c, hc, rfl⟩ := map_at hr3
    have hi : i < m := by have := (List.getElem?_eq_some_iff.mp hb).1; omega
    rw [nRow_at hi] at hc
    cases hc
    exact ⟨_, rfl, _, rfl, b, mk, waysL dss i, mkV v ws, dss.length, rfl, .inl (SqL.of (m3 _ _ (wy i b hb))), .inl (SqL.of (m3 _ _ (m2 _ _ hmk))), waysL_len dss g.ne _, by rw [bt.1, g.len], few, fun y hy => bt.mem hy, fun H' m' => q3 H' m'⟩
abbrev sAm : Stmt := top 28
abbrev NAm : List Str := ["machine", "value", "other", "other_value", "many", "one", "two", "unlike", "at"]
theorem scAm : FnScope NAm ["machine", "value", "other", "other_value"] (defScope sAm) := ⟨rfl, rfl, rfl, by decide +kernel, rfl, by decide +kernel, by decide +kernel⟩
theorem ok_am (F : Fun K "as_many" "as_many" sAm f fd) (B : Blt mg) (Z : McC K mg C) (Cb : Cl K mg "check_bases" sCb ["machine", "other"] fB fdB) (Nb : Cl K mg "numbers_by_digits" sNbd ["machine", "value", "many"] fN fdN)
    (GC : FnOk P w K mg base (L2.CX P w) 3 fB fdB ["machine", "other"] (spCb K C CU)) (GN : FnOk P w K mg base CX0 3 fN fdN ["machine", "value", "many"] (spNbd K C)) :
    FnOk P w K mg base (L2.CX P w) 4 f fd ["machine", "value", "other", "other_value"] (spAm K C CU) := by
  refine F.okX scAm (fun vs H Q E h => ?_) (fun cdv A outer s H vs Q E hr h => ?_)
  · obtain ⟨a, b, v, v2, p, p2, dss, dss2, ws, ws2, rfl, _⟩ := h
    rfl
  · obtain ⟨a, b, v, v2, p, p2, dss, dss2, ws, ws2, rfl, ma, mb, g, g2, few, h⟩ := h
    refine ⟨_, pss_cons (ps_expr (pe_call GC hr rfl Cb.g Cb.k Cb.b .nil (passes_call (takes_of rfl rfl rfl rfl) (fun _ _ _ _ h => h)) (pa_cons (pv 0) (pa_cons (pv 2) pa_nil))))
      (pss_cons (ps_set (i := 4) scAm.nd rfl (Or.inl rfl) (pe_op op_add (pe_fld (pv 0) rfl) (pe_fld (pv 2) rfl)))
      (pss_cons (ps_set (i := 5) scAm.nd rfl (Or.inr rfl) (pe_call GN hr rfl Nb.g Nb.k Nb.b .nil pass0 (pa_cons (pv 0) (pa_cons (pv 1) (pa_cons (pv 4) pa_nil)))))
      (pss_cons (ps_set (i := 6) scAm.nd rfl (Or.inr rfl) (pe_call GN hr rfl Nb.g Nb.k Nb.b .nil pass0 (pa_cons (pv 2) (pa_cons (pv 3) (pa_cons (pv 4) pa_nil)))))
      (pss_cons (ps_setLc (i := 7) (own := [("at", 8)]) (g := gName 8) rfl scAm.nd rfl rfl (sw_true rfl rfl rfl (by decide +kernel)) (pi_range1 (by rfl) B.range_ (pa_cons (pv 4) pa_nil))
          (blkOk_by (N := NAm) (sc := defScope sAm) (by decide +kernel)) (fun _ _ _ _ _ => pg_name (i := 8) scAm.nd rfl (Or.inl rfl))
          (fun _ _ _ _ _ => pts_one (pt_cmpR (r := rNe) op_ne (pe_ix (r := rIxL K) ix_list (pv 5) (pv 8) (fun _ _ => rfl)) (pe_ix (r := rIxL K) ix_list (pv 6) (pv 8) (fun _ _ => rfl)) (nomark _))) (fun _ _ _ _ _ => pv 8))
      (pss_one (ps_ret (pe_ifExp (pt_truth (pv 7) (by intro _; rfl)) (pe_ix ix_list (pv 7) pe_int (fun _ _ => rfl)) pe_non))))))), ?_⟩
    refine ⟨_, rfl, _, rfl, a, b, p, p2, dss, dss2, ws, ws2, rfl, ma, mb, ?_⟩
    obtain ⟨e, q⟩ | ⟨ne, q⟩ := h
    · refine .inl ⟨e, ?_⟩
      obtain ⟨dx, t, u, xs, h1, h2, h3, h4⟩ := ma
      obtain ⟨dx2, t2, u2, xs2, k1, k2, k3, k4⟩ := mb
      refine ⟨_, rfl, a, C, dx, _, _, rfl, h1, Z.ic.cl, Z.n4, rfl, _, rfl, b, C, dx2, _, _, rfl, k1, Z.ic.cl, Z.n4, rfl, _, _, rfl, rfl, ?_⟩
      have eN : ((dss.length : Nat) : Int) + ((dss2.length : Nat) : Int) = ((dss.length + dss2.length : Nat) : Int) := by omega
      show gName 4 (V.int (((dss.length : Nat) : Int) + ((dss2.length : Nat) : Int))) _ _ _
      rw [eN]
      generalize dss.length + dss2.length = N at few q eN ⊢
      refine ⟨_, rfl, _, rfl, _, rfl, a, v, p, dss, ws, N, rfl, ⟨dx, t, u, xs, h1, h2, h3, h4⟩, g, by omega, fun H1 la m1 nla hla => ?_⟩
      refine ⟨_, rfl, _, rfl, _, rfl, b, v2, p2, dss2, ws2, N, rfl, MAt.more m1 ⟨dx2, t2, u2, xs2, k1, k2, k3, k4⟩, g2, by omega, fun H2 lb m2 nlb hlb => ?_⟩
      have hla2 := m2 _ _ hla
      have m02 : More H H2 := fun b o e => m2 _ _ (m1 _ _ e)
      clear h1 h2 h3 h4 k1 k2 k3 k4 m1 m2
      refine ⟨_, rfl, _, rfl, by omega, by omega, fun D hD => ?_⟩
      refine lc_range (lo := 0) (n := N) (fun i H' => H' D = some (.lst ((unl (nBel dss ws v) (nBel dss2 ws2 v2) i).map fun x : Nat => V.int (x : Nat))) ∧ More H2 H') ⟨upd_same, new_more hD⟩ ?_ ?_
      · rintro i H3 hi ⟨k3, m3⟩
        rw [Int.zero_add]
        refine ⟨rfl, _, rfl, _, rfl, la, _, _, _, rfl, rfl, SqL.of (m3 _ _ hla2), atI_nat (at_map (nRow_at hi)), _, rfl, _, rfl, lb, _, _, _, rfl, rfl, SqL.of (m3 _ _ hlb), atI_nat (at_map (nRow_at hi)), rfl, _, rfl, ?_⟩
        have us := unl_succ (nBel dss ws v) (nBel dss2 ws2 v2) i
        by_cases z : nBel dss ws v i = nBel dss2 ws2 v2 i
        · have e0 : (!decide (V.int (nBel dss ws v i) = V.int (nBel dss2 ws2 v2 i))) = false := by rw [deI, decide_eq_true z]; rfl
          rw [if_pos z, List.append_nil] at us
          rw [e0, us]
          exact iteF ⟨k3, m3⟩
        · have e0 : (!decide (V.int (nBel dss ws v i) = V.int (nBel dss2 ws2 v2 i))) = true := by rw [deI, decide_eq_false z]; rfl
          rw [if_neg z] at us
          rw [e0, us]
          have ll := unl_len (nBel dss ws v) (nBel dss2 ws2 v2) i
          refine iteT ⟨_, rfl, _, k3, by rw [List.length_map]; exact small1000 (by omega), ?_, More.at m3 hD⟩
          rw [upd_same, List.map_append]
          rfl
      · rintro H3 ⟨k3, m3⟩
        have q := q H3 fun b o e => m3 _ _ (m02 _ _ e)
        cases hU : unl (nBel dss ws v) (nBel dss2 ws2 v2) N with
        | nil =>
          rw [hU] at k3 q
          exact ⟨_, rfl, false, .inl ⟨_, SqL.of k3, rfl⟩, iteF q⟩
        | cons L l =>
          rw [hU] at k3 q
          exact ⟨_, rfl, true, .inl ⟨_, SqL.of k3, rfl⟩, iteT ⟨_, rfl, D, _, 0, _, rfl, rfl, SqL.of k3, atI_nat (j := 0) rfl, q⟩⟩
    · exact .inr ⟨ne, q⟩
end
end K78

namespace K78
open PySem L2 Gd B5
abbrev sTooLarge : Stmt := inClass (top 7) 0
abbrev sLaw : Stmt := top 43
abbrev NLaw : List Str := ["_law_script", "_law_pen_here", "_law_lap", "_law_other", "_law_one", "_law_two", "_law_many", "_law_left", "_law_right", "_law_due", "_law_base", "_law_far", "_law_plain", "_law_step"]
def spLaw (K : PySem.W.Frag) (Pt : Addr) : Sp := fun vs H Q _ => ∃ (a : Addr) (ns : List Int), vs = [.ref a] ∧ SqL K H a (ns.map V.int) ∧ H Pt = some (.tbl #[]) ∧ ∀ H', Q (.bl true) H'
theorem scLaw : FnScope NLaw ["_law_script"] (defScope sLaw) := ⟨rfl, rfl, rfl, by decide +kernel, rfl, by decide +kernel, by decide +kernel⟩
def lamQ : Str := (PyProof.Rows.envOfC "law" (defScope sLaw) 0 0 .none).qual ++ "<lambda>"
theorem dp_L {K : PySem.W.Frag} {H : Hp} {t : Addr} {l : List Int} (h : SqL K H t (l.map V.int)) : Dp K H (.ref t) (.list (l.map .int)) := .lst h (dp_ints l)
theorem shaped_L (l : List Int) : SeqAt.shaped (.list (l.map .int)) = true := by
  unfold SeqAt.shaped
  simp only [PyData.canLay0, lay_ints, PyData.depth, dep_ints]
  decide
theorem eqv_L (a b : List Int) : PyData.eqv (.list (a.map .int)) (.list (b.map .int)) = decide (a = b) := by
  simp only [PyData.eqv, eqvAll_ints]
theorem map_nat (l : List Nat) : (l.map fun x : Nat => V.int (x : Nat)) = ((l.map fun x : Nat => (x : Int)).map V.int) := by rw [List.map_map]; rfl
theorem far_good {b : Nat} (h : b = 2 ∨ b = 3) : MGood b [List.replicate b (0 : Int)] [0] ∧ stdy [List.replicate b (0 : Int)] [0] = true := by
  rcases h with rfl | rfl
  all_goals exact ⟨⟨by decide +kernel, by decide +kernel, by decide +kernel, by decide +kernel, by decide +kernel⟩, by decide +kernel⟩
theorem plm_go {H H' : Hp} {d a : Addr} {p : Int} {dss : List (List Int)} {ws : List Int} (h : PlM H d a p dss ws) (m : Go d H H') (hd : ∃ kvs, H d = some (.dK kvs)) : PlM H' d a p dss ws where
  good := h.good
  st := h.st
  ne := h.ne
  at_ := by
    obtain ⟨kd, hd⟩ := hd
    obtain ⟨kvs, M, W, as, h1, h2, h3, h4, h5, h6, h7⟩ := h.at_
    have nl : ∀ {b : Addr} {xs : List V}, H b = some (.lst xs) → b ≠ d := fun {b xs} e z => by
      rw [z, hd] at e
      cases e
    exact ⟨kvs, M, W, as, m _ _ h1 h.ne (fun ps z => by cases z), h2, h3, h4, m _ _ h5 (nl h5) (fun ps z => by cases z), paired_imp (fun b ds e => m _ _ e (nl e) (fun ps z => by cases z)) h6, m _ _ h7 (nl h7) (fun ps z => by cases z)⟩
section
variable {P : Program} {w : World} {K : PySem.W.Frag} {mg : Str → Option Value} {base : Heap}
theorem ok_law {f c Pt : Addr} {kV doc pm ct oc : Value} {an od : Option Addr} {osl : Array (Option Value)} {g0 g1 g2 g3 g4 g5 gI gA gW C CT CN CL CM CR CU : Addr} {d0 d1 d2 d3 d4 d5 dI' dA dW : FuncData}
    (lk : K.lookup f = some ⟨oc, od, .func (PySem.W.fnOf "law" "law" (defArgs sLaw) (defBody sLaw) (defScope sLaw) .none kV doc pm an (.ref c) ct), osl⟩)
    (hcd : PySem.W.codeIn K (.ref c) "law" = true) (TB : LamX.TabB base mg c Pt) (B : Blt mg) (Z : McC K mg C)
    (M : Mk K C gI) (bI : Binds K dI' ["self", "p", "moves", "worths"] []) (GI : FnOk P w K mg base (L2.CX P w) 5 gI dI' ["self", "p", "moves", "worths"] (spMI K C CN CR CU))
    (Am : Cl K mg "as_many" sAm ["machine", "value", "other", "other_value"] gA dA) (GA : FnOk P w K mg base (L2.CX P w) 4 gA dA ["machine", "value", "other", "other_value"] (spAm K C CU))
    (Pe : Cl K mg "_law_pen" sPen ["_law_script"] g0 d0) (Dr : Cl K mg "_law_draw" sDraw ["_law_pen_here", "_law_many"] g1 d1) (Pi : Cl K mg "_law_pick" sPick ["_law_pen_here", "_law_some"] g2 d2)
    (Pr : Cl K mg "_law_pair" sPr ["_law_pen_here"] g3 d3) (GP : FnOk P w K mg base CX0 5 g3 d3 ["_law_pen_here"] spPr)
    (Co : Cl K mg "_law_count_of" sCo ["_law_machine_here", "_law_value", "_law_many"] g4 d4) (GO : FnOk P w K mg base CX0 2 g4 d4 ["_law_machine_here", "_law_value", "_law_many"] spCo)
    (Md : Cl K mg "_law_made" sMd ["_law_machine_here"] g5 d5)
    (Wy : Cl K mg "_law_why" sWhy ["_law_call"] gW dW) (T : Cau6 K CT CN CL CM CR CU) (G : Glo6 mg CT CN CL CM CR CU) :
    FnG P w K mg base CX0 10 f (PySem.W.fnOf "law" "law" (defArgs sLaw) (defBody sLaw) (defScope sLaw) .none kV doc pm an (.ref c) ct) ["_law_script"] (spLaw K Pt) := by
  have G0 : FnOk P w K mg base CX0 1 g0 d0 ["_law_script"] (spPen K) := ok_pen Pe.fn B.int_ B.list_
  have G1 : FnOk P w K mg base CX0 1 g1 d1 ["_law_pen_here", "_law_many"] spDraw := ok_draw Dr.fn B.int_ B.len_
  have G2 : FnOk P w K mg base CX0 2 g2 d2 ["_law_pen_here", "_law_some"] (spPick K) := ok_pick Pi.fn Dr.fn Dr.b Dr.g B.int_ B.len_
  have G5 : FnOk P w K mg base CX0 7 g5 d5 ["_law_machine_here"] (spMd K C) := ok_md Md.fn B Z M bI GI
  refine fnG_of lk hcd scLaw (fun vs H Q E h => ?_) (fun A outer s H vs Q E hgd hr h => ?_)
  · obtain ⟨a, ns, rfl, _⟩ := h
    rfl
  · obtain ⟨sa, ns, rfl, hS, hP, fin⟩ := h
    have hr1 : Room 1 _ := hr.mono (by decide)
    have hr2 : Room 2 _ := hr.mono (by decide)
    have hr3 : Room 3 _ := hr.mono (by decide)
    have hr4 : Room 4 _ := hr.mono (by decide)
    have hr5 : Room 5 _ := hr.mono (by decide)
    have hr7 : Room 7 _ := hr.mono (by decide)
    have hu64 := hr.units
    have hu := hu_of hr
    obtain ⟨ocW, odW, kVW, docW, pmW, anW, cdW, ctW, oslW, rfl, lkW, hcdW⟩ := Wy.fn.ex
    have bW := Wy.b
    have lam : ∀ {params : Arguments} {body : Expr} {scope : Scope} {lpos p pos : Pos} {t : XK → TE}, LamX.LamS (defScope sLaw) scope →
        defaultsOf params (cxOf CX0 P w K mg base NLaw "law" (defScope sLaw) f (.ref c) A outer s H E).nox.env = ([], []) →
        (∀ (q : Str) (cl : List (Str × Addr)) (pm cv ctv : Value), bindArgs (PySem.W.kla_fn "<lambda>" q params body scope cl pm cv ctv) ⟨[], []⟩ = pure []) →
        (∀ (A' : Around) (outer' : List Env) (s' : Shared) (H' : Hp) (E' : XK) (f' c' : Addr), Room 7 (A'.deeper (LamX.lamEnv (cxOf CX0 P w K mg base NLaw "law" (defScope sLaw) f (.ref c) A outer s H E).nox scope s'.heap.objs.size f' c')) →
          PE (LamX.lamCx (cxOf CX0 P w K mg base NLaw "law" (defScope sLaw) f (.ref c) A outer s H E).nox A' outer' s' H' E' scope f' c') body (t E')) →
        PE (cxOf CX0 P w K mg base NLaw "law" (defScope sLaw) f (.ref c) A outer s H E).nox
          (.Call (.Name "_law_why" p) [.Lambda params body scope lpos] [] pos) (LamX.tLam [(Pt, lamQ)] (TWhy6 K CN CL CU) t) := by
      intro params body scope lpos p pos t L hdef hbind hbody
      exact LamX.pe_lamcall (k := 7) (T := [(Pt, lamQ)]) (c := c) (P := Pt) rfl Wy.g Wy.k lkW hcdW bW scWhy rfl (.inl rfl)
        (why_gives (k := 7) hgd hr T G B.repr_) TB rfl (.head _)
        (fun p hp _ => by
          obtain rfl | hp := List.mem_cons.mp hp
          · rfl
          · exact (List.not_mem_nil hp).elim) hr L hdef hbind hbody
    have hu1 : (A.deeper (PyProof.Rows.envOfC "law" (defScope sLaw) s.heap.objs.size f (.ref c))).units < cLine := by omega
    suffices hh : ∃ t, PSs (cxOf CX0 P w K mg base NLaw "law" (defScope sLaw) f (.ref c) A outer s H E).nox (defBody sLaw) t ∧ t { nx := fun _ H' => Q .non H', rt := Q } (L2.start NLaw [.ref sa]) H by
      obtain ⟨t, d, q⟩ := hh
      exact ⟨t, d.nox, q⟩
    have hr6 : Room 6 _ := hr.mono (by decide)
    refine ⟨_, Evl.pss_cut (ps_set (i := 1) scLaw.nd rfl (Or.inl rfl) (pe_call G0 hr1 rfl Pe.g Pe.k Pe.b .nil pass0 (pa_cons (pv 0) pa_nil)))
      (Evl.pss_cut (ps_for PassesOwn.never rfl (pi_range1 (by rfl) B.range_ (pa_cons pe_int pa_nil)) (pg_name (i := 2) scLaw.nd rfl (Or.inl rfl))
        (pss_cons (ps_asg (pe_call GP hr5 rfl Pr.g Pr.k Pr.b .nil pass0 (pa_cons (pv 1) pa_nil)) (pg_tup (by rfl) (pgs_cons (pg_name (i := 12) scLaw.nd rfl (Or.inr rfl)) (pgs_cons (pg_name (i := 3) scLaw.nd rfl (Or.inl rfl)) pgs_nil))))
        (pss_cons (ps_par (i := 4) (j := 5) rfl scLaw.nd rfl rfl (by decide) rfl rfl (pa_cons (pe_call G2 hr2 rfl Pi.g Pi.k Pi.b .nil pass0 (pa_cons (pv 1) (pa_cons (pe_op op_cat (pe_dget hu (pv 12) pe_str (fun _ _ => rfl)) (pe_lst (pa_cons pe_int pa_nil))) pa_nil)))
            (pa_cons (pe_call G2 hr2 rfl Pi.g Pi.k Pi.b .nil pass0 (pa_cons (pv 1) (pa_cons (pe_dget hu (pv 3) pe_str (fun _ _ => rfl)) pa_nil))) pa_nil)) (by rfl))
        (Evl.pss_cut (ps_set (i := 5) scLaw.nd rfl (Or.inl rfl) (pe_ifExp (pt_cmpR op_gt (pe_call G1 hr1 rfl Dr.g Dr.k Dr.b .nil pass0 (pa_cons (pv 1) (pa_cons pe_int pa_nil))) pe_int (nomark _)) (pv 4) (pv 5)))
        (pss_cons (ps_set (i := 6) scLaw.nd rfl (Or.inl rfl) (pe_op op_add (pe_op op_add (pe_callB call_len_seq (by rfl) B.len_ PySem.boot_len (pa_cons (pe_dget hu (pv 12) pe_str (fun _ _ => rfl)) pa_nil))
            (pe_callB call_len_seq (by rfl) B.len_ PySem.boot_len (pa_cons (pe_dget hu (pv 3) pe_str (fun _ _ => rfl)) pa_nil))) pe_int))
        (pss_cons (ps_asg (pe_tup (pa_cons (pe_call GO hr2 rfl Co.g Co.k Co.b .nil pass0 (pa_cons (pv 12) (pa_cons (pv 4) (pa_cons (pv 6) pa_nil)))) (pa_cons (pe_call GO hr2 rfl Co.g Co.k Co.b .nil pass0 (pa_cons (pv 3) (pa_cons (pv 5) (pa_cons (pv 6) pa_nil)))) pa_nil)))
            (pg_tup (by rfl) (pgs_cons (pg_name (i := 7) scLaw.nd rfl (Or.inr rfl)) (pgs_cons (pg_name (i := 8) scLaw.nd rfl (Or.inr rfl)) pgs_nil))))
        (pss_cons (ps_setLc (i := 9) (own := [("_law_step", 13)]) (g := gName 13) rfl scLaw.nd rfl rfl (sw_true rfl rfl rfl (by decide +kernel)) (pi_range1 (by rfl) B.range_ (pa_cons (pv 6) pa_nil))
            (blkOk_by (N := NLaw) (sc := defScope sLaw) (by decide +kernel)) (fun _ _ _ _ _ => pg_name (i := 13) scLaw.nd rfl (Or.inl rfl))
            (fun _ _ _ _ _ => pts_one (pt_cmpR (r := rNe) op_ne (pe_ix (r := rIxL K) ix_list (pv 7) (pv 13) (fun _ _ => rfl)) (pe_ix (r := rIxL K) ix_list (pv 8) (pv 13) (fun _ _ => rfl)) (nomark _))) (fun _ _ _ _ _ => pv 13))
        (pss_one (ps_if (pt_cmpR op_ne (pe_call GA hr4 rfl Am.g Am.k Am.b .nil (passes_call LamX.takes0 (fun _ _ _ _ h => h)) (pa_cons (pe_call G5 hr7 rfl Md.g Md.k Md.b .nil pass0 (pa_cons (pv 12) pa_nil)) (pa_cons (pv 4) (pa_cons (pe_call G5 hr7 rfl Md.g Md.k Md.b .nil pass0 (pa_cons (pv 3) pa_nil)) (pa_cons (pv 5) pa_nil)))))
            (pe_ifExp (pt_cmpR (op_neD hu64) (pv 9) (pe_lst pa_nil) (nomark _)) (pe_ix ix_list (pv 9) pe_int (fun _ _ => rfl)) pe_non) (nomark _)) (pss_one (ps_ret pe_bl)) pss_nil)))))))))
      (Evl.pss_cut (ps_set (i := 10) scLaw.nd rfl (Or.inl rfl) (pe_ifExp (pt_cmpR op_eq (pe_dget hu (pv 12) pe_str (fun _ _ => rfl)) pe_int (nomark _)) pe_int pe_int))
      (pss_cons (ps_set (i := 11) scLaw.nd rfl (Or.inr rfl) (pe_make M GI hr6 rfl Z.g bI .nil (passes_call LamX.takes0 (fun _ _ _ _ h => h)) (pa_cons (pv 10) (pa_cons (pe_lst (pa_cons (pe_op op_rep (pe_lst (pa_cons pe_int pa_nil)) (pv 10)) pa_nil)) (pa_cons (pe_lst (pa_cons pe_int pa_nil)) pa_nil)))))
      (pss_one (ps_ret (pe_cmpR (op_eqTS hu1) (lam (LamX.lamS_by (by decide +kernel)) rfl (fun _ _ _ _ _ => rfl) (fun A' outer' s' H' E' f' c' hr' => pe_call GA (hr'.mono (by decide)) rfl Am.g Am.k Am.b .nil takesLam
            (pa_cons (pe_call G5 hr' rfl Md.g Md.k Md.b .nil pass0 (pa_cons (pv 12) pa_nil)) (pa_cons pe_int (pa_cons (pv 11) (pa_cons pe_int pa_nil))))))
            (pe_tup (pa_cons pe_str (pa_cons pe_str pa_nil))) (nomark _))))))), ?_⟩
    refine ⟨fun σ' H' => ∃ d cc, σ' = [some (.ref sa), some (.ref d), none, none, none, none, none, none, none, none, none, none, none, none] ∧ Stt Pt lamQ d cc 0 H', ?_, ?_⟩
    · refine ⟨_, rfl, sa, ns, rfl, hS, fun H1 d cc pen fr nd => ⟨d, cc, rfl, pen, fun pq hpq => ?_⟩⟩
      obtain rfl | hpq := List.mem_cons.mp hpq
      · exact LamX.TabS.nil (fr _ _ hP)
      · exact (List.not_mem_nil hpq).elim
    clear hS hP
    rintro σ0 H0 ⟨d, cc, rfl, st0⟩
    -- four laps
    refine ⟨fun σ' H' => ∃ (z2 z3 z4 z5 z6 z7 z8 z9 : Option V) (n' : Int) (a : Addr) (p : Int) (dss : List (List Int)) (ws : List Int), σ' = [some (.ref sa), some (.ref d), z2, z3, z4, z5, z6, z7, z8, z9, none, none, some (.ref a), none] ∧ Stt Pt lamQ d cc n' H' ∧ PlM H' d a p dss ws ∧ dss.length ≤ 20, ?_, ?_⟩
    · refine ⟨4, rfl, by decide, by decide, for_range (lo := 0) (n := 4) (fun i σ' H' => ∃ (z2 z3 z4 z5 z6 z7 z8 z9 z12 : Option V) (n' : Int), σ' = [some (.ref sa), some (.ref d), z2, z3, z4, z5, z6, z7, z8, z9, none, none, z12, none] ∧ Stt Pt lamQ d cc n' H' ∧ 0 ≤ n' ∧ n' ≤ 4000 * i ∧
          (0 < i → ∃ (a : Addr) (p : Int) (dss : List (List Int)) (ws : List Int), z12 = some (.ref a) ∧ PlM H' d a p dss ws ∧ dss.length ≤ 20))
        ⟨none, none, none, none, none, none, none, none, none, 0, rfl, st0, by omega, by omega, fun z => absurd z (Nat.lt_irrefl 0)⟩ ?_ ?_⟩
      · rintro i σ1 H1 hi ⟨z2, z3, z4, z5, z6, z7, z8, z9, z12, n1, rfl, st1, n10, n11, _⟩
        refine ⟨_, rfl, d, cc, n1, rfl, st1.pen, n10, by omega, fun H2 t a b p dss dss2 ws ws2 n2 kt pl pl' few1 few2 pen2 b1 b2 o2 => ?_⟩
        have st2 := st1.off pen2 o2
        refine ⟨t, _, rfl, SqT.of kt, rfl, _, _, rfl, _, _, rfl, rfl, ?_⟩
        have g := pl.good
        have g' := pl'.good
        have wl := g.len
        have wl' := g'.len
        have d0 : 0 < dss.length := List.length_pos_iff.mpr g.ne
        have d0' : 0 < dss2.length := List.length_pos_iff.mpr g'.ne
        clear kt st1 pen2 o2
        -- values
        obtain ⟨kvs, M', W, as, h1, h2, h3, h4, h5, h6, h7⟩ := pl.at_
        refine ⟨_, rfl, _, rfl, a, _, rfl, dg kW h1 h4, by show 1 ≤ sizeLine; decide, fun L hL => ?_⟩
        have mL := new_more (o := .lst [V.int 9]) hL
        refine cat_end (K := K) (mL _ _ h7) upd_same (by rw [List.length_map]; show _ + 1 ≤ _; omega) fun H3 X m3 nX kX => ?_
        have m23 : More H2 H3 := fun b o e => m3 _ _ (mL _ _ e)
        have st3 := st2.more m23
        refine ⟨d, cc, X, n2, _, rfl, st3.pen, kX, by rw [List.length_append]; show 0 < _ + 1; omega, by rw [List.length_append, List.length_map]; show _ + 1 ≤ _; omega, by omega, by omega, fun x H4 hx dr4 => ?_⟩
        obtain ⟨v, rfl⟩ : ∃ v, x = .int v := by
          rcases List.mem_append.mp hx with hx | hx
          · obtain ⟨v, _, rfl⟩ := List.mem_map.mp hx
            exact ⟨v, rfl⟩
          · exact ⟨9, by simpa using hx⟩
        have st4 := st3.off dr4.pen fun b o e hb => (dr4.off b hb).trans e
        have pl4 := (pl.more m23).off (.dr dr4) st3.pen.isd
        have pl4' := (pl'.more m23).off (.dr dr4) st3.pen.isd
        clear h1 h2 h3 h4 h5 h6 h7 mL m3 nX kX m23 st3 pl pl' hx dr4 hL st2
        obtain ⟨kvs, M', W, as, h1, h2, h3, h4, h5, h6, h7⟩ := pl4'.at_
        refine ⟨_, rfl, _, rfl, b, _, rfl, dg kW h1 h4, d, cc, W, _, _, rfl, st4.pen, h7, by rw [List.length_map]; omega, by rw [List.length_map]; omega, by omega, by omega, fun x H5 hx dr5 => ⟨_, _, rfl, ?_⟩⟩
        obtain ⟨v2, _, rfl⟩ := List.mem_map.mp hx
        have st5 := st4.off dr5.pen fun b o e hb => (dr5.off b hb).trans e
        have pl5 := pl4.off (.dr dr5) st4.pen.isd
        have pl5' := pl4'.off (.dr dr5) st4.pen.isd
        clear h1 h2 h3 h4 h5 h6 h7 hx dr5 st4 pl4 pl4'
        -- the other value
        refine ⟨fun σ' H' => ∃ (w2 n' : Int), σ' = [some (.ref sa), some (.ref d), some (.int (0 + i)), some (.ref b), some (.int v), some (.int w2), z6, z7, z8, z9, none, none, some (.ref a), none] ∧ Stt Pt lamQ d cc n' H' ∧ n2 ≤ n' ∧ n' ≤ n2 + 3 ∧ PlM H' d a p dss ws ∧ PlM H' d b p dss2 ws2, ?_, ?_⟩
        · refine ⟨_, rfl, d, cc, _, 3, rfl, st5.pen, by decide, by decide, by omega, by omega, fun r H6 r0 r1 dr6 => ⟨_, _, rfl, rfl, _, rfl, ?_⟩⟩
          have st6 := st5.off dr6.pen fun b o e hb => (dr6.off b hb).trans e
          have pl6 := pl5.off (.dr dr6) st5.pen.isd
          have pl6' := pl5'.off (.dr dr6) st5.pen.isd
          by_cases e : 0 < r
          · rw [decide_eq_true e]
            exact iteT ⟨_, rfl, v, _, rfl, st6, by omega, by omega, pl6, pl6'⟩
          · rw [decide_eq_false e]
            exact iteF ⟨_, rfl, v2, _, rfl, st6, by omega, by omega, pl6, pl6'⟩
        clear st5 pl5 pl5'
        rintro σ2 H6 ⟨w2, n6, rfl, st6, c1, c2, pl6, pl6'⟩
        -- how many
        obtain ⟨kvs, M', W, as, h1, h2, h3, h4, h5, h6, h7⟩ := pl6.at_
        obtain ⟨kvs2, M2, W2, as2, k1, k2, k3, k4, k5, k6, k7⟩ := pl6'.at_
        have la : as.length = dss.length := Paired.length h6
        have la2 : as2.length = dss2.length := Paired.length k6
        refine ⟨_, rfl, a, _, rfl, dg kM h1 h3, M', _, rfl, .inl (SqL.of h5), _, rfl, b, _, rfl, dg kM k1 k3, M2, _, rfl, .inl (SqL.of k5), _, _, rfl, rfl, _, _, rfl, rfl, ?_⟩
        have um := unl_more g g' v w2 2
        have eN : (((as.map V.ref).length : Nat) : Int) + (((as2.map V.ref).length : Nat) : Int) + 2 = ((dss.length + dss2.length + 2 : Nat) : Int) := by rw [List.length_map, List.length_map, la, la2]; omega
        show gName 6 (V.int ((((as.map V.ref).length : Nat) : Int) + (((as2.map V.ref).length : Nat) : Int) + 2)) _ _ _
        rw [eN]
        clear h1 h2 h3 h4 h5 h6 h7 k1 k2 k3 k4 k5 k6 k7 la la2 eN
        obtain ⟨N, hN⟩ : ∃ N, N = dss.length + dss2.length + 2 := ⟨_, rfl⟩
        rw [← hN] at um ⊢
        refine ⟨_, rfl, _, rfl, _, rfl, a, d, p, v, N, dss, ws, rfl, pl6, by omega, fun H7 l m7 nl hl => ?_⟩
        refine ⟨_, rfl, _, rfl, _, rfl, b, d, p, w2, N, dss2, ws2, rfl, pl6'.more m7, by omega, fun H8 l2 m8 nl2 hl2 => ?_⟩
        refine ⟨by show 2 ≤ sizeLine; decide, fun t2 ht2 => ?_⟩
        have mt := new_more (o := .tup [.ref l, .ref l2]) ht2
        have kt2 : (upd H8 t2 (.tup [.ref l, .ref l2])) t2 = some (.tup [.ref l, .ref l2]) := upd_same
        have hl := mt _ _ (m8 _ _ hl)
        have hl2 := mt _ _ hl2
        have m69 : More H6 (upd H8 t2 (.tup [.ref l, .ref l2])) := fun b o e => mt _ _ (m8 _ _ (m7 _ _ e))
        generalize upd H8 t2 (.tup [.ref l, .ref l2]) = H9 at kt2 hl hl2 m69 ⊢
        refine ⟨t2, _, rfl, SqT.of kt2, rfl, _, _, rfl, _, _, rfl, rfl, ?_⟩
        clear m7 m8 mt nl nl2 ht2 kt2
        -- where they are unlike
        refine ⟨_, rfl, _, rfl, by omega, by omega, fun D hD => ?_⟩
        refine lc_range (lo := 0) (n := N) (fun i H' => H' D = some (.lst ((unl (nBel dss ws v) (nBel dss2 ws2 w2) i).map fun x : Nat => V.int (x : Nat))) ∧ More H9 H') ⟨upd_same, new_more hD⟩ ?_ ?_
        · rintro j HA hj ⟨kA, mA⟩
          rw [Int.zero_add]
          refine ⟨rfl, _, rfl, _, rfl, l, _, _, _, rfl, rfl, SqL.of (mA _ _ hl), atI_nat (at_map (nRow_at (by omega))), _, rfl, _, rfl, l2, _, _, _, rfl, rfl, SqL.of (mA _ _ hl2), atI_nat (at_map (nRow_at (by omega))), rfl, _, rfl, ?_⟩
          have us := unl_succ (nBel dss ws v) (nBel dss2 ws2 w2) j
          by_cases z : nBel dss ws v j = nBel dss2 ws2 w2 j
          · have e0 : (!decide (V.int (nBel dss ws v j) = V.int (nBel dss2 ws2 w2 j))) = false := by rw [deI, decide_eq_true z]; rfl
            rw [if_pos z, List.append_nil] at us
            rw [e0, us]
            exact iteF ⟨kA, mA⟩
          · have e0 : (!decide (V.int (nBel dss ws v j) = V.int (nBel dss2 ws2 w2 j))) = true := by rw [deI, decide_eq_false z]; rfl
            rw [if_neg z] at us
            rw [e0, us]
            have ll := unl_len (nBel dss ws v) (nBel dss2 ws2 w2) j
            refine iteT ⟨_, rfl, _, kA, by rw [List.length_map]; exact small1000 (by omega), ?_, More.at mA hD⟩
            rw [upd_same, List.map_append]
            rfl
        rintro HA ⟨kA, mA⟩
        have m6A : More H6 HA := fun b o e => mA _ _ (m69 _ _ e)
        -- as_many
        refine ⟨_, rfl, a, d, p, dss, ws, rfl, pl6.more m6A, fun HB xa mB maB => ?_⟩
        have m6B : More H6 HB := fun b o e => mB _ _ (m6A _ _ e)
        refine ⟨_, rfl, _, rfl, b, d, p, dss2, ws2, rfl, pl6'.more m6B, fun HC xb mC mbC => ?_⟩
        refine ⟨_, rfl, xa, xb, v, w2, p, p, dss, dss2, ws, ws2, rfl, maB.more mC, mbC, g, g', by omega, .inl ⟨rfl, fun HD mD => ?_⟩⟩
        have mAD : More HA HD := fun b o e => mD _ _ (mC _ _ (mB _ _ e))
        have m6D : More H6 HD := fun b o e => mAD _ _ (m6A _ _ e)
        refine ⟨_, rfl, by show 0 ≤ sizeLine; exact Nat.zero_le _, fun e0 he0 => ?_⟩
        have me := new_more (o := .lst []) he0
        have ke : (upd HD e0 (.lst [])) e0 = some (.lst (([] : List Int).map V.int)) := upd_same
        have kD := me _ _ (mAD _ _ kA)
        have m6E : More H6 (upd HD e0 (.lst [])) := fun b o e => me _ _ (m6D _ _ e)
        generalize upd HD e0 (.lst []) = HE at ke kD m6E ⊢
        rw [map_nat] at kD
        refine ⟨_, _, dp_L (SqL.of kD), dp_L (SqL.of ke), shaped_L _, shaped_L _, _, rfl, ?_⟩
        rw [eqv_L, ← um]
        have fin1 : ∃ (z2 z3 z4 z5 z6 z7 z8 z9 z12 : Option V) (n' : Int), [some (.ref sa), some (.ref d), some (.int (0 + i)), some (.ref b), some (.int v), some (.int w2), some (.int N), some (.ref l), some (.ref l2), some (.ref D), none, none, some (.ref a), none] = [some (.ref sa), some (.ref d), z2, z3, z4, z5, z6, z7, z8, z9, none, none, z12, none] ∧ Stt Pt lamQ d cc n' HE ∧ 0 ≤ n' ∧ n' ≤ 4000 * ((i + 1 : Nat) : Int) ∧
            (0 < i + 1 → ∃ (a : Addr) (p : Int) (dss : List (List Int)) (ws : List Int), z12 = some (.ref a) ∧ PlM HE d a p dss ws ∧ dss.length ≤ 20) :=
          ⟨_, _, _, _, _, _, _, _, _, n6, rfl, st6.more m6E, by omega, by omega, fun _ => ⟨a, p, dss, ws, rfl, pl6.more m6E, few1⟩⟩
        cases hU : unl (nBel dss ws v) (nBel dss2 ws2 w2) N with
        | nil => exact iteF ⟨rfl, _, rfl, iteF fin1⟩
        | cons j r =>
          rw [hU] at kD
          refine iteT ⟨_, rfl, D, _, 0, _, rfl, rfl, SqL.of kD, atI_nat (j := 0) rfl, rfl, _, rfl, ?_⟩
          have e0 : (!decide (headV (j :: r) = V.int (j : Nat))) = false := by
            show (!decide (V.int (j : Nat) = V.int (j : Nat))) = false
            rw [decide_eq_true rfl]
            rfl
          rw [e0]
          exact iteF fin1
      · rintro σ1 H1 ⟨z2, z3, z4, z5, z6, z7, z8, z9, z12, n1, rfl, st1, n10, n11, h⟩
        obtain ⟨a, p, dss, ws, rfl, pl, few⟩ := h (by decide)
        exact ⟨_, _, _, _, _, _, _, _, n1, a, p, dss, ws, rfl, st1, pl, few⟩
    clear st0
    rintro σ1 H1 ⟨z2, z3, z4, z5, z6, z7, z8, z9, n1, a, p, dss, ws, rfl, st1, pl1, few⟩
    -- another base
    refine ⟨fun σ' H' => ∃ (bb : Nat), σ' = [some (.ref sa), some (.ref d), z2, z3, z4, z5, z6, z7, z8, z9, some (.int bb), none, some (.ref a), none] ∧ H' = H1 ∧ (bb = 2 ∨ bb = 3) ∧ p ≠ (bb : Int), ?_, ?_⟩
    · obtain ⟨kvs, M', W, as, h1, h2, h3, h4, h5, h6, h7⟩ := pl1.at_
      refine ⟨_, rfl, a, _, rfl, dg kP h1 h2, rfl, _, rfl, ?_⟩
      rw [deI]
      by_cases e : p = 2
      · rw [decide_eq_true e]
        exact iteT ⟨3, rfl, rfl, .inr rfl, by omega⟩
      · rw [decide_eq_false e]
        exact iteF ⟨2, rfl, rfl, .inl rfl, by omega⟩
    rintro σ2 H2 ⟨bb, rfl, rfl, hbb, nep⟩
    obtain ⟨fg, fs⟩ := far_good hbb
    refine ⟨_, rfl, by show 1 ≤ sizeLine; decide, fun x1 hx1 => ?_⟩
    have m3 := new_more (o := .lst [V.int 0]) hx1
    refine ⟨_, rfl, rep_end (K := K) upd_same (n := bb) rfl (by omega) fun H4 R m4 nR kR => ?_⟩
    refine ⟨by show 1 ≤ sizeLine; decide, fun X hX => ?_⟩
    have m5 := new_more (o := .lst [V.ref R]) hX
    have kX : (upd H4 X (.lst [V.ref R])) X = some (.lst [V.ref R]) := upd_same
    generalize upd H4 X (.lst [V.ref R]) = H5 at m5 kX ⊢
    refine ⟨by show 1 ≤ sizeLine; decide, fun W hW => ?_⟩
    have m6 := new_more (o := .lst [V.int 0]) hW
    have kW' : (upd H5 W (.lst [V.int 0])) W = some (.lst (([0] : List Int).map V.int)) := upd_same
    have kX := m6 _ _ kX
    have kR : (upd H5 W (.lst [V.int 0])) R = some (.lst ((List.replicate bb (0 : Int)).map V.int)) := by rw [m6 _ _ (m5 _ _ kR), List.map_replicate]
    have m26 : More H2 (upd H5 W (.lst [V.int 0])) := fun b o e => m6 _ _ (m5 _ _ (m4 _ _ (m3 _ _ e)))
    generalize upd H5 W (.lst [V.int 0]) = H6 at kX kW' kR m26 ⊢
    clear m3 m4 m5 m6
    refine fun x dx hx hdx ne => ?_
    have m7 : More H6 (upd (upd H6 dx (.own x)) x (.ins C dx [])) := fun b o e => by
      rw [upd_ne (ne_of_none e hx), upd_ne (ne_of_none e hdx)]
      exact e
    refine ⟨x, dx, _, _, _, rfl, upd_same, .inr ⟨bb, _, _, mkOk fg fs (.inl (SqL.of (m7 _ _ kX))) (.cons ⟨R, rfl, .inl (SqL.of (m7 _ _ kR))⟩ .nil) (.inl (SqL.of (m7 _ _ kW'))), fun H8 of8 ma8 => ⟨rfl, ?_⟩⟩⟩
    have m28 : More H2 H8 := fun b o e => of8 _ _ (m7 _ _ (m26 _ _ e)) (ne_of_none (m26 _ _ e) hx)
    have st8 := st1.more m28
    have pl8 := pl1.more m28
    have g := pl1.good
    clear st1 pl1 m7 m28 m26 of8
    -- why
    refine ⟨st8.tab, fun H9 eN tN t0 ht0 => ?_⟩
    have g0 : Go d H8 (upd H9 t0 (.tup [.str "none"])) := go_new (Go.ext eN) ht0
    have pl9 := plm_go pl8 g0 st8.pen.isd
    have ma9 := mat_go g0 st8.pen.isd ma8
    generalize upd H9 t0 (.tup [.str "none"]) = HA at g0 pl9 ma9 ⊢
    refine ⟨_, rfl, a, d, p, dss, ws, rfl, pl9, fun HB xa mB maB => ?_⟩
    refine ⟨_, rfl, xa, x, 0, 0, p, bb, dss, _, ws, _, rfl, maB, ma9.more mB, g, fg, by show dss.length + 1 ≤ _; omega, .inr ⟨nep, fun dd hdd => .inr (.inr ⟨rfl, dd, _, rfl, upd_same, fun tt htt => ?_⟩)⟩⟩
    have ktt : (upd (upd HB dd (.xd [("what", .str "p")])) tt (.tup [.str "unlike", .str "p"])) tt = some (.tup [.str "unlike", .str "p"]) := upd_same
    generalize upd (upd HB dd (.xd [("what", .str "p")])) tt (.tup [.str "unlike", .str "p"]) = HC at ktt ⊢
    refine ⟨(by show 2 ≤ sizeLine; decide), fun t5 ht5 => ?_⟩
    exact ⟨tt, t5, [.str "unlike", .str "p"], rfl, rfl, SqT.of (new_more ht5 _ _ ktt), SqT.of upd_same, rfl, fin _⟩
end
end K78

namespace K78
open PySem L2 Gd B5
/-! ### what the top has written -/
structure ErIn (K : PySem.W.Frag) (x : Str) (C : Addr) : Prop where
  aC : PySem.W.nsIn K mainGlobals x = some (some (.ref C))
  kC : PySem.W.keepIn K (.ref C) = true
  ga : PySem.W.findIn K (.ref C) "__getattribute__" = some (some (.builtin "BaseException.__getattribute__"))
  gg : PySem.W.findIn K (.ref C) "__getattr__" = some none
  be : PySem.W.subIn K (.ref C) (.type "BaseException") = some true
  hd : PySem.W.hasDictIn K C = true
structure IniIn (K : PySem.W.Frag) (q : Str) (st : Stmt) (C fI : Addr) (oc kV dc pm cd ct : Value) (od an : Option Addr) (sl : Array (Option Value)) (nm q' : Str) (N : Addr) (bs : List Value) (ce : Addr) (sn : List Str) (sub : List Value) (ab : Bool) (col : Option Bool) (dd : Option Addr) (m0 m1 m2 m3 m5 : Option Value) : Prop where
  xL : K.lookup C = some (excClassObj nm q' C N bs [.ref ce, .type "ValueError", .type "Exception", .type "BaseException", .type "object"] true sn sub ab col dd m0 m1 m2 m3 m5 "ValueError.__new__")
  sa : PySem.W.findIn K (.ref C) "__setattr__" = some (some (.builtin "object.__setattr__"))
  tC : PySem.W.typeIn K (.ref C) = some (.type "type")
  iC : PySem.W.findIn K (.ref C) "__init__" = some (some (.ref fI))
  tI : PySem.W.typeIn K (.ref fI) = some (.type "function")
  lI : K.lookup fI = some ⟨oc, od, .func (PySem.W.fnOf "__init__" q (defArgs st) (defBody st) (defScope st) .none kV dc pm an cd ct), sl⟩
  cI : PySem.W.codeIn K cd q = true
  kI : PySem.W.keepIn K (.ref fI) = true
theorem er_of {K : PySem.W.Frag} {h : Heap} {mg : Str → Option Value} (X : K.In h) (G : h.Ns mainGlobals mg) {x q : Str} {st : Stmt} {fs : List Str} {C fI : Addr} {oc kV dc pm cd ct : Value} {od an : Option Addr} {sl : Array (Option Value)} {nm q' : Str} {N : Addr} {bs : List Value} {ce : Addr} {sn : List Str} {sub : List Value} {ab : Bool} {col : Option Bool} {dd : Option Addr} {m0 m1 m2 m3 m5 : Option Value}
    (E : ErIn K x C) (I : IniIn K q st C fI oc kV dc pm cd ct od an sl nm q' N bs ce sn sub ab col dd m0 m1 m2 m3 m5) (no : ∀ g ∈ fs, PySem.W.findIn K (.ref C) g = some none)
    (b : ∀ (kV doc pm : Value) (an : Option Addr) (cdv ct : Value) (us : List Value), us.length = (("self" : Str) :: fs).length → bindArgs (PySem.W.fnOf "__init__" q (defArgs st) (defBody st) (defScope st) .none kV doc pm an cdv ct) ⟨us, []⟩ = pure ((("self" : Str) :: fs).zip us)) :
    Er K mg x q C fI fs st (PySem.W.fnOf "__init__" q (defArgs st) (defBody st) (defScope st) .none kV dc pm an cd ct) := by
  have F := fun_mk (st := st) I.lI I.cI I.kI
  exact ⟨⟨⟨nm, q', N, bs, _, sn, sub, ab, col, dd, m0, m1, m2, m3, m5, I.xL, by show PySem.HandSPX.refsVE [.type "ValueError", .type "Exception", .type "BaseException", .type "object"] = true; decide +kernel⟩, I.sa, E.be, I.tC, E.kC⟩, I.iC, I.tI, F, F.binds b, no, PySem.W.mg_of X G E.aC⟩
theorem all_mk {l : PySem.W.OpenLaw} {w : World} {K : PySem.W.Frag} {h : Heap} {mg : Str → Option Value} {fa gLaw CN CR CU CL C D CT CM ce c Pt : Addr} (X : K.In h) (G : h.Ns mainGlobals mg) (hfa : mg "law" = some (.ref fa))
    {i0 : Addr} {oc0 kV0 dc0 pm0 cd0 ct0 : Value} {od0 an0 : Option Addr} {sl0 : Array (Option Value)} {nm0 q0 : Str} {N0 : Addr} {bs0 : List Value} {sn0 : List Str} {sub0 : List Value} {ab0 : Bool} {col0 : Option Bool} {dd0 : Option Addr} {m00 m10 m20 m30 m50 : Option Value}
    {i1 : Addr} {oc1 kV1 dc1 pm1 cd1 ct1 : Value} {od1 an1 : Option Addr} {sl1 : Array (Option Value)} {nm1 q1 : Str} {N1 : Addr} {bs1 : List Value} {sn1 : List Str} {sub1 : List Value} {ab1 : Bool} {col1 : Option Bool} {dd1 : Option Addr} {m01 m11 m21 m31 m51 : Option Value}
    {i2 : Addr} {oc2 kV2 dc2 pm2 cd2 ct2 : Value} {od2 an2 : Option Addr} {sl2 : Array (Option Value)} {nm2 q2 : Str} {N2 : Addr} {bs2 : List Value} {sn2 : List Str} {sub2 : List Value} {ab2 : Bool} {col2 : Option Bool} {dd2 : Option Addr} {m02 m12 m22 m32 m52 : Option Value}
    {i3 : Addr} {oc3 kV3 dc3 pm3 cd3 ct3 : Value} {od3 an3 : Option Addr} {sl3 : Array (Option Value)} {nm3 q3 : Str} {N3 : Addr} {bs3 : List Value} {sn3 : List Str} {sub3 : List Value} {ab3 : Bool} {col3 : Option Bool} {dd3 : Option Addr} {m03 m13 m23 m33 m53 : Option Value}
    {gf0 : Addr} {oodf0 oanf0 : Option Addr} {oslf0 : Array (Option Value)} {oocf0 okVf0 odcf0 opmf0 ocdf0 octf0 : Value}
    {gf1 : Addr} {oodf1 oanf1 : Option Addr} {oslf1 : Array (Option Value)} {oocf1 okVf1 odcf1 opmf1 ocdf1 octf1 : Value}
    {gf2 : Addr} {oodf2 oanf2 : Option Addr} {oslf2 : Array (Option Value)} {oocf2 okVf2 odcf2 opmf2 ocdf2 octf2 : Value}
    {gf3 : Addr} {oodf3 oanf3 : Option Addr} {oslf3 : Array (Option Value)} {oocf3 okVf3 odcf3 opmf3 ocdf3 octf3 : Value}
    {gf4 : Addr} {oodf4 oanf4 : Option Addr} {oslf4 : Array (Option Value)} {oocf4 okVf4 odcf4 opmf4 ocdf4 octf4 : Value}
    {gf5 : Addr} {oodf5 oanf5 : Option Addr} {oslf5 : Array (Option Value)} {oocf5 okVf5 odcf5 opmf5 ocdf5 octf5 : Value}
    {gf6 : Addr} {oodf6 oanf6 : Option Addr} {oslf6 : Array (Option Value)} {oocf6 okVf6 odcf6 opmf6 ocdf6 octf6 : Value}
    {gf7 : Addr} {oodf7 oanf7 : Option Addr} {oslf7 : Array (Option Value)} {oocf7 okVf7 odcf7 opmf7 ocdf7 octf7 : Value}
    {gf8 : Addr} {oodf8 oanf8 : Option Addr} {oslf8 : Array (Option Value)} {oocf8 okVf8 odcf8 opmf8 ocdf8 octf8 : Value}
    {gf9 : Addr} {oodf9 oanf9 : Option Addr} {oslf9 : Array (Option Value)} {oocf9 okVf9 odcf9 opmf9 ocdf9 octf9 : Value}
    {gf10 : Addr} {oodf10 oanf10 : Option Addr} {oslf10 : Array (Option Value)} {oocf10 okVf10 odcf10 opmf10 ocdf10 octf10 : Value}
    {gf11 : Addr} {oodf11 oanf11 : Option Addr} {oslf11 : Array (Option Value)} {oocf11 okVf11 odcf11 opmf11 ocdf11 octf11 : Value}
    {gf12 : Addr} {oodf12 oanf12 : Option Addr} {oslf12 : Array (Option Value)} {oocf12 okVf12 odcf12 opmf12 ocdf12 octf12 : Value}
    {gf13 : Addr} {oodf13 oanf13 : Option Addr} {oslf13 : Array (Option Value)} {oocf13 okVf13 odcf13 opmf13 ocdf13 octf13 : Value}
    {gf14 : Addr} {oodf14 oanf14 : Option Addr} {oslf14 : Array (Option Value)} {oocf14 okVf14 odcf14 opmf14 ocdf14 octf14 : Value}
    {gf15 : Addr} {oodf15 oanf15 : Option Addr} {oslf15 : Array (Option Value)} {oocf15 okVf15 odcf15 opmf15 ocdf15 octf15 : Value}
    {gf16 : Addr} {oodf16 oanf16 : Option Addr} {oslf16 : Array (Option Value)} {oocf16 okVf16 odcf16 opmf16 ocdf16 octf16 : Value}
    {gf17 : Addr} {oodf17 oanf17 : Option Addr} {oslf17 : Array (Option Value)} {oocf17 okVf17 odcf17 opmf17 ocdf17 octf17 : Value}
    {gf18 : Addr} {oodf18 oanf18 : Option Addr} {oslf18 : Array (Option Value)} {oocf18 okVf18 odcf18 opmf18 ocdf18 octf18 : Value}
    {gf19 : Addr} {oodf19 oanf19 : Option Addr} {oslf19 : Array (Option Value)} {oocf19 okVf19 odcf19 opmf19 ocdf19 octf19 : Value}
    {gf20 : Addr} {oodf20 oanf20 : Option Addr} {oslf20 : Array (Option Value)} {oocf20 okVf20 odcf20 opmf20 ocdf20 octf20 : Value}
    {gf21 : Addr} {oodf21 oanf21 : Option Addr} {oslf21 : Array (Option Value)} {oocf21 okVf21 odcf21 opmf21 ocdf21 octf21 : Value}
    {gf22 : Addr} {oodf22 oanf22 : Option Addr} {oslf22 : Array (Option Value)} {oocf22 okVf22 odcf22 opmf22 ocdf22 octf22 : Value}
    {gf23 : Addr} {oodf23 oanf23 : Option Addr} {oslf23 : Array (Option Value)} {oocf23 okVf23 odcf23 opmf23 ocdf23 octf23 : Value}
    {gf24 : Addr} {oodf24 oanf24 : Option Addr} {oslf24 : Array (Option Value)} {oocf24 okVf24 odcf24 opmf24 ocdf24 octf24 : Value}
    {gm0_0 : Addr} {oodm0_0 oanm0_0 : Option Addr} {oslm0_0 : Array (Option Value)} {oocm0_0 okVm0_0 odcm0_0 opmm0_0 ocdm0_0 octm0_0 : Value}
    {oodF oanF : Option Addr} {oslF : Array (Option Value)} {oocF okVF odcF opmF octF : Value}
    (e0 : ErIn K "BadNumber" CN)
    (j0 : IniIn K "BadNumber.__init__" sBadNumber CN i0 oc0 kV0 dc0 pm0 cd0 ct0 od0 an0 sl0 nm0 q0 N0 bs0 ce sn0 sub0 ab0 col0 dd0 m00 m10 m20 m30 m50)
    (n0_0 : PySem.W.findIn K (.ref CN) "what" = some none)
    (n0_1 : PySem.W.findIn K (.ref CN) "number" = some none)
    (e1 : ErIn K "BadRow" CR)
    (j1 : IniIn K "BadRow.__init__" sBadRow CR i1 oc1 kV1 dc1 pm1 cd1 ct1 od1 an1 sl1 nm1 q1 N1 bs1 ce sn1 sub1 ab1 col1 dd1 m01 m11 m21 m31 m51)
    (n1_0 : PySem.W.findIn K (.ref CR) "row" = some none)
    (e2 : ErIn K "Unlike" CU)
    (j2 : IniIn K "Unlike.__init__" sUnlike CU i2 oc2 kV2 dc2 pm2 cd2 ct2 od2 an2 sl2 nm2 q2 N2 bs2 ce sn2 sub2 ab2 col2 dd2 m02 m12 m22 m32 m52)
    (n2_0 : PySem.W.findIn K (.ref CU) "what" = some none)
    (e3 : ErIn K "TooLarge" CL)
    (j3 : IniIn K "TooLarge.__init__" sTooLarge CL i3 oc3 kV3 dc3 pm3 cd3 ct3 od3 an3 sl3 nm3 q3 N3 bs3 ce sn3 sub3 ab3 col3 dd3 m03 m13 m23 m33 m53)
    (n3_0 : PySem.W.findIn K (.ref CL) "what" = some none)
    (n3_1 : PySem.W.findIn K (.ref CL) "number" = some none)
    (n3_2 : PySem.W.findIn K (.ref CL) "limit" = some none)
    (aC0 : PySem.W.nsIn K mainGlobals "Machine" = some (some (.ref C)))
    (pg0 : PySem.W.plainGet K C Str.empty = true)
    (hd0 : PySem.W.hasDictIn K C = true)
    (po0 : PySem.W.plainOver K C = true)
    (sa0 : PySem.W.findIn K (.ref C) "__setattr__" = some (some (.builtin "object.__setattr__")))
    (ha0 : PySem.W.findIn K (.ref C) "__class__" = some (some (.builtin "object.__class__")))
    (hn0 : PySem.W.specialIn K (.builtin "object.__class__") "__get__" = some (some (.builtin "getset_descriptor.__get__")))
    (ht0 : PySem.W.takesIn K (.builtin "object.__class__") = some true)
    (hm0 : PySem.W.mroIn K C (.type "object") = some true)
    (me0 : PySem.W.kitOne K (.ref C) (.ref C) = some true)
    (at0_0 : PySem.W.findIn K (.ref C) "p" = some none)
    (at0_1 : PySem.W.findIn K (.ref C) "moves" = some none)
    (at0_2 : PySem.W.findIn K (.ref C) "worths" = some none)
    (at0_3 : PySem.W.findIn K (.ref C) "size" = some none)
    (no0_int : PySem.W.kitOne K (.type "int") (.ref C) = some false)
    (no0_bool : PySem.W.kitOne K (.type "bool") (.ref C) = some false)
    (no0_NoneType : PySem.W.kitOne K (.type "NoneType") (.ref C) = some false)
    (no0_str : PySem.W.kitOne K (.type "str") (.ref C) = some false)
    (no0_list : PySem.W.kitOne K (.type "list") (.ref C) = some false)
    (no0_tuple : PySem.W.kitOne K (.type "tuple") (.ref C) = some false)
    (no0_dict : PySem.W.kitOne K (.type "dict") (.ref C) = some false)
    (ni0 : PySem.W.kitOne K (.ref C) (.type "int") = some false)
    (mk0 : PySem.W.makesIn K C = true)
    (kp0 : PySem.W.keepIn K (.ref C) = true)
    (af0 : PySem.W.nsIn K mainGlobals "is_integer" = some (some (.ref gf0)))
    (lf0 : K.lookup gf0 = some ⟨oocf0, oodf0, .func (PySem.W.fnOf "is_integer" "is_integer" (defArgs sIsI) (defBody sIsI) (defScope sIsI) .none okVf0 odcf0 opmf0 oanf0 ocdf0 octf0), oslf0⟩)
    (cf0 : PySem.W.codeIn K ocdf0 "is_integer" = true)
    (kf0 : PySem.W.keepIn K (.ref gf0) = true)
    (af1 : PySem.W.nsIn K mainGlobals "is_integers" = some (some (.ref gf1)))
    (lf1 : K.lookup gf1 = some ⟨oocf1, oodf1, .func (PySem.W.fnOf "is_integers" "is_integers" (defArgs sIsIs) (defBody sIsIs) (defScope sIsIs) .none okVf1 odcf1 opmf1 oanf1 ocdf1 octf1), oslf1⟩)
    (cf1 : PySem.W.codeIn K ocdf1 "is_integers" = true)
    (kf1 : PySem.W.keepIn K (.ref gf1) = true)
    (af2 : PySem.W.nsIn K mainGlobals "is_row" = some (some (.ref gf2)))
    (lf2 : K.lookup gf2 = some ⟨oocf2, oodf2, .func (PySem.W.fnOf "is_row" "is_row" (defArgs sRow) (defBody sRow) (defScope sRow) .none okVf2 odcf2 opmf2 oanf2 ocdf2 octf2), oslf2⟩)
    (cf2 : PySem.W.codeIn K ocdf2 "is_row" = true)
    (kf2 : PySem.W.keepIn K (.ref gf2) = true)
    (af3 : PySem.W.nsIn K mainGlobals "ways_on" = some (some (.ref gf3)))
    (lf3 : K.lookup gf3 = some ⟨oocf3, oodf3, .func (PySem.W.fnOf "ways_on" "ways_on" (defArgs sWon) (defBody sWon) (defScope sWon) .none okVf3 odcf3 opmf3 oanf3 ocdf3 octf3), oslf3⟩)
    (cf3 : PySem.W.codeIn K ocdf3 "ways_on" = true)
    (kf3 : PySem.W.keepIn K (.ref gf3) = true)
    (af4 : PySem.W.nsIn K mainGlobals "check_prime" = some (some (.ref gf4)))
    (lf4 : K.lookup gf4 = some ⟨oocf4, oodf4, .func (PySem.W.fnOf "check_prime" "check_prime" (defArgs sCP) (defBody sCP) (defScope sCP) .none okVf4 odcf4 opmf4 oanf4 ocdf4 octf4), oslf4⟩)
    (cf4 : PySem.W.codeIn K ocdf4 "check_prime" = true)
    (kf4 : PySem.W.keepIn K (.ref gf4) = true)
    (af5 : PySem.W.nsIn K mainGlobals "dot" = some (some (.ref gf5)))
    (lf5 : K.lookup gf5 = some ⟨oocf5, oodf5, .func (PySem.W.fnOf "dot" "dot" (defArgs sDot) (defBody sDot) (defScope sDot) .none okVf5 odcf5 opmf5 oanf5 ocdf5 octf5), oslf5⟩)
    (cf5 : PySem.W.codeIn K ocdf5 "dot" = true)
    (kf5 : PySem.W.keepIn K (.ref gf5) = true)
    (af6 : PySem.W.nsIn K mainGlobals "check_machine" = some (some (.ref gf6)))
    (lf6 : K.lookup gf6 = some ⟨oocf6, oodf6, .func (PySem.W.fnOf "check_machine" "check_machine" (defArgs sCM) (defBody sCM) (defScope sCM) .none okVf6 odcf6 opmf6 oanf6 ocdf6 octf6), oslf6⟩)
    (cf6 : PySem.W.codeIn K ocdf6 "check_machine" = true)
    (kf6 : PySem.W.keepIn K (.ref gf6) = true)
    (af7 : PySem.W.nsIn K mainGlobals "check_bases" = some (some (.ref gf7)))
    (lf7 : K.lookup gf7 = some ⟨oocf7, oodf7, .func (PySem.W.fnOf "check_bases" "check_bases" (defArgs sCb) (defBody sCb) (defScope sCb) .none okVf7 odcf7 opmf7 oanf7 ocdf7 octf7), oslf7⟩)
    (cf7 : PySem.W.codeIn K ocdf7 "check_bases" = true)
    (kf7 : PySem.W.keepIn K (.ref gf7) = true)
    (af8 : PySem.W.nsIn K mainGlobals "numbers_by_digits" = some (some (.ref gf8)))
    (lf8 : K.lookup gf8 = some ⟨oocf8, oodf8, .func (PySem.W.fnOf "numbers_by_digits" "numbers_by_digits" (defArgs sNbd) (defBody sNbd) (defScope sNbd) .none okVf8 odcf8 opmf8 oanf8 ocdf8 octf8), oslf8⟩)
    (cf8 : PySem.W.codeIn K ocdf8 "numbers_by_digits" = true)
    (kf8 : PySem.W.keepIn K (.ref gf8) = true)
    (af9 : PySem.W.nsIn K mainGlobals "as_many" = some (some (.ref gf9)))
    (lf9 : K.lookup gf9 = some ⟨oocf9, oodf9, .func (PySem.W.fnOf "as_many" "as_many" (defArgs sAm) (defBody sAm) (defScope sAm) .none okVf9 odcf9 opmf9 oanf9 ocdf9 octf9), oslf9⟩)
    (cf9 : PySem.W.codeIn K ocdf9 "as_many" = true)
    (kf9 : PySem.W.keepIn K (.ref gf9) = true)
    (af10 : PySem.W.nsIn K mainGlobals "ways_by_digits" = some (some (.ref gf10)))
    (lf10 : K.lookup gf10 = some ⟨oocf10, oodf10, .func (PySem.W.fnOf "ways_by_digits" "ways_by_digits" (defArgs sWbd) (defBody sWbd) (defScope sWbd) .none okVf10 odcf10 opmf10 oanf10 ocdf10 octf10), oslf10⟩)
    (cf10 : PySem.W.codeIn K ocdf10 "ways_by_digits" = true)
    (kf10 : PySem.W.keepIn K (.ref gf10) = true)
    (af11 : PySem.W.nsIn K mainGlobals "marks_of" = some (some (.ref gf11)))
    (lf11 : K.lookup gf11 = some ⟨oocf11, oodf11, .func (PySem.W.fnOf "marks_of" "marks_of" (defArgs sMks) (defBody sMks) (defScope sMks) .none okVf11 odcf11 opmf11 oanf11 ocdf11 octf11), oslf11⟩)
    (cf11 : PySem.W.codeIn K ocdf11 "marks_of" = true)
    (kf11 : PySem.W.keepIn K (.ref gf11) = true)
    (af12 : PySem.W.nsIn K mainGlobals "_law_pen" = some (some (.ref gf12)))
    (lf12 : K.lookup gf12 = some ⟨oocf12, oodf12, .func (PySem.W.fnOf "_law_pen" "_law_pen" (defArgs sPen) (defBody sPen) (defScope sPen) .none okVf12 odcf12 opmf12 oanf12 ocdf12 octf12), oslf12⟩)
    (cf12 : PySem.W.codeIn K ocdf12 "_law_pen" = true)
    (kf12 : PySem.W.keepIn K (.ref gf12) = true)
    (af13 : PySem.W.nsIn K mainGlobals "_law_draw" = some (some (.ref gf13)))
    (lf13 : K.lookup gf13 = some ⟨oocf13, oodf13, .func (PySem.W.fnOf "_law_draw" "_law_draw" (defArgs sDraw) (defBody sDraw) (defScope sDraw) .none okVf13 odcf13 opmf13 oanf13 ocdf13 octf13), oslf13⟩)
    (cf13 : PySem.W.codeIn K ocdf13 "_law_draw" = true)
    (kf13 : PySem.W.keepIn K (.ref gf13) = true)
    (af14 : PySem.W.nsIn K mainGlobals "_law_pick" = some (some (.ref gf14)))
    (lf14 : K.lookup gf14 = some ⟨oocf14, oodf14, .func (PySem.W.fnOf "_law_pick" "_law_pick" (defArgs sPick) (defBody sPick) (defScope sPick) .none okVf14 odcf14 opmf14 oanf14 ocdf14 octf14), oslf14⟩)
    (cf14 : PySem.W.codeIn K ocdf14 "_law_pick" = true)
    (kf14 : PySem.W.keepIn K (.ref gf14) = true)
    (af15 : PySem.W.nsIn K mainGlobals "_law_why" = some (some (.ref gf15)))
    (lf15 : K.lookup gf15 = some ⟨oocf15, oodf15, .func (PySem.W.fnOf "_law_why" "_law_why" (defArgs sWhy) (defBody sWhy) (defScope sWhy) .none okVf15 odcf15 opmf15 oanf15 ocdf15 octf15), oslf15⟩)
    (cf15 : PySem.W.codeIn K ocdf15 "_law_why" = true)
    (kf15 : PySem.W.keepIn K (.ref gf15) = true)
    (af16 : PySem.W.nsIn K mainGlobals "_law_machine" = some (some (.ref gf16)))
    (lf16 : K.lookup gf16 = some ⟨oocf16, oodf16, .func (PySem.W.fnOf "_law_machine" "_law_machine" (defArgs sLm) (defBody sLm) (defScope sLm) .none okVf16 odcf16 opmf16 oanf16 ocdf16 octf16), oslf16⟩)
    (cf16 : PySem.W.codeIn K ocdf16 "_law_machine" = true)
    (kf16 : PySem.W.keepIn K (.ref gf16) = true)
    (af17 : PySem.W.nsIn K mainGlobals "_law_known_machine" = some (some (.ref gf17)))
    (lf17 : K.lookup gf17 = some ⟨oocf17, oodf17, .func (PySem.W.fnOf "_law_known_machine" "_law_known_machine" (defArgs sKn) (defBody sKn) (defScope sKn) .none okVf17 odcf17 opmf17 oanf17 ocdf17 octf17), oslf17⟩)
    (cf17 : PySem.W.codeIn K ocdf17 "_law_known_machine" = true)
    (kf17 : PySem.W.keepIn K (.ref gf17) = true)
    (af18 : PySem.W.nsIn K mainGlobals "_law_planned_machine" = some (some (.ref gf18)))
    (lf18 : K.lookup gf18 = some ⟨oocf18, oodf18, .func (PySem.W.fnOf "_law_planned_machine" "_law_planned_machine" (defArgs sPl) (defBody sPl) (defScope sPl) .none okVf18 odcf18 opmf18 oanf18 ocdf18 octf18), oslf18⟩)
    (cf18 : PySem.W.codeIn K ocdf18 "_law_planned_machine" = true)
    (kf18 : PySem.W.keepIn K (.ref gf18) = true)
    (af19 : PySem.W.nsIn K mainGlobals "_law_made" = some (some (.ref gf19)))
    (lf19 : K.lookup gf19 = some ⟨oocf19, oodf19, .func (PySem.W.fnOf "_law_made" "_law_made" (defArgs sMd) (defBody sMd) (defScope sMd) .none okVf19 odcf19 opmf19 oanf19 ocdf19 octf19), oslf19⟩)
    (cf19 : PySem.W.codeIn K ocdf19 "_law_made" = true)
    (kf19 : PySem.W.keepIn K (.ref gf19) = true)
    (af20 : PySem.W.nsIn K mainGlobals "_law_words_to" = some (some (.ref gf20)))
    (lf20 : K.lookup gf20 = some ⟨oocf20, oodf20, .func (PySem.W.fnOf "_law_words_to" "_law_words_to" (defArgs sWt) (defBody sWt) (defScope sWt) .none okVf20 odcf20 opmf20 oanf20 ocdf20 octf20), oslf20⟩)
    (cf20 : PySem.W.codeIn K ocdf20 "_law_words_to" = true)
    (kf20 : PySem.W.keepIn K (.ref gf20) = true)
    (af21 : PySem.W.nsIn K mainGlobals "_law_count_of" = some (some (.ref gf21)))
    (lf21 : K.lookup gf21 = some ⟨oocf21, oodf21, .func (PySem.W.fnOf "_law_count_of" "_law_count_of" (defArgs sCo) (defBody sCo) (defScope sCo) .none okVf21 odcf21 opmf21 oanf21 ocdf21 octf21), oslf21⟩)
    (cf21 : PySem.W.codeIn K ocdf21 "_law_count_of" = true)
    (kf21 : PySem.W.keepIn K (.ref gf21) = true)
    (af22 : PySem.W.nsIn K mainGlobals "_law_shuffled" = some (some (.ref gf22)))
    (lf22 : K.lookup gf22 = some ⟨oocf22, oodf22, .func (PySem.W.fnOf "_law_shuffled" "_law_shuffled" (defArgs sSf) (defBody sSf) (defScope sSf) .none okVf22 odcf22 opmf22 oanf22 ocdf22 octf22), oslf22⟩)
    (cf22 : PySem.W.codeIn K ocdf22 "_law_shuffled" = true)
    (kf22 : PySem.W.keepIn K (.ref gf22) = true)
    (af23 : PySem.W.nsIn K mainGlobals "_law_late" = some (some (.ref gf23)))
    (lf23 : K.lookup gf23 = some ⟨oocf23, oodf23, .func (PySem.W.fnOf "_law_late" "_law_late" (defArgs sLt) (defBody sLt) (defScope sLt) .none okVf23 odcf23 opmf23 oanf23 ocdf23 octf23), oslf23⟩)
    (cf23 : PySem.W.codeIn K ocdf23 "_law_late" = true)
    (kf23 : PySem.W.keepIn K (.ref gf23) = true)
    (af24 : PySem.W.nsIn K mainGlobals "_law_pair" = some (some (.ref gf24)))
    (lf24 : K.lookup gf24 = some ⟨oocf24, oodf24, .func (PySem.W.fnOf "_law_pair" "_law_pair" (defArgs sPr) (defBody sPr) (defScope sPr) .none okVf24 odcf24 opmf24 oanf24 ocdf24 octf24), oslf24⟩)
    (cf24 : PySem.W.codeIn K ocdf24 "_law_pair" = true)
    (kf24 : PySem.W.keepIn K (.ref gf24) = true)
    (fcm0_0 : PySem.W.findIn K (.ref C) "__init__" = some (some (.ref gm0_0)))
    (fnm0_0 : PySem.W.isFn K (.ref gm0_0) = true)
    (lm0_0 : K.lookup gm0_0 = some ⟨oocm0_0, oodm0_0, .func (PySem.W.fnOf "__init__" "Machine.__init__" (defArgs sMI) (defBody sMI) (defScope sMI) .none okVm0_0 odcm0_0 opmm0_0 oanm0_0 ocdm0_0 octm0_0), oslm0_0⟩)
    (cm0_0 : PySem.W.codeIn K ocdm0_0 "Machine.__init__" = true)
    (km0_0 : PySem.W.keepIn K (.ref gm0_0) = true)
    (aF : PySem.W.nsIn K mainGlobals "law" = some (some (.ref gLaw)))
    (lF : K.lookup gLaw = some ⟨oocF, oodF, .func (PySem.W.fnOf "law" "law" (defArgs sLaw) (defBody sLaw) (defScope sLaw) .none okVF odcF opmF oanF (.ref c) octF), oslF⟩)
    (cF : PySem.W.codeIn K (.ref c) "law" = true)
    (nP0 : K.lookup Pt = none)
    (hP0 : PySem.W.codeHdIn K c Pt = true)
    (ac0 : PySem.W.nsIn K mainGlobals "PRIMES" = some (some (.ref D)))
    (kc0 : tupI K (.ref D) = some [2, 3, 5, 7])
    (ac1 : PySem.W.nsIn K mainGlobals "BadText" = some (some (.ref CT)))
    (kc1 : PySem.W.findIn K (.ref CT) "column" = some none)
    (ac2 : PySem.W.nsIn K mainGlobals "TooMany" = some (some (.ref CM)))
    (kc2 : PySem.W.findIn K (.ref CM) "what" = some none)
    (z_int : PySem.W.nsIn K mainGlobals "int" = some none)
    (z_bool : PySem.W.nsIn K mainGlobals "bool" = some none)
    (z_tuple : PySem.W.nsIn K mainGlobals "tuple" = some none)
    (z_len : PySem.W.nsIn K mainGlobals "len" = some none)
    (z_list : PySem.W.nsIn K mainGlobals "list" = some none)
    (z_range : PySem.W.nsIn K mainGlobals "range" = some none)
    (z_isinstance : PySem.W.nsIn K mainGlobals "isinstance" = some none)
    (z_repr : PySem.W.nsIn K mainGlobals "repr" = some none)
    (z_all : PySem.W.nsIn K mainGlobals "all" = some none)
    (z_divmod : PySem.W.nsIn K mainGlobals "divmod" = some none)
    (z_reversed : PySem.W.nsIn K mainGlobals "reversed" = some none)
    (z_any : PySem.W.nsIn K mainGlobals "any" = some none)
    (z_zip : PySem.W.nsIn K mainGlobals "zip" = some none)
    (z_min : PySem.W.nsIn K mainGlobals "min" = some none)
    (z_sum : PySem.W.nsIn K mainGlobals "sum" = some none)
    (xnt : PySem.W.exmOne K (.ref CN) (.ref CT) = some false)
    (xnn : PySem.W.exmOne K (.ref CN) (.ref CN) = some true)
    (xlt : PySem.W.exmOne K (.ref CL) (.ref CT) = some false)
    (xln : PySem.W.exmOne K (.ref CL) (.ref CN) = some false)
    (xll : PySem.W.exmOne K (.ref CL) (.ref CL) = some true)
    (xut : PySem.W.exmOne K (.ref CU) (.ref CT) = some false)
    (xun : PySem.W.exmOne K (.ref CU) (.ref CN) = some false)
    (xul : PySem.W.exmOne K (.ref CU) (.ref CL) = some false)
    (xum : PySem.W.exmOne K (.ref CU) (.ref CM) = some false)
    (xur : PySem.W.exmOne K (.ref CU) (.ref CR) = some false)
    (xuu : PySem.W.exmOne K (.ref CU) (.ref CU) = some true)
    (xTa : PySem.W.findIn K (.ref CT) "__getattribute__" = some (some (.builtin "BaseException.__getattribute__")))
    (xTb : PySem.W.findIn K (.ref CT) "__getattr__" = some none)
    (xTc : PySem.W.subIn K (.ref CT) (.type "BaseException") = some true)
    (xTd : PySem.W.hasDictIn K CT = true)
    (xMa : PySem.W.findIn K (.ref CM) "__getattribute__" = some (some (.builtin "BaseException.__getattribute__")))
    (xMb : PySem.W.findIn K (.ref CM) "__getattr__" = some none)
    (xMc : PySem.W.subIn K (.ref CM) (.type "BaseException") = some true)
    (xMd : PySem.W.hasDictIn K CM = true)
    (xMl : PySem.W.findIn K (.ref CM) "limit" = some none)
    : (∀ p ∈ [(c, Pt)], K.lookup p.2 = none ∧ PySem.W.codeHdIn K p.1 p.2 = true) ∧ ∃ fd : FuncData, (∀ (s : Shared) (u : Value), BindsTo s fd ⟨[u], []⟩ [("_law_script", u)]) ∧
      ∀ base : Heap, K.In base → base.Ns mainGlobals mg → (∀ p ∈ [(c, Pt)], LamX.TabB base mg p.1 p.2) → FnG l.prog w K mg base CX0 10 fa fd ["_law_script"] (spLaw K Pt) := by
  have e := hfa.symm.trans (PySem.W.mg_of X G aF)
  cases e
  refine ⟨fun p hp => ?_, PySem.W.fnOf "law" "law" (defArgs sLaw) (defBody sLaw) (defScope sLaw) .none okVF odcF opmF oanF (.ref c) octF, fun s v => .of_eq rfl, fun base _ _ TB => ?_⟩
  · obtain rfl | hp := List.mem_cons.mp hp
    · exact ⟨nP0, hP0⟩
    · exact (List.not_mem_nil hp).elim
  have Ff0 := fun_mk (st := sIsI) lf0 cf0 kf0
  have E_is_integer : Cl K mg "is_integer" sIsI ["value"] gf0 _ := ⟨Ff0, Ff0.binds (ps := ["value"]) (fun _ _ _ _ _ _ us hl => match us, hl with | [_], _ => rfl), PySem.W.mg_of X G af0⟩
  have Ff1 := fun_mk (st := sIsIs) lf1 cf1 kf1
  have E_is_integers : Cl K mg "is_integers" sIsIs ["value"] gf1 _ := ⟨Ff1, Ff1.binds (ps := ["value"]) (fun _ _ _ _ _ _ us hl => match us, hl with | [_], _ => rfl), PySem.W.mg_of X G af1⟩
  have Ff2 := fun_mk (st := sRow) lf2 cf2 kf2
  have E_is_row : Cl K mg "is_row" sRow ["value", "width"] gf2 _ := ⟨Ff2, Ff2.binds (ps := ["value", "width"]) (fun _ _ _ _ _ _ us hl => match us, hl with | [_, _], _ => rfl), PySem.W.mg_of X G af2⟩
  have Ff3 := fun_mk (st := sWon) lf3 cf3 kf3
  have E_ways_on : Cl K mg "ways_on" sWon ["moves", "ways"] gf3 _ := ⟨Ff3, Ff3.binds (ps := ["moves", "ways"]) (fun _ _ _ _ _ _ us hl => match us, hl with | [_, _], _ => rfl), PySem.W.mg_of X G af3⟩
  have Ff4 := fun_mk (st := sCP) lf4 cf4 kf4
  have E_check_prime : Cl K mg "check_prime" sCP ["p"] gf4 _ := ⟨Ff4, Ff4.binds (ps := ["p"]) (fun _ _ _ _ _ _ us hl => match us, hl with | [_], _ => rfl), PySem.W.mg_of X G af4⟩
  have Ff5 := fun_mk (st := sDot) lf5 cf5 kf5
  have E_dot : Cl K mg "dot" sDot ["one", "other"] gf5 _ := ⟨Ff5, Ff5.binds (ps := ["one", "other"]) (fun _ _ _ _ _ _ us hl => match us, hl with | [_, _], _ => rfl), PySem.W.mg_of X G af5⟩
  have Ff6 := fun_mk (st := sCM) lf6 cf6 kf6
  have E_check_machine : Cl K mg "check_machine" sCM ["p", "moves", "worths"] gf6 _ := ⟨Ff6, Ff6.binds (ps := ["p", "moves", "worths"]) (fun _ _ _ _ _ _ us hl => match us, hl with | [_, _, _], _ => rfl), PySem.W.mg_of X G af6⟩
  have Ff7 := fun_mk (st := sCb) lf7 cf7 kf7
  have E_check_bases : Cl K mg "check_bases" sCb ["machine", "other"] gf7 _ := ⟨Ff7, Ff7.binds (ps := ["machine", "other"]) (fun _ _ _ _ _ _ us hl => match us, hl with | [_, _], _ => rfl), PySem.W.mg_of X G af7⟩
  have Ff8 := fun_mk (st := sNbd) lf8 cf8 kf8
  have E_numbers_by_digits : Cl K mg "numbers_by_digits" sNbd ["machine", "value", "many"] gf8 _ := ⟨Ff8, Ff8.binds (ps := ["machine", "value", "many"]) (fun _ _ _ _ _ _ us hl => match us, hl with | [_, _, _], _ => rfl), PySem.W.mg_of X G af8⟩
  have Ff9 := fun_mk (st := sAm) lf9 cf9 kf9
  have E_as_many : Cl K mg "as_many" sAm ["machine", "value", "other", "other_value"] gf9 _ := ⟨Ff9, Ff9.binds (ps := ["machine", "value", "other", "other_value"]) (fun _ _ _ _ _ _ us hl => match us, hl with | [_, _, _, _], _ => rfl), PySem.W.mg_of X G af9⟩
  have Ff10 := fun_mk (st := sWbd) lf10 cf10 kf10
  have E_ways_by_digits : Cl K mg "ways_by_digits" sWbd ["machine", "many"] gf10 _ := ⟨Ff10, Ff10.binds (ps := ["machine", "many"]) (fun _ _ _ _ _ _ us hl => match us, hl with | [_, _], _ => rfl), PySem.W.mg_of X G af10⟩
  have Ff11 := fun_mk (st := sMks) lf11 cf11 kf11
  have E_marks_of : Cl K mg "marks_of" sMks ["machine", "value"] gf11 _ := ⟨Ff11, Ff11.binds (ps := ["machine", "value"]) (fun _ _ _ _ _ _ us hl => match us, hl with | [_, _], _ => rfl), PySem.W.mg_of X G af11⟩
  have Ff12 := fun_mk (st := sPen) lf12 cf12 kf12
  have E__law_pen : Cl K mg "_law_pen" sPen ["_law_script"] gf12 _ := ⟨Ff12, Ff12.binds (ps := ["_law_script"]) (fun _ _ _ _ _ _ us hl => match us, hl with | [_], _ => rfl), PySem.W.mg_of X G af12⟩
  have Ff13 := fun_mk (st := sDraw) lf13 cf13 kf13
  have E__law_draw : Cl K mg "_law_draw" sDraw ["_law_pen_here", "_law_many"] gf13 _ := ⟨Ff13, Ff13.binds (ps := ["_law_pen_here", "_law_many"]) (fun _ _ _ _ _ _ us hl => match us, hl with | [_, _], _ => rfl), PySem.W.mg_of X G af13⟩
  have Ff14 := fun_mk (st := sPick) lf14 cf14 kf14
  have E__law_pick : Cl K mg "_law_pick" sPick ["_law_pen_here", "_law_some"] gf14 _ := ⟨Ff14, Ff14.binds (ps := ["_law_pen_here", "_law_some"]) (fun _ _ _ _ _ _ us hl => match us, hl with | [_, _], _ => rfl), PySem.W.mg_of X G af14⟩
  have Ff15 := fun_mk (st := sWhy) lf15 cf15 kf15
  have E__law_why : Cl K mg "_law_why" sWhy ["_law_call"] gf15 _ := ⟨Ff15, Ff15.binds (ps := ["_law_call"]) (fun _ _ _ _ _ _ us hl => match us, hl with | [_], _ => rfl), PySem.W.mg_of X G af15⟩
  have Ff16 := fun_mk (st := sLm) lf16 cf16 kf16
  have E__law_machine : Cl K mg "_law_machine" sLm ["_law_pen_here", "_law_p", "_law_most"] gf16 _ := ⟨Ff16, Ff16.binds (ps := ["_law_pen_here", "_law_p", "_law_most"]) (fun _ _ _ _ _ _ us hl => match us, hl with | [_, _, _], _ => rfl), PySem.W.mg_of X G af16⟩
  have Ff17 := fun_mk (st := sKn) lf17 cf17 kf17
  have E__law_known_machine : Cl K mg "_law_known_machine" sKn ["_law_pen_here"] gf17 _ := ⟨Ff17, Ff17.binds (ps := ["_law_pen_here"]) (fun _ _ _ _ _ _ us hl => match us, hl with | [_], _ => rfl), PySem.W.mg_of X G af17⟩
  have Ff18 := fun_mk (st := sPl) lf18 cf18 kf18
  have E__law_planned_machine : Cl K mg "_law_planned_machine" sPl ["_law_pen_here"] gf18 _ := ⟨Ff18, Ff18.binds (ps := ["_law_pen_here"]) (fun _ _ _ _ _ _ us hl => match us, hl with | [_], _ => rfl), PySem.W.mg_of X G af18⟩
  have Ff19 := fun_mk (st := sMd) lf19 cf19 kf19
  have E__law_made : Cl K mg "_law_made" sMd ["_law_machine_here"] gf19 _ := ⟨Ff19, Ff19.binds (ps := ["_law_machine_here"]) (fun _ _ _ _ _ _ us hl => match us, hl with | [_], _ => rfl), PySem.W.mg_of X G af19⟩
  have Ff20 := fun_mk (st := sWt) lf20 cf20 kf20
  have E__law_words_to : Cl K mg "_law_words_to" sWt ["_law_machine_here", "_law_many"] gf20 _ := ⟨Ff20, Ff20.binds (ps := ["_law_machine_here", "_law_many"]) (fun _ _ _ _ _ _ us hl => match us, hl with | [_, _], _ => rfl), PySem.W.mg_of X G af20⟩
  have Ff21 := fun_mk (st := sCo) lf21 cf21 kf21
  have E__law_count_of : Cl K mg "_law_count_of" sCo ["_law_machine_here", "_law_value", "_law_many"] gf21 _ := ⟨Ff21, Ff21.binds (ps := ["_law_machine_here", "_law_value", "_law_many"]) (fun _ _ _ _ _ _ us hl => match us, hl with | [_, _, _], _ => rfl), PySem.W.mg_of X G af21⟩
  have Ff22 := fun_mk (st := sSf) lf22 cf22 kf22
  have E__law_shuffled : Cl K mg "_law_shuffled" sSf ["_law_pen_here", "_law_plain"] gf22 _ := ⟨Ff22, Ff22.binds (ps := ["_law_pen_here", "_law_plain"]) (fun _ _ _ _ _ _ us hl => match us, hl with | [_, _], _ => rfl), PySem.W.mg_of X G af22⟩
  have Ff23 := fun_mk (st := sLt) lf23 cf23 kf23
  have E__law_late : Cl K mg "_law_late" sLt ["_law_p", "_law_many"] gf23 _ := ⟨Ff23, Ff23.binds (ps := ["_law_p", "_law_many"]) (fun _ _ _ _ _ _ us hl => match us, hl with | [_, _], _ => rfl), PySem.W.mg_of X G af23⟩
  have Ff24 := fun_mk (st := sPr) lf24 cf24 kf24
  have E__law_pair : Cl K mg "_law_pair" sPr ["_law_pen_here"] gf24 _ := ⟨Ff24, Ff24.binds (ps := ["_law_pen_here"]) (fun _ _ _ _ _ _ us hl => match us, hl with | [_], _ => rfl), PySem.W.mg_of X G af24⟩
  have Fm0_0 := fun_mk (st := sMI) lm0_0 cm0_0 km0_0
  have B_Machine___init__ := Fm0_0.binds (ps := ["self", "p", "moves", "worths"]) (fun _ _ _ _ _ _ us hl => match us, hl with | [_, _, _, _], _ => rfl)
  have L_Machine : Cls K C := ⟨pg0, hd0, po0, sa0⟩
  have GC_Machine := PySem.W.mg_of X G aC0
  have C_Machine : C8.InsC K C := ⟨L_Machine, ha0, hn0, ht0, hm0, me0⟩
  have M_Machine_init : Meth K C "__init__" gm0_0 := ⟨fcm0_0, fnm0_0, km0_0⟩
  have K_Machine : Mk K C gm0_0 := ⟨mk0, fcm0_0, fnm0_0, kp0⟩
  have R_BadNumber := er_of (x := "BadNumber") (fs := ["what", "number"]) X G e0 j0 (fun g hg => by
    rcases List.mem_cons.mp hg with rfl | hg
    · exact n0_0
    rcases List.mem_cons.mp hg with rfl | hg
    · exact n0_1
    exact (List.not_mem_nil hg).elim) (fun _ _ _ _ _ _ us hl => match us, hl with | [_, _, _], _ => rfl)
  have R_BadRow := er_of (x := "BadRow") (fs := ["row"]) X G e1 j1 (fun g hg => by
    rcases List.mem_cons.mp hg with rfl | hg
    · exact n1_0
    exact (List.not_mem_nil hg).elim) (fun _ _ _ _ _ _ us hl => match us, hl with | [_, _], _ => rfl)
  have R_Unlike := er_of (x := "Unlike") (fs := ["what"]) X G e2 j2 (fun g hg => by
    rcases List.mem_cons.mp hg with rfl | hg
    · exact n2_0
    exact (List.not_mem_nil hg).elim) (fun _ _ _ _ _ _ us hl => match us, hl with | [_, _], _ => rfl)
  have R_TooLarge := er_of (x := "TooLarge") (fs := ["what", "number", "limit"]) X G e3 j3 (fun g hg => by
    rcases List.mem_cons.mp hg with rfl | hg
    · exact n3_0
    rcases List.mem_cons.mp hg with rfl | hg
    · exact n3_1
    rcases List.mem_cons.mp hg with rfl | hg
    · exact n3_2
    exact (List.not_mem_nil hg).elim) (fun _ _ _ _ _ _ us hl => match us, hl with | [_, _, _, _], _ => rfl)
  have A_PRIMES := PySem.W.mg_of X G ac0
  have A_BadText := PySem.W.mg_of X G ac1
  have A_TooMany := PySem.W.mg_of X G ac2
  have Z_int := PySem.W.mg_none_of X G z_int
  have Z_bool := PySem.W.mg_none_of X G z_bool
  have Z_tuple := PySem.W.mg_none_of X G z_tuple
  have Z_len := PySem.W.mg_none_of X G z_len
  have Z_list := PySem.W.mg_none_of X G z_list
  have Z_range := PySem.W.mg_none_of X G z_range
  have Z_isinstance := PySem.W.mg_none_of X G z_isinstance
  have Z_repr := PySem.W.mg_none_of X G z_repr
  have Z_all := PySem.W.mg_none_of X G z_all
  have Z_divmod := PySem.W.mg_none_of X G z_divmod
  have Z_reversed := PySem.W.mg_none_of X G z_reversed
  have Z_any := PySem.W.mg_none_of X G z_any
  have Z_zip := PySem.W.mg_none_of X G z_zip
  have Z_min := PySem.W.mg_none_of X G z_min
  have Z_sum := PySem.W.mg_none_of X G z_sum
  have BB : Blt mg := ⟨Z_int, Z_bool, Z_tuple, Z_len, Z_list, Z_range, Z_isinstance, Z_repr, Z_all, Z_divmod, Z_reversed⟩
  have ZZ : McC K mg C := ⟨C_Machine, at0_0, at0_1, at0_2, at0_3, GC_Machine, fun n hn => by
    unfold offOwn at hn
    obtain rfl | hn := List.mem_cons.mp hn
    · exact no0_int
    obtain rfl | hn := List.mem_cons.mp hn
    · exact no0_bool
    obtain rfl | hn := List.mem_cons.mp hn
    · exact no0_NoneType
    obtain rfl | hn := List.mem_cons.mp hn
    · exact no0_str
    obtain rfl | hn := List.mem_cons.mp hn
    · exact no0_list
    obtain rfl | hn := List.mem_cons.mp hn
    · exact no0_tuple
    obtain rfl | hn := List.mem_cons.mp hn
    · exact no0_dict
    exact (List.not_mem_nil hn).elim⟩
  have TT : Cau6 K CT CN CL CM CR CU := ⟨xnt, xnn, xlt, xln, xll, xut, xun, xul, xum, xur, xuu, ⟨xTa, xTb, xTc, xTd⟩, ⟨e0.ga, e0.gg, e0.be, e0.hd⟩, ⟨e3.ga, e3.gg, e3.be, e3.hd⟩, ⟨xMa, xMb, xMc, xMd⟩, ⟨e1.ga, e1.gg, e1.be, e1.hd⟩, ⟨e2.ga, e2.gg, e2.be, e2.hd⟩,
    kc1, n0_0, n0_1, n3_0, n3_1, n3_2, kc2, xMl, n1_0, n2_0⟩
  have GG : Glo6 mg CT CN CL CM CR CU := ⟨A_BadText, R_BadNumber.g, R_TooLarge.g, A_TooMany, R_BadRow.g, R_Unlike.g⟩
  have GCM := ok_cm (P := l.prog) (w := w) (mg := mg) (base := base) E_check_machine.fn BB Z_any Z_zip E_is_integer E_is_integers E_is_row E_check_prime R_BadNumber R_BadRow R_Unlike A_PRIMES kc0
  have GMI := ok_mi (P := l.prog) (w := w) (mg := mg) (base := base) Fm0_0 BB E_check_machine ZZ GCM
  have GCB := ok_cb (P := l.prog) (w := w) (mg := mg) (base := base) E_check_bases.fn ZZ R_Unlike
  have GNB := ok_nbd (P := l.prog) (w := w) (mg := mg) (base := base) E_numbers_by_digits.fn BB Z_zip Z_sum ZZ E_ways_on E_ways_by_digits E_marks_of E_dot
  have GAM := ok_am (P := l.prog) (w := w) (mg := mg) (base := base) E_as_many.fn BB ZZ E_check_bases E_numbers_by_digits GCB GNB
  have GKN := ok_kn (P := l.prog) (w := w) (mg := mg) (base := base) E__law_known_machine.fn BB Z_min E__law_draw E__law_pick E__law_machine E__law_planned_machine
  have GLM := ok_lm (P := l.prog) (w := w) (mg := mg) (base := base) E__law_machine.fn BB Z_min E__law_draw E__law_pick
  have GPR := ok_pr (P := l.prog) (w := w) (mg := mg) (base := base) E__law_pair.fn BB E__law_draw E__law_known_machine GKN E__law_shuffled E__law_late E__law_machine GLM
  have GCO := ok_co (P := l.prog) (w := w) (mg := mg) (base := base) E__law_count_of.fn BB Z_zip Z_sum E__law_words_to
  exact ok_law lF cF (TB _ (.head _)) BB ZZ K_Machine B_Machine___init__ GMI E_as_many GAM E__law_pen E__law_draw E__law_pick E__law_pair GPR E__law_count_of GCO E__law_made E__law_why TT GG
theorem walk {l : PySem.W.OpenLaw} {q : Program} {loose : List Str} {XP : (Str → Option Value) → Heap → Prop} {YP : World → Heap → Prop} {d : DefRec} {K : Params → PySem.W.Frag} {c Pt : Addr} (hn : l.most = some 63) (hdf : d.params.defaults = [])
    (hY : ∀ (w : World) (h : Heap), YP w h → (K w.params).In h) (hT : ∀ (w : World) (h : Heap), YP w h → ∀ p ∈ [(c, Pt)], h.get? p.2 = some { cls := .none, data := .fields #[] })
    (F : ∀ (w : World) (mg : Str → Option Value) (fa : Addr) (h : Heap), (K w.params).In h → h.Ns mainGlobals mg → mg d.name = some (.ref fa) →
      (∀ p ∈ [(c, Pt)], (K w.params).lookup p.2 = none ∧ PySem.W.codeHdIn (K w.params) p.1 p.2 = true) ∧
      ∃ fd : FuncData, (∀ (s : Shared) (u : Value), BindsTo s fd ⟨[u], []⟩ [("_law_script", u)]) ∧ ∀ base : Heap, (K w.params).In base → base.Ns mainGlobals mg → (∀ p ∈ [(c, Pt)], LamX.TabB base mg p.1 p.2) → FnG l.prog w (K w.params) mg base CX0 10 fa fd ["_law_script"] (spLaw (K w.params) Pt)) :
    PySem.W.WalkO q loose XP YP l.row.toRowW d [] (fun f vs => PySem.call f vs) :=
  walkT (n := 63) (k := 10) (x := "_law_script") (cs := [(c, Pt)]) (sp := fun w => spLaw (K w.params) Pt) hn (by decide) hdf ⟨rfl, by decide, by decide⟩ hY hT F (fun _ _ a ns _ hP hS => ⟨a, ns, rfl, hS, hP _ (.head _), fun _ => rfl⟩)
end K78

open PySem PySem.W PyProof.Rows
set_option maxRecDepth 100000 in
set_option maxHeartbeats 0 in
theorem PySem.Challenge.cw_restcounts_k78_whole_as_many_holds : PySem.Challenge.rw_restcounts_k78_whole_as_many.Holds := by
  w_on; o_law; k_head; (case hw => w_witness2)
  k_fill
  refine' K78.walk (l := PySem.Challenge.rw_restcounts_k78_whole_as_many) (c := ?c) (Pt := 333) rfl rfl (fun w h Y => PySem.W.km_in_of Y) (fun w h Y p hp => ?T) ?F
  case F =>
    intro w mg fa h KX G hmg
    refine' K78.all_mk KX G hmg  ?e0 ?j0 ?n0_0 ?n0_1 ?e1 ?j1 ?n1_0 ?e2 ?j2 ?n2_0 ?e3 ?j3 ?n3_0 ?n3_1 ?n3_2 ?aC0 ?pg0 ?hd0 ?po0 ?sa0 ?ha0 ?hn0 ?ht0 ?hm0 ?me0 ?at0_0 ?at0_1 ?at0_2 ?at0_3 ?no0_int ?no0_bool ?no0_NoneType ?no0_str ?no0_list ?no0_tuple ?no0_dict ?ni0 ?mk0 ?kp0 ?af0 ?lf0 ?cf0 ?kf0 ?af1 ?lf1 ?cf1 ?kf1 ?af2 ?lf2 ?cf2 ?kf2 ?af3 ?lf3 ?cf3 ?kf3 ?af4 ?lf4 ?cf4 ?kf4 ?af5 ?lf5 ?cf5 ?kf5 ?af6 ?lf6 ?cf6 ?kf6 ?af7 ?lf7 ?cf7 ?kf7 ?af8 ?lf8 ?cf8 ?kf8 ?af9 ?lf9 ?cf9 ?kf9 ?af10 ?lf10 ?cf10 ?kf10 ?af11 ?lf11 ?cf11 ?kf11 ?af12 ?lf12 ?cf12 ?kf12 ?af13 ?lf13 ?cf13 ?kf13 ?af14 ?lf14 ?cf14 ?kf14 ?af15 ?lf15 ?cf15 ?kf15 ?af16 ?lf16 ?cf16 ?kf16 ?af17 ?lf17 ?cf17 ?kf17 ?af18 ?lf18 ?cf18 ?kf18 ?af19 ?lf19 ?cf19 ?kf19 ?af20 ?lf20 ?cf20 ?kf20 ?af21 ?lf21 ?cf21 ?kf21 ?af22 ?lf22 ?cf22 ?kf22 ?af23 ?lf23 ?cf23 ?kf23 ?af24 ?lf24 ?cf24 ?kf24 ?fcm0_0 ?fnm0_0 ?lm0_0 ?cm0_0 ?km0_0 ?aF ?lF ?cF ?nP0 ?hP0 ?ac0 ?kc0 ?ac1 ?kc1 ?ac2 ?kc2 ?z_int ?z_bool ?z_tuple ?z_len ?z_list ?z_range ?z_isinstance ?z_repr ?z_all ?z_divmod ?z_reversed ?z_any ?z_zip ?z_min ?z_sum ?xnt ?xnn ?xlt ?xln ?xll ?xut ?xun ?xul ?xum ?xur ?xuu ?xTa ?xTb ?xTc ?xTd ?xMa ?xMb ?xMc ?xMd ?xMl
    (case e0 => (refine' K78.ErIn.mk ?_ ?_ ?_ ?_ ?_ ?_ <;> try k_is))
    (case j0 => (refine' K78.IniIn.mk ?_ ?_ ?_ ?_ ?_ ?_ ?_ ?_ <;> try k_is))
    (case n0_0 => k_is)
    (case n0_1 => k_is)
    (case e1 => (refine' K78.ErIn.mk ?_ ?_ ?_ ?_ ?_ ?_ <;> try k_is))
    (case j1 => (refine' K78.IniIn.mk ?_ ?_ ?_ ?_ ?_ ?_ ?_ ?_ <;> try k_is))
    (case n1_0 => k_is)
    (case e2 => (refine' K78.ErIn.mk ?_ ?_ ?_ ?_ ?_ ?_ <;> try k_is))
    (case j2 => (refine' K78.IniIn.mk ?_ ?_ ?_ ?_ ?_ ?_ ?_ ?_ <;> try k_is))
    (case n2_0 => k_is)
    (case e3 => (refine' K78.ErIn.mk ?_ ?_ ?_ ?_ ?_ ?_ <;> try k_is))
    (case j3 => (refine' K78.IniIn.mk ?_ ?_ ?_ ?_ ?_ ?_ ?_ ?_ <;> try k_is))
    (case n3_0 => k_is)
    (case n3_1 => k_is)
    (case n3_2 => k_is)
    (case aC0 => k_is)
    (case pg0 => k_is)
    (case hd0 => k_is)
    (case po0 => k_is)
    (case sa0 => k_is)
    (case ha0 => k_is)
    (case hn0 => k_is)
    (case ht0 => k_is)
    (case hm0 => k_is)
    (case me0 => (first | kernel_rfl | k_is | kit_is | decide +kernel))
    (case at0_0 => k_is)
    (case at0_1 => k_is)
    (case at0_2 => k_is)
    (case at0_3 => k_is)
    (case no0_int => (first | kernel_rfl | k_is | kit_is | decide +kernel))
    (case no0_bool => (first | kernel_rfl | k_is | kit_is | decide +kernel))
    (case no0_NoneType => (first | kernel_rfl | k_is | kit_is | decide +kernel))
    (case no0_str => (first | kernel_rfl | k_is | kit_is | decide +kernel))
    (case no0_list => (first | kernel_rfl | k_is | kit_is | decide +kernel))
    (case no0_tuple => (first | kernel_rfl | k_is | kit_is | decide +kernel))
    (case no0_dict => (first | kernel_rfl | k_is | kit_is | decide +kernel))
    (case ni0 => (first | kernel_rfl | k_is | kit_is | decide +kernel))
    (case mk0 => k_is)
    (case kp0 => k_is)
    (case af0 => k_is)
    (case lf0 => k_is)
    (case cf0 => k_is)
    (case kf0 => k_is)
    (case af1 => k_is)
    (case lf1 => k_is)
    (case cf1 => k_is)
    (case kf1 => k_is)
    (case af2 => k_is)
    (case lf2 => k_is)
    (case cf2 => k_is)
    (case kf2 => k_is)
    (case af3 => k_is)
    (case lf3 => k_is)
    (case cf3 => k_is)
    (case kf3 => k_is)
    (case af4 => k_is)
    (case lf4 => k_is)
    (case cf4 => k_is)
    (case kf4 => k_is)
    (case af5 => k_is)
    (case lf5 => k_is)
    (case cf5 => k_is)
    (case kf5 => k_is)
    (case af6 => k_is)
    (case lf6 => k_is)
    (case cf6 => k_is)
    (case kf6 => k_is)
    (case af7 => k_is)
    (case lf7 => k_is)
    (case cf7 => k_is)
    (case kf7 => k_is)
    (case af8 => k_is)
    (case lf8 => k_is)
    (case cf8 => k_is)
    (case kf8 => k_is)
    (case af9 => k_is)
    (case lf9 => k_is)
    (case cf9 => k_is)
    (case kf9 => k_is)
    (case af10 => k_is)
    (case lf10 => k_is)
    (case cf10 => k_is)
    (case kf10 => k_is)
    (case af11 => k_is)
    (case lf11 => k_is)
    (case cf11 => k_is)
    (case kf11 => k_is)
    (case af12 => k_is)
    (case lf12 => k_is)
    (case cf12 => k_is)
    (case kf12 => k_is)
    (case af13 => k_is)
    (case lf13 => k_is)
    (case cf13 => k_is)
    (case kf13 => k_is)
    (case af14 => k_is)
    (case lf14 => k_is)
    (case cf14 => k_is)
    (case kf14 => k_is)
    (case af15 => k_is)
    (case lf15 => k_is)
    (case cf15 => k_is)
    (case kf15 => k_is)
    (case af16 => k_is)
    (case lf16 => k_is)
    (case cf16 => k_is)
    (case kf16 => k_is)
    (case af17 => k_is)
    (case lf17 => k_is)
    (case cf17 => k_is)
    (case kf17 => k_is)
    (case af18 => k_is)
    (case lf18 => k_is)
    (case cf18 => k_is)
    (case kf18 => k_is)
    (case af19 => k_is)
    (case lf19 => k_is)
    (case cf19 => k_is)
    (case kf19 => k_is)
    (case af20 => k_is)
    (case lf20 => k_is)
    (case cf20 => k_is)
    (case kf20 => k_is)
    (case af21 => k_is)
    (case lf21 => k_is)
    (case cf21 => k_is)
    (case kf21 => k_is)
    (case af22 => k_is)
    (case lf22 => k_is)
    (case cf22 => k_is)
    (case kf22 => k_is)
    (case af23 => k_is)
    (case lf23 => k_is)
    (case cf23 => k_is)
    (case kf23 => k_is)
    (case af24 => k_is)
    (case lf24 => k_is)
    (case cf24 => k_is)
    (case kf24 => k_is)
    (case fcm0_0 => k_is)
    (case fnm0_0 => k_is)
    (case lm0_0 => k_is)
    (case cm0_0 => k_is)
    (case km0_0 => k_is)
    (case aF => k_is)
    (case lF => k_is)
    (case cF => k_is)
    (case nP0 => (first | kernel_rfl | k_is | kit_is | decide +kernel))
    (case hP0 => (first | kernel_rfl | k_is | kit_is | decide +kernel))
    (case ac0 => k_is)
    (case kc0 => (first | kernel_rfl | k_is | kit_is | decide +kernel))
    (case ac1 => k_is)
    (case kc1 => (first | kernel_rfl | k_is | kit_is | decide +kernel))
    (case ac2 => k_is)
    (case kc2 => (first | kernel_rfl | k_is | kit_is | decide +kernel))
    (case z_int => k_is)
    (case z_bool => k_is)
    (case z_tuple => k_is)
    (case z_len => k_is)
    (case z_list => k_is)
    (case z_range => k_is)
    (case z_isinstance => k_is)
    (case z_repr => k_is)
    (case z_all => k_is)
    (case z_divmod => k_is)
    (case z_reversed => k_is)
    (case z_any => k_is)
    (case z_zip => k_is)
    (case z_min => k_is)
    (case z_sum => k_is)
    (case xnt => (first | kernel_rfl | k_is | kit_is | decide +kernel))
    (case xnn => (first | kernel_rfl | k_is | kit_is | decide +kernel))
    (case xlt => (first | kernel_rfl | k_is | kit_is | decide +kernel))
    (case xln => (first | kernel_rfl | k_is | kit_is | decide +kernel))
    (case xll => (first | kernel_rfl | k_is | kit_is | decide +kernel))
    (case xut => (first | kernel_rfl | k_is | kit_is | decide +kernel))
    (case xun => (first | kernel_rfl | k_is | kit_is | decide +kernel))
    (case xul => (first | kernel_rfl | k_is | kit_is | decide +kernel))
    (case xum => (first | kernel_rfl | k_is | kit_is | decide +kernel))
    (case xur => (first | kernel_rfl | k_is | kit_is | decide +kernel))
    (case xuu => (first | kernel_rfl | k_is | kit_is | decide +kernel))
    (case xTa => (first | kernel_rfl | k_is | kit_is | decide +kernel))
    (case xTb => (first | kernel_rfl | k_is | kit_is | decide +kernel))
    (case xTc => (first | kernel_rfl | k_is | kit_is | decide +kernel))
    (case xTd => (first | kernel_rfl | k_is | kit_is | decide +kernel))
    (case xMa => (first | kernel_rfl | k_is | kit_is | decide +kernel))
    (case xMb => (first | kernel_rfl | k_is | kit_is | decide +kernel))
    (case xMc => (first | kernel_rfl | k_is | kit_is | decide +kernel))
    (case xMd => (first | kernel_rfl | k_is | kit_is | decide +kernel))
    (case xMl => (first | kernel_rfl | k_is | kit_is | decide +kernel))
  case T =>
    obtain z | hp := List.mem_cons.mp hp
    · rw [z]
      exact PySem.W.km_tabs_of Y _ (by decide)
    · exact (List.not_mem_nil hp).elim

