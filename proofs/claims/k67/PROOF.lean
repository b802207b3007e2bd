import PyProof.Rows.All
import Wide.All
import OpenK.AllK
import Wide.FinOn
import HandS.ForMost
import HandS.ExcInit
import HandS.ExcField
import HandS.ExcOwn
import HandS.IsInst
import KE.KExcIs
import HandS.Exc
import HandS.Lambda
import HandS.EndTab
import KE.KNestM
import HandS.Wide
import HandS.Evl
import HandS.Walk
import HandS.WordsExc
import HandS.Rev
import HandS.Zip
import KE.GoesMore
import KE.GoesZip
import PyProof.P3Eq
import KE.KOpsOwn
import HandS.OwnEq
import HandS.SlotsOwn
import HandS.More
import HandS.Codes
import HandS.TupMul
import PyProof.NeKinds
import HandS.TupAny
import HandS.Style
import PySem.Challenge.RW_restcounts_k67_machines_kept
set_option Elab.async false
set_option linter.all false
set_option maxRecDepth 100000
set_option maxHeartbeats 4000000
/-! Gd: defs whose promise leans on there being no repr under way around them; calls of such; a law's end over such. -/
namespace Gd
open PySem PySem.Spec PyProof.Rows L2

/-- a promise kept wherever no guard stands around -/
structure FnG (P : Program) (w : World) (K : PySem.W.Frag) (mg : Str → Option Value) (base : Heap)
    (CX : CXT) (k : Nat) (f : Addr) (fd : FuncData) (ps : List Str) (sp : Sp) : Prop where
  len : ∀ vs H Q E, sp vs H Q E → vs.length = ps.length
  go : ∀ (A : Around) (outer : List Env) (s : Shared) (H : Hp) (args : Args) (us : List Value) (vs : List V) (Q : VK) (E : XK),
    A.guards = some [] → Room k A → Env0 P w K mg base A outer s H →
    BindsTo s fd args (ps.zip us) → Vals vs us → sp vs H Q E →
    codeAny (model P w) A (.call (.ref f) args) (CR CX outer P w H s Q E) s

section
variable {P : Program} {w : World} {K : PySem.W.Frag} {mg : Str → Option Value} {base : Heap} {CX : CXT}

theorem FnG.ofOk {k : Nat} {f : Addr} {fd : FuncData} {ps : List Str} {sp : Sp}
    (F : FnOk P w K mg base CX k f fd ps sp) : FnG P w K mg base CX k f fd ps sp where
  len := F.len
  go := fun A outer s H args us vs Q E _ => F.run A outer s H args us vs Q E

/-- a def by its body, where the guards are none -/
theorem fnG_of {k : Nat} {f : Addr} {name qual : Str} {params : Arguments} {body : List Stmt} {scope : Scope}
    {dV kV doc pm cdv ct oc : Value} {an od : Option Addr} {osl : Array (Option Value)} {N ps : List Str} {sp : Sp}
    (lk : K.lookup f = some ⟨oc, od, .func (PySem.W.fnOf name qual params body scope dV kV doc pm an cdv ct), osl⟩)
    (hcd : PySem.W.codeIn K cdv qual = true) (S : FnScope N ps scope)
    (len : ∀ vs H Q E, sp vs H Q E → vs.length = ps.length)
    (B : ∀ (A : Around) (outer : List Env) (s : Shared) (H : Hp) (vs : List V) (Q : VK) (E : XK),
      A.guards = some [] → Room k (A.deeper (envOfC qual scope s.heap.objs.size f cdv)) → sp vs H Q E →
      ∃ t, PSs (cxOf CX P w K mg base N qual scope f cdv A outer s H E) body t ∧
        t { nx := fun _ H' => Q .non H', rt := Q } (start N vs) H) :
    FnG P w K mg base CX (k + 1) f (PySem.W.fnOf name qual params body scope dV kV doc pm an cdv ct) ps sp where
  len := len
  go := by
    intro A outer s H args us vs Q E hgd room env0 hbind rel hs
    have hlen := len _ _ _ _ hs
    have old : ∀ b o, base.get? b = some o → s.heap.get? b = some o := fun b o h => (env0.bs b o h).1
    have kin := env0.mod.kin.keeps old
    have nolim := env0.mod.nolimit.keeps old
    refine codeAny_call_function room.depth (kin _ _ lk) rfl S.co S.gen rfl
      (PySem.W.codeRec_of kin hcd) (hbind _ _ _ _ ?_)
    refine wpAny_newFunctionEnv_cells S.kind ?kinds fun env he s1 inC => ?_
    case kinds =>
      rintro ⟨n, v⟩ hm
      have hn := S.par n (List.of_mem_zip hm).1
      exact hn.imp (fun q => q) fun q => ⟨q, PySem.W.cellsFrom_some _ _ _ (.inl q)⟩
    subst he
    refine ⟨nolim.keeps inC.toInCall.keep, codeAny_func ?_⟩
    have ⟨t, derived, reading⟩ := B A outer s H vs Q E hgd (room.deeper _) hs
    have inv0 := inv_start (CX := CX) (E := E) S room.hd env0 hlen rel inC
    refine wpAny_mono (derived.run [] s1 (start N vs) H _ inv0 reading) ?_ fun _ _ he => he
    intro fl s' hfl
    match fl, hfl with
    | .ret _, ⟨v, _, H', J, rv, q⟩ => exact ⟨v, H', J.os, J.bare, J.base, J.hok, rv, q⟩
    | .next, ⟨_, H', J, q⟩ => exact ⟨V.non, H', J.os, J.bare, J.base, J.hok, rfl, q⟩
    | .brk, ⟨_, _, _, q⟩ => exact q.elim
    | .cont, ⟨_, _, _, q⟩ => exact q.elim

/-- for a def of the text that no exception leaves -/
theorem okG {x qual : Str} {st : Stmt} {f : Addr} {fd : FuncData} {N ps : List Str} {k : Nat} {sp : Sp}
    (F : Fun K x qual st f fd) (S : FnScope N ps (defScope st)) (len : ∀ vs H Q E, sp vs H Q E → vs.length = ps.length)
    (B : ∀ (cdv : Value) (A : Around) (outer : List Env) (s : Shared) (H : Hp) (vs : List V) (Q : VK) (E : XK),
      A.guards = some [] → Room k (A.deeper (envOfC qual (defScope st) s.heap.objs.size f cdv)) → sp vs H Q E →
      ∃ t, PSs (cxOf CX0 P w K mg base N qual (defScope st) f cdv A outer s H E).nox (defBody st) t ∧
        t { nx := fun _ H' => Q .non H', rt := Q } (start N vs) H) : FnG P w K mg base CX0 (k + 1) f fd ps sp := by
  have ⟨oc, od, kV, doc, pm, an, cdv, ct, osl, e, lk, hcd⟩ := F.ex
  subst e
  refine fnG_of lk hcd S len ?_
  intro A outer s H vs Q E hgd room hs
  have ⟨t, d, q⟩ := B cdv A outer s H vs Q E hgd room hs
  exact ⟨t, d.nox, q⟩
end

section
variable {X : Cx} {CX : CXT} {k : Nat} {f : Addr} {fd : FuncData} {ps : List Str} {sp : Sp} {dvs : List V} {ds : List Value} {E : XK}
/-- the call of such a def -/
theorem run_fnG {pins : List (Addr × Obj)} {σ : L2.St} {H : Hp} {s : Shared} {Q : VK} {us : List Value} {vs : List V}
    (F : FnG X.prog X.w X.K X.mg X.base CX k f fd ps sp) (hgd : X.A.guards = some []) (room : Room k X.A)
    (hb : Binds X.K fd ps ds) (hd : Vals dvs ds) (hx : Passes CX X E) (I : Inv X pins σ H s) (r : Vals vs us)
    (h : sp (vs ++ dvs) H Q E) : wpAny (model X.prog X.w) X.A (call (.ref f) us) (EP X pins σ Q) X.xe s := by
  have rr := r.append hd
  have hlen := F.len _ _ _ _ h
  rw [rr.length] at hlen
  have c := F.go X.A X.stack s H ⟨us, []⟩ (us ++ ds) (vs ++ dvs) Q E hgd room I.env0 (hb s us I.kIn hlen) rr h
  refine wpAny_call (codeAny_mono c ?_)
  intro res s' hres
  match res, hres with
  | .error e, he => exact hx pins σ H s e s' I he
  | .ok (.ret u), he => exact I.after he
  | .ok .next, he => exact he.elim
  | .ok .brk, he => exact he.elim
  | .ok .cont, he => exact he.elim

theorem pe_callG {x : Str} {p pos : Pos} {e : Expr} {es : List Expr} {t : TA}
    (F : FnG X.prog X.w X.K X.mg X.base CX k f fd ps sp) (hgd : X.A.guards = some []) (hr : Room k X.A) (hg : Gl X x)
    (hm : X.mg x = some (.ref f)) (hk : PySem.W.keepIn X.K (.ref f) = true) (hb : Binds X.K fd ps ds) (hd : Vals dvs ds)
    (hx : Passes CX X E) (ha : PA X (e :: es) t) (hdb : (x == ("__debug__" : Str)) = false := by decide)
    (he : starEach (e :: es) X.env = (false, eval e X.env) :: starEach es X.env := by rfl)
    (hpl : (backTo pos (starEach es X.env)).any (·.1) = false := by rfl) :
    PE X (.Call (.Name x p) (e :: es) [] pos) (tCall sp dvs E t) where
  run := by
    intro pins s σ H Q I h
    refine wpAny_Call_Name_kw (ld_glob I hg hm ?_ hdb)
    refine PySem.W.callWith_K (h₀ := X.base) I.ok.mod.kin hk ?_ he hpl
    refine thn (ha.run pos pins s σ H _ I h) ?_
    rintro us s1 ⟨vs, H1, I1, rel, q⟩
    exact ⟨I1.kIn, run_fnG F hgd hr hb hd hx I1 rel q⟩
end

/-! ### repr of data -/
mutual
theorem dp_nodict {K : PySem.W.Frag} {H : Hp} : ∀ (d : PyData) (v : V), Dp K H v d → d.hasDict = false
  | .none, _, _ => by simp only [PyData.hasDict]
  | .bool _, _, _ => by simp only [PyData.hasDict]
  | .int _, _, _ => by simp only [PyData.hasDict]
  | .str _, _, _ => by simp only [PyData.hasDict]
  | .list ds, _, h => by
    cases h with
    | lst _ ha => simp only [PyData.hasDict]; exact dpAll_nodict ds _ ha
  | .tuple ds, _, h => by
    cases h with
    | tup _ ha => simp only [PyData.hasDict]; exact dpAll_nodict ds _ ha
  | .dict _, _, h => by cases h
theorem dpAll_nodict {K : PySem.W.Frag} {H : Hp} : ∀ (ds : List PyData) (vs : List V), DpAll K H vs ds → PyData.hasDictAll ds = false
  | [], _, _ => by simp only [PyData.hasDictAll]
  | d :: ds, _, h => by
    cases h with
    | cons a b => simp only [PyData.hasDictAll, dp_nodict d _ a, dpAll_nodict ds _ b, Bool.or_self]
end

/-- repr(x) of data without dicts -/
def rRepr (K : PySem.W.Frag) : List V → Hp → VK → Prop := fun xs H Q => ∃ x d, xs = [x] ∧ Dp K H x d ∧
  d.showable = true ∧ d.depth ≤ 60 ∧ d.shown.length ≤ sizeLine ∧ Q (.str d.shown) H
theorem call_repr {X : Cx} (hgd : X.A.guards = some []) (hu : X.A.units + 64 < cLine) : CallR X (.builtin "repr") (rRepr X.K) := by
  intro pins s σ H xs us Q I rel h
  obtain ⟨x, d, rfl, dp, sh, hd, hz, q⟩ := h
  cases rel with
  | cons rx rt =>
    cases rt
    rename_i u
    obtain ⟨as, rd⟩ := Dp.reads I d x u dp rx
    have nod := dp_nodict d x dp
    cases dp with
    | non =>
      cases rx
      exact PySem.P.repr_of_none ⟨.str _, H, I.tok _, ⟨_, rfl⟩, q⟩
    | bl b =>
      cases rx
      exact PySem.P.repr_of_bool ⟨.str _, H, I.tok _, ⟨_, rfl⟩, q⟩
    | int i =>
      obtain ⟨t, rfl⟩ := rx
      exact PySem.P.repr_of_int (by simpa [PyData.showable] using sh) ⟨.str _, H, I.tok _, ⟨_, rfl⟩, q⟩
    | str z =>
      obtain ⟨t, rfl⟩ := rx
      exact PySem.P.repr_of_str ⟨.str _, H, I.tok _, ⟨_, rfl⟩, q⟩ (by simpa only [PyData.shown] using hz)
    | lst _ _ =>
      cases rx
      exact repr_of_reads' rd sh (PySem.PyData.noDict_hsm nod) hgd (by omega) (fun _ _ e => e) (fun h' t tk k => ⟨.str _, H, I.kept k, ⟨_, rfl⟩, q⟩) hz
    | tup _ _ =>
      cases rx
      exact repr_of_reads' rd sh (PySem.PyData.noDict_hsm nod) hgd (by omega) (fun _ _ e => e) (fun h' t tk k => ⟨.str _, H, I.kept k, ⟨_, rfl⟩, q⟩) hz
end Gd

/-! Ex: errors of own classes as values: made, their fields read, asked for their class. -/
namespace Gd
open PySem PySem.Spec PyProof.Rows L2

/-- what isinstance and the fields ask of such a class -/
structure ErC (K : PySem.W.Frag) (C : Addr) : Prop where
  ga : PySem.W.findIn K (.ref C) "__getattribute__" = some (some (.builtin "BaseException.__getattribute__"))
  gg : PySem.W.findIn K (.ref C) "__getattr__" = some none
  be : PySem.W.subIn K (.ref C) (.type "BaseException") = some true
  hd : PySem.W.hasDictIn K C = true
  ci : PySem.W.isClsIn K C = true
  cc : PySem.W.findIn K (.ref C) "__class__" = some (some (.builtin "object.__class__"))
  cg : PySem.W.specialIn K (.builtin "object.__class__") "__get__" = some (some (.builtin "getset_descriptor.__get__"))
  ct : PySem.W.takesIn K (.builtin "object.__class__") = some true
  om : PySem.W.mroIn K C (.type "object") = some true

section
variable {X : Cx} {CX : CXT} {pins : List (Addr × Obj)} {σ : L2.St} {H : Hp} {s : Shared}

/-- an error of the class at C stands at a, its fields fs (the last stored first) -/
def ErA (H : Hp) (a C : Addr) (fs : List (Str × V)) : Prop :=
  (H a = some (exo a C none) ∧ fs = []) ∨ ∃ d, H a = some (exo a C (some d)) ∧ H d = some (exd d fs)

/-- such an error, as the library's rules see it -/
theorem inst_of {a C : Addr} {fs : List (Str × V)} (I : Inv X pins σ H s) (e : ErA H a C fs) :
    ∃ ox od, PySem.W.InstAt s.heap a ox C od ∧ ∀ n v, fs.lookup n = some v →
      ∃ u o, od = some o ∧ PySem.W.lookIn n o = some (some u) ∧ RelV v u := by
  obtain ⟨e, rfl⟩ | ⟨d, e, ed⟩ := e
  · obtain ⟨t, ho⟩ := exo_at I.hok e
    exact ⟨_, none, ⟨ho, rfl, rfl, trivial⟩, fun n v z => by cases z⟩
  · obtain ⟨t, ho⟩ := exo_at I.hok e
    obtain ⟨mA, hns, rel⟩ := exd_at I.hok ed
    obtain ⟨od, hod, look⟩ := lookIn_ns hns
    refine ⟨_, some od, ⟨ho, rfl, rfl, hod⟩, fun n v z => ?_⟩
    have rn := rel n
    rw [z] at rn
    cases q : mA n with
    | none => rw [q] at rn; exact rn.elim
    | some u =>
      rw [q] at rn
      exact ⟨u, od, rfl, by rw [look, q], rn⟩

/-- isinstance(e, c) -/
def rIsEr (K : PySem.W.Frag) : List V → Hp → VK → Prop := fun xs H Q => ∃ (a C : Addr) (fs : List (Str × V)) (c : V) (u : Value) (b : Bool),
  xs = [.ref a, c] ∧ ErA H a C fs ∧ ErC K C ∧ ClsV c u ∧ PySem.W.kitOne K (.ref C) u = some b ∧ Q (.bl b) H
theorem call_isEr : CallR X (.builtin "isinstance") (rIsEr X.K) := by
  intro pins s σ H xs us Q I rel h
  obtain ⟨a, C, fs, c, u, b, rfl, ea, T, kc, kit, q⟩ := h
  obtain ⟨u1, u2, rfl, r1, r2⟩ := vals2 rel
  cases (show u1 = Value.ref a from r1)
  have e2 := kc.eq r2
  subst e2
  obtain ⟨ox, od, J, _⟩ := inst_of I ea
  have Z := PySem.W.kitx_exc (x := a) (ox := ox) (od := od) (K := X.K) T.ci T.ga T.gg T.be T.cc T.cg T.ct T.om
  exact PySem.W.kia_one Z I.kIn J kit (fun z => nomatch z) fun tk => ⟨.bl b, H, I.tok tk, rfl, q⟩

/-- e.f -/
def tErF (K : PySem.W.Frag) (f : Str) (te : TE) : TE := fun σ H Q => te σ H fun x H1 => ∃ (a C : Addr) (fs : List (Str × V)) (v : V),
  x = .ref a ∧ ErA H1 a C fs ∧ ErC K C ∧ PySem.W.findIn K (.ref C) f = some none ∧ fs.lookup f = some v ∧ Q v H1
theorem pe_erF {e : Expr} {te : TE} {pos : Pos} {f : Str} (he : PE X e te)
    (hb : attributeBase e f X.env (eval e X.env) = eval e X.env := by rfl) : PE X (.Attribute e f pos) (tErF X.K f te) where
  run := by
    intro pins s σ H Q I h
    refine attr_of hb (thn (he.run pins s σ H _ I h) ?_)
    rintro u s1 ⟨x, H1, I1, rx, a, C, fs, v, ex, ea, T, no, l, q⟩
    subst ex
    cases (show u = Value.ref a from rx)
    obtain ⟨ox, od, J, g⟩ := inst_of I1 ea
    obtain ⟨u, o, rfl, lk, ru⟩ := g f v l
    exact HandSPX.exc_get I1.kIn J T.ga T.gg T.be (PySem.W.findObj_own T.hd no rfl lk) (handed_of ru) ⟨v, H1, I1.tok _, ru, q⟩

/-- C(), an error class without an __init__ of its own -/
def tEr0 (C : Addr) : TE := fun _ H Q => ∀ a, H a = none → Q (.ref a) (upd H a (exo a C none))
theorem pe_er0 {C : Addr} {bmB : List Value} {B newId initId : String} {x : Str} {p pos : Pos} (F : ExcBaseFacts B newId initId bmB)
    (q : PySem.W.excIn X.K C bmB newId = true) (gC : X.mg x = some (.ref C)) (kC : PySem.W.keepIn X.K (.ref C) = true) (hg : Gl X x)
    (hdb : (x == ("__debug__" : Str)) = false := by decide) : PE X (.Call (.Name x p) [] [] pos) (tEr0 C) where
  run := by
    intro pins s σ H Q I h
    refine wpAny_Call_Name_kw (ld_glob I hg gC ?_ hdb)
    refine PySem.W.callWith_K0 I.kIn kC ?_
    obtain ⟨bm, N, nm, qn, bs, hdct, sn, sub, ab, col, dd, k0, k1, k2, k3, k5, mN, hC, hN, hni, T⟩ := exc_obj I.kIn q
    obtain ⟨hp, g, d, t, os⟩ := s
    refine wpAny_call_exc_subT F T hC hN hni ?_ (by show 0 ≤ sizeLine; exact Nat.zero_le _)
    intro h' a hm
    have fresh : H a = none := I.hok.gone hm.new
    obtain ⟨t0, ht, _, _⟩ := hm.there
    have lay : ObjOk X.prog X.w (upd H a (exo a C none)) h' a (exo a C none) := exo_ok ht
    refine ⟨.ref a, _, I.un (t' := t) ?_ ?_, rfl, h a fresh⟩
    · exact {
        keep := fun b u z _ _ _ => hm.keeps b u z
        slot := fun b u z _ _ _ => ⟨u.slots, hm.keeps b u z⟩
        free := fun b u z n _ => by rw [upd_ne (fun e => by rw [e] at z; have := hm.new; rw [this] at z; cases z)]; exact n
        there := fun b u z _ => ⟨u, hm.keeps b u z⟩
        tups := fun b xs z => by rw [upd_ne (ne_of_none z fresh)]; exact z
        frzs := fun b o u z => by rw [upd_ne (ne_of_none z fresh)]; exact z
        tbls := fun b ps z => ⟨#[], by rw [upd_ne (ne_of_none z fresh), z]; simp⟩ }
    · intro b u z
      by_cases e : b = a
      · subst e
        rw [upd_same] at z
        cases z
        exact lay
      · rw [upd_ne e] at z
        exact (I.hok b u z).stay (fun c v _ y => hm.keeps c v y) (fun c y => by rw [upd_ne (ne_of_none y fresh)]; exact y)
          fun c xs y => by rw [upd_ne (ne_of_none y fresh)]; exact y

/-- C(e, ..), C's own __init__ keeping sp -/
def tErI (C : Addr) (sp : Sp) (ta : TA) : TE := fun σ H Q => ta σ H fun vs H1 => vs.length ≤ 1000 ∧ ∀ a, H1 a = none →
  sp (.ref a :: vs) (upd H1 a (exo a C none)) (fun v H2 => v = .non ∧ Q (.ref a) H2) (fun _ _ _ => False)
theorem pe_erI {x : Str} {C fI : Addr} {k : Nat} {fd : FuncData} {ps : List Str} {sp : Sp} {e : Expr} {es : List Expr} {ta : TA} {p pos : Pos}
    (T : OexC X.K C) (iC : PySem.W.findIn X.K (.ref C) "__init__" = some (some (.ref fI))) (tI : PySem.W.typeIn X.K (.ref fI) = some (.type "function"))
    (F1 : FnOk X.prog X.w X.K X.mg X.base CX k fI fd ps sp) (hr : Room (k + 1) X.A) (hb : Binds X.K fd ps [])
    (hx : Passes CX X (fun _ _ _ => False)) (hg : Gl X x) (hm : X.mg x = some (.ref C)) (ha : PA X (e :: es) ta)
    (hdb : (x == ("__debug__" : Str)) = false := by decide)
    (he : starEach (e :: es) X.env = (false, eval e X.env) :: starEach es X.env := by rfl)
    (hpl : (backTo pos (starEach es X.env)).any (·.1) = false := by rfl) :
    PE X (.Call (.Name x p) (e :: es) [] pos) (tErI C sp ta) where
  run := by
    intro pins s σ H Q I h
    obtain ⟨nm, q, N, bs, bm, sn, sub, ab, col, dd, k0, k1, k2, k3, k5, hC, hbm⟩ := T.cls
    refine wpAny_Call_Name_kw (ld_glob I hg hm ?_ hdb)
    refine PySem.W.callWith_K (h₀ := X.base) I.ok.mod.kin T.kC (thn (ha.run pos pins s σ H _ I h) ?_) he hpl
    rintro us s1 ⟨vs, H1, I1, rel, few, next⟩
    refine ⟨I1.kIn, ?_⟩
    show wpAny _ _ (call (.ref C) us) _ _ _
    obtain ⟨hp, g, dr, tk, os⟩ := s1
    have above : hp.objs.size ≤ hp.objs.size + 1 := Nat.le_succ _
    have call := next (hp.objs.size + 1) (I1.hok.fresh above)
    have kept : ∀ b o, hp.get? b = some o → ((hp.push (PySem.W.kdv_tup us)).push (PySem.HandSPX.excO C hp.objs.size)).get? b = some o :=
      fun b o z => Heap.get?_push_of_some _ (Heap.get?_push_of_some _ z)
    have there : ((hp.push (PySem.W.kdv_tup us)).push (PySem.HandSPX.excO C hp.objs.size)).get? (hp.objs.size + 1) = some (PySem.HandSPX.excO C hp.objs.size) := by heap_get
    have I2 := I1.laid (t' := tk) (o := exo (hp.objs.size + 1) C none) kept above (exo_ok there)
    have rel2 : Vals (V.ref (hp.objs.size + 1) :: vs) (Value.ref (hp.objs.size + 1) :: us) := .cons rfl rel
    have len2 : (Value.ref (hp.objs.size + 1) :: us ++ []).length = ps.length := by
      rw [List.append_nil, ← rel2.length]
      exact F1.len _ _ _ _ call
    have usz : us.length ≤ sizeLine := by
      have := Paired.length rel
      rw [sizeLine_eq]
      omega
    have bound := hb _ (Value.ref (hp.objs.size + 1) :: us) I2.kIn len2
    rw [List.append_nil] at bound
    refine wpAny_call (PySem.HandSPX.call_own F.excBase_ValueError (fun Y => PySem.HandSPX.refsVE_contains Y bm hbm) (I1.kIn _ _ hC)
      (PySem.W.looks_findIn I1.kIn iC) (fun self => PySem.W.bind_fn I1.kIn self tI) usz ?_)
    refine codeAny_mono (F1.run _ X.stack _ _ ⟨Value.ref (hp.objs.size + 1) :: us, []⟩ _ _ _ (fun _ _ _ => False) (hr.make C us [])
      (I2.env0.make C us []) bound rel2 call) ?_
    intro r s' hr'
    match r, hr' with
    | .error er, z => exact hx pins σ _ _ er s' I2 z
    | .ok (.ret u), z =>
      obtain ⟨v, H2, I3, rv, ev, q2⟩ := I2.after z
      subst ev
      exact ⟨rv, ⟨V.ref (hp.objs.size + 1), H2, I3, rfl, q2⟩⟩
    | .ok .next, z => exact z.elim
    | .ok .brk, z => exact z.elim
    | .ok .cont, z => exact z.elim
end
end Gd

/-! Ge: the end of a law row over a def of the kind FnG. -/
namespace Gd
open PySem PySem.Spec PyProof.Rows L2

/-- what the law's call finds: an abstract heap that tracks the script at most, a base without it -/
structure Entry (P : Program) (w : World) (K : PySem.W.Frag) (mg : Str → Option Value) (s : Shared) (a : Addr) (ns : List Int)
    (H : Hp) (base : Heap) : Prop where
  only : Only H
  script : SqL K H a (ns.map V.int)
  kin : K.In base
  glob : base.Ns mainGlobals mg
  env : Env0 P w K mg base callerA [] s H
  old : ∀ (H' : Hp) (s' : Shared), Un [] [] H H' s.heap s'.heap → HOk P w H' s'.heap → PySem.OldK s.heap s'.heap

section
variable {P : Program} {w : World} {K : PySem.W.Frag} {mg mb : Str → Option Value} {s : Shared} {a : Addr} {vs : List Value} {ns : List Int}
theorem entry_of {H : Hp} (kin : K.In s.heap) (hns : s.heap.Ns mainGlobals mg) (hb : s.heap.Ns builtinsNs mb)
    (hbb : ∀ x : Str, x ≠ "__name__" → mb x = bootBuiltins x) (hlim : s.heap.NoLimit) (hg : s.gens = #[])
    (ha : s.heap.get? a = some { cls := .type "list", data := .seq vs.toArray })
    (o1 : Only H) (o2 : SqL K H a (ns.map V.int)) (o3 : HOk P w H s.heap) (o4 : ∀ b, H b ≠ none → b = a)
    (o5 : H a ≠ none → K.lookup a = none) : ∃ base, Entry P w K mg s a ns H base := by
  -- whatever isn't the script's own object is in the base
  have stays : ∀ {b : Addr} {o : Obj}, s.heap.get? b = some o → (b = a → H b = none) → (hidT s.heap H).get? b = some o := by
    intro b o e h
    refine hidT_get e ?_
    by_cases z : b = a
    · exact h z
    · exact Classical.byContradiction fun q => z (o4 b q)
  have ns_in : ∀ {b : Addr} {m : Str → Option Value}, s.heap.Ns b m → (hidT s.heap H).Ns b m := by
    rintro b m ⟨o, es, ep, e, d, r⟩
    refine ⟨o, es, ep, stays e fun z => ?_, d, r⟩
    rw [z, ha] at e
    rw [← Option.some.inj e] at d
    cases d
  have kin' : K.In (hidT s.heap H) := by
    intro b o e
    refine stays (kin b o e) fun z => Classical.byContradiction fun q => ?_
    rw [z] at q e
    rw [o5 q] at e
    cases e
  obtain ⟨mc, l1, l2⟩ := hlim
  refine ⟨hidT s.heap H, o1, o2, kin', ns_in hns, ?_, ?_⟩
  · refine ⟨rfl, ⟨kin', ns_in hns, ⟨mb, ns_in hb, hbb⟩, ⟨mc, ns_in l1, l2⟩⟩, fun b o e => of_hidT e, Nat.le_of_eq (hidT_size _ _), trivial, ?_, o3, .of_eq hg⟩
    intro b hm
    exact (List.not_mem_nil hm).elim
  · intro H' s' un ok'
    refine PySem.OldK.of_keep fun b o e => ?_
    cases q : H b with
    | none => exact un.keep b o e q List.not_mem_nil List.not_mem_nil
    | some u =>
      obtain z | ⟨ob, xs, z⟩ := o1 b
      · rw [q] at z
        cases z
      · obtain ⟨was, _⟩ := o3 b _ z
        obtain ⟨still, _⟩ := ok' b _ (un.frzs b ob _ z)
        rw [e] at was
        rw [Option.some.inj was]
        exact still

theorem entry_is (kin : K.In s.heap) (hns : s.heap.Ns mainGlobals mg) (hb : s.heap.Ns builtinsNs mb)
    (hbb : ∀ x : Str, x ≠ "__name__" → mb x = bootBuiltins x) (hlim : s.heap.NoLimit) (hg : s.gens = #[])
    (ha : s.heap.get? a = some { cls := .type "list", data := .seq vs.toArray })
    (hi : IntsAre vs ns) (hl : ns.length ≤ sizeLine) : ∃ H base, Entry P w K mg s a ns H base := by
  have rv := vals_ints hi
  have ln := hi.length
  cases hk : K.lookup a with
  | some o =>
    have e := kin a o hk
    rw [ha] at e
    cases e
    have sq : SqL K (fun _ => none) a (ns.map V.int) :=
      .inr ⟨_, vs.toArray, _, hk, rfl, rfl, rfl, by rw [List.size_toArray, ln]; exact hl, by simpa using rv⟩
    obtain ⟨base, E⟩ := entry_of (P := P) (w := w) kin hns hb hbb hlim hg ha (fun _ => .inl rfl) sq
      (fun b u z => by cases (show (none : Option HO) = some u from z)) (fun b z => absurd rfl z) fun z => absurd rfl z
    exact ⟨_, base, E⟩
  | none =>
    let H : Hp := fun b => if b = a then some (.frz { cls := .type "list", data := .seq vs.toArray } (.lst (ns.map V.int))) else none
    have at_a : H a = some (.frz { cls := .type "list", data := .seq vs.toArray } (.lst (ns.map V.int))) := if_pos rfl
    have off_a : ∀ {b}, b ≠ a → H b = none := fun z => if_neg z
    have ok : HOk P w H s.heap := by
      intro b u z
      by_cases q : b = a
      · subst q
        rw [at_a] at z
        cases z
        exact ⟨ha, by rw [List.length_map]; exact hl, vs, _, rv, ha⟩
      · rw [off_a q] at z
        cases z
    have on : Only H := by
      intro b
      by_cases q : b = a
      · subst q
        exact .inr ⟨_, _, at_a⟩
      · exact .inl (off_a q)
    obtain ⟨base, E⟩ := entry_of (P := P) (w := w) kin hns hb hbb hlim hg ha on (.inl (.inr ⟨_, at_a⟩)) ok
      (fun b z => Classical.byContradiction fun q => z (off_a q)) fun _ => hk
    exact ⟨H, base, E⟩
end

theorem walkG {l : PySem.W.OpenLaw} {n k : Nat} {q : Program} {loose : List Str} {XP : (Str → Option Value) → Heap → Prop}
    {YP : World → Heap → Prop} {d : DefRec} {K : Params → PySem.W.Frag} {sp : World → Sp} {x : Str}
    (hn : l.most = some n) (hn2 : n ≤ sizeLine) (hdf : d.params.defaults = []) (hr : Room k callerA)
    (hY : ∀ (w : World) (h : Heap), YP w h → (K w.params).In h)
    (F : ∀ (w : World) (mg : Str → Option Value) (fa : Addr) (h : Heap), (K w.params).In h → h.Ns mainGlobals mg → mg d.name = some (.ref fa) →
      ∃ fd : FuncData, (∀ (s : Shared) (u : Value), BindsTo s fd ⟨[u], []⟩ [(x, u)]) ∧
        ∀ base : Heap, (K w.params).In base → base.Ns mainGlobals mg → FnG l.prog w (K w.params) mg base CX0 k fa fd [x] (sp w))
    (hsp : ∀ (w : World) (H : Hp) (a : Addr) (ns : List Int), ns.length ≤ n → Only H → SqL (K w.params) H a (ns.map V.int) →
      sp w [.ref a] H (fun v _ => v = .bl true) fun _ _ _ => False) :
    PySem.W.WalkO q loose XP YP l.row.toRowW d [] (fun f vs => PySem.call f vs) := by
  refine Att.attach_call hn hdf ?_
  intro w s₀ s₁ mg mb fa o pm cd doc a vs ns G Y ho hd hcd hmg hobj hints hlen hgens
  have kin := hY w _ Y
  obtain ⟨fd, binds, all⟩ := F w mg fa _ kin G.T.g hmg
  obtain ⟨H, base, E⟩ := entry_is (P := l.prog) (w := w) kin G.T.g G.T.b G.T.builtins G.T.nolimit hgens hobj hints (Nat.le_trans hlen hn2)
  have run := (all base E.kin E.glob).go callerA [] s₁ H ⟨[.ref a], []⟩ [.ref a] [.ref a] _ _ rfl hr E.env (binds s₁ (.ref a)) (.cons rfl .nil)
    (hsp w H a ns hlen E.only E.script)
  refine codeAny_mono run ?_
  intro res s' hres
  match res, hres with
  | .ok (.ret u), ⟨v, H', os, bare, un, ok', rel, e⟩ =>
    subst e
    cases (show u = Value.bool true from rel)
    exact ⟨rfl, E.old H' s' un ok', os, bare⟩
end Gd

/-! Gr: repr of data, lists and tuples and dicts within one another. -/
namespace Gd
open PySem PySem.Spec PyProof.Rows L2
def kD : Key → PyData
  | .inl i => .int i
  | .inr x => .str x
mutual
/-- v is the data d, at the abstract heap -/
inductive Dq (K : PySem.W.Frag) (H : Hp) : V → PyData → Prop
  | non : Dq K H .non .none
  | bl (b : Bool) : Dq K H (.bl b) (.bool b)
  | int (i : Int) : Dq K H (.int i) (.int i)
  | str (x : Str) : Dq K H (.str x) (.str x)
  | lst {a : Addr} {xs : List V} {ds : List PyData} : SqL K H a xs → DqAll K H xs ds → Dq K H (.ref a) (.list ds)
  | tup {a : Addr} {xs : List V} {ds : List PyData} : SqT K H a xs → DqAll K H xs ds → Dq K H (.ref a) (.tuple ds)
  | dct {a : Addr} {kvs : List (Key × V)} {ds : List (PyData × PyData)} : Rd H a (.dK kvs) → DqKv K H kvs ds → Dq K H (.ref a) (.dict ds)
inductive DqAll (K : PySem.W.Frag) (H : Hp) : List V → List PyData → Prop
  | nil : DqAll K H [] []
  | cons {v : V} {vs : List V} {d : PyData} {ds : List PyData} : Dq K H v d → DqAll K H vs ds → DqAll K H (v :: vs) (d :: ds)
inductive DqKv (K : PySem.W.Frag) (H : Hp) : List (Key × V) → List (PyData × PyData) → Prop
  | nil : DqKv K H [] []
  | cons {k : Key} {v : V} {vs : List (Key × V)} {d : PyData} {ds : List (PyData × PyData)} : Dq K H v d → DqKv K H vs ds → DqKv K H ((k, v) :: vs) ((kD k, d) :: ds)
end

theorem ram_nil {h : Heap} {n : Nat} : ReadAtMost h n [] := fun b hb => (List.not_mem_nil hb).elim
/-- a value's own repr, and what it reads -/
structure Rp (prog : Program) (w : World) (h : Heap) (u : Value) (d : PyData) : Prop where
  reads : ∃ as, Reads h u d as
  repr : d.showable = true → d.shown.length ≤ sizeLine → ∃ bs, ReadAtMost h d.depth bs ∧ ReprK prog w bs h d.depth u d.shown
structure RpAll (prog : Program) (w : World) (h : Heap) (us : List Value) (ds : List PyData) : Prop where
  reads : ∃ as, ReadsAll h us ds as
  repr : PyData.showableAll ds = true → (∀ t ∈ PyData.shownAll ds, t.length ≤ sizeLine) →
    ∃ bs, ReadAtMost h (PyData.depthAll ds) bs ∧ ReprAllK prog w bs h (PyData.depthAll ds) us (PyData.shownAll ds)
section
variable {prog : Program} {w : World} {h : Heap}
theorem RpAll.nil : RpAll prog w h [] [] := ⟨⟨_, .nil⟩, fun _ _ => ⟨[], ram_nil, by simp only [PyData.shownAll]; exact .nil⟩⟩
theorem RpAll.cons {u : Value} {d : PyData} {us : List Value} {ds : List PyData} (a : Rp prog w h u d) (b : RpAll prog w h us ds) : RpAll prog w h (u :: us) (d :: ds) where
  reads := by
    obtain ⟨as, r⟩ := a.reads
    obtain ⟨bs, rs⟩ := b.reads
    exact ⟨_, .cons r rs⟩
  repr := by
    intro hs hz
    obtain ⟨s1, s2⟩ : d.showable = true ∧ PyData.showableAll ds = true := by simpa [PyData.showableAll] using hs
    obtain ⟨b1, m1, k1⟩ := a.repr s1 (hz _ (by simp only [PyData.shownAll]; exact List.mem_cons_self ..))
    obtain ⟨b2, m2, k2⟩ := b.repr s2 fun t ht => hz t (by simp only [PyData.shownAll]; exact List.mem_cons_of_mem _ ht)
    refine ⟨b1 ++ b2, ?_, ?_⟩
    · simp only [PyData.depthAll]
      exact (m1.mono (Nat.le_max_left _ _)).append (m2.mono (Nat.le_max_right _ _))
    · simp only [PyData.depthAll, PyData.shownAll]
      have sub1 : ∀ c ∈ b1, c ∈ b1 ++ b2 := fun c hc => List.mem_append_left _ hc
      have sub2 : ∀ c ∈ b2, c ∈ b1 ++ b2 := fun c hc => List.mem_append_right _ hc
      exact .cons ((k1.more sub1).level_le (Nat.le_max_left _ _)) (k2.more_le sub2 (Nat.le_max_right _ _))
theorem Rp.list {a : Addr} {o : Obj} {us : List Value} {n : Nat} {ds : List PyData} (ho : h.get? a = some o) (hc : o.cls = .type "list") (hd : o.data = .seq us.toArray n) (all : RpAll prog w h us ds) : Rp prog w h (.ref a) (.list ds) := by
  obtain ⟨as, rs⟩ := all.reads
  have r : Reads h (.ref a) (.list ds) _ := .list ho hc hd rs
  refine ⟨⟨_, r⟩, fun hs hz => ?_⟩
  have hz' : (listText (PyData.shownAll ds)).length ≤ sizeLine := by simpa only [PyData.shown] using hz
  obtain ⟨bs, m, k⟩ := all.repr (by simpa [PyData.showable] using hs) fun t ht => Nat.le_trans (listText_mem_le ht) hz'
  have deep : PyData.depthAll ds < PyData.depth (.list ds) := by simp only [PyData.depth]; omega
  have off : a ∉ bs := not_mem_of_deeper r deep m
  refine ⟨a :: bs, ReadAtMost.cons r (Nat.le_of_lt deep) m, ?_⟩
  simp only [PyData.depth, PyData.shown]
  cases us with
  | nil =>
    cases rs
    simp only [PyData.shownAll, listText_nil]
    exact ReprK.listEmpty ho hc hd
  | cons u us => exact ReprK.list ho hc hd off (by simpa using k.length_eq) fun i y e => k.item i y (by simpa using e)
theorem Rp.tuple {a : Addr} {o : Obj} {us : List Value} {n : Nat} {ds : List PyData} (ho : h.get? a = some o) (hc : o.cls = .type "tuple") (hd : o.data = .seq us.toArray n) (all : RpAll prog w h us ds) : Rp prog w h (.ref a) (.tuple ds) := by
  obtain ⟨as, rs⟩ := all.reads
  have r : Reads h (.ref a) (.tuple ds) _ := .tuple ho hc hd rs
  refine ⟨⟨_, r⟩, fun hs hz => ?_⟩
  have hz' : (tupleText (PyData.shownAll ds)).length ≤ sizeLine := by simpa only [PyData.shown] using hz
  obtain ⟨bs, m, k⟩ := all.repr (by simpa [PyData.showable] using hs) fun t ht => Nat.le_trans (tupleText_mem_le ht) hz'
  have deep : PyData.depthAll ds < PyData.depth (.tuple ds) := by simp only [PyData.depth]; omega
  refine ⟨a :: bs, ReadAtMost.cons r (Nat.le_of_lt deep) m, ?_⟩
  simp only [PyData.depth, PyData.shown]
  exact ReprK.tuple ho hc hd (not_mem_of_deeper r deep m) k
theorem Rp.dict {a : Addr} {o : Obj} {es : Array DictEntry} {n : Nat} {ds : List (PyData × PyData)} (ho : h.get? a = some o) (hc : o.cls = .type "dict") (hd : o.data = .dict es n) (low : (a == sysModules) = false)
    (ks : RpAll prog w h (es.toList.map (·.key)) (ds.map (·.1))) (vs : RpAll prog w h (es.toList.map (·.val)) (ds.map (·.2))) : Rp prog w h (.ref a) (.dict ds) := by
  obtain ⟨as, r1⟩ := ks.reads
  obtain ⟨bs, r2⟩ := vs.reads
  have r : Reads h (.ref a) (.dict ds) _ := .dict ho hc hd r1 r2
  refine ⟨⟨_, r⟩, fun hs hz => ?_⟩
  have hz' : (dictText (PyData.shownKv ds)).length ≤ sizeLine := by simpa only [PyData.shown] using hz
  obtain ⟨s1, s2⟩ := PyData.showableKv_split ds (by simpa [PyData.showable] using hs)
  obtain ⟨b1, m1, k1⟩ := ks.repr s1 fun t ht => by
    obtain ⟨p, hp, hl⟩ := PyData.shownKv_key_le ds t ht
    exact Nat.le_trans hl (Nat.le_trans (dictText_mem_le hp) hz')
  obtain ⟨b2, m2, k2⟩ := vs.repr s2 fun t ht => by
    obtain ⟨p, hp, hl⟩ := PyData.shownKv_val_le ds t ht
    exact Nat.le_trans hl (Nat.le_trans (dictText_mem_le hp) hz')
  have deep : PyData.depthKv ds < PyData.depth (.dict ds) := by simp only [PyData.depth]; omega
  have m := (m1.mono (PyData.depthAll_keys_le ds)).append (m2.mono (PyData.depthAll_vals_le ds))
  refine ⟨a :: (b1 ++ b2), ReadAtMost.cons r (Nat.le_of_lt deep) m, ?_⟩
  simp only [PyData.depth, PyData.shown, PyData.shownKv_eq]
  have sub1 : ∀ c ∈ b1, c ∈ b1 ++ b2 := fun c hc => List.mem_append_left _ hc
  have sub2 : ∀ c ∈ b2, c ∈ b1 ++ b2 := fun c hc => List.mem_append_right _ hc
  exact ReprK.dict ho hc hd low (not_mem_of_deeper r deep m) (ReprEntriesK.of_two es.toList _ _ (k1.more_le sub1 (PyData.depthAll_keys_le ds)) (k2.more_le sub2 (PyData.depthAll_vals_le ds)))
theorem Rp.int (i : Int) (t : Tok) : Rp prog w h (.int i t) (.int i) :=
  ⟨⟨_, .int i t⟩, fun hs _ => ⟨[], ram_nil, by simp only [PyData.shown]; exact .of_is (ReprIs.int t (by simpa [PyData.showable] using hs)) _ _ _⟩⟩
theorem Rp.str (x : Str) (t : Tok) : Rp prog w h (.str x t) (.str x) :=
  ⟨⟨_, .str x t⟩, fun _ hz => ⟨[], ram_nil, by simp only [PyData.shown]; exact .of_is (ReprIs.str x t (by simpa only [PyData.shown] using hz)) _ _ _⟩⟩
theorem Rp.bool (b : Bool) : Rp prog w h (.bool b) (.bool b) :=
  ⟨⟨_, .bool b⟩, fun _ _ => ⟨[], ram_nil, by simp only [PyData.shown]; exact .of_is (ReprIs.bool b) _ _ _⟩⟩
theorem Rp.none : Rp prog w h .none .none :=
  ⟨⟨_, .none⟩, fun _ _ => ⟨[], ram_nil, by simp only [PyData.shown]; exact .of_is ReprIs.none _ _ _⟩⟩
end
section
variable {X : Cx} {pins : List (Addr × Obj)} {σ : L2.St} {H : Hp} {s : Shared}
theorem key_rp {prog : Program} {w : World} {h : Heap} {k : Key} {u : Value} (e : keyIs k u = true) : Rp prog w h u (kD k) := by
  rcases keyIs_shape e with ⟨i, t, rfl, rfl⟩ | ⟨x, t, rfl, rfl⟩
  · exact Rp.int i t
  · exact Rp.str x t
mutual
theorem Dq.rp (I : Inv X pins σ H s) : ∀ (d : PyData) (v : V) (u : Value), Dq X.K H v d → RelV v u → Rp X.prog X.w s.heap u d
  | .none, _, _, h, r => by cases h; cases r; exact Rp.none
  | .bool b, _, _, h, r => by cases h; cases r; exact Rp.bool b
  | .int i, _, _, h, r => by cases h; obtain ⟨t, rfl⟩ := r; exact Rp.int i t
  | .str x, _, _, h, r => by cases h; obtain ⟨t, rfl⟩ := r; exact Rp.str x t
  | .list ds, _, _, h, r => by
    cases h with
    | lst hs ha =>
      cases r
      obtain ⟨its, rv, ⟨o, n, ho, hc, _, hd⟩, _⟩ := I.list hs
      exact Rp.list ho hc hd (DqAll.rp I ds _ its ha rv)
  | .tuple ds, _, _, h, r => by
    cases h with
    | tup hs ha =>
      cases r
      obtain ⟨its, rv, ⟨o, ho, hc, n, hd⟩, _⟩ := I.tuple hs
      exact Rp.tuple ho hc hd (DqAll.rp I ds _ its ha rv)
  | .dict ds, _, _, h, r => by
    cases h with
    | dct hs ha =>
      cases r
      obtain ⟨_, low, vs, kv, o, es, ep, ho, hx, hd, _, hp, _⟩ := dk_rd I.hok hs
      obtain ⟨k1, k2⟩ := DqKv.rp I ds _ vs es.toList ha kv hp
      exact Rp.dict ho hx.1 hd low k1 k2
theorem DqAll.rp (I : Inv X pins σ H s) : ∀ (ds : List PyData) (vs : List V) (us : List Value), DqAll X.K H vs ds → Vals vs us → RpAll X.prog X.w s.heap us ds
  | [], _, _, h, r => by cases h; cases r; exact RpAll.nil
  | d :: ds, _, _, h, r => by
    cases h with
    | cons h1 h2 =>
      cases r with
      | cons r1 r2 => exact RpAll.cons (Dq.rp I d _ _ h1 r1) (DqAll.rp I ds _ _ h2 r2)
theorem DqKv.rp (I : Inv X pins σ H s) : ∀ (ds : List (PyData × PyData)) (kvs : List (Key × V)) (vs : List (Key × Value)) (es : List DictEntry), DqKv X.K H kvs ds → KV kvs vs → Pairs (mixKind X.prog X.w) es vs →
    RpAll X.prog X.w s.heap (es.map (·.key)) (ds.map (·.1)) ∧ RpAll X.prog X.w s.heap (es.map (·.val)) (ds.map (·.2))
  | [], _, _, _, h, r, p => by cases h; cases r; cases p; exact ⟨RpAll.nil, RpAll.nil⟩
  | (dk, d) :: ds, _, _, _, h, r, p => by
    cases h with
    | cons h1 h2 =>
      cases r with
      | cons r1 r2 =>
        obtain ⟨r0, r1⟩ := r1
        cases p with
        | cons hk hv ht =>
          obtain ⟨a, b⟩ := DqKv.rp I ds _ _ _ h2 r2 ht
          simp only at r0 r1
          subst r0
          exact ⟨RpAll.cons (key_rp hk) a, RpAll.cons (Dq.rp I d _ _ h1 (by rw [← hv] at r1; exact r1)) b⟩
end
end
/-- repr(x) of data -/
def rReprQ (K : PySem.W.Frag) : List V → Hp → VK → Prop := fun xs H Q => ∃ x d, xs = [x] ∧ Dq K H x d ∧
  d.showable = true ∧ d.depth ≤ 60 ∧ d.shown.length ≤ sizeLine ∧ Q (.str d.shown) H
theorem call_reprQ {X : Cx} (hgd : X.A.guards = some []) (hu : X.A.units + 64 < cLine) : CallR X (.builtin "repr") (rReprQ X.K) := by
  intro pins s σ H xs us Q I rel h
  obtain ⟨x, d, rfl, dq, sh, hd, hz, q⟩ := h
  cases rel with
  | cons rx rt =>
    cases rt
    rename_i u
    cases dq with
    | non =>
      cases rx
      exact PySem.P.repr_of_none ⟨.str _, H, I.tok _, ⟨_, rfl⟩, q⟩
    | bl b =>
      cases rx
      exact PySem.P.repr_of_bool ⟨.str _, H, I.tok _, ⟨_, rfl⟩, q⟩
    | int i =>
      obtain ⟨t, rfl⟩ := rx
      exact PySem.P.repr_of_int (by simpa [PyData.showable] using sh) ⟨.str _, H, I.tok _, ⟨_, rfl⟩, q⟩
    | str z =>
      obtain ⟨t, rfl⟩ := rx
      exact PySem.P.repr_of_str ⟨.str _, H, I.tok _, ⟨_, rfl⟩, q⟩ (by simpa only [PyData.shown] using hz)
    | lst hs ha =>
      cases rx
      rename_i a zs ds
      obtain ⟨its, rv, ⟨o, n, ho, hc, _, hdt⟩, _⟩ := I.list hs
      have all := DqAll.rp I ds _ its ha rv
      obtain ⟨as, rs⟩ := all.reads
      have r : Reads s.heap (.ref a) (.list ds) _ := .list ho hc hdt rs
      have hz' : (listText (PyData.shownAll ds)).length ≤ sizeLine := by simpa only [PyData.shown] using hz
      obtain ⟨bs, m, k⟩ := all.repr (by simpa [PyData.showable] using sh) fun t ht => Nat.le_trans (listText_mem_le ht) hz'
      have deep : PyData.depthAll ds < PyData.depth (.list ds) := by simp only [PyData.depth]; omega
      refine call_repr_slot (by omega) ⟨o, ho, hc⟩ F.slot_list_repr.toG ?_
      cases its with
      | nil =>
        cases rs
        refine call_list_repr_empty ⟨o, ho, hc⟩ ho hdt ?_
        exact ⟨_, _, rfl, .str _, H, I.tok _, ⟨_, rfl⟩, by simpa only [PyData.shown, PyData.shownAll, listText_nil] using q⟩
      | cons u0 us0 =>
        refine call_list_reprK ho hc hdt (not_mem_of_deeper r deep m) (by simpa using k.length_eq) (fun i y e => k.item i y (by simpa using e)) hgd (fun b _ => Clear.nil b) (by show X.A.units + 1 + _ < cLine; omega) (fun _ _ e => e) (fun h' t tk kk => ?_) hz'
        exact ⟨_, _, rfl, .str _, H, I.kept kk, ⟨_, rfl⟩, by simpa only [PyData.shown] using q⟩
    | tup hs ha =>
      cases rx
      rename_i a zs ds
      obtain ⟨its, rv, ⟨o, ho, hc, n, hdt⟩, _⟩ := I.tuple hs
      have all := DqAll.rp I ds _ its ha rv
      obtain ⟨as, rs⟩ := all.reads
      have r : Reads s.heap (.ref a) (.tuple ds) _ := .tuple ho hc hdt rs
      have hz' : (tupleText (PyData.shownAll ds)).length ≤ sizeLine := by simpa only [PyData.shown] using hz
      obtain ⟨bs, m, k⟩ := all.repr (by simpa [PyData.showable] using sh) fun t ht => Nat.le_trans (tupleText_mem_le ht) hz'
      have deep : PyData.depthAll ds < PyData.depth (.tuple ds) := by simp only [PyData.depth]; omega
      refine call_repr_slot (by omega) ⟨o, ho, hc⟩ F.slot_tuple_repr ?_
      refine call_tuple_reprK ho hc hdt (not_mem_of_deeper r deep m) k hgd (fun b _ => Clear.nil b) (by show X.A.units + 1 + _ < cLine; omega) (fun _ _ e => e) (fun h' t tk kk => ?_) hz'
      exact ⟨_, _, rfl, .str _, H, I.kept kk, ⟨_, rfl⟩, by simpa only [PyData.shown] using q⟩
    | dct hs ha =>
      cases rx
      rename_i a kvs ds
      obtain ⟨_, low, vs, kv, o, es, ep, ho, hx, hdt, _, hp, _⟩ := dk_rd I.hok hs
      obtain ⟨ks, vals⟩ := DqKv.rp I ds _ vs es.toList ha kv hp
      obtain ⟨as, r1⟩ := ks.reads
      obtain ⟨bs, r2⟩ := vals.reads
      have r : Reads s.heap (.ref a) (.dict ds) _ := .dict ho hx.1 hdt r1 r2
      have hz' : (dictText (PyData.shownKv ds)).length ≤ sizeLine := by simpa only [PyData.shown] using hz
      obtain ⟨s1, s2⟩ := PyData.showableKv_split ds (by simpa [PyData.showable] using sh)
      obtain ⟨b1, m1, k1⟩ := ks.repr s1 fun t ht => by
        obtain ⟨p, hp, hl⟩ := PyData.shownKv_key_le ds t ht
        exact Nat.le_trans hl (Nat.le_trans (dictText_mem_le hp) hz')
      obtain ⟨b2, m2, k2⟩ := vals.repr s2 fun t ht => by
        obtain ⟨p, hp, hl⟩ := PyData.shownKv_val_le ds t ht
        exact Nat.le_trans hl (Nat.le_trans (dictText_mem_le hp) hz')
      have deep : PyData.depthKv ds < PyData.depth (.dict ds) := by simp only [PyData.depth]; omega
      have m := (m1.mono (PyData.depthAll_keys_le ds)).append (m2.mono (PyData.depthAll_vals_le ds))
      have sub1 : ∀ c ∈ b1, c ∈ b1 ++ b2 := fun c hc => List.mem_append_left _ hc
      have sub2 : ∀ c ∈ b2, c ∈ b1 ++ b2 := fun c hc => List.mem_append_right _ hc
      refine call_repr_slot (by omega) ⟨o, ho, hx.1⟩ F.slot_dict_repr ?_
      refine call_dict_reprK ho hx.1 hdt low (not_mem_of_deeper r deep m) (ReprEntriesK.of_two es.toList _ _ (k1.more_le sub1 (PyData.depthAll_keys_le ds)) (k2.more_le sub2 (PyData.depthAll_vals_le ds)))
        hgd (fun b _ => Clear.nil b) (by show X.A.units + 1 + _ < cLine; omega) (fun _ _ e => e) (fun h' t tk kk => ?_) (by rw [← PyData.shownKv_eq]; exact hz')
      exact ⟨_, _, rfl, .str _, H, I.kept kk, ⟨_, rfl⟩, by simpa only [PyData.shown, PyData.shownKv_eq] using q⟩
end Gd

/-! Lw: several clauses `except .. as n`; the end of a law row that makes lambdas, where no guard stands around. -/
namespace Gd
open PySem PySem.Spec PyProof.Rows L2

/-! ### several clauses, each with the name at slot i -/
abbrev Clause := Value × (Addr → Value → Option Addr → TS)
/-- behind the suite the name is gone -/
def offE (i : Nat) (D : Ends) : Ends :=
  { nx := fun σ H => D.nx (σ.set i none) H, rt := D.rt, bk := fun σ H => D.bk (σ.set i none) H, ct := fun σ H => D.ct (σ.set i none) H }
def wAll (K : PySem.W.Frag) (n i : Nat) (W : WX) (D : Ends) : List Clause → WX
  | [] => W
  | (c, ts) :: r => fun cls d σ H => ∃ b, PySem.W.exmOne K cls c = some b ∧
      (b = true → σ.length = n → ∀ a, H a = none → ts a cls d (offE i D) (σ.set i (some (.ref a))) H) ∧ (b = false → wAll K n i W D r cls d σ H)
inductive Clauses (X : Cx) (n : Str) : List ExceptHandler → List Clause → Prop
  | nil : Clauses X n [] []
  | cons {x : Str} {c : Value} {ts : Addr → Value → Option Addr → TS} {st : Stmt} {sts : List Stmt} {p1 p2 : Pos}
      {hds : List ExceptHandler} {l : List Clause} (nm : Names X x c)
      (su : ∀ (a : Addr) (oe : Obj) (cls : Value) (d : Option Addr) (pn : List (Addr × Obj)), Zc cls d oe →
        (∃ vs, oe.data = .fields vs) → PSs (X.suite a ((a, oe) :: pn)) (st :: sts) (ts a cls d))
      (rest : Clauses X n hds l) : Clauses X n (.ExceptHandler (some (.Name x p1)) (some n) (st :: sts) p2 :: hds) ((c, ts) :: l)

section
variable {X : Cx} {n : Str} {i : Nat} {body : List Stmt} {h₀ : ExceptHandler} {hds : List ExceptHandler} {l : List Clause} {pos : Pos} {tb : WX → TS} {W : WX}
theorem ps_tryAll (stk : X.stack = X.env :: X.outer) (frm : X.env.frame = some X.env.locals) (nd : X.N.Nodup) (at_ : X.N[i]? = some n)
    (loc : X.env.kindOf n = some .local) (tk : Takes X W)
    (hb : ∀ (V : WX) (pn : List (Addr × Obj)) (xe : Value → Shared → Prop), Takes (X.tr pn xe) V → PassesOwn (model X.prog X.w) X.A X.env xe →
      PSs (X.tr pn xe) body (tb V)) (hh : Clauses X n (h₀ :: hds) l) :
    PS X (.Try body (h₀ :: hds) [] [] pos) (fun D σ H => tb (wAll X.K X.N.length i W D l) D σ H) where
  run := by
    intro pins s σ H D I h
    have ok := I.ok
    have frames : X.A.frames = some (X.env :: X.outer) := by rw [ok.frames, stk]
    have isLoc : Loc X.env.scope n := .inl loc
    refine wpAny_Try_except (wpAny_mono ((hb (wAll X.K X.N.length i W D l) (X.pn ++ pins)
      (fun e s₁ => wpAny (model X.prog X.w) X.A (noteFrame e X.env)
        (fun _ s₂ => wpAny (model X.prog X.w) X.A (setFlight e none)
          (fun _ s₃ => wpAny (model X.prog X.w) X.A (handleBy e X.env (h₀ :: hds)) (SP X pins D) X.xe s₃) X.xe s₂) X.xe s₁)
      ?caught PassesOwn.looking).run [] s σ H D (I.toTry _) h) ?through fun _ _ z => z)
    case through =>
      intro f s1 q
      match f, q with
      | .next, ⟨σ', H', J, q⟩ => exact wpAny_execs_nil ⟨σ', H', J.ofTry ok, q⟩
      | .brk, ⟨σ', H', J, q⟩ => exact ⟨σ', H', J.ofTry ok, q⟩
      | .cont, ⟨σ', H', J, q⟩ => exact ⟨σ', H', J.ofTry ok, q⟩
      | .ret u, ⟨v, σ', H', J, r, q⟩ => exact ⟨v, σ', H', J.ofTry ok, r, q⟩
    case caught =>
      rintro u s' ⟨a, B, sI, pins', σ', H', cls, d, rfl, J0, nb, up, sky, na, os, ag, w⟩
      have J : Inv X pins σ' H' sI := J0.ofTry ok
      have sk : Sky B (X.env :: X.outer) a (Zc cls d) X.env.locals s'.heap := stk ▸ sky
      show wpAny (model X.prog X.w) X.A (noteFrame (.ref a) X.env) _ _ _
      refine Sky.land Zc.steady frames frm sk ?_
      intro hp fl up2
      have landed : Inv X pins σ' H' { s' with heap := hp } := J.landed nb fl.1 (up.trans up2) os ag
      obtain ⟨ob, vs, atA, zc, dat⟩ := fl.there
      have noFrame : a ∉ frs (X.env :: X.outer) := by
        intro hm
        obtain ⟨_, o', e', no⟩ := fl.2.2.1.mem hm
        rw [atA] at e'
        cases e'
        exact no _ dat
      have neL : a ≠ X.env.locals := fun z => noFrame (List.mem_filterMap.mpr ⟨X.env, List.mem_cons_self, by rw [frm, z]⟩)
      have neF : a ∉ X.fs := by
        intro hm
        obtain ⟨e, he, q⟩ := List.mem_filterMap.mp hm
        exact noFrame (List.mem_filterMap.mpr ⟨e, List.mem_cons_of_mem _ he, q⟩)
      have inSuite := landed.suite atA dat na neL neF
      have go : ∀ {hs : List ExceptHandler} {ls : List Clause}, Clauses X n hs ls → wAll X.K X.N.length i W D ls cls d σ' H' →
          wpAny (model X.prog X.w) X.A (handleBy (.ref a) X.env hs) (SP X pins D) X.xe { s' with heap := hp } := by
        intro hs ls k
        induction k with
        | nil =>
          intro w
          refine wpAny_handleBy_nil ?_
          obtain ⟨_, _, _, oe, vs2, T, oT, ts', he, hz, hd, h1, _⟩ := id fl
          unfold PySem.passOn
          refine wpAny_bind (wpAny_field he hd h1 ?_)
          have ref : ¬ ((Value.ref T == Value.none) = true) := by simp
          rw [if_neg ref]
          have fin : wpAny (model X.prog X.w) X.A (setFlight (.ref a) X.env.frame)
              (fun _ s4 => wpAny (model X.prog X.w) X.A (throw (.ref a) : Sem Flow) (SP X pins D) X.xe s4) X.xe { s' with heap := hp } := by
            rw [frm]
            refine HandSPX.setFlight_upZ fl fun h4 hh4 up4 => wpAny_throw (tk _ _ ?_)
            exact ⟨a, B, sI, pins, σ', H', cls, d, rfl, J, nb, (up.trans up2).trans up4, .inr (.inr (stk ▸ hh4)), na, os, ag, w⟩
          first
            | exact wpAny_bind (wpAny_pure (wpAny_bind fin))
            | exact wpAny_bind fin
        | @cons x c ts st sts p1 p2 hds2 l2 nm su rest ih =>
          rintro ⟨b, hb1, yes, no⟩
          refine wpAny_handleBy_cons (codeAny_handlers_test ?_) (fun q => by cases q)
          have typ : PySem.W.Looks (model X.prog X.w) hp (typeOf (.ref a)) cls :=
            fun A Q E s k q => wpAny_typeOf_ref (k _ _ atA) (by rw [zc.1]; exact q)
          have fits := PySem.W.exm_one (M := model X.prog X.w) (landed.kIn) typ hb1
          have named : ∀ {Q : Value → Shared → Prop} {E : Value → Shared → Prop}, Q c { s' with heap := hp } →
              wpAny (model X.prog X.w) (X.A.mark (some (.ref a))) (eval (.Name x p1) X.env) Q E { s' with heap := hp } := by
            intro Q E q
            obtain ⟨hg, dbg, hm | ⟨hm, hv, hn⟩⟩ := nm
            · exact ld_glob (X := X.suite a ((a, ob) :: (X.pn ++ pins))) inSuite hg hm q dbg
            · exact ld_blt (X := X.suite a ((a, ob) :: (X.pn ++ pins))) inSuite hg hm hv q hn dbg
          refine named (fits.here ?_)
          cases b with
          | false =>
            show wpAny _ X.A (handleBy (.ref a) X.env hds2) _ _ _
            exact ih (no rfl)
          | true =>
            refine codeAny_handlers_suite_as (HandSPX.lands_againZ fl ?_)
            intro h4 fl4 up4
            have land4 : Inv X pins σ' H' { s' with heap := h4 } := J.landed nb fl4.1 ((up.trans up2).trans up4) os ag
            obtain ⟨ob4, vs4, at4, z4, d4⟩ := fl4.there
            have in4 := land4.suite at4 d4 na neL neF
            refine store_ok (X := X.suite a ((a, ob4) :: (X.pn ++ pins))) (v := .ref a) in4 nd at_ isLoc rfl ?_ (.inr loc)
            intro s5 S5
            refine wpAny_mono ((su a ob4 cls d (X.pn ++ pins) z4 ⟨_, d4⟩).run [] s5 _ H' _ S5 (yes rfl J.len a na)) ?_ fun _ _ z => z.elim
            intro f s6 q
            have over : ∀ {σ6 : L2.St} {H6 : Hp} {Q : Shared → Prop}, Inv (X.suite a ((a, ob4) :: (X.pn ++ pins))) [] σ6 H6 s6 →
                (∀ s7, Inv X pins (σ6.set i none) H6 s7 → Q s7) →
                wpAny (model X.prog X.w) X.A (do bindName X.env n .none; unbindBehindTheSuite X.env n p2) (fun _ s7 => Q s7) X.xe s6 :=
              fun S q => gone_ok (S.unsuite ok) nd at_ loc q
            match f, q with
            | .next, ⟨σ6, H6, S6, q6⟩ => exact over S6 fun s7 J7 => ⟨_, _, J7, q6⟩
            | .brk, ⟨σ6, H6, S6, q6⟩ => exact over S6 fun s7 J7 => ⟨_, _, J7, q6⟩
            | .cont, ⟨σ6, H6, S6, q6⟩ => exact over S6 fun s7 J7 => ⟨_, _, J7, q6⟩
            | .ret u, ⟨v6, σ6, H6, S6, r6, q6⟩ => exact over S6 fun s7 J7 => ⟨_, _, _, J7, r6, q6⟩
      exact go hh w
end

/-! ### the law's end, the tables of its makers' code objects tracked -/
open LamX in
/-- what the law's call finds -/
structure EntryT (P : Program) (w : World) (K : PySem.W.Frag) (mg : Str → Option Value) (s : Shared) (a : Addr) (ns : List Int)
    (cs : List (Addr × Addr)) (H : Hp) (base : Heap) : Prop where
  tabs : ∀ p ∈ cs, H p.2 = some (.tbl #[])
  script : SqL K H a (ns.map V.int)
  kin : K.In base
  glob : base.Ns mainGlobals mg
  env : Env0 P w K mg base callerA [] s H
  bs : ∀ p ∈ cs, TabB base mg p.1 p.2
  old : ∀ (H' : Hp) (s' : Shared), Un [] [] H H' s.heap s'.heap → HOk P w H' s'.heap → PySem.OldK s.heap s'.heap

section
variable {P : Program} {w : World} {K : PySem.W.Frag} {mg mb : Str → Option Value} {s : Shared} {a : Addr} {vs : List Value} {ns : List Int} {cs : List (Addr × Addr)}
open LamX in
theorem entryT_of {H : Hp} (kin : K.In s.heap) (hns : s.heap.Ns mainGlobals mg) (hb : s.heap.Ns builtinsNs mb)
    (hbb : ∀ x : Str, x ≠ "__name__" → mb x = bootBuiltins x) (hlim : s.heap.NoLimit) (hg : s.gens = #[])
    (bmain : ∃ (bm : Addr) (ob : Obj), mg "__builtins__" = some (.ref bm) ∧ bm ≠ builtinsNs ∧ s.heap.get? bm = some ob ∧
      ob.cls = .type "module" ∧ ob.dict = some builtinsNs ∧ ob.data = .plain)
    (tabs : ∀ p ∈ cs, s.heap.get? p.2 = some { cls := .none, data := .fields #[] }) (noK : ∀ p ∈ cs, K.lookup p.2 = none)
    (heads : ∀ p ∈ cs, PySem.W.CodeHd s.heap p.1 p.2)
    (ha : s.heap.get? a = some { cls := .type "list", data := .seq vs.toArray })
    (o0 : ∀ p ∈ cs, H p.2 = some (.tbl #[])) (o1 : ∀ b, H b = none ∨ (∃ p ∈ cs, p.2 = b) ∨ ∃ o xs, H b = some (.frz o (.lst xs)))
    (o2 : SqL K H a (ns.map V.int)) (o3 : HOk P w H s.heap) (o4 : ∀ b, H b ≠ none → b = a ∨ ∃ p ∈ cs, p.2 = b)
    (o5 : H a ≠ none → K.lookup a = none) : ∃ base, EntryT P w K mg s a ns cs H base := by
  -- an object that is neither a sequence nor an empty record is in the base
  have stays : ∀ {b : Addr} {o : Obj}, s.heap.get? b = some o → (b = a → H b = none) → o.data ≠ .fields #[] → (hidT s.heap H).get? b = some o := by
    intro b o e h no
    refine hidT_get e (Classical.byContradiction fun q => ?_)
    obtain z | ⟨p, hp, z⟩ := o4 b q
    · exact q (h z)
    · have t := tabs p hp
      rw [z, e] at t
      rw [Option.some.inj t] at no
      exact no rfl
  have other : ∀ {b : Addr} {o : Obj}, s.heap.get? b = some o → (∀ xs n, o.data ≠ .seq xs n) → o.data ≠ .fields #[] → (hidT s.heap H).get? b = some o := by
    intro b o e nos nof
    refine stays e (fun z => ?_) nof
    rw [z, ha] at e
    rw [← Option.some.inj e] at nos
    exact (nos _ _ rfl).elim
  have ns_in : ∀ {b : Addr} {m : Str → Option Value}, s.heap.Ns b m → (hidT s.heap H).Ns b m := by
    rintro b m ⟨o, es, ep, e, d, r⟩
    refine ⟨o, es, ep, other e (fun xs n z => ?_) (fun z => ?_), d, r⟩
    · rw [d] at z
      cases z
    · rw [d] at z
      cases z
  have kin' : K.In (hidT s.heap H) := by
    intro b o e
    refine hidT_get (kin b o e) (Classical.byContradiction fun q => ?_)
    obtain z | ⟨p, hp, z⟩ := o4 b q
    · rw [z] at q e
      rw [o5 q] at e
      cases e
    · rw [← z, noK p hp] at e
      cases e
  have noPlain : ∀ {o : Obj}, o.data = .plain → (∀ xs n, o.data ≠ .seq xs n) ∧ o.data ≠ .fields #[] := by
    intro o d
    rw [d]
    refine ⟨fun xs n z => ?_, fun z => ?_⟩ <;> cases z
  obtain ⟨mc, l1, l2⟩ := hlim
  refine ⟨hidT s.heap H, o0, o2, kin', ns_in hns, ?_, ?_, ?_⟩
  · refine ⟨rfl, ⟨kin', ns_in hns, ⟨mb, ns_in hb, hbb⟩, ⟨mc, ns_in l1, l2⟩⟩, fun b o e => of_hidT e, Nat.le_of_eq (hidT_size _ _), trivial, ?_, o3, .of_eq hg⟩
    intro b hm
    exact (List.not_mem_nil hm).elim
  · intro p hp
    refine ⟨?_, ?_, ?_⟩
    · obtain ⟨o, us, file, tf, flags, tg, inF, text, tt, e1, r1, r2, r3, rest⟩ := heads p hp
      refine ⟨o, us, file, tf, flags, tg, inF, text, tt, other e1 (fun xs n z => ?_) (fun z => ?_), r1, r2, r3, rest⟩
      · rw [r2] at z
        cases z
      · rw [r2] at z
        cases z
        simp at r3
    · obtain ⟨bm, ob, b1, b2, b3, b4, b5, b6⟩ := bmain
      refine ⟨bm, ob, b1, b2, fun z => ?_, fun z => ?_, other b3 (noPlain b6).1 (noPlain b6).2, b4, b5, b6⟩
      · obtain ⟨o, es, ep, e, d, _⟩ := hns
        rw [z, e] at b3
        rw [← Option.some.inj b3, d] at b6
        cases b6
      · rw [z, tabs p hp] at b3
        rw [← Option.some.inj b3] at b6
        cases b6
    · intro z
      obtain ⟨o, es, ep, e, d, _⟩ := hns
      rw [z, tabs p hp] at e
      rw [← Option.some.inj e] at d
      cases d
  · intro H' s' un ok'
    have grown : ∀ p ∈ cs, ∃ more : Array Value, s'.heap.get? p.2 = some { cls := .none, data := .fields more } := by
      intro p hp
      obtain ⟨more, z⟩ := un.tbls p.2 #[] (o0 p hp)
      exact ⟨_, ok' p.2 _ z⟩
    have key : ∀ b o, (∀ p ∈ cs, p.2 ≠ b) → s.heap.get? b = some o → s'.heap.get? b = some o := by
      intro b o nb e
      cases q : H b with
      | none => exact un.keep b o e q List.not_mem_nil List.not_mem_nil
      | some u =>
        obtain z | ⟨p, hp, z⟩ | ⟨ob, xs, z⟩ := o1 b
        · rw [q] at z
          cases z
        · exact (nb p hp z).elim
        · obtain ⟨was, _⟩ := o3 b _ z
          obtain ⟨still, _⟩ := ok' b _ (un.frzs b ob _ z)
          rw [e] at was
          rw [Option.some.inj was]
          exact still
    refine ⟨fun b o e => ?_, fun b o e => ?_⟩
    · by_cases hb' : ∃ p ∈ cs, p.2 = b
      · obtain ⟨p, hp, rfl⟩ := hb'
        obtain ⟨more, hm⟩ := grown p hp
        have t := tabs p hp
        rw [e] at t
        rw [Option.some.inj t]
        exact .inr (.inl ⟨((heads p hp).tab (tabs p hp)).isCodeTable, rfl, #[], more, rfl, by rw [Array.empty_append]; exact hm⟩)
      · exact .inl (key b o (fun p hp z => hb' ⟨p, hp, z⟩) e)
    · by_cases hb' : ∃ p ∈ cs, p.2 = b
      · obtain ⟨p, hp, rfl⟩ := hb'
        obtain ⟨more, hm⟩ := grown p hp
        exact ⟨_, hm⟩
      · exact ⟨o, key b o (fun p hp z => hb' ⟨p, hp, z⟩) e⟩

open LamX in
theorem entryT_is (kin : K.In s.heap) (hns : s.heap.Ns mainGlobals mg) (hb : s.heap.Ns builtinsNs mb)
    (hbb : ∀ x : Str, x ≠ "__name__" → mb x = bootBuiltins x) (hlim : s.heap.NoLimit) (hg : s.gens = #[])
    (bmain : ∃ (bm : Addr) (ob : Obj), mg "__builtins__" = some (.ref bm) ∧ bm ≠ builtinsNs ∧ s.heap.get? bm = some ob ∧
      ob.cls = .type "module" ∧ ob.dict = some builtinsNs ∧ ob.data = .plain)
    (tabs : ∀ p ∈ cs, s.heap.get? p.2 = some { cls := .none, data := .fields #[] }) (noK : ∀ p ∈ cs, K.lookup p.2 = none)
    (heads : ∀ p ∈ cs, PySem.W.CodeHd s.heap p.1 p.2)
    (ha : s.heap.get? a = some { cls := .type "list", data := .seq vs.toArray })
    (hi : IntsAre vs ns) (hl : ns.length ≤ sizeLine) : ∃ H base, EntryT P w K mg s a ns cs H base := by
  have rv := vals_ints hi
  have ln := hi.length
  have noT : ¬ ∃ p ∈ cs, p.2 = a := by
    rintro ⟨p, hp, z⟩
    have t := tabs p hp
    rw [z, ha] at t
    have d := congrArg Obj.data (Option.some.inj t)
    cases d
  let T : Hp := fun b => if ∃ p ∈ cs, p.2 = b then some (.tbl #[]) else none
  have T_in : ∀ {b}, (∃ p ∈ cs, p.2 = b) → T b = some (.tbl #[]) := fun z => if_pos z
  have T_off : ∀ {b}, (¬ ∃ p ∈ cs, p.2 = b) → T b = none := fun z => if_neg z
  have okT : ∀ (H : Hp) b u, T b = some u → ObjOk P w H s.heap b u := by
    intro H b u z
    by_cases q : ∃ p ∈ cs, p.2 = b
    · rw [T_in q] at z
      cases z
      obtain ⟨p, hp, rfl⟩ := q
      exact tabs p hp
    · rw [T_off q] at z
      cases z
  cases hk : K.lookup a with
  | some o =>
    have e := kin a o hk
    rw [ha] at e
    cases e
    have sq : SqL K T a (ns.map V.int) :=
      .inr ⟨_, vs.toArray, _, hk, rfl, rfl, rfl, by rw [List.size_toArray, ln]; exact hl, by simpa using rv⟩
    obtain ⟨base, E⟩ := entryT_of (P := P) (w := w) (H := T) kin hns hb hbb hlim hg bmain tabs noK heads ha (fun p hp => T_in ⟨p, hp, rfl⟩)
      (fun b => by
        by_cases q : ∃ p ∈ cs, p.2 = b
        · exact .inr (.inl q)
        · exact .inl (T_off q)) sq (fun b u z => okT T b u z)
      (fun b z => by
        by_cases q : ∃ p ∈ cs, p.2 = b
        · exact .inr q
        · exact (z (T_off q)).elim) fun z => (z (T_off noT)).elim
    exact ⟨_, base, E⟩
  | none =>
    let H : Hp := fun b => if b = a then some (.frz { cls := .type "list", data := .seq vs.toArray } (.lst (ns.map V.int))) else T b
    have at_a : H a = some (.frz { cls := .type "list", data := .seq vs.toArray } (.lst (ns.map V.int))) := if_pos rfl
    have off_a : ∀ {b}, b ≠ a → H b = T b := fun z => if_neg z
    have H_in : ∀ p ∈ cs, H p.2 = some (.tbl #[]) := by
      intro p hp
      rw [off_a fun z => noT ⟨p, hp, z⟩]
      exact T_in ⟨p, hp, rfl⟩
    have ok : HOk P w H s.heap := by
      intro b u z
      by_cases q : b = a
      · subst q
        rw [at_a] at z
        cases z
        exact ⟨ha, by rw [List.length_map]; exact hl, vs, _, rv, ha⟩
      · rw [off_a q] at z
        exact okT H b u z
    obtain ⟨base, E⟩ := entryT_of (P := P) (w := w) (H := H) kin hns hb hbb hlim hg bmain tabs noK heads ha H_in
      (fun b => by
        by_cases q : b = a
        · subst q
          exact .inr (.inr ⟨_, _, at_a⟩)
        · by_cases r : ∃ p ∈ cs, p.2 = b
          · exact .inr (.inl r)
          · exact .inl ((off_a q).trans (T_off r))) (.inl (.inr ⟨_, at_a⟩)) ok
      (fun b z => by
        by_cases q : b = a
        · exact .inl q
        · rw [off_a q] at z
          by_cases r : ∃ p ∈ cs, p.2 = b
          · exact .inr r
          · exact (z (T_off r)).elim) fun _ => hk
    exact ⟨H, base, E⟩
end

open LamX in
theorem walkT {l : PySem.W.OpenLaw} {n k : Nat} {q : Program} {loose : List Str} {XP : (Str → Option Value) → Heap → Prop}
    {YP : World → Heap → Prop} {d : DefRec} {K : Params → PySem.W.Frag} {cs : List (Addr × Addr)} {sp : World → Sp} {x : Str}
    (hn : l.most = some n) (hn2 : n ≤ sizeLine) (hdf : d.params.defaults = []) (hr : Room k callerA)
    (hY : ∀ (w : World) (h : Heap), YP w h → (K w.params).In h)
    (hT : ∀ (w : World) (h : Heap), YP w h → ∀ p ∈ cs, h.get? p.2 = some { cls := .none, data := .fields #[] })
    (F : ∀ (w : World) (mg : Str → Option Value) (fa : Addr) (h : Heap), (K w.params).In h → h.Ns mainGlobals mg → mg d.name = some (.ref fa) →
      (∀ p ∈ cs, (K w.params).lookup p.2 = none ∧ PySem.W.codeHdIn (K w.params) p.1 p.2 = true) ∧
      ∃ fd : FuncData, (∀ (s : Shared) (u : Value), BindsTo s fd ⟨[u], []⟩ [(x, u)]) ∧
        ∀ base : Heap, (K w.params).In base → base.Ns mainGlobals mg → (∀ p ∈ cs, TabB base mg p.1 p.2) →
          FnG l.prog w (K w.params) mg base CX0 k fa fd [x] (sp w))
    (hsp : ∀ (w : World) (H : Hp) (a : Addr) (ns : List Int), ns.length ≤ n → (∀ p ∈ cs, H p.2 = some (.tbl #[])) → SqL (K w.params) H a (ns.map V.int) →
      sp w [.ref a] H (fun v _ => v = .bl true) fun _ _ _ => False) :
    PySem.W.WalkO q loose XP YP l.row.toRowW d [] (fun f vs => PySem.call f vs) := by
  refine Att.attach_call hn hdf ?_
  intro w s₀ s₁ mg mb fa o pm cd doc a vs ns G Y ho hd hcd hmg hobj hints hlen hgens
  have kin := hY w _ Y
  obtain ⟨heads, fd, binds, all⟩ := F w mg fa _ kin G.T.g hmg
  obtain ⟨H, base, E⟩ := entryT_is (P := l.prog) (w := w) kin G.T.g G.T.b G.T.builtins G.T.nolimit hgens G.T.bmain (hT w _ Y)
    (fun p hp => (heads p hp).1) (fun p hp => PySem.W.codeHd_of_K kin (heads p hp).2) hobj hints (Nat.le_trans hlen hn2)
  have run := (all base E.kin E.glob E.bs).go callerA [] s₁ H ⟨[.ref a], []⟩ [.ref a] [.ref a] _ _ rfl hr E.env (binds s₁ (.ref a)) (.cons rfl .nil)
    (hsp w H a ns hlen E.tabs E.script)
  refine codeAny_mono run ?_
  intro res s' hres
  match res, hres with
  | .ok (.ret u), ⟨v, H', os, bare, un, ok', rel, e⟩ =>
    subst e
    cases (show u = Value.bool true from rel)
    exact ⟨rfl, E.old H' s' un ok', os, bare⟩

/-! ### a lambda's body: what a callee raises leaves it -/
open LamX in
theorem takesLam {X : Cx} {A : Around} {outer : List Env} {s : Shared} {H : Hp} {E : XK} {scope : Scope} {f c : Addr} :
    Passes (L2.CX X.prog X.w) (lamCx X A outer s H E scope f c) E :=
  passes_call (takes_of (X := lamCx X A outer s H E scope f c) (E := E) rfl rfl rfl rfl) fun _ _ _ _ h => h

/-! ### a written dict of ints: each value a tuple of ints -/
def keyI : Value → Option Int
  | .int i _ => some i
  | _ => none
def allI : List Value → Option (List Int)
  | [] => some []
  | v :: r => match keyI v, allI r with
    | some i, some is => some (i :: is)
    | _, _ => none
/-- the ints of the tuple of the written part at a -/
def tupI (K : PySem.W.Frag) : Value → Option (List Int)
  | .ref a => match K.lookup a with
    | some ⟨.type "tuple", none, .seq us _, _⟩ => allI us.toList
    | _ => none
  | _ => none
def rowsI (K : PySem.W.Frag) : List DictEntry → Option (List (Int × List Int))
  | [] => some []
  | e :: r => match keyI e.key, tupI K e.val, rowsI K r with
    | some i, some t, some l => if e.hash = hashInt i then some ((i, t) :: l) else none
    | _, _, _ => none
def dictI (K : PySem.W.Frag) (d : Addr) : Option (List (Int × List Int)) :=
  match K.lookup d with
  | some ⟨.type "dict", none, .dict es _, sl⟩ => if sl.isEmpty && !(d == sysModules) then rowsI K es.toList else none
  | _ => none

theorem keyI_some {v : Value} {i : Int} (h : keyI v = some i) : ∃ t, v = .int i t := by
  cases v <;> simp_all [keyI]
theorem allI_some : ∀ {us : List Value} {is : List Int}, allI us = some is → Vals (is.map V.int) us := by
  intro us
  induction us with
  | nil =>
    intro is h
    cases h
    exact .nil
  | cons v r ih =>
    intro is h
    unfold allI at h
    split at h
    · rename_i i l e1 e2
      cases h
      obtain ⟨t, rfl⟩ := keyI_some e1
      exact .cons ⟨t, rfl⟩ (ih e2)
    · cases h

theorem tupI_some {K : PySem.W.Frag} {v : Value} {is : List Int} (h : tupI K v = some is) :
    ∃ a us n sl, v = .ref a ∧ K.lookup a = some ⟨.type "tuple", none, .seq us n, sl⟩ ∧ Vals (is.map V.int) us.toList := by
  unfold tupI at h
  split at h
  · rename_i a
    split at h
    · rename_i us n sl e
      exact ⟨a, us, n, sl, rfl, e, allI_some h⟩
    · cases h
  · cases h

theorem rowsI_all {K : PySem.W.Frag} : ∀ {es : List DictEntry} {rows : List (Int × List Int)}, rowsI K es = some rows →
    (∀ e ∈ es, ∃ k t, e.key = .int k t ∧ e.hash = hashInt k) ∧
    (∀ k, rows.lookup k = none → (es.find? fun e => Value.isInt k e.key) = none) ∧
    ∀ k is, rows.lookup k = some is → ∃ e, (es.find? fun e => Value.isInt k e.key) = some e ∧ tupI K e.val = some is := by
  intro es
  induction es with
  | nil =>
    intro rows h
    cases h
    exact ⟨fun e he => (List.not_mem_nil he).elim, fun _ _ => rfl, fun k is z => by cases z⟩
  | cons e r ih =>
    intro rows h
    unfold rowsI at h
    split at h
    · rename_i i t l e1 e2 e3
      split at h
      · rename_i hh
        cases h
        obtain ⟨tk, ek⟩ := keyI_some e1
        obtain ⟨h1, h2, h3⟩ := ih e3
        have test : ∀ k, Value.isInt k e.key = decide (i = k) := by
          intro k
          rw [ek]
          show (i == k) = decide (i = k)
          by_cases q : i = k
          · subst q
            rw [beq_self_eq_true, decide_eq_true rfl]
          · rw [beq_eq_false_iff_ne.mpr q, decide_eq_false q]
        refine ⟨fun x hx => ?_, fun k z => ?_, fun k is z => ?_⟩
        · obtain rfl | hx := List.mem_cons.mp hx
          · exact ⟨i, tk, ek, hh⟩
          · exact h1 x hx
        · rw [List.lookup_cons] at z
          rw [List.find?_cons, test]
          by_cases q : k = i
          · subst q
            rw [beq_self_eq_true] at z
            cases z
          · rw [show (k == i) = false from beq_eq_false_iff_ne.mpr q] at z
            rw [show decide (i = k) = false from decide_eq_false fun y => q y.symm]
            exact h2 k z
        · rw [List.lookup_cons] at z
          rw [List.find?_cons, test]
          by_cases q : k = i
          · subst q
            rw [beq_self_eq_true] at z
            cases z
            rw [show decide (k = k) = true from decide_eq_true rfl]
            exact ⟨e, rfl, e2⟩
          · rw [show (k == i) = false from beq_eq_false_iff_ne.mpr q] at z
            rw [show decide (i = k) = false from decide_eq_false fun y => q y.symm]
            exact h3 k is z
      · cases h
    · cases h

/-- what such a dict tells, as the library's dict rules want it -/
theorem dictI_map {K : PySem.W.Frag} {prog : Program} {w : World} {h : Heap} {d : Addr} {rows : List (Int × List Int)} (kin : K.In h)
    (e : dictI K d = some rows) : (d == sysModules) = false ∧ ∃ f : Int → Option Value, h.MapOf (PySem.intKind prog w) d f ∧
      (∀ k, rows.lookup k = none → f k = none) ∧ ∀ k is, rows.lookup k = some is → ∃ v, f k = some v ∧ tupI K v = some is := by
  unfold dictI at e
  split at e
  · rename_i es n sl hl
    split at e
    · rename_i hc
      rw [Bool.and_eq_true] at hc
      obtain ⟨c1, c2⟩ := hc
      obtain ⟨h1, h2, h3⟩ := rowsI_all e
      have c1 : sl = #[] := Array.isEmpty_iff.mp c1
      subst c1
      have same : ∀ k, findBy Value.isInt es k = ((es.toList.find? fun e => Value.isInt k e.key).map (·.val)) := by
        intro k
        obtain ⟨l⟩ := es
        unfold findBy
        rw [List.find?_toArray]
      refine ⟨by simpa using c2, fun k => findBy Value.isInt es k, ⟨_, es, n, kin _ _ hl, ⟨rfl, rfl, rfl⟩, rfl, fun x hx => ?_, fun k => rfl⟩, fun k z => ?_, fun k is z => ?_⟩
      · obtain ⟨k, t, ek, eh⟩ := h1 x (Array.mem_toList_iff.mpr hx)
        exact ⟨k, by rw [ek]; simp [PySem.intKind, Value.isInt], eh⟩
      · show findBy Value.isInt es k = none
        rw [same, h2 k z]
        rfl
      · obtain ⟨x, e1, e2⟩ := h3 k is z
        exact ⟨x.val, by show findBy Value.isInt es k = _; rw [same, e1]; rfl, e2⟩
    · cases e
  · cases e

section
variable {X : Cx}
/-- k not in d, of such a dict -/
def rNotInI (K : PySem.W.Frag) : R2 := fun x y H Q => ∃ (k : Int) (d : Addr) (rows : List (Int × List Int)),
  x = .int k ∧ y = .ref d ∧ dictI K d = some rows ∧ Q (.bl (!(rows.lookup k).isSome)) H
theorem op_notInI : OpR X (compareOp .NotIn) (rNotInI X.K) := by
  intro pins s σ H x y v u Q I rx ry h
  obtain ⟨k, d, rows, rfl, rfl, e, q⟩ := h
  obtain ⟨t, rfl⟩ := rx
  cases (show u = Value.ref d from ry)
  obtain ⟨low, f, hm, f1, f2⟩ := dictI_map (prog := X.prog) (w := X.w) I.kIn e
  refine wpAny_notIn_of (intKind_is X.prog X.w k t) low hm ?_
  have fe : (f k).isSome = (rows.lookup k).isSome := by
    cases z : rows.lookup k with
    | none =>
      rw [f1 k z]
      rfl
    | some is =>
      obtain ⟨v, e1, _⟩ := f2 k is z
      rw [e1]
      rfl
  rw [fe]
  exact ⟨.bl _, H, I.tok _, rfl, q⟩
/-- d[k]: the tuple that stands there -/
def rIxI (K : PySem.W.Frag) : R2 := fun x y H Q => ∃ (k : Int) (d : Addr) (rows : List (Int × List Int)) (is : List Int),
  x = .ref d ∧ y = .int k ∧ dictI K d = some rows ∧ rows.lookup k = some is ∧ is.length ≤ 1000 ∧ ∀ a, SqT K H a (is.map V.int) → Q (.ref a) H
theorem ix_int : IxR X (rIxI X.K) := by
  intro value slice pins s σ H x y v u Q I rx ry h hs
  obtain ⟨k, d, rows, is, rfl, rfl, e, l, few, q⟩ := h
  cases (show v = Value.ref d from rx)
  obtain ⟨t, rfl⟩ := ry
  obtain ⟨low, f, hm, f1, f2⟩ := dictI_map (prog := X.prog) (w := X.w) I.kIn e
  obtain ⟨v, e1, e2⟩ := f2 k is l
  obtain ⟨a, us, n, sl, rfl, ha, rv⟩ := tupI_some e2
  have size : us.size ≤ sizeLine := by
    have z := Paired.length rv
    rw [List.length_map] at z
    have z2 : us.toList.length = us.size := Array.length_toList
    rw [sizeLine_eq]
    omega
  refine tail_any hm.typeIs slot_dict_getitem.lookup (wpAny_getItem_of (intKind_is X.prog X.w k t) hm e1 ⟨.ref a, H, I.tok _, rfl, q a ?_⟩) hs
  exact .inr ⟨_, us, n, ha, rfl, rfl, size, rv⟩
end
end Gd

/-! Bs: what all laws share: the pen, kinds of values, rows, errors, digits (no statement of any text is named). -/
namespace B5
open PySem L2 Gd
variable {P : Program} {w : World} {K : PySem.W.Frag} {mg : Str → Option Value} {base : Heap}
/-! ### the law's pen: where drawn numbers come from -/
abbrev kC : Key := Sum.inr "cells"
abbrev kA : Key := Sum.inr "at"
abbrev kG : Key := Sum.inr "digits"
abbrev kN : Key := Sum.inr "count"
abbrev kF : Key := Sum.inr "fold"
theorem kne : (kA = kC) = False ∧ (kG = kC) = False ∧ (kN = kC) = False ∧ (kF = kC) = False ∧ (kC = kA) = False ∧ (kG = kA) = False ∧ (kN = kA) = False ∧ (kF = kA) = False ∧
    (kC = kG) = False ∧ (kA = kG) = False ∧ (kN = kG) = False ∧ (kF = kG) = False ∧ (kC = kN) = False ∧ (kA = kN) = False ∧ (kG = kN) = False ∧ (kF = kN) = False ∧
    (kC = kF) = False ∧ (kA = kF) = False ∧ (kG = kF) = False ∧ (kN = kF) = False := by
  refine ⟨?_, ?_, ?_, ?_, ?_, ?_, ?_, ?_, ?_, ?_, ?_, ?_, ?_, ?_, ?_, ?_, ?_, ?_, ?_, ?_⟩ <;> exact eq_false (by decide +kernel)
theorem putK_same {kvs : List (Key × V)} {k : Key} {v x : V} (h : valV kvs k = some x) : (putK kvs k v).length = kvs.length := by
  have e := valV_any k kvs
  rw [h, Option.isSome_some] at e
  unfold putK
  rw [if_pos e, List.length_map]
theorem dg {H : Hp} {a : Addr} {kvs : List (Key × V)} (k : Key) {v : V} (hd : H a = some (.dK kvs)) (h : valV kvs k = some v) : DGet H a (kV k) (some v) := h ▸ DGet.k hd
theorem five {n : Nat} (h : n ≤ 5) : n < sizeLine := small1000 (by omega)
theorem put_in {kvs : List (Key × V)} (k j : Key) (v : V) {x : V} (h : valV kvs j = some x) (ne : (j = k) = False) : valV (putK kvs k v) j = some x := by
  rw [valV_put, if_neg (by rw [ne]; exact id)]
  exact h
theorem put_at {kvs : List (Key × V)} (k : Key) (v : V) : valV (putK kvs k v) k = some v := by
  rw [valV_put, if_pos rfl]
/-- the pen at d, its cells at c; n draws were made -/
def Pen (H : Hp) (d c : Addr) (n : Int) : Prop := ∃ (kvs : List (Key × V)) (cs : List Int) (p g f : Int), H d = some (.dK kvs) ∧ H c = some (.lst (cs.map V.int)) ∧
  kvs.length ≤ 5 ∧ valV kvs kC = some (.ref c) ∧ valV kvs kA = some (.int p) ∧ valV kvs kG = some (.int g) ∧ valV kvs kN = some (.int n) ∧ valV kvs kF = some (.int f) ∧
  (0 ≤ p ∧ 0 ≤ g) ∧ (0 ≤ f ∧ f < 2147483648)
theorem Pen.ne {H : Hp} {d c : Addr} {n : Int} (h : Pen H d c n) : c ≠ d := by
  obtain ⟨kvs, cs, p, g, f, h1, h2, _⟩ := h
  exact ne_of h2 h1 (by intro z; cases z)
theorem Pen.keep {H H' : Hp} {d c : Addr} {n : Int} (h : Pen H d c n) (e1 : H' d = H d) (e2 : H' c = H c) : Pen H' d c n := by
  obtain ⟨kvs, cs, p, g, f, h1, h2, r⟩ := h
  exact ⟨kvs, cs, p, g, f, e1.trans h1, e2.trans h2, r⟩
theorem Pen.at {H : Hp} {d c : Addr} {n : Int} (h : Pen H d c n) : ∃ o, H d = some o := let ⟨_, _, _, _, _, h1, _⟩ := h; ⟨_, h1⟩
theorem Pen.atc {H : Hp} {d c : Addr} {n : Int} (h : Pen H d c n) : ∃ o, H c = some o := let ⟨_, _, _, _, _, _, h2, _⟩ := h; ⟨_, h2⟩
/-- new objects do not touch the pen -/
theorem Pen.upd {H : Hp} {d c p : Addr} {n : Int} {o : HO} (h : Pen H d c n) (hp : H p = none) : Pen (upd H p o) d c n := by
  obtain ⟨o1, h1⟩ := h.at
  obtain ⟨o2, h2⟩ := h.atc
  exact h.keep (upd_ne (ne_of_none h1 hp)) (upd_ne (ne_of_none h2 hp))
/-- what a draw leaves -/
structure Drawn (H H' : Hp) (d c : Addr) (n : Int) : Prop where
  pen : Pen H' d c n
  off : ∀ b, b ≠ d → H' b = H b
theorem Drawn.trans {H H1 H2 : Hp} {d c : Addr} {n m : Int} (a : Drawn H H1 d c n) (b : Drawn H1 H2 d c m) : Drawn H H2 d c m := ⟨b.pen, fun x hx => (b.off x hx).trans (a.off x hx)⟩
/-- one step: a number of the pen is put anew -/
theorem pen_put {H : Hp} {d c : Addr} {kvs : List (Key × V)} {k : Key} {v x : V} (hd : H d = some (.dK kvs)) (l : kvs.length ≤ 5) (h : valV kvs k = some x) :
    (upd H d (.dK (putK kvs k v))) d = some (.dK (putK kvs k v)) ∧ (putK kvs k v).length ≤ 5 := ⟨upd_same, by rw [putK_same h]; exact l⟩

def spDraw : Sp := fun vs H Q _ => ∃ (d c : Addr) (n m : Int), vs = [.ref d, .int m] ∧ Pen H d c n ∧ 0 < m ∧ m ≤ 1000000000 ∧ 0 ≤ n ∧ n < 1000000000 ∧
  ∀ (r : Int) (H' : Hp), 0 ≤ r → r < m → Drawn H H' d c (n + 1) → Q (.int r) H'
def spPen (K : PySem.W.Frag) : Sp := fun vs H Q _ => ∃ (a : Addr) (ns : List Int), vs = [.ref a] ∧ SqL K H a (ns.map V.int) ∧
  ∀ (H' : Hp) (d c : Addr), Pen H' d c 0 → (∀ b o, H b = some o → H' b = some o) → H d = none → Q (.ref d) H'
def spPick (K : PySem.W.Frag) : Sp := fun vs H Q _ => ∃ (d c a : Addr) (n : Int) (xs : List V), vs = [.ref d, .ref a] ∧ Pen H d c n ∧ H a = some (.lst xs) ∧ 0 < xs.length ∧ xs.length ≤ 1000 ∧ 0 ≤ n ∧ n < 1000000000 ∧
  ∀ (x : V) (H' : Hp), x ∈ xs → Drawn H H' d c (n + 1) → Q x H'
def spLarge : Sp := fun vs H Q _ => ∃ (d c : Addr) (n : Int), vs = [.ref d] ∧ Pen H d c n ∧ 0 ≤ n ∧ n < 900000000 ∧
  ∀ (r n' : Int) (H' : Hp), 0 ≤ r → r < 10 ^ 57 → n ≤ n' → n' ≤ n + 30 → Pen H' d c n' → (∀ b o, H b = some o → b ≠ d → H' b = some o) → Q (.int r) H'
/-! ### the errors -/
/-- what an __init__ that keeps its arguments as fields does -/
def spIni (C : Addr) (fs : List Str) : Sp := fun vs H Q _ => ∃ (a : Addr) (ys : List V), vs = .ref a :: ys ∧ ys.length = fs.length ∧ H a = some (exo a C none) ∧
  ∀ (H' : Hp) (dx : Addr), H dx = none → dx ≠ a → (∀ b, b ≠ a → b ≠ dx → H' b = H b) → H' a = some (exo a C (some dx)) → H' dx = some (exd dx (fs.zip ys).reverse) → Q .non H'
/-! ### kinds of values -/
def offInt : List String := ["bool", "NoneType", "str", "list", "tuple", "dict"]
theorem off_int : ∀ n ∈ offInt, kitB n "int" = some (decide (n = "bool")) ∧ kitB n "bool" = some (decide (n = "bool")) := by decide +kernel
theorem on_int : kitB "int" "int" = some true ∧ kitB "int" "bool" = some false := by decide +kernel
/-- no int at all, or a bool -/
def NoInt (K : PySem.W.Frag) (H : Hp) (x : V) : Prop := ∃ n, n ∈ offInt ∧ TyX K H x (.type n)
theorem tyMore {K : PySem.W.Frag} {H H' : Hp} {x : V} {n : String} (e : ∀ b o, H b = some o → H' b = some o) (t : TyX K H x (.type n)) : TyX K H' x (.type n) := by
  cases t with
  | base t =>
    refine .base ?_
    cases t with
    | non => exact .non
    | bl b => exact .bl b
    | int i => exact .int i
    | str z => exact .str z
    | flt z => exact .flt z
    | lst h => exact .lst (e _ _ h)
    | frz h => exact .frz (e _ _ h)
    | tup h => exact .tup (e _ _ h)
    | dK h => exact .dK (e _ _ h)
    | dT h => exact .dT (e _ _ h)
  | byt b => exact .byt b
  | set h => exact .set (e _ _ h)
  | kList h c => exact .kList h c
  | kTuple h c => exact .kTuple h c
  | kDict h c => exact .kDict h c
  | fTuple h => exact .fTuple (e _ _ h)
  | fDict h => exact .fDict (e _ _ h)
theorem NoInt.more {K : PySem.W.Frag} {H H' : Hp} {x : V} (e : ∀ b o, H b = some o → H' b = some o) (h : NoInt K H x) : NoInt K H' x :=
  let ⟨n, m, t⟩ := h; ⟨n, m, tyMore e t⟩
def spIsI (K : PySem.W.Frag) : Sp := fun vs H Q _ => ∃ x, vs = [x] ∧ ((∃ i, x = .int i ∧ Q (.bl true) H) ∨ (NoInt K H x ∧ Q (.bl false) H) ∨ ∃ t, TyX K H x t ∧ PySem.W.kitOne K t (.type "int") = some false ∧ Q (.bl false) H)
theorem pi_or {X : Cx} {tg it : Expr} {u v : TI} (a : PI X tg it u) (b : PI X tg it v) : PI X tg it (fun σ H R => u σ H R ∨ v σ H R) where
  run := by
    rintro pins s σ H R I (h | h)
    · exact a.run pins s σ H R I h
    · exact b.run pins s σ H R I h
theorem sqT_more {K : PySem.W.Frag} {H H' : Hp} {a : Addr} {xs : List V} (e : ∀ b o, H b = some o → H' b = some o) : SqT K H a xs → SqT K H' a xs
  | .inl (.inl h) => .inl (.inl (e _ _ h))
  | .inl (.inr ⟨o, h⟩) => .inl (.inr ⟨o, e _ _ h⟩)
  | .inr h => .inr h
/-- a list or a tuple of xs -/
def Sq (K : PySem.W.Frag) (H : Hp) (a : Addr) (xs : List V) : Prop := SqL K H a xs ∨ SqT K H a xs
theorem Sq.more {K : PySem.W.Frag} {H H' : Hp} {a : Addr} {xs : List V} (e : ∀ b o, H b = some o → H' b = some o) : Sq K H a xs → Sq K H' a xs
  | .inl h => .inl (Same.seq e h)
  | .inr h => .inr (sqT_more e h)
/-! ### errors of the program -/
structure Er (K : PySem.W.Frag) (mg : Str → Option Value) (x q : Str) (C fI : Addr) (fs : List Str) (st : Stmt) (fd : FuncData) : Prop where
  T : OexC K C
  iC : PySem.W.findIn K (.ref C) "__init__" = some (some (.ref fI))
  tI : PySem.W.typeIn K (.ref fI) = some (.type "function")
  fn : Fun K "__init__" q st fI fd
  b : Binds K fd ("self" :: fs) []
  no : ∀ g ∈ fs, PySem.W.findIn K (.ref C) g = some none
  g : mg x = some (.ref C)
theorem mk_ini {C : Addr} {fs : List Str} {vs : List V} {H1 : Hp} {Q : XK} (hl : vs.length = fs.length) (h9 : vs.length ≤ 900)
    (h : ∀ d, H1 d = none → Q (.ref C) (some d) (upd H1 d (.xd (fs.zip vs).reverse))) : vs.length ≤ 1000 ∧ ∀ a, H1 a = none →
      spIni C fs (.ref a :: (vs ++ [])) (upd H1 a (exo a C none)) (fun v H2 => v = .non ∧ ∃ (d : Addr) (fs' : List (Str × V)), H2 a = some (exo a C (some d)) ∧
        H2 d = some (exd d fs') ∧ H1 d = none ∧ Q (.ref C) (some d) (upd (del H2 a) d (.xd fs'))) (fun _ _ _ => False) := by
  refine ⟨by omega, fun a ha => ⟨a, vs, by rw [List.append_nil], hl, upd_same, fun H' dx hdx ne off e1 e2 => ⟨rfl, dx, _, e1, e2, ?_, ?_⟩⟩⟩
  · rw [upd_ne ne] at hdx
    exact hdx
  · rw [upd_ne ne] at hdx
    have same : upd (del H' a) dx (.xd (fs.zip vs).reverse) = upd H1 dx (.xd (fs.zip vs).reverse) := by
      funext b
      by_cases q : b = dx
      · subst q
        rw [upd_same, upd_same]
      · rw [upd_ne q, upd_ne q]
        by_cases z : b = a
        · subst z
          rw [del_same, ha]
        · rw [del_ne z, off b z q, upd_ne z]
    rw [same]
    exact h dx hdx
def RRow (CR : Addr) (x : V) (H : Hp) (E : XK) : Prop := ∀ d, H d = none → E (.ref CR) (some d) (upd H d (.xd [("row", x)]))
/-- a def of the text -/
structure Cl (K : PySem.W.Frag) (mg : Str → Option Value) (x : Str) (st : Stmt) (ps : List Str) (f : Addr) (fd : FuncData) : Prop where
  fn : Fun K x x st f fd
  b : Binds K fd ps []
  g : mg x = some (.ref f)
theorem Cl.k {x : Str} {st : Stmt} {ps : List Str} {f : Addr} {fd : FuncData} (h : Cl K mg x st ps f fd) : PySem.W.keepIn K (.ref f) = true := h.fn.kp
structure Blt (mg : Str → Option Value) : Prop where
  int_ : mg "int" = none
  bool_ : mg "bool" = none
  tup_ : mg "tuple" = none
  len_ : mg "len" = none
  list_ : mg "list" = none
  range_ : mg "range" = none
  isi_ : mg "isinstance" = none
  repr_ : mg "repr" = none
  all_ : mg "all" = none
  divmod_ : mg "divmod" = none
  rev_ : mg "reversed" = none
abbrev More (H H' : Hp) : Prop := ∀ b o, H b = some o → H' b = some o
theorem More.new {H H' : Hp} {p : Addr} {o : HO} (m : More H H') (hp : H' p = none) : More H (upd H' p o) := fun b u e => by
  rw [upd_ne (ne_of_none (m b u e) hp)]
  exact m b u e
theorem More.at {H H' : Hp} {p : Addr} {o : HO} (m : More H H') (hp : H p = none) : More H (upd H' p o) := fun b u e => by
  rw [upd_ne (ne_of_none e hp)]
  exact m b u e
theorem More.off {H H' : Hp} {p : Addr} (m : More H H') (hp : H' p = none) : H p = none := by
  cases e : H p with
  | none => rfl
  | some o =>
    rw [m p o e] at hp
    cases hp
/-! ### sequences of integers -/
def isI : V → Bool
  | .int _ => true
  | _ => false
theorem noInt_isI {K : PySem.W.Frag} {H : Hp} {y : V} (h : NoInt K H y) : isI y = false := by
  obtain ⟨n, hn, t⟩ := h
  cases y with
  | int i =>
    cases t with
    | base t =>
      cases t
      exact absurd hn (by decide)
  | _ => rfl
theorem tyL {K : PySem.W.Frag} {H : Hp} {a : Addr} {xs : List V} : SqL K H a xs → TyX K H (.ref a) (.type "list")
  | .inl (.inl h) => .base (.lst h)
  | .inl (.inr ⟨o, h⟩) => .base (.frz h)
  | .inr ⟨o, its, n, h, c, _⟩ => .kList h c
theorem tyT {K : PySem.W.Frag} {H : Hp} {a : Addr} {xs : List V} : SqT K H a xs → TyX K H (.ref a) (.type "tuple")
  | .inl (.inl h) => .base (.tup h)
  | .inl (.inr ⟨o, h⟩) => .fTuple h
  | .inr ⟨o, its, n, h, c, _⟩ => .kTuple h c
def noSeq : List String := ["int", "bool", "NoneType", "str", "dict"]
theorem seq_no : ∀ n ∈ noSeq, kitB n "tuple" = some false ∧ kitB n "list" = some false := by decide +kernel
theorem seq_yes : kitB "tuple" "tuple" = some true ∧ kitB "list" "tuple" = some false ∧ kitB "list" "list" = some true := by decide +kernel
def spIsIs (K : PySem.W.Frag) : Sp := fun vs H Q _ => ∃ x, vs = [x] ∧
  ((∃ n, n ∈ noSeq ∧ TyX K H x (.type n) ∧ ∀ H', More H H' → Q (.bl false) H') ∨
    ∃ a xs, x = .ref a ∧ Sq K H a xs ∧ xs.length ≤ 1000 ∧ (∀ y ∈ xs, (∃ i, y = .int i) ∨ NoInt K H y) ∧ ∀ H', More H H' → Q (.bl (xs.all isI)) H')
theorem take_snoc {α : Type} {l : List α} {i : Nat} {x : α} (h : l[i]? = some x) : l.take (i + 1) = l.take i ++ [x] := by
  rw [List.take_succ, h]
  rfl
/-! ### terms of a sum -/
def NoSq (K : PySem.W.Frag) (H : Hp) (x : V) : Prop := ∃ n, n ∈ noSeq ∧ TyX K H x (.type n)
theorem NoSq.more {K : PySem.W.Frag} {H H' : Hp} {x : V} (e : ∀ b o, H b = some o → H' b = some o) (h : NoSq K H x) : NoSq K H' x := let ⟨n, m, t⟩ := h; ⟨n, m, tyMore e t⟩
def Its (K : PySem.W.Frag) (H : Hp) (ys : List V) : Prop := ys.length ≤ 1000 ∧ ∀ y ∈ ys, (∃ i, y = .int i) ∨ NoInt K H y
theorem Its.more {K : PySem.W.Frag} {H H' : Hp} {ys : List V} (e : ∀ b o, H b = some o → H' b = some o) (h : Its K H ys) : Its K H' ys := ⟨h.1, fun y hy => (h.2 y hy).imp id fun z => z.more e⟩
theorem Its.ints {K : PySem.W.Frag} {H : Hp} {ds : List Int} (h : ds.length ≤ 1000) : Its K H (ds.map V.int) := ⟨by rw [List.length_map]; exact h, fun y hy => by
  obtain ⟨d, _, rfl⟩ := List.mem_map.mp hy
  exact .inl ⟨d, rfl⟩⟩
def spRow (K : PySem.W.Frag) : Sp := fun vs H Q _ => ∃ (x : V) (n : Int), vs = [x, .int n] ∧
  ((NoSq K H x ∧ ∀ H', More H H' → Q (.bl false) H') ∨ ∃ a xs, x = .ref a ∧ Sq K H a xs ∧ Its K H xs ∧ ∀ H', More H H' → Q (.bl (xs.all isI && decide (((xs.length : Nat) : Int) = n))) H')
theorem deI {i j : Int} : decide (V.int i = V.int j) = decide (i = j) := by simp only [V.int.injEq]
theorem ix_any {K : PySem.W.Frag} {H : Hp} {a : Addr} {xs : List V} {j : Nat} {i : Int} {v : V} {Q : VK} (s : Sq K H a xs) (e : i = (j : Int)) (h : xs[j]? = some v) (q : Q v H) : rIx K (.ref a) (.int i) H Q := by
  obtain s | s := s
  · exact .inl ⟨a, xs, i, v, rfl, rfl, s, at_of e h, q⟩
  · exact .inr (.inl ⟨a, xs, i, v, rfl, rfl, s, at_of e h, q⟩)
theorem isI_all (ds : List Int) : (ds.map V.int).all isI = true := by
  rw [List.all_map, List.all_eq_true]
  intro d _
  rfl
theorem sq_len {K : PySem.W.Frag} {H : Hp} {a : Addr} {xs : List V} (s : Sq K H a xs) : SqL K H a xs ∨ SqT K H a xs := s
/-! ### words of digits -/
/-- the digits of n to the base p, the low one first -/
def dgs (p : Nat) (n : Nat) : List Int := if h : n = 0 ∨ p < 2 then [] else ((n % p : Nat) : Int) :: dgs p (n / p)
termination_by n
decreasing_by exact Nat.div_lt_self (by omega) (by omega)
theorem dgs_zero {p : Nat} : dgs p 0 = [] := by
  rw [dgs, dif_pos (.inl rfl)]
theorem dgs_pos {p n : Nat} (h : 0 < n) (hp : 2 ≤ p) : dgs p n = ((n % p : Nat) : Int) :: dgs p (n / p) := by
  rw [dgs, dif_neg (by omega)]
theorem dgs_len {p : Nat} (hp : 2 ≤ p) : ∀ (k n : Nat), n < 2 ^ k → (dgs p n).length ≤ k
  | 0, n, h => by
    have e : n = 0 := by simpa using h
    rw [e, dgs_zero]
    exact Nat.le_refl _
  | k + 1, n, h => by
    by_cases z : n = 0
    · rw [z, dgs_zero]
      exact Nat.zero_le _
    · rw [dgs_pos (by omega) hp]
      have h2 : n / p < 2 ^ k := by
        refine Nat.lt_of_le_of_lt (Nat.div_le_div_left hp (by decide)) ?_
        rw [Nat.pow_succ] at h
        omega
      have := dgs_len hp k _ h2
      simp only [List.length_cons]
      omega
theorem dgs_are {p : Nat} (hp : 2 ≤ p) : ∀ (k n : Nat), n ≤ k → ∀ d ∈ dgs p n, 0 ≤ d ∧ d < (p : Int)
  | 0, n, h, d, hd => by
    have e : n = 0 := by omega
    rw [e, dgs_zero] at hd
    cases hd
  | k + 1, n, h, d, hd => by
    by_cases z : n = 0
    · rw [z, dgs_zero] at hd
      cases hd
    · rw [dgs_pos (by omega) hp] at hd
      rcases List.mem_cons.mp hd with rfl | hd
      · have := Nat.mod_lt n (show p > 0 by omega)
        omega
      · exact dgs_are hp k _ (by have := Nat.div_lt_self (show 0 < n by omega) (show 1 < p by omega); omega) d hd
/-- the number that a word tells -/
def val (p : Int) : List Int → Int
  | [] => 0
  | d :: r => val p r * p + d
theorem val_dgs {p : Nat} (hp : 2 ≤ p) : ∀ (k n : Nat), n ≤ k → val p (dgs p n) = n
  | 0, n, h => by
    have e : n = 0 := by omega
    rw [e, dgs_zero]
    rfl
  | k + 1, n, h => by
    by_cases z : n = 0
    · rw [z, dgs_zero]
      rfl
    · rw [dgs_pos (by omega) hp]
      have lt := Nat.div_lt_self (show 0 < n by omega) (show 1 < p by omega)
      show val p (dgs p (n / p)) * p + ((n % p : Nat) : Int) = n
      rw [val_dgs hp k _ (by omega)]
      have := Nat.div_add_mod n p
      rw [Nat.mul_comm] at this
      omega
theorem val_zeros {p : Int} : ∀ (l : List Int) (k : Nat), val p (l ++ List.replicate k 0) = val p l
  | [], 0 => rfl
  | [], k + 1 => by
    have ih := val_zeros (p := p) [] k
    rw [List.nil_append] at ih ⊢
    show val p (List.replicate k 0) * p + 0 = 0
    rw [ih]
    show (0 : Int) * p + 0 = 0
    rw [Int.zero_mul]
    rfl
  | d :: l, k => by
    show val p (l ++ List.replicate k 0) * p + d = val p l * p + d
    rw [val_zeros l k]
theorem val_drop {p : Int} {l : List Int} {i : Nat} {d : Int} (h : l[i]? = some d) : val p (l.drop i) = val p (l.drop (i + 1)) * p + d := by
  have hi : i < l.length := by
    rcases Nat.lt_or_ge i l.length with z | z
    · exact z
    · rw [List.getElem?_eq_none z] at h
      cases h
  rw [List.drop_eq_getElem_cons hi]
  have e : l[i] = d := by
    rw [List.getElem?_eq_getElem hi] at h
    exact Option.some.inj h
  rw [e]
  rfl
/-- BadNumber(what, x) is raised -/
def RNum (CN : Addr) (what : Str) (x : V) (H : Hp) (E : XK) : Prop := ∀ d, H d = none → E (.ref CN) (some d) (upd H d (.xd [("number", x), ("what", .str what)]))
def isPr (p : Int) : Bool := inV (.int p) ([2, 3, 5, 7].map V.int)
def BadP (K : PySem.W.Frag) (H : Hp) (x : V) : Prop := (∃ m, x = .int m ∧ isPr m = false) ∨ NoInt K H x
def spCP (K : PySem.W.Frag) (CN : Addr) : Sp := fun vs H Q E => ∃ x, vs = [x] ∧
  ((∃ m, x = .int m ∧ isPr m = true ∧ Q .non H) ∨ (BadP K H x ∧ RNum CN "p" x H E))
theorem isPr_small {p : Int} (h : isPr p = true) : 2 ≤ p ∧ p ≤ 7 := by
  have z : (decide (2 = p) || (decide (3 = p) || (decide (5 = p) || (decide (7 = p) || false)))) = true := h
  simp only [Bool.or_eq_true, decide_eq_true_eq, Bool.or_false] at z
  omega
def spDg (K : PySem.W.Frag) (CN : Addr) : Sp := fun vs H Q E => ∃ x y, vs = [x, y] ∧
  ((∃ n p : Nat, x = .int n ∧ y = .int p ∧ isPr p = true ∧ n < 2 ^ 400 ∧ ∀ H' a, More H H' → H a = none → H' a = some (.tup ((dgs p n).map V.int)) → Q (.ref a) H') ∨
    (((∃ i, x = .int i ∧ i < 0) ∨ NoInt K H x) ∧ RNum CN "n" x H E) ∨
    ∃ n : Int, x = .int n ∧ 0 ≤ n ∧ BadP K H y ∧ RNum CN "p" y H E)
end B5

namespace K67
open PySem L2 Gd B5
def top (i : Nat) : Stmt := PySem.Challenge.pw_restcounts_k67_machines_kept.main.body.getD i (.Pass ⟨0, 0, 0, 0⟩)
abbrev sPen : Stmt := top 17
abbrev sDraw : Stmt := top 18
abbrev sPick : Stmt := top 19
abbrev sLarge : Stmt := top 20
section
variable {P : Program} {w : World} {K : PySem.W.Frag} {mg : Str → Option Value} {base : Heap}
theorem scDraw : FnScope ["_law_pen_here", "_law_many", "_law_cell", "_law_digit", "_law_mixed"] ["_law_pen_here", "_law_many"] (defScope sDraw) := ⟨rfl, rfl, rfl, by decide +kernel, rfl, by decide +kernel, by decide +kernel⟩
theorem ok_draw {f : Addr} {fd : FuncData} (F : Fun K "_law_draw" "_law_draw" sDraw f fd) (mInt : mg "int" = none) (mLen : mg "len" = none) : FnOk P w K mg base CX0 1 f fd ["_law_pen_here", "_law_many"] spDraw := by
  refine F.ok scDraw (fun vs H Q E h => ?_) (fun cdv A outer s H vs Q E hr h => ?_)
  · obtain ⟨d, c, n, m, rfl, _⟩ := h
    rfl
  · obtain ⟨d, c, n, m, rfl, pen, m0, m1, n0, n1, k⟩ := h
    have hu := hu_of hr
    have ne := pen.ne
    obtain ⟨kvs, cs, p, g, f, hd, hc, hl, vC, vA, vG, vN, vF, ⟨p0, g0⟩, f0, f1⟩ := pen
    refine ⟨_, pss_cons (ps_dput hu (pv 0) pe_str (pe_op op_add (pe_dget hu (pv 0) pe_str (fun _ _ => rfl)) pe_int) rfl)
      (Evl.pss_cut (ps_if (PW.pt (pw_and (pt_cmpR op_eq (pe_dget hu (pv 0) pe_str (fun _ _ => rfl)) pe_int (nomark _))
            (pw_and1 (pt_cmpR op_lt (pe_dget hu (pv 0) pe_str (fun _ _ => rfl)) (pe_callB call_len_seq (by rfl) mLen PySem.boot_len (pa_cons (pe_dget hu (pv 0) pe_str (fun _ _ => rfl)) pa_nil)) (nomark _)))))
          (pss_cons (ps_set (i := 2) scDraw.nd rfl (Or.inl rfl) (pe_ix ix_list (pe_dget hu (pv 0) pe_str (fun _ _ => rfl)) (pe_dget hu (pv 0) pe_str (fun _ _ => rfl)) (fun _ _ => rfl)))
          (pss_cons (ps_dput hu (pv 0) pe_str (pe_op op_add (pe_dget hu (pv 0) pe_str (fun _ _ => rfl)) pe_int) rfl)
          (pss_one (ps_if (pt_cmpR op_ge (pv 2) (pe_op op_pow pe_int pe_int) (nomark _))
            (pss_one (ps_dput hu (pv 0) pe_str (pe_op op_sub (pv 2) (pe_op op_pow pe_int pe_int)) rfl))
            (pss_one (ps_dput hu (pv 0) pe_str (pe_op op_mod (pe_callTy call_int1 (by rfl) mInt (by decide +kernel) (pa_cons (pe_op op_add (pe_op op_mul (pe_dget hu (pv 0) pe_str (fun _ _ => rfl)) pe_int) (pv 2)) pa_nil)) pe_int) rfl))))))
          pss_nil)
      (pss_cons (ps_if (pt_cmpR op_gt (pe_dget hu (pv 0) pe_str (fun _ _ => rfl)) pe_int (nomark _))
          (pss_cons (ps_set (i := 3) scDraw.nd rfl (Or.inl rfl) (pe_op op_mod (pe_callTy call_int1 (by rfl) mInt (by decide +kernel) (pa_cons (pe_dget hu (pv 0) pe_str (fun _ _ => rfl)) pa_nil)) (pv 1)))
          (pss_cons (ps_dput hu (pv 0) pe_str (pe_op op_fdiv (pe_dget hu (pv 0) pe_str (fun _ _ => rfl)) (pv 1)) rfl)
          (pss_one (ps_ret (pv 3)))))
          pss_nil)
      (pss_cons (ps_set (i := 4) scDraw.nd rfl (Or.inl rfl) (pe_op op_add (pe_op op_add (pe_dget hu (pv 0) pe_str (fun _ _ => rfl)) (pe_op op_mul (pe_dget hu (pv 0) pe_str (fun _ _ => rfl)) pe_int)) pe_int))
      (pss_one (ps_ret (pe_op op_mod (pe_op op_fdiv (pe_callTy call_int1 (by rfl) mInt (by decide +kernel) (pa_cons (pe_op op_mod (pe_op op_pow (pv 4) pe_int) pe_int) pa_nil)) pe_int) (pv 1))))))), ?_⟩
    -- pen['count'] = pen['count'] + 1
    obtain ⟨ac, gc, nc, fc, ca, ga, na, fa, cg, ag, ng, fg, cn, an, gn, fn, cf, af, gf, nf⟩ := kne
    have l1 : (putK kvs kN (V.int (n + 1))).length ≤ 5 := by rw [putK_same vN]; exact hl
    have vC1 := put_in kN kC (V.int (n + 1)) vC cn
    have vA1 := put_in kN kA (V.int (n + 1)) vA an
    have vG1 := put_in kN kG (V.int (n + 1)) vG gn
    have vF1 := put_in kN kF (V.int (n + 1)) vF fn
    have vN1 : valV (putK kvs kN (V.int (n + 1))) kN = some (V.int (n + 1)) := put_at kN _
    refine ⟨_, rfl, d, _, rfl, dg kN hd vN, _, _, rfl, rfl, _, rfl, d, _, rfl, DPut.k (k := kN) hd (five hl), ?_⟩
    have hc1 : ∀ o, (L2.upd H d o) c = some (.lst (cs.map V.int)) := fun o => by rw [upd_ne ne]; exact hc
    generalize putK kvs kN (V.int (n + 1)) = kvs1 at *
    clear vC vA vG vN vF
    -- behind the if: a heap that differs at the pen alone
    refine ⟨fun σ' H' => ∃ (kvs : List (Key × V)) (p g f : Int) (z : Option V), σ' = [some (.ref d), some (.int m), z, none, none] ∧ H' d = some (.dK kvs) ∧ (∀ b, b ≠ d → H' b = H b) ∧
      kvs.length ≤ 5 ∧ valV kvs kC = some (.ref c) ∧ valV kvs kA = some (.int p) ∧ valV kvs kG = some (.int g) ∧ valV kvs kN = some (.int (n + 1)) ∧ valV kvs kF = some (.int f) ∧
      (0 ≤ p ∧ 0 ≤ g) ∧ (0 ≤ f ∧ f < 2147483648), ?_, ?_⟩
    · have mid : ∀ (z : Option V) (kvs2 : List (Key × V)) (H2 : Hp) (p g f : Int), H2 d = some (.dK kvs2) → (∀ b, b ≠ d → H2 b = H b) → kvs2.length ≤ 5 → valV kvs2 kC = some (.ref c) → valV kvs2 kA = some (.int p) →
          valV kvs2 kG = some (.int g) → valV kvs2 kN = some (.int (n + 1)) → valV kvs2 kF = some (.int f) → (0 ≤ p ∧ 0 ≤ g) → (0 ≤ f ∧ f < 2147483648) →
          ∃ (kvs : List (Key × V)) (p g f : Int) (z' : Option V), [some (V.ref d), some (V.int m), z, none, none] = [some (V.ref d), some (V.int m), z', none, none] ∧ H2 d = some (.dK kvs) ∧ (∀ b, b ≠ d → H2 b = H b) ∧
            kvs.length ≤ 5 ∧ valV kvs kC = some (.ref c) ∧ valV kvs kA = some (.int p) ∧ valV kvs kG = some (.int g) ∧ valV kvs kN = some (.int (n + 1)) ∧ valV kvs kF = some (.int f) ∧ (0 ≤ p ∧ 0 ≤ g) ∧ (0 ≤ f ∧ f < 2147483648) :=
        fun z kvs2 H2 p g f a1 a2 a3 a4 a5 a6 a7 a8 a9 a10 => ⟨kvs2, p, g, f, z, rfl, a1, a2, a3, a4, a5, a6, a7, a8, a9, a10⟩
      have off : ∀ o b, b ≠ d → (L2.upd H d o) b = H b := fun o b hb => upd_ne hb
      refine ⟨_, rfl, d, _, rfl, dg kG upd_same vG1, rfl, _, rfl, ite2 (fun _ => ?_) (fun _ => ?_)⟩
      · refine ⟨_, rfl, d, _, rfl, dg kA upd_same vA1, _, rfl, d, _, rfl, dg kC upd_same vC1, c, _, rfl, .inl (SqL.of (hc1 _)), _, _, rfl, rfl, _, rfl, ite2 (fun hlt => ?_) (fun _ => ?_)⟩
        · have hlt := of_decide_eq_true hlt
          rw [List.length_map] at hlt
          have hp : p.toNat < cs.length := by omega
          have hat : (cs.map V.int)[p.toNat]? = some (V.int cs[p.toNat]) := by rw [List.getElem?_map, List.getElem?_eq_getElem hp]; rfl
          refine ⟨_, rfl, d, _, rfl, dg kC upd_same vC1, _, rfl, d, _, rfl, dg kA upd_same vA1, c, _, _, _, rfl, rfl, SqL.of (hc1 _), at_of (by omega) hat, ?_⟩
          generalize cs[p.toNat] = x
          -- pen['at'] = pen['at'] + 1
          have l2 : (putK kvs1 kA (V.int (p + 1))).length ≤ 5 := by rw [putK_same vA1]; exact l1
          have vC2 := put_in kA kC (V.int (p + 1)) vC1 ca
          have vG2 := put_in kA kG (V.int (p + 1)) vG1 ga
          have vF2 := put_in kA kF (V.int (p + 1)) vF1 fa
          have vN2 := put_in kA kN (V.int (p + 1)) vN1 na
          have vA2 : valV (putK kvs1 kA (V.int (p + 1))) kA = some (V.int (p + 1)) := put_at kA _
          refine ⟨_, rfl, d, _, rfl, dg kA upd_same vA1, _, _, rfl, rfl, _, rfl, d, _, rfl, DPut.k (k := kA) upd_same (five l1), ?_⟩
          rw [upd_upd]
          generalize putK kvs1 kA (V.int (p + 1)) = kvs2 at *
          refine ⟨_, rfl, _, _, rfl, rfl, ⟨by decide, by decide, by decide⟩, _, _, rfl, rfl, _, rfl, ite2 (fun hge => ?_) (fun _ => ?_)⟩
          · have hge := of_decide_eq_true hge
            refine ⟨_, rfl, _, _, rfl, rfl, ⟨by decide, by decide, by decide⟩, _, _, rfl, rfl, _, rfl, d, _, rfl, DPut.k (k := kG) upd_same (five l2), ?_⟩
            rw [upd_upd]
            have e10 : (10 : Int) ^ (18 : Int).toNat = 1000000000000000000 := by decide
            exact mid _ _ _ (p + 1) _ f upd_same (off _) (by rw [putK_same vG2]; exact l2) (put_in kG kC _ vC2 cg) (put_in kG kA _ vA2 ag) (put_at kG _) (put_in kG kN _ vN2 ng) (put_in kG kF _ vF2 fg) ⟨by omega, by omega⟩ ⟨f0, f1⟩
          · refine ⟨_, rfl, d, _, rfl, dg kF upd_same vF2, _, _, rfl, rfl, .inl ⟨by omega, by omega⟩, _, rfl, _, _, rfl, rfl, .inl ⟨_, rfl, _, _, rfl, rfl, (by show (0 : Int) < 2147483587; decide), _, rfl, d, _, rfl, DPut.k (k := kF) upd_same (five l2), ?_⟩⟩
            rw [upd_upd]
            exact mid _ _ _ (p + 1) g _ upd_same (off _) (by rw [putK_same vF2]; exact l2) (put_in kF kC _ vC2 cf) (put_in kF kA _ vA2 af) (put_in kF kG _ vG2 gf) (put_in kF kN _ vN2 nf) (put_at kF _) ⟨by omega, by omega⟩ ⟨by omega, by omega⟩
        · exact mid _ _ _ p g f upd_same (off _) l1 vC1 vA1 vG1 vN1 vF1 ⟨p0, g0⟩ ⟨f0, f1⟩
      · refine iteF ?_
        exact mid _ _ _ p g f upd_same (off _) l1 vC1 vA1 vG1 vN1 vF1 ⟨p0, g0⟩ ⟨f0, f1⟩
    · clear vC1 vA1 vG1 vF1 vN1 l1 hc1 p0 g0 f0 f1 hl hd
      rintro σ' H2 ⟨kvs2, p2, g2, f2, z, rfl, hd2, off, l2, vC2, vA2, vG2, vN2, vF2, ⟨p0, g0⟩, f0, f1⟩
      have hc2 : H2 c = some (.lst (cs.map V.int)) := (off c ne).trans hc
      have m30 : m < 1073741824 := by omega
      refine ⟨_, rfl, d, _, rfl, dg kG hd2 vG2, _, _, rfl, rfl, _, rfl, ite2 (fun hgt => ?_) (fun _ => ?_)⟩
      · refine ⟨_, rfl, d, _, rfl, dg kG hd2 vG2, .inl ⟨_, rfl, _, rfl, _, _, rfl, rfl, m0, ?_⟩⟩
        refine ⟨_, rfl, d, _, rfl, dg kG hd2 vG2, _, rfl, _, _, rfl, rfl, ⟨m0, m30⟩, _, rfl, d, _, rfl, DPut.k (k := kG) hd2 (five l2), _, rfl, ?_⟩
        have q0 : 0 ≤ g2 / m := Int.ediv_nonneg g0 (by omega)
        refine k _ _ (Int.emod_nonneg _ (by omega)) (Int.emod_lt_of_pos _ m0) ⟨⟨_, cs, p2, g2 / m, f2, upd_same, by rw [upd_ne ne]; exact hc2, by rw [putK_same vG2]; exact l2, put_in kG kC _ vC2 cg, put_in kG kA _ vA2 ag, put_at kG _, put_in kG kN _ vN2 ng, put_in kG kF _ vF2 fg, ⟨p0, q0⟩, f0, f1⟩, fun b hb => by rw [upd_ne hb]; exact off b hb⟩
      · refine ⟨_, rfl, d, _, rfl, dg kF hd2 vF2, _, rfl, d, _, rfl, dg kN hd2 vN2, _, _, rfl, rfl, .inr ⟨by decide, by decide⟩, _, _, rfl, rfl, _, _, rfl, rfl, ?_⟩
        refine ⟨_, rfl, _, _, rfl, rfl, ⟨by decide, by decide, by omega⟩, _, _, rfl, rfl, (by show (0 : Int) < 2305843009213693951; decide), .inl ⟨_, rfl, _, _, rfl, rfl, ⟨by decide, by decide⟩, _, rfl, _, _, rfl, rfl, m0, ?_⟩⟩
        exact k _ _ (Int.emod_nonneg _ (by omega)) (Int.emod_lt_of_pos _ m0) ⟨⟨kvs2, cs, p2, g2, f2, hd2, hc2, l2, vC2, vA2, vG2, vN2, vF2, ⟨p0, g0⟩, f0, f1⟩, off⟩

theorem scPen : FnScope ["_law_script", "_law_fold", "_law_cell"] ["_law_script"] (defScope sPen) := ⟨rfl, rfl, rfl, by decide +kernel, rfl, by decide +kernel, by decide +kernel⟩
theorem ok_pen {f : Addr} {fd : FuncData} (F : Fun K "_law_pen" "_law_pen" sPen f fd) (mInt : mg "int" = none) (mLst : mg "list" = none) : FnOk P w K mg base CX0 1 f fd ["_law_script"] (spPen K) := by
  refine F.ok scPen (fun vs H Q E h => ?_) (fun cdv A outer s H vs Q E hr h => ?_)
  · obtain ⟨a, ns, rfl, _⟩ := h
    rfl
  · obtain ⟨a, ns, rfl, hS, k⟩ := h
    refine ⟨_, pss_cons (ps_set (i := 1) scPen.nd rfl (Or.inl rfl) pe_int)
      (pss_cons (ps_for PassesOwn.never rfl (pi_list (pv 0)) (pg_name (i := 2) scPen.nd rfl (Or.inl rfl))
        (pss_one (ps_set (i := 1) scPen.nd rfl (Or.inl rfl) (pe_op op_mod (pe_callTy call_int1 (by rfl) mInt (by decide +kernel) (pa_cons (pe_op op_add (pe_op op_mul (pv 1) pe_int) (pv 2)) pa_nil)) pe_int))))
      (pss_one (ps_ret (pe_disp (pps_cons pe_str (pe_callTy call_list_of (by rfl) mLst (by decide +kernel) (pa_cons (pv 0) pa_nil))
        (pps_cons pe_str pe_int (pps_cons pe_str pe_int (pps_cons pe_str pe_int (pps_cons pe_str (pv 1) pps_nil))))) rfl rfl (by simp) (by decide))))), ?_⟩
    refine ⟨_, rfl, a, rfl, ⟨_, hS⟩, for_list (K := K) (a := a) (xs := ns.map V.int) (fun _ σ H2 => ∃ (f : Int) (v : Option V), σ = [some (.ref a), some (.int f), v] ∧ H2 = H ∧ 0 ≤ f ∧ f < 1000000007)
      ⟨0, none, rfl, rfl, by decide, by decide⟩ (fun i σ H2 _ ⟨_, _, _, e, _⟩ => e ▸ hS) ?_ ?_⟩
    · rintro i y σ H2 hi ⟨f, v, rfl, rfl, f0, f1⟩
      obtain ⟨z, rfl⟩ : ∃ z, y = V.int z := by
        rw [List.getElem?_map] at hi
        cases e : ns[i]? with
        | none => rw [e] at hi; cases hi
        | some z => rw [e] at hi; exact ⟨z, (Option.some.inj hi).symm⟩
      refine ⟨_, rfl, _, _, rfl, rfl, .inl ⟨by omega, by omega⟩, _, rfl, _, _, rfl, rfl, .inl ⟨_, rfl, _, _, rfl, rfl, (by show (0 : Int) < 1000000007; decide), ?_⟩⟩
      exact ⟨_, _, rfl, rfl, Int.emod_nonneg _ (by decide), Int.emod_lt_of_pos _ (by decide)⟩
    · rintro σ H2 ⟨f, v, rfl, rfl, f0, f1⟩
      intro d hd
      have hS1 : SqL K (L2.upd H2 d (.dK [])) a (ns.map V.int) := Same.seq (fun b o e => by rw [upd_ne (ne_of_none e hd)]; exact e) hS
      refine ⟨_, rfl, a, _, rfl, .inl hS1, fun c hc => ?_⟩
      have ncd : c ≠ d := fun e => by
        rw [e, upd_same] at hc
        cases hc
      have hc0 : H2 c = none := by rw [upd_ne ncd] at hc; exact hc
      refine ⟨_, rfl, by rw [upd_ne ncd.symm, upd_same], [(kC, .ref c), (kA, .int 0), (kG, .int 0), (kN, .int 0), (kF, .int f)], rfl, (by show 5 ≤ 15; decide), ?_⟩
      have lm := length_mergeK [(kC, V.ref c), (kA, .int 0), (kG, .int 0), (kN, .int 0), (kF, .int f)] []
      obtain ⟨ac, gc, nc, fc, ca, ga, na, fa, cg, ag, ng, fg, cn, an, gn, fn, cf, af, gf, nf⟩ := kne
      have em : mergeK [] [(kC, V.ref c), (kA, .int 0), (kG, .int 0), (kN, .int 0), (kF, .int f)] = putK (putK (putK (putK (putK [] kC (.ref c)) kA (.int 0)) kG (.int 0)) kN (.int 0)) kF (.int f) := rfl
      have v1 : valV (mergeK [] [(kC, V.ref c), (kA, .int 0), (kG, .int 0), (kN, .int 0), (kF, .int f)]) kC = some (.ref c) := by
        rw [em]; exact put_in _ _ _ (put_in _ _ _ (put_in _ _ _ (put_in _ _ _ (put_at _ _) ca) cg) cn) cf
      have v2 : valV (mergeK [] [(kC, V.ref c), (kA, .int 0), (kG, .int 0), (kN, .int 0), (kF, .int f)]) kA = some (.int 0) := by
        rw [em]; exact put_in _ _ _ (put_in _ _ _ (put_in _ _ _ (put_at _ _) ag) an) af
      have v3 : valV (mergeK [] [(kC, V.ref c), (kA, .int 0), (kG, .int 0), (kN, .int 0), (kF, .int f)]) kG = some (.int 0) := by
        rw [em]; exact put_in _ _ _ (put_in _ _ _ (put_at _ _) gn) gf
      have v4 : valV (mergeK [] [(kC, V.ref c), (kA, .int 0), (kG, .int 0), (kN, .int 0), (kF, .int f)]) kN = some (.int 0) := by
        rw [em]; exact put_in _ _ _ (put_at _ _) nf
      have v5 : valV (mergeK [] [(kC, V.ref c), (kA, .int 0), (kG, .int 0), (kN, .int 0), (kF, .int f)]) kF = some (.int f) := by
        rw [em]; exact put_at _ _
      have l5 : (mergeK [] [(kC, V.ref c), (kA, .int 0), (kG, .int 0), (kN, .int 0), (kF, .int f)]).length ≤ 5 := lm
      refine k _ d c ⟨_, ns, 0, 0, f, upd_same, by rw [upd_ne ncd, upd_same], l5, v1, v2, v3, v4, v5, by decide, f0, by omega⟩ (fun b o e => ?_) hd
      rw [upd_ne (ne_of_none e hd), upd_ne (ne_of_none e hc0), upd_ne (ne_of_none e hd)]
      exact e
theorem scPick : FnScope ["_law_pen_here", "_law_some"] ["_law_pen_here", "_law_some"] (defScope sPick) := ⟨rfl, rfl, rfl, by decide +kernel, rfl, by decide +kernel, by decide +kernel⟩
theorem ok_pick {f fD : Addr} {fd fdD : FuncData} (F : Fun K "_law_pick" "_law_pick" sPick f fd) (FD : Fun K "_law_draw" "_law_draw" sDraw fD fdD) (bD : Binds K fdD ["_law_pen_here", "_law_many"] []) (mD : mg "_law_draw" = some (.ref fD))
    (mInt : mg "int" = none) (mLen : mg "len" = none) : FnOk P w K mg base CX0 2 f fd ["_law_pen_here", "_law_some"] (spPick K) := by
  have GD : FnOk P w K mg base CX0 1 fD fdD ["_law_pen_here", "_law_many"] spDraw := ok_draw FD mInt mLen
  refine F.ok scPick (fun vs H Q E h => ?_) (fun cdv A outer s H vs Q E hr h => ?_)
  · obtain ⟨d, c, a, n, xs, rfl, _⟩ := h
    rfl
  · obtain ⟨d, c, a, n, xs, rfl, pen, ha, x0, x1, n0, n1, k⟩ := h
    refine ⟨_, pss_one (ps_ret (pe_ix ix_list (pv 1) (pe_call GD hr rfl mD FD.kp bD .nil pass0 (pa_cons (pv 0) (pa_cons (pe_callB call_len_seq (by rfl) mLen PySem.boot_len (pa_cons (pv 1) pa_nil)) pa_nil))) (fun _ _ => rfl))), ?_⟩
    refine ⟨_, rfl, _, rfl, _, rfl, a, _, rfl, .inl (SqL.of ha), d, c, n, _, rfl, pen, by omega, by omega, n0, n1, fun r H' r0 r1 dr => ?_⟩
    have nda : a ≠ d := fun e => by
      obtain ⟨kvs, cs, p, g, f, h1, _⟩ := pen
      rw [e, h1] at ha
      cases ha
    have hr : r.toNat < xs.length := by omega
    refine ⟨a, _, _, _, rfl, rfl, SqL.of ((dr.off a nda).trans ha), at_of (j := r.toNat) (by omega) (List.getElem?_eq_getElem hr), ?_⟩
    exact k _ _ (List.getElem_mem hr) dr
theorem scLarge : FnScope ["_law_pen_here", "_law_way", "_law_total", "_law_k"] ["_law_pen_here"] (defScope sLarge) := ⟨rfl, rfl, rfl, by decide +kernel, rfl, by decide +kernel, by decide +kernel⟩
theorem ok_large {f fD fP : Addr} {fd fdD fdP : FuncData} (F : Fun K "_law_large" "_law_large" sLarge f fd) (FD : Fun K "_law_draw" "_law_draw" sDraw fD fdD) (bD : Binds K fdD ["_law_pen_here", "_law_many"] []) (mD : mg "_law_draw" = some (.ref fD))
    (FP : Fun K "_law_pick" "_law_pick" sPick fP fdP) (bP : Binds K fdP ["_law_pen_here", "_law_some"] []) (mP : mg "_law_pick" = some (.ref fP))
    (mInt : mg "int" = none) (mLen : mg "len" = none) (mRng : mg "range" = none) : FnOk P w K mg base CX0 3 f fd ["_law_pen_here"] spLarge := by
  have GD : FnOk P w K mg base CX0 1 fD fdD ["_law_pen_here", "_law_many"] spDraw := ok_draw FD mInt mLen
  have GP : FnOk P w K mg base CX0 2 fP fdP ["_law_pen_here", "_law_some"] (spPick K) := ok_pick FP FD bD mD mInt mLen
  refine F.ok scLarge (fun vs H Q E h => ?_) (fun cdv A outer s H vs Q E hr h => ?_)
  · obtain ⟨d, c, n, rfl, _⟩ := h
    rfl
  · obtain ⟨d, c, n, rfl, pen, n0, n1, k⟩ := h
    have hr1 : Room 1 _ := hr.mono (by decide)
    refine ⟨_, pss_cons (ps_par (i := 1) (j := 2) rfl scLarge.nd rfl rfl (by decide) rfl rfl (pa_cons (pe_call GD hr1 rfl mD FD.kp bD .nil pass0 (pa_cons (pv 0) (pa_cons pe_int pa_nil))) (pa_cons pe_int pa_nil)) (by rfl))
      (pss_cons (ps_if (pt_cmpR op_lt (pv 1) pe_int (nomark _)) (pss_one (ps_ret (pe_call GD hr1 rfl mD FD.kp bD .nil pass0 (pa_cons (pv 0) (pa_cons pe_int pa_nil))))) pss_nil)
      (pss_cons (ps_for PassesOwn.never rfl (pi_range1 rfl mRng (pa_cons (pe_call GP hr rfl mP FP.kp bP .nil pass0 (pa_cons (pv 0) (pa_cons (pe_lst (pa_cons pe_int (pa_cons pe_int (pa_cons pe_int (pa_cons pe_int pa_nil))))) pa_nil))) pa_nil)) (pg_name (i := 3) scLarge.nd rfl (Or.inl rfl))
        (pss_one (ps_set (i := 2) scLarge.nd rfl (Or.inl rfl) (pe_op op_add (pe_op op_mul (pv 2) pe_int) (pe_call GD hr1 rfl mD FD.kp bD .nil pass0 (pa_cons (pv 0) (pa_cons pe_int pa_nil)))))))
      (pss_one (ps_ret (pv 2))))), ?_⟩
    refine ⟨_, rfl, d, c, n, 6, rfl, pen, by decide, by decide, n0, by omega, fun way H1 w0 w1 dr1 => ?_⟩
    refine ⟨_, _, rfl, ?_⟩
    refine ⟨_, rfl, _, _, rfl, rfl, _, rfl, ite2 (fun _ => ?_) (fun _ => ?_)⟩
    · refine ⟨_, rfl, d, c, n + 1, 40, rfl, dr1.pen, by decide, by decide, by omega, by omega, fun r H2 r0 r1 dr2 => ?_⟩
      have dr := dr1.trans dr2
      exact k r (n + 1 + 1) H2 r0 (Int.lt_trans r1 (by decide)) (by omega) (by omega) dr.pen fun b o e hb => (dr.off b hb).trans e
    · refine ⟨_, rfl, (by show 4 ≤ sizeLine; decide), fun p np => ?_⟩
      have pen1 := dr1.pen.upd (o := .lst [.int 1, .int 2, .int 6, .int 19]) np
      refine ⟨d, c, p, n + 1, [.int 1, .int 2, .int 6, .int 19], rfl, pen1, upd_same, by decide, by decide, by omega, by omega, fun x H2 hx dr2 => ?_⟩
      obtain ⟨j, rfl, j0, j1⟩ : ∃ j : Int, x = .int j ∧ 1 ≤ j ∧ j ≤ 19 := by
        rcases List.mem_cons.mp hx with rfl | hx
        · exact ⟨_, rfl, by decide, by decide⟩
        rcases List.mem_cons.mp hx with rfl | hx
        · exact ⟨_, rfl, by decide, by decide⟩
        rcases List.mem_cons.mp hx with rfl | hx
        · exact ⟨_, rfl, by decide, by decide⟩
        rcases List.mem_cons.mp hx with rfl | hx
        · exact ⟨_, rfl, by decide, by decide⟩
        · exact (List.not_mem_nil hx).elim
      have fr2 : ∀ b o, H b = some o → b ≠ d → H2 b = some o := fun b o e hb => by
        have h1 : H1 b = some o := (dr1.off b hb).trans e
        rw [dr2.off b hb, upd_ne (ne_of_none h1 np)]
        exact h1
      refine ⟨j, rfl, by omega, by omega, for_range (lo := 0) (n := j.toNat) (fun i σ H3 => ∃ (t n' : Int) (v : Option V), σ = [some (.ref d), some (.int way), some (.int t), v] ∧ 0 ≤ t ∧ t < ((1000 ^ i : Nat) : Int) ∧ n' = n + 2 + (i : Int) ∧
        Pen H3 d c n' ∧ ∀ b o, H b = some o → b ≠ d → H3 b = some o) ⟨0, _, none, rfl, by decide, by decide, rfl, ?_, fr2⟩ ?_ ?_⟩
      · have e := dr2.pen
        rw [show n + 1 + 1 = n + 2 + ((0 : Nat) : Int) by omega] at e
        exact e
      · rintro i σ H3 hi ⟨t, n', v, rfl, t0, t1, rfl, pen3, fr3⟩
        refine ⟨_, rfl, _, _, rfl, rfl, .inr ⟨by decide, by decide⟩, _, rfl, d, c, _, 1000, rfl, pen3, by decide, by decide, by omega, by omega, fun r H4 r0 r1 dr4 => ?_⟩
        refine ⟨_, _, rfl, rfl, ?_⟩
        refine ⟨_, _, _, rfl, by omega, ?_, ?_, dr4.pen, fun b o e hb => (dr4.off b hb).trans (fr3 b o e hb)⟩
        · rw [Nat.pow_succ]
          omega
        · omega
      · rintro σ H3 ⟨t, n', v, rfl, t0, t1, rfl, pen3, fr3⟩
        have hp : 1000 ^ j.toNat ≤ 1000 ^ 19 := Nat.pow_le_pow_right (by decide) (by omega)
        have e19 : (1000 ^ 19 : Nat) = 10 ^ 57 := by decide
        refine ⟨_, rfl, ?_⟩
        refine k t _ H3 t0 ?_ (by omega) (by omega) pen3 fr3
        have : ((1000 ^ j.toNat : Nat) : Int) ≤ ((10 ^ 57 : Nat) : Int) := by rw [← e19]; exact Int.ofNat_le.mpr hp
        exact Int.lt_of_lt_of_le t1 this
end
end K67

namespace K67
open PySem L2 Gd B5
section
variable {P : Program} {w : World} {K : PySem.W.Frag} {mg : Str → Option Value} {base : Heap}
abbrev sBadNumber : Stmt := inClass (top 2) 0
theorem scBadNumber : FnScope ["self", "what", "number"] ["self", "what", "number"] (defScope sBadNumber) := ⟨rfl, rfl, rfl, by decide +kernel, rfl, by decide +kernel, by decide +kernel⟩
theorem okBadNumber {f C : Addr} {fd : FuncData} (F : Fun K "__init__" "BadNumber.__init__" sBadNumber f fd) (T : OexC K C) (no : ∀ g ∈ (["what", "number"] : List Str), PySem.W.findIn K (.ref C) g = some none) : FnOk P w K mg base CX0 1 f fd ["self", "what", "number"] (spIni C ["what", "number"]) := by
  refine F.ok scBadNumber (fun vs H Q E h => ?_) (fun cdv A outer s H vs Q E hr h => ?_)
  · obtain ⟨a, ys, rfl, hl, _⟩ := h
    show ys.length + 1 = _
    rw [hl]
    rfl
  · obtain ⟨a, ys, rfl, hl, ha, k⟩ := h
    match ys, hl with
    | [y0, y1], _ =>
    refine ⟨_, pss_cons (ps_ost (pv 0) (pv 1)) (pss_one (ps_ost (pv 0) (pv 2))), ?_⟩
    refine ⟨_, rfl, _, rfl, a, C, rfl, T, no _ (.head _), .inl ⟨ha, fun dx hdx ne => ?_⟩⟩
    refine ⟨_, rfl, _, rfl, a, C, rfl, T, no _ (.tail _ (.head _)), .inr ⟨dx, _, upd_same, by rw [upd_ne ne, upd_same], by show 1 ≤ 900; decide, ?_⟩⟩
    refine k _ dx hdx ne (fun b hb hd => ?_) ?_ ?_
    · rw [upd_ne hd, upd_ne hb, upd_ne hd]
    · rw [upd_ne ne.symm, upd_same]
    · exact upd_same
abbrev sBadRow : Stmt := inClass (top 3) 0
theorem scBadRow : FnScope ["self", "row"] ["self", "row"] (defScope sBadRow) := ⟨rfl, rfl, rfl, by decide +kernel, rfl, by decide +kernel, by decide +kernel⟩
theorem okBadRow {f C : Addr} {fd : FuncData} (F : Fun K "__init__" "BadRow.__init__" sBadRow f fd) (T : OexC K C) (no : ∀ g ∈ (["row"] : List Str), PySem.W.findIn K (.ref C) g = some none) : FnOk P w K mg base CX0 1 f fd ["self", "row"] (spIni C ["row"]) := by
  refine F.ok scBadRow (fun vs H Q E h => ?_) (fun cdv A outer s H vs Q E hr h => ?_)
  · obtain ⟨a, ys, rfl, hl, _⟩ := h
    show ys.length + 1 = _
    rw [hl]
    rfl
  · obtain ⟨a, ys, rfl, hl, ha, k⟩ := h
    match ys, hl with
    | [y0], _ =>
    refine ⟨_, pss_one (ps_ost (pv 0) (pv 1)), ?_⟩
    refine ⟨_, rfl, _, rfl, a, C, rfl, T, no _ (.head _), .inl ⟨ha, fun dx hdx ne => ?_⟩⟩
    refine k _ dx hdx ne (fun b hb hd => ?_) ?_ ?_
    · rw [upd_ne hb, upd_ne hd]
    · exact upd_same
    · rw [upd_ne ne, upd_same]; rfl
abbrev sUnlike : Stmt := inClass (top 4) 0
theorem scUnlike : FnScope ["self", "what"] ["self", "what"] (defScope sUnlike) := ⟨rfl, rfl, rfl, by decide +kernel, rfl, by decide +kernel, by decide +kernel⟩
theorem okUnlike {f C : Addr} {fd : FuncData} (F : Fun K "__init__" "Unlike.__init__" sUnlike f fd) (T : OexC K C) (no : ∀ g ∈ (["what"] : List Str), PySem.W.findIn K (.ref C) g = some none) : FnOk P w K mg base CX0 1 f fd ["self", "what"] (spIni C ["what"]) := by
  refine F.ok scUnlike (fun vs H Q E h => ?_) (fun cdv A outer s H vs Q E hr h => ?_)
  · obtain ⟨a, ys, rfl, hl, _⟩ := h
    show ys.length + 1 = _
    rw [hl]
    rfl
  · obtain ⟨a, ys, rfl, hl, ha, k⟩ := h
    match ys, hl with
    | [y0], _ =>
    refine ⟨_, pss_one (ps_ost (pv 0) (pv 1)), ?_⟩
    refine ⟨_, rfl, _, rfl, a, C, rfl, T, no _ (.head _), .inl ⟨ha, fun dx hdx ne => ?_⟩⟩
    refine k _ dx hdx ne (fun b hb hd => ?_) ?_ ?_
    · rw [upd_ne hb, upd_ne hd]
    · exact upd_same
    · rw [upd_ne ne, upd_same]; rfl
end
end K67

namespace K67
open PySem L2 Gd B5
section
variable {P : Program} {w : World} {K : PySem.W.Frag} {mg : Str → Option Value} {base : Heap}
abbrev sIsI : Stmt := top 6
theorem scIsI : FnScope ["value"] ["value"] (defScope sIsI) := ⟨rfl, rfl, rfl, by decide +kernel, rfl, by decide +kernel, by decide +kernel⟩
theorem ok_isI {f : Addr} {fd : FuncData} (F : Fun K "is_integer" "is_integer" sIsI f fd) (mIsi : mg "isinstance" = none) (mInt : mg "int" = none) (mBool : mg "bool" = none) : FnOk P w K mg base CX0 1 f fd ["value"] (spIsI K) := by
  refine F.ok scIsI (fun vs H Q E h => ?_) (fun cdv A outer s H vs Q E hr h => ?_)
  · obtain ⟨x, rfl, _⟩ := h
    rfl
  · obtain ⟨x, rfl, h⟩ := h
    refine ⟨_, pss_one (ps_ret (pe_and (pe_callB call_isi (by rfl) mIsi (by decide +kernel) (pa_cons (pv 0) (pa_cons (pe_bltn (v := .ty "int") rfl mInt (by decide +kernel) rfl) pa_nil)))
      (pe_one (pe_not (pe_callB call_isi (by rfl) mIsi (by decide +kernel) (pa_cons (pv 0) (pa_cons (pe_bltn (v := .ty "bool") rfl mBool (by decide +kernel) rfl) pa_nil))))))), ?_⟩
    obtain ⟨i, rfl, q⟩ | ⟨⟨n, hn, t⟩, q⟩ | ⟨t, ty, kt, q⟩ := h
    · refine ⟨_, rfl, _, _, _, _, _, rfl, .ty "int", .base (.int i), kit_ty on_int.1, _, rfl, iteT ?_⟩
      exact ⟨_, rfl, _, _, _, _, _, rfl, .ty "bool", .base (.int i), kit_ty on_int.2, _, rfl, q⟩
    · obtain ⟨k1, k2⟩ := off_int n hn
      refine ⟨_, rfl, _, _, _, _, _, rfl, .ty "int", t, kit_ty k1, _, rfl, ite2 (fun z => ?_) (fun z => q)⟩
      refine ⟨_, rfl, _, _, _, _, _, rfl, .ty "bool", t, kit_ty k2, _, rfl, ?_⟩
      rw [z]
      exact q
    · exact ⟨_, rfl, _, _, _, _, _, rfl, .ty "int", ty, kt, _, rfl, iteF q⟩
end
section
variable {P : Program} {w : World} {K : PySem.W.Frag} {mg : Str → Option Value} {base : Heap}
end
section
variable {P : Program} {w : World} {K : PySem.W.Frag} {mg : Str → Option Value} {base : Heap}
variable {fI f : Addr} {fdI fd : FuncData}
abbrev sIsIs : Stmt := top 7
theorem scIsIs : FnScope ["value", "item"] ["value"] (defScope sIsIs) := ⟨rfl, rfl, rfl, by decide +kernel, rfl, by decide +kernel, by decide +kernel⟩
theorem ok_isIs (F : Fun K "is_integers" "is_integers" sIsIs f fd) (B : Blt mg) (I : Cl K mg "is_integer" sIsI ["value"] fI fdI) :
    FnOk P w K mg base CX0 2 f fd ["value"] (spIsIs K) := by
  have GI : FnOk P w K mg base CX0 1 fI fdI ["value"] (spIsI K) := ok_isI I.fn B.isi_ B.int_ B.bool_
  refine F.ok scIsIs (fun vs H Q E h => ?_) (fun cdv A outer s H vs Q E hr h => ?_)
  · obtain ⟨x, rfl, _⟩ := h
    rfl
  · obtain ⟨x, rfl, h⟩ := h
    refine ⟨_, pss_one (ps_ret (pe_and (pe_callB call_isiT (by rfl) B.isi_ (by decide +kernel) (pa_cons (pv 0) (pa_cons (pe_tup (pa_cons (pe_bltn (v := .ty "tuple") rfl B.tup_ (by decide +kernel) rfl)
        (pa_cons (pe_bltn (v := .ty "list") rfl B.list_ (by decide +kernel) rfl) pa_nil))) pa_nil)))
      (pe_one (pe_callB (cr_all rfl) (by rfl) B.all_ (by decide +kernel) (pa_cons (pe_lc (own := [("item", 1)]) (g := gName 1) (tt := tYes) rfl scIsIs.nd (pi_or (pi_list (pv 0)) (pi_tup (pv 0)))
        (blkOk_by (N := ["value", "item"]) (sc := defScope sIsIs) (by decide +kernel))
        (fun _ _ _ _ _ => pg_name (i := 1) scIsIs.nd rfl (Or.inl rfl)) (fun _ _ _ _ _ => pts_nil)
        (fun _ _ _ _ _ => pe_call GI hr rfl I.g I.k I.b .nil pass0 (pa_cons (pv 1) pa_nil))) pa_nil))))), ?_⟩
    refine ⟨_, rfl, (by show 2 ≤ sizeLine; decide), fun t ht => ?_⟩
    have m1 : More H (upd H t (.tup [.ty "tuple", .ty "list"])) := More.new (fun _ _ e => e) ht
    obtain ⟨n, hn, ty, q⟩ | ⟨a, xs, rfl, sq, few, all, q⟩ := h
    · obtain ⟨k1, k2⟩ := seq_no n hn
      refine ⟨_, t, _, _, _, false, rfl, upd_same, .cons (.ty "tuple") (.cons (.ty "list") .nil), tyMore m1 ty, kitAny_cons (kit_ty k1) (fun _ => kitAny_cons (kit_ty k2) (fun _ => kitAny_nil) (fun z => nomatch z)) (fun z => nomatch z), _, rfl, iteF ?_⟩
      exact q _ m1
    · have yes : ∃ n, TyX K H (.ref a) (.type n) ∧ PySem.W.kitAny K (.type n) [.type "tuple", .type "list"] = some true := by
        obtain h | h := sq
        · exact ⟨_, tyL h, kitAny_cons (kit_ty seq_yes.2.1) (fun _ => kitAny_cons (kit_ty seq_yes.2.2) (fun z => nomatch z) (fun _ => rfl)) (fun z => nomatch z)⟩
        · exact ⟨_, tyT h, kitAny_cons (kit_ty seq_yes.1) (fun z => nomatch z) (fun _ => rfl)⟩
      obtain ⟨n, ty, ka⟩ := yes
      refine ⟨_, t, _, _, _, true, rfl, upd_same, .cons (.ty "tuple") (.cons (.ty "list") .nil), tyMore m1 ty, ka, _, rfl, iteT ?_⟩
      have sq1 := Sq.more m1 sq
      generalize upd H t (.tup [.ty "tuple", .ty "list"]) = H1 at m1 sq1 ⊢
      have body : ∀ (J : It) (G : Hp → Prop), Walk J xs.length G (YAt xs) → (∀ H', More H1 H' → G H') → ∀ L, H1 L = none → _ :=
        fun J G wk hG L hL => lc_it (w := wk) (vs := [1]) (g := gName 1) (tt := tYes) (σ := [some (.ref a), none]) (D := L) (H1 := H1)
          (te := tCall (spIsI K) [] (fun _ _ _ => False) (tCons (tVar 1) tNil))
          (Qd := fun H' => ∃ (b : Addr) (bs : List Bool), [V.ref L] = [V.ref b] ∧ SqL K H' b (bs.map V.bl) ∧ Q (.bl (bs.all id)) H')
          (fun i H' => H' L = some (.lst ((xs.take i).map fun y => V.bl (isI y))) ∧ More H1 H') ⟨upd_same, More.new (fun _ _ e => e) hL⟩ (fun i H' _ h => hG H' h.2)
          (fun i y H2 H3 hi ⟨e1, m2⟩ ⟨eH, hy⟩ => by
            subst eH
            have la : ((xs.take i).map fun y => V.bl (isI y)).length < sizeLine := by
              rw [List.length_map, List.length_take]
              exact small1000 (by omega)
            have fin : ∀ b, isI y = b → ∃ acc, H3 L = some (.lst acc) ∧ acc.length < sizeLine ∧ (upd H3 L (.lst (acc ++ [V.bl b]))) L = some (.lst ((xs.take (i + 1)).map fun y => V.bl (isI y))) ∧ More H1 (upd H3 L (.lst (acc ++ [V.bl b]))) := by
              intro b hb
              refine ⟨_, e1, la, ?_, m2.at hL⟩
              rw [upd_same, take_snoc hy, List.map_append, List.map_cons, List.map_nil, hb]
            refine ⟨rfl, _, rfl, y, rfl, ?_⟩
            obtain ⟨z, rfl⟩ | no := all y (List.mem_of_getElem? hy)
            · exact .inl ⟨z, rfl, fin _ rfl⟩
            · exact .inr (.inl ⟨no.more fun b o e => m2 b o (m1 b o e), fin _ (noInt_isI no)⟩))
          (fun H' ⟨e1, m2⟩ => by
            rw [List.take_length] at e1
            refine ⟨L, xs.map isI, rfl, SqL.of (by rw [List.map_map]; exact e1), ?_⟩
            have : ((xs.map isI).all id) = xs.all isI := by rw [List.all_map]; rfl
            rw [this]
            exact q _ fun b o e => m2 b o (m1 b o e))
      obtain h | h := sq1
      · exact .inl ⟨_, rfl, a, rfl, ⟨xs, h⟩, body _ _ walk_list fun H' m => Same.seq m h⟩
      · exact .inr ⟨_, rfl, a, rfl, ⟨xs, h⟩, body _ _ walk_tup fun H' m => sqT_more m h⟩
end
end K67

namespace K67
open PySem L2 Gd B5
section
variable {P : Program} {w : World} {K : PySem.W.Frag} {mg : Str → Option Value} {base : Heap}
variable {fI fS f : Addr} {fdI fdS fd : FuncData}
abbrev sRow : Stmt := top 8
theorem scRow : FnScope ["value", "width"] ["value", "width"] (defScope sRow) := ⟨rfl, rfl, rfl, by decide +kernel, rfl, by decide +kernel, by decide +kernel⟩
theorem ok_row (F : Fun K "is_row" "is_row" sRow f fd) (B : Blt mg) (I : Cl K mg "is_integer" sIsI ["value"] fI fdI) (S : Cl K mg "is_integers" sIsIs ["value"] fS fdS) :
    FnOk P w K mg base CX0 3 f fd ["value", "width"] (spRow K) := by
  have GS : FnOk P w K mg base CX0 2 fS fdS ["value"] (spIsIs K) := ok_isIs S.fn B I
  refine F.ok scRow (fun vs H Q E h => ?_) (fun cdv A outer s H vs Q E hr h => ?_)
  · obtain ⟨x, n, rfl, _⟩ := h
    rfl
  · obtain ⟨x, n, rfl, h⟩ := h
    refine ⟨_, pss_one (ps_ret (pe_and (pe_call GS hr rfl S.g S.k S.b .nil pass0 (pa_cons (pv 0) pa_nil))
      (pe_one (pe_cmpR op_eq (pe_callB call_len_seq (by rfl) B.len_ PySem.boot_len (pa_cons (pv 0) pa_nil)) (pv 1) (nomark _))))), ?_⟩
    obtain ⟨⟨m, hm, t⟩, q⟩ | ⟨a, xs, rfl, s, i, q⟩ := h
    · exact ⟨_, rfl, x, rfl, .inl ⟨m, hm, t, fun H' mo => ⟨_, rfl, iteF (q H' mo)⟩⟩⟩
    · refine ⟨_, rfl, _, rfl, .inr ⟨a, xs, rfl, s, i.1, i.2, fun H' mo => ⟨_, rfl, ?_⟩⟩⟩
      have q := q H' mo
      cases e : xs.all isI with
      | false =>
        rw [e] at q
        exact iteF q
      | true =>
        rw [e] at q
        exact iteT ⟨_, rfl, a, _, rfl, s.more mo, _, rfl, rfl, by rw [deI]; exact q⟩
end
end K67

namespace K67
open PySem L2 Gd B5
section
variable {P : Program} {w : World} {K : PySem.W.Frag} {mg : Str → Option Value} {base : Heap}
variable {fN CN fI fC f : Addr} {fdN fdI fdC fd : FuncData} {D : Addr}
abbrev sCP : Stmt := top 11
theorem scCP : FnScope ["p"] ["p"] (defScope sCP) := ⟨rfl, rfl, rfl, by decide +kernel, rfl, by decide +kernel, by decide +kernel⟩
abbrev sDg : Stmt := top 12
theorem scDg : FnScope ["n", "p", "found", "digit"] ["n", "p"] (defScope sDg) := ⟨rfl, rfl, rfl, by decide +kernel, rfl, by decide +kernel, by decide +kernel⟩
theorem ok_cp (F : Fun K "check_prime" "check_prime" sCP f fd) (B : Blt mg) (I : Cl K mg "is_integer" sIsI ["value"] fI fdI)
    (N : Er K mg "BadNumber" "BadNumber.__init__" CN fN ["what", "number"] sBadNumber fdN) (gD : mg "PRIMES" = some (.ref D)) (dD : tupI K (.ref D) = some [2, 3, 5, 7]) :
    FnOk P w K mg base (L2.CX P w) 3 f fd ["p"] (spCP K CN) := by
  have GI : FnOk P w K mg base CX0 1 fI fdI ["value"] (spIsI K) := ok_isI I.fn B.isi_ B.int_ B.bool_
  have GN : FnOk P w K mg base CX0 1 fN fdN ["self", "what", "number"] (spIni CN ["what", "number"]) := okBadNumber N.fn N.T N.no
  refine F.okX scCP (fun vs H Q E h => ?_) (fun cdv A outer s H vs Q E hr h => ?_)
  · obtain ⟨x, rfl, _⟩ := h
    rfl
  · obtain ⟨x, rfl, h⟩ := h
    have hT : SqT K H D ([2, 3, 5, 7].map V.int) := by
      obtain ⟨a, us, n, sl, ea, hk, rv⟩ := tupI_some dD
      cases ea
      refine .inr ⟨_, us, n, hk, rfl, rfl, ?_, rv⟩
      have z := Paired.length rv
      have z2 : us.toList.length = us.size := Array.length_toList
      rw [← z2, ← z, sizeLine_eq]
      show 4 ≤ 16777216
      decide
    refine ⟨_, pss_one (ps_if (PW.pt (pw_or (pt_not (pt_val (pe_call GI (hr.mono (by decide)) rfl I.g I.k I.b .nil pass0 (pa_cons (pv 0) pa_nil))))
          (pw_or1 (pt_cmpR op_notIn_seq (pv 0) (pe_glob (v := .ref D) rfl gD rfl) (by rfl)))))
        (pss_one (ps_raise rfl (takes_of rfl rfl rfl rfl) (pmk_oex N.T N.iC N.tI GN hr N.b .nil pass0 rfl N.g (pa_cons pe_str (pa_cons (pv 0) pa_nil))))) pss_nil), ?_⟩
    obtain ⟨m, rfl, l, q⟩ | ⟨⟨m, rfl, l⟩ | bad, q⟩ := h
    · refine ⟨_, rfl, _, rfl, .inl ⟨m, rfl, _, rfl, iteF ⟨_, rfl, D, _, rfl, .inr hT, rfl, rfl, _, rfl, ?_⟩⟩⟩
      rw [if_pos rfl, show inV (V.int m) ([2, 3, 5, 7].map V.int) = true from l]
      exact iteF q
    · refine ⟨_, rfl, _, rfl, .inl ⟨m, rfl, _, rfl, iteF ⟨_, rfl, D, _, rfl, .inr hT, rfl, rfl, _, rfl, ?_⟩⟩⟩
      rw [if_pos rfl, show inV (V.int m) ([2, 3, 5, 7].map V.int) = false from l]
      exact iteT ⟨_, rfl, mk_ini rfl (by show 2 ≤ 900; decide) q⟩
    · exact ⟨_, rfl, _, rfl, .inr (.inl ⟨bad, _, rfl, iteT (iteT ⟨_, rfl, mk_ini rfl (by show 2 ≤ 900; decide) q⟩)⟩)⟩
theorem ok_dg (F : Fun K "digits" "digits" sDg f fd) (B : Blt mg) (I : Cl K mg "is_integer" sIsI ["value"] fI fdI) (C : Cl K mg "check_prime" sCP ["p"] fC fdC)
    (N : Er K mg "BadNumber" "BadNumber.__init__" CN fN ["what", "number"] sBadNumber fdN) (gD : mg "PRIMES" = some (.ref D)) (dD : tupI K (.ref D) = some [2, 3, 5, 7]) :
    FnOk P w K mg base (L2.CX P w) 4 f fd ["n", "p"] (spDg K CN) := by
  have GI : FnOk P w K mg base CX0 1 fI fdI ["value"] (spIsI K) := ok_isI I.fn B.isi_ B.int_ B.bool_
  have GN : FnOk P w K mg base CX0 1 fN fdN ["self", "what", "number"] (spIni CN ["what", "number"]) := okBadNumber N.fn N.T N.no
  have GC : FnOk P w K mg base (L2.CX P w) 3 fC fdC ["p"] (spCP K CN) := ok_cp C.fn B I N gD dD
  refine F.okX scDg (fun vs H Q E h => ?_) (fun cdv A outer s H vs Q E hr h => ?_)
  · obtain ⟨x, y, rfl, _⟩ := h
    rfl
  · obtain ⟨x, y, rfl, h⟩ := h
    refine ⟨_, pss_cons (ps_if (PW.pt (pw_or (pt_not (pt_val (pe_call GI (hr.mono (by decide)) rfl I.g I.k I.b .nil pass0 (pa_cons (pv 0) pa_nil))))
          (pw_or1 (pt_cmpR op_lt (pv 0) pe_int (nomark _)))))
        (pss_one (ps_raise rfl (takes_of rfl rfl rfl rfl) (pmk_oex N.T N.iC N.tI GN (hr.mono (by decide)) N.b .nil pass0 rfl N.g (pa_cons pe_str (pa_cons (pv 0) pa_nil))))) pss_nil)
      (pss_cons (ps_expr (pe_call GC hr rfl C.g C.k C.b .nil (passes_call (takes_of rfl rfl rfl rfl) (fun _ _ _ _ h => h)) (pa_cons (pv 1) pa_nil)))
      (pss_cons (ps_set (i := 2) scDg.nd rfl (Or.inl rfl) (pe_lst pa_nil))
      (pss_cons (ps_while (passes_of rfl) (pt_cmpR op_gt (pv 0) pe_int (nomark _))
        (pss_cons (ps_asg (pe_callB call_divmod (by rfl) B.divmod_ (by decide +kernel) (pa_cons (pv 0) (pa_cons (pv 1) pa_nil)))
            (pg_tup (by rfl) (pgs_cons (pg_name (i := 0) scDg.nd rfl (Or.inl rfl)) (pgs_cons (pg_name (i := 3) scDg.nd rfl (Or.inl rfl)) pgs_nil))))
          (pss_one (ps_expr (pe_bm PySem.F.plainAttrs_list PySem.F.slot_list_append PySem.F.type_list_append mt_append (pv 2) (pa_cons (pv 3) pa_nil))))))
      (pss_one (ps_ret (pe_callTy call_tuple_of (by rfl) B.tup_ (by decide +kernel) (pa_cons (pv 2) pa_nil))))))), ?_⟩
    obtain ⟨n, p, rfl, rfl, pr, big, q⟩ | ⟨⟨i, rfl, neg⟩ | bad, q⟩ | ⟨n, rfl, n0, bad, q⟩ := h
    · obtain ⟨p2, p7⟩ := isPr_small pr
      refine ⟨_, rfl, _, rfl, .inl ⟨_, rfl, _, rfl, iteF ⟨_, rfl, _, _, rfl, rfl, _, rfl, ?_⟩⟩⟩
      rw [show decide ((n : Int) < 0) = false from decide_eq_false (by omega)]
      refine iteF ⟨_, rfl, _, rfl, .inl ⟨_, rfl, pr, ?_⟩⟩
      refine ⟨(by show 0 ≤ sizeLine; exact Nat.zero_le _), fun l hl => ?_⟩
      refine while_by (fun σ H2 => ∃ (m : Nat) (acc : List Int) (z : Option V), σ = [some (.int m), some (.int p), some (.ref l), z] ∧ H2 l = some (.lst (acc.map V.int)) ∧
          More H H2 ∧ acc ++ dgs p m = dgs p n) (fun σ _ => match σ with | some (.int m) :: _ => m.toNat | _ => 0)
        ⟨n, [], none, rfl, upd_same, More.new (fun _ _ e => e) hl, rfl⟩ ?_ ?_
      · rintro σ H2 ⟨m, acc, z, rfl, hl2, mo, eq⟩
        refine ⟨_, rfl, _, _, rfl, rfl, _, rfl, ite2 (fun hm => ?_) (fun hm => ?_)⟩
        · have hm : (0 : Int) < m := of_decide_eq_true hm
          have m0 : 0 < m := by omega
          refine ⟨_, rfl, _, rfl, _, _, rfl, ⟨by omega, by omega⟩, fun t ht => ?_⟩
          have lt : l ≠ t := ne_of_none hl2 ht
          have hl3 : (upd H2 t (.tup [.int ((m : Int) / p), .int ((m : Int) % p)])) l = some (.lst (acc.map V.int)) := by rw [upd_ne lt]; exact hl2
          refine ⟨t, _, rfl, SqT.of upd_same, rfl, _, _, rfl, _, _, rfl, rfl, ?_⟩
          have short : acc.length < sizeLine := by
            have e := congrArg List.length eq
            rw [List.length_append] at e
            have := dgs_len (show 2 ≤ p by omega) 400 n big
            exact small1000 (by omega)
          refine ⟨_, rfl, .inl ⟨rfl, _, SqL.of hl3⟩, _, rfl, l, _, _, rfl, rfl, hl3, by rw [List.length_map]; exact short, ?_⟩
          refine ⟨⟨m / p, acc ++ [((m % p : Nat) : Int)], _, rfl, ?_, ?_, ?_⟩, ?_⟩
          · rw [upd_same, List.map_append]
            rfl
          · refine More.at (More.new mo ht) (More.off ?_ hl)
            exact fun b o e => e
          · rw [List.append_assoc, List.singleton_append, ← dgs_pos m0 (by omega)]
            exact eq
          · show ((m / p : Nat) : Int).toNat < (m : Int).toNat
            have := Nat.div_lt_self m0 (show 1 < p by omega)
            omega
        · have hm : ¬ ((0 : Int) < m) := fun z => hm (decide_eq_true z)
          have m0 : m = 0 := by omega
          rw [m0, dgs_zero, List.append_nil] at eq
          rw [eq] at hl2
          refine ⟨_, rfl, l, _, rfl, .inl ⟨SqL.of hl2, fun t ht => ?_⟩⟩
          exact q _ t (More.new mo ht) (More.off mo ht) upd_same
      · rintro σ H2 Q1 Q2 f ⟨v, e, x, y, e1, e2, c, e3, q2⟩
        exact ⟨v, e, x, y, e1, e2, c, e3, f _ _ q2⟩
    · refine ⟨_, rfl, _, rfl, .inl ⟨i, rfl, _, rfl, iteF ⟨_, rfl, _, _, rfl, rfl, _, rfl, ?_⟩⟩⟩
      rw [show decide (i < 0) = true from decide_eq_true neg]
      exact iteT ⟨_, rfl, mk_ini rfl (by show 2 ≤ 900; decide) q⟩
    · exact ⟨_, rfl, _, rfl, .inr (.inl ⟨bad, _, rfl, iteT (iteT ⟨_, rfl, mk_ini rfl (by show 2 ≤ 900; decide) q⟩)⟩)⟩
    · refine ⟨_, rfl, _, rfl, .inl ⟨n, rfl, _, rfl, iteF ⟨_, rfl, _, _, rfl, rfl, _, rfl, ?_⟩⟩⟩
      rw [show decide (n < 0) = false from decide_eq_false (by omega)]
      exact iteF ⟨_, rfl, _, rfl, .inr ⟨bad, q⟩⟩
end
end K67

namespace ZipG
open PySem L2 PySem.Spec PyProof.Rows
/-! zip of any two of: a list, a tuple, a text -/
inductive Src where
  | l (a : Addr)
  | t (a : Addr)
  | s (z : Str)
def Src.v : Src → V
  | .l a => .ref a
  | .t a => .ref a
  | .s z => .str z
/-- its items as they stand -/
def Src.has (K : PySem.W.Frag) : Src → List V → Hp → Prop
  | .l a, xs, H => SqL K H a xs
  | .t a, xs, H => SqT K H a xs
  | .s z, xs, _ => xs = z.cps.toList.map fun c => V.str ⟨#[c]⟩
def Src.it : Src → Addr → Nat → Heap → Prop
  | .l a, it, i, h => h.IsListIter it a i
  | .t a, it, i, h => h.IsTupleIter it a i
  | .s z, it, i, h => ∃ t, h.IsStrIter it (strIterType z) z t i
def Src.low (n : Nat) : Src → Prop
  | .l a => a < n
  | .t a => a < n
  | .s _ => True
def ItG (K : PySem.W.Frag) (S1 S2 : Src) : It :=
  ⟨fun i H => ∃ xs ys, S1.has K xs H ∧ S2.has K ys H ∧ i < xs.length ∧ i < ys.length,
    fun i H v H' => ∃ T x y, v = .ref T ∧ H T = none ∧ H' = upd H T (.tup [x, y]) ∧ (∀ xs, S1.has K xs H → xs[i]? = some x) ∧ ∀ ys, S2.has K ys H → ys[i]? = some y,
    fun i H => ∃ xs ys : List V, S1.has K xs H ∧ S2.has K ys H ∧ i ≤ xs.length ∧ i ≤ ys.length ∧ (i = xs.length ∨ i = ys.length)⟩
theorem vals_back : ∀ {xs : List V} {us : List Value} {i : Nat} {u : Value}, Vals xs us → us[i]? = some u → ∃ x, xs[i]? = some x ∧ RelV x u
  | _, _, _, _, .nil, e => by simp at e
  | _, _, 0, _, .cons r _, e => by simp at e; subst e; exact ⟨_, rfl, r⟩
  | _, _, i + 1, u, .cons _ t, e => by
    rw [List.getElem?_cons_succ] at e
    obtain ⟨x, h1, h2⟩ := vals_back t e
    exact ⟨x, by rw [List.getElem?_cons_succ]; exact h1, h2⟩
section
variable {X : Cx} {pins : List (Addr × Obj)} {σ : L2.St} {H : Hp} {s : Shared} {A : Around}
theorem src_draw (hh : A.handled = none) (S : Src) (I : Inv X pins σ H s) {it i n : Nat} {xs : List V} (st : S.it it i s.heap) (low : S.low n) (hit : n ≤ it) (h : S.has X.K xs H) :
    ∃ (fp : List Addr) (P : Nat → Value → Prop) (St : Nat → Heap → Prop), Draws X.prog X.w A it fp xs.length P St ∧ St i s.heap ∧ (∀ j h', St j h' → S.it it j h') ∧ it ∈ fp ∧ (∀ b ∈ fp, b = it ∨ b < n) ∧ ∀ j u, P j u → ∃ x, xs[j]? = some x ∧ RelV x u := by
  cases S with
  | l a =>
    obtain ⟨its, rv, p, _⟩ := I.list h
    have hl := rv.length
    have e : its.toArray.size = xs.length := by rw [List.size_toArray, hl]
    have low : a < n := low
    refine ⟨_, _, _, e ▸ Draws.list hh it a (Nat.ne_of_lt (Nat.lt_of_lt_of_le low hit)) its.toArray, ⟨st, p.isList⟩, fun j h' z => z.1, by simp, fun b hb => ?_, fun j u hu => ?_⟩
    · have hb : b = it ∨ b = a := by simpa using hb
      rcases hb with rfl | rfl
      · exact .inl rfl
      · exact .inr low
    · have hu : its[j]? = some u := by simpa using hu
      exact vals_back rv hu
  | t a =>
    obtain ⟨its, rv, p, _⟩ := I.tuple h
    have hl := rv.length
    have e : its.toArray.size = xs.length := by rw [List.size_toArray, hl]
    have low : a < n := low
    refine ⟨_, _, _, e ▸ Draws.tuple hh it a (Nat.ne_of_lt (Nat.lt_of_lt_of_le low hit)) its.toArray, ⟨st, p⟩, fun j h' z => z.1, by simp, fun b hb => ?_, fun j u hu => ?_⟩
    · have hb : b = it ∨ b = a := by simpa using hb
      rcases hb with rfl | rfl
      · exact .inl rfl
      · exact .inr low
    · have hu : its[j]? = some u := by simpa using hu
      exact vals_back rv hu
  | s z =>
    obtain ⟨t, st⟩ := st
    have h : xs = z.cps.toList.map fun c => V.str ⟨#[c]⟩ := h
    subst h
    have e : z.cps.size = (z.cps.toList.map fun c => V.str ⟨#[c]⟩).length := by simp
    refine ⟨_, _, _, e ▸ Draws.text hh it z t, st, fun j h' z => ⟨t, z⟩, by simp, fun b hb => .inl (by simpa using hb), fun j u hu => ?_⟩
    obtain ⟨c, u', hc, rfl⟩ := hu
    refine ⟨.str ⟨#[c]⟩, ?_, u', rfl⟩
    rw [List.getElem?_map, Array.getElem?_toList, hc]
    rfl
theorem src_it {S : Src} {it i : Nat} {h h' : Heap} (st : S.it it i h) (k : ∀ o, h.get? it = some o → h'.get? it = some o) : S.it it i h' := by
  cases S with
  | l a => exact Heap.IsListIter.at st k
  | t a => exact Heap.IsTupleIter.at st k
  | s z =>
    obtain ⟨t, o, e, r⟩ := st
    exact ⟨t, o, k _ e, r⟩
theorem src_obj {S : Src} {it i : Nat} {h : Heap} (st : S.it it i h) : ∃ o, h.get? it = some o ∧ ∀ v, o.data ≠ .cell v := by
  cases S with
  | l a => obtain ⟨o, e, _, d⟩ := st; exact ⟨o, e, fun v q => by rw [d] at q; cases q⟩
  | t a => obtain ⟨o, e, _, d⟩ := st; exact ⟨o, e, fun v q => by rw [d] at q; cases q⟩
  | s z => obtain ⟨t, o, e, _, d⟩ := st; exact ⟨o, e, fun v q => by rw [d] at q; cases q⟩
theorem has_inj {S : Src} (I : Inv X pins σ H s) {xs ys : List V} (h1 : S.has X.K xs H) (h2 : S.has X.K ys H) : xs = ys := by
  cases S with
  | l a => exact I.list_inj h1 h2
  | t a => exact I.tuple_inj h1 h2
  | s z => exact h1.trans h2.symm
theorem nn {a b : Nat} (h : a ≠ b) : @Ne Addr a b := h
theorem ee {a b : Addr} (h : a = b) : @Eq Nat a b := h
abbrev fpG (n : Nat) : List Addr := [n + 4, n + 2, n + 3, n, n + 1]
theorem turn_zipG {P : Program} {w : World} {K : PySem.W.Frag} {elts : List Expr} {kk : Nat} {tpos : Pos} {n : Nat} {S1 S2 : Src} (l1 : S1.low n) (l2 : S2.low n) :
    Turn P w K (.Tuple elts kk tpos) (ItG K S1 S2) (fpG n) (n + 4) (fun i h => IsZip h (n + 4) (n + 2) (n + 3) .none ∧ IsTupOf2 h (n + 2) (.ref n) (.ref (n + 1)) ∧ (∃ x y, IsTupOf2 h (n + 3) x y) ∧ S1.it n i h ∧ S2.it (n + 1) i h) where
  mem := by simp
  obj := fun i h st c hc => by
    obtain ⟨hz, hTI, ⟨x, y, hTO⟩, h1, h2⟩ := st
    have e' : c = n + 4 ∨ c = n + 2 ∨ c = n + 3 ∨ c = n ∨ c = n + 1 := by simpa using hc
    rcases e' with q | q | q | q | q
    · rw [q]; exact ⟨_, hz, fun v q => nomatch q⟩
    · rw [q]; exact ⟨_, hTI, fun v q => nomatch q⟩
    · rw [q]; exact ⟨_, hTO, fun v q => nomatch q⟩
    · rw [q]; exact src_obj h1
    · rw [q]; exact src_obj h2
  keep := fun i h h' st k => by
    obtain ⟨hz, hTI, ⟨x, y, hTO⟩, h1, h2⟩ := st
    exact ⟨k _ (by simp) _ hz, k _ (by simp) _ hTI, ⟨x, y, k _ (by simp) _ hTO⟩, src_it h1 fun o q => k n (by simp) o q, src_it h2 fun o q => k (n + 1) (by simp) o q⟩
  item := by
    intro X hP hw hK hc i pins s σ H E I hf st hg
    subst hP hw hK
    obtain ⟨hz, hTI, ⟨x0, y0, hTO⟩, h1, h2⟩ := st
    obtain ⟨xs, ys, hx, hy, lx, ly⟩ := hg
    have hh : X.A.in1.handled = none := I.ok.hd hc
    obtain ⟨fp1, P1, St1, D1, s1, back1, m1, f1, r1⟩ := src_draw hh S1 I h1 l1 (Nat.le_refl _) hx
    obtain ⟨fp2, P2, St2, D2, s2, back2, m2, f2, r2⟩ := src_draw hh S2 I h2 l2 (Nat.le_succ _) hy
    have no1 : ∀ c : Nat, n < c → c ∉ fp1 := fun c hc hm => by
      rcases f1 c hm with e | e
      · have := ee e
        omega
      · have e : (c : Nat) < n := e
        omega
    have no2 : ∀ c : Nat, n ≤ c → c ≠ n + 1 → c ∉ fp2 := fun c hc hn hm => by
      rcases f2 c hm with e | e
      · exact hn e
      · have e : (c : Nat) < n := e
        omega
    have S : ZipSep2 (n + 4) (n + 2) (n + 3) n (n + 1) fp1 fp2 := ⟨nn (by omega), nn (by omega), nn (by omega), nn (by omega), m1, no1 (n + 4) (by omega), no1 (n + 3) (by omega), nn (by omega), m2, no2 (n + 4) (by omega) (by omega), no2 (n + 3) (by omega) (by omega), no2 n (by omega) (by omega), no1 (n + 1) (by omega)⟩
    have hzl : n + 4 < s.heap.objs.size := Heap.lt_size hz
    refine wpAny_pyNext_zipD2_item S D1 D2 hz hTI hTO s1 s2 lx ly fun u u2 h' tk p1 p2 z' TO' h1' h2' hT hsz hk => ?_
    obtain ⟨x, ex, ru⟩ := r1 _ _ p1
    obtain ⟨y, ey, ru2⟩ := r2 _ _ p2
    refine ⟨_, rfl, wpAny_letOwnedTupleGo_zip (s := { s with heap := h', toks := tk }) z' fun h'' z'' sb => ?_⟩
    have hT2 : h''.get? s.heap.objs.size = some { cls := .type "tuple", data := .seq #[u, u2] } := (sb.2 _ (Nat.ne_of_gt hzl)).trans hT
    have new : ObjOk X.prog X.w (upd H s.heap.objs.size (.tup [x, y])) h'' s.heap.objs.size (.tup [x, y]) :=
      ⟨by show 2 ≤ sizeLine; decide, [u, u2], .cons ru (.cons ru2 .nil), ⟨_, hT2, rfl, _, rfl⟩⟩
    have I1 : Inv X pins σ (upd H s.heap.objs.size (.tup [x, y])) { s with heap := h'', toks := tk } :=
      I.turnedNew (t' := tk) (ch := fpG n) (fun c o hb q => (sb.2 c (fun q' => hb (by simp [q']))).trans (hk c o (fun q' => hb (by simp [q'])) (fun q' => hb (by simp [q'])) (fun q' => hb (by simp [q'])) (fun q' => hb (by simp [q'])) q)) hf (Nat.le_refl _) new
    refine ⟨.ref s.heap.objs.size, _, I1, rfl, ⟨_, x, y, rfl, I.hok.fresh (Nat.le_refl _), rfl, fun l hl => by rw [has_inj I hl hx]; exact ex, fun l hl => by rw [has_inj I hl hy]; exact ey⟩, ⟨z'', ?_, ⟨u, u2, ?_⟩, ?_, ?_⟩, fun c hcm => ?_⟩
    · exact (sb.2 _ (nn (by omega))).trans (hk _ _ (nn (by omega)) (nn (by omega)) (nn (by omega)) (nn (by omega)) hTI)
    · exact (sb.2 _ (nn (by omega))).trans TO'
    · exact src_it (back1 _ _ h1') fun o q => (sb.2 _ (nn (by omega))).trans q
    · exact src_it (back2 _ _ h2') fun o q => (sb.2 _ (nn (by omega))).trans q
    · have hlt : c < s.heap.objs.size := by
        have e' : @Eq Nat c (n + 4) ∨ @Eq Nat c (n + 2) ∨ @Eq Nat c (n + 3) ∨ @Eq Nat c n ∨ @Eq Nat c (n + 1) := by simpa using hcm
        have go : ∀ k : Nat, k ≤ 4 → @Eq Nat c (n + k) → c < s.heap.objs.size := fun k hk e => Nat.lt_of_le_of_lt (Nat.le_trans (Nat.le_of_eq e) (Nat.add_le_add_left hk n)) hzl
        rcases e' with e | e | e | e | e
        · exact go 4 (by decide) e
        · exact go 2 (by decide) e
        · exact go 3 (by decide) e
        · exact go 0 (by decide) e
        · exact go 1 (by decide) e
      rw [upd_ne (Nat.ne_of_lt hlt)]
      exact (hf c hcm).1
  done := by
    intro X hP hw hK hc i pins s σ H E I hf st hg
    subst hP hw hK
    obtain ⟨hz, hTI, ⟨x0, y0, hTO⟩, h1, h2⟩ := st
    obtain ⟨xs, ys, hx, hy, lx, ly, he⟩ := hg
    have hh : X.A.in1.handled = none := I.ok.hd hc
    obtain ⟨fp1, P1, St1, D1, s1, back1, m1, f1, r1⟩ := src_draw hh S1 I h1 l1 (Nat.le_refl _) hx
    obtain ⟨fp2, P2, St2, D2, s2, back2, m2, f2, r2⟩ := src_draw hh S2 I h2 l2 (Nat.le_succ _) hy
    have no1 : ∀ c : Nat, n < c → c ∉ fp1 := fun c hc hm => by
      rcases f1 c hm with e | e
      · have := ee e
        omega
      · have e : (c : Nat) < n := e
        omega
    have no2 : ∀ c : Nat, n ≤ c → c ≠ n + 1 → c ∉ fp2 := fun c hc hn hm => by
      rcases f2 c hm with e | e
      · exact hn e
      · have e : (c : Nat) < n := e
        omega
    have S : ZipSep2 (n + 4) (n + 2) (n + 3) n (n + 1) fp1 fp2 := ⟨nn (by omega), nn (by omega), nn (by omega), nn (by omega), m1, no1 (n + 4) (by omega), no1 (n + 3) (by omega), nn (by omega), m2, no2 (n + 4) (by omega) (by omega), no2 (n + 3) (by omega) (by omega), no2 n (by omega) (by omega), no1 (n + 1) (by omega)⟩
    exact wpAny_pyNext_zipD2_end S D1 D2 hz hTI hTO s1 s2 lx ly he fun h' tk hk => ⟨rfl, I.turnedL (t' := tk) (ch := fpG n) (fun c o hb q =>
      hk c o (fun q' => hb (by simp [q'])) (fun q' => hb (by simp [q'])) (fun q' => hb (by simp [q'])) (fun q' => hb (by simp [q'])) q) hf⟩
  self := fun A i s Q E st h => wpAny_pyIter_zip st.1 h
def iZipG (K : PySem.W.Frag) (ta : TA) : TI := fun σ H R => ta σ H fun vs H1 => ∃ (S1 S2 : Src) (xs ys : List V), vs = [S1.v, S2.v] ∧ S1.has K xs H1 ∧ S2.has K ys H1 ∧ R (ItG K S1 S2) H1
theorem src_begin (S : Src) (I : Inv X pins σ H s) {xs : List V} {u : Value} (h : S.has X.K xs H) (r : RelV S.v u) :
    ∃ (o : Obj) (Hp0 : Heap → Prop), Begins u o Hp0 ∧ Hp0 s.heap ∧ S.low s.heap.objs.size ∧ ∀ (h' : Heap) (it : Addr), h'.get? it = some o → S.it it 0 h' := by
  cases S with
  | l a =>
    obtain ⟨its, rv, p, _⟩ := I.list h
    cases r
    exact ⟨_, _, begins_list a its.toArray, p.isList, p.lt, fun h' it e => ⟨_, e, rfl, rfl⟩⟩
  | t a =>
    obtain ⟨its, rv, p, _⟩ := I.tuple h
    cases r
    exact ⟨_, _, begins_tuple a its.toArray, p, p.lt, fun h' it e => ⟨_, e, rfl, rfl⟩⟩
  | s z =>
    obtain ⟨t, rfl⟩ := r
    exact ⟨_, _, begins_text z t, trivial, trivial, fun h' it e => ⟨t, _, e, rfl, rfl⟩⟩
theorem pi_zipG {X : Cx} {e e2 : Expr} {ta : TA} {p pos tpos : Pos} {elts : List Expr} {kk : Nat} (hg : Gl X "zip") (hm : X.mg "zip" = none) (ha : PA X [e, e2] ta)
    (hs : starEach [e, e2] X.env = (false, eval e X.env) :: starEach [e2] X.env := by rfl) (hpl : (backTo pos (starEach [e2] X.env)).any (·.1) = false := by rfl) :
    PI X (.Tuple elts kk tpos) (.Call (.Name "zip" p) [e, e2] [] pos) (iZipG X.K ta) := by
  refine ⟨fun pins s σ H R I h => ?_⟩
  refine Call_ (ld_blt I hg hm PyProof.Rows.boot_zip (PyProof.Rows.callWith_type1 (thn (ha.run pos pins s σ H _ I h) fun us s1 ⟨vs, H1, I1, r1, q1⟩ => ?_) hs hpl))
  obtain ⟨S1, S2, xs, ys, ex, hx, hy, q⟩ := q1
  subst ex
  cases r1 with
  | cons r rr =>
    cases rr with
    | cons r' rr =>
      cases rr
      obtain ⟨o1, G1, B1, g1, low1, b1⟩ := src_begin S1 I1 hx r
      obtain ⟨o2, G2, B2, g2, low2, b2⟩ := src_begin S2 I1 hy r'
      have fresh5 : ∀ c, c ∈ fpG s1.heap.objs.size → FpOk X pins H1 c := fun c hcm => by
        have e' : @Eq Nat c (s1.heap.objs.size + 4) ∨ @Eq Nat c (s1.heap.objs.size + 2) ∨ @Eq Nat c (s1.heap.objs.size + 3) ∨ @Eq Nat c s1.heap.objs.size ∨ @Eq Nat c (s1.heap.objs.size + 1) := by simpa using hcm
        have go : ∀ k : Nat, @Eq Nat c (s1.heap.objs.size + k) → s1.heap.objs.size ≤ c := fun k e => Nat.le_trans (Nat.le_add_right _ k) (Nat.le_of_eq e.symm)
        have hle : s1.heap.objs.size ≤ c := by
          rcases e' with e | e | e | e | e
          · exact go 4 e
          · exact go 2 e
          · exact go 3 e
          · exact go 0 e
          · exact go 1 e
        exact I1.fpOk hle (I1.hok.fresh hle)
      refine zip_begins2 B1 B2 g1 g2 fun h' hz hTI hTO h1 h2 hsz hk => wpAny_pyIter_zip hz ?_
      have I2 : Inv X pins σ H1 { s1 with heap := h' } := I1.kept (t' := s1.toks) hk
      exact ⟨s1.heap.objs.size + 4, fpG s1.heap.objs.size, _, _, H1, rfl, I2, turn_zipG low1 low2, ⟨hz, hTI, ⟨_, _, hTO⟩, b1 _ _ h1, b2 _ _ h2⟩, fresh5, q⟩
theorem walk_zipG {K : PySem.W.Frag} {S1 S2 : Src} {xs ys : List V} {n : Nat} (hn : n = min xs.length ys.length) : Walk (ItG K S1 S2) n (fun H => S1.has K xs H ∧ S2.has K ys H) (YPair (fun i => xs[i]?) (fun i => ys[i]?)) where
  goes := fun i H hi h => ⟨xs, ys, h.1, h.2, by omega, by omega⟩
  stops := fun H h => ⟨xs, ys, h.1, h.2, by omega, by omega, by omega⟩
  yields := fun i H v H' hi h ⟨T, x, y, e1, e2, e3, e4, e5⟩ => ⟨T, x, y, e1, e2, e3, e4 xs h.1, e5 ys h.2⟩
end
end ZipG

/-! Sqs: lists and tuples alike as what is walked; comprehensions whose items leave what stands. -/
namespace B5
open PySem PySem.Spec PyProof.Rows L2 Gd
/-- what stands at a stands there still -/
def Kept (a : Addr) (H H' : Hp) : Prop := ∀ o, H a = some o → H' a = some o
theorem Kept.sqL {K : PySem.W.Frag} {H H' : Hp} {a : Addr} {xs : List V} (e : Kept a H H') : SqL K H a xs → SqL K H' a xs
  | .inl (.inl h) => .inl (.inl (e _ h))
  | .inl (.inr ⟨o, h⟩) => .inl (.inr ⟨o, e _ h⟩)
  | .inr h => .inr h
theorem Kept.sqT {K : PySem.W.Frag} {H H' : Hp} {a : Addr} {xs : List V} (e : Kept a H H') : SqT K H a xs → SqT K H' a xs
  | .inl (.inl h) => .inl (.inl (e _ h))
  | .inl (.inr ⟨o, h⟩) => .inl (.inr ⟨o, e _ h⟩)
  | .inr h => .inr h
theorem Kept.sq {K : PySem.W.Frag} {H H' : Hp} {a : Addr} {xs : List V} (e : Kept a H H') : Sq K H a xs → Sq K H' a xs
  | .inl h => .inl (e.sqL h)
  | .inr h => .inr (e.sqT h)
theorem Kept.of {a : Addr} {H H' : Hp} (m : More H H') : Kept a H H' := fun o h => m a o h
/-- a list or a tuple is walked -/
def iSq (K : PySem.W.Frag) (te : TE) : TI := fun σ H R => te σ H fun v H1 => ∃ a xs, v = .ref a ∧ Sq K H1 a xs ∧
  ∀ (J : It) (Z : Hp → Prop), Walk J xs.length Z (YAt xs) → (∀ H', Kept a H1 H' → Z H') → R J H1
theorem pi_sq {X : Cx} {K : PySem.W.Frag} {tg e : Expr} {te : TE} (hK : X.K = K) (h : PE X e te) : PI X tg e (iSq K te) := by
  subst hK
  refine ⟨fun pins s σ H R I q => ?_⟩
  refine thn (h.run pins s σ H _ I q) fun v s1 ⟨x, H1, I1, r1, q1⟩ => ?_
  obtain ⟨a, xs, e, hq, q⟩ := q1
  subst e
  cases r1
  rcases hq with hq | hq
  · obtain ⟨its, rv, p, hz⟩ := I1.list hq
    refine wpAny_pyIter_list p.isList ?_
    refine ⟨s1.heap.objs.size, [s1.heap.objs.size], _, _, H1, rfl, I1.kept (t' := s1.toks) fun b o e => Heap.get?_push_of_some _ e, turn_list a _, ⟨_, Heap.get?_push_size _ rfl, rfl, rfl⟩, fun b hb => ?_, q _ _ walk_list fun H' k => k.sqL hq⟩
    have e : b = s1.heap.objs.size := by simpa using hb
    subst e
    exact I1.fpOk (Nat.le_refl _) (I1.hok.fresh (Nat.le_refl _))
  · obtain ⟨its, rv, p, hz⟩ := I1.tuple hq
    refine wpAny_pyIter_tuple (show s1.heap.IsTuple a its.toArray from p) ?_
    refine ⟨s1.heap.objs.size, [s1.heap.objs.size], _, _, H1, rfl, I1.kept (t' := s1.toks) fun b o e => Heap.get?_push_of_some _ e, turn_tuple a _, ⟨_, Heap.get?_push_size _ rfl, rfl, rfl⟩, fun b hb => ?_, q _ _ walk_tup fun H' k => k.sqT hq⟩
    have e : b = s1.heap.objs.size := by simpa using hb
    subst e
    exact I1.fpOk (Nat.le_refl _) (I1.hok.fresh (Nat.le_refl _))
/-- a comprehension without tests over it: each item's value is known, what stands ahead stays -/
theorem lc_pure {J : It} {Z : Hp → Prop} {xs rs : List V} (w : Walk J xs.length Z (YAt xs)) {g : TG} {te : TE} {vs : List Nat} {σ : L2.St} {H1 : Hp} {D : Addr} {Qd : Hp → Prop}
    (hD : H1 D = none) (hZ : ∀ H', More H1 H' → Z H') (hl : rs.length = xs.length) (few : xs.length ≤ 16777215)
    (el : ∀ (i : Nat) (y v : V) (H2 : Hp) (Q : VK), xs[i]? = some y → rs[i]? = some v → More H1 H2 → (∀ H3, More H2 H3 → Q v H3) → g y (wipe σ vs) H2 fun σ2 H3 => wipe σ2 vs = wipe σ vs ∧ te σ2 H3 Q)
    (mo : ∀ y σ' H2 (A B : L2.St → Hp → Prop), (∀ σ2 H3, A σ2 H3 → B σ2 H3) → g y σ' H2 A → g y σ' H2 B)
    (hd : ∀ H', H' D = some (.lst rs) → More H1 H' → Qd H') :
    ∃ W : Nat → Nat → Hp → Prop, (∃ m, W 0 m (upd H1 D (.lst []))) ∧ ∀ i m H, W i m H →
    (J.stop i H ∧ Qd H) ∨ (J.go i H ∧ ∃ Nx : Hp → Prop, (∀ H', Nx H' → ∃ m', m' < m ∧ W (i + 1) m' H') ∧ ∀ x H', J.yld i H x H' → g x (wipe σ vs) H' fun σ2 H2 => wipe σ2 vs = wipe σ vs ∧ tYes σ2 H2 fun b H3 =>
      if b = true then te σ2 H3 fun y H4 => ∃ acc, H4 D = some (.lst acc) ∧ acc.length < sizeLine ∧ Nx (upd H4 D (.lst (acc ++ [y]))) else Nx H3) := by
  refine lc_it (H1 := H1) (D := D) (Qd := Qd) w (fun i H' => H' D = some (.lst (rs.take i)) ∧ More H1 H') ⟨upd_same, More.new (fun _ _ e => e) hD⟩ (fun i H' _ h => hZ H' h.2) ?_ ?_
  · rintro i y H2 H3 hi ⟨h2, m2⟩ ⟨rfl, hy⟩
    have hv : rs[i]? = some rs[i] := List.getElem?_eq_getElem (by omega)
    refine mo _ _ _ _ _ (fun σ2 H4 q => q) (el i y rs[i] H3 (fun y H4 => ∃ acc, H4 D = some (.lst acc) ∧ acc.length < sizeLine ∧ (upd H4 D (.lst (acc ++ [y]))) D = some (.lst (rs.take (i + 1))) ∧ More H1 (upd H4 D (.lst (acc ++ [y])))) hy hv m2 fun H4 m4 => ⟨_, m4 _ _ h2, ?_, ?_, ?_⟩)
    · rw [List.length_take, sizeLine_eq]
      omega
    · rw [upd_same, take_snoc hv]
    · exact More.at (fun b o e => m4 b o (m2 b o e)) hD
  · rintro H' ⟨e, m⟩
    rw [← hl, List.take_length] at e
    exact hd H' e m
/-- the same for one name as the target -/
theorem lc_name {J : It} {Z : Hp → Prop} {xs rs : List V} (w : Walk J xs.length Z (YAt xs)) {n : Nat} {te : TE} {vs : List Nat} {σ : L2.St} {H1 : Hp} {D : Addr} {Qd : Hp → Prop}
    (hD : H1 D = none) (hZ : ∀ H', More H1 H' → Z H') (hl : rs.length = xs.length) (few : xs.length ≤ 16777215)
    (hw : ∀ y, wipe ((wipe σ vs).set n (some y)) vs = wipe σ vs)
    (el : ∀ (i : Nat) (y v : V) (H2 : Hp) (Q : VK), xs[i]? = some y → rs[i]? = some v → More H1 H2 → (∀ H3, More H2 H3 → Q v H3) → te ((wipe σ vs).set n (some y)) H2 Q)
    (hd : ∀ H', H' D = some (.lst rs) → More H1 H' → Qd H') :
    ∃ W : Nat → Nat → Hp → Prop, (∃ m, W 0 m (upd H1 D (.lst []))) ∧ ∀ i m H, W i m H →
    (J.stop i H ∧ Qd H) ∨ (J.go i H ∧ ∃ Nx : Hp → Prop, (∀ H', Nx H' → ∃ m', m' < m ∧ W (i + 1) m' H') ∧ ∀ x H', J.yld i H x H' → gName n x (wipe σ vs) H' fun σ2 H2 => wipe σ2 vs = wipe σ vs ∧ tYes σ2 H2 fun b H3 =>
      if b = true then te σ2 H3 fun y H4 => ∃ acc, H4 D = some (.lst acc) ∧ acc.length < sizeLine ∧ Nx (upd H4 D (.lst (acc ++ [y]))) else Nx H3) :=
  lc_pure w hD hZ hl few (fun i y v H2 Q h1 h2 m h3 => ⟨hw y, el i y v H2 Q h1 h2 m h3⟩) (fun _ _ _ _ _ h q => h _ _ q) hd
end B5

/-! Dat: rows of ints and tuples of such as data; pairs of lists; comprehensions that make objects. -/
namespace B5
open PySem L2 Gd
theorem paired_at {α β : Type} {R : α → β → Prop} : ∀ {xs : List α} {l : List β}, Paired R xs l → ∀ {i : Nat} {y : α}, xs[i]? = some y → ∃ e, l[i]? = some e ∧ R y e
  | _, _, .nil, i, y, h => by rw [List.getElem?_nil] at h; cases h
  | _, _, .cons h t, 0, y, e => by cases e; exact ⟨_, rfl, h⟩
  | _, _, .cons h t, i + 1, y, e => by
    rw [List.getElem?_cons_succ] at e
    obtain ⟨z, h1, h2⟩ := paired_at t e
    exact ⟨z, by rw [List.getElem?_cons_succ]; exact h1, h2⟩
theorem paired_back {α β : Type} {R : α → β → Prop} : ∀ {xs : List α} {l : List β}, Paired R xs l → ∀ e ∈ l, ∃ y ∈ xs, R y e
  | _, _, .nil, e, h => nomatch h
  | _, _, .cons h t, e, he => by
    rcases List.mem_cons.mp he with rfl | he
    · exact ⟨_, .head _, h⟩
    · obtain ⟨y, hy, r⟩ := paired_back t e he
      exact ⟨y, .tail _ hy, r⟩
theorem paired_imp {α β : Type} {R S : α → β → Prop} (h : ∀ x y, R x y → S x y) : ∀ {xs : List α} {l : List β}, Paired R xs l → Paired S xs l
  | _, _, .nil => .nil
  | _, _, .cons a t => .cons (h _ _ a) (paired_imp h t)
theorem paired_snoc {α β : Type} {R : α → β → Prop} {x : α} {y : β} (h : R x y) : ∀ {xs : List α} {l : List β}, Paired R xs l → Paired R (xs ++ [x]) (l ++ [y])
  | _, _, .nil => .cons h .nil
  | _, _, .cons a t => .cons a (paired_snoc h t)
/-- by places -/
theorem paired_of {α β : Type} {R : α → β → Prop} : ∀ {xs : List α} {l : List β}, xs.length = l.length → (∀ (i : Nat) x y, xs[i]? = some x → l[i]? = some y → R x y) → Paired R xs l
  | [], [], _, _ => .nil
  | [], _ :: _, h, _ => by cases h
  | _ :: _, [], h, _ => by cases h
  | x :: xs, y :: l, h, e => .cons (e 0 x y rfl rfl) (paired_of (Nat.succ.inj h) fun i a b ha hb => e (i + 1) a b ha hb)
theorem map_at {α β : Type} {f : α → β} {l : List α} {i : Nat} {v : β} (h : (l.map f)[i]? = some v) : ∃ d, l[i]? = some d ∧ v = f d := by
  rw [List.getElem?_map] at h
  cases e : l[i]? with
  | none => rw [e] at h; cases h
  | some d => rw [e] at h; exact ⟨d, rfl, (Option.some.inj h).symm⟩
theorem at_map {α β : Type} {f : α → β} {l : List α} {i : Nat} {d : α} (h : l[i]? = some d) : (l.map f)[i]? = some (f d) := by
  rw [List.getElem?_map, h]
  rfl
theorem at_getD {α : Type} {l : List α} {i : Nat} (h : i < l.length) (d : α) : l[i]? = some (l.getD i d) := by
  rw [List.getD_eq_getElem?_getD, List.getElem?_eq_getElem h]
  rfl
theorem getD_of {α : Type} {l : List α} {i : Nat} {x : α} (h : l[i]? = some x) (d : α) : l.getD i d = x := by
  rw [List.getD_eq_getElem?_getD, h]
  rfl
/-! ### data -/
def dI (k : List Int) : PyData := .tuple (k.map .int)
def dR (l : List (List Int)) : PyData := .tuple (l.map dI)
theorem lay_ints : ∀ k : List Int, PyData.canLayAll0 (k.map .int) = true
  | [] => by simp [PyData.canLayAll0]
  | x :: k => by
    rw [List.map_cons]
    simp only [PyData.canLayAll0, PyData.canLay0, lay_ints k, Bool.and_self]
theorem lay_rows : ∀ l : List (List Int), PyData.canLayAll0 (l.map dI) = true
  | [] => by simp [PyData.canLayAll0]
  | e :: l => by
    rw [List.map_cons]
    simp only [PyData.canLayAll0, dI, PyData.canLay0, lay_ints, lay_rows l, Bool.and_self]
theorem dep_ints : ∀ k : List Int, PyData.depthAll (k.map .int) = 0
  | [] => by simp [PyData.depthAll]
  | x :: k => by
    rw [List.map_cons]
    simp [PyData.depthAll, PyData.depth, dep_ints k]
theorem dep_rows : ∀ l : List (List Int), PyData.depthAll (l.map dI) ≤ 1
  | [] => by simp [PyData.depthAll]
  | e :: l => by
    have := dep_rows l
    rw [List.map_cons]
    simp only [PyData.depthAll, dI, PyData.depth, dep_ints]
    omega
theorem shaped_I (k : List Int) : SeqAt.shaped (dI k) = true := by
  unfold SeqAt.shaped dI
  simp only [PyData.canLay0, lay_ints, PyData.depth, dep_ints]
  decide
theorem shaped_R (l : List (List Int)) : SeqAt.shaped (dR l) = true := by
  unfold SeqAt.shaped
  have := dep_rows l
  have e : (dR l).canLay0 = true := by unfold dR; simp only [PyData.canLay0, lay_rows]
  rw [e, Bool.true_and, decide_eq_true_eq]
  unfold dR
  simp only [PyData.depth]
  omega
theorem eqvAll_ints : ∀ a b : List Int, PyData.eqvAll (a.map .int) (b.map .int) = decide (a = b)
  | [], [] => by simp [PyData.eqvAll]
  | [], _ :: _ => by simp [PyData.eqvAll]
  | _ :: _, [] => by simp [PyData.eqvAll]
  | x :: a, y :: b => by
    rw [List.map_cons, List.map_cons]
    simp only [PyData.eqvAll, PyData.eqv, eqvAll_ints a b, List.cons.injEq]
    by_cases e : x = y <;> by_cases f : a = b <;> simp [e, f]
theorem eqv_I (a b : List Int) : PyData.eqv (dI a) (dI b) = decide (a = b) := by
  unfold dI
  simp only [PyData.eqv, eqvAll_ints]
theorem eqvAll_rows : ∀ a b : List (List Int), PyData.eqvAll (a.map dI) (b.map dI) = decide (a = b)
  | [], [] => by simp [PyData.eqvAll]
  | [], _ :: _ => by simp [PyData.eqvAll]
  | _ :: _, [] => by simp [PyData.eqvAll]
  | x :: a, y :: b => by
    rw [List.map_cons, List.map_cons]
    simp only [PyData.eqvAll, eqv_I, eqvAll_rows a b, List.cons.injEq]
    by_cases e : x = y <;> by_cases f : a = b <;> simp [e, f]
theorem eqv_R (a b : List (List Int)) : PyData.eqv (dR a) (dR b) = decide (a = b) := by
  unfold dR
  simp only [PyData.eqv, eqvAll_rows]
theorem dp_ints {K : PySem.W.Frag} {H : Hp} : ∀ k : List Int, DpAll K H (k.map V.int) (k.map .int)
  | [] => .nil
  | x :: k => .cons (.int x) (dp_ints k)
theorem dp_I {K : PySem.W.Frag} {H : Hp} {t : Addr} {k : List Int} (h : SqT K H t (k.map V.int)) : Dp K H (.ref t) (dI k) := .tup h (dp_ints k)
/-- x is a tuple of the ints k -/
def TupI (K : PySem.W.Frag) (H : Hp) (x : V) (k : List Int) : Prop := ∃ b, x = .ref b ∧ SqT K H b (k.map V.int)
theorem TupI.more {K : PySem.W.Frag} {H H' : Hp} {x : V} {k : List Int} (m : More H H') (h : TupI K H x k) : TupI K H' x k := let ⟨b, e, s⟩ := h; ⟨b, e, sqT_more m s⟩
theorem dp_rows {K : PySem.W.Frag} {H : Hp} : ∀ {xs : List V} {l : List (List Int)}, Paired (TupI K H) xs l → DpAll K H xs (l.map dI)
  | _, _, .nil => .nil
  | _, _, .cons ⟨b, e, s⟩ t => by subst e; exact .cons (dp_I s) (dp_rows t)
theorem dp_R {K : PySem.W.Frag} {H : Hp} {t : Addr} {xs : List V} {l : List (List Int)} (h : SqT K H t xs) (r : Paired (TupI K H) xs l) : Dp K H (.ref t) (dR l) := .tup h (dp_rows r)
def rTof (K : PySem.W.Frag) : List V → Hp → VK → Prop := fun xs H Q => ∃ p ys, xs = [.ref p] ∧ ((SqL K H p ys ∧ ∀ l, H l = none → Q (.ref l) (upd H l (.tup ys))) ∨ (SqT K H p ys ∧ Q (.ref p) H))
theorem call_tof {X : Cx} {K : PySem.W.Frag} (hK : X.K = K) : CallR X (.type "tuple") (rTof K) := by
  subst hK
  exact call_tuple_of
def rLof (K : PySem.W.Frag) : List V → Hp → VK → Prop := fun xs H Q => ∃ p ys, xs = [.ref p] ∧ (SqL K H p ys ∨ SqT K H p ys) ∧ ∀ l, H l = none → Q (.ref l) (upd H l (.lst ys))
theorem call_lof {X : Cx} {K : PySem.W.Frag} (hK : X.K = K) : CallR X (.type "list") (rLof K) := by
  subst hK
  exact call_list_of
/-! ### comprehensions whose items are new objects -/
theorem lc_rel {J : It} {Z : Hp → Prop} {xs : List V} (w : Walk J xs.length Z (YAt xs)) {n : Nat} {te : TE} {vs : List Nat} {σ : L2.St} {H1 : Hp} {D : Addr} {Qd : Hp → Prop} (R : Nat → V → Hp → Prop)
    (mono : ∀ i v H H', More H H' → R i v H → R i v H') (hD : H1 D = none) (hZ : ∀ H', More H1 H' → Z H') (few : xs.length ≤ 16777215)
    (hw : ∀ y, wipe ((wipe σ vs).set n (some y)) vs = wipe σ vs)
    (el : ∀ (i : Nat) (y : V) (H2 : Hp) (Q : VK), xs[i]? = some y → More H1 H2 → More H1 (del H2 D) → (∃ l, H2 D = some (.lst l)) → (∀ v H3, More H2 H3 → R i v (del H3 D) → Q v H3) → te ((wipe σ vs).set n (some y)) H2 Q)
    (hd : ∀ H' G rs, rs.length = xs.length → More H1 G → More G H' → G D = none → (∀ (i : Nat) v, rs[i]? = some v → R i v G) → H' D = some (.lst rs) → Qd H') :
    ∃ W : Nat → Nat → Hp → Prop, (∃ m, W 0 m (upd H1 D (.lst []))) ∧ ∀ i m H, W i m H →
    (J.stop i H ∧ Qd H) ∨ (J.go i H ∧ ∃ Nx : Hp → Prop, (∀ H', Nx H' → ∃ m', m' < m ∧ W (i + 1) m' H') ∧ ∀ x H', J.yld i H x H' → gName n x (wipe σ vs) H' fun σ2 H2 => wipe σ2 vs = wipe σ vs ∧ tYes σ2 H2 fun b H3 =>
      if b = true then te σ2 H3 fun y H4 => ∃ acc, H4 D = some (.lst acc) ∧ acc.length < sizeLine ∧ Nx (upd H4 D (.lst (acc ++ [y]))) else Nx H3) := by
  have dm : ∀ {H H' : Hp}, More H H' → More (del H D) (del H' D) := fun {H H'} m b o e => by
    by_cases z : b = D
    · rw [z, del_same] at e
      cases e
    · rw [del_ne z] at e ⊢
      exact m b o e
  have d1 : ∀ {H : Hp}, More H1 H → More H1 (del H D) := fun {H} m b o e => by
    rw [del_ne (ne_of_none e hD)]
    exact m b o e
  have dd : ∀ {H : Hp} {o : HO}, del (upd H D o) D = del H D := fun {H o} => by
    funext b
    by_cases z : b = D
    · rw [z, del_same, del_same]
    · rw [del_ne z, del_ne z, upd_ne z]
  refine lc_it (H1 := H1) (D := D) (Qd := Qd) w (fun i H' => ∃ rs, rs.length = i ∧ H' D = some (.lst rs) ∧ More H1 H' ∧ ∀ (j : Nat) v, rs[j]? = some v → R j v (del H' D))
    ⟨[], rfl, upd_same, More.new (fun _ _ e => e) hD, fun j v e => by rw [List.getElem?_nil] at e; cases e⟩ (fun i H' _ h => hZ H' h.choose_spec.2.2.1) ?_ ?_
  · rintro i y H2 H3 hi ⟨rs, rl, h2, m2, al⟩ ⟨rfl, hy⟩
    refine ⟨hw y, el i y H3 (fun v H4 => ∃ acc, H4 D = some (.lst acc) ∧ acc.length < sizeLine ∧ ∃ rs, rs.length = i + 1 ∧ (upd H4 D (.lst (acc ++ [v]))) D = some (.lst rs) ∧ More H1 (upd H4 D (.lst (acc ++ [v]))) ∧ ∀ (j : Nat) x, rs[j]? = some x → R j x (del (upd H4 D (.lst (acc ++ [v]))) D)) hy m2 (d1 m2) ⟨_, h2⟩ fun v H4 m4 r => ?_⟩
    refine ⟨rs, m4 _ _ h2, by rw [sizeLine_eq]; omega, rs ++ [v], by rw [List.length_append, rl]; rfl, upd_same, More.at (fun b o e => m4 b o (m2 b o e)) hD, fun j x hx => ?_⟩
    rw [dd]
    by_cases z : j < rs.length
    · rw [List.getElem?_append_left z] at hx
      exact mono _ _ _ _ (dm m4) (al j x hx)
    · have lt : j < rs.length + 1 := by
        have := (List.getElem?_eq_some_iff.mp hx).1
        rw [List.length_append] at this
        exact this
      have ej : j = rs.length := by omega
      subst ej
      rw [List.getElem?_append_right (Nat.le_refl _), Nat.sub_self] at hx
      cases hx
      rw [rl]
      exact r
  · rintro H' ⟨rs, rl, h2, m2, al⟩
    refine hd H' (del H' D) rs rl (d1 m2) (fun b o e => ?_) del_same al h2
    by_cases z : b = D
    · rw [z, del_same] at e
      cases e
    · rw [del_ne z] at e
      exact e
end B5

namespace L2
open PySem PySem.Spec PyProof.Rows
/-! ### x == y, x != y by an own __eq__ of the class of x -/
section
variable {X : Cx} {CX : CXT} {C f : Addr} {fd : FuncData} {ps : List Str} {sp : Sp} {n : Nat} {E : XK}
def OthT (K : PySem.W.Frag) (H : Hp) (C : Addr) (y : V) (t : Value) : Prop := TyX K H y t ∨ ∃ b dy gs, y = .ref b ∧ H b = some (.ins C dy gs) ∧ t = .ref C
def rOwnE (K : PySem.W.Frag) (C : Addr) (sp : Sp) (E : XK) : R2 := fun x y H Q => ∃ a dx fs t, x = .ref a ∧ H a = some (.ins C dx fs) ∧ OthT K H C y t ∧ PySem.W.notFirst K C t = true ∧ sp [x, y] H Q E
theorem oth_looks {pins : List (Addr × Obj)} {σ : L2.St} {H : Hp} {s : Shared} {y : V} {u t : Value} (I : Inv X pins σ H s) (ry : RelV y u) (o : OthT X.K H C y t) : PySem.W.Looks (model X.prog X.w) s.heap (typeOf u) t := by
  obtain ty | ⟨b, dy, gs, rfl, hb, rfl⟩ := o
  · obtain ⟨P, k, p, _⟩ := kit_of I ry ty
    exact k.ty _ _ I.kIn p
  · cases ry
    obtain ⟨mB, J, _⟩ := ins_get I.hok hb
    obtain ⟨od, J, _⟩ := J.look
    exact J.type
theorem rc_own {op : CmpOp} (hs : PySem.W.findIn X.K (.ref C) (cmpInfo op).2.1 = some (some (.ref f))) (hf : PySem.W.isFn X.K (.ref f) = true) (F : FnR X.prog X.w X.K X.mg X.base CX n f sp)
    (hr : Room n X.A) (hx : Passes CX X E) : OpR X (fun a b => richCompare op a b) (rOwnE X.K C sp E) := by
  intro pins s σ H x y v u Q I rx ry h
  obtain ⟨a, dx, fs, t, rfl, ha, o, hn, q⟩ := h
  cases (show v = Value.ref a from rx)
  obtain ⟨mA, J, _⟩ := ins_get I.hok ha
  obtain ⟨od, J, _⟩ := J.look
  obtain ⟨m, hF⟩ := I.fr
  refine PySem.W.cmp_K (op := op) (tb := t) hr.units0 hF I.ok.mod.kin J (oth_looks I ry o) hn hs hf ?_
  refine wpAny_mono (wpAny_call (run_fnR (us := [.ref a, u]) (vs := [.ref a, y]) F hr hx I (.cons rfl (.cons ry .nil)) q)) (fun w s' z => ?_) fun _ _ x => x
  obtain ⟨z', H', I', rz, qz⟩ := z
  exact SlX.cmpback rz ⟨z', H', I', rz, qz⟩
theorem op_eqOwn (hs : PySem.W.findIn X.K (.ref C) "__eq__" = some (some (.ref f))) (hf : PySem.W.isFn X.K (.ref f) = true) (F : FnOk X.prog X.w X.K X.mg X.base CX n f fd ps sp) (hb : Binds X.K fd ps [])
    (hr : Room n X.A) (hx : Passes CX X E) : OpR X (compareOp .Eq) (rOwnE X.K C sp E) := by
  intro pins s σ H x y v u Q I rx ry h
  have F2 := F.raw (sp := sp) hb .nil
  obtain ⟨a, dx, fs, t, e1, ha, o, hn, q⟩ := h
  exact rc_own (op := .Eq) hs hf F2 hr hx pins s σ H x y v u Q I rx ry ⟨a, dx, fs, t, e1, ha, o, hn, by show sp ([x, y] ++ []) H Q E; rw [List.append_nil]; exact q⟩
end
end L2

/-! Mc: what is asked of a machine. -/
namespace B5
open PySem L2 Gd
/-- a right row of states -/
structure GRow (K : PySem.W.Frag) (H : Hp) (p : Int) (many : Nat) (x : V) (ds : List Int) : Prop where
  ex : ∃ b, x = .ref b ∧ Sq K H b (ds.map V.int)
  len : ((ds.length : Nat) : Int) = p
  ok : ∀ d ∈ ds, 0 ≤ d ∧ d < (many : Int)
theorem GRow.more {K : PySem.W.Frag} {H H' : Hp} {p : Int} {many : Nat} {x : V} {ds : List Int} (m : More H H') (h : GRow K H p many x ds) : GRow K H' p many x ds :=
  ⟨let ⟨b, e, s⟩ := h.ex; ⟨b, e, s.more m⟩, h.len, h.ok⟩
/-- no row of states -/
def NRow (K : PySem.W.Frag) (H : Hp) (p : Int) (many : Nat) (x : V) : Prop := NoSq K H x ∨ ∃ b ys, x = .ref b ∧ Sq K H b ys ∧ Its K H ys ∧
  (ys.all isI = false ∨ ((ys.length : Nat) : Int) ≠ p ∨ ∃ ds : List Int, ys = ds.map V.int ∧ ((ds.length : Nat) : Int) = p ∧ ∃ d ∈ ds, ¬ (0 ≤ d ∧ d < (many : Int)))
theorem NRow.more {K : PySem.W.Frag} {H H' : Hp} {p : Int} {many : Nat} {x : V} (m : More H H') (h : NRow K H p many x) : NRow K H' p many x := by
  obtain h | ⟨b, ys, e, s, i, h⟩ := h
  · exact .inl (h.more m)
  · exact .inr ⟨b, ys, e, s.more m, i.more m, h⟩
/-- no row of so many ints -/
def NWor (K : PySem.W.Frag) (H : Hp) (many : Nat) (x : V) : Prop := NoSq K H x ∨ ∃ b ys, x = .ref b ∧ Sq K H b ys ∧ Its K H ys ∧ (ys.all isI = false ∨ ys.length ≠ many)
theorem NWor.more {K : PySem.W.Frag} {H H' : Hp} {many : Nat} {x : V} (m : More H H') (h : NWor K H many x) : NWor K H' many x := by
  obtain h | ⟨b, ys, e, s, i, h⟩ := h
  · exact .inl (h.more m)
  · exact .inr ⟨b, ys, e, s.more m, i.more m, h⟩
def inD (p : Int) : V → Bool
  | .int d => decide (0 ≤ d ∧ d < p)
  | _ => false
theorem inD_all {p : Int} {ds : List Int} (h : ∀ d ∈ ds, 0 ≤ d ∧ d < p) : (ds.map V.int).all (inD p) = true := by
  rw [List.all_map, List.all_eq_true]
  intro d hd
  exact decide_eq_true (h d hd)
open ZipG in
theorem Sq.src {K : PySem.W.Frag} {H : Hp} {a : Addr} {xs : List V} (h : Sq K H a xs) : ∃ S : Src, S.v = .ref a ∧ ∀ H', Kept a H H' → S.has K xs H' := by
  rcases h with h | h
  · exact ⟨.l a, rfl, fun H' k => k.sqL h⟩
  · exact ⟨.t a, rfl, fun H' k => k.sqT h⟩
theorem any_not {α β : Type} (f : α → β → Bool) : ∀ (l : List α) (m : List β), (List.zipWith (fun a b => !f a b) l m).any id = !(List.zipWith f l m).all id
  | [], _ => by simp
  | _ :: _, [] => by simp
  | a :: l, b :: m => by
    rw [List.zipWith_cons_cons, List.zipWith_cons_cons, List.any_cons, List.all_cons, any_not f l m]
    cases f a b <;> simp
theorem zip_at {α β γ : Type} {f : α → β → γ} {l : List α} {m : List β} {i : Nat} {a : α} {b : β} (h1 : l[i]? = some a) (h2 : m[i]? = some b) : (List.zipWith f l m)[i]? = some (f a b) := by
  rw [List.getElem?_zipWith, h1, h2]
/-- a zero changes no worth -/
def stdy (dss : List (List Int)) (ws : List Int) : Bool := (List.zipWith (fun ds (w : Int) => decide (w = ws.getD (ds.getD 0 0).toNat 0)) dss ws).all id
def RUn (CU : Addr) (what : Str) (H : Hp) (E : XK) : Prop := ∀ d, H d = none → E (.ref CU) (some d) (upd H d (.xd [("what", .str what)]))
def spCM0 (K : PySem.W.Frag) (CN CR CU : Addr) : Sp := fun vs H Q E => ∃ x y z, vs = [x, y, z] ∧ ((BadP K H x ∧ RNum CN "p" x H E) ∨
  ∃ (p : Int) (a : Addr) (xs : List V), x = .int p ∧ isPr p = true ∧ y = .ref a ∧ Sq K H a xs ∧ xs.length ≤ 1000 ∧
    ((xs = [] ∧ RNum CN "states" (.int 0) H E) ∨
    (xs ≠ [] ∧ ∃ (i : Nat) (x0 : V), xs[i]? = some x0 ∧ NRow K H p xs.length x0 ∧ (∀ j y, j < i → xs[j]? = some y → ∃ ds, GRow K H p xs.length y ds) ∧ ∀ H', More H H' → RRow CR x0 H' E) ∨
    (xs ≠ [] ∧ ∃ dss : List (List Int), Paired (GRow K H p xs.length) xs dss ∧
      ((NWor K H xs.length z ∧ ∀ H', More H H' → RRow CR z H' E) ∨
      ∃ (b : Addr) (ws : List Int), z = .ref b ∧ Sq K H b (ws.map V.int) ∧ ws.length = xs.length ∧
        ((stdy dss ws = false ∧ ∀ H', More H H' → RUn CU "zeros" H' E) ∨ (stdy dss ws = true ∧ ∀ H', More H H' → Q .non H'))))))
/-- at a stands the machine of these moves and worths -/
def MAt (K : PySem.W.Frag) (H : Hp) (C a : Addr) (p : Int) (dss : List (List Int)) (ws : List Int) : Prop := ∃ (dx t u : Addr) (xs : List V), H a = some (.ins C dx [("p", .int p), ("moves", .ref t), ("worths", .ref u), ("size", .int (dss.length : Nat))]) ∧
  SqT K H t xs ∧ Paired (TupI K H) xs dss ∧ SqT K H u (ws.map V.int)
theorem MAt.more {K : PySem.W.Frag} {H H' : Hp} {C a : Addr} {p : Int} {dss : List (List Int)} {ws : List Int} (m : More H H') (h : MAt K H C a p dss ws) : MAt K H' C a p dss ws :=
  let ⟨dx, t, u, xs, h1, h2, h3, h4⟩ := h; ⟨dx, t, u, xs, m _ _ h1, sqT_more m h2, paired_imp (fun _ _ r => r.more m) h3, sqT_more m h4⟩
/-- all but what stands at a stays -/
def Off (a : Addr) (H H' : Hp) : Prop := ∀ b o, H b = some o → b ≠ a → H' b = some o
theorem Off.refl {a : Addr} {H : Hp} : Off a H H := fun _ _ e _ => e
theorem Off.trans {a : Addr} {H H1 H2 : Hp} (x : Off a H H1) (y : Off a H1 H2) : Off a H H2 := fun b o e n => y b o (x b o e n) n
theorem Off.of {a : Addr} {H H' : Hp} (m : More H H') : Off a H H' := fun b o e _ => m b o e
theorem Off.upd {a : Addr} {H : Hp} {o : HO} : Off a H (upd H a o) := fun b u e n => by
  rw [upd_ne n]
  exact e
theorem Off.dr {d c : Addr} {n : Int} {H H' : Hp} (h : Drawn H H' d c n) : Off d H H' := fun b o e nb => (h.off b nb).trans e
theorem new_more {H : Hp} {p : Addr} {o : HO} (hp : H p = none) : More H (upd H p o) := More.new (fun _ _ e => e) hp
/-- where an instance or a dict stands, no list or tuple does -/
theorem sqL_off {K : PySem.W.Frag} {a b : Addr} {H H' : Hp} {xs : List V} {o : HO} (ha : H a = some o) (no : ∀ xs, o ≠ .lst xs) (nf : ∀ u v, o ≠ .frz u v) (m : Off a H H') : SqL K H b xs → SqL K H' b xs
  | .inl (.inl h) => .inl (.inl (m _ _ h fun e => by rw [e, ha] at h; exact no _ (Option.some.inj h)))
  | .inl (.inr ⟨u, h⟩) => .inl (.inr ⟨u, m _ _ h fun e => by rw [e, ha] at h; exact nf _ _ (Option.some.inj h)⟩)
  | .inr h => .inr h
theorem sqT_off {K : PySem.W.Frag} {a b : Addr} {H H' : Hp} {xs : List V} {o : HO} (ha : H a = some o) (no : ∀ xs, o ≠ .tup xs) (nf : ∀ u v, o ≠ .frz u v) (m : Off a H H') : SqT K H b xs → SqT K H' b xs
  | .inl (.inl h) => .inl (.inl (m _ _ h fun e => by rw [e, ha] at h; exact no _ (Option.some.inj h)))
  | .inl (.inr ⟨u, h⟩) => .inl (.inr ⟨u, m _ _ h fun e => by rw [e, ha] at h; exact nf _ _ (Option.some.inj h)⟩)
  | .inr h => .inr h
theorem sq_ins {K : PySem.W.Frag} {a b C dx : Addr} {H H' : Hp} {xs : List V} {fs : List (Str × V)} (ha : H a = some (.ins C dx fs)) (m : Off a H H') : Sq K H b xs → Sq K H' b xs
  | .inl h => .inl (sqL_off ha (fun _ e => nomatch e) (fun _ _ e => nomatch e) m h)
  | .inr h => .inr (sqT_off ha (fun _ e => nomatch e) (fun _ _ e => nomatch e) m h)
theorem Off.gone {a b : Addr} {H H' : Hp} (m : Off a H H') (ha : ∃ o, H' a = some o) (h : H' b = none) : H b = none := by
  cases e : H b with
  | none => rfl
  | some o =>
    by_cases z : b = a
    · obtain ⟨u, hu⟩ := ha
      rw [z, hu] at h
      cases h
    · rw [m _ _ e z] at h
      cases h
theorem Off.at {a b : Addr} {H H' : Hp} {o : HO} (m : Off a H H') (h : H b = none) : Off a H (L2.upd H' b o) := fun c u e n => by
  rw [upd_ne (ne_of_none e h)]
  exact m c u e n
theorem Pen.updA {H : Hp} {d c b : Addr} {n : Int} {o : HO} (h : Pen H d c n) (h1 : b ≠ d) (h2 : b ≠ c) : Pen (L2.upd H b o) d c n := h.keep (upd_ne h1.symm) (upd_ne h2.symm)
theorem putK_le (kvs : List (Key × V)) (k : Key) (v : V) : (putK kvs k v).length ≤ kvs.length + 1 := by
  unfold putK
  split
  · rw [List.length_map]
    omega
  · rw [List.length_append]
    exact Nat.le_refl _
/-- all is right for a machine -/
structure MOk (K : PySem.W.Frag) (H : Hp) (x y z : V) (p : Int) (dss : List (List Int)) (ws : List Int) : Prop where
  x_ : x = .int p
  pr : isPr p = true
  y_ : ∃ a xs, y = .ref a ∧ Sq K H a xs ∧ xs.length ≤ 1000 ∧ xs ≠ [] ∧ Paired (GRow K H p xs.length) xs dss
  z_ : ∃ b, z = .ref b ∧ Sq K H b (ws.map V.int)
  len : ws.length = dss.length
  st : stdy dss ws = true
/-- what is no machine, and the error for it -/
def BadM (K : PySem.W.Frag) (CN CR CU : Addr) (x y z : V) (H : Hp) (E : XK) : Prop := (BadP K H x ∧ RNum CN "p" x H E) ∨
  ∃ (p : Int) (a : Addr) (xs : List V), x = .int p ∧ isPr p = true ∧ y = .ref a ∧ Sq K H a xs ∧ xs.length ≤ 1000 ∧
    ((xs = [] ∧ RNum CN "states" (.int 0) H E) ∨
    (xs ≠ [] ∧ ∃ (i : Nat) (x0 : V), xs[i]? = some x0 ∧ NRow K H p xs.length x0 ∧ (∀ j y, j < i → xs[j]? = some y → ∃ ds, GRow K H p xs.length y ds) ∧ ∀ H', More H H' → RRow CR x0 H' E) ∨
    (xs ≠ [] ∧ ∃ dss : List (List Int), Paired (GRow K H p xs.length) xs dss ∧
      ((NWor K H xs.length z ∧ ∀ H', More H H' → RRow CR z H' E) ∨
      ∃ (b : Addr) (ws : List Int), z = .ref b ∧ Sq K H b (ws.map V.int) ∧ ws.length = xs.length ∧ stdy dss ws = false ∧ ∀ H', More H H' → RUn CU "zeros" H' E)))
def spCM (K : PySem.W.Frag) (CN CR CU : Addr) : Sp := fun vs H Q E => ∃ x y z, vs = [x, y, z] ∧ (BadM K CN CR CU x y z H E ∨ ∃ p dss ws, MOk K H x y z p dss ws ∧ ∀ H', More H H' → Q .non H')
theorem spCM.to0 {K : PySem.W.Frag} {CN CR CU : Addr} {vs : List V} {H : Hp} {Q : VK} {E : XK} (h : spCM K CN CR CU vs H Q E) : spCM0 K CN CR CU vs H Q E := by
  obtain ⟨x, y, z, e, c | ⟨p, dss, ws, ⟨e1, pr, ⟨ay, xs, e2, sq, few, ne, hp⟩, ⟨az, e3, sw⟩, lw, st⟩, q⟩⟩ := h
  · refine ⟨x, y, z, e, ?_⟩
    obtain c | ⟨p, a, xs, e1, e2, e3, e4, e5, c⟩ := c
    · exact .inl c
    refine .inr ⟨p, a, xs, e1, e2, e3, e4, e5, ?_⟩
    obtain c | c | ⟨c1, dss, c2, c⟩ := c
    · exact .inl c
    · exact .inr (.inl c)
    refine .inr (.inr ⟨c1, dss, c2, ?_⟩)
    obtain c | ⟨b, ws, c3, c4, c5, c⟩ := c
    · exact .inl c
    · exact .inr ⟨b, ws, c3, c4, c5, .inl c⟩
  · exact ⟨x, y, z, e, .inr ⟨p, ay, xs, e1, pr, e2, sq, few, .inr (.inr ⟨ne, dss, hp, .inr ⟨az, ws, e3, sw, by rw [lw, ← Paired.length hp], .inr ⟨st, q⟩⟩⟩)⟩⟩
def spMI (K : PySem.W.Frag) (C CN CR CU : Addr) : Sp := fun vs H Q E => ∃ a dx x y z, vs = [.ref a, x, y, z] ∧ H a = some (.ins C dx []) ∧ (BadM K CN CR CU x y z H E ∨
  ∃ p dss ws, MOk K H x y z p dss ws ∧ ∀ H', Off a H H' → MAt K H' C a p dss ws → Q .non H')
/-- the kinds of values that are no object of a class of one's own -/
def offOwn : List String := ["int", "bool", "NoneType", "str", "list", "tuple", "dict"]
/-- what is asked of the class -/
structure McC (K : PySem.W.Frag) (mg : Str → Option Value) (C : Addr) : Prop where
  ic : C8.InsC K C
  n1 : NoAttr K C "p"
  n2 : NoAttr K C "moves"
  n3 : NoAttr K C "worths"
  n4 : NoAttr K C "size"
  g : mg "Machine" = some (.ref C)
  no : ∀ n ∈ offOwn, PySem.W.kitOne K (.type n) (.ref C) = some false
theorem MAt.ty {K : PySem.W.Frag} {mg : Str → Option Value} {C a : Addr} (Z : McC K mg C) {H : Hp} {p : Int} {dss : List (List Int)} {ws : List Int} (h : MAt K H C a p dss ws) : TyX K H (.ref a) (.ref C) := by
  obtain ⟨dx, t, u, xs, h1, _⟩ := h
  exact .base (.ins h1 Z.ic.cl Z.ic.ha Z.ic.hn Z.ic.htk Z.ic.hm)
def spMEq (K : PySem.W.Frag) (C : Addr) : Sp := fun vs H Q _ => ∃ a y p dss ws, vs = [.ref a, y] ∧ MAt K H C a p dss ws ∧
  ((∃ n ∈ offOwn, TyX K H y (.type n) ∧ Q (.bl false) H) ∨ ∃ b p2 dss2 ws2, y = .ref b ∧ MAt K H C b p2 dss2 ws2 ∧ Q (.bl (decide (p = p2 ∧ dss = dss2 ∧ ws = ws2))) H)
/-- right rows of states, a worth for each -/
structure MGood (p : Int) (dss : List (List Int)) (ws : List Int) : Prop where
  pr : isPr p = true
  ne : dss ≠ []
  rows : ∀ ds ∈ dss, ((ds.length : Nat) : Int) = p ∧ ∀ d ∈ ds, 0 ≤ d ∧ d < (dss.length : Int)
  len : ws.length = dss.length
  few : dss.length ≤ 1000
/-- the state behind a digit -/
def stepM (dss : List (List Int)) (s : Nat) (d : Int) : Nat := ((dss.getD s []).getD d.toNat 0).toNat
def runM (dss : List (List Int)) (word : List Int) : Nat := word.foldl (stepM dss) 0
theorem MGood.step {p : Int} {dss : List (List Int)} {ws : List Int} (g : MGood p dss ws) {s : Nat} (hs : s < dss.length) {d : Int} (d0 : 0 ≤ d) (d1 : d < p) :
    ∃ ds, dss[s]? = some ds ∧ ds[d.toNat]? = some ((stepM dss s d : Nat) : Int) ∧ stepM dss s d < dss.length := by
  have e := at_getD hs []
  have hm : dss.getD s [] ∈ dss := List.mem_of_getElem? e
  obtain ⟨l, r⟩ := g.rows _ hm
  have lt : d.toNat < (dss.getD s []).length := by omega
  have e2 := at_getD lt 0
  obtain ⟨r0, r1⟩ := r _ (List.mem_of_getElem? e2)
  refine ⟨_, e, ?_, ?_⟩
  · rw [e2]
    unfold stepM
    rw [Int.toNat_of_nonneg r0]
  · unfold stepM
    omega
theorem MGood.run {p : Int} {dss : List (List Int)} {ws : List Int} (g : MGood p dss ws) : ∀ (l : List Int) (s : Nat), s < dss.length → (∀ d ∈ l, 0 ≤ d ∧ d < p) → l.foldl (stepM dss) s < dss.length
  | [], s, hs, _ => hs
  | d :: l, s, hs, h => by
    obtain ⟨_, _, _, lt⟩ := g.step hs (h d (.head _)).1 (h d (.head _)).2
    exact g.run l _ lt fun x hx => h x (.tail _ hx)
def spMAt (K : PySem.W.Frag) (C CN : Addr) : Sp := fun vs H Q E => ∃ a x p dss ws, vs = [.ref a, x] ∧ MAt K H C a p dss ws ∧ MGood p dss ws ∧
  ((∃ n : Nat, x = .int n ∧ n < 2 ^ 400 ∧ ∀ H', More H H' → Q (.int (ws.getD (runM dss (dgs p.toNat n)) 0)) H') ∨ (((∃ i, x = .int i ∧ i < 0) ∨ NoInt K H x) ∧ RNum CN "n" x H E))
def spLd : Sp := fun vs H Q _ => ∃ n p : Nat, vs = [.int n, .int p] ∧ isPr p = true ∧ n < 2 ^ 400 ∧
  ∀ H' l, More H H' → H l = none → H' l = some (.lst ((dgs p n).map V.int)) → Q (.ref l) H'
/-- the state behind a word, told by the law -/
def spLs (K : PySem.W.Frag) : Sp := fun vs H Q _ => ∃ (M L : Addr) (rs : List V) (p : Int) (dss : List (List Int)) (ws l : List Int), vs = [.ref M, .ref L] ∧ SqT K H M rs ∧ Paired (TupI K H) rs dss ∧ MGood p dss ws ∧ SqL K H L (l.map V.int) ∧ (∀ d ∈ l, 0 ≤ d ∧ d < p) ∧ Q (.int (runM dss l : Nat)) H
def spIm (K : PySem.W.Frag) (C : Addr) : Sp := fun vs H Q _ => ∃ (a M W : Addr) (rs : List V) (p : Int) (dss : List (List Int)) (ws : List Int), vs = [.ref a, .int p, .ref M, .ref W] ∧ MAt K H C a p dss ws ∧ SqT K H M rs ∧ Paired (TupI K H) rs dss ∧ SqT K H W (ws.map V.int) ∧ ∀ H', More H H' → Q (.bl true) H'
/-- what the clauses and the fields ask of the three classes -/
structure Cau3 (K : PySem.W.Frag) (CN CR CU : Addr) : Prop where
  nn : PySem.W.exmOne K (.ref CN) (.ref CN) = some true
  rn : PySem.W.exmOne K (.ref CR) (.ref CN) = some false
  rr : PySem.W.exmOne K (.ref CR) (.ref CR) = some true
  un : PySem.W.exmOne K (.ref CU) (.ref CN) = some false
  ur : PySem.W.exmOne K (.ref CU) (.ref CR) = some false
  uu : PySem.W.exmOne K (.ref CU) (.ref CU) = some true
  xn : XfC K CN
  xr : XfC K CR
  xu : XfC K CU
/-- the list that tells an error -/
def ERef3 (CN CR CU : Addr) (Q : VK) : XK := fun cls d H =>
  (cls = .ref CN ∧ ∃ (dd : Addr) (what x : V), d = some dd ∧ H dd = some (.xd [("number", x), ("what", what)]) ∧ ∀ l, H l = none → Q (.ref l) (upd H l (.lst [.str "number", what, x]))) ∨
  (cls = .ref CR ∧ ∃ (dd : Addr) (x : V), d = some dd ∧ H dd = some (.xd [("row", x)]) ∧ ∀ l, H l = none → Q (.ref l) (upd H l (.lst [.str "row", x]))) ∨
  (cls = .ref CU ∧ ∃ (dd : Addr) (x : V), d = some dd ∧ H dd = some (.xd [("what", x)]) ∧ ∀ l, H l = none → Q (.ref l) (upd H l (.lst [.str "unlike", x])))
def TRef3 (CN CR CU : Addr) : (XK → Hp → VK → Prop) → Hp → VK → Prop := fun tl H Q => tl (ERef3 CN CR CU Q) H fun _ H' => ([] : List V).length ≤ sizeLine ∧ ∀ l, H' l = none → Q (.ref l) (upd H' l (.lst []))
end B5

namespace K67
open PySem L2 Gd B5 ZipG
section
variable {P : Program} {w : World} {K : PySem.W.Frag} {mg : Str → Option Value} {base : Heap}
variable {fN CN fR CR fU CU fI fS fW fC f : Addr} {fdN fdR fdU fdI fdS fdW fdC fd : FuncData} {D : Addr}
abbrev sCM : Stmt := top 15
abbrev NCM : List Str := ["p", "moves", "worths", "many", "row", "state", "worth"]
theorem scCM : FnScope NCM ["p", "moves", "worths"] (defScope sCM) := ⟨rfl, rfl, rfl, by decide +kernel, rfl, by decide +kernel, by decide +kernel⟩
theorem ok_cm (F : Fun K "check_machine" "check_machine" sCM f fd) (B : Blt mg) (zAny : mg "any" = none) (zZip : mg "zip" = none) (I : Cl K mg "is_integer" sIsI ["value"] fI fdI) (S : Cl K mg "is_integers" sIsIs ["value"] fS fdS)
    (W : Cl K mg "is_row" sRow ["value", "width"] fW fdW) (C : Cl K mg "check_prime" sCP ["p"] fC fdC)
    (N : Er K mg "BadNumber" "BadNumber.__init__" CN fN ["what", "number"] sBadNumber fdN) (R : Er K mg "BadRow" "BadRow.__init__" CR fR ["row"] sBadRow fdR) (U : Er K mg "Unlike" "Unlike.__init__" CU fU ["what"] sUnlike fdU)
    (gD : mg "PRIMES" = some (.ref D)) (dD : tupI K (.ref D) = some [2, 3, 5, 7]) :
    FnOk P w K mg base (L2.CX P w) 4 f fd ["p", "moves", "worths"] (spCM K CN CR CU) := by
  have GN : FnOk P w K mg base CX0 1 fN fdN ["self", "what", "number"] (spIni CN ["what", "number"]) := okBadNumber N.fn N.T N.no
  have GR : FnOk P w K mg base CX0 1 fR fdR ["self", "row"] (spIni CR ["row"]) := okBadRow R.fn R.T R.no
  have GU : FnOk P w K mg base CX0 1 fU fdU ["self", "what"] (spIni CU ["what"]) := okUnlike U.fn U.T U.no
  have GC : FnOk P w K mg base (L2.CX P w) 3 fC fdC ["p"] (spCP K CN) := ok_cp C.fn B I N gD dD
  have GW : FnOk P w K mg base CX0 3 fW fdW ["value", "width"] (spRow K) := ok_row W.fn B I S
  refine F.okX scCM (fun vs H Q E h => ?_) (fun cdv A outer s H vs Q E hr h => ?_)
  · obtain ⟨x, y, z, rfl, _⟩ := h
    rfl
  · replace h := h.to0
    obtain ⟨x, y, z, rfl, h⟩ := h
    have hr2 : Room 2 _ := hr.mono (by decide)
    refine ⟨_, pss_cons (ps_expr (pe_call GC hr rfl C.g C.k C.b .nil (passes_call (takes_of rfl rfl rfl rfl) (fun _ _ _ _ h => h)) (pa_cons (pv 0) pa_nil)))
      (pss_cons (ps_if (pt_not (pt_truth (pv 1) (by intro _; rfl)))
        (pss_one (ps_raise rfl (takes_of rfl rfl rfl rfl) (pmk_oex N.T N.iC N.tI GN hr2 N.b .nil pass0 rfl N.g (pa_cons pe_str (pa_cons pe_int pa_nil))))) pss_nil)
      (pss_cons (ps_set (i := 3) scCM.nd rfl (Or.inr rfl) (pe_callB call_len_seq (by rfl) B.len_ PySem.boot_len (pa_cons (pv 1) pa_nil)))
      (Evl.pss_cut (ps_for (passes_of rfl) rfl (pi_sq (K := K) rfl (pv 1)) (pg_name (i := 4) scCM.nd rfl (Or.inl rfl))
        (pss_one (ps_if (PW.pt (pw_or (pt_not (pt_val (pe_call GW hr rfl W.g W.k W.b .nil pass0 (pa_cons (pv 4) (pa_cons (pv 0) pa_nil)))))
          (pw_or1 (pt_not (pt_val (pe_callB (cr_all rfl) (by rfl) B.all_ (by decide +kernel) (pa_cons (pe_lc (own := [("state", 5)]) (g := gName 5) (tt := tYes) rfl scCM.nd (pi_sq (K := K) rfl (pv 4))
            (blkOk_by (N := NCM) (sc := defScope sCM) (by decide +kernel))
            (fun _ _ _ _ _ => pg_name (i := 5) scCM.nd rfl (Or.inl rfl)) (fun _ _ _ _ _ => pts_nil)
            (fun _ _ _ _ _ => pe_chain op_le op_lt pe_int (pv 5) (pv 3))) pa_nil)))))))
          (pss_one (ps_raise rfl (takes_of rfl rfl rfl rfl) (pmk_oex R.T R.iC R.tI GR hr2 R.b .nil pass0 rfl R.g (pa_cons (pv 4) pa_nil)))) pss_nil)))
      (pss_cons (ps_if (pt_not (pt_val (pe_call GW hr rfl W.g W.k W.b .nil pass0 (pa_cons (pv 2) (pa_cons (pv 3) pa_nil)))))
        (pss_one (ps_raise rfl (takes_of rfl rfl rfl rfl) (pmk_oex R.T R.iC R.tI GR hr2 R.b .nil pass0 rfl R.g (pa_cons (pv 2) pa_nil)))) pss_nil)
      (pss_one (ps_if (pt_val (pe_callB (cr_any rfl) (by rfl) zAny (by decide +kernel) (pa_cons (pe_lc (own := [("worth", 6), ("row", 4)]) (g := gTup K 2 (gCons (gName 6) (gCons (gName 4) gNil))) (tt := tYes) rfl scCM.nd
            (pi_zipG (by rfl) zZip (pa_cons (pv 2) (pa_cons (pv 1) pa_nil)))
            (blkOk_by (N := NCM) (sc := defScope sCM) (by decide +kernel))
            (fun _ _ _ _ _ => pg_tup rfl (pgs_cons (pg_name (i := 6) scCM.nd rfl (Or.inl rfl)) (pgs_cons (pg_name (i := 4) scCM.nd rfl (Or.inl rfl)) pgs_nil))) (fun _ _ _ _ _ => pts_nil)
            (fun _ _ _ _ _ => pe_cmpR op_ne (pv 6) (pe_ix (r := rIx K) ix_seq (pv 2) (pe_ix (r := rIx K) ix_seq (pv 4) pe_int (fun _ _ => rfl)) (fun _ _ => rfl)) (nomark _))) pa_nil)))
        (pss_one (ps_raise rfl (takes_of rfl rfl rfl rfl) (pmk_oex U.T U.iC U.tI GU hr2 U.b .nil pass0 rfl U.g (pa_cons pe_str pa_nil)))) pss_nil)))))), ?_⟩
    obtain ⟨bad, q⟩ | ⟨p, a, xs, rfl, pr, rfl, sq, few, h⟩ := h
    · exact ⟨_, rfl, _, rfl, .inr ⟨bad, q⟩⟩
    refine ⟨_, rfl, _, rfl, .inl ⟨_, rfl, pr, ?_⟩⟩
    have tru : ∀ k, k = !xs.isEmpty → TruV K (.ref a) H k := fun k e => by
      rcases sq with s | s
      · exact .inl ⟨xs, s, e⟩
      · exact .inr (.inl ⟨xs, s, e⟩)
    -- the test over all states of a row
    have comp : ∀ (b : Addr) (ds : List Int) (J : It) (Z : Hp → Prop) (wk : Walk J (ds.map V.int).length Z (YAt (ds.map V.int))) (H1 : Hp) (hZ : ∀ H', Kept b H1 H' → Z H') (few2 : ds.length ≤ 1000) (D' : Addr) (hD : H1 D' = none) (Zq : Hp → Prop)
        (hq : ∀ H', (∃ bs : List Bool, H' D' = some (.lst (bs.map V.bl)) ∧ bs.all id = (ds.map V.int).all (inD xs.length)) → More H1 H' → Zq H'), _ :=
      fun b ds J Z wk H1 hZ few2 D' hD Zq hq => lc_name (n := 5) (te := tChain (rI0 fun i j => .bl (decide (i ≤ j))) (rI0 fun i j => .bl (decide (i < j))) (tC (.int 0)) (tVar 5) (tVar 3)) (vs := [5])
        (σ := [some (.int p), some (.ref a), some z, some (.int (xs.length : Nat)), some (.ref b), none, none]) (D := D') (rs := (ds.map V.int).map fun y => V.bl (inD xs.length y))
        (Qd := Zq) wk hD (fun H' m => hZ H' (.of m)) (by rw [List.length_map]) (by rw [List.length_map]; omega) (fun _ => rfl)
        (fun i y v H2 Q hy hv m2 q => by
          rw [List.getElem?_map] at hy
          cases e : ds[i]? with
          | none => rw [e] at hy; cases hy
          | some d =>
            rw [e] at hy
            cases hy
            rw [List.getElem?_map, List.getElem?_map, e] at hv
            cases hv
            refine ⟨_, rfl, _, _, rfl, rfl, _, rfl, ite2 (fun h => ⟨_, rfl, _, _, rfl, rfl, ?_⟩) (fun h => ?_)⟩
            · have h := of_decide_eq_true h
              have : decide (d < (xs.length : Int)) = inD xs.length (V.int d) := by
                show _ = decide (0 ≤ d ∧ d < (xs.length : Int))
                rw [decide_eq_decide]
                exact ⟨fun q => ⟨h, q⟩, fun q => q.2⟩
              show Q (V.bl (decide (d < (xs.length : Int)))) H2
              rw [this]
              exact q _ fun _ _ e => e
            · have : false = inD xs.length (V.int d) := by
                show _ = decide (0 ≤ d ∧ d < (xs.length : Int))
                rw [decide_eq_false fun q => h (decide_eq_true q.1)]
              show Q (V.bl false) H2
              rw [this]
              exact q _ fun _ _ e => e)
        (fun H' hl m => hq H' ⟨(ds.map V.int).map (inD xs.length), by rw [List.map_map]; exact hl, by rw [List.all_map]; rfl⟩ m)
    have its : ∀ {y : V} {ds : List Int} {H' : Hp}, GRow K H' p xs.length y ds → ds.length ≤ 1000 := fun {y ds H'} g => by
      have := g.len
      have := (isPr_small pr).2
      omega
    obtain ⟨rfl, q⟩ | ⟨ne, i0, x0, hx0, no, before, q⟩ | ⟨ne, dss, hp, h⟩ := h
    · exact ⟨_, rfl, _, tru _ rfl, iteT (mk_ini rfl (by show 2 ≤ 900; decide) q)⟩
    all_goals
      have e0 : xs.isEmpty = false := by cases xs with | nil => exact absurd rfl ne | cons _ _ => rfl
      refine ⟨_, rfl, _, tru _ rfl, ?_⟩
      rw [e0]
      refine iteF ⟨_, rfl, a, _, rfl, sq, ?_⟩
    · -- a wrong row
      refine ⟨fun _ _ => False, ?_, fun _ _ h => h.elim⟩
      refine ⟨_, rfl, a, xs, rfl, sq, fun J Z wk hZ => for_it wk (fun i σ' H' => i ≤ i0 ∧ ∃ z4, σ' = [some (.int p), some (.ref a), some z, some (.int (xs.length : Nat)), z4, none, none] ∧ More H H')
        ⟨Nat.zero_le _, none, rfl, fun _ _ e => e⟩ (fun i σ' H' _ ⟨_, _, _, m⟩ => hZ H' (.of m)) ?_ (fun σ' H' ⟨h, _⟩ => ?_)⟩
      · rintro i y σ2 H2 H3 hi ⟨le, z4, rfl, m2⟩ ⟨rfl, hy⟩
        by_cases e : i = i0
        · subst e
          rw [hx0] at hy
          cases hy
          obtain no | ⟨b, ys, rfl, sb, it, no⟩ := no.more m2
          · exact ⟨_, rfl, _, rfl, _, _, rfl, .inl ⟨no, fun H' m => ⟨_, rfl, iteT (iteT ⟨_, rfl, mk_ini rfl (by show 1 ≤ 900; decide) (q H' fun b o q => m b o (m2 b o q))⟩)⟩⟩⟩
          · refine ⟨_, rfl, _, rfl, _, _, rfl, .inr ⟨b, ys, rfl, sb, it, fun H' m => ⟨_, rfl, ?_⟩⟩⟩
            cases eb : (ys.all isI && decide (((ys.length : Nat) : Int) = p)) with
            | false => exact iteT (iteT ⟨_, rfl, mk_ini rfl (by show 1 ≤ 900; decide) (q H' fun b o q => m b o (m2 b o q))⟩)
            | true =>
              rw [Bool.and_eq_true, decide_eq_true_eq] at eb
              obtain no | no | ⟨ds, rfl, ld, d, hd, nd⟩ := no
              · rw [no] at eb; cases eb.1
              · exact absurd eb.2 no
              · refine iteF ⟨_, rfl, b, _, rfl, sb.more m, fun J2 Z2 wk2 hZ2 D' hD => comp b ds J2 Z2 wk2 H' hZ2 (by have := (isPr_small pr).2; omega) D' hD _ (fun H5 ⟨bs, h5, eb2⟩ m5 => ⟨D', bs, rfl, SqL.of h5, _, rfl, ?_⟩)⟩
                have : (ds.map V.int).all (inD xs.length) = false := by
                  rw [List.all_eq_false]
                  refine ⟨_, List.mem_map.mpr ⟨d, hd, rfl⟩, ?_⟩
                  show ¬ decide (0 ≤ d ∧ d < (xs.length : Int)) = true
                  rw [decide_eq_false nd]
                  exact Bool.false_ne_true
                rw [eb2, this]
                exact iteT ⟨_, rfl, mk_ini rfl (by show 1 ≤ 900; decide) (q H5 fun b o q => m5 b o (m b o (m2 b o q)))⟩
        · obtain ⟨ds, g⟩ := before i y (by omega) hy
          obtain ⟨b, rfl, sb⟩ := (g.more m2).ex
          refine ⟨_, rfl, _, rfl, _, _, rfl, .inr ⟨b, _, rfl, sb, Its.ints (its g), fun H' m => ⟨_, rfl, ?_⟩⟩⟩
          have yes : ((ds.map V.int).all isI && decide ((((ds.map V.int).length : Nat) : Int) = p)) = true := by
            rw [isI_all, List.length_map, Bool.true_and]
            exact decide_eq_true g.len
          rw [yes]
          refine iteF ⟨_, rfl, b, _, rfl, sb.more m, fun J2 Z2 wk2 hZ2 D' hD => comp b ds J2 Z2 wk2 H' hZ2 (its g) D' hD _ (fun H5 ⟨bs, h5, eb2⟩ m5 => ⟨D', bs, rfl, SqL.of h5, _, rfl, ?_⟩)⟩
          rw [eb2, inD_all g.ok]
          exact iteF ⟨by omega, _, rfl, fun b o q => m5 b o (m b o (m2 b o q))⟩
      · have := (List.getElem?_eq_some_iff.mp hx0).1
        omega
    · -- all rows are right
      refine ⟨fun σ' H' => ∃ z4, σ' = [some (.int p), some (.ref a), some z, some (.int (xs.length : Nat)), z4, none, none] ∧ More H H', ?_, ?_⟩
      · refine ⟨_, rfl, a, xs, rfl, sq, fun J Z wk hZ => for_it wk (fun i σ' H' => ∃ z4, σ' = [some (.int p), some (.ref a), some z, some (.int (xs.length : Nat)), z4, none, none] ∧ More H H')
          ⟨none, rfl, fun _ _ e => e⟩ (fun i σ' H' _ ⟨_, _, m⟩ => hZ H' (.of m)) ?_ (fun σ' H' h => h)⟩
        rintro i y σ2 H2 H3 hi ⟨z4, rfl, m2⟩ ⟨rfl, hy⟩
        · obtain ⟨ds, _, g⟩ := paired_at hp hy
          obtain ⟨b, rfl, sb⟩ := (g.more m2).ex
          refine ⟨_, rfl, _, rfl, _, _, rfl, .inr ⟨b, _, rfl, sb, Its.ints (its g), fun H' m => ⟨_, rfl, ?_⟩⟩⟩
          have yes : ((ds.map V.int).all isI && decide ((((ds.map V.int).length : Nat) : Int) = p)) = true := by
            rw [isI_all, List.length_map, Bool.true_and]
            exact decide_eq_true g.len
          rw [yes]
          refine iteF ⟨_, rfl, b, _, rfl, sb.more m, fun J2 Z2 wk2 hZ2 D' hD => comp b ds J2 Z2 wk2 H' hZ2 (its g) D' hD _ (fun H5 ⟨bs, h5, eb2⟩ m5 => ⟨D', bs, rfl, SqL.of h5, _, rfl, ?_⟩)⟩
          rw [eb2, inD_all g.ok]
          exact iteF ⟨_, rfl, fun b o q => m5 b o (m b o (m2 b o q))⟩
      · rintro σ2 H2 ⟨z4, rfl, m2⟩
        obtain ⟨no, q⟩ | ⟨b, ws, rfl, sw, lw, h⟩ := h
        · obtain no | ⟨b, ys, rfl, sb, it, no⟩ := no.more m2
          · exact ⟨_, rfl, _, rfl, _, _, rfl, .inl ⟨no, fun H' m => ⟨_, rfl, iteT ⟨_, rfl, mk_ini rfl (by show 1 ≤ 900; decide) (q H' fun b o q => m b o (m2 b o q))⟩⟩⟩⟩
          · refine ⟨_, rfl, _, rfl, _, _, rfl, .inr ⟨b, ys, rfl, sb, it, fun H' m => ⟨_, rfl, ?_⟩⟩⟩
            have eb : (ys.all isI && decide (((ys.length : Nat) : Int) = (xs.length : Nat))) = false := by
              obtain no | no := no
              · rw [no, Bool.false_and]
              · rw [decide_eq_false (by omega), Bool.and_false]
            rw [eb]
            exact iteT ⟨_, rfl, mk_ini rfl (by show 1 ≤ 900; decide) (q H' fun b o q => m b o (m2 b o q))⟩
        · refine ⟨_, rfl, _, rfl, _, _, rfl, .inr ⟨b, _, rfl, sw.more m2, Its.ints (by omega), fun H3 m3 => ⟨_, rfl, ?_⟩⟩⟩
          have yes : ((ws.map V.int).all isI && decide ((((ws.map V.int).length : Nat) : Int) = (xs.length : Nat))) = true := by
            rw [isI_all, List.length_map, Bool.true_and]
            exact decide_eq_true (by omega)
          rw [yes]
          have m23 : More H H3 := fun b o q => m3 b o (m2 b o q)
          obtain ⟨S1, e1, h1⟩ := (sw.more m23).src
          obtain ⟨S2, e2, h2⟩ := (sq.more m23).src
          have dl : xs.length = dss.length := Paired.length hp
          refine iteF ⟨_, rfl, _, rfl, S1, S2, ws.map V.int, xs, by rw [e1, e2], h1 _ (fun o z => z), h2 _ (fun o z => z), fun D' hD => ?_⟩
          refine lc_it (H1 := H3) (D := D') (walk_zipG (n := xs.length) (by rw [List.length_map]; omega)) (fun i H' => H' D' = some (.lst (((List.zipWith (fun ds (w : Int) => !decide (w = ws.getD (ds.getD 0 0).toNat 0)) dss ws).take i).map V.bl)) ∧ More H3 H')
            ⟨upd_same, More.new (fun _ _ e => e) hD⟩ (fun i H' _ hh => ⟨h1 _ (.of hh.2), h2 _ (.of hh.2)⟩) ?_ ?_
          · rintro i v H4 H5 hi ⟨k4, m4⟩ ⟨T, u, y, rfl, nT, rfl, hu, hy⟩
            obtain ⟨ds, hds, g⟩ := paired_at hp hy
            obtain ⟨w0, hw, rfl⟩ := map_at hu
            have m5 : More H3 (upd H4 T (.tup [.int w0, y])) := More.new m4 nT
            have nTD : D' ≠ T := ne_of_none k4 nT
            have k5 : (upd H4 T (.tup [.int w0, y])) D' = _ := (upd_ne nTD).trans k4
            obtain ⟨b', rfl, sb⟩ := (g.more (fun b o q => m5 b o (m23 b o q))).ex
            have l0 : 0 < ds.length := by have := g.len; have := (isPr_small pr).1; omega
            have d0 : (ds.map V.int)[0]? = some (.int (ds.getD 0 0)) := at_map (at_getD l0 0)
            have ok0 := g.ok (ds.getD 0 0) (by rw [List.getD_eq_getElem?_getD, List.getElem?_eq_getElem l0]; exact List.getElem_mem l0)
            have lt : (ds.getD 0 0).toNat < ws.length := by omega
            have w1 : (ws.map V.int)[(ds.getD 0 0).toNat]? = some (.int (ws.getD (ds.getD 0 0).toNat 0)) := at_map (at_getD lt 0)
            refine ⟨T, _, rfl, SqT.of upd_same, rfl, _, _, rfl, _, _, rfl, rfl, rfl, ?_⟩
            refine ⟨_, rfl, _, rfl, _, rfl, ix_any sb rfl (j := 0) d0 (ix_any (sw.more (fun b o q => m5 b o (m23 b o q))) (by omega) w1 ⟨rfl, ?_⟩)⟩
            have zb := zip_at (f := fun ds (w : Int) => !decide (w = ws.getD (ds.getD 0 0).toNat 0)) hds hw
            refine ⟨_, k5, ?_, ?_, More.at m5 hD⟩
            · rw [List.length_map, List.length_take, sizeLine_eq]
              omega
            · rw [upd_same, take_snoc zb, List.map_append, deI]
              rfl
          · rintro H4 ⟨k4, m4⟩
            have len : (List.zipWith (fun ds (w : Int) => !decide (w = ws.getD (ds.getD 0 0).toNat 0)) dss ws).length = xs.length := by
              rw [List.length_zipWith]
              omega
            rw [← len, List.take_length] at k4
            refine ⟨D', _, rfl, SqL.of k4, _, rfl, ?_⟩
            rw [any_not]
            obtain ⟨no, q⟩ | ⟨ok, q⟩ := h
            · rw [show (List.zipWith (fun ds (w : Int) => decide (w = ws.getD (ds.getD 0 0).toNat 0)) dss ws).all id = false from no]
              exact iteT (mk_ini rfl (by show 1 ≤ 900; decide) (q H4 fun b o q => m4 b o (m23 b o q)))
            · rw [show (List.zipWith (fun ds (w : Int) => decide (w = ws.getD (ds.getD 0 0).toNat 0)) dss ws).all id = true from ok]
              exact iteF (q H4 fun b o q => m4 b o (m23 b o q))
end
end K67

namespace K67
open PySem L2 Gd B5
section
variable {P : Program} {w : World} {K : PySem.W.Frag} {mg : Str → Option Value} {base : Heap}
variable {CN CR CU C fM f : Addr} {fdM fd : FuncData}
abbrev sMI : Stmt := inClass (top 14) 0
abbrev NMI : List Str := ["self", "p", "moves", "worths", "row"]
theorem scMI : FnScope NMI ["self", "p", "moves", "worths"] (defScope sMI) := ⟨rfl, rfl, rfl, by decide +kernel, rfl, by decide +kernel, by decide +kernel⟩
theorem ok_mi (F : Fun K "__init__" "Machine.__init__" sMI f fd) (B : Blt mg) (M : Cl K mg "check_machine" sCM ["p", "moves", "worths"] fM fdM) (Z : McC K mg C)
    (GM : FnOk P w K mg base (L2.CX P w) 4 fM fdM ["p", "moves", "worths"] (spCM K CN CR CU)) : FnOk P w K mg base (L2.CX P w) 5 f fd ["self", "p", "moves", "worths"] (spMI K C CN CR CU) := by
  refine F.okX scMI (fun vs H Q E h => ?_) (fun cdv A outer s H vs Q E hr h => ?_)
  · obtain ⟨a, dx, x, y, z, rfl, _⟩ := h
    rfl
  · obtain ⟨a, dx, x, y, z, rfl, ha, h⟩ := h
    refine ⟨_, pss_cons (ps_expr (pe_call GM hr rfl M.g M.k M.b .nil (passes_call (takes_of rfl rfl rfl rfl) (fun _ _ _ _ h => h)) (pa_cons (pv 1) (pa_cons (pv 2) (pa_cons (pv 3) pa_nil)))))
      (pss_cons (ps_fld (pv 0) (pv 1) rfl)
      (pss_cons (ps_fld (pv 0) (pe_callTy call_tuple_of (by rfl) B.tup_ (by decide +kernel) (pa_cons (pe_lc (own := [("row", 4)]) (g := gName 4) (tt := tYes) rfl scMI.nd (pi_sq (K := K) rfl (pv 2))
          (blkOk_by (N := NMI) (sc := defScope sMI) (by decide +kernel)) (fun _ _ _ _ _ => pg_name (i := 4) scMI.nd rfl (Or.inl rfl)) (fun _ _ _ _ _ => pts_nil)
          (fun _ _ _ _ _ => pe_callTy (r := rTof K) (call_tof rfl) (by rfl) B.tup_ (by decide +kernel) (pa_cons (pv 4) pa_nil))) pa_nil)) rfl)
      (pss_cons (ps_fld (pv 0) (pe_callTy call_tuple_of (by rfl) B.tup_ (by decide +kernel) (pa_cons (pv 3) pa_nil)) rfl)
      (pss_one (ps_fld (pv 0) (pe_callB call_len_seq (by rfl) B.len_ PySem.boot_len (pa_cons (pe_fld (pv 0) rfl) pa_nil)) rfl))))), ?_⟩
    obtain h | ⟨p, dss, ws, ok, q⟩ := h
    · exact ⟨_, rfl, _, rfl, _, rfl, _, _, _, rfl, .inl h⟩
    refine ⟨_, rfl, _, rfl, _, rfl, _, _, _, rfl, .inr ⟨p, dss, ws, ok, fun H1 m1 => ?_⟩⟩
    obtain ⟨rfl, pr, ⟨ay, xs, rfl, sq, few, ne, hp⟩, ⟨az, rfl, sw⟩, lw, st⟩ := ok
    have dl : xs.length = dss.length := Paired.length hp
    have ha1 := m1 _ _ ha
    refine ⟨_, rfl, _, rfl, a, C, dx, _, rfl, ha1, Z.ic.cl, Z.n1, by show 0 < 1000; decide, ?_⟩
    have o2 : Off a H1 (upd H1 a (.ins C dx (putF "p" (.int p) []))) := Off.upd
    have sq2 := sq_ins ha1 o2 (sq.more m1)
    have ha2 : (upd H1 a (.ins C dx (putF "p" (.int p) []))) a = some (.ins C dx [("p", .int p)]) := upd_same
    generalize upd H1 a (.ins C dx (putF "p" (.int p) [])) = H2 at o2 sq2 ha2 ⊢
    refine ⟨_, rfl, ay, xs, rfl, sq2, fun J W wk hZ D hD => ?_⟩
    refine lc_rel (n := 4) (D := D) (H1 := H2) wk (fun i v H' => ∃ ds, dss[i]? = some ds ∧ TupI K H' v ds) (fun i v H' H'' m ⟨ds, e, t⟩ => ⟨ds, e, t.more m⟩) hD (fun H' m => hZ H' (.of m)) (by omega) (fun _ => rfl) ?_ ?_
    · intro i yv H3 Q3 hy m3 m3' ⟨l0, hl0⟩ q3
      obtain ⟨ds, hds, g⟩ := paired_at hp hy
      obtain ⟨b, rfl, sb⟩ := g.ex
      refine ⟨_, rfl, b, ds.map V.int, rfl, ?_⟩
      rcases sq_ins ha1 o2 (sb.more m1) with s | s
      · refine .inl ⟨Same.seq m3 s, fun l hl => q3 _ _ (new_more hl) ⟨ds, hds, l, rfl, SqT.of ?_⟩⟩
        rw [del_ne (ne_of_none hl0 hl).symm, upd_same]
      · exact .inr ⟨sqT_more m3 s, q3 _ _ (fun _ _ e => e) ⟨ds, hds, b, rfl, sqT_more m3' s⟩⟩
    · intro H3 G rs rl mG mH nG al hD3
      refine ⟨D, rs, rfl, .inl ⟨SqL.of hD3, fun t ht => ?_⟩⟩
      have m3 : More H2 (upd H3 t (.tup rs)) := fun b o e => new_more ht _ _ (mH _ _ (mG _ _ e))
      have pr3 : Paired (TupI K (upd H3 t (.tup rs))) rs dss := paired_of (by omega) fun i x y hx hy => by
        obtain ⟨ds, e, ti⟩ := al i x hx
        rw [hy] at e
        cases e
        exact ti.more fun b o e => new_more ht _ _ (mH _ _ e)
      have t3 : (upd H3 t (.tup rs)) t = some (.tup rs) := upd_same
      have nat : a ≠ t := ne_of_none (mH _ _ (mG _ _ ha2)) ht
      generalize upd H3 t (.tup rs) = H4 at m3 pr3 t3 ⊢
      have ha4 := m3 _ _ ha2
      refine ⟨_, rfl, a, C, dx, _, rfl, ha4, Z.ic.cl, Z.n2, by show 1 < 1000; decide, ?_⟩
      have o5 : Off a H4 (upd H4 a (.ins C dx (putF "moves" (.ref t) [("p", .int p)]))) := Off.upd
      have ha5 : (upd H4 a (.ins C dx (putF "moves" (.ref t) [("p", .int p)]))) a = some (.ins C dx [("p", .int p), ("moves", .ref t)]) := upd_same
      generalize upd H4 a (.ins C dx (putF "moves" (.ref t) [("p", .int p)])) = H5 at o5 ha5 ⊢
      have t5 := o5 _ _ t3 nat.symm
      have pr5 : Paired (TupI K H5) rs dss := paired_imp (fun x y ⟨b, e, s⟩ => ⟨b, e, sqT_off ha4 (fun _ e => nomatch e) (fun _ _ e => nomatch e) o5 s⟩) pr3
      have sw5 : Sq K H5 az (ws.map V.int) := sq_ins ha4 o5 ((sq_ins ha1 o2 (sw.more m1)).more m3)
      have o05 : Off a H H5 := fun b o e n => o5 _ _ (m3 _ _ (o2 _ _ (m1 _ _ e) n)) n
      -- the worths
      have fin : ∀ (u : Addr) (H6 : Hp), More H5 H6 → SqT K H6 u (ws.map V.int) → MAt K (upd (upd H6 a (.ins C dx (putF "worths" (.ref u) [("p", .int p), ("moves", .ref t)]))) a (.ins C dx [("p", .int p), ("moves", .ref t), ("worths", .ref u), ("size", .int (rs.length : Nat))])) C a p dss ws := by
        intro u H6 m6 su
        rw [upd_upd]
        have ha6 := m6 _ _ ha5
        have o7 : Off a H6 (upd H6 a (.ins C dx [("p", .int p), ("moves", .ref t), ("worths", .ref u), ("size", .int (rs.length : Nat))])) := Off.upd
        refine ⟨dx, t, u, rs, ?_, SqT.of (o7 _ _ (m6 _ _ t5) nat.symm), paired_imp (fun x y ⟨b, e, s⟩ => ⟨b, e, sqT_off ha6 (fun _ e => nomatch e) (fun _ _ e => nomatch e) o7 (sqT_more m6 s)⟩) pr5, sqT_off ha6 (fun _ e => nomatch e) (fun _ _ e => nomatch e) o7 su⟩
        rw [upd_same, rl, dl]
      have last : ∀ (u : Addr) (H6 : Hp), More H5 H6 → SqT K H6 u (ws.map V.int) → Q .non (upd (upd H6 a (.ins C dx (putF "worths" (.ref u) [("p", .int p), ("moves", .ref t)]))) a (.ins C dx [("p", .int p), ("moves", .ref t), ("worths", .ref u), ("size", .int (rs.length : Nat))])) := by
        intro u H6 m6 su
        refine q _ (fun b o e n => ?_) (fin u H6 m6 su)
        rw [upd_ne n, upd_ne n]
        exact m6 _ _ (o05 _ _ e n)
      have store : ∀ (u : Addr) (H6 : Hp), More H5 H6 → SqT K H6 u (ws.map V.int) → ∃ p' C' dx' fs, V.ref a = .ref p' ∧ H6 p' = some (.ins C' dx' fs) ∧ True := fun u H6 m6 _ => ⟨_, _, _, _, rfl, m6 _ _ ha5, trivial⟩
      have ht7 : ∀ (u : Addr) (H6 : Hp), More H5 H6 → SqT K (upd H6 a (.ins C dx (putF "worths" (.ref u) [("p", .int p), ("moves", .ref t)]))) t rs := fun u H6 m6 => SqT.of (by rw [upd_ne nat.symm]; exact m6 _ _ t5)
      rcases sw5 with s | s
      · refine ⟨_, rfl, az, ws.map V.int, rfl, .inl ⟨s, fun u hu => ?_⟩⟩
        have m6 := new_more (o := .tup (ws.map V.int)) hu
        have su : SqT K (upd H5 u (.tup (ws.map V.int))) u (ws.map V.int) := SqT.of upd_same
        generalize upd H5 u (.tup (ws.map V.int)) = H6 at m6 su ⊢
        refine ⟨_, rfl, a, C, dx, _, rfl, m6 _ _ ha5, Z.ic.cl, Z.n3, by show 2 < 1000; decide, ?_⟩
        exact ⟨_, rfl, a, C, dx, _, _, rfl, upd_same, Z.ic.cl, Z.n2, rfl, t, _, rfl, .inr (ht7 u H6 m6), _, rfl, a, C, dx, _, rfl, upd_same, Z.ic.cl, Z.n4, by show 3 < 1000; decide, last u H6 m6 su⟩
      · refine ⟨_, rfl, az, ws.map V.int, rfl, .inr ⟨s, ?_⟩⟩
        refine ⟨_, rfl, a, C, dx, _, rfl, ha5, Z.ic.cl, Z.n3, by show 2 < 1000; decide, ?_⟩
        exact ⟨_, rfl, a, C, dx, _, _, rfl, upd_same, Z.ic.cl, Z.n2, rfl, t, _, rfl, .inr (ht7 az H5 (fun _ _ e => e)), _, rfl, a, C, dx, _, rfl, upd_same, Z.ic.cl, Z.n4, by show 3 < 1000; decide, last az H5 (fun _ _ e => e) s⟩
end
end K67

namespace K67
open PySem L2 Gd B5
section
variable {P : Program} {w : World} {K : PySem.W.Frag} {mg : Str → Option Value} {base : Heap}
variable {CN C fI fN fD f : Addr} {fdI fdN fdD fd : FuncData}
abbrev sME : Stmt := inClass (top 14) 1
abbrev sMA : Stmt := inClass (top 14) 2
theorem scME : FnScope ["self", "other"] ["self", "other"] (defScope sME) := ⟨rfl, rfl, rfl, by decide +kernel, rfl, by decide +kernel, by decide +kernel⟩
theorem scMA : FnScope ["self", "n", "state", "digit"] ["self", "n"] (defScope sMA) := ⟨rfl, rfl, rfl, by decide +kernel, rfl, by decide +kernel, by decide +kernel⟩
theorem ok_me (F : Fun K "__eq__" "Machine.__eq__" sME f fd) (B : Blt mg) (Z : McC K mg C) : FnOk P w K mg base CX0 1 f fd ["self", "other"] (spMEq K C) := by
  refine F.ok scME (fun vs H Q E h => ?_) (fun cdv A outer s H vs Q E hr h => ?_)
  · obtain ⟨a, y, p, dss, ws, rfl, _⟩ := h
    rfl
  · obtain ⟨a, y, p, dss, ws, rfl, ⟨dx, t, u, xs, h1, h2, h3, h4⟩, h⟩ := h
    have hu64 := hr.units
    refine ⟨_, pss_one (ps_ret (pe_and (pe_callB call_isi (by rfl) B.isi_ (by decide +kernel) (pa_cons (pv 1) (pa_cons (pe_glob (v := .ref C) rfl Z.g rfl) pa_nil)))
      (pe_and (pe_cmpR op_eq (pe_fld (pv 0) rfl) (pe_fld (pv 1) rfl) (nomark _))
      (pe_and (pe_cmpR (op_eqD hu64) (pe_fld (pv 0) rfl) (pe_fld (pv 1) rfl) (nomark _))
      (pe_one (pe_cmpR (op_eqD hu64) (pe_fld (pv 0) rfl) (pe_fld (pv 1) rfl) (nomark _))))))), ?_⟩
    obtain ⟨n, hn, ty, q⟩ | ⟨b, p2, dss2, ws2, rfl, mb, q⟩ := h
    · exact ⟨_, rfl, y, .ref C, _, _, _, rfl, .own C, ty, Z.no n hn, _, rfl, iteF q⟩
    · have ty := mb.ty Z
      obtain ⟨dx2, t2, u2, xs2, k1, k2, k3, k4⟩ := mb
      refine ⟨_, rfl, _, .ref C, _, _, _, rfl, .own C, ty, Z.ic.me, _, rfl, iteT ?_⟩
      refine ⟨_, rfl, a, C, dx, _, _, rfl, h1, Z.ic.cl, Z.n1, rfl, _, rfl, b, C, dx2, _, _, rfl, k1, Z.ic.cl, Z.n1, rfl, rfl, _, rfl, ?_⟩
      rw [deI]
      by_cases e1 : p = p2
      · rw [decide_eq_true e1]
        refine iteT ⟨_, rfl, a, C, dx, _, _, rfl, h1, Z.ic.cl, Z.n2, rfl, _, rfl, b, C, dx2, _, _, rfl, k1, Z.ic.cl, Z.n2, rfl, _, _, dp_R h2 h3, dp_R k2 k3, shaped_R _, shaped_R _, _, rfl, ?_⟩
        rw [eqv_R]
        by_cases e2 : dss = dss2
        · rw [decide_eq_true e2]
          refine iteT ⟨_, rfl, a, C, dx, _, _, rfl, h1, Z.ic.cl, Z.n3, rfl, _, rfl, b, C, dx2, _, _, rfl, k1, Z.ic.cl, Z.n3, rfl, _, _, dp_I h4, dp_I k4, shaped_I _, shaped_I _, ?_⟩
          rw [eqv_I]
          have : decide (ws = ws2) = decide (p = p2 ∧ dss = dss2 ∧ ws = ws2) := by
            rw [decide_eq_decide]
            exact ⟨fun z => ⟨e1, e2, z⟩, fun z => z.2.2⟩
          rw [this]
          exact q
        · rw [decide_eq_false e2]
          rw [decide_eq_false fun z => e2 z.2.1] at q
          exact iteF q
      · rw [decide_eq_false e1]
        rw [decide_eq_false fun z => e1 z.1] at q
        exact iteF q
theorem ok_ma (F : Fun K "at" "Machine.at" sMA f fd) (B : Blt mg) (Z : McC K mg C) (I : Cl K mg "is_integer" sIsI ["value"] fI fdI) (Dg : Cl K mg "digits" sDg ["n", "p"] fD fdD)
    (N : Er K mg "BadNumber" "BadNumber.__init__" CN fN ["what", "number"] sBadNumber fdN) (GD : FnOk P w K mg base (L2.CX P w) 4 fD fdD ["n", "p"] (spDg K CN)) : FnOk P w K mg base (L2.CX P w) 5 f fd ["self", "n"] (spMAt K C CN) := by
  have GI : FnOk P w K mg base CX0 1 fI fdI ["value"] (spIsI K) := ok_isI I.fn B.isi_ B.int_ B.bool_
  have GN : FnOk P w K mg base CX0 1 fN fdN ["self", "what", "number"] (spIni CN ["what", "number"]) := okBadNumber N.fn N.T N.no
  refine F.okX scMA (fun vs H Q E h => ?_) (fun cdv A outer s H vs Q E hr h => ?_)
  · obtain ⟨a, x, p, dss, ws, rfl, _⟩ := h
    rfl
  · obtain ⟨a, x, p, dss, ws, rfl, ma, g, h⟩ := h
    have hr1 : Room 1 _ := hr.mono (by decide)
    have hr2 : Room 2 _ := hr.mono (by decide)
    refine ⟨_, pss_cons (ps_if (PW.pt (pw_or (pt_not (pt_val (pe_call GI hr1 rfl I.g I.k I.b .nil pass0 (pa_cons (pv 1) pa_nil))))
          (pw_or1 (pt_cmpR op_lt (pv 1) pe_int (nomark _)))))
        (pss_one (ps_raise rfl (takes_of rfl rfl rfl rfl) (pmk_oex N.T N.iC N.tI GN hr2 N.b .nil pass0 rfl N.g (pa_cons pe_str (pa_cons (pv 1) pa_nil))))) pss_nil)
      (pss_cons (ps_set (i := 2) scMA.nd rfl (Or.inl rfl) pe_int)
      (pss_cons (ps_for (passes_of rfl) rfl (pi_sq (K := K) rfl (pe_call GD hr rfl Dg.g Dg.k Dg.b .nil (passes_call (takes_of rfl rfl rfl rfl) (fun _ _ _ _ h => h)) (pa_cons (pv 1) (pa_cons (pe_fld (pv 0) rfl) pa_nil)))) (pg_name (i := 3) scMA.nd rfl (Or.inl rfl))
        (pss_one (ps_set (i := 2) scMA.nd rfl (Or.inl rfl) (pe_ix ix_seq (pe_ix ix_seq (pe_fld (pv 0) rfl) (pv 2) (fun _ _ => rfl)) (pv 3) (fun _ _ => rfl)))))
      (pss_one (ps_ret (pe_ix ix_seq (pe_fld (pv 0) rfl) (pv 2) (fun _ _ => rfl)))))), ?_⟩
    obtain ⟨n, rfl, big, q⟩ | ⟨⟨i, rfl, neg⟩ | bad, q⟩ := h
    · obtain ⟨p2, p7⟩ := isPr_small g.pr
      obtain ⟨dx, t, u, xs, h1, h2, h3, h4⟩ := id ma
      refine ⟨_, rfl, _, rfl, .inl ⟨_, rfl, _, rfl, iteF ⟨_, rfl, _, _, rfl, rfl, _, rfl, ?_⟩⟩⟩
      rw [show decide ((n : Int) < 0) = false from decide_eq_false (by omega)]
      refine iteF ?_
      have ep : p = (p.toNat : Int) := by omega
      refine ⟨_, rfl, _, rfl, a, C, dx, _, _, rfl, h1, Z.ic.cl, Z.n1, rfl, _, _, rfl, .inl ⟨n, p.toNat, rfl, by rw [← ep], by rw [← ep]; exact g.pr, big, fun H1 tD m1 nD hD => ?_⟩⟩
      refine ⟨tD, _, rfl, .inr (SqT.of hD), fun J W wk hZ => ?_⟩
      have dl : xs.length = dss.length := Paired.length h3
      have digs : ∀ d ∈ dgs p.toNat n, 0 ≤ d ∧ d < p := fun d hd => by
        have := dgs_are (p := p.toNat) (by omega) n n (Nat.le_refl _) d hd
        omega
      have d0 : 0 < dss.length := List.length_pos_iff.mpr g.ne
      refine for_it wk (fun i σ' H' => ∃ z3, σ' = [some (.ref a), some (.int n), some (.int ((((dgs p.toNat n).take i).foldl (stepM dss) 0 : Nat) : Int)), z3] ∧ More H1 H') ⟨none, rfl, fun _ _ e => e⟩ (fun i σ' H' _ ⟨_, _, m⟩ => hZ H' (.of m)) ?_ ?_
      · rintro i y σ2 H2 H3 hi ⟨z3, rfl, m2⟩ ⟨rfl, hy⟩
        obtain ⟨d, hd, rfl⟩ := map_at hy
        obtain ⟨dd0, dd1⟩ := digs d (List.mem_of_getElem? hd)
        have m3 : More H H3 := fun b o e => m2 b o (m1 b o e)
        have lt := g.run ((dgs p.toNat n).take i) 0 d0 fun x hx => digs x (List.mem_of_mem_take hx)
        obtain ⟨ds, e1, e2, e3⟩ := g.step lt dd0 dd1
        obtain ⟨ds', e4, b, e5, sb⟩ : ∃ ds', dss[((dgs p.toNat n).take i).foldl (stepM dss) 0]? = some ds' ∧ TupI K H (xs.getD (((dgs p.toNat n).take i).foldl (stepM dss) 0) .non) ds' := paired_at h3 (at_getD (by omega) _)
        rw [e1] at e4
        cases e4
        refine ⟨_, rfl, a, C, dx, _, _, rfl, m3 _ _ h1, Z.ic.cl, Z.n2, rfl, _, rfl, ix_any (.inr (sqT_more m3 h2)) rfl (at_getD (by omega) .non) ?_⟩
        refine ⟨_, rfl, ?_⟩
        rw [e5]
        refine ix_any (j := d.toNat) (.inr (sqT_more m3 sb)) (by omega) (at_map e2) ⟨some (.int d), ?_, m2⟩
        rw [take_snoc hd, List.foldl_append]
        rfl
      · rintro σ2 H2 ⟨z3, rfl, m2⟩
        rw [List.length_map, List.take_length]
        have m3 : More H H2 := fun b o e => m2 b o (m1 b o e)
        have lt := g.run (dgs p.toNat n) 0 d0 digs
        exact ⟨_, rfl, a, C, dx, _, _, rfl, m3 _ _ h1, Z.ic.cl, Z.n3, rfl, _, rfl, ix_any (.inr (sqT_more m3 h4)) rfl (at_map (at_getD (by rw [g.len]; exact lt) 0)) (q _ m3)⟩
    · refine ⟨_, rfl, _, rfl, .inl ⟨i, rfl, _, rfl, iteF ⟨_, rfl, _, _, rfl, rfl, _, rfl, ?_⟩⟩⟩
      rw [show decide (i < 0) = true from decide_eq_true neg]
      exact iteT ⟨_, rfl, mk_ini rfl (by show 2 ≤ 900; decide) q⟩
    · exact ⟨_, rfl, _, rfl, .inr (.inl ⟨bad, _, rfl, iteT (iteT ⟨_, rfl, mk_ini rfl (by show 2 ≤ 900; decide) q⟩)⟩)⟩
end
end K67

/-! Ring: a function on the numbers below n, followed; the ring to which it leads. -/
namespace Ring
def it (f : Nat → Nat) : Nat → Nat → Nat
  | 0, x => x
  | k + 1, x => f (it f k x)
theorem it_in (f : Nat → Nat) : ∀ (k x : Nat), it f k (f x) = it f (k + 1) x
  | 0, _ => rfl
  | k + 1, x => by
    show f (it f k (f x)) = f (it f (k + 1) x)
    rw [it_in f k x]
theorem it_add (f : Nat → Nat) : ∀ (a b x : Nat), it f (a + b) x = it f a (it f b x)
  | 0, b, x => by rw [Nat.zero_add]; rfl
  | a + 1, b, x => by
    rw [Nat.add_right_comm]
    show f (it f (a + b) x) = f (it f a (it f b x))
    rw [it_add f a b x]
theorem it_lt {f : Nat → Nat} {n : Nat} (h : ∀ x, x < n → f x < n) : ∀ (k x : Nat), x < n → it f k x < n
  | 0, _, hx => hx
  | k + 1, x, hx => h _ (it_lt h k x hx)
theorem nodup_few : ∀ (n : Nat) (l : List Nat), l.Nodup → (∀ x ∈ l, x < n) → l.length ≤ n
  | 0, [], _, _ => Nat.le_refl _
  | 0, x :: _, _, h => absurd (h x (.head _)) (Nat.not_lt_zero _)
  | n + 1, l, nd, h => by
    have h1 := nodup_few n (l.erase n) (nd.erase n) fun x hx => by
      have hm := List.mem_of_mem_erase hx
      have := h x hm
      have : x ≠ n := fun e => by
        subst e
        exact (List.Nodup.not_mem_erase nd) hx
      omega
    by_cases m : n ∈ l
    · have := List.length_erase_of_mem m
      omega
    · rw [List.erase_of_not_mem m] at h1
      omega
/-- two turns meet -/
theorem meet {f : Nat → Nat} {n : Nat} (h : ∀ x, x < n → f x < n) {x : Nat} (hx : x < n) : ∃ i j, i < j ∧ j ≤ n ∧ it f i x = it f j x := by
  apply Classical.byContradiction
  intro no
  have nd : ((List.range (n + 1)).map fun k => it f k x).Nodup := by
    rw [List.nodup_iff_pairwise_ne, List.pairwise_map]
    refine List.Pairwise.imp_of_mem ?_ (List.pairwise_lt_range (n := n + 1))
    intro a b ha hb lt e
    exact no ⟨a, b, lt, by have := List.mem_range.mp hb; omega, e⟩
  have := nodup_few n _ nd fun y hy => by
    obtain ⟨k, _, rfl⟩ := List.mem_map.mp hy
    exact it_lt h k x hx
  rw [List.length_map, List.length_range] at this
  omega
/-- behind n turns one is on a ring of at most n -/
theorem back {f : Nat → Nat} {n : Nat} (h : ∀ x, x < n → f x < n) {x : Nat} (hx : x < n) : ∃ k, 1 ≤ k ∧ k ≤ n ∧ it f k (it f n x) = it f n x := by
  obtain ⟨i, j, lt, le, e⟩ := meet h hx
  refine ⟨j - i, by omega, by omega, ?_⟩
  have e1 : it f n x = it f (n - j) (it f j x) := by rw [← it_add]; congr 1; omega
  have e2 : it f n x = it f (n - i) (it f i x) := by rw [← it_add]; congr 1; omega
  have e3 : it f (j - i) (it f (n - j) (it f j x)) = it f (n - i) (it f j x) := by rw [← it_add]; congr 1; omega
  rw [e1, e3]
  refine Eq.trans ?_ e1
  rw [← e]
  exact e2.symm
/-- what the laps round the ring have found -/
structure Lap (f : Nat → Nat) (x j : Nat) (ring : List Nat) (at_ : Nat) : Prop where
  here : x ∈ ring
  all : ∀ y ∈ ring, ∃ i, y = it f i x
  ends : (at_ = x ∧ ∀ y ∈ ring, f y ∈ ring) ∨ (at_ = it f (j + 1) x ∧ (∀ i, 1 ≤ i → i ≤ j → it f i x ≠ x) ∧ ∀ y ∈ ring, f y ∈ ring ∨ f y = at_)
theorem Lap.start (f : Nat → Nat) (x : Nat) : Lap f x 0 [x] (f x) where
  here := .head _
  all := fun y hy => ⟨0, by simpa [it] using hy⟩
  ends := .inr ⟨rfl, fun i h1 h2 => by omega, fun y hy => by
    have e : y = x := by simpa using hy
    rw [e]
    exact .inr rfl⟩
theorem Lap.stay {f : Nat → Nat} {x j : Nat} {ring : List Nat} (l : Lap f x j ring x) : Lap f x (j + 1) ring x where
  here := l.here
  all := l.all
  ends := .inl ⟨rfl, by
    obtain ⟨_, h⟩ | ⟨e, no, h⟩ := l.ends
    · exact h
    · intro y hy
      obtain h | h := h y hy
      · exact h
      · rw [h]
        exact l.here⟩
theorem Lap.go {f : Nat → Nat} {x j a : Nat} {ring : List Nat} (l : Lap f x j ring a) (ne : a ≠ x) : Lap f x (j + 1) (ring ++ [a]) (f a) := by
  obtain ⟨e, _⟩ | ⟨e, no, h⟩ := l.ends
  · exact absurd e ne
  refine ⟨List.mem_append.mpr (.inl l.here), fun y hy => ?_, .inr ⟨by rw [e]; rfl, fun i h1 h2 => ?_, fun y hy => ?_⟩⟩
  · rcases List.mem_append.mp hy with hy | hy
    · exact l.all y hy
    · have : y = a := by simpa using hy
      exact ⟨j + 1, this.trans e⟩
  · by_cases z : i = j + 1
    · rw [z, ← e]
      exact ne
    · exact no i h1 (by omega)
  · rcases List.mem_append.mp hy with hy | hy
    · obtain h | h := h y hy
      · exact .inl (List.mem_append.mpr (.inl h))
      · exact .inl (List.mem_append.mpr (.inr (by rw [h]; exact .head _)))
    · have : y = a := by simpa using hy
      rw [this]
      exact .inr rfl
/-- the ring is found -/
theorem Lap.done {f : Nat → Nat} {x j a k : Nat} {ring : List Nat} (l : Lap f x j ring a) (k1 : 1 ≤ k) (kj : k ≤ j) (e : it f k x = x) : ∀ i, it f i x ∈ ring := by
  have cl : ∀ y ∈ ring, f y ∈ ring := by
    obtain ⟨_, h⟩ | ⟨_, no, _⟩ := l.ends
    · exact h
    · exact absurd e (no k k1 kj)
  intro i
  induction i with
  | zero => exact l.here
  | succ i ih => exact cl _ ih
/-- m is the least number of the ring to which x leads -/
def Low (f : Nat → Nat) (n x m : Nat) : Prop := (∃ i, m = it f i (it f n x)) ∧ ∀ i, m ≤ it f i (it f n x)
theorem Low.one {f : Nat → Nat} {n x m m' : Nat} (a : Low f n x m) (b : Low f n x m') : m = m' := by
  obtain ⟨⟨i, rfl⟩, h⟩ := a
  obtain ⟨⟨j, rfl⟩, h'⟩ := b
  exact Nat.le_antisymm (h j) (h' i)
theorem Low.next {f : Nat → Nat} {n x m : Nat} (h : ∀ x, x < n → f x < n) (hx : x < n) (l : Low f n x m) : Low f n (f x) m := by
  obtain ⟨⟨i, e⟩, al⟩ := l
  obtain ⟨k, k1, _, ek⟩ := back h hx
  have z : ∀ i, it f i (it f n (f x)) = it f (i + 1) (it f n x) := fun i => by
    rw [it_in, ← it_in f i (it f n x)]
    rfl
  have round : ∀ i, it f (i + k) (it f n x) = it f i (it f n x) := fun i => by rw [it_add, ek]
  refine ⟨⟨i + (k - 1), ?_⟩, fun i => ?_⟩
  · rw [z, show i + (k - 1) + 1 = i + k by omega, round]
    exact e
  · rw [z]
    exact al _
theorem Lap.low {f : Nat → Nat} {n x a : Nat} {ring : List Nat} (h : ∀ x, x < n → f x < n) (hx : x < n) (l : Lap f (it f n x) n ring a) {m : Nat} (hm : m ∈ ring) (al : ∀ y ∈ ring, m ≤ y) : Low f n x m := by
  obtain ⟨k, k1, kn, ek⟩ := back h hx
  exact ⟨l.all m hm, fun i => al _ (l.done k1 kn ek i)⟩
theorem least_of {P : Nat → Prop} : ∀ k, P k → ∃ m, P m ∧ ∀ j, P j → m ≤ j := by
  intro k
  induction k using Nat.strongRecOn with
  | ind k ih =>
    intro h
    by_cases z : ∃ j, j < k ∧ P j
    · obtain ⟨j, lt, pj⟩ := z
      exact ih j lt pj
    · exact ⟨k, h, fun j pj => Nat.le_of_not_lt fun lt => z ⟨j, lt, pj⟩⟩
theorem Low.ex (f : Nat → Nat) (n x : Nat) : ∃ m, Low f n x m := by
  obtain ⟨m, h, al⟩ := least_of (P := fun y => ∃ i, y = it f i (it f n x)) _ ⟨0, rfl⟩
  exact ⟨m, h, fun i => al _ ⟨i, rfl⟩⟩
end Ring

namespace K67
open PySem L2 Gd B5
/-- the lists of the states' rows at D -/
structure SS (H0 : Hp) (d c D : Addr) (as : List Addr) (dss : List (List Int)) (i m p : Nat) (n0 n1 : Int) (H : Hp) : Prop where
  pen : ∃ n, Pen H d c n ∧ n0 ≤ n ∧ n ≤ n1
  off : Off d H0 H
  hD : H D = some (.lst (as.map V.ref))
  nD : H0 D = none
  nd : as.Nodup
  new : ∀ a ∈ as, H0 a = none ∧ a ≠ D
  rows : ∀ (j : Nat) a, as[j]? = some a → ∃ ds, dss[j]? = some ds ∧ H a = some (.lst (ds.map V.int))
  la : as.length = i
  ld : dss.length = i
  ok : ∀ ds ∈ dss, ds.length = p ∧ ∀ x ∈ ds, 0 ≤ x ∧ x < (m : Int)
theorem SS.dne {H0 H : Hp} {d c D : Addr} {as : List Addr} {dss : List (List Int)} {i m p : Nat} {n0 n1 : Int} (s : SS H0 d c D as dss i m p n0 n1 H) : ∃ kvs, H d = some (.dK kvs) := let ⟨_, ⟨kvs, _, _, _, _, h, _⟩, _⟩ := s.pen; ⟨kvs, h⟩
/-- what leaves all but the pen's dict as it is -/
theorem SS.keep {H0 H H' : Hp} {d c D : Addr} {as : List Addr} {dss : List (List Int)} {i m p : Nat} {n0 n1 n2 : Int} (s : SS H0 d c D as dss i m p n0 n1 H) (m1 : Off d H H') (pen : ∃ n, Pen H' d c n ∧ n0 ≤ n ∧ n ≤ n2) : SS H0 d c D as dss i m p n0 n2 H' where
  pen := pen
  off := s.off.trans m1
  hD := m1 _ _ s.hD fun e => by
    obtain ⟨kvs, h⟩ := s.dne
    have := s.hD
    rw [e, h] at this
    cases this
  nD := s.nD
  nd := s.nd
  new := s.new
  rows := fun j a h => by
    obtain ⟨ds, e, g⟩ := s.rows j a h
    refine ⟨ds, e, m1 _ _ g fun z => ?_⟩
    obtain ⟨kvs, h⟩ := s.dne
    rw [z, h] at g
    cases g
  la := s.la
  ld := s.ld
  ok := s.ok
theorem SS.more {H0 H H' : Hp} {d c D : Addr} {as : List Addr} {dss : List (List Int)} {i m p : Nat} {n0 n1 : Int} (s : SS H0 d c D as dss i m p n0 n1 H) (m1 : More H H') : SS H0 d c D as dss i m p n0 n1 H' :=
  s.keep (.of m1) (let ⟨n, pn, a, b⟩ := s.pen; let ⟨o1, h1⟩ := pn.at; let ⟨o2, h2⟩ := pn.atc; ⟨n, pn.keep ((m1 _ _ h1).trans h1.symm) ((m1 _ _ h2).trans h2.symm), a, b⟩)
theorem SS.snoc {H0 H H' : Hp} {d c D L : Addr} {as : List Addr} {dss : List (List Int)} {i m p : Nat} {n0 n1 n2 : Int} {ys : List Int} (s : SS H0 d c D as dss i m p n0 n1 H) (m1 : Off d H H') (pen : ∃ n, Pen H' d c n ∧ n0 ≤ n ∧ n ≤ n2) (hc : c ≠ D) (nL : H L = none)
    (hL : H' L = some (.lst (ys.map V.int))) (l : ys.length = p) (al : ∀ x ∈ ys, 0 ≤ x ∧ x < (m : Int)) : SS H0 d c D (as ++ [L]) (dss ++ [ys]) (i + 1) m p n0 n2 (L2.upd H' D (.lst ((as ++ [L]).map V.ref))) := by
  have s' := s.keep m1 pen
  obtain ⟨n, pn, b1, b2⟩ := pen
  have dD : D ≠ d := fun e => by
    obtain ⟨kvs, h⟩ := s'.dne
    have := s'.hD
    rw [e, h] at this
    cases this
  have LD : L ≠ D := fun e => by rw [e, s.hD] at nL; cases nL
  have Lnew : L ∉ as := fun hm => by
    obtain ⟨j, hj, e⟩ := List.getElem_of_mem hm
    obtain ⟨ds, _, g⟩ := s.rows j L (by rw [List.getElem?_eq_getElem hj, e])
    rw [nL] at g
    cases g
  refine ⟨⟨n, pn.updA dD hc.symm, b1, b2⟩, s'.off.at s.nD, upd_same, s.nD, ?_, ?_, ?_, ?_, ?_, ?_⟩
  · rw [List.nodup_append]
    refine ⟨s.nd, by simp, fun a ha b hb e => ?_⟩
    have : b = L := by simpa using hb
    rw [e, this] at ha
    exact Lnew ha
  · intro a ha
    rcases List.mem_append.mp ha with ha | ha
    · exact s.new a ha
    · have : a = L := by simpa using ha
      rw [this]
      exact ⟨s.off.gone (let ⟨kvs, h⟩ := s.dne; ⟨_, h⟩) nL, LD⟩
  · intro j a h
    by_cases z : j < as.length
    · rw [List.getElem?_append_left z] at h
      obtain ⟨ds, e, g⟩ := s'.rows j a h
      refine ⟨ds, by rw [List.getElem?_append_left (by rw [s.ld, ← s.la]; exact z)]; exact e, ?_⟩
      rw [upd_ne (s.new a (List.mem_of_getElem? h)).2]
      exact g
    · have lt := (List.getElem?_eq_some_iff.mp h).1
      rw [List.length_append] at lt
      have lt : j < as.length + 1 := lt
      have ej : j = as.length := by omega
      rw [ej, List.getElem?_append_right (Nat.le_refl _), Nat.sub_self] at h
      cases h
      refine ⟨ys, ?_, ?_⟩
      · rw [ej, show as.length = dss.length by rw [s.la, s.ld], List.getElem?_append_right (Nat.le_refl _), Nat.sub_self]
        rfl
      · rw [upd_ne LD]
        exact hL
  · rw [List.length_append, s.la]; rfl
  · rw [List.length_append, s.ld]; rfl
  · intro ds hds
    rcases List.mem_append.mp hds with hds | hds
    · exact s.ok ds hds
    · have : ds = ys := by simpa using hds
      rw [this]
      exact ⟨l, al⟩
theorem SS.put {H0 H : Hp} {d c D a : Addr} {as : List Addr} {dss : List (List Int)} {i m p j : Nat} {n0 n1 : Int} {ys : List Int} (s : SS H0 d c D as dss i m p n0 n1 H) (hc : ∃ o, H0 c = some o) (ha : as[j]? = some a)
    (l : ys.length = p) (al : ∀ x ∈ ys, 0 ≤ x ∧ x < (m : Int)) : SS H0 d c D as (dss.set j ys) i m p n0 n1 (L2.upd H a (.lst (ys.map V.int))) := by
  obtain ⟨n, pn, b1, b2⟩ := s.pen
  have hm := List.mem_of_getElem? ha
  obtain ⟨na, aD⟩ := s.new a hm
  have ad : a ≠ d := fun e => by
    obtain ⟨ds, _, g⟩ := s.rows j a ha
    obtain ⟨kvs, h⟩ := s.dne
    rw [e, h] at g
    cases g
  have ac : a ≠ c := fun e => by
    obtain ⟨o, h⟩ := hc
    rw [e, h] at na
    cases na
  refine ⟨⟨n, pn.updA ad ac, b1, b2⟩, s.off.at na, by rw [upd_ne aD.symm]; exact s.hD, s.nD, s.nd, s.new, ?_, s.la, by rw [List.length_set, s.ld], ?_⟩
  · intro t b h
    by_cases e : t = j
    · subst e
      rw [ha] at h
      cases h
      refine ⟨ys, ?_, upd_same⟩
      rw [List.getElem?_set_self (by rw [s.ld, ← s.la]; exact (List.getElem?_eq_some_iff.mp ha).1)]
    · obtain ⟨ds, e1, g⟩ := s.rows t b h
      refine ⟨ds, by rw [List.getElem?_set_ne (Ne.symm e)]; exact e1, ?_⟩
      rw [upd_ne fun z => ?_]
      · exact g
      · subst z
        obtain ⟨h1, h2⟩ := List.getElem?_eq_some_iff.mp h
        obtain ⟨h3, h4⟩ := List.getElem?_eq_some_iff.mp ha
        exact e ((List.getElem_inj s.nd).mp (h2.trans h4.symm))
  · intro ds hds
    rcases List.mem_or_eq_of_mem_set hds with h | h
    · exact s.ok ds h
    · rw [h]
      exact ⟨l, al⟩
/-- the state behind a zero -/
def zf (dss : List (List Int)) (s : Nat) : Nat := ((dss.getD s []).getD 0 0).toNat
theorem SS.zero {H0 H : Hp} {d c D : Addr} {as : List Addr} {dss : List (List Int)} {i m p : Nat} {n0 n1 : Int} (s : SS H0 d c D as dss i m p n0 n1 H) (hp : 0 < p) {x : Nat} (hx : x < i) : ∃ a ds, as[x]? = some a ∧ dss[x]? = some ds ∧ H a = some (.lst (ds.map V.int)) ∧ (ds.map V.int)[0]? = some (.int (zf dss x : Nat)) ∧ zf dss x < m := by
  have ha := at_getD (l := as) (i := x) (by rw [s.la]; exact hx) 0
  obtain ⟨ds, e, g⟩ := s.rows _ _ ha
  obtain ⟨l, al⟩ := s.ok ds (List.mem_of_getElem? e)
  have e0 := at_getD (l := ds) (i := 0) (by omega) 0
  obtain ⟨r0, r1⟩ := al _ (List.mem_of_getElem? e0)
  have ez : zf dss x = (ds.getD 0 0).toNat := by
    unfold zf
    rw [getD_of e]
  refine ⟨_, ds, ha, e, g, ?_, by rw [ez]; omega⟩
  rw [ez, Int.toNat_of_nonneg r0]
  exact at_map e0
/-- the worths and the kinds of the first i states -/
structure WS (H0 : Hp) (d c w k : Addr) (n : Int) (mm : Nat) (f : Nat → Nat) (b i : Nat) (ws : List Int) (kvs : List (Key × V)) (H : Hp) : Prop where
  off : Off d H0 H
  pen : ∃ n', Pen H d c n' ∧ n ≤ n' ∧ n' ≤ n + 300 + b
  hw : H w = some (.lst (ws.map V.int))
  hk : H k = some (.dK kvs)
  nw : H0 w = none
  nk : H0 k = none
  len : ws.length = mm
  few : kvs.length ≤ b
  vals : ∀ s, s < i → ∀ lo, Ring.Low f mm s lo → valV kvs (Sum.inl (lo : Int)) = some (.int (ws.getD s 0))
  whole : ∀ q v, valV kvs q = some v → ∃ z, v = .int z
def spSt (K : PySem.W.Frag) : Sp := fun vs H Q _ => ∃ (d c : Addr) (n : Int) (p m : Nat), vs = [.ref d, .int p, .int m] ∧ Pen H d c n ∧ 0 ≤ n ∧ n < 800000000 ∧ isPr p = true ∧ 1 ≤ m ∧ m ≤ 20 ∧
  ∀ (H' : Hp) (t M W : Addr) (rs : List V) (dss : List (List Int)) (ws : List Int) (n' : Int), H' t = some (.tup [.ref M, .ref W]) → H' M = some (.tup rs) → Paired (TupI K H') rs dss → H' W = some (.tup (ws.map V.int)) →
    MGood p dss ws → stdy dss ws = true → dss.length ≤ m → Pen H' d c n' → n ≤ n' → n' ≤ n + 1000 → Off d H H' → Q (.ref t) H'
def lcSc : Expr → Scope
  | .ListComp _ _ sc _ => sc
  | _ => { kind := .function, names := [], isGenerator := false, isCoroutine := false }
def asgV : Stmt → Expr
  | .Assign _ v _ => v
  | s => .Constant .none 0 ⟨0, 0, 0, 0⟩
section
variable {P : Program} {w : World} {K : PySem.W.Frag} {mg : Str → Option Value} {base : Heap}
variable {g1 g2 f : Addr} {d1 d2 fd : FuncData}
abbrev sSt : Stmt := top 22
abbrev NSt : List Str := ["_law_pen_here", "_law_p", "_law_most", "_law_many", "_law_state_here", "_law_moves", "_law_worths", "_law_kinds", "_law_there", "_law_lap", "_law_ring", "_law_at", "_law_digit", "_law_row"]
theorem scSt : FnScope NSt ["_law_pen_here", "_law_p", "_law_most"] (defScope sSt) := ⟨rfl, rfl, rfl, by decide +kernel, rfl, by decide +kernel, by decide +kernel⟩
theorem ok_st (F : Fun K "_law_steady" "_law_steady" sSt f fd) (B : Blt mg) (zMin : mg "min" = none) (Dr : Cl K mg "_law_draw" sDraw ["_law_pen_here", "_law_many"] g1 d1) (Pi : Cl K mg "_law_pick" sPick ["_law_pen_here", "_law_some"] g2 d2) :
    FnOk P w K mg base CX0 3 f fd ["_law_pen_here", "_law_p", "_law_most"] (spSt K) := by
  have G1 : FnOk P w K mg base CX0 1 g1 d1 ["_law_pen_here", "_law_many"] spDraw := ok_draw Dr.fn B.int_ B.len_
  have G2 : FnOk P w K mg base CX0 2 g2 d2 ["_law_pen_here", "_law_some"] (spPick K) := ok_pick Pi.fn Dr.fn Dr.b Dr.g B.int_ B.len_
  refine F.ok scSt (fun vs H Q E h => ?_) (fun cdv A outer s H vs Q E hr h => ?_)
  · obtain ⟨d, c, n, p, m, rfl, _⟩ := h
    rfl
  · obtain ⟨d, c, n, p, m, rfl, pen, n0, n1, pr, m1, m9, q⟩ := h
    have hr1 : Room 1 _ := hr.mono (by decide)
    have hu := hu_of hr
    obtain ⟨p2, p7⟩ := isPr_small pr
    refine ⟨_, pss_cons (ps_set (i := 3) scSt.nd rfl (Or.inr rfl) (pe_op op_add pe_int (pe_call G1 hr1 rfl Dr.g Dr.k Dr.b .nil pass0 (pa_cons (pv 0) (pa_cons (pv 2) pa_nil)))))
      (Evl.pss_cut (ps_setLc (i := 5) (own := [("_law_state_here", 4)]) (g := gName 4) (tt := tYes) rfl scSt.nd rfl rfl (sw_true rfl rfl rfl (by decide +kernel)) (pi_range1 (by rfl) B.range_ (pa_cons (pv 3) pa_nil))
          (blkOk_by (N := NSt) (sc := defScope sSt) (by decide +kernel)) (fun _ _ _ _ _ => pg_name (i := 4) scSt.nd rfl (Or.inl rfl)) (fun _ _ _ _ _ => pts_nil)
          (fun _ _ _ _ _ => by exact (pe_lc (own := [("_law_digit", 12)]) (g := gName 12) (tt := tYes) rfl scSt.nd (pi_range1 (by rfl) B.range_ (pa_cons (pv 1) pa_nil))
            (blkOk_by (N := NSt) (sc := relabel (lcSc (asgV ((defBody sSt).getD 1 (.Pass ⟨0, 0, 0, 0⟩)))) (PyProof.Rows.envOfC "_law_steady" (defScope sSt) 0 0 .none)) (by decide +kernel))
            (fun _ _ _ _ _ => pg_name (i := 12) scSt.nd rfl (Or.inl rfl)) (fun _ _ _ _ _ => pts_nil)
            (fun _ _ _ _ _ => pe_call G1 hr1 rfl Dr.g Dr.k Dr.b .nil pass0 (pa_cons (pv 0) (pa_cons (pv 3) pa_nil))))))
      (Evl.pss_cut (ps_for PassesOwn.never rfl (pi_range1 (by rfl) B.range_ (pa_cons (pv 3) pa_nil)) (pg_name (i := 4) scSt.nd rfl (Or.inl rfl))
        (pss_one (ps_if (pt_cmpR op_eq (pe_call G1 hr1 rfl Dr.g Dr.k Dr.b .nil pass0 (pa_cons (pv 0) (pa_cons pe_int pa_nil))) pe_int (nomark _))
          (pss_one (ps_asg (pv 4) (pg_sub (pe_ix ix_list (pv 5) (pv 4) (fun _ _ => rfl)) pe_int set_list))) pss_nil)))
      (pss_cons (ps_par (i := 6) (j := 7) rfl scSt.nd rfl rfl (by decide) rfl rfl (pa_cons (pe_op op_rep (pe_lst (pa_cons pe_int pa_nil)) (pv 3)) (pa_cons pe_dnewK pa_nil)) (by rfl))
      (Evl.pss_cut (ps_for PassesOwn.never rfl (pi_range1 (by rfl) B.range_ (pa_cons (pv 3) pa_nil)) (pg_name (i := 4) scSt.nd rfl (Or.inl rfl))
        (pss_cons (ps_set (i := 8) scSt.nd rfl (Or.inl rfl) (pv 4))
        (Evl.pss_cut (ps_for PassesOwn.never rfl (pi_range1 (by rfl) B.range_ (pa_cons (pv 3) pa_nil)) (pg_name (i := 9) scSt.nd rfl (Or.inl rfl))
          (pss_one (ps_set (i := 8) scSt.nd rfl (Or.inl rfl) (pe_ix ix_list (pe_ix ix_list (pv 5) (pv 8) (fun _ _ => rfl)) pe_int (fun _ _ => rfl)))))
        (pss_cons (ps_par (i := 10) (j := 11) rfl scSt.nd rfl rfl (by decide) rfl rfl (pa_cons (pe_lst (pa_cons (pv 8) pa_nil)) (pa_cons (pe_ix ix_list (pe_ix ix_list (pv 5) (pv 8) (fun _ _ => rfl)) pe_int (fun _ _ => rfl)) pa_nil)) (by rfl))
        (Evl.pss_cut (ps_for PassesOwn.never rfl (pi_range1 (by rfl) B.range_ (pa_cons (pv 3) pa_nil)) (pg_name (i := 9) scSt.nd rfl (Or.inl rfl))
          (pss_one (ps_if (pt_cmpR op_ne (pv 11) (pv 8) (nomark _))
            (pss_one (ps_par (i := 10) (j := 11) rfl scSt.nd rfl rfl (by decide) rfl rfl (pa_cons (pe_op op_cat (pv 10) (pe_lst (pa_cons (pv 11) pa_nil))) (pa_cons (pe_ix ix_list (pe_ix ix_list (pv 5) (pv 11) (fun _ _ => rfl)) pe_int (fun _ _ => rfl)) pa_nil)) (by rfl))) pss_nil)))
        (Evl.pss_cut (ps_if (pt_cmp (pc_dnotin hu (pe_callB (cr_min rfl) (by rfl) zMin (by decide +kernel) (pa_cons (pv 10) pa_nil)) (pv 7)))
          (pss_one (ps_dput hu (pv 7) (pe_callB (cr_min rfl) (by rfl) zMin (by decide +kernel) (pa_cons (pv 10) pa_nil)) (pe_call G2 hr rfl Pi.g Pi.k Pi.b .nil pass0 (pa_cons (pv 0)
            (pa_cons (pe_lst (pa_cons pe_int (pa_cons pe_int (pa_cons pe_int (pa_cons pe_int (pa_cons (pe_un un_neg pe_int) (pa_cons (pe_op op_pow pe_int pe_int) pa_nil))))))) pa_nil))) rfl)) pss_nil)
        (pss_one (ps_asg (pe_dget hu (pv 7) (pe_callB (cr_min rfl) (by rfl) zMin (by decide +kernel) (pa_cons (pv 10) pa_nil)) (fun _ _ => rfl)) (pg_sub (pv 6) (pv 4) set_list)))))))))
      (pss_one (ps_ret (pe_tup (pa_cons (pe_callTy call_tuple_of (by rfl) B.tup_ (by decide +kernel) (pa_cons (pe_lc (own := [("_law_row", 13)]) (g := gName 13) (tt := tYes) rfl scSt.nd (pi_list (pv 5))
          (blkOk_by (N := NSt) (sc := defScope sSt) (by decide +kernel)) (fun _ _ _ _ _ => pg_name (i := 13) scSt.nd rfl (Or.inl rfl)) (fun _ _ _ _ _ => pts_nil)
          (fun _ _ _ _ _ => pe_callTy (r := rTof K) (call_tof rfl) (by rfl) B.tup_ (by decide +kernel) (pa_cons (pv 13) pa_nil))) pa_nil))
        (pa_cons (pe_callTy call_tuple_of (by rfl) B.tup_ (by decide +kernel) (pa_cons (pv 6) pa_nil)) pa_nil))))))))), ?_⟩
    refine ⟨_, rfl, _, rfl, d, c, n, m, rfl, pen, by omega, by omega, n0, by omega, fun r H1 r0 r1 dr => ?_⟩
    refine ⟨_, _, rfl, rfl, ?_⟩
    obtain ⟨mm, em, mm1, mm9⟩ : ∃ mm : Nat, 1 + r = (mm : Int) ∧ 1 ≤ mm ∧ mm ≤ m := ⟨(1 + r).toNat, by omega, by omega, by omega⟩
    show gName 3 (V.int (1 + r)) _ _ _
    rw [em]
    obtain ⟨oc', hc0⟩ := pen.atc
    have hd1 := dr.pen.at
    refine ⟨fun σ' H' => ∃ D as dss, σ' = [some (.ref d), some (.int p), some (.int m), some (.int mm), none, some (.ref D), none, none, none, none, none, none, none, none] ∧ SS H d c D as dss mm mm p n (n + 1 + 7 * mm) H', ?_, ?_⟩
    · refine ⟨_, rfl, _, rfl, by omega, by omega, fun D hD => lc_range (lo := 0) (n := mm) (fun i H' => ∃ as dss, SS H d c D as dss i mm p n (n + 1 + 7 * i) H') ⟨[], [], ?_⟩ ?_ ?_⟩
      · refine ⟨⟨_, dr.pen.upd hD, by omega, by omega⟩, (Off.dr dr).trans (.of (new_more hD)), upd_same, (Off.dr dr).gone hd1 hD, List.nodup_nil, nofun, fun j a h => ?_, rfl, rfl, nofun⟩
        rw [List.getElem?_nil] at h
        cases h
      · rintro i H2 hi ⟨as, dss, s2⟩
        have cD : c ≠ D := fun e => by rw [e, s2.nD] at hc0; cases hc0
        refine ⟨rfl, _, rfl, _, rfl, by omega, by omega, fun L hL => lc_range (lo := 0) (n := p) (fun j H' => ∃ ys : List Int, ys.length = j ∧ (∀ y ∈ ys, 0 ≤ y ∧ y < (mm : Int)) ∧ H' L = some (.lst (ys.map V.int)) ∧ (∃ n', Pen H' d c n' ∧ n ≤ n' ∧ n' ≤ n + 1 + 7 * i + j) ∧ Off d H2 H')
          ⟨[], rfl, nofun, upd_same, ?_, .of (new_more hL)⟩ ?_ ?_⟩
        · obtain ⟨n', pn, b1, b2⟩ := s2.pen
          exact ⟨n', pn.upd hL, b1, by omega⟩
        · rintro j H3 hj ⟨ys, e1, e2, e3, ⟨n', pn, b1, b2⟩, o3⟩
          refine ⟨rfl, _, rfl, _, rfl, d, c, n', mm, rfl, pn, by omega, by omega, by omega, by omega, fun r H4 r0 r1 dr4 => ?_⟩
          have Ld : L ≠ d := fun e => by
            obtain ⟨kvs, h⟩ := s2.dne
            rw [e, h] at hL
            cases hL
          have Lc : L ≠ c := fun e => by
            obtain ⟨_, pn2, _⟩ := s2.pen
            obtain ⟨o, h⟩ := pn2.atc
            rw [e, h] at hL
            cases hL
          refine ⟨_, (dr4.off L Ld).trans e3, by rw [List.length_map]; exact small1000 (by omega), ys ++ [r], by rw [List.length_append, e1]; rfl, ?_, ?_, ⟨_, dr4.pen.updA Ld Lc, by omega, by omega⟩, (o3.trans (.dr dr4)).at hL⟩
          · intro y hy
            rcases List.mem_append.mp hy with hy | hy
            · exact e2 y hy
            · have : y = r := by simpa using hy
              omega
          · rw [upd_same, List.map_append]
            rfl
        · rintro H3 ⟨ys, e1, e2, e3, ⟨n', pn, b1, b2⟩, o3⟩
          have s3 := s2.snoc (n2 := n + 1 + 7 * ((i + 1 : Nat) : Int)) o3 ⟨n', pn, b1, by omega⟩ cD hL e3 e1 e2
          refine ⟨_, (s2.keep o3 ⟨n', pn, b1, b2⟩).hD, by rw [List.length_map, s2.la]; exact small1000 (by omega), as ++ [L], dss ++ [ys], ?_⟩
          rw [List.map_append] at s3
          exact s3
      · rintro H2 ⟨as, dss, s2⟩
        exact ⟨D, as, dss, rfl, s2⟩
    clear hd1 dr
    rintro σ1 H2 ⟨D, as, dss0, rfl, s2⟩
    -- zeros that lead back
    refine ⟨fun σ' H' => ∃ dss z4, σ' = [some (.ref d), some (.int p), some (.int m), some (.int mm), z4, some (.ref D), none, none, none, none, none, none, none, none] ∧ SS H d c D as dss mm mm p n (n + 1 + 7 * mm + mm) H', ?_, ?_⟩
    · refine ⟨_, rfl, _, rfl, by omega, by omega, for_range (lo := 0) (n := mm) (fun i σ' H' => ∃ dss z4, σ' = [some (.ref d), some (.int p), some (.int m), some (.int mm), z4, some (.ref D), none, none, none, none, none, none, none, none] ∧ SS H d c D as dss mm mm p n (n + 1 + 7 * mm + i) H')
        ⟨dss0, none, rfl, s2.keep .refl (let ⟨n', a, b, e⟩ := s2.pen; ⟨n', a, b, by omega⟩)⟩ ?_ (fun σ' H' h => h)⟩
      rintro i σ2 H3 hi ⟨dss, z4, rfl, s3⟩
      rw [Int.zero_add]
      obtain ⟨n', pn, b1, b2⟩ := s3.pen
      refine ⟨_, rfl, d, c, n', 2, rfl, pn, by decide, by decide, by omega, by omega, fun r H4 r0 r1 dr4 => ?_⟩
      have s4 := s3.keep (n2 := n + 1 + 7 * mm + ((i + 1 : Nat) : Int)) (.dr dr4) ⟨_, dr4.pen, by omega, by omega⟩
      refine ⟨rfl, _, rfl, ite2 (fun _ => ?_) (fun _ => ⟨dss, _, rfl, s4⟩)⟩
      obtain ⟨a, ds, ha, hds, hHa, h0, _⟩ := s4.zero (by omega) hi
      obtain ⟨l, al⟩ := s4.ok ds (List.mem_of_getElem? hds)
      have s5 := s4.put (ys := ds.set 0 (i : Int)) ⟨_, hc0⟩ ha (by rw [List.length_set, l]) (fun x hx => by
        rcases List.mem_or_eq_of_mem_set hx with hx | hx
        · exact al x hx
        · omega)
      rw [List.map_set] at s5
      exact ⟨_, rfl, _, rfl, _, rfl, D, _, _, _, rfl, rfl, SqL.of s4.hD, atI_nat (at_map ha), a, _, 0, 0, rfl, rfl, hHa, (show L2.ixN _ ((0 : Nat) : Int) = some 0 from Evl.ixN_nat (by rw [List.length_map]; omega)), _, _, rfl, s5⟩
    clear s2
    rintro σ2 H3 ⟨dss, z4, rfl, s3⟩
    -- the worths
    refine ⟨by show 1 ≤ sizeLine; decide, fun o1 ho1 => ?_⟩
    have m31 := new_more (o := .lst [V.int 0]) ho1
    refine ⟨_, rfl, o1, _, _, rfl, rfl, upd_same, by omega, by omega, ?_, fun w1 hw1 => ?_⟩
    · rw [sizeLine_eq, Int.toNat_natCast, List.length_singleton]
      omega
    have m32 : More H3 (upd (upd H3 o1 (.lst [V.int 0])) w1 (.lst (List.replicate (mm : Int).toNat [V.int 0]).flatten)) := fun b o e => new_more hw1 _ _ (m31 _ _ e)
    have hW : (upd (upd H3 o1 (.lst [V.int 0])) w1 (.lst (List.replicate (mm : Int).toNat [V.int 0]).flatten)) w1 = some (.lst ((List.replicate mm (0 : Int)).map V.int)) := by
      rw [upd_same, Int.toNat_natCast]
      rw [List.flatten_replicate_singleton, List.map_replicate]
    have nw1 : H3 w1 = none := m31.off hw1
    generalize upd (upd H3 o1 (.lst [V.int 0])) w1 (.lst (List.replicate (mm : Int).toNat [V.int 0]).flatten) = H4 at m32 hW ⊢
    intro k1 hk1
    refine ⟨_, _, rfl, ?_⟩
    have nk1 : H3 k1 = none := m32.off hk1
    have hW5 := new_more (o := .dK []) hk1 _ _ hW
    have hk5 : (upd H4 k1 (.dK [])) k1 = some (.dK []) := upd_same
    have o35 : Off d H3 (upd H4 k1 (.dK [])) := .of fun b o e => new_more hk1 _ _ (m32 _ _ e)
    have pen5 : ∃ n', Pen (upd H4 k1 (.dK [])) d c n' ∧ n ≤ n' ∧ n' ≤ n + 300 := by
      obtain ⟨n', pn, b1, b2⟩ := (s3.more fun b o e => new_more hk1 _ _ (m32 _ _ e)).pen
      exact ⟨n', pn, b1, by omega⟩
    have wk : w1 ≠ k1 := ne_of_none hW hk1
    generalize upd H4 k1 (.dK []) = H5 at hW5 hk5 o35 pen5 ⊢
    clear hW m32 m31
    -- states' worths
    have fl : ∀ x, x < mm → zf dss x < mm := fun x hx => let ⟨_, _, _, _, _, _, z⟩ := s3.zero (by omega) hx; z
    refine ⟨fun σ' H' => ∃ ws kvs z4 z8 z9 z10 z11, σ' = [some (.ref d), some (.int p), some (.int m), some (.int mm), z4, some (.ref D), some (.ref w1), some (.ref k1), z8, z9, z10, z11, none, none] ∧ WS H3 d c w1 k1 n mm (zf dss) mm mm ws kvs H', ?_, ?_⟩
    · refine ⟨_, rfl, _, rfl, by omega, by omega, for_range (lo := 0) (n := mm) (fun i σ' H' => ∃ ws kvs z4 z8 z9 z10 z11, σ' = [some (.ref d), some (.int p), some (.int m), some (.int mm), z4, some (.ref D), some (.ref w1), some (.ref k1), z8, z9, z10, z11, none, none] ∧ WS H3 d c w1 k1 n mm (zf dss) i i ws kvs H')
        ⟨_, _, _, _, _, _, _, rfl, ⟨o35, let ⟨n', a, b, e⟩ := pen5; ⟨n', a, b, by omega⟩, hW5, hk5, nw1, nk1, by rw [List.length_replicate], Nat.zero_le _, fun s hs => absurd hs (Nat.not_lt_zero _), fun q v h => by cases h⟩⟩ ?_ (fun σ' H' h => h)⟩
      rintro i σ3 H6 hi ⟨ws, kvs, z4, z8, z9, z10, z11, rfl, s6⟩
      rw [Int.zero_add]
      have s36 := s3.keep s6.off (n2 := n + 300 + i) s6.pen
      refine ⟨_, rfl, fun σ' H' => ∃ z9, σ' = [some (.ref d), some (.int p), some (.int m), some (.int mm), some (.int i), some (.ref D), some (.ref w1), some (.ref k1), some (.int (Ring.it (zf dss) mm i : Nat)), z9, z10, z11, none, none] ∧ H' = H6, ?_, ?_⟩
      · refine ⟨_, rfl, _, rfl, by omega, by omega, for_range (lo := 0) (n := mm) (fun j σ' H' => ∃ z9, σ' = [some (.ref d), some (.int p), some (.int m), some (.int mm), some (.int i), some (.ref D), some (.ref w1), some (.ref k1), some (.int (Ring.it (zf dss) j i : Nat)), z9, z10, z11, none, none] ∧ H' = H6) ⟨_, rfl, rfl⟩ ?_ (fun σ' H' h => h)⟩
        rintro j σ4 H7 hj ⟨z9, rfl, rfl⟩
        obtain ⟨a, ds, ha, hds, hHa, h0, lt⟩ := s36.zero (by omega) (Ring.it_lt fl j i hi)
        exact ⟨_, rfl, _, rfl, D, _, _, _, rfl, rfl, SqL.of s36.hD, atI_nat (at_map ha), a, _, 0, _, rfl, rfl, SqL.of hHa, atI_nat (j := 0) h0, _, rfl, rfl⟩
      rintro σ4 H7 ⟨z9, rfl, rfl⟩
      have x0 := Ring.it_lt fl mm i hi
      refine ⟨_, rfl, by show 1 ≤ sizeLine; decide, fun ρ hρ => ?_⟩
      have m7 := new_more (o := .lst [V.int (Ring.it (zf dss) mm i : Nat)]) hρ
      have hρ8 : (upd H7 ρ (.lst [V.int (Ring.it (zf dss) mm i : Nat)])) ρ = some (.lst ([Ring.it (zf dss) mm i].map fun y : Nat => V.int y)) := upd_same
      generalize upd H7 ρ (.lst [V.int (Ring.it (zf dss) mm i : Nat)]) = H8 at m7 hρ8 ⊢
      obtain ⟨a, ds, ha, hds, hHa, h0, lt⟩ := (s36.more m7).zero (by omega) x0
      refine ⟨_, rfl, _, rfl, D, _, _, _, rfl, rfl, SqL.of (s36.more m7).hD, atI_nat (at_map ha), a, _, 0, _, rfl, rfl, SqL.of hHa, atI_nat (j := 0) h0, _, _, rfl, ?_⟩
      clear ha hds hHa h0
      -- round the ring
      refine ⟨fun σ' H' => ∃ ring a z9 ρ, σ' = [some (.ref d), some (.int p), some (.int m), some (.int mm), some (.int i), some (.ref D), some (.ref w1), some (.ref k1), some (.int (Ring.it (zf dss) mm i : Nat)), z9, some (.ref ρ), some (.int (a : Nat)), none, none] ∧ Ring.Lap (zf dss) (Ring.it (zf dss) mm i) mm ring a ∧ H' ρ = some (.lst (ring.map fun y : Nat => V.int y)) ∧ ring.length ≤ mm + 1 ∧ More H7 H', ?_, ?_⟩
      · refine ⟨_, rfl, _, rfl, by omega, by omega, for_range (lo := 0) (n := mm) (fun j σ' H' => ∃ ring a z9 ρ, σ' = [some (.ref d), some (.int p), some (.int m), some (.int mm), some (.int i), some (.ref D), some (.ref w1), some (.ref k1), some (.int (Ring.it (zf dss) mm i : Nat)), z9, some (.ref ρ), some (.int (a : Nat)), none, none] ∧ Ring.Lap (zf dss) (Ring.it (zf dss) mm i) j ring a ∧ H' ρ = some (.lst (ring.map fun y : Nat => V.int y)) ∧ ring.length ≤ j + 1 ∧ a < mm ∧ More H7 H')
          ⟨_, _, _, _, rfl, Ring.Lap.start _ _, hρ8, Nat.le_refl _, lt, m7⟩ ?_ (fun σ' H' ⟨ring, a, z9, ρ, h1, h2, h3, h4, _, h5⟩ => ⟨ring, a, z9, ρ, h1, h2, h3, h4, h5⟩)⟩
        rintro j σ5 H9 hj ⟨ring, a, z9, ρ, rfl, lap, hρ9, rl, alt, m9⟩
        refine ⟨_, rfl, _, rfl, rfl, _, rfl, ?_⟩
        rw [deI]
        by_cases e : a = Ring.it (zf dss) mm i
        · rw [decide_eq_true (by rw [e])]
          subst e
          exact iteF ⟨ring, _, _, ρ, rfl, lap.stay, hρ9, by omega, alt, m9⟩
        · rw [decide_eq_false (by omega)]
          refine iteT ⟨_, rfl, _, rfl, by show 1 ≤ sizeLine; decide, fun q1 hq1 => ?_⟩
          have m10 := new_more (o := .lst [V.int (a : Nat)]) hq1
          refine ⟨ρ, q1, _, _, rfl, rfl, m10 _ _ hρ9, upd_same, by rw [List.length_map, sizeLine_eq]; show ring.length + 1 ≤ _; omega, fun ρ2 hρ2 => ?_⟩
          have m11 := new_more (o := .lst ((ring.map fun y : Nat => V.int y) ++ [V.int (a : Nat)])) hρ2
          have m12 : More H7 (upd (upd H9 q1 (.lst [V.int (a : Nat)])) ρ2 (.lst ((ring.map fun y : Nat => V.int y) ++ [V.int (a : Nat)]))) := fun b o e => m11 _ _ (m10 _ _ (m9 _ _ e))
          have h12 : (upd (upd H9 q1 (.lst [V.int (a : Nat)])) ρ2 (.lst ((ring.map fun y : Nat => V.int y) ++ [V.int (a : Nat)]))) ρ2 = some (.lst ((ring ++ [a]).map fun y : Nat => V.int y)) := by
            rw [upd_same, List.map_append]
            rfl
          generalize upd (upd H9 q1 (.lst [V.int (a : Nat)])) ρ2 (.lst ((ring.map fun y : Nat => V.int y) ++ [V.int (a : Nat)])) = H12 at m12 h12 ⊢
          obtain ⟨b, ds, hb, hds, hHb, h0, lt⟩ := (s36.more m12).zero (by omega) alt
          exact ⟨_, rfl, _, rfl, D, _, _, _, rfl, rfl, SqL.of (s36.more m12).hD, atI_nat (at_map hb), b, _, 0, _, rfl, rfl, SqL.of hHb, atI_nat (j := 0) h0, _, _, rfl, ring ++ [a], _, _, ρ2, rfl, lap.go e, h12, by rw [List.length_append]; show ring.length + 1 ≤ _; omega, lt, m12⟩
      rintro σ5 H9 ⟨ring, a9, z9, ρ, rfl, lap, hρ9, rl, m9⟩
      -- the least one
      have ring0 : 0 < (ring.map fun y : Nat => (y : Int)).length := by
        rw [List.length_map]
        exact List.length_pos_of_mem lap.here
      have least : ∀ mn : Int, mn ∈ (ring.map fun y : Nat => (y : Int)) → (∀ y, y ∈ (ring.map fun y : Nat => (y : Int)) → mn ≤ y) → ∃ lo : Nat, mn = lo ∧ Ring.Low (zf dss) mm i lo := by
        intro mn hm al
        obtain ⟨lo, hlo, rfl⟩ := List.mem_map.mp hm
        refine ⟨lo, rfl, lap.low fl hi hlo fun y hy => ?_⟩
        have := al _ (List.mem_map.mpr ⟨y, hy, rfl⟩)
        omega
      have sqρ : ∀ {H' : Hp}, H' ρ = some (.lst (ring.map fun y : Nat => V.int y)) → SqL K H' ρ ((ring.map fun y : Nat => (y : Int)).map V.int) := fun {H'} h => SqL.of (by rw [List.map_map]; exact h)
      have s9 : WS H3 d c w1 k1 n mm (zf dss) i i ws kvs H9 := ⟨s6.off.trans (.of m9), let ⟨n', pn, b1, b2⟩ := s6.pen; let ⟨o1, h1⟩ := pn.at; let ⟨o2, h2⟩ := pn.atc; ⟨n', pn.keep ((m9 _ _ h1).trans h1.symm) ((m9 _ _ h2).trans h2.symm), b1, b2⟩, m9 _ _ s6.hw, m9 _ _ s6.hk, s6.nw, s6.nk, s6.len, s6.few, s6.vals, s6.whole⟩
      have ρd : ρ ≠ d := fun e => by
        obtain ⟨_, pn, _⟩ := s9.pen
        obtain ⟨o, h⟩ := pn.at
        obtain ⟨kvs', _, _, _, _, h, _⟩ := pn
        rw [e, h] at hρ9
        cases hρ9
      have ρk : ρ ≠ k1 := ne_of hρ9 s9.hk (by intro z; cases z)
      have kd : k1 ≠ d := fun e => by
        obtain ⟨_, pn, _⟩ := s3.pen
        obtain ⟨o, h⟩ := pn.at
        rw [← e, nk1] at h
        cases h
      have wd : w1 ≠ d := fun e => by
        obtain ⟨_, pn, _⟩ := s3.pen
        obtain ⟨o, h⟩ := pn.at
        rw [← e, nw1] at h
        cases h
      have kc : k1 ≠ c := fun e => by
        obtain ⟨_, pn, _⟩ := s3.pen
        obtain ⟨o, h⟩ := pn.atc
        rw [← e, nk1] at h
        cases h
      have wc : w1 ≠ c := fun e => by
        obtain ⟨_, pn, _⟩ := s3.pen
        obtain ⟨o, h⟩ := pn.atc
        rw [← e, nw1] at h
        cases h
      refine ⟨fun σ' H' => ∃ kvs', σ' = [some (.ref d), some (.int p), some (.int m), some (.int mm), some (.int i), some (.ref D), some (.ref w1), some (.ref k1), some (.int (Ring.it (zf dss) mm i : Nat)), z9, some (.ref ρ), some (.int (a9 : Nat)), none, none] ∧ H' ρ = some (.lst (ring.map fun y : Nat => V.int y)) ∧ WS H3 d c w1 k1 n mm (zf dss) (i + 1) i ws kvs' H' ∧ ∀ lo, Ring.Low (zf dss) mm i lo → ∃ z, valV kvs' (Sum.inl (lo : Int)) = some (.int z), ?_, ?_⟩
      · refine ⟨_, rfl, ρ, _, rfl, sqρ hρ9, ring0, fun mn hm al => ⟨_, rfl, k1, _, rfl, DGet.k (k := Sum.inl mn) s9.hk, _, rfl, ?_⟩⟩
        obtain ⟨lo, rfl, low⟩ := least mn hm al
        cases ev : valV kvs (Sum.inl (lo : Int)) with
        | some v =>
          obtain ⟨z, rfl⟩ := s9.whole _ _ ev
          refine iteF ⟨kvs, rfl, hρ9, ⟨s9.off, let ⟨n', a, b, e⟩ := s9.pen; ⟨n', a, b, by omega⟩, s9.hw, s9.hk, s9.nw, s9.nk, s9.len, Nat.le_succ_of_le s9.few, s9.vals, s9.whole⟩, fun lo' l' => ?_⟩
          rw [l'.one low]
          exact ⟨z, ev⟩
        | none =>
          obtain ⟨n', pn, b1, b2⟩ := s9.pen
          refine iteT ⟨_, rfl, _, rfl, _, _, rfl, rfl, ⟨by decide, by decide, by decide⟩, by show 6 ≤ sizeLine; decide, fun L hL => ?_⟩
          refine ⟨d, c, L, n', _, rfl, pn.upd hL, upd_same, by show 0 < 6; decide, by show 6 ≤ 1000; decide, by omega, by omega, fun x H10 hx dr => ?_⟩
          obtain ⟨z, rfl⟩ : ∃ z, x = .int z := by
            rcases List.mem_cons.mp hx with rfl | hx
            · exact ⟨_, rfl⟩
            rcases List.mem_cons.mp hx with rfl | hx
            · exact ⟨_, rfl⟩
            rcases List.mem_cons.mp hx with rfl | hx
            · exact ⟨_, rfl⟩
            rcases List.mem_cons.mp hx with rfl | hx
            · exact ⟨_, rfl⟩
            rcases List.mem_cons.mp hx with rfl | hx
            · exact ⟨_, rfl⟩
            rcases List.mem_cons.mp hx with rfl | hx
            · exact ⟨_, rfl⟩
            · exact (List.not_mem_nil hx).elim
          have o10 : Off d H9 H10 := (Off.of (new_more hL)).trans (.dr dr)
          have hρ10 := o10 _ _ hρ9 ρd
          have hk10 := o10 _ _ s9.hk kd
          refine ⟨_, rfl, _, rfl, ρ, _, rfl, sqρ hρ10, ring0, fun mn2 hm2 al2 => ⟨k1, _, rfl, DPut.k (k := Sum.inl mn2) hk10 (small1000 (by have := s9.few; omega)), ?_⟩⟩
          obtain ⟨lo2, rfl, low2⟩ := least mn2 hm2 al2
          have : lo2 = lo := low2.one low
          subst this
          refine ⟨_, rfl, by rw [upd_ne ρk]; exact hρ10, ⟨(s9.off.trans o10).at nk1, ⟨_, dr.pen.updA kd kc, by omega, by omega⟩, by rw [upd_ne wk]; exact o10 _ _ s9.hw wd, upd_same, nw1, nk1, s9.len, ?_, ?_, ?_⟩, fun lo' l' => ?_⟩
          · have := putK_le kvs (Sum.inl (lo2 : Int)) (V.int z)
            have := s9.few
            omega
          · intro s hs lo' l'
            have v := s9.vals s hs lo' l'
            rw [valV_put, if_neg fun e => ?_]
            · exact v
            · rw [e, ev] at v
              cases v
          · intro q v hv
            rw [valV_put] at hv
            by_cases e : q = Sum.inl (lo2 : Int)
            · rw [if_pos e] at hv
              cases hv
              exact ⟨_, rfl⟩
            · rw [if_neg e] at hv
              exact s9.whole _ _ hv
          · rw [l'.one low2]
            exact ⟨z, by rw [valV_put, if_pos rfl]⟩
      rintro σ6 H10 ⟨kvs', rfl, hρ10, s10, has⟩
      refine ⟨_, rfl, _, rfl, ρ, _, rfl, sqρ hρ10, ring0, fun mn hm al => ?_⟩
      obtain ⟨lo, rfl, low⟩ := least mn hm al
      obtain ⟨z, hz⟩ := has lo low
      refine ⟨k1, .int z, rfl, dg (Sum.inl (lo : Int)) s10.hk hz, _, rfl, _, rfl, w1, _, i, i, rfl, rfl, s10.hw, Evl.ixN_nat (by rw [List.length_map, s10.len]; exact hi), ?_⟩
      obtain ⟨n', pn, b1, b2⟩ := s10.pen
      refine ⟨ws.set i z, kvs', _, _, _, _, _, rfl, ⟨s10.off.at nw1, ⟨n', pn.updA wd wc, b1, b2⟩, ?_, by rw [upd_ne wk.symm]; exact s10.hk, nw1, nk1, by rw [List.length_set]; exact s10.len, s10.few, ?_, s10.whole⟩⟩
      · rw [upd_same, List.map_set]
      · intro s hs lo' l'
        by_cases e : s = i
        · subst e
          rw [l'.one low, hz, getD_of (List.getElem?_set_self (by rw [s10.len]; exact hi))]
        · rw [s10.vals s (by omega) lo' l', List.getD_eq_getElem?_getD, List.getD_eq_getElem?_getD, List.getElem?_set_ne (Ne.symm e)]
    rintro σ3 H6 ⟨ws, kvs, z4, z8, z9, z10, z11, rfl, s6⟩
    have s36 := s3.keep s6.off (n2 := n + 300 + mm) s6.pen
    have steady : stdy dss ws = true := by
      unfold stdy
      rw [List.all_eq_true]
      intro b hb
      obtain ⟨x, hx⟩ := List.getElem?_of_mem hb
      rw [List.getElem?_zipWith] at hx
      cases e1 : dss[x]? with
      | none => rw [e1] at hx; cases hx
      | some ds =>
        cases e2 : ws[x]? with
        | none => rw [e1, e2] at hx; cases hx
        | some w0 =>
          rw [e1, e2] at hx
          cases hx
          have lx : x < mm := by
            have := (List.getElem?_eq_some_iff.mp e2).1
            rw [s6.len] at this
            exact this
          obtain ⟨lo, low⟩ := Ring.Low.ex (zf dss) mm x
          have v1 := s6.vals x lx lo low
          have v2 := s6.vals (zf dss x) (fl x lx) lo (low.next fl lx)
          rw [v1] at v2
          have e3 := V.int.inj (Option.some.inj v2)
          rw [getD_of e2] at e3
          refine decide_eq_true ?_
          rw [e3]
          congr 1
          unfold zf
          rw [getD_of e1]
    have good : MGood p dss ws := ⟨pr, fun e => by have := s3.ld; rw [e, List.length_nil] at this; omega, fun ds hds => by
      obtain ⟨l, al⟩ := s3.ok ds hds
      exact ⟨by rw [l], fun x hx => by rw [s3.ld]; exact al x hx⟩, by rw [s6.len, s3.ld], by rw [s3.ld]; omega⟩
    have d6 : ∃ o, H6 d = some o := let ⟨_, pn, _⟩ := s6.pen; pn.at
    refine ⟨_, rfl, D, rfl, ⟨_, SqL.of s36.hD⟩, fun D2 hD2 => lc_rel (n := 13) (D := D2) (H1 := H6) (walk_list (xs := as.map V.ref)) (fun i v H' => ∃ ds, dss[i]? = some ds ∧ TupI K H' v ds) (fun i v H' H'' m ⟨ds, e, t⟩ => ⟨ds, e, t.more m⟩) hD2
      (fun H' m => Same.seq m (SqL.of s36.hD)) (by rw [List.length_map, s3.la]; omega) (fun _ => rfl) ?_ ?_⟩
    · intro i y H7 Q7 hy m7 m7' ⟨l0, hl0⟩ q7
      obtain ⟨a, ha, rfl⟩ := map_at hy
      obtain ⟨ds, hds, g⟩ := s36.rows i a ha
      refine ⟨_, rfl, a, ds.map V.int, rfl, .inl ⟨SqL.of (m7 _ _ g), fun l hl => q7 _ _ (new_more hl) ⟨ds, hds, l, rfl, SqT.of ?_⟩⟩⟩
      rw [del_ne (ne_of_none hl0 hl).symm, upd_same]
    · intro H7 G rs rl mG mH nG al hD7
      refine ⟨D2, rs, rfl, .inl ⟨SqL.of hD7, fun t1 ht1 => ?_⟩⟩
      have m8 : More H6 (upd H7 t1 (.tup rs)) := fun b o e => new_more ht1 _ _ (mH _ _ (mG _ _ e))
      refine ⟨_, rfl, w1, ws.map V.int, rfl, .inl ⟨SqL.of (m8 _ _ s6.hw), fun t2 ht2 => ⟨by show 2 ≤ sizeLine; decide, fun t ht => ?_⟩⟩⟩
      have m9 := new_more (o := .tup (ws.map V.int)) ht2
      have m10 := new_more (o := .tup [.ref t1, .ref t2]) ht
      have m11 : More H6 (upd (upd (upd H7 t1 (.tup rs)) t2 (.tup (ws.map V.int))) t (.tup [.ref t1, .ref t2])) := fun b o e => m10 _ _ (m9 _ _ (m8 _ _ e))
      obtain ⟨n', pn, b1, b2⟩ := s6.pen
      obtain ⟨o1, h1⟩ := pn.at
      obtain ⟨o2, h2⟩ := pn.atc
      refine q _ t t1 t2 rs dss ws n' upd_same (m10 _ _ (m9 _ _ upd_same)) (paired_of (by rw [rl, List.length_map, s3.la, s3.ld]) fun i x y hx hy => ?_) (m10 _ _ upd_same) good steady (by rw [s3.ld]; exact mm9)
        (pn.keep ((m11 _ _ h1).trans h1.symm) ((m11 _ _ h2).trans h2.symm)) b1 (by omega) ((s3.off.trans s6.off).trans (.of m11))
      obtain ⟨ds, e, ti⟩ := al i x hx
      rw [hy] at e
      cases e
      exact ti.more fun b o e => m10 _ _ (m9 _ _ (new_more ht1 _ _ (mH _ _ e)))
end
end K67

namespace K67
open PySem L2 Gd B5
section
variable {P : Program} {w : World} {K : PySem.W.Frag} {mg : Str → Option Value} {base : Heap}
variable {f : Addr} {fd : FuncData}
abbrev sLd : Stmt := top 21
theorem scLd : FnScope ["_law_n", "_law_p", "_law_found", "_law_lap"] ["_law_n", "_law_p"] (defScope sLd) := ⟨rfl, rfl, rfl, by decide +kernel, rfl, by decide +kernel, by decide +kernel⟩
theorem ok_ld (F : Fun K "_law_digits" "_law_digits" sLd f fd) (B : Blt mg) : FnOk P w K mg base CX0 1 f fd ["_law_n", "_law_p"] spLd := by
  refine F.ok scLd (fun vs H Q E h => ?_) (fun cdv A outer s H vs Q E hr h => ?_)
  · obtain ⟨n, p, rfl, _⟩ := h
    rfl
  · obtain ⟨n, p, rfl, pr, big, q⟩ := h
    obtain ⟨p2, p7⟩ := isPr_small pr
    refine ⟨_, pss_cons (ps_set (i := 2) scLd.nd rfl (Or.inl rfl) (pe_lst pa_nil))
      (pss_cons (ps_for PassesOwn.never rfl (pi_range1 rfl B.range_ (pa_cons pe_int pa_nil)) (pg_name (i := 3) scLd.nd rfl (Or.inl rfl))
        (pss_cons (ps_if (pt_cmpR op_eq (pv 0) pe_int (nomark _)) (pss_one ps_break) pss_nil)
        (pss_cons (ps_expr (pe_bm PySem.F.plainAttrs_list PySem.F.slot_list_append PySem.F.type_list_append mt_append (pv 2)
            (pa_cons (pe_op op_mod (pe_callTy call_int1 (by rfl) B.int_ (by decide +kernel) (pa_cons (pv 0) pa_nil)) (pv 1)) pa_nil)))
        (pss_one (ps_set (i := 0) scLd.nd rfl (Or.inl rfl) (pe_op op_fdiv (pv 0) (pv 1)))))))
      (pss_one (ps_ret (pv 2)))), ?_⟩
    refine ⟨(by show 0 ≤ sizeLine; exact Nat.zero_le _), fun l hl => ?_⟩
    have stop : ∀ (m : Nat) (acc : List Int) (z : Option V) (H2 : Hp), m = 0 → H2 l = some (.lst (acc.map V.int)) → More H H2 → acc ++ dgs p m = dgs p n → Q (.ref l) H2 := by
      intro m acc z H2 m0 hl2 mo eq
      rw [m0, dgs_zero, List.append_nil] at eq
      rw [eq] at hl2
      exact q _ l mo hl hl2
    refine ⟨400, rfl, by decide, by decide, for_range (lo := 0) (n := 400) (fun i σ H2 => ∃ (m : Nat) (acc : List Int) (z : Option V), σ = [some (.int m), some (.int p), some (.ref l), z] ∧ H2 l = some (.lst (acc.map V.int)) ∧
          More H H2 ∧ acc ++ dgs p m = dgs p n ∧ m < 2 ^ (400 - i)) ⟨n, [], none, rfl, upd_same, More.new (fun _ _ e => e) hl, rfl, big⟩ ?_ ?_⟩
    · rintro i σ H2 hi ⟨m, acc, z, rfl, hl2, mo, eq, lim⟩
      refine ⟨_, rfl, rfl, _, rfl, ite2 (fun hm => ?_) (fun hm => ?_)⟩
      · have m0 : (V.int m) = V.int 0 := of_decide_eq_true hm
        have m0 : m = 0 := by
          have := V.int.inj m0
          omega
        exact ⟨_, rfl, stop m acc none H2 m0 hl2 mo eq⟩
      · have m0 : 0 < m := by
          rcases Nat.eq_zero_or_pos m with z | z
          · subst z
            exact (hm (decide_eq_true rfl)).elim
          · exact z
        have short : acc.length < sizeLine := by
          have e := congrArg List.length eq
          rw [List.length_append] at e
          have := dgs_len (show 2 ≤ p by omega) 400 n big
          exact small1000 (by omega)
        refine ⟨_, rfl, .inl ⟨rfl, _, SqL.of hl2⟩, _, rfl, .inl ⟨_, rfl, _, rfl, _, _, rfl, rfl, (by show (0 : Int) < p; omega), l, _, _, rfl, rfl, hl2, by rw [List.length_map]; exact short, ?_⟩⟩
        refine ⟨_, rfl, _, rfl, _, _, rfl, rfl, ⟨by omega, by omega⟩, ?_⟩
        refine ⟨m / p, acc ++ [((m % p : Nat) : Int)], _, rfl, ?_, ?_, ?_, ?_⟩
        · rw [upd_same, List.map_append]
          rfl
        · exact More.at mo hl
        · rw [List.append_assoc, List.singleton_append, ← dgs_pos m0 (by omega)]
          exact eq
        · have e : 400 - i = (400 - (i + 1)) + 1 := by omega
          rw [e, Nat.pow_succ] at lim
          refine Nat.lt_of_le_of_lt (Nat.div_le_div_left (show 2 ≤ p by omega) (by decide)) ?_
          omega
    · rintro σ H2 ⟨m, acc, z, rfl, hl2, mo, eq, lim⟩
      exact ⟨_, rfl, stop m acc none H2 (by simpa using lim) hl2 mo eq⟩
end
end K67

namespace K67
open PySem L2 Gd B5
section
variable {P : Program} {w : World} {K : PySem.W.Frag} {mg : Str → Option Value} {base : Heap}
variable {C f : Addr} {fd : FuncData}
abbrev sLs : Stmt := top 23
theorem scLs : FnScope ["_law_moves", "_law_word", "_law_state_here", "_law_digit"] ["_law_moves", "_law_word"] (defScope sLs) := ⟨rfl, rfl, rfl, by decide +kernel, rfl, by decide +kernel, by decide +kernel⟩
theorem ok_ls (F : Fun K "_law_state" "_law_state" sLs f fd) : FnOk P w K mg base CX0 1 f fd ["_law_moves", "_law_word"] (spLs K) := by
  refine F.ok scLs (fun vs H Q E h => ?_) (fun cdv A outer s H vs Q E hr h => ?_)
  · obtain ⟨M, L, rs, p, dss, ws, l, rfl, _⟩ := h
    rfl
  · obtain ⟨M, L, rs, p, dss, ws, l, rfl, hM, hp, g, hL, dg, q⟩ := h
    refine ⟨_, pss_cons (ps_set (i := 2) scLs.nd rfl (Or.inl rfl) pe_int)
      (pss_cons (ps_for PassesOwn.never rfl (pi_list (pv 1)) (pg_name (i := 3) scLs.nd rfl (Or.inl rfl))
        (pss_one (ps_set (i := 2) scLs.nd rfl (Or.inl rfl) (pe_ix ix_tup (pe_ix ix_tup (pv 0) (pv 2) (fun _ _ => rfl)) (pv 3) (fun _ _ => rfl)))))
      (pss_one (ps_ret (pv 2)))), ?_⟩
    have d0 : 0 < dss.length := List.length_pos_iff.mpr g.ne
    refine ⟨_, rfl, L, rfl, ⟨_, hL⟩, for_it (walk_list (xs := l.map V.int)) (fun i σ' H' => ∃ z3, σ' = [some (.ref M), some (.ref L), some (.int (((l.take i).foldl (stepM dss) 0 : Nat) : Int)), z3] ∧ H' = H) ⟨_, rfl, rfl⟩ (fun i σ' H' _ ⟨_, _, e⟩ => e ▸ hL) ?_ ?_⟩
    · rintro i y σ2 H2 H3 hi ⟨z3, rfl, rfl⟩ ⟨rfl, hy⟩
      obtain ⟨d, hd, rfl⟩ := map_at hy
      obtain ⟨dd0, dd1⟩ := dg d (List.mem_of_getElem? hd)
      have lt := g.run (l.take i) 0 d0 fun x hx => dg x (List.mem_of_mem_take hx)
      obtain ⟨ds, e1, e2, e3⟩ := g.step lt dd0 dd1
      have dl : rs.length = dss.length := Paired.length hp
      obtain ⟨ds', e4, b, e5, sb⟩ : ∃ ds', dss[(l.take i).foldl (stepM dss) 0]? = some ds' ∧ TupI K H3 (rs.getD ((l.take i).foldl (stepM dss) 0) .non) ds' := paired_at hp (at_getD (by omega) _)
      rw [e1] at e4
      cases e4
      refine ⟨_, rfl, _, rfl, M, rs, _, _, rfl, rfl, hM, atI_nat (at_getD (by omega) .non), _, rfl, ?_⟩
      rw [e5]
      refine ⟨b, _, _, _, rfl, rfl, sb, at_of (j := d.toNat) (by omega) (at_map e2), some (.int d), ?_, rfl⟩
      rw [take_snoc hd, List.foldl_append]
      rfl
    · rintro σ2 H2 ⟨z3, rfl, rfl⟩
      rw [List.length_map, List.take_length]
      exact ⟨_, rfl, q⟩
abbrev sIm : Stmt := top 24
theorem scIm : FnScope ["_law_told", "_law_p", "_law_moves", "_law_worths"] ["_law_told", "_law_p", "_law_moves", "_law_worths"] (defScope sIm) := ⟨rfl, rfl, rfl, by decide +kernel, rfl, by decide +kernel, by decide +kernel⟩
theorem ok_im (F : Fun K "_law_is_machine" "_law_is_machine" sIm f fd) (B : Blt mg) (Z : McC K mg C) : FnOk P w K mg base CX0 1 f fd ["_law_told", "_law_p", "_law_moves", "_law_worths"] (spIm K C) := by
  refine F.ok scIm (fun vs H Q E h => ?_) (fun cdv A outer s H vs Q E hr h => ?_)
  · obtain ⟨a, M, W, rs, p, dss, ws, rfl, _⟩ := h
    rfl
  · obtain ⟨a, M, W, rs, p, dss, ws, rfl, ma, hM, hp, hW, q⟩ := h
    have hu64 := hr.units
    refine ⟨_, pss_cons (ps_if (PW.pt (pw_or (pt_not (pt_val (pe_callB call_isi (by rfl) B.isi_ (by decide +kernel) (pa_cons (pv 0) (pa_cons (pe_glob (v := .ref C) rfl Z.g rfl) pa_nil)))))
        (pw_or (pt_not (pt_val (pe_callB call_isi (by rfl) B.isi_ (by decide +kernel) (pa_cons (pe_fld (pv 0) rfl) (pa_cons (pe_bltn (v := .ty "tuple") rfl B.tup_ (by decide +kernel) rfl) pa_nil)))))
        (pw_or1 (pt_not (pt_val (pe_callB call_isi (by rfl) B.isi_ (by decide +kernel) (pa_cons (pe_fld (pv 0) rfl) (pa_cons (pe_bltn (v := .ty "tuple") rfl B.tup_ (by decide +kernel) rfl) pa_nil)))))))))
        (pss_one (ps_ret pe_bl)) pss_nil)
      (pss_one (ps_ret (pe_and (pe_cmpR (op_eqD hu64) (pe_tup (pa_cons (pe_fld (pv 0) rfl) (pa_cons (pe_fld (pv 0) rfl) pa_nil))) (pe_tup (pa_cons (pv 1) (pa_cons (pe_callB call_len_seq (by rfl) B.len_ PySem.boot_len (pa_cons (pv 2) pa_nil)) pa_nil))) (nomark _))
        (pe_and (pe_cmpR (op_eqD hu64) (pe_fld (pv 0) rfl) (pv 2) (nomark _)) (pe_one (pe_cmpR (op_eqD hu64) (pe_fld (pv 0) rfl) (pv 3) (nomark _))))))), ?_⟩
    have ty := ma.ty Z
    obtain ⟨dx, t, u, xs, h1, h2, h3, h4⟩ := ma
    have dl : rs.length = dss.length := Paired.length hp
    refine ⟨_, rfl, _, .ref C, _, _, _, rfl, .own C, ty, Z.ic.me, _, rfl, iteF ?_⟩
    refine ⟨_, rfl, a, C, dx, _, _, rfl, h1, Z.ic.cl, Z.n2, rfl, _, _, _, _, _, rfl, .ty "tuple", tyT h2, kit_ty seq_yes.1, _, rfl, iteF ?_⟩
    refine ⟨_, rfl, a, C, dx, _, _, rfl, h1, Z.ic.cl, Z.n3, rfl, _, _, _, _, _, rfl, .ty "tuple", tyT h4, kit_ty seq_yes.1, _, rfl, iteF ?_⟩
    refine ⟨_, rfl, a, C, dx, _, _, rfl, h1, Z.ic.cl, Z.n1, rfl, _, rfl, a, C, dx, _, _, rfl, h1, Z.ic.cl, Z.n4, rfl, by show 2 ≤ sizeLine; decide, fun t1 ht1 => ?_⟩
    have m1 := new_more (o := .tup [.int p, .int (dss.length : Nat)]) ht1
    refine ⟨_, rfl, _, rfl, M, rs, rfl, .inr (sqT_more m1 hM), by show 2 ≤ sizeLine; decide, fun t2 ht2 => ?_⟩
    have m2 : More H (upd (upd H t1 (.tup [.int p, .int (dss.length : Nat)])) t2 (.tup [.int p, .int (rs.length : Nat)])) := fun b o e => new_more ht2 _ _ (m1 _ _ e)
    refine ⟨_, _, dp_I (k := [p, (dss.length : Nat)]) (SqT.of (new_more ht2 _ _ upd_same)), dp_I (k := [p, (rs.length : Nat)]) (SqT.of upd_same), shaped_I _, shaped_I _, _, rfl, ?_⟩
    rw [dl] at m2 ⊢
    rw [eqv_I, decide_eq_true rfl]
    refine iteT ⟨_, rfl, a, C, dx, _, _, rfl, m2 _ _ h1, Z.ic.cl, Z.n2, rfl, _, rfl, _, _, dp_R (sqT_more m2 h2) (paired_imp (fun _ _ r => r.more m2) h3), dp_R (sqT_more m2 hM) (paired_imp (fun _ _ r => r.more m2) hp), shaped_R _, shaped_R _, _, rfl, ?_⟩
    rw [eqv_R, decide_eq_true rfl]
    refine iteT ⟨_, rfl, a, C, dx, _, _, rfl, m2 _ _ h1, Z.ic.cl, Z.n3, rfl, _, rfl, _, _, dp_I (sqT_more m2 h4), dp_I (sqT_more m2 hW), shaped_I _, shaped_I _, ?_⟩
    rw [eqv_I, decide_eq_true rfl]
    exact q _ m2
end
end K67

namespace K67
open PySem L2 Gd B5
abbrev sRef : Stmt := top 25
theorem scRef : FnScope ["_law_call", "e"] ["_law_call"] (defScope sRef) := ⟨rfl, rfl, rfl, by decide +kernel, rfl, by decide +kernel, by decide +kernel⟩
open LamX in
theorem ref_gives {X : Cx} {k : Nat} {g : Addr} {cdg : Value} {q : Str} {CN CR CU : Addr} (hr : Room (k + 2) X.A) (T : Cau3 X.K CN CR CU)
    (gN : X.mg "BadNumber" = some (.ref CN)) (gR : X.mg "BadRow" = some (.ref CR)) (gU : X.mg "Unlike" = some (.ref CU))
    (nW : PySem.W.findIn X.K (.ref CN) "what" = some none) (nN : PySem.W.findIn X.K (.ref CN) "number" = some none) (nR : PySem.W.findIn X.K (.ref CR) "row" = some none) (nU : PySem.W.findIn X.K (.ref CU) "what" = some none) :
    GivesTo X ["_law_call", "e"] "_law_refused" (defScope sRef) g cdg (defBody sRef) "_law_call" q (TRef3 CN CR CU) := by
  intro f c' s H Q tl act hc h
  refine ⟨_, pss_cons (ps_tryAll (X := (cxOf C8.CX0 X.prog X.w X.K X.mg X.base ["_law_call", "e"] "_law_refused" (defScope sRef) g cdg X.A X.stack s H C8.E0).nox) (n := "e") (i := 1)
      (tb := fun W D σ H => ∃ Ech : XK, (∀ cls d σ' H', Ech cls d H' → W cls d σ' H') ∧ σ[0]? = some (some (.ref f)) ∧ H c' = some (CodeO c' q) ∧ tl Ech H (fun _ H' => D.nx σ H'))
      rfl rfl scRef.nd rfl rfl LamX.takes0 (fun W pn xe tk _ => ?_)
      (.cons (c := .ref CN) ⟨rfl, by decide, .inl gN⟩ (fun a oe cls d pn hz hf => pss_one (ps_ret (pe_lst (pa_cons pe_str (pa_cons (pe_xf T.xn nW hz hf (pv 1)) (pa_cons (pe_xf T.xn nN hz hf (pv 1)) pa_nil))))))
      (.cons (c := .ref CR) ⟨rfl, by decide, .inl gR⟩ (fun a oe cls d pn hz hf => pss_one (ps_ret (pe_lst (pa_cons pe_str (pa_cons (pe_xf T.xr nR hz hf (pv 1)) pa_nil)))))
      (.cons (c := .ref CU) ⟨rfl, by decide, .inl gU⟩ (fun a oe cls d pn hz hf => pss_one (ps_ret (pe_lst (pa_cons pe_str (pa_cons (pe_xf T.xu nU hz hf (pv 1)) pa_nil))))) .nil))))
    (pss_one (ps_ret (pe_lst pa_nil))), ?_⟩
  · refine ⟨fun pins s' σ H' D I h' => ?_⟩
    obtain ⟨Ech, hW, h1, h2, h3⟩ := h'
    exact (pss_one (ps_expr (act W pn xe Ech _ _ tk hW))).run pins s' σ H' D I ⟨h1, h2, h3⟩
  · refine ⟨ERef3 CN CR CU Q, fun cls d σ' H' e => ?_, rfl, hc, h⟩
    have at1 : ∀ {a : Addr} {σ' : L2.St}, σ'.length = 2 → (σ'.set 1 (some (V.ref a)))[1]? = some (some (V.ref a)) := fun {a σ'} hl => List.getElem?_set_self (by rw [hl]; decide)
    obtain ⟨rfl, dd, what, x, rfl, hd, q1⟩ | ⟨rfl, dd, x, rfl, hd, q1⟩ | ⟨rfl, dd, x, rfl, hd, q1⟩ := e
    · refine ⟨true, T.nn, fun _ hl a na => ?_, fun z => nomatch z⟩
      exact ⟨_, at1 hl, rfl, rfl, dd, _, _, rfl, hd, rfl, _, at1 hl, rfl, rfl, dd, _, _, rfl, hd, rfl, by show 3 ≤ sizeLine; decide, fun t ht => q1 t ht⟩
    · refine ⟨false, T.rn, (fun z => nomatch z), fun _ => ⟨true, T.rr, fun _ hl a na => ?_, fun z => nomatch z⟩⟩
      exact ⟨_, at1 hl, rfl, rfl, dd, _, _, rfl, hd, rfl, by show 2 ≤ sizeLine; decide, fun t ht => q1 t ht⟩
    · refine ⟨false, T.un, (fun z => nomatch z), fun _ => ⟨false, T.ur, (fun z => nomatch z), fun _ => ⟨true, T.uu, fun _ hl a na => ?_, fun z => nomatch z⟩⟩⟩
      exact ⟨_, at1 hl, rfl, rfl, dd, _, _, rfl, hd, rfl, by show 2 ≤ sizeLine; decide, fun t ht => q1 t ht⟩
end K67

/-! Rp: a tuple times 0 or 1. -/
namespace Gd
open PySem PySem.Spec PyProof.Rows L2
theorem mul_one (l : Addr) (items : Array Value) (n : Nat) (dd : Option Addr) (sl : Array (Option Value)) (u : Tok) :
    Meets (Builtin.«tuple.__mul__» ⟨[.ref l, .int 1 u], []⟩)
      (fun _ R s => s.heap.get? l = some { cls := .type "tuple", dict := dd, data := .seq items n, slots := sl } ∧ R (.ok (.ret (Value.ref l))) s) :=
  .of_wp fun prog w A R s h => by
    obtain ⟨hp, g, d, tk, os⟩ := s
    obtain ⟨hl, h⟩ := h
    have f1 := AutoSeq1.idx_int
    wp_walk using wpAny_loadPart' hl
    repeat (first
      | (refine wpAny_ite_false (by decide) ?_; wp_walk using wpAny_loadPart' hl)
      | (refine wpAny_ite_true (by simp) ?_; wp_walk using wpAny_loadPart' hl))
    exact ⟨_, rfl, h⟩
theorem mul_zero (l : Addr) (items : Array Value) (n : Nat) (dd : Option Addr) (sl : Array (Option Value)) (u : Tok) (ne : items.isEmpty = false) :
    Meets (Builtin.«tuple.__mul__» ⟨[.ref l, .int 0 u], []⟩)
      (fun _ R s => s.heap.get? l = some { cls := .type "tuple", dict := dd, data := .seq items n, slots := sl } ∧
        R (.ok (.ret (Value.ref s.heap.objs.size))) { s with heap := s.heap.push { cls := Value.type "tuple", data := Data.seq #[] }, toks := s.toks }) :=
  .of_wp fun prog w A R s h => by
    obtain ⟨hp, g, d, tk, os⟩ := s
    obtain ⟨hl, h⟩ := h
    have f1 := AutoSeq1.idx_int
    wp_walk using wpAny_loadPart' hl
    repeat (first
      | (refine wpAny_ite_false (by simp [ne]) ?_; wp_walk using wpAny_loadPart' hl)
      | (refine wpAny_ite_true (by simp [ne]) ?_; wp_walk using wpAny_loadPart' hl))
    exact ⟨_, rfl, h⟩

/-- a tuple times a small number -/
def rRepN (K : PySem.W.Frag) : R2 := fun x y H Q => rRepT K x y H Q ∨ ∃ (l : Addr) (k : Int) (xs : List V), x = .ref l ∧ y = .int k ∧ SqT K H l xs ∧ xs ≠ [] ∧
  ((k = 1 ∧ Q (.ref l) H) ∨ (k = 0 ∧ ∀ p, H p = none → Q (.ref p) (upd H p (.tup []))))
theorem op_repN {X : Cx} : OpR X (binaryOp .Mult) (rRepN X.K) := by
  intro pins s σ H x y v u Q I rx ry h
  obtain h | ⟨l, k, xs, rfl, rfl, hT, hne, h⟩ := h
  · exact op_repT pins s σ H x y v u Q I rx ry h
  cases rx
  obtain ⟨t, rfl⟩ := ry
  obtain ⟨its, r, ⟨⟨cls, dd, data, sl⟩, ho, hc, n, hd⟩, hs⟩ := I.tuple hT
  simp only at hc hd
  subst hc hd
  have hn : its.toArray.isEmpty = false := by
    cases its with
    | cons a b => rfl
    | nil =>
      have e := r.length
      exact (hne (List.eq_nil_of_length_eq_zero e)).elim
  have is : s.TypeIs (.ref l) "tuple" := ⟨_, ho, rfl⟩
  obtain ⟨rfl, q⟩ | ⟨rfl, q⟩ := h
  · refine wpAny_binaryOp_repeat_ref (T := "tuple") (U := "int") (by decide) is (fun s' => typeIs_int s' 1 t) noFill_tuple_mul F.fills_int_mul F.slot_int_rmul repeat_tuple F.slot_int_index.lookup
      (call_meets F.slot_int_rmul (typeIs_int s 1 t) F.entry_int_rmul (F.args_int_rmul_2 _ _) (int_rmul_tuple 1 t l its.toArray n dd sl)
        ⟨ho, rfl, is, call_meets F.slot_tuple_mul is F.entry_tuple_mul (F.args_tuple_mul_2 _ _) (mul_one l its.toArray n dd sl t) ⟨ho, ?_⟩⟩)
    exact ⟨.ref l, H, I, rfl, q⟩
  · refine wpAny_binaryOp_repeat_ref (T := "tuple") (U := "int") (by decide) is (fun s' => typeIs_int s' 0 t) noFill_tuple_mul F.fills_int_mul F.slot_int_rmul repeat_tuple F.slot_int_index.lookup
      (call_meets F.slot_int_rmul (typeIs_int s 0 t) F.entry_int_rmul (F.args_int_rmul_2 _ _) (int_rmul_tuple 0 t l its.toArray n dd sl)
        ⟨ho, rfl, is, call_meets F.slot_tuple_mul is F.entry_tuple_mul (F.args_tuple_mul_2 _ _) (mul_zero l its.toArray n dd sl t hn) ⟨ho, ?_⟩⟩)
    refine ⟨.ref s.heap.objs.size, _, I.laid (t' := s.toks) (o := .tup []) (fun b ob q => Heap.get?_push_of_some _ q) (Nat.le_refl _) ?_, rfl, q _ (I.hok.fresh (Nat.le_refl _))⟩
    exact ⟨Nat.zero_le _, _, .nil, IsTup.new _ _⟩

/-- two tuples of the same flat values -/
theorem items_same {A : Around} {s : Shared} : ∀ {xs : List V} {us ws : List Value}, xs.all flatB = true → Vals xs us → Vals xs ws →
    ∀ j (h1 : j < us.length) (h2 : j < ws.length), SeqAt.EqAt A s us[j] ws[j] true
  | _, _, _, _, .nil, .nil, j, h1, _ => absurd h1 (Nat.not_lt_zero j)
  | _, _, _, f, .cons a as, .cons b bs, j, h1, h2 => by
    rw [List.all_cons, Bool.and_eq_true] at f
    cases j with
    | zero => exact eqAt_same a b f.1
    | succ j => exact items_same f.2 as bs j (Nat.lt_of_succ_lt_succ h1) (Nat.lt_of_succ_lt_succ h2)
def rTS (K : PySem.W.Frag) (r : Bool) : R2 := fun x y H Q => ∃ (a b : Addr) (xs : List V), x = .ref a ∧ y = .ref b ∧ SqT K H a xs ∧ SqT K H b xs ∧
  xs.all flatB = true ∧ Q (.bl r) H
section
variable {X : Cx}
theorem all_true {m n : Nat} (h : m = n) : ((List.range (min m n)).all (fun _ => true) && m == n) = true := by
  subst h
  rw [beq_self_eq_true, Bool.and_true]
  exact List.all_eq_true.mpr fun _ _ => rfl
theorem op_eqTS (hu : X.A.units < cLine) : OpR X (compareOp .Eq) (rTS X.K true) := by
  intro pins s σ H x y v u Q I rx ry h
  obtain ⟨a, b, xs, rfl, rfl, ha, hb, f, q⟩ := h
  cases (show v = Value.ref a from rx)
  cases (show u = Value.ref b from ry)
  obtain ⟨us, r1, p1, _⟩ := I.tuple ha
  obtain ⟨ws, r2, p2, _⟩ := I.tuple hb
  have same : us.toArray.size = ws.toArray.size := by
    rw [List.size_toArray, List.size_toArray, ← r1.length, ← r2.length]
  have all := SeqAt.RcAt.tuples (A := X.A) (s := s) (e := fun _ => true) p1 p2 hu fun j h1 h2 => by
    have k := items_same (A := X.A.in1) (s := s) f r1 r2 j (by simpa using h1) (by simpa using h2)
    simpa using k
  refine all X.prog X.w _ _ ?_
  rw [all_true same]
  exact ⟨.bl true, H, I, rfl, q⟩
theorem op_neTS (hu : X.A.units < cLine) : OpR X (compareOp .NotEq) (rTS X.K false) := by
  intro pins s σ H x y v u Q I rx ry h
  obtain ⟨a, b, xs, rfl, rfl, ha, hb, f, q⟩ := h
  cases (show v = Value.ref a from rx)
  cases (show u = Value.ref b from ry)
  obtain ⟨us, r1, p1, _⟩ := I.tuple ha
  obtain ⟨ws, r2, p2, _⟩ := I.tuple hb
  have same : us.toArray.size = ws.toArray.size := by
    rw [List.size_toArray, List.size_toArray, ← r1.length, ← r2.length]
  have all := SeqAt.RcNeAt.tuples (A := X.A) (s := s) (e := fun _ => true) p1 p2 hu fun j h1 h2 => by
    have k := items_same (A := X.A.in1) (s := s) f r1 r2 j (by simpa using h1) (by simpa using h2)
    simpa using k
  refine all X.prog X.w _ _ ?_
  rw [all_true same]
  exact ⟨.bl false, H, I, rfl, q⟩
end
end Gd

/-! Lmd: what stays while tables of code objects grow; rows of tries; one and the same object is equal to itself. -/
namespace B5
open PySem L2 Gd
abbrev ExtN := LamX.ExtN
/-- tables grow, dicts of words change, all else stays -/
def Kp (H H' : Hp) : Prop := ∀ b o, H b = some o → (∀ ps, o ≠ .tbl ps) → ((∃ kvs, o = .dK kvs) ∧ ∃ kvs, H' b = some (.dK kvs)) ∨ H' b = some o
theorem Kp.at {H H' : Hp} (m : Kp H H') {b : Addr} {o : HO} (h : H b = some o) (nt : ∀ ps, o ≠ .tbl ps) (nk : ∀ kvs, o ≠ .dK kvs) : H' b = some o := by
  rcases m b o h nt with ⟨⟨kvs, z⟩, _⟩ | z
  · exact absurd z (nk kvs)
  · exact z
theorem Kp.lst {H H' : Hp} (m : Kp H H') {b : Addr} {xs : List V} (h : H b = some (.lst xs)) : H' b = some (.lst xs) := m.at h (fun _ z => nomatch z) fun _ z => nomatch z
theorem Kp.tup {H H' : Hp} (m : Kp H H') {b : Addr} {xs : List V} (h : H b = some (.tup xs)) : H' b = some (.tup xs) := m.at h (fun _ z => nomatch z) fun _ z => nomatch z
theorem Kp.dK {H H' : Hp} (m : Kp H H') {b : Addr} {kvs : List (Key × V)} (h : H b = some (.dK kvs)) : ∃ kvs, H' b = some (.dK kvs) := by
  rcases m b _ h (fun _ z => nomatch z) with ⟨_, z⟩ | z
  · exact z
  · exact ⟨_, z⟩
theorem Kp.refl {H : Hp} : Kp H H := fun _ _ h _ => .inr h
theorem Kp.of {H H' : Hp} (m : More H H') : Kp H H' := fun b o h _ => .inr (m b o h)
theorem Kp.ext {H H' : Hp} (m : ExtN H H') : Kp H H' := fun b o h nt => .inr (m b o h nt)
theorem Kp.trans {H H1 H2 : Hp} (a : Kp H H1) (b : Kp H1 H2) : Kp H H2 := fun c o h nt => by
  rcases a c o h nt with ⟨⟨kvs, rfl⟩, kvs1, z⟩ | z
  · exact .inl ⟨⟨_, rfl⟩, b.dK z⟩
  · exact b c o z nt
theorem Kp.off {d : Addr} {H H' : Hp} (of : Off d H H') (hd : ∃ kvs, H d = some (.dK kvs)) (hd' : ∃ kvs, H' d = some (.dK kvs)) : Kp H H' := fun b o h _ => by
  by_cases z : b = d
  · subst z
    obtain ⟨kvs, e⟩ := hd
    rw [e] at h
    exact .inl ⟨⟨_, (Option.some.inj h).symm⟩, hd'⟩
  · exact .inr (of b o h z)
theorem Pen.dk {H : Hp} {d c : Addr} {n : Int} (h : Pen H d c n) : ∃ kvs, H d = some (.dK kvs) := let ⟨kvs, _, _, _, _, h1, _⟩ := h; ⟨kvs, h1⟩
theorem Kp.dr {d c : Addr} {n m : Int} {H H' : Hp} (h : Drawn H H' d c n) (p : Pen H d c m) : Kp H H' := .off (.dr h) p.dk h.pen.dk
theorem sqL_kp {K : PySem.W.Frag} {H H' : Hp} {a : Addr} {xs : List V} (e : Kp H H') : SqL K H a xs → SqL K H' a xs
  | .inl (.inl h) => .inl (.inl (e.at h (fun _ z => nomatch z) fun _ z => nomatch z))
  | .inl (.inr ⟨o, h⟩) => .inl (.inr ⟨o, e.at h (fun _ z => nomatch z) fun _ z => nomatch z⟩)
  | .inr h => .inr h
theorem sqT_kp {K : PySem.W.Frag} {H H' : Hp} {a : Addr} {xs : List V} (e : Kp H H') : SqT K H a xs → SqT K H' a xs
  | .inl (.inl h) => .inl (.inl (e.at h (fun _ z => nomatch z) fun _ z => nomatch z))
  | .inl (.inr ⟨o, h⟩) => .inl (.inr ⟨o, e.at h (fun _ z => nomatch z) fun _ z => nomatch z⟩)
  | .inr h => .inr h
theorem Sq.kp {K : PySem.W.Frag} {H H' : Hp} {a : Addr} {xs : List V} (e : Kp H H') : Sq K H a xs → Sq K H' a xs
  | .inl h => .inl (sqL_kp e h)
  | .inr h => .inr (sqT_kp e h)
theorem tyKp {K : PySem.W.Frag} {H H' : Hp} {x : V} {n : String} (e : Kp H H') (t : TyX K H x (.type n)) : TyX K H' x (.type n) := by
  cases t with
  | base t =>
    refine .base ?_
    cases t with
    | non => exact .non
    | bl b => exact .bl b
    | int i => exact .int i
    | str z => exact .str z
    | flt z => exact .flt z
    | lst h => exact .lst (e.at h (fun _ z => nomatch z) fun _ z => nomatch z)
    | frz h => exact .frz (e.at h (fun _ z => nomatch z) fun _ z => nomatch z)
    | tup h => exact .tup (e.at h (fun _ z => nomatch z) fun _ z => nomatch z)
    | dK h => exact .dK (e.dK h).choose_spec
    | dT h => exact .dT (e.at h (fun _ z => nomatch z) fun _ z => nomatch z)
  | byt b => exact .byt b
  | set h => exact .set (e.at h (fun _ z => nomatch z) fun _ z => nomatch z)
  | kList h c => exact .kList h c
  | kTuple h c => exact .kTuple h c
  | kDict h c => exact .kDict h c
  | fTuple h => exact .fTuple (e.at h (fun _ z => nomatch z) fun _ z => nomatch z)
  | fDict h => exact .fDict (e.at h (fun _ z => nomatch z) fun _ z => nomatch z)
theorem NoInt.kp {K : PySem.W.Frag} {H H' : Hp} {x : V} (e : Kp H H') (h : NoInt K H x) : NoInt K H' x := let ⟨n, m, t⟩ := h; ⟨n, m, tyKp e t⟩
theorem NoSq.kp {K : PySem.W.Frag} {H H' : Hp} {x : V} (e : Kp H H') (h : NoSq K H x) : NoSq K H' x := let ⟨n, m, t⟩ := h; ⟨n, m, tyKp e t⟩
theorem Its.kp {K : PySem.W.Frag} {H H' : Hp} {ys : List V} (e : Kp H H') (h : Its K H ys) : Its K H' ys := ⟨h.1, fun y hy => (h.2 y hy).imp id fun z => z.kp e⟩
theorem BadP.kp {K : PySem.W.Frag} {H H' : Hp} {x : V} (e : Kp H H') (h : BadP K H x) : BadP K H' x := h.imp id fun z => z.kp e
theorem GRow.kp {K : PySem.W.Frag} {H H' : Hp} {p : Int} {many : Nat} {x : V} {ds : List Int} (m : Kp H H') (h : GRow K H p many x ds) : GRow K H' p many x ds :=
  ⟨let ⟨b, e, s⟩ := h.ex; ⟨b, e, s.kp m⟩, h.len, h.ok⟩
theorem NRow.kp {K : PySem.W.Frag} {H H' : Hp} {p : Int} {many : Nat} {x : V} (m : Kp H H') (h : NRow K H p many x) : NRow K H' p many x := by
  obtain h | ⟨b, ys, e, s, i, h⟩ := h
  · exact .inl (h.kp m)
  · exact .inr ⟨b, ys, e, s.kp m, i.kp m, h⟩
theorem NWor.kp {K : PySem.W.Frag} {H H' : Hp} {many : Nat} {x : V} (m : Kp H H') (h : NWor K H many x) : NWor K H' many x := by
  obtain h | ⟨b, ys, e, s, i, h⟩ := h
  · exact .inl (h.kp m)
  · exact .inr ⟨b, ys, e, s.kp m, i.kp m, h⟩
theorem TupI.kp {K : PySem.W.Frag} {H H' : Hp} {x : V} {k : List Int} (m : Kp H H') (h : TupI K H x k) : TupI K H' x k := let ⟨b, e, s⟩ := h; ⟨b, e, sqT_kp m s⟩
theorem MAt.kp {K : PySem.W.Frag} {H H' : Hp} {C a : Addr} {p : Int} {dss : List (List Int)} {ws : List Int} (m : Kp H H') (h : MAt K H C a p dss ws) : MAt K H' C a p dss ws :=
  let ⟨dx, t, u, xs, h1, h2, h3, h4⟩ := h; ⟨dx, t, u, xs, m.at h1 (fun _ z => nomatch z) (fun _ z => nomatch z), sqT_kp m h2, paired_imp (fun _ _ r => r.kp m) h3, sqT_kp m h4⟩
/-- a list that is no table is put anew -/
theorem tabs_upd {T : List (Addr × Str)} {H : Hp} {a : Addr} {xs ys : List V} (t : LamX.Tabs T H) (h : H a = some (.lst xs)) : LamX.Tabs T (upd H a (.lst ys)) := fun p hp => by
  obtain ⟨ps, h1, h2, h3⟩ := t p hp
  refine ⟨ps, by rw [upd_ne (ne_of h1 h (by intro z; cases z))]; exact h1, h2, fun pos cv hc => ?_⟩
  obtain ⟨c, e1, e2⟩ := h3 pos cv hc
  exact ⟨c, e1, by rw [upd_ne (ne_of e2 h (by intro z; cases z))]; exact e2⟩
theorem tabs_off {T : List (Addr × Str)} {H H' : Hp} {d : Addr} {kvs : List (Key × V)} (t : LamX.Tabs T H) (m : Off d H H') (h : H d = some (.dK kvs)) : LamX.Tabs T H' := fun p hp => by
  obtain ⟨ps, h1, h2, h3⟩ := t p hp
  refine ⟨ps, m _ _ h1 (ne_of h1 h (by intro z; cases z)), h2, fun pos cv hc => ?_⟩
  obtain ⟨c, e1, e2⟩ := h3 pos cv hc
  exact ⟨c, e1, m _ _ e2 (ne_of e2 h (by intro z; cases z))⟩
/-- a value that is itself again: flat and equal, or one object -/
def Self (x : V) : Prop := (flatV x = true ∧ eqV x x = true) ∨ ∃ a, x = .ref a
def DId : Eqv := fun x y _ => ∃ a, x = .ref a ∧ y = .ref a
theorem mon_id : Mon DId := fun _ _ _ _ _ d => d
theorem eqG_id {X : Cx} : EqG X 0 DId := by
  intro A pins s σ H x y u v sb I rx ry d
  obtain ⟨a, rfl, rfl⟩ := d
  cases rx
  cases ry
  unfold eqBool
  refine wpAny_holding ?_
  rw [if_pos (by simp)]
  refine wpAny_bind (wpAny_rule (wpAny_pure ?_))
  exact ⟨rfl, H, I, Ext.rfl'⟩
abbrev DSelf : Eqv := fun x y H => DFlat x y H ∨ DId x y H
theorem op_eqSelf {X : Cx} (hr : Room 1 X.A) : OpR X (compareOp .Eq) (rEqG (DList DSelf)) := op_eqG (rcG_list (n := 0) (Mon.or mon_flat mon_id) (EqG.or eqG_flat eqG_id)) hr
theorem prs_self {H : Hp} : ∀ {xs : List V}, (∀ x ∈ xs, Self x) → Prs DSelf xs xs H
  | [], _ => .nil
  | x :: xs, h => .cons (by
      obtain ⟨a, b⟩ | ⟨a, e⟩ := h x (.head _)
      · exact .inl ⟨a, a, b⟩
      · exact .inr ⟨a, e, e⟩) (prs_self fun y hy => h y (.tail _ hy))
theorem self_int (i : Int) : Self (.int i) := .inl ⟨rfl, by simp [eqV]⟩
theorem self_non : Self .non := .inl ⟨rfl, rfl⟩
theorem self_bl (b : Bool) : Self (.bl b) := .inl ⟨rfl, by simp [eqV]⟩
theorem self_str (z : Str) : Self (.str z) := .inl ⟨rfl, by simp [eqV]⟩
theorem self_ref (a : Addr) : Self (.ref a) := .inr ⟨a, rfl⟩
/-- a try: the list that was found and the one that is due have the same items -/
def TrOk (H : Hp) (t : V) : Prop := ∃ (q f u : Addr) (xs : List V), t = .ref q ∧ H q = some (.tup [.ref f, .ref u]) ∧ H f = some (.lst xs) ∧ H u = some (.lst xs) ∧ ∀ x ∈ xs, Self x
theorem TrOk.ext {H H' : Hp} {t : V} (m : LamX.ExtN H H') (h : TrOk H t) : TrOk H' t := let ⟨q, f, u, xs, e, h1, h2, h3, h4⟩ := h; ⟨q, f, u, xs, e, m _ _ h1 (fun _ z => nomatch z), m _ _ h2 (fun _ z => nomatch z), m _ _ h3 (fun _ z => nomatch z), h4⟩
/-- the tries so far, in the list at L -/
structure Jr (H0 : Hp) (L : Addr) (T : List (Addr × Str)) (ts : List V) (H : Hp) : Prop where
  ex : ∃ G : Hp, ExtN G H ∧ G L = none ∧ ExtN H0 G ∧ ∀ t ∈ ts, TrOk G t
  tab : LamX.Tabs T H
  at_ : H L = some (.lst ts)
theorem del_ext {H : Hp} {L : Addr} : ExtN (del H L) H := fun b o e _ => by
  by_cases z : b = L
  · rw [z, del_same] at e
    cases e
  · rw [del_ne z] at e
    exact e
theorem ext_del {G H : Hp} {L : Addr} (m : ExtN G H) (n : G L = none) : ExtN G (del H L) := fun b o e no => by
  rw [del_ne (ne_of_none e n)]
  exact m b o e no
theorem Jr.ext {H0 H H' : Hp} {L : Addr} {T : List (Addr × Str)} {ts : List V} (j : Jr H0 L T ts H) (m : ExtN H H') (t : LamX.Tabs T H') : Jr H0 L T ts H' :=
  ⟨let ⟨G, a, b, c, d⟩ := j.ex; ⟨G, a.trans m, b, c, d⟩, t, m _ _ j.at_ fun _ z => nomatch z⟩
theorem Jr.base {H0 H : Hp} {L : Addr} {T : List (Addr × Str)} {ts : List V} (j : Jr H0 L T ts H) : ExtN H0 H := let ⟨_, a, _, c, _⟩ := j.ex; c.trans a
/-- one try more: new objects f, u, q beside -/
theorem Jr.step {H0 H H2 : Hp} {L f u q : Addr} {T : List (Addr × Str)} {ts xs : List V} (j : Jr H0 L T ts H) (m : ExtN H H2) (t : LamX.Tabs T H2) (fL : f ≠ L) (uL : u ≠ L) (hq : H2 q = some (.tup [.ref f, .ref u]))
    (hf : H2 f = some (.lst xs)) (hu : H2 u = some (.lst xs)) (al : ∀ x ∈ xs, Self x) : Jr H0 L T (ts ++ [.ref q]) (upd H2 L (.lst (ts ++ [.ref q]))) := by
  obtain ⟨G, a, b, c, d⟩ := j.ex
  have h2 := m _ _ j.at_ fun _ z => nomatch z
  have qL : q ≠ L := ne_of hq h2 (by intro z; cases z)
  refine ⟨⟨del H2 L, fun x o e _ => ?_, del_same, c.trans (ext_del (a.trans m) b), fun x hx => ?_⟩, tabs_upd t h2, upd_same⟩
  · by_cases z : x = L
    · rw [z, del_same] at e
      cases e
    · rw [del_ne z] at e
      rw [upd_ne z]
      exact e
  · rcases List.mem_append.mp hx with hx | hx
    · exact (d x hx).ext (ext_del (a.trans m) b)
    · have e : x = .ref q := by simpa using hx
      exact ⟨q, f, u, xs, e, by rw [del_ne qL]; exact hq, by rw [del_ne fL]; exact hf, by rw [del_ne uL]; exact hu, al⟩
/-- the first one -/
theorem Jr.first {H0 H : Hp} {L f u q : Addr} {T : List (Addr × Str)} {xs : List V} (m : ExtN H0 H) (t : LamX.Tabs T H) (nL : H L = none) (hq : H q = some (.tup [.ref f, .ref u])) (hf : H f = some (.lst xs)) (hu : H u = some (.lst xs)) (al : ∀ x ∈ xs, Self x) :
    Jr H0 L T [.ref q] (upd H L (.lst [.ref q])) :=
  ⟨⟨H, .of (new_more nL), nL, m, fun x hx => by
    have e : x = .ref q := by simpa using hx
    exact ⟨q, f, u, xs, e, hq, hf, hu, al⟩⟩, t.ext (new_more nL), upd_same⟩
theorem rep_one {x : V} (k : Nat) : (List.replicate k [x]).flatten = List.replicate k x := List.flatten_replicate_singleton
theorem cut_to {xs : List V} {k : Nat} (h : k ≤ xs.length) : cutV xs none (some (k : Int)) = xs.take k := by
  unfold cutV
  have e1 : HT.sIx xs.length 0 none = 0 := rfl
  have e2 : HT.sIx xs.length xs.length (some (k : Int)) = k := by unfold HT.sIx; simp only []; rw [if_neg (by omega), Int.toNat_natCast, Nat.min_eq_left h]
  rw [e1, e2]
  rfl
theorem cut_from {xs : List V} {k : Nat} (h : k ≤ xs.length) : cutV xs (some (k : Int)) none = xs.drop k := by
  unfold cutV
  have e1 : HT.sIx xs.length 0 (some (k : Int)) = k := by unfold HT.sIx; simp only []; rw [if_neg (by omega), Int.toNat_natCast, Nat.min_eq_left h]
  have e2 : HT.sIx xs.length xs.length none = xs.length := rfl
  rw [e1, e2, List.take_of_length_le]
  rw [List.length_drop]
  exact Nat.le_refl _
/-- values of one kind, each itself again -/
def Odd (Pr : Hp → V → Prop) (H : Hp) (xs : List V) : Prop := ∀ x ∈ xs, Pr H x ∧ Self x
theorem Odd.nil {Pr : Hp → V → Prop} {H : Hp} : Odd Pr H [] := fun _ h => nomatch h
theorem Odd.put {Pr : Hp → V → Prop} (mono : ∀ H H' x, More H H' → Pr H x → Pr H' x) {H H' : Hp} {xs : List V} {y : V} (h : Odd Pr H xs) (m : More H H') (n : Pr H' y) (s : Self y) : Odd Pr H' (y :: xs) := fun x hx => by
  rcases List.mem_cons.mp hx with rfl | hx
  · exact ⟨n, s⟩
  · exact ⟨mono _ _ _ m (h x hx).1, (h x hx).2⟩
theorem noSq_int {K : PySem.W.Frag} {H : Hp} (i : Int) : NoSq K H (.int i) := ⟨"int", by decide, .base (.int i)⟩
theorem noSq_non {K : PySem.W.Frag} {H : Hp} : NoSq K H .non := ⟨"NoneType", by decide, .base .non⟩
theorem noSq_str {K : PySem.W.Frag} {H : Hp} (z : Str) : NoSq K H (.str z) := ⟨"str", by decide, .base (.str z)⟩
theorem noInt_non {K : PySem.W.Frag} {H : Hp} : NoInt K H .non := ⟨"NoneType", by decide, .base .non⟩
theorem noInt_bl {K : PySem.W.Frag} {H : Hp} (b : Bool) : NoInt K H (.bl b) := ⟨"bool", by decide, .base (.bl b)⟩
theorem noInt_str {K : PySem.W.Frag} {H : Hp} (z : Str) : NoInt K H (.str z) := ⟨"str", by decide, .base (.str z)⟩
theorem noInt_lst {K : PySem.W.Frag} {H : Hp} {a : Addr} {xs : List V} (h : H a = some (.lst xs)) : NoInt K H (.ref a) := ⟨"list", by decide, .base (.lst h)⟩
theorem noInt_tup {K : PySem.W.Frag} {H : Hp} {a : Addr} {xs : List V} (h : H a = some (.tup xs)) : NoInt K H (.ref a) := ⟨"tuple", by decide, .base (.tup h)⟩
/-- flat items: ints, None, bools, texts -/
def Fl (ys : List V) : Prop := ∀ y ∈ ys, (∃ i, y = .int i) ∨ y = .non ∨ (∃ b, y = .bl b) ∨ ∃ z, y = .str z
theorem Fl.its {K : PySem.W.Frag} {H : Hp} {ys : List V} (h : Fl ys) (l : ys.length ≤ 1000) : Its K H ys := ⟨l, fun y hy => by
  obtain h | rfl | ⟨b, rfl⟩ | ⟨z, rfl⟩ := h y hy
  · exact .inl h
  · exact .inr noInt_non
  · exact .inr (noInt_bl b)
  · exact .inr (noInt_str z)⟩
theorem Fl.ints (l : List Int) : Fl (l.map V.int) := fun y hy => by
  obtain ⟨d, _, rfl⟩ := List.mem_map.mp hy
  exact .inl ⟨d, rfl⟩
theorem Fl.app {xs ys : List V} (a : Fl xs) (b : Fl ys) : Fl (xs ++ ys) := fun y hy => (List.mem_append.mp hy).elim (a y) (b y)
theorem Fl.rep {x : V} (k : Nat) (h : Fl [x]) : Fl (List.replicate k x) := fun y hy => by
  rw [(List.mem_replicate.mp hy).2]
  exact h x (.head _)
theorem Fl.non : Fl [.non] := fun y hy => by
  have e : y = .non := by simpa using hy
  exact .inr (.inl e)
theorem Fl.bl (b : Bool) : Fl [.bl b] := fun y hy => by
  have e : y = .bl b := by simpa using hy
  exact .inr (.inr (.inl ⟨b, e⟩))
theorem Fl.str (z : Str) : Fl [.str z] := fun y hy => by
  have e : y = .str z := by simpa using hy
  exact .inr (.inr (.inr ⟨z, e⟩))
theorem nrow_flat {K : PySem.W.Frag} {H : Hp} {p : Int} {many : Nat} {a : Addr} {ys : List V} (s : Sq K H a ys) (f : Fl ys) (l : ys.length ≤ 1000)
    (no : ys.all isI = false ∨ ((ys.length : Nat) : Int) ≠ p ∨ ∃ ds : List Int, ys = ds.map V.int ∧ ∃ d ∈ ds, ¬ (0 ≤ d ∧ d < (many : Int))) : NRow K H p many (.ref a) := by
  refine .inr ⟨a, ys, rfl, s, f.its l, ?_⟩
  by_cases e : ((ys.length : Nat) : Int) = p
  · obtain h | h | ⟨ds, rfl, h⟩ := no
    · exact .inl h
    · exact absurd e h
    · exact .inr (.inr ⟨ds, rfl, by rw [List.length_map] at e; exact e, h⟩)
  · exact .inr (.inl e)
theorem nwor_flat {K : PySem.W.Frag} {H : Hp} {many : Nat} {a : Addr} {ys : List V} (s : Sq K H a ys) (f : Fl ys) (l : ys.length ≤ 1000) (no : ys.all isI = false ∨ ys.length ≠ many) : NWor K H many (.ref a) := .inr ⟨a, ys, rfl, s, f.its l, no⟩
theorem op_mulZ {X : Cx} : OpR X (binaryOp .Mult) (fun x y H Q => ∃ p : Int, x = .str "0" ∧ y = .int p ∧ isPr p = true ∧ ∀ z : Str, Q (.str z) H) := by
  intro pins s σ H x y v u Q I rx ry h
  obtain ⟨p, rfl, rfl, pr, q⟩ := h
  obtain ⟨t, rfl⟩ := rx
  obtain ⟨t', rfl⟩ := ry
  obtain ⟨p2, p7⟩ := isPr_small pr
  have e : p = 2 ∨ p = 3 ∨ p = 4 ∨ p = 5 ∨ p = 6 ∨ p = 7 := by omega
  clear pr p2 p7
  refine PySem.P.mul_str ?_ ?_ ?_ ?_
  · rw [decide_eq_false (by omega), decide_eq_false (by omega)]; rfl
  · intro h1 h2 h3
    rcases e with rfl | rfl | rfl | rfl | rfl | rfl <;> exact absurd h3 (by decide)
  · intro h1 h2
    rcases e with rfl | rfl | rfl | rfl | rfl | rfl <;> decide +kernel
  · rcases e with rfl | rfl | rfl | rfl | rfl | rfl <;> exact ⟨by decide +kernel, .str _, H, I.tok _, ⟨_, rfl⟩, q _⟩
theorem sl1 {K : PySem.W.Frag} {σ : L2.St} {H : Hp} {a : Addr} {xs : List V} {Q : VK} (h : SqT K H a xs) (l : 1 ≤ xs.length) (q : ∀ p, H p = none → Q (.ref p) (upd H p (.tup (xs.drop 1)))) : tNoPart σ H fun u H3 => rSlA K (.ref a) (some 1) u H3 Q := by
  show rSlA K (.ref a) (some 1) none H Q
  refine ⟨a, xs, rfl, h, fun z => ?_, fun _ => ?_⟩
  · have z := z.1
    rw [show (some (1 : Int)) = some ((1 : Nat) : Int) from rfl, HT.sIx_nat] at z
    omega
  · rw [show (some (1 : Int)) = some ((1 : Nat) : Int) from rfl, cut_from l]
    exact q
theorem cat_any {K : PySem.W.Frag} {H : Hp} {a b : Addr} {xs ys : List V} {Q : VK} (ha : SqT K H a xs) (hb : SqT K H b ys) (few : xs.length + ys.length ≤ 1000)
    (q : ∀ e H', More H H' → SqT K H' e (xs ++ ys) → Q (.ref e) H') : rCatA K (.ref a) (.ref b) H Q := by
  refine ⟨a, b, xs, ys, rfl, rfl, ha, hb, by rw [sizeLine_eq]; omega, fun e => ?_, fun _ e => ?_, fun _ _ p np => q _ _ (new_more np) (SqT.of upd_same)⟩
  · subst e
    exact q _ _ (fun _ _ e => e) hb
  · subst e
    refine q _ _ (fun _ _ e => e) ?_
    rw [List.append_nil]
    exact ha
end B5

namespace K67
open PySem L2 Gd B5
abbrev sRf : Stmt := top 26
abbrev NRf : List Str := ["_law_pen_here", "_law_p", "_law_moves", "_law_worths", "_law_rows", "_law_odd", "_law_at", "_law_tries", "_law_bad", "_law_base", "_law_lone", "_law_many", "_law_some", "_law_row", "_law_state_here", "_law_found", "_law_due"]
theorem scRf : FnScope NRf ["_law_pen_here", "_law_p", "_law_moves", "_law_worths"] (defScope sRf) := ⟨rfl, rfl, rfl, by decide +kernel, rfl, by decide +kernel, by decide +kernel⟩
def lamR : Str := (PyProof.Rows.envOfC "_law_refuses" (defScope sRf) 0 0 .none).qual ++ "<lambda>"
def spRf (K : PySem.W.Frag) (Pt : Addr) : Sp := fun vs H Q _ => ∃ (d c M W : Addr) (n : Int) (p : Nat) (rs : List V) (dss : List (List Int)) (ws : List Int), vs = [.ref d, .int p, .ref M, .ref W] ∧ Pen H d c n ∧ 0 ≤ n ∧ n < 700000000 ∧ LamX.Tabs [(Pt, lamR)] H ∧
  H M = some (.tup rs) ∧ Paired (TupI K H) rs dss ∧ H W = some (.tup (ws.map V.int)) ∧ MGood p dss ws ∧ dss.length ≤ 20 ∧ ∀ H', Q (.bl true) H'
/-- what stands while the values are drawn -/
structure RA (K : PySem.W.Frag) (d c M W R : Addr) (rs vs : List V) (dss : List (List Int)) (ws : List Int) (p : Nat) (Pt : Addr) (n0 b : Int) (H : Hp) : Prop where
  pen : ∃ n, Pen H d c n ∧ n0 ≤ n ∧ n ≤ n0 + b
  tab : LamX.Tabs [(Pt, lamR)] H
  hM : H M = some (.tup rs)
  hp : Paired (TupI K H) rs dss
  hW : H W = some (.tup (ws.map V.int))
  hR : H R = some (.lst vs)
  hv : Paired (GRow K H p dss.length) vs dss
theorem RA.more {K : PySem.W.Frag} {d c M W R : Addr} {rs vs : List V} {dss : List (List Int)} {ws : List Int} {p : Nat} {Pt : Addr} {n0 b : Int} {H H' : Hp} (s : RA K d c M W R rs vs dss ws p Pt n0 b H) (m : More H H') : RA K d c M W R rs vs dss ws p Pt n0 b H' :=
  ⟨let ⟨n, pn, a, e⟩ := s.pen; let ⟨o1, h1⟩ := pn.at; let ⟨o2, h2⟩ := pn.atc; ⟨n, pn.keep ((m _ _ h1).trans h1.symm) ((m _ _ h2).trans h2.symm), a, e⟩, s.tab.ext m, m _ _ s.hM, paired_imp (fun _ _ r => r.more m) s.hp, m _ _ s.hW, m _ _ s.hR, paired_imp (fun _ _ r => r.more m) s.hv⟩
theorem RA.dr {K : PySem.W.Frag} {d c M W R : Addr} {rs vs : List V} {dss : List (List Int)} {ws : List Int} {p : Nat} {Pt : Addr} {n0 b n : Int} {H H' : Hp} (s : RA K d c M W R rs vs dss ws p Pt n0 b H) (pn : Pen H d c n) (n1 : n0 ≤ n) (n2 : n ≤ n0 + b) (dr : Drawn H H' d c (n + 1)) :
    RA K d c M W R rs vs dss ws p Pt n0 (b + 1) H' ∧ Kp H H' := by
  have k := Kp.dr dr pn
  obtain ⟨kvs, hd⟩ := pn.dk
  exact ⟨⟨⟨_, dr.pen, by omega, by omega⟩, tabs_off s.tab (.dr dr) hd, k.tup s.hM, paired_imp (fun _ _ r => r.kp k) s.hp, k.tup s.hW, k.lst s.hR, paired_imp (fun _ _ r => r.kp k) s.hv⟩, k⟩
/-- rows that a zero changes -/
def loneD (p m : Nat) : List (List Int) := [List.replicate p 1, List.replicate p 1] ++ List.replicate m (List.replicate p 0)
theorem lone_len {p m : Nat} : (loneD p m).length = m + 2 := by
  unfold loneD
  rw [List.length_append, List.length_replicate]
  show 2 + m = _
  omega
theorem lone_un {p : Nat} (h : 2 ≤ p) (m : Nat) : stdy (loneD p m) ([1, 2] ++ List.replicate m 1) = false := by
  obtain ⟨q, rfl⟩ : ∃ q, p = q + 1 := ⟨p - 1, by omega⟩
  rfl
theorem lone_paired {K : PySem.W.Frag} {H : Hp} {p m : Nat} {a b : Addr} {as : List V} (p2 : 2 ≤ (p : Int)) (ha : H a = some (.lst (List.replicate (p : Int).toNat (V.int 1)))) (hb : H b = some (.lst (List.replicate (p : Int).toNat (V.int 1))))
    (l : as.length = m) (al : ∀ x ∈ as, ∃ c, x = .ref c ∧ H c = some (.lst (List.replicate p (V.int 0)))) : Paired (GRow K H p (m + 2)) ([V.ref a, .ref b] ++ as) (loneD p m) := by
  refine paired_of (by rw [lone_len, List.length_append, l]; show 2 + m = _; omega) fun i x ds hx hds => ?_
  have one : ∀ {c : Addr}, H c = some (.lst (List.replicate (p : Int).toNat (V.int 1))) → GRow K H p (m + 2) (.ref c) (List.replicate p 1) := fun {c} e =>
    ⟨⟨c, rfl, .inl (SqL.of (by rw [List.map_replicate]; exact e))⟩, by rw [List.length_replicate], fun d hd => by rw [List.eq_of_mem_replicate hd]; omega⟩
  match i, hx, hds with
  | 0, hx, hds => cases hx; cases hds; exact one ha
  | 1, hx, hds => cases hx; cases hds; exact one hb
  | i + 2, hx, hds =>
    have hx : as[i]? = some x := hx
    have hds : (List.replicate m (List.replicate p (0 : Int)))[i]? = some ds := hds
    obtain ⟨c, rfl, e⟩ := al x (List.mem_of_getElem? hx)
    rw [List.eq_of_mem_replicate (List.mem_of_getElem? hds)]
    exact ⟨⟨c, rfl, .inl (SqL.of (by rw [List.map_replicate]; exact e))⟩, by rw [List.length_replicate], fun d hd => by rw [List.eq_of_mem_replicate hd]; omega⟩
section
variable {P : Program} {w : World} {K : PySem.W.Frag} {mg : Str → Option Value} {base : Heap}
theorem ok_rf {f c Pt : Addr} {kV doc pm ct oc : Value} {an od : Option Addr} {osl : Array (Option Value)} {g1 g2 gI gW C CN CR CU fN fR fU : Addr} {d1 d2 dI' dW fdN fdR fdU : FuncData}
    (lk : K.lookup f = some ⟨oc, od, .func (PySem.W.fnOf "_law_refuses" "_law_refuses" (defArgs sRf) (defBody sRf) (defScope sRf) .none kV doc pm an (.ref c) ct), osl⟩)
    (hcd : PySem.W.codeIn K (.ref c) "_law_refuses" = true) (TB : LamX.TabB base mg c Pt) (B : Blt mg) (Z : McC K mg C) (M : Mk K C gI) (bI : Binds K dI' ["self", "p", "moves", "worths"] []) (GI : FnOk P w K mg base (L2.CX P w) 5 gI dI' ["self", "p", "moves", "worths"] (spMI K C CN CR CU))
    (Dr : Cl K mg "_law_draw" sDraw ["_law_pen_here", "_law_many"] g1 d1) (Pi : Cl K mg "_law_pick" sPick ["_law_pen_here", "_law_some"] g2 d2) (Rf : Cl K mg "_law_refused" sRef ["_law_call"] gW dW) (T : Cau3 K CN CR CU)
    (N : Er K mg "BadNumber" "BadNumber.__init__" CN fN ["what", "number"] sBadNumber fdN) (Rr : Er K mg "BadRow" "BadRow.__init__" CR fR ["row"] sBadRow fdR) (U : Er K mg "Unlike" "Unlike.__init__" CU fU ["what"] sUnlike fdU) :
    FnG P w K mg base CX0 9 f (PySem.W.fnOf "_law_refuses" "_law_refuses" (defArgs sRf) (defBody sRf) (defScope sRf) .none kV doc pm an (.ref c) ct) ["_law_pen_here", "_law_p", "_law_moves", "_law_worths"] (spRf K Pt) := by
  have G1 : FnOk P w K mg base CX0 1 g1 d1 ["_law_pen_here", "_law_many"] spDraw := ok_draw Dr.fn B.int_ B.len_
  have G2 : FnOk P w K mg base CX0 2 g2 d2 ["_law_pen_here", "_law_some"] (spPick K) := ok_pick Pi.fn Dr.fn Dr.b Dr.g B.int_ B.len_
  refine fnG_of lk hcd scRf (fun vs H Q E h => ?_) (fun A outer s H vs Q E hgd hr h => ?_)
  · obtain ⟨d, c, M, W, n, p, rs, dss, ws, rfl, _⟩ := h
    rfl
  · obtain ⟨d, cc, M', W, n, p, rs, dss, ws, rfl, pen, n0, n1, tab, hM, hp, hW, g, few, fin⟩ := h
    have hr1 : Room 1 _ := hr.mono (by decide)
    have hr2 : Room 2 _ := hr.mono (by decide)
    obtain ⟨ocW, odW, kVW, docW, pmW, anW, cdW, ctW, oslW, rfl, lkW, hcdW⟩ := Rf.fn.ex
    have bW := Rf.b
    have lam : ∀ {params : Arguments} {body : Expr} {scope : Scope} {lpos p pos : Pos} {t : XK → TE}, LamX.LamS (defScope sRf) scope →
        defaultsOf params (cxOf CX0 P w K mg base NRf "_law_refuses" (defScope sRf) f (.ref c) A outer s H E).nox.env = ([], []) →
        (∀ (q : Str) (cl : List (Str × Addr)) (pm cv ctv : Value), bindArgs (PySem.W.kla_fn "<lambda>" q params body scope cl pm cv ctv) ⟨[], []⟩ = pure []) →
        (∀ (A' : Around) (outer' : List Env) (s' : Shared) (H' : Hp) (E' : XK) (f' c' : Addr), Room 6 (A'.deeper (LamX.lamEnv (cxOf CX0 P w K mg base NRf "_law_refuses" (defScope sRf) f (.ref c) A outer s H E).nox scope s'.heap.objs.size f' c')) →
          PE (LamX.lamCx (cxOf CX0 P w K mg base NRf "_law_refuses" (defScope sRf) f (.ref c) A outer s H E).nox A' outer' s' H' E' scope f' c') body (t E')) →
        PE (cxOf CX0 P w K mg base NRf "_law_refuses" (defScope sRf) f (.ref c) A outer s H E).nox
          (.Call (.Name "_law_refused" p) [.Lambda params body scope lpos] [] pos) (LamX.tLam [(Pt, lamR)] (TRef3 CN CR CU) t) := by
      intro params body scope lpos p pos t L hdef hbind hbody
      exact LamX.pe_lamcall (k := 6) (T := [(Pt, lamR)]) (c := c) (P := Pt) rfl Rf.g Rf.k lkW hcdW bW scRef rfl (.inl rfl)
        (ref_gives (k := 6) hr T N.g Rr.g U.g (N.no _ (.head _)) (N.no _ (.tail _ (.head _))) (Rr.no _ (.head _)) (U.no _ (.head _))) TB rfl (.head _)
        (fun p hp _ => by
          obtain rfl | hp := List.mem_cons.mp hp
          · rfl
          · exact (List.not_mem_nil hp).elim) hr L hdef hbind hbody
    suffices hh : ∃ t, PSs (cxOf CX0 P w K mg base NRf "_law_refuses" (defScope sRf) f (.ref c) A outer s H E).nox (defBody sRf) t ∧ t { nx := fun _ H' => Q .non H', rt := Q } (L2.start NRf [.ref d, .int p, .ref M', .ref W]) H by
      obtain ⟨t, d, q⟩ := hh
      exact ⟨t, d.nox, q⟩
    refine ⟨_, Evl.pss_cut (ps_asg (pe_tup (pa_cons (pe_callB call_len_seq (by rfl) B.len_ PySem.boot_len (pa_cons (pv 2) pa_nil))
          (pa_cons (pe_lc (own := [("_law_row", 13)]) (g := gName 13) (tt := tYes) rfl scRf.nd (pi_sq (K := K) rfl (pv 2))
            (blkOk_by (N := NRf) (sc := defScope sRf) (by decide +kernel)) (fun _ _ _ _ _ => pg_name (i := 13) scRf.nd rfl (Or.inl rfl)) (fun _ _ _ _ _ => pts_nil)
            (fun _ _ _ _ _ => pe_callTy (r := rLof K) (call_lof rfl) (by rfl) B.list_ (by decide +kernel) (pa_cons (pv 13) pa_nil))) pa_nil)))
          (pg_tup (by rfl) (pgs_cons (pg_name (i := 11) scRf.nd rfl (Or.inr rfl)) (pgs_cons (pg_name (i := 4) scRf.nd rfl (Or.inl rfl)) pgs_nil))))
      (Evl.pss_cut (ps_set (i := 9) scRf.nd rfl (Or.inr rfl) (pe_call G2 hr2 rfl Pi.g Pi.k Pi.b .nil pass0 (pa_cons (pv 0) (pa_cons (pe_lst (pa_cons pe_int (pa_cons pe_int (pa_cons pe_int (pa_cons pe_int (pa_cons pe_int
          (pa_cons (pe_un un_neg pe_int) (pa_cons pe_non (pa_cons pe_bl (pa_cons pe_str (pa_cons (pe_lst (pa_cons pe_int pa_nil)) (pa_cons (pe_op op_pow pe_int pe_int) pa_nil)))))))))))) pa_nil))))
      (Evl.pss_cut (ps_set (i := 5) scRf.nd rfl (Or.inl rfl) (pe_call G2 hr2 rfl Pi.g Pi.k Pi.b .nil pass0 (pa_cons (pv 0) (pa_cons (pe_lst (pa_cons pe_non (pa_cons pe_int (pa_cons (pe_tup pa_nil)
          (pa_cons (pe_op op_rep (pe_lst (pa_cons pe_int pa_nil)) (pe_op op_sub (pv 1) pe_int)) (pa_cons (pe_op op_rep (pe_lst (pa_cons pe_int pa_nil)) (pe_op op_add (pv 1) pe_int))
          (pa_cons (pe_op op_cat (pe_lst (pa_cons (pv 11) pa_nil)) (pe_op op_rep (pe_lst (pa_cons pe_int pa_nil)) (pe_op op_sub (pv 1) pe_int)))
          (pa_cons (pe_op op_cat (pe_op op_rep (pe_lst (pa_cons pe_int pa_nil)) (pe_op op_sub (pv 1) pe_int)) (pe_lst (pa_cons (pe_un un_neg pe_int) pa_nil))) pa_nil)))))))) pa_nil))))
      (Evl.pss_cut (ps_set (i := 5) scRf.nd rfl (Or.inl rfl) (pe_call G2 hr2 rfl Pi.g Pi.k Pi.b .nil pass0 (pa_cons (pv 0) (pa_cons (pe_lst (pa_cons (pv 5) (pa_cons (pe_op op_rep (pe_lst (pa_cons pe_non pa_nil)) (pv 1))
          (pa_cons (pe_op op_cat (pe_lst (pa_cons pe_bl pa_nil)) (pe_op op_rep (pe_lst (pa_cons pe_int pa_nil)) (pe_op op_sub (pv 1) pe_int))) (pa_cons (pe_op op_mulZ pe_str (pv 1)) pa_nil))))) pa_nil))))
      (Evl.pss_cut (ps_set (i := 6) scRf.nd rfl (Or.inl rfl) (pe_call G1 hr1 rfl Dr.g Dr.k Dr.b .nil pass0 (pa_cons (pv 0) (pa_cons (pv 11) pa_nil))))
      (Evl.pss_cut (ps_set (i := 8) scRf.nd rfl (Or.inr rfl) (pe_op op_cat (pe_op op_cat (pe_slice (r := rSlL K) sl_list (pv 4) po_none (po_some (pv 6))) (pe_lst (pa_cons (pv 5) pa_nil)))
          (pe_call G2 hr2 rfl Pi.g Pi.k Pi.b .nil pass0 (pa_cons (pv 0) (pa_cons (pe_lst (pa_cons (pe_slice (r := rSlL K) sl_list (pv 4) (po_some (pe_op op_add (pv 6) pe_int)) po_none)
            (pa_cons (pe_op op_rep (pe_lst (pa_cons pe_non pa_nil)) (pe_op op_sub (pe_op op_sub (pv 11) (pv 6)) pe_int)) pa_nil))) pa_nil)))))
      (Evl.pss_cut (ps_set (i := 12) scRf.nd rfl (Or.inr rfl) (pe_call G2 hr2 rfl Pi.g Pi.k Pi.b .nil pass0 (pa_cons (pv 0) (pa_cons (pe_lst (pa_cons pe_non (pa_cons (pe_slice (r := rSlA K) sl_tupA (pv 3) (po_some pe_int) po_none)
          (pa_cons (pe_op op_catA (pv 3) (pe_tup (pa_cons pe_int pa_nil)))
          (pa_cons (pe_op op_cat (pe_callTy call_list_of (by rfl) B.list_ (by decide +kernel) (pa_cons (pe_slice (r := rSlA K) sl_tupA (pv 3) (po_some pe_int) po_none) pa_nil)) (pe_lst (pa_cons pe_str pa_nil)))
          (pa_cons (pe_op op_catA (pe_slice (r := rSlA K) sl_tupA (pv 3) (po_some pe_int) po_none) (pe_tup (pa_cons pe_bl pa_nil))) (pa_cons pe_int pa_nil))))))) pa_nil))))
      (Evl.pss_cut (ps_set (i := 7) scRf.nd rfl (Or.inl rfl) (pe_lst (pa_cons (pe_tup (pa_cons (lam (LamX.lamS_by (by decide +kernel)) rfl (fun _ _ _ _ _ => rfl) (fun A' outer' s' H' E' f' c' hr' => pe_make M GI hr' rfl Z.g bI .nil takesLam (pa_cons (pv 9) (pa_cons (pe_lst pa_nil) (pa_cons pe_non pa_nil)))))
          (pa_cons (pe_lst (pa_cons pe_str (pa_cons pe_str (pa_cons (pv 9) pa_nil)))) pa_nil))) pa_nil)))
      (Evl.pss_cut (ps_expr (pe_bm PySem.F.plainAttrs_list PySem.F.slot_list_append PySem.F.type_list_append mt_append (pv 7) (pa_cons (pe_tup (pa_cons (lam (LamX.lamS_by (by decide +kernel)) rfl (fun _ _ _ _ _ => rfl) (fun A' outer' s' H' E' f' c' hr' => pe_make M GI hr' rfl Z.g bI .nil takesLam (pa_cons (pv 1) (pa_cons (pe_tup pa_nil) (pa_cons pe_non pa_nil)))))
          (pa_cons (pe_lst (pa_cons pe_str (pa_cons pe_str (pa_cons pe_int pa_nil)))) pa_nil))) pa_nil)))
      (Evl.pss_cut (ps_expr (pe_bm PySem.F.plainAttrs_list PySem.F.slot_list_append PySem.F.type_list_append mt_append (pv 7) (pa_cons (pe_tup (pa_cons (lam (LamX.lamS_by (by decide +kernel)) rfl (fun _ _ _ _ _ => rfl) (fun A' outer' s' H' E' f' c' hr' => pe_make M GI hr' rfl Z.g bI .nil takesLam (pa_cons (pv 1) (pa_cons (pv 8) (pa_cons pe_non pa_nil)))))
          (pa_cons (pe_lst (pa_cons pe_str (pa_cons (pv 5) pa_nil))) pa_nil))) pa_nil)))
      (Evl.pss_cut (ps_expr (pe_bm PySem.F.plainAttrs_list PySem.F.slot_list_append PySem.F.type_list_append mt_append (pv 7) (pa_cons (pe_tup (pa_cons (lam (LamX.lamS_by (by decide +kernel)) rfl (fun _ _ _ _ _ => rfl) (fun A' outer' s' H' E' f' c' hr' => pe_make M GI hr' rfl Z.g bI .nil takesLam (pa_cons (pv 1) (pa_cons (pv 2) (pa_cons (pv 12) pa_nil)))))
          (pa_cons (pe_lst (pa_cons pe_str (pa_cons (pv 12) pa_nil))) pa_nil))) pa_nil)))
      (Evl.pss_cut (ps_set (i := 10) scRf.nd rfl (Or.inr rfl) (pe_op op_cat (pe_lst (pa_cons (pe_op op_rep (pe_lst (pa_cons pe_int pa_nil)) (pv 1)) (pa_cons (pe_op op_rep (pe_lst (pa_cons pe_int pa_nil)) (pv 1)) pa_nil)))
          (pe_lc (own := [("_law_state_here", 14)]) (g := gName 14) (tt := tYes) rfl scRf.nd (pi_range1 (by rfl) B.range_ (pa_cons (pv 11) pa_nil))
            (blkOk_by (N := NRf) (sc := defScope sRf) (by decide +kernel)) (fun _ _ _ _ _ => pg_name (i := 14) scRf.nd rfl (Or.inl rfl)) (fun _ _ _ _ _ => pts_nil)
            (fun _ _ _ _ _ => pe_op op_rep (pe_lst (pa_cons pe_int pa_nil)) (pv 1)))))
      (Evl.pss_cut (ps_expr (pe_bm PySem.F.plainAttrs_list PySem.F.slot_list_append PySem.F.type_list_append mt_append (pv 7) (pa_cons (pe_tup (pa_cons (lam (LamX.lamS_by (by decide +kernel)) rfl (fun _ _ _ _ _ => rfl) (fun A' outer' s' H' E' f' c' hr' => pe_make M GI hr' rfl Z.g bI .nil takesLam (pa_cons (pv 1) (pa_cons (pv 10) (pa_cons (pe_op op_cat (pe_lst (pa_cons pe_int (pa_cons pe_int pa_nil))) (pe_op op_rep (pe_lst (pa_cons pe_int pa_nil)) (pv 11))) pa_nil)))))
          (pa_cons (pe_lst (pa_cons pe_str (pa_cons pe_str pa_nil))) pa_nil))) pa_nil)))
      (pss_one (ps_ret (pe_callB (cr_all rfl) (by rfl) B.all_ (by decide +kernel) (pa_cons (pe_lc (own := [("_law_found", 15), ("_law_due", 16)]) (g := gTup K 2 (gCons (gName 15) (gCons (gName 16) gNil))) (tt := tYes) rfl scRf.nd (pi_list (pv 7))
            (blkOk_by (N := NRf) (sc := defScope sRf) (by decide +kernel)) (fun _ _ _ _ _ => pg_tup rfl (pgs_cons (pg_name (i := 15) scRf.nd rfl (Or.inl rfl)) (pgs_cons (pg_name (i := 16) scRf.nd rfl (Or.inl rfl)) pgs_nil))) (fun _ _ _ _ _ => pts_nil)
            (fun _ _ _ _ _ => pe_cmpR (op_eqSelf hr1) (pv 15) (pv 16) (nomark _))) pa_nil)))))))))))))))), ?_⟩
    have dl : rs.length = dss.length := Paired.length hp
    obtain ⟨p2, p7⟩ := isPr_small g.pr
    have d0 : 0 < dss.length := List.length_pos_iff.mpr g.ne
    refine ⟨fun σ' H' => ∃ R vs, σ' = [some (.ref d), some (.int p), some (.ref M'), some (.ref W), some (.ref R), none, none, none, none, none, none, some (.int (dss.length : Nat)), none, none, none, none, none] ∧ RA K d cc M' W R rs vs dss ws p Pt n 0 H', ?_, ?_⟩
    · refine ⟨_, rfl, M', rs, rfl, .inr (SqT.of hM), _, rfl, M', rs, rfl, .inr (SqT.of hM), fun J Z' wk hZ D hD => ?_⟩
      refine lc_rel (n := 13) (D := D) (H1 := H) wk (fun i v H' => ∃ ds, dss[i]? = some ds ∧ ∃ b, v = .ref b ∧ SqL K H' b (ds.map V.int)) (fun i v H' H'' m ⟨ds, e, b, e2, t⟩ => ⟨ds, e, b, e2, Same.seq m t⟩) hD (fun H' m => hZ H' (.of m)) (by omega) (fun _ => rfl) ?_ ?_
      · intro i y H2 Q2 hy m m' ⟨l0, hl0⟩ q2
        obtain ⟨ds, hds, b, rfl, sb⟩ := paired_at hp hy
        refine ⟨_, rfl, b, ds.map V.int, rfl, .inr (sqT_more m sb), fun l hl => q2 _ _ (new_more hl) ⟨ds, hds, l, rfl, SqL.of ?_⟩⟩
        rw [del_ne (ne_of_none hl0 hl).symm, upd_same]
      · intro H3 G vs vl mG mH nG al hD3
        refine ⟨by show 2 ≤ sizeLine; decide, fun t ht => ⟨t, _, rfl, SqT.of upd_same, rfl, _, _, rfl, _, _, rfl, rfl, ⟨D, vs, ?_, ?_⟩⟩⟩
        · rw [dl]
          rfl
        have m3 : More H (upd H3 t (.tup [.int (rs.length : Nat), .ref D])) := fun b o e => new_more ht _ _ (mH _ _ (mG _ _ e))
        obtain ⟨o1, h1⟩ := pen.at
        obtain ⟨o2, h2⟩ := pen.atc
        refine ⟨⟨n, pen.keep ((m3 _ _ h1).trans h1.symm) ((m3 _ _ h2).trans h2.symm), Int.le_refl _, by omega⟩, tab.ext m3, m3 _ _ hM, paired_imp (fun _ _ r => r.more m3) hp, m3 _ _ hW, new_more ht _ _ hD3, paired_of (by omega) fun i x ds hx hds => ?_⟩
        obtain ⟨ds', e, b, rfl, sb⟩ := al i x hx
        rw [hds] at e
        cases e
        obtain ⟨l, r⟩ := g.rows ds (List.mem_of_getElem? hds)
        exact ⟨⟨b, rfl, .inl (Same.seq (fun b o e => new_more ht _ _ (mH _ _ e)) sb)⟩, l, r⟩
    clear hM hp hW tab pen dl
    rintro σ1 H1 ⟨R, vs, rfl, s1⟩
    have vl : vs.length = dss.length := Paired.length s1.hv
    -- the base
    refine ⟨fun σ' H' => ∃ xb, σ' = [some (.ref d), some (.int p), some (.ref M'), some (.ref W), some (.ref R), none, none, none, none, some xb, none, some (.int (dss.length : Nat)), none, none, none, none, none] ∧ RA K d cc M' W R rs vs dss ws p Pt n 1 H' ∧ BadP K H' xb ∧ Self xb, ?_, ?_⟩
    · refine ⟨_, rfl, _, rfl, by show 1 ≤ sizeLine; decide, fun l1 hl1 => ?_⟩
      have m2 := new_more (o := .lst [V.int 2]) hl1
      have e2 : (upd H1 l1 (.lst [V.int 2])) l1 = some (.lst [V.int 2]) := upd_same
      generalize upd H1 l1 (.lst [V.int 2]) = H2 at m2 e2 ⊢
      refine ⟨_, _, rfl, rfl, ⟨by decide, by decide, by decide⟩, by show 11 ≤ sizeLine; decide, fun L hL => ?_⟩
      have m3 := new_more (o := .lst [V.int 0, .int 1, .int 4, .int 6, .int 11, .int (-2), .non, .bl true, .str "2", .ref l1, .int ((10 : Int) ^ (20 : Int).toNat)]) hL
      have s3 := (s1.more m2).more m3
      obtain ⟨n', pn, b1, b2⟩ := s3.pen
      refine ⟨d, cc, L, n', _, rfl, pn, upd_same, by show 0 < 11; decide, by show 11 ≤ 1000; decide, by omega, by omega, fun x H3 hx dr => ?_⟩
      obtain ⟨s4, k⟩ := s3.dr pn b1 b2 dr
      refine ⟨x, rfl, s4, ?_⟩
      have od : BadP K (upd H2 L (.lst [V.int 0, .int 1, .int 4, .int 6, .int 11, .int (-2), .non, .bl true, .str "2", .ref l1, .int ((10 : Int) ^ (20 : Int).toNat)])) x ∧ Self x := by
        rcases List.mem_cons.mp hx with rfl | hx
        · exact ⟨.inl ⟨_, rfl, by decide⟩, self_int _⟩
        rcases List.mem_cons.mp hx with rfl | hx
        · exact ⟨.inl ⟨_, rfl, by decide⟩, self_int _⟩
        rcases List.mem_cons.mp hx with rfl | hx
        · exact ⟨.inl ⟨_, rfl, by decide⟩, self_int _⟩
        rcases List.mem_cons.mp hx with rfl | hx
        · exact ⟨.inl ⟨_, rfl, by decide⟩, self_int _⟩
        rcases List.mem_cons.mp hx with rfl | hx
        · exact ⟨.inl ⟨_, rfl, by decide⟩, self_int _⟩
        rcases List.mem_cons.mp hx with rfl | hx
        · exact ⟨.inl ⟨_, rfl, by decide⟩, self_int _⟩
        rcases List.mem_cons.mp hx with rfl | hx
        · exact ⟨.inr noInt_non, self_non⟩
        rcases List.mem_cons.mp hx with rfl | hx
        · exact ⟨.inr (noInt_bl _), self_bl _⟩
        rcases List.mem_cons.mp hx with rfl | hx
        · exact ⟨.inr (noInt_str _), self_str _⟩
        rcases List.mem_cons.mp hx with rfl | hx
        · exact ⟨.inr (noInt_lst (m3 _ _ e2)), self_ref _⟩
        rcases List.mem_cons.mp hx with rfl | hx
        · exact ⟨.inl ⟨_, rfl, by decide +kernel⟩, self_int _⟩
        · exact (List.not_mem_nil hx).elim
      exact ⟨od.1.kp k, od.2⟩
    rintro σ2 H2 ⟨xb, rfl, s2, bb, bs⟩
    clear s1
    -- what is no row
    refine ⟨fun σ' H' => ∃ xo, σ' = [some (.ref d), some (.int p), some (.ref M'), some (.ref W), some (.ref R), some xo, none, none, none, some xb, none, some (.int (dss.length : Nat)), none, none, none, none, none] ∧ RA K d cc M' W R rs vs dss ws p Pt n 2 H' ∧ BadP K H' xb ∧ NRow K H' p dss.length xo ∧ Self xo, ?_, ?_⟩
    · refine ⟨_, rfl, by show 0 ≤ sizeLine; decide, fun t0 ht0 => ?_⟩
      have m3 := new_more (o := .tup []) ht0
      have e_t0 : (upd H2 t0 (.tup [])) t0 = some (.tup []) := upd_same
      generalize upd H2 t0 (.tup []) = H3 at m3 e_t0 ⊢
      refine ⟨by show 1 ≤ sizeLine; decide, fun ra_ hra_ => ?_⟩
      have m4 := new_more (o := .lst [V.int 0]) hra_
      have e_ra_ : (upd H3 ra_ (.lst [V.int 0])) ra_ = some (.lst [V.int 0]) := upd_same
      generalize upd H3 ra_ (.lst [V.int 0]) = H4 at m4 e_ra_ ⊢
      refine ⟨_, rfl, _, _, rfl, rfl, ra_, _, _, rfl, rfl, e_ra_, by omega, by omega, by rw [sizeLine_eq]; show 1 * _ ≤ _; omega, fun ra hra => ?_⟩
      rw [rep_one]
      have m5 := new_more (o := .lst (List.replicate ((p : Int) - 1).toNat (V.int 0))) hra
      have e_ra : (upd H4 ra (.lst (List.replicate ((p : Int) - 1).toNat (V.int 0)))) ra = some (.lst (List.replicate ((p : Int) - 1).toNat (V.int 0))) := upd_same
      generalize upd H4 ra (.lst (List.replicate ((p : Int) - 1).toNat (V.int 0))) = H5 at m5 e_ra ⊢
      refine ⟨by show 1 ≤ sizeLine; decide, fun rb_ hrb_ => ?_⟩
      have m6 := new_more (o := .lst [V.int 0]) hrb_
      have e_rb_ : (upd H5 rb_ (.lst [V.int 0])) rb_ = some (.lst [V.int 0]) := upd_same
      generalize upd H5 rb_ (.lst [V.int 0]) = H6 at m6 e_rb_ ⊢
      refine ⟨_, rfl, _, _, rfl, rfl, rb_, _, _, rfl, rfl, e_rb_, by omega, by omega, by rw [sizeLine_eq]; show 1 * _ ≤ _; omega, fun rb hrb => ?_⟩
      rw [rep_one]
      have m7 := new_more (o := .lst (List.replicate ((p : Int) + 1).toNat (V.int 0))) hrb
      have e_rb : (upd H6 rb (.lst (List.replicate ((p : Int) + 1).toNat (V.int 0)))) rb = some (.lst (List.replicate ((p : Int) + 1).toNat (V.int 0))) := upd_same
      generalize upd H6 rb (.lst (List.replicate ((p : Int) + 1).toNat (V.int 0))) = H7 at m7 e_rb ⊢
      refine ⟨_, rfl, by show 1 ≤ sizeLine; decide, fun rc hrc => ?_⟩
      have m8 := new_more (o := .lst [V.int (dss.length : Nat)]) hrc
      have e_rc : (upd H7 rc (.lst [V.int (dss.length : Nat)])) rc = some (.lst [V.int (dss.length : Nat)]) := upd_same
      generalize upd H7 rc (.lst [V.int (dss.length : Nat)]) = H8 at m8 e_rc ⊢
      refine ⟨by show 1 ≤ sizeLine; decide, fun rd_ hrd_ => ?_⟩
      have m9 := new_more (o := .lst [V.int 0]) hrd_
      have e_rd_ : (upd H8 rd_ (.lst [V.int 0])) rd_ = some (.lst [V.int 0]) := upd_same
      generalize upd H8 rd_ (.lst [V.int 0]) = H9 at m9 e_rd_ ⊢
      refine ⟨_, rfl, _, _, rfl, rfl, rd_, _, _, rfl, rfl, e_rd_, by omega, by omega, by rw [sizeLine_eq]; show 1 * _ ≤ _; omega, fun rd hrd => ?_⟩
      rw [rep_one]
      have m10 := new_more (o := .lst (List.replicate ((p : Int) - 1).toNat (V.int 0))) hrd
      have e_rd : (upd H9 rd (.lst (List.replicate ((p : Int) - 1).toNat (V.int 0)))) rd = some (.lst (List.replicate ((p : Int) - 1).toNat (V.int 0))) := upd_same
      generalize upd H9 rd (.lst (List.replicate ((p : Int) - 1).toNat (V.int 0))) = H10 at m10 e_rd ⊢
      refine ⟨rc, rd, _, _, rfl, rfl, (m10 _ _ (m9 _ _ e_rc)), e_rd, by rw [sizeLine_eq, List.length_replicate]; show 1 + _ ≤ _; omega, fun re hre => ?_⟩
      have m11 := new_more (o := .lst ([V.int (dss.length : Nat)] ++ List.replicate ((p : Int) - 1).toNat (V.int 0))) hre
      have e_re : (upd H10 re (.lst ([V.int (dss.length : Nat)] ++ List.replicate ((p : Int) - 1).toNat (V.int 0)))) re = some (.lst ([V.int (dss.length : Nat)] ++ List.replicate ((p : Int) - 1).toNat (V.int 0))) := upd_same
      generalize upd H10 re (.lst ([V.int (dss.length : Nat)] ++ List.replicate ((p : Int) - 1).toNat (V.int 0))) = H11 at m11 e_re ⊢
      refine ⟨by show 1 ≤ sizeLine; decide, fun rf_ hrf_ => ?_⟩
      have m12 := new_more (o := .lst [V.int 0]) hrf_
      have e_rf_ : (upd H11 rf_ (.lst [V.int 0])) rf_ = some (.lst [V.int 0]) := upd_same
      generalize upd H11 rf_ (.lst [V.int 0]) = H12 at m12 e_rf_ ⊢
      refine ⟨_, rfl, _, _, rfl, rfl, rf_, _, _, rfl, rfl, e_rf_, by omega, by omega, by rw [sizeLine_eq]; show 1 * _ ≤ _; omega, fun rf hrf => ?_⟩
      rw [rep_one]
      have m13 := new_more (o := .lst (List.replicate ((p : Int) - 1).toNat (V.int 0))) hrf
      have e_rf : (upd H12 rf (.lst (List.replicate ((p : Int) - 1).toNat (V.int 0)))) rf = some (.lst (List.replicate ((p : Int) - 1).toNat (V.int 0))) := upd_same
      generalize upd H12 rf (.lst (List.replicate ((p : Int) - 1).toNat (V.int 0))) = H13 at m13 e_rf ⊢
      refine ⟨_, rfl, by show 1 ≤ sizeLine; decide, fun rg hrg => ?_⟩
      have m14 := new_more (o := .lst [V.int (-1)]) hrg
      have e_rg : (upd H13 rg (.lst [V.int (-1)])) rg = some (.lst [V.int (-1)]) := upd_same
      generalize upd H13 rg (.lst [V.int (-1)]) = H14 at m14 e_rg ⊢
      refine ⟨rf, rg, _, _, rfl, rfl, (m14 _ _ e_rf), e_rg, by rw [sizeLine_eq, List.length_replicate]; show _ + 1 ≤ _; omega, fun rh hrh => ?_⟩
      have m15 := new_more (o := .lst (List.replicate ((p : Int) - 1).toNat (V.int 0) ++ [V.int (-1)])) hrh
      have e_rh : (upd H14 rh (.lst (List.replicate ((p : Int) - 1).toNat (V.int 0) ++ [V.int (-1)]))) rh = some (.lst (List.replicate ((p : Int) - 1).toNat (V.int 0) ++ [V.int (-1)])) := upd_same
      generalize upd H14 rh (.lst (List.replicate ((p : Int) - 1).toNat (V.int 0) ++ [V.int (-1)])) = H15 at m15 e_rh ⊢
      refine ⟨by show 7 ≤ sizeLine; decide, fun L hL => ?_⟩
      have m16 := new_more (o := .lst [V.non, .int 5, .ref t0, .ref ra, .ref rb, .ref re, .ref rh]) hL
      have e_L : (upd H15 L (.lst [V.non, .int 5, .ref t0, .ref ra, .ref rb, .ref re, .ref rh])) L = some (.lst [V.non, .int 5, .ref t0, .ref ra, .ref rb, .ref re, .ref rh]) := upd_same
      generalize upd H15 L (.lst [V.non, .int 5, .ref t0, .ref ra, .ref rb, .ref re, .ref rh]) = H16 at m16 e_L ⊢
      have z0 : Fl [V.int 0] := Fl.ints [0]
      have s3 := s2.more (fun b o e => m16 _ _ (m15 _ _ (m14 _ _ (m13 _ _ (m12 _ _ (m11 _ _ (m10 _ _ (m9 _ _ (m8 _ _ (m7 _ _ (m6 _ _ (m5 _ _ (m4 _ _ (m3 _ _ e))))))))))))))
      obtain ⟨n', pn, b1, b2⟩ := s3.pen
      refine ⟨d, cc, L, n', _, rfl, pn, e_L, by show 0 < 7; decide, by show 7 ≤ 1000; decide, by omega, by omega, fun x H' hx dr => ?_⟩
      obtain ⟨s4, k⟩ := s3.dr pn b1 b2 dr
      refine ⟨x, rfl, s4, (bb.kp (.of (fun b o e => m16 _ _ (m15 _ _ (m14 _ _ (m13 _ _ (m12 _ _ (m11 _ _ (m10 _ _ (m9 _ _ (m8 _ _ (m7 _ _ (m6 _ _ (m5 _ _ (m4 _ _ (m3 _ _ e)))))))))))))))).kp k, ?_⟩
      have od : NRow K H16 p dss.length x ∧ Self x := by
        rcases List.mem_cons.mp hx with rfl | hx
        · exact ⟨.inl noSq_non, self_non⟩
        rcases List.mem_cons.mp hx with rfl | hx
        · exact ⟨.inl (noSq_int _), self_int _⟩
        rcases List.mem_cons.mp hx with rfl | hx
        · exact ⟨nrow_flat (.inr (SqT.of (m16 _ _ (m15 _ _ (m14 _ _ (m13 _ _ (m12 _ _ (m11 _ _ (m10 _ _ (m9 _ _ (m8 _ _ (m7 _ _ (m6 _ _ (m5 _ _ (m4 _ _ e_t0))))))))))))))) (fun _ h => nomatch h) (by decide) (.inr (.inl (by show ((0 : Nat) : Int) ≠ _; omega))), self_ref _⟩
        rcases List.mem_cons.mp hx with rfl | hx
        · exact ⟨nrow_flat (.inl (SqL.of (m16 _ _ (m15 _ _ (m14 _ _ (m13 _ _ (m12 _ _ (m11 _ _ (m10 _ _ (m9 _ _ (m8 _ _ (m7 _ _ (m6 _ _ e_ra))))))))))))) (.rep _ z0) (by rw [List.length_replicate]; omega) (.inr (.inl (by rw [List.length_replicate]; omega))), self_ref _⟩
        rcases List.mem_cons.mp hx with rfl | hx
        · exact ⟨nrow_flat (.inl (SqL.of (m16 _ _ (m15 _ _ (m14 _ _ (m13 _ _ (m12 _ _ (m11 _ _ (m10 _ _ (m9 _ _ (m8 _ _ e_rb))))))))))) (.rep _ z0) (by rw [List.length_replicate]; omega) (.inr (.inl (by rw [List.length_replicate]; omega))), self_ref _⟩
        rcases List.mem_cons.mp hx with rfl | hx
        · refine ⟨nrow_flat (.inl (SqL.of (m16 _ _ (m15 _ _ (m14 _ _ (m13 _ _ (m12 _ _ e_re))))))) (.app (Fl.ints [_]) (.rep _ z0)) (by rw [List.length_append, List.length_replicate]; show 1 + _ ≤ _; omega) (.inr (.inr ⟨((dss.length : Nat) : Int) :: List.replicate ((p : Int) - 1).toNat 0, ?_, _, .head _, by omega⟩)), self_ref _⟩
          rw [List.map_cons, List.map_replicate]
          rfl
        rcases List.mem_cons.mp hx with rfl | hx
        · refine ⟨nrow_flat (.inl (SqL.of (m16 _ _ e_rh))) (.app (.rep _ z0) (Fl.ints [_])) (by rw [List.length_append, List.length_replicate]; show _ + 1 ≤ _; omega) (.inr (.inr ⟨List.replicate ((p : Int) - 1).toNat 0 ++ [-1], ?_, -1, List.mem_append.mpr (.inr (.head _)), by omega⟩)), self_ref _⟩
          rw [List.map_append, List.map_replicate]
          rfl
        · exact (List.not_mem_nil hx).elim
      exact ⟨od.1.kp k, od.2⟩
    rintro σ3 H3 ⟨xo, rfl, s3, bb3, on, os⟩
    clear s2 bb
    refine ⟨fun σ' H' => ∃ xo, σ' = [some (.ref d), some (.int p), some (.ref M'), some (.ref W), some (.ref R), some xo, none, none, none, some xb, none, some (.int (dss.length : Nat)), none, none, none, none, none] ∧ RA K d cc M' W R rs vs dss ws p Pt n 3 H' ∧ BadP K H' xb ∧ NRow K H' p dss.length xo ∧ Self xo, ?_, ?_⟩
    · refine ⟨_, rfl, _, rfl, ?_⟩
      refine ⟨by show 1 ≤ sizeLine; decide, fun ra_ hra_ => ?_⟩
      have m4 := new_more (o := .lst [V.non]) hra_
      have e_ra_ : (upd H3 ra_ (.lst [V.non])) ra_ = some (.lst [V.non]) := upd_same
      generalize upd H3 ra_ (.lst [V.non]) = H4 at m4 e_ra_ ⊢
      refine ⟨_, rfl, ra_, _, _, rfl, rfl, e_ra_, by omega, by omega, by rw [sizeLine_eq]; show 1 * _ ≤ _; omega, fun ra hra => ?_⟩
      rw [rep_one]
      have m5 := new_more (o := .lst (List.replicate (p : Int).toNat (V.non))) hra
      have e_ra : (upd H4 ra (.lst (List.replicate (p : Int).toNat (V.non)))) ra = some (.lst (List.replicate (p : Int).toNat (V.non))) := upd_same
      generalize upd H4 ra (.lst (List.replicate (p : Int).toNat (V.non))) = H5 at m5 e_ra ⊢
      refine ⟨by show 1 ≤ sizeLine; decide, fun rc hrc => ?_⟩
      have m6 := new_more (o := .lst [V.bl true]) hrc
      have e_rc : (upd H5 rc (.lst [V.bl true])) rc = some (.lst [V.bl true]) := upd_same
      generalize upd H5 rc (.lst [V.bl true]) = H6 at m6 e_rc ⊢
      refine ⟨by show 1 ≤ sizeLine; decide, fun rd_ hrd_ => ?_⟩
      have m7 := new_more (o := .lst [V.int 0]) hrd_
      have e_rd_ : (upd H6 rd_ (.lst [V.int 0])) rd_ = some (.lst [V.int 0]) := upd_same
      generalize upd H6 rd_ (.lst [V.int 0]) = H7 at m7 e_rd_ ⊢
      refine ⟨_, rfl, _, _, rfl, rfl, rd_, _, _, rfl, rfl, e_rd_, by omega, by omega, by rw [sizeLine_eq]; show 1 * _ ≤ _; omega, fun rd hrd => ?_⟩
      rw [rep_one]
      have m8 := new_more (o := .lst (List.replicate ((p : Int) - 1).toNat (V.int 0))) hrd
      have e_rd : (upd H7 rd (.lst (List.replicate ((p : Int) - 1).toNat (V.int 0)))) rd = some (.lst (List.replicate ((p : Int) - 1).toNat (V.int 0))) := upd_same
      generalize upd H7 rd (.lst (List.replicate ((p : Int) - 1).toNat (V.int 0))) = H8 at m8 e_rd ⊢
      refine ⟨rc, rd, _, _, rfl, rfl, (m8 _ _ (m7 _ _ e_rc)), e_rd, by rw [sizeLine_eq, List.length_replicate]; show 1 + _ ≤ _; omega, fun re hre => ?_⟩
      have m9 := new_more (o := .lst ([V.bl true] ++ List.replicate ((p : Int) - 1).toNat (V.int 0))) hre
      have e_re : (upd H8 re (.lst ([V.bl true] ++ List.replicate ((p : Int) - 1).toNat (V.int 0)))) re = some (.lst ([V.bl true] ++ List.replicate ((p : Int) - 1).toNat (V.int 0))) := upd_same
      generalize upd H8 re (.lst ([V.bl true] ++ List.replicate ((p : Int) - 1).toNat (V.int 0))) = H9 at m9 e_re ⊢
      refine ⟨_, rfl, (p : Int), rfl, rfl, g.pr, fun zz => ⟨by show 4 ≤ sizeLine; decide, fun L hL => ?_⟩⟩
      have m10 := new_more (o := .lst [xo, .ref ra, .ref re, .str zz]) hL
      have e_L : (upd H9 L (.lst [xo, .ref ra, .ref re, .str zz])) L = some (.lst [xo, .ref ra, .ref re, .str zz]) := upd_same
      generalize upd H9 L (.lst [xo, .ref ra, .ref re, .str zz]) = H10 at m10 e_L ⊢
      have z0 : Fl [V.int 0] := Fl.ints [0]
      have s4 := s3.more (fun b o e => m10 _ _ (m9 _ _ (m8 _ _ (m7 _ _ (m6 _ _ (m5 _ _ (m4 _ _ e)))))))
      obtain ⟨n', pn, b1, b2⟩ := s4.pen
      refine ⟨d, cc, L, n', _, rfl, pn, e_L, by show 0 < 4; decide, by show 4 ≤ 1000; decide, by omega, by omega, fun x H' hx dr => ?_⟩
      obtain ⟨s5, k⟩ := s4.dr pn b1 b2 dr
      refine ⟨x, rfl, s5, (bb3.kp (.of (fun b o e => m10 _ _ (m9 _ _ (m8 _ _ (m7 _ _ (m6 _ _ (m5 _ _ (m4 _ _ e))))))))).kp k, ?_⟩
      have od : NRow K H10 p dss.length x ∧ Self x := by
        rcases List.mem_cons.mp hx with rfl | hx
        · exact ⟨on.kp (.of (fun b o e => m10 _ _ (m9 _ _ (m8 _ _ (m7 _ _ (m6 _ _ (m5 _ _ (m4 _ _ e)))))))), os⟩
        rcases List.mem_cons.mp hx with rfl | hx
        · exact ⟨nrow_flat (.inl (SqL.of (m10 _ _ (m9 _ _ (m8 _ _ (m7 _ _ (m6 _ _ e_ra))))))) (.rep _ .non) (by rw [List.length_replicate]; omega) (.inl (by
            rw [show (p : Int).toNat = p - 1 + 1 by omega]
            rfl)), self_ref _⟩
        rcases List.mem_cons.mp hx with rfl | hx
        · exact ⟨nrow_flat (.inl (SqL.of (m10 _ _ e_re))) (.app (Fl.bl _) (.rep _ z0)) (by rw [List.length_append, List.length_replicate]; show 1 + _ ≤ _; omega) (.inl rfl), self_ref _⟩
        rcases List.mem_cons.mp hx with rfl | hx
        · exact ⟨.inl (noSq_str _), self_str _⟩
        · exact (List.not_mem_nil hx).elim
      exact ⟨od.1.kp k, od.2⟩
    rintro σ4 H4 ⟨xo, rfl, s4, bb4, on, os⟩
    clear s3 bb3
    -- the place of the wrong row
    refine ⟨fun σ' H' => ∃ at_ : Nat, at_ < dss.length ∧ σ' = [some (.ref d), some (.int p), some (.ref M'), some (.ref W), some (.ref R), some xo, some (.int at_), none, none, some xb, none, some (.int (dss.length : Nat)), none, none, none, none, none] ∧ RA K d cc M' W R rs vs dss ws p Pt n 4 H' ∧ BadP K H' xb ∧ NRow K H' p dss.length xo, ?_, ?_⟩
    · obtain ⟨n', pn, b1, b2⟩ := s4.pen
      refine ⟨_, rfl, _, rfl, d, cc, n', (dss.length : Nat), rfl, pn, by omega, by omega, by omega, by omega, fun r H' r0 r1 dr => ?_⟩
      obtain ⟨s5, k⟩ := s4.dr pn b1 b2 dr
      obtain ⟨at_, rfl⟩ : ∃ at_ : Nat, r = at_ := ⟨r.toNat, by omega⟩
      exact ⟨at_, by omega, rfl, s5, bb4.kp k, on.kp k⟩
    rintro σ5 H5 ⟨at_, alt, rfl, s5, bb5, on5⟩
    clear s4 bb4 on
    -- rows with a wrong one among them
    refine ⟨fun σ' H' => ∃ Bd tl, σ' = [some (.ref d), some (.int p), some (.ref M'), some (.ref W), some (.ref R), some xo, some (.int at_), none, some (.ref Bd), some xb, none, some (.int (dss.length : Nat)), none, none, none, none, none] ∧ RA K d cc M' W R rs vs dss ws p Pt n 5 H' ∧ BadP K H' xb ∧ NRow K H' p dss.length xo ∧
      H' Bd = some (.lst (vs.take at_ ++ [xo] ++ tl)) ∧ tl.length = dss.length - at_ - 1, ?_, ?_⟩
    · refine ⟨_, rfl, _, rfl, _, rfl, R, vs, rfl, SqL.of s5.hR, fun b1 hb1 => ?_⟩
      rw [cut_to (by omega)]
      have m6 := new_more (o := .lst (vs.take at_)) hb1
      have e_b1 : (upd H5 b1 (.lst (vs.take at_))) b1 = some (.lst (vs.take at_)) := upd_same
      generalize upd H5 b1 (.lst (vs.take at_)) = H6 at m6 e_b1 ⊢
      refine ⟨_, rfl, by show 1 ≤ sizeLine; decide, fun b2 hb2 => ?_⟩
      have m7 := new_more (o := .lst [xo]) hb2
      have e_b2 : (upd H6 b2 (.lst [xo])) b2 = some (.lst [xo]) := upd_same
      generalize upd H6 b2 (.lst [xo]) = H7 at m7 e_b2 ⊢
      refine ⟨b1, b2, _, _, rfl, rfl, (m7 _ _ e_b1), e_b2, by rw [sizeLine_eq, List.length_take]; show _ + 1 ≤ _; omega, fun b3 hb3 => ?_⟩
      have m8 := new_more (o := .lst (vs.take at_ ++ [xo])) hb3
      have e_b3 : (upd H7 b3 (.lst (vs.take at_ ++ [xo]))) b3 = some (.lst (vs.take at_ ++ [xo])) := upd_same
      generalize upd H7 b3 (.lst (vs.take at_ ++ [xo])) = H8 at m8 e_b3 ⊢
      refine ⟨_, rfl, _, rfl, _, rfl, _, _, rfl, rfl, _, rfl, R, vs, rfl, SqL.of (m8 _ _ (m7 _ _ (m6 _ _ s5.hR))), fun b4 hb4 => ?_⟩
      rw [show ((at_ : Int) + 1) = ((at_ + 1 : Nat) : Int) from rfl, cut_from (by omega)]
      have m9 := new_more (o := .lst (vs.drop (at_ + 1))) hb4
      have e_b4 : (upd H8 b4 (.lst (vs.drop (at_ + 1)))) b4 = some (.lst (vs.drop (at_ + 1))) := upd_same
      generalize upd H8 b4 (.lst (vs.drop (at_ + 1))) = H9 at m9 e_b4 ⊢
      refine ⟨by show 1 ≤ sizeLine; decide, fun b5_ hb5_ => ?_⟩
      have m10 := new_more (o := .lst [V.non]) hb5_
      have e_b5_ : (upd H9 b5_ (.lst [V.non])) b5_ = some (.lst [V.non]) := upd_same
      generalize upd H9 b5_ (.lst [V.non]) = H10 at m10 e_b5_ ⊢
      refine ⟨_, rfl, _, rfl, _, _, rfl, rfl, _, _, rfl, rfl, b5_, _, _, rfl, rfl, e_b5_, by omega, by omega, by rw [sizeLine_eq]; show 1 * _ ≤ _; omega, fun b5 hb5 => ?_⟩
      rw [rep_one]
      have m11 := new_more (o := .lst (List.replicate (((dss.length : Nat) : Int) - at_ - 1).toNat (V.non))) hb5
      have e_b5 : (upd H10 b5 (.lst (List.replicate (((dss.length : Nat) : Int) - at_ - 1).toNat (V.non)))) b5 = some (.lst (List.replicate (((dss.length : Nat) : Int) - at_ - 1).toNat (V.non))) := upd_same
      generalize upd H10 b5 (.lst (List.replicate (((dss.length : Nat) : Int) - at_ - 1).toNat (V.non))) = H11 at m11 e_b5 ⊢
      refine ⟨by show 2 ≤ sizeLine; decide, fun L hL => ?_⟩
      have m12 := new_more (o := .lst [V.ref b4, .ref b5]) hL
      have e_L : (upd H11 L (.lst [V.ref b4, .ref b5])) L = some (.lst [V.ref b4, .ref b5]) := upd_same
      generalize upd H11 L (.lst [V.ref b4, .ref b5]) = H12 at m12 e_L ⊢
      have s6 := s5.more (fun b o e => m12 _ _ (m11 _ _ (m10 _ _ (m9 _ _ (m8 _ _ (m7 _ _ (m6 _ _ e)))))))
      obtain ⟨n', pn, q1, q2⟩ := s6.pen
      refine ⟨d, cc, L, n', _, rfl, pn, e_L, by show 0 < 2; decide, by show 2 ≤ 1000; decide, by omega, by omega, fun x H' hx dr => ?_⟩
      obtain ⟨s7, k⟩ := s6.dr pn q1 q2 dr
      obtain ⟨bx, tl, rfl, hbx, ltl⟩ : ∃ bx tl, x = .ref bx ∧ H' bx = some (.lst tl) ∧ tl.length = dss.length - at_ - 1 := by
        rcases List.mem_cons.mp hx with rfl | hx
        · exact ⟨b4, _, rfl, k.lst (m12 _ _ (m11 _ _ (m10 _ _ e_b4))), by rw [List.length_drop]; omega⟩
        rcases List.mem_cons.mp hx with rfl | hx
        · exact ⟨b5, _, rfl, k.lst (m12 _ _ e_b5), by rw [List.length_replicate]; omega⟩
        · exact (List.not_mem_nil hx).elim
      refine ⟨b3, bx, _, _, rfl, rfl, k.lst (m12 _ _ (m11 _ _ (m10 _ _ (m9 _ _ e_b3)))), hbx, by rw [sizeLine_eq, List.length_append, List.length_take]; show _ + 1 + _ ≤ _; omega, fun Bd hBd => ?_⟩
      have mB := new_more (o := .lst (vs.take at_ ++ [xo] ++ tl)) hBd
      exact ⟨Bd, tl, rfl, s7.more mB, ((bb5.kp (.of (fun b o e => m12 _ _ (m11 _ _ (m10 _ _ (m9 _ _ (m8 _ _ (m7 _ _ (m6 _ _ e))))))))).kp k).kp (.of mB), ((on5.kp (.of (fun b o e => m12 _ _ (m11 _ _ (m10 _ _ (m9 _ _ (m8 _ _ (m7 _ _ (m6 _ _ e))))))))).kp k).kp (.of mB), upd_same, ltl⟩
    rintro σ6 H6 ⟨Bd, tl, rfl, s6, bb6, on6, hBd, ltl⟩
    clear s5 bb5 on5
    -- what is no row of worths
    refine ⟨fun σ' H' => ∃ sm, σ' = [some (.ref d), some (.int p), some (.ref M'), some (.ref W), some (.ref R), some xo, some (.int at_), none, some (.ref Bd), some xb, none, some (.int (dss.length : Nat)), some sm, none, none, none, none] ∧ RA K d cc M' W R rs vs dss ws p Pt n 6 H' ∧ BadP K H' xb ∧ NRow K H' p dss.length xo ∧
      H' Bd = some (.lst (vs.take at_ ++ [xo] ++ tl)) ∧ NWor K H' dss.length sm ∧ Self sm, ?_, ?_⟩
    · have wl : (ws.map V.int).length = dss.length := by rw [List.length_map, g.len]
      have wl1 : ((ws.map V.int).drop 1).length = dss.length - 1 := by rw [List.length_drop, wl]
      have wf : Fl ((ws.map V.int).drop 1) := fun y hy => Fl.ints ws y (List.mem_of_mem_drop hy)
      refine ⟨_, rfl, _, rfl, _, rfl, ?_⟩
      refine sl1 (SqT.of s6.hW) (by omega) fun c1 hc1 => ?_
      have m7 := new_more (o := .tup ((ws.map V.int).drop 1)) hc1
      have e_c1 : (upd H6 c1 (.tup ((ws.map V.int).drop 1))) c1 = some (.tup ((ws.map V.int).drop 1)) := upd_same
      generalize upd H6 c1 (.tup ((ws.map V.int).drop 1)) = H7 at m7 e_c1 ⊢
      refine ⟨_, rfl, by show 1 ≤ sizeLine; decide, fun c2 hc2 => ?_⟩
      have m8 := new_more (o := .tup [V.int 0]) hc2
      have e_c2 : (upd H7 c2 (.tup [V.int 0])) c2 = some (.tup [V.int 0]) := upd_same
      generalize upd H7 c2 (.tup [V.int 0]) = H8 at m8 e_c2 ⊢
      refine cat_any (SqT.of (m8 _ _ (m7 _ _ s6.hW))) (SqT.of e_c2) (by rw [wl]; show _ + 1 ≤ _; omega) fun c3 Hc mc hc3 => ?_
      refine ⟨_, rfl, _, rfl, ?_⟩
      refine sl1 (SqT.of (mc _ _ (m8 _ _ (m7 _ _ s6.hW)))) (by omega) fun c4 hc4 => ?_
      have m10 := new_more (o := .tup ((ws.map V.int).drop 1)) hc4
      have e_c4 : (upd Hc c4 (.tup ((ws.map V.int).drop 1))) c4 = some (.tup ((ws.map V.int).drop 1)) := upd_same
      generalize upd Hc c4 (.tup ((ws.map V.int).drop 1)) = H10 at m10 e_c4 ⊢
      refine ⟨c4, _, rfl, .inr (SqT.of e_c4), fun c5 hc5 => ?_⟩
      have m11 := new_more (o := .lst ((ws.map V.int).drop 1)) hc5
      have e_c5 : (upd H10 c5 (.lst ((ws.map V.int).drop 1))) c5 = some (.lst ((ws.map V.int).drop 1)) := upd_same
      generalize upd H10 c5 (.lst ((ws.map V.int).drop 1)) = H11 at m11 e_c5 ⊢
      refine ⟨by show 1 ≤ sizeLine; decide, fun c6 hc6 => ?_⟩
      have m12 := new_more (o := .lst [V.str "1"]) hc6
      have e_c6 : (upd H11 c6 (.lst [V.str "1"])) c6 = some (.lst [V.str "1"]) := upd_same
      generalize upd H11 c6 (.lst [V.str "1"]) = H12 at m12 e_c6 ⊢
      refine ⟨c5, c6, _, _, rfl, rfl, (m12 _ _ e_c5), e_c6, by rw [sizeLine_eq, wl1]; show _ + 1 ≤ _; omega, fun c7 hc7 => ?_⟩
      have m13 := new_more (o := .lst ((ws.map V.int).drop 1 ++ [V.str "1"])) hc7
      have e_c7 : (upd H12 c7 (.lst ((ws.map V.int).drop 1 ++ [V.str "1"]))) c7 = some (.lst ((ws.map V.int).drop 1 ++ [V.str "1"])) := upd_same
      generalize upd H12 c7 (.lst ((ws.map V.int).drop 1 ++ [V.str "1"])) = H13 at m13 e_c7 ⊢
      refine ⟨_, rfl, _, rfl, ?_⟩
      refine sl1 (SqT.of (m13 _ _ (m12 _ _ (m11 _ _ (m10 _ _ (mc _ _ (m8 _ _ (m7 _ _ s6.hW)))))))) (by omega) fun c8 hc8 => ?_
      have m14 := new_more (o := .tup ((ws.map V.int).drop 1)) hc8
      have e_c8 : (upd H13 c8 (.tup ((ws.map V.int).drop 1))) c8 = some (.tup ((ws.map V.int).drop 1)) := upd_same
      generalize upd H13 c8 (.tup ((ws.map V.int).drop 1)) = H14 at m14 e_c8 ⊢
      refine ⟨by show 1 ≤ sizeLine; decide, fun c9 hc9 => ?_⟩
      have m15 := new_more (o := .tup [V.bl true]) hc9
      have e_c9 : (upd H14 c9 (.tup [V.bl true])) c9 = some (.tup [V.bl true]) := upd_same
      generalize upd H14 c9 (.tup [V.bl true]) = H15 at m15 e_c9 ⊢
      refine cat_any (SqT.of (m15 _ _ e_c8)) (SqT.of e_c9) (by rw [wl1]; show _ + 1 ≤ _; omega) fun ca Hd md hca => ?_
      refine ⟨by show 6 ≤ sizeLine; decide, fun L hL => ?_⟩
      have m17 := new_more (o := .lst [V.non, .ref c1, .ref c3, .ref c7, .ref ca, .int 7]) hL
      have e_L : (upd Hd L (.lst [V.non, .ref c1, .ref c3, .ref c7, .ref ca, .int 7])) L = some (.lst [V.non, .ref c1, .ref c3, .ref c7, .ref ca, .int 7]) := upd_same
      generalize upd Hd L (.lst [V.non, .ref c1, .ref c3, .ref c7, .ref ca, .int 7]) = H17 at m17 e_L ⊢
      have s7 := s6.more (fun b o e => m17 _ _ (md _ _ (m15 _ _ (m14 _ _ (m13 _ _ (m12 _ _ (m11 _ _ (m10 _ _ (mc _ _ (m8 _ _ (m7 _ _ e)))))))))))
      obtain ⟨n', pn, q1, q2⟩ := s7.pen
      refine ⟨d, cc, L, n', _, rfl, pn, e_L, by show 0 < 6; decide, by show 6 ≤ 1000; decide, by omega, by omega, fun x H' hx dr => ?_⟩
      obtain ⟨s8, k⟩ := s7.dr pn q1 q2 dr
      refine ⟨x, rfl, s8, (bb6.kp (.of (fun b o e => m17 _ _ (md _ _ (m15 _ _ (m14 _ _ (m13 _ _ (m12 _ _ (m11 _ _ (m10 _ _ (mc _ _ (m8 _ _ (m7 _ _ e))))))))))))).kp k, (on6.kp (.of (fun b o e => m17 _ _ (md _ _ (m15 _ _ (m14 _ _ (m13 _ _ (m12 _ _ (m11 _ _ (m10 _ _ (mc _ _ (m8 _ _ (m7 _ _ e))))))))))))).kp k, k.lst (m17 _ _ (md _ _ (m15 _ _ (m14 _ _ (m13 _ _ (m12 _ _ (m11 _ _ (m10 _ _ (mc _ _ (m8 _ _ (m7 _ _ hBd))))))))))), ?_⟩
      have od : NWor K H17 dss.length x ∧ Self x := by
        rcases List.mem_cons.mp hx with rfl | hx
        · exact ⟨.inl noSq_non, self_non⟩
        rcases List.mem_cons.mp hx with rfl | hx
        · exact ⟨nwor_flat (.inr (SqT.of (m17 _ _ (md _ _ (m15 _ _ (m14 _ _ (m13 _ _ (m12 _ _ (m11 _ _ (m10 _ _ (mc _ _ (m8 _ _ e_c1)))))))))))) wf (by omega) (.inr (by omega)), self_ref _⟩
        rcases List.mem_cons.mp hx with rfl | hx
        · exact ⟨nwor_flat (.inr (sqT_more (fun b o e => m17 _ _ (md _ _ (m15 _ _ (m14 _ _ (m13 _ _ (m12 _ _ (m11 _ _ (m10 _ _ e)))))))) hc3)) (.app (Fl.ints ws) (Fl.ints [0])) (by rw [List.length_append, wl]; show _ + 1 ≤ _; omega) (.inr (by rw [List.length_append, wl]; show _ + 1 ≠ _; omega)), self_ref _⟩
        rcases List.mem_cons.mp hx with rfl | hx
        · exact ⟨nwor_flat (.inl (SqL.of (m17 _ _ (md _ _ (m15 _ _ (m14 _ _ e_c7)))))) (.app wf (Fl.str _)) (by rw [List.length_append, wl1]; show _ + 1 ≤ _; omega) (.inl (by rw [List.all_append]; exact Bool.and_false _)), self_ref _⟩
        rcases List.mem_cons.mp hx with rfl | hx
        · exact ⟨nwor_flat (.inr (sqT_more (fun b o e => m17 _ _ e) hca)) (.app wf (Fl.bl _)) (by rw [List.length_append, wl1]; show _ + 1 ≤ _; omega) (.inl (by rw [List.all_append]; exact Bool.and_false _)), self_ref _⟩
        rcases List.mem_cons.mp hx with rfl | hx
        · exact ⟨.inl (noSq_int _), self_int _⟩
        · exact (List.not_mem_nil hx).elim
      exact ⟨od.1.kp k, od.2⟩
    rintro σ7 H7 ⟨sm, rfl, s7, bb7, on7, hBd, sw7, ss⟩
    clear s6 bb6 on6
    have xl : (vs.take at_ ++ [xo] ++ tl).length = dss.length := by
      rw [List.length_append, List.length_append, List.length_take]
      show _ + 1 + _ = _
      omega
    have xat : (vs.take at_ ++ [xo] ++ tl)[at_]? = some xo := by
      rw [List.append_assoc, List.getElem?_append_right (by rw [List.length_take]; omega), List.length_take, Nat.min_eq_left (by omega), Nat.sub_self]
      rfl
    have rl : rs.length = dss.length := Paired.length s7.hp
    have hpG : ∀ {H' : Hp}, Kp H7 H' → Paired (GRow K H' p rs.length) rs dss := fun {H'} k => paired_of rl fun i x ds hx hds => by
      obtain ⟨ds', e, b, rfl, sb⟩ := paired_at s7.hp hx
      rw [hds] at e
      cases e
      obtain ⟨l, r⟩ := g.rows ds (List.mem_of_getElem? hds)
      exact ⟨⟨b, rfl, .inr (sqT_kp k sb)⟩, l, by rw [rl]; exact r⟩
    refine ⟨fun σ' H' => ∃ Lt ts, σ' = [some (.ref d), some (.int p), some (.ref M'), some (.ref W), some (.ref R), some xo, some (.int at_), some (.ref Lt), some (.ref Bd), some xb, none, some (.int (dss.length : Nat)), some sm, none, none, none, none] ∧ Jr H7 Lt [(Pt, lamR)] ts H' ∧ ts.length ≤ 1, ?_, ?_⟩
    · refine ⟨s7.tab, fun H8 eN tN => ?_⟩
      have k8 := Kp.ext eN
      refine ⟨_, rfl, by show 0 ≤ sizeLine; decide, fun l hl => ?_⟩
      have m9 := new_more (o := .lst []) hl
      have e_l : (upd H8 l (.lst [])) l = some (.lst []) := upd_same
      generalize upd H8 l (.lst []) = H9 at m9 e_l ⊢
      intro x dx hx hdx ne
      have m10 : More H9 (upd (upd H9 dx (.own x)) x (.ins C dx [])) := fun b o e => by
        rw [upd_ne (ne_of_none e hx), upd_ne (ne_of_none e hdx)]
        exact e
      have eI : (upd (upd H9 dx (.own x)) x (.ins C dx [])) x = some (.ins C dx []) := upd_same
      generalize upd (upd H9 dx (.own x)) x (.ins C dx []) = H10 at m10 eI ⊢
      refine ⟨x, dx, xb, .ref l, .non, rfl, eI, .inl (.inl ⟨(bb7.kp k8).kp (.of (fun b o e => m10 _ _ (m9 _ _ e))), fun dd hdd => .inl ⟨rfl, dd, _, _, rfl, upd_same, fun t ht => ?_⟩⟩)⟩
      have m11 : More H10 (upd (upd H10 dd (.xd [("number", xb), ("what", .str "p")])) t (.lst [.str "number", .str "p", xb])) := fun b o e => new_more ht _ _ (new_more hdd _ _ e)
      have e_t : (upd (upd H10 dd (.xd [("number", xb), ("what", .str "p")])) t (.lst [.str "number", .str "p", xb])) t = some (.lst [.str "number", .str "p", xb]) := upd_same
      generalize upd (upd H10 dd (.xd [("number", xb), ("what", .str "p")])) t (.lst [.str "number", .str "p", xb]) = H11 at m11 e_t ⊢
      refine ⟨_, rfl, by show 3 ≤ sizeLine; decide, fun u hu => ?_⟩
      have m12 := new_more (o := .lst [V.str "number", .str "p", xb]) hu
      have e_u : (upd H11 u (.lst [V.str "number", .str "p", xb])) u = some (.lst [V.str "number", .str "p", xb]) := upd_same
      generalize upd H11 u (.lst [V.str "number", .str "p", xb]) = H12 at m12 e_u ⊢
      refine ⟨by show 2 ≤ sizeLine; decide, fun q hq => ?_⟩
      have m13 := new_more (o := .tup [V.ref t, .ref u]) hq
      have e_q : (upd H12 q (.tup [V.ref t, .ref u])) q = some (.tup [V.ref t, .ref u]) := upd_same
      generalize upd H12 q (.tup [V.ref t, .ref u]) = H13 at m13 e_q ⊢
      refine ⟨by show 1 ≤ sizeLine; decide, fun Lt hLt => ?_⟩
      exact ⟨Lt, _, rfl, Jr.first (eN.trans (.of (fun b o e => m13 _ _ (m12 _ _ (m11 _ _ (m10 _ _ (m9 _ _ e))))))) (tN.ext (fun b o e => m13 _ _ (m12 _ _ (m11 _ _ (m10 _ _ (m9 _ _ e)))))) hLt e_q (m13 _ _ (m12 _ _ e_t)) (m13 _ _ e_u) (fun y hy => by
        rcases List.mem_cons.mp hy with rfl | hy
        · exact self_str _
        rcases List.mem_cons.mp hy with rfl | hy
        · exact self_str _
        rcases List.mem_cons.mp hy with rfl | hy
        · exact bs
        · exact (List.not_mem_nil hy).elim), Nat.le_refl _⟩
    rintro σ9 H9 ⟨Lt, ts, rfl, j, tl9⟩
    refine ⟨fun σ' H' => ∃ Lt ts, σ' = [some (.ref d), some (.int p), some (.ref M'), some (.ref W), some (.ref R), some xo, some (.int at_), some (.ref Lt), some (.ref Bd), some xb, none, some (.int (dss.length : Nat)), some sm, none, none, none, none] ∧ Jr H7 Lt [(Pt, lamR)] ts H' ∧ ts.length ≤ 2, ?_, ?_⟩
    · refine ⟨_, rfl, .inl ⟨rfl, _, SqL.of j.at_⟩, j.tab, fun H10 eN tN => ?_⟩
      have k9 := (Kp.ext j.base).trans (Kp.ext eN)
      have hL10 := eN _ _ j.at_ (fun _ z => nomatch z)
      refine ⟨_, rfl, by show 0 ≤ sizeLine; decide, fun l hl => ?_⟩
      have m11 := new_more (o := .tup []) hl
      have e_l : (upd H10 l (.tup [])) l = some (.tup []) := upd_same
      generalize upd H10 l (.tup []) = H11 at m11 e_l ⊢
      intro x dx hx hdx ne
      have m12 : More H11 (upd (upd H11 dx (.own x)) x (.ins C dx [])) := fun b o e => by
        rw [upd_ne (ne_of_none e hx), upd_ne (ne_of_none e hdx)]
        exact e
      have eI : (upd (upd H11 dx (.own x)) x (.ins C dx [])) x = some (.ins C dx []) := upd_same
      generalize upd (upd H11 dx (.own x)) x (.ins C dx []) = H12 at m12 eI ⊢
      refine ⟨x, dx, .int p, .ref l, .non, rfl, eI, .inl (.inr ⟨p, l, [], rfl, g.pr, rfl, .inr (SqT.of (m12 _ _ e_l)), by decide, .inl ⟨rfl, fun dd hdd => .inl ⟨rfl, dd, _, _, rfl, upd_same, fun t ht => ?_⟩⟩⟩)⟩
      have ht0 : H12 t = none := (new_more hdd).off ht
      have m13 : More H12 (upd (upd H12 dd (.xd [("number", .int 0), ("what", .str "states")])) t (.lst [.str "number", .str "states", .int 0])) := fun b o e => new_more ht _ _ (new_more hdd _ _ e)
      have e_t : (upd (upd H12 dd (.xd [("number", .int 0), ("what", .str "states")])) t (.lst [.str "number", .str "states", .int 0])) t = some (.lst [.str "number", .str "states", .int 0]) := upd_same
      generalize upd (upd H12 dd (.xd [("number", .int 0), ("what", .str "states")])) t (.lst [.str "number", .str "states", .int 0]) = H13 at m13 e_t ⊢
      refine ⟨by show 3 ≤ sizeLine; decide, fun u hu => ?_⟩
      have m14 := new_more (o := .lst [V.str "number", .str "states", .int 0]) hu
      have e_u : (upd H13 u (.lst [V.str "number", .str "states", .int 0])) u = some (.lst [V.str "number", .str "states", .int 0]) := upd_same
      generalize upd H13 u (.lst [V.str "number", .str "states", .int 0]) = H14 at m14 e_u ⊢
      refine ⟨by show 2 ≤ sizeLine; decide, fun q hq => ?_⟩
      have m15 := new_more (o := .tup [V.ref t, .ref u]) hq
      have e_q : (upd H14 q (.tup [V.ref t, .ref u])) q = some (.tup [V.ref t, .ref u]) := upd_same
      generalize upd H14 q (.tup [V.ref t, .ref u]) = H15 at m15 e_q ⊢
      have tL : t ≠ Lt := (ne_of_none (m12 _ _ (m11 _ _ hL10)) ht0).symm
      have uL : u ≠ Lt := (ne_of_none (m13 _ _ (m12 _ _ (m11 _ _ hL10))) hu).symm
      refine ⟨Lt, _, _, rfl, rfl, (m15 _ _ (m14 _ _ (m13 _ _ (m12 _ _ (m11 _ _ hL10))))), by rw [sizeLine_eq]; omega, Lt, _, rfl, Jr.step j (eN.trans (.of (fun b o e => m15 _ _ (m14 _ _ (m13 _ _ (m12 _ _ (m11 _ _ e))))))) (tN.ext (fun b o e => m15 _ _ (m14 _ _ (m13 _ _ (m12 _ _ (m11 _ _ e)))))) tL uL e_q (m15 _ _ (m14 _ _ e_t)) (m15 _ _ e_u) (fun y hy => by
        rcases List.mem_cons.mp hy with rfl | hy
        · exact self_str _
        rcases List.mem_cons.mp hy with rfl | hy
        · exact self_str _
        rcases List.mem_cons.mp hy with rfl | hy
        · exact self_int _
        · exact (List.not_mem_nil hy).elim), by rw [List.length_append]; show _ + 1 ≤ _; omega⟩
    rintro σ9 H9 ⟨Lt, ts, rfl, j, tl9⟩
    refine ⟨fun σ' H' => ∃ Lt ts, σ' = [some (.ref d), some (.int p), some (.ref M'), some (.ref W), some (.ref R), some xo, some (.int at_), some (.ref Lt), some (.ref Bd), some xb, none, some (.int (dss.length : Nat)), some sm, none, none, none, none] ∧ Jr H7 Lt [(Pt, lamR)] ts H' ∧ ts.length ≤ 3, ?_, ?_⟩
    · refine ⟨_, rfl, .inl ⟨rfl, _, SqL.of j.at_⟩, j.tab, fun H10 eN tN => ?_⟩
      have k9 := (Kp.ext j.base).trans (Kp.ext eN)
      have hL10 := eN _ _ j.at_ (fun _ z => nomatch z)
      refine ⟨_, rfl, _, rfl, ?_⟩
      intro x dx hx hdx ne
      have m11 : More H10 (upd (upd H10 dx (.own x)) x (.ins C dx [])) := fun b o e => by
        rw [upd_ne (ne_of_none e hx), upd_ne (ne_of_none e hdx)]
        exact e
      have eI : (upd (upd H10 dx (.own x)) x (.ins C dx [])) x = some (.ins C dx []) := upd_same
      generalize upd (upd H10 dx (.own x)) x (.ins C dx []) = H11 at m11 eI ⊢
      have kI := k9.trans (.of (fun b o e => m11 _ _ e))
      refine ⟨x, dx, .int p, .ref Bd, .non, rfl, eI, .inl (.inr ⟨p, Bd, _, rfl, g.pr, rfl, .inl (SqL.of (kI.lst hBd)), by omega, .inr (.inl ⟨fun e => by rw [e] at xl; exact absurd xl (by show 0 ≠ _; omega), at_, xo, xat, by rw [xl]; exact on7.kp kI, fun i y hi hy => ?_, fun Hz mz dd hdd => .inr (.inl ⟨rfl, dd, _, rfl, upd_same, fun t ht => ?_⟩)⟩)⟩)⟩
      · rw [List.append_assoc, List.getElem?_append_left (by rw [List.length_take]; omega), List.getElem?_take, if_pos hi] at hy
        obtain ⟨ds, _, gr⟩ := paired_at s7.hv hy
        exact ⟨ds, by rw [xl]; exact gr.kp kI⟩
      have ht0 : Hz t = none := (new_more hdd).off ht
      have m13 : More Hz (upd (upd Hz dd (.xd [("row", xo)])) t (.lst [.str "row", xo])) := fun b o e => new_more ht _ _ (new_more hdd _ _ e)
      have e_t : (upd (upd Hz dd (.xd [("row", xo)])) t (.lst [.str "row", xo])) t = some (.lst [.str "row", xo]) := upd_same
      generalize upd (upd Hz dd (.xd [("row", xo)])) t (.lst [.str "row", xo]) = H13 at m13 e_t ⊢
      refine ⟨_, rfl, by show 2 ≤ sizeLine; decide, fun u hu => ?_⟩
      have m14 := new_more (o := .lst [V.str "row", xo]) hu
      have e_u : (upd H13 u (.lst [V.str "row", xo])) u = some (.lst [V.str "row", xo]) := upd_same
      generalize upd H13 u (.lst [V.str "row", xo]) = H14 at m14 e_u ⊢
      refine ⟨by show 2 ≤ sizeLine; decide, fun q hq => ?_⟩
      have m15 := new_more (o := .tup [V.ref t, .ref u]) hq
      have e_q : (upd H14 q (.tup [V.ref t, .ref u])) q = some (.tup [V.ref t, .ref u]) := upd_same
      generalize upd H14 q (.tup [V.ref t, .ref u]) = H15 at m15 e_q ⊢
      have tL : t ≠ Lt := (ne_of_none (mz _ _ (m11 _ _ hL10)) ht0).symm
      have uL : u ≠ Lt := (ne_of_none (m13 _ _ (mz _ _ (m11 _ _ hL10))) hu).symm
      refine ⟨Lt, _, _, rfl, rfl, (m15 _ _ (m14 _ _ (m13 _ _ (mz _ _ (m11 _ _ hL10))))), by rw [sizeLine_eq]; omega, Lt, _, rfl, Jr.step j (eN.trans (.of (fun b o e => m15 _ _ (m14 _ _ (m13 _ _ (mz _ _ (m11 _ _ e))))))) (tN.ext (fun b o e => m15 _ _ (m14 _ _ (m13 _ _ (mz _ _ (m11 _ _ e)))))) tL uL e_q (m15 _ _ (m14 _ _ e_t)) (m15 _ _ e_u) (fun y hy => by
        rcases List.mem_cons.mp hy with rfl | hy
        · exact self_str _
        rcases List.mem_cons.mp hy with rfl | hy
        · exact os
        · exact (List.not_mem_nil hy).elim), by rw [List.length_append]; show _ + 1 ≤ _; omega⟩
    rintro σ9 H9 ⟨Lt, ts, rfl, j, tl9⟩
    refine ⟨fun σ' H' => ∃ Lt ts, σ' = [some (.ref d), some (.int p), some (.ref M'), some (.ref W), some (.ref R), some xo, some (.int at_), some (.ref Lt), some (.ref Bd), some xb, none, some (.int (dss.length : Nat)), some sm, none, none, none, none] ∧ Jr H7 Lt [(Pt, lamR)] ts H' ∧ ts.length ≤ 4, ?_, ?_⟩
    · refine ⟨_, rfl, .inl ⟨rfl, _, SqL.of j.at_⟩, j.tab, fun H10 eN tN => ?_⟩
      have k9 := (Kp.ext j.base).trans (Kp.ext eN)
      have hL10 := eN _ _ j.at_ (fun _ z => nomatch z)
      refine ⟨_, rfl, _, rfl, _, rfl, ?_⟩
      intro x dx hx hdx ne
      have m11 : More H10 (upd (upd H10 dx (.own x)) x (.ins C dx [])) := fun b o e => by
        rw [upd_ne (ne_of_none e hx), upd_ne (ne_of_none e hdx)]
        exact e
      have eI : (upd (upd H10 dx (.own x)) x (.ins C dx [])) x = some (.ins C dx []) := upd_same
      generalize upd (upd H10 dx (.own x)) x (.ins C dx []) = H11 at m11 eI ⊢
      have kI := k9.trans (.of (fun b o e => m11 _ _ e))
      refine ⟨x, dx, .int p, .ref M', sm, rfl, eI, .inl (.inr ⟨p, M', rs, rfl, g.pr, rfl, .inr (SqT.of (kI.tup s7.hM)), by omega, .inr (.inr ⟨fun e => by rw [e] at rl; exact absurd rl (by show 0 ≠ _; omega), dss, hpG kI, .inl ⟨by rw [rl]; exact sw7.kp kI, fun Hz mz dd hdd => .inr (.inl ⟨rfl, dd, _, rfl, upd_same, fun t ht => ?_⟩)⟩⟩)⟩)⟩
      have ht0 : Hz t = none := (new_more hdd).off ht
      have m13 : More Hz (upd (upd Hz dd (.xd [("row", sm)])) t (.lst [.str "row", sm])) := fun b o e => new_more ht _ _ (new_more hdd _ _ e)
      have e_t : (upd (upd Hz dd (.xd [("row", sm)])) t (.lst [.str "row", sm])) t = some (.lst [.str "row", sm]) := upd_same
      generalize upd (upd Hz dd (.xd [("row", sm)])) t (.lst [.str "row", sm]) = H13 at m13 e_t ⊢
      refine ⟨_, rfl, by show 2 ≤ sizeLine; decide, fun u hu => ?_⟩
      have m14 := new_more (o := .lst [V.str "row", sm]) hu
      have e_u : (upd H13 u (.lst [V.str "row", sm])) u = some (.lst [V.str "row", sm]) := upd_same
      generalize upd H13 u (.lst [V.str "row", sm]) = H14 at m14 e_u ⊢
      refine ⟨by show 2 ≤ sizeLine; decide, fun q hq => ?_⟩
      have m15 := new_more (o := .tup [V.ref t, .ref u]) hq
      have e_q : (upd H14 q (.tup [V.ref t, .ref u])) q = some (.tup [V.ref t, .ref u]) := upd_same
      generalize upd H14 q (.tup [V.ref t, .ref u]) = H15 at m15 e_q ⊢
      have tL : t ≠ Lt := (ne_of_none (mz _ _ (m11 _ _ hL10)) ht0).symm
      have uL : u ≠ Lt := (ne_of_none (m13 _ _ (mz _ _ (m11 _ _ hL10))) hu).symm
      refine ⟨Lt, _, _, rfl, rfl, (m15 _ _ (m14 _ _ (m13 _ _ (mz _ _ (m11 _ _ hL10))))), by rw [sizeLine_eq]; omega, Lt, _, rfl, Jr.step j (eN.trans (.of (fun b o e => m15 _ _ (m14 _ _ (m13 _ _ (mz _ _ (m11 _ _ e))))))) (tN.ext (fun b o e => m15 _ _ (m14 _ _ (m13 _ _ (mz _ _ (m11 _ _ e)))))) tL uL e_q (m15 _ _ (m14 _ _ e_t)) (m15 _ _ e_u) (fun y hy => by
        rcases List.mem_cons.mp hy with rfl | hy
        · exact self_str _
        rcases List.mem_cons.mp hy with rfl | hy
        · exact ss
        · exact (List.not_mem_nil hy).elim), by rw [List.length_append]; show _ + 1 ≤ _; omega⟩
    rintro σ9 H9 ⟨Lt, ts, rfl, j, tl9⟩
    refine ⟨fun σ' H' => ∃ Lt ts Lo xs5, σ' = [some (.ref d), some (.int p), some (.ref M'), some (.ref W), some (.ref R), some xo, some (.int at_), some (.ref Lt), some (.ref Bd), some xb, some (.ref Lo), some (.int (dss.length : Nat)), some sm, none, none, none, none] ∧ Jr H7 Lt [(Pt, lamR)] ts H' ∧ ts.length ≤ 4 ∧ H' Lo = some (.lst xs5) ∧ Paired (GRow K H' p (dss.length + 2)) xs5 (loneD p dss.length), ?_, ?_⟩
    · skip
      refine ⟨by show 1 ≤ sizeLine; decide, fun ra_ hra_ => ?_⟩
      have m10 := new_more (o := .lst [V.int 1]) hra_
      have e_ra_ : (upd H9 ra_ (.lst [V.int 1])) ra_ = some (.lst [V.int 1]) := upd_same
      generalize upd H9 ra_ (.lst [V.int 1]) = H10 at m10 e_ra_ ⊢
      refine ⟨_, rfl, ra_, _, _, rfl, rfl, e_ra_, by omega, by omega, by rw [sizeLine_eq]; show 1 * _ ≤ _; omega, fun ra hra => ?_⟩
      rw [rep_one]
      have m11 := new_more (o := .lst (List.replicate (p : Int).toNat (V.int 1))) hra
      have e_ra : (upd H10 ra (.lst (List.replicate (p : Int).toNat (V.int 1)))) ra = some (.lst (List.replicate (p : Int).toNat (V.int 1))) := upd_same
      generalize upd H10 ra (.lst (List.replicate (p : Int).toNat (V.int 1))) = H11 at m11 e_ra ⊢
      refine ⟨by show 1 ≤ sizeLine; decide, fun rb_ hrb_ => ?_⟩
      have m12 := new_more (o := .lst [V.int 1]) hrb_
      have e_rb_ : (upd H11 rb_ (.lst [V.int 1])) rb_ = some (.lst [V.int 1]) := upd_same
      generalize upd H11 rb_ (.lst [V.int 1]) = H12 at m12 e_rb_ ⊢
      refine ⟨_, rfl, rb_, _, _, rfl, rfl, e_rb_, by omega, by omega, by rw [sizeLine_eq]; show 1 * _ ≤ _; omega, fun rb hrb => ?_⟩
      rw [rep_one]
      have m13 := new_more (o := .lst (List.replicate (p : Int).toNat (V.int 1))) hrb
      have e_rb : (upd H12 rb (.lst (List.replicate (p : Int).toNat (V.int 1)))) rb = some (.lst (List.replicate (p : Int).toNat (V.int 1))) := upd_same
      generalize upd H12 rb (.lst (List.replicate (p : Int).toNat (V.int 1))) = H13 at m13 e_rb ⊢
      refine ⟨by show 2 ≤ sizeLine; decide, fun l2 hl2 => ?_⟩
      have m14 := new_more (o := .lst [V.ref ra, .ref rb]) hl2
      have e_l2 : (upd H13 l2 (.lst [V.ref ra, .ref rb])) l2 = some (.lst [V.ref ra, .ref rb]) := upd_same
      generalize upd H13 l2 (.lst [V.ref ra, .ref rb]) = H14 at m14 e_l2 ⊢
      refine ⟨_, rfl, _, rfl, by omega, by omega, fun D hD => lc_range (lo := 0) (n := dss.length) (fun i H' => ∃ as : List V, H' D = some (.lst as) ∧ as.length = i ∧ (∀ x ∈ as, ∃ b, x = .ref b ∧ b ≠ D ∧ H' b = some (.lst (List.replicate p (V.int 0)))) ∧ Off D H14 H')
        ⟨[], upd_same, rfl, nofun, .of (new_more hD)⟩ ?_ ?_⟩
      · rintro i G2 hi ⟨as, a1, a2, a3, a4⟩
        refine ⟨rfl, ?_⟩
        refine ⟨by show 1 ≤ sizeLine; decide, fun z_ hz_ => ?_⟩
        have m21 := new_more (o := .lst [V.int 0]) hz_
        have e_z_ : (upd G2 z_ (.lst [V.int 0])) z_ = some (.lst [V.int 0]) := upd_same
        generalize upd G2 z_ (.lst [V.int 0]) = H21 at m21 e_z_ ⊢
        refine ⟨_, rfl, z_, _, _, rfl, rfl, e_z_, by omega, by omega, by rw [sizeLine_eq]; show 1 * _ ≤ _; omega, fun z hz => ?_⟩
        rw [rep_one]
        have m22 := new_more (o := .lst (List.replicate (p : Int).toNat (V.int 0))) hz
        have e_z : (upd H21 z (.lst (List.replicate (p : Int).toNat (V.int 0)))) z = some (.lst (List.replicate (p : Int).toNat (V.int 0))) := upd_same
        generalize upd H21 z (.lst (List.replicate (p : Int).toNat (V.int 0))) = H22 at m22 e_z ⊢
        have zD : z ≠ D := (ne_of_none (m21 _ _ a1) hz).symm
        refine ⟨as, (m22 _ _ (m21 _ _ a1)), by rw [a2]; exact small1000 (by omega), as ++ [.ref z], upd_same, by rw [List.length_append, a2]; rfl, fun x hx => ?_, (a4.trans (.of (fun b o e => m22 _ _ (m21 _ _ e)))).trans .upd⟩
        rcases List.mem_append.mp hx with hx | hx
        · obtain ⟨b, e1, e2, e3⟩ := a3 x hx
          exact ⟨b, e1, e2, by rw [upd_ne e2]; exact (m22 _ _ (m21 _ _ e3))⟩
        · exact ⟨z, by simpa using hx, zD, by rw [upd_ne zD]; exact e_z⟩
      · rintro G3 ⟨as, a1, a2, a3, a4⟩
        have nD : ∀ {b o}, H14 b = some o → b ≠ D := fun e => ne_of_none e hD
        refine ⟨l2, D, _, _, rfl, rfl, a4 _ _ e_l2 (nD e_l2), a1, by rw [sizeLine_eq, a2]; show 2 + _ ≤ _; omega, fun Lo hLo => ?_⟩
        have mF : More H9 (upd G3 Lo (.lst ([V.ref ra, .ref rb] ++ as))) := fun b o e => new_more hLo _ _ (a4 _ _ (m14 _ _ (m13 _ _ (m12 _ _ (m11 _ _ (m10 _ _ e))))) (nD (m14 _ _ (m13 _ _ (m12 _ _ (m11 _ _ (m10 _ _ e)))))))
        refine ⟨Lt, ts, Lo, _, rfl, j.ext (.of mF) (j.tab.ext mF), tl9, upd_same, ?_⟩
        refine lone_paired p2 (new_more hLo _ _ (a4 _ _ (m14 _ _ (m13 _ _ (m12 _ _ e_ra))) (nD (m14 _ _ (m13 _ _ (m12 _ _ e_ra)))))) (new_more hLo _ _ (a4 _ _ (m14 _ _ e_rb) (nD (m14 _ _ e_rb)))) a2 fun x hx => ?_
        obtain ⟨b, e1, _, e3⟩ := a3 x hx
        exact ⟨b, e1, new_more hLo _ _ e3⟩
    rintro σ9 H9 ⟨Lt, ts, Lo, xs5, rfl, j, tl9, hLo, hp5⟩
    have x5l : xs5.length = dss.length + 2 := by rw [Paired.length hp5, lone_len]
    refine ⟨fun σ' H' => ∃ Lt ts, σ' = [some (.ref d), some (.int p), some (.ref M'), some (.ref W), some (.ref R), some xo, some (.int at_), some (.ref Lt), some (.ref Bd), some xb, some (.ref Lo), some (.int (dss.length : Nat)), some sm, none, none, none, none] ∧ Jr H7 Lt [(Pt, lamR)] ts H' ∧ ts.length ≤ 5, ?_, ?_⟩
    · refine ⟨_, rfl, .inl ⟨rfl, _, SqL.of j.at_⟩, j.tab, fun H10 eN tN => ?_⟩
      have k9 := Kp.ext eN
      have hL10 := eN _ _ j.at_ (fun _ z => nomatch z)
      refine ⟨_, rfl, _, rfl, ?_⟩
      refine ⟨by show 2 ≤ sizeLine; decide, fun w1 hw1 => ?_⟩
      have m11 := new_more (o := .lst [V.int 1, .int 2]) hw1
      have e_w1 : (upd H10 w1 (.lst [V.int 1, .int 2])) w1 = some (.lst [V.int 1, .int 2]) := upd_same
      generalize upd H10 w1 (.lst [V.int 1, .int 2]) = H11 at m11 e_w1 ⊢
      refine ⟨by show 1 ≤ sizeLine; decide, fun w2_ hw2_ => ?_⟩
      have m12 := new_more (o := .lst [V.int 1]) hw2_
      have e_w2_ : (upd H11 w2_ (.lst [V.int 1])) w2_ = some (.lst [V.int 1]) := upd_same
      generalize upd H11 w2_ (.lst [V.int 1]) = H12 at m12 e_w2_ ⊢
      refine ⟨_, rfl, w2_, _, _, rfl, rfl, e_w2_, by omega, by omega, by rw [sizeLine_eq]; show 1 * _ ≤ _; omega, fun w2 hw2 => ?_⟩
      rw [rep_one]
      have m13 := new_more (o := .lst (List.replicate ((dss.length : Nat) : Int).toNat (V.int 1))) hw2
      have e_w2 : (upd H12 w2 (.lst (List.replicate ((dss.length : Nat) : Int).toNat (V.int 1)))) w2 = some (.lst (List.replicate ((dss.length : Nat) : Int).toNat (V.int 1))) := upd_same
      generalize upd H12 w2 (.lst (List.replicate ((dss.length : Nat) : Int).toNat (V.int 1))) = H13 at m13 e_w2 ⊢
      refine ⟨w1, w2, _, _, rfl, rfl, (m13 _ _ (m12 _ _ e_w1)), e_w2, by rw [sizeLine_eq, List.length_replicate]; show 2 + _ ≤ _; omega, fun w3 hw3 => ?_⟩
      have m14 := new_more (o := .lst ([V.int 1, .int 2] ++ List.replicate ((dss.length : Nat) : Int).toNat (V.int 1))) hw3
      have e_w3 : (upd H13 w3 (.lst ([V.int 1, .int 2] ++ List.replicate ((dss.length : Nat) : Int).toNat (V.int 1)))) w3 = some (.lst ([V.int 1, .int 2] ++ List.replicate ((dss.length : Nat) : Int).toNat (V.int 1))) := upd_same
      generalize upd H13 w3 (.lst ([V.int 1, .int 2] ++ List.replicate ((dss.length : Nat) : Int).toNat (V.int 1))) = H14 at m14 e_w3 ⊢
      intro x dx hx hdx ne
      have m15 : More H14 (upd (upd H14 dx (.own x)) x (.ins C dx [])) := fun b o e => by
        rw [upd_ne (ne_of_none e hx), upd_ne (ne_of_none e hdx)]
        exact e
      have eI : (upd (upd H14 dx (.own x)) x (.ins C dx [])) x = some (.ins C dx []) := upd_same
      generalize upd (upd H14 dx (.own x)) x (.ins C dx []) = H15 at m15 eI ⊢
      have kI := k9.trans (.of (fun b o e => m15 _ _ (m14 _ _ (m13 _ _ (m12 _ _ (m11 _ _ e))))))
      refine ⟨x, dx, .int p, .ref Lo, .ref w3, rfl, eI, .inl (.inr ⟨p, Lo, xs5, rfl, g.pr, rfl, .inl (SqL.of (kI.lst hLo)), by omega, .inr (.inr ⟨fun e => by rw [e] at x5l; exact absurd x5l (by show 0 ≠ _; omega), loneD p dss.length, by rw [x5l]; exact paired_imp (fun _ _ r => r.kp kI) hp5, .inr ⟨w3, [1, 2] ++ List.replicate dss.length 1, rfl, .inl (SqL.of ?_), by rw [List.length_append, List.length_replicate, x5l]; show 2 + _ = _; omega, lone_un (by omega) _, fun Hz mz dd hdd => .inr (.inr ⟨rfl, dd, _, rfl, upd_same, fun t ht => ?_⟩)⟩⟩)⟩)⟩
      · rw [List.map_append, List.map_replicate]
        exact (m15 _ _ e_w3)
      have ht0 : Hz t = none := (new_more hdd).off ht
      have m17 : More Hz (upd (upd Hz dd (.xd [("what", .str "zeros")])) t (.lst [.str "unlike", .str "zeros"])) := fun b o e => new_more ht _ _ (new_more hdd _ _ e)
      have e_t : (upd (upd Hz dd (.xd [("what", .str "zeros")])) t (.lst [.str "unlike", .str "zeros"])) t = some (.lst [.str "unlike", .str "zeros"]) := upd_same
      generalize upd (upd Hz dd (.xd [("what", .str "zeros")])) t (.lst [.str "unlike", .str "zeros"]) = H17 at m17 e_t ⊢
      refine ⟨by show 2 ≤ sizeLine; decide, fun u hu => ?_⟩
      have m18 := new_more (o := .lst [V.str "unlike", .str "zeros"]) hu
      have e_u : (upd H17 u (.lst [V.str "unlike", .str "zeros"])) u = some (.lst [V.str "unlike", .str "zeros"]) := upd_same
      generalize upd H17 u (.lst [V.str "unlike", .str "zeros"]) = H18 at m18 e_u ⊢
      refine ⟨by show 2 ≤ sizeLine; decide, fun q hq => ?_⟩
      have m19 := new_more (o := .tup [V.ref t, .ref u]) hq
      have e_q : (upd H18 q (.tup [V.ref t, .ref u])) q = some (.tup [V.ref t, .ref u]) := upd_same
      generalize upd H18 q (.tup [V.ref t, .ref u]) = H19 at m19 e_q ⊢
      have tL : t ≠ Lt := (ne_of_none (mz _ _ (m15 _ _ (m14 _ _ (m13 _ _ (m12 _ _ (m11 _ _ hL10)))))) ht0).symm
      have uL : u ≠ Lt := (ne_of_none (m17 _ _ (mz _ _ (m15 _ _ (m14 _ _ (m13 _ _ (m12 _ _ (m11 _ _ hL10))))))) hu).symm
      refine ⟨Lt, _, _, rfl, rfl, (m19 _ _ (m18 _ _ (m17 _ _ (mz _ _ (m15 _ _ (m14 _ _ (m13 _ _ (m12 _ _ (m11 _ _ hL10))))))))), by rw [sizeLine_eq]; omega, Lt, _, rfl, Jr.step j (eN.trans (.of (fun b o e => m19 _ _ (m18 _ _ (m17 _ _ (mz _ _ (m15 _ _ (m14 _ _ (m13 _ _ (m12 _ _ (m11 _ _ e))))))))))) (tN.ext (fun b o e => m19 _ _ (m18 _ _ (m17 _ _ (mz _ _ (m15 _ _ (m14 _ _ (m13 _ _ (m12 _ _ (m11 _ _ e)))))))))) tL uL e_q (m19 _ _ (m18 _ _ e_t)) (m19 _ _ e_u) (fun y hy => by
        rcases List.mem_cons.mp hy with rfl | hy
        · exact self_str _
        rcases List.mem_cons.mp hy with rfl | hy
        · exact self_str _
        · exact (List.not_mem_nil hy).elim), by rw [List.length_append]; show _ + 1 ≤ _; omega⟩
    rintro σ9 Hf ⟨Lt, ts, rfl, j, tl9⟩
    have oks : ∀ y ∈ ts, TrOk Hf y := fun y hy => let ⟨G, a, _, _, z⟩ := j.ex; (z y hy).ext a
    refine ⟨_, rfl, Lt, rfl, ⟨_, SqL.of j.at_⟩, fun D hD => lc_it (H1 := Hf) (D := D) (walk_list (xs := ts)) (fun i H' => H' D = some (.lst (List.replicate i (V.bl true))) ∧ More Hf H')
      ⟨upd_same, More.new (fun _ _ e => e) hD⟩ (fun i H' _ h => Same.seq h.2 (SqL.of j.at_)) ?_ ?_⟩
    · rintro i y H2 H3 hi ⟨h2, m2⟩ ⟨rfl, hy⟩
      obtain ⟨q, f', u, xs, rfl, hq, hf, hu, al⟩ := (oks y (List.mem_of_getElem? hy)).ext (.of m2)
      refine ⟨q, _, rfl, SqT.of hq, rfl, _, _, rfl, _, _, rfl, rfl, rfl, ?_⟩
      refine ⟨_, rfl, _, rfl, ?_⟩
      refine ⟨⟨f', u, xs, xs, rfl, rfl, hf, hu, prs_self al⟩, fun H4 e4 => ⟨_, e4 _ _ h2, by rw [List.length_replicate, sizeLine_eq]; omega, ?_, More.at (fun b o e => e4 _ _ (m2 _ _ e)) hD⟩⟩
      rw [upd_same]
      show _ = some (HO.lst (List.replicate (i + 1) (V.bl true)))
      rw [List.replicate_succ']
    · rintro H2 ⟨h2, m2⟩
      refine ⟨D, (List.replicate ts.length true), rfl, SqL.of (by rw [List.map_replicate]; exact h2), ?_⟩
      rw [show (List.replicate ts.length true).all id = true from List.all_eq_true.mpr fun b hb => List.eq_of_mem_replicate hb]
      exact fin _
end
end K67

namespace K67
open PySem L2 Gd B5
/-- all but lists stay -/
def Nl (H H' : Hp) : Prop := ∀ b o, H b = some o → (∀ xs, o ≠ .lst xs) → H' b = some o
theorem Nl.of {H H' : Hp} (m : More H H') : Nl H H' := fun b o e _ => m b o e
theorem Nl.trans {H H1 H2 : Hp} (x : Nl H H1) (y : Nl H1 H2) : Nl H H2 := fun b o e n => y b o (x b o e n) n
theorem Nl.upd {H : Hp} {a : Addr} {xs ys : List V} (h : H a = some (.lst xs)) : Nl H (L2.upd H a (.lst ys)) := fun b o e n => by
  rw [upd_ne fun z => ?_]
  · exact e
  · subst z
    rw [h] at e
    exact n xs (Option.some.inj e).symm
theorem sqT_nl {K : PySem.W.Frag} {H H' : Hp} {a : Addr} {xs : List V} (m : Nl H H') : SqT K H a xs → SqT K H' a xs
  | .inl (.inl h) => .inl (.inl (m _ _ h fun _ z => nomatch z))
  | .inl (.inr ⟨u, h⟩) => .inl (.inr ⟨u, m _ _ h fun _ z => nomatch z⟩)
  | .inr h => .inr h
theorem mat_nl {K : PySem.W.Frag} {H H' : Hp} {C a : Addr} {p : Int} {dss : List (List Int)} {ws : List Int} (m : Nl H H') (h : MAt K H C a p dss ws) : MAt K H' C a p dss ws :=
  let ⟨dx, t, u, xs, h1, h2, h3, h4⟩ := h; ⟨dx, t, u, xs, m _ _ h1 (fun _ z => nomatch z), sqT_nl m h2, paired_imp (fun _ _ ⟨b, e, s⟩ => ⟨b, e, sqT_nl m s⟩) h3, sqT_nl m h4⟩
theorem stdy_iff {dss : List (List Int)} {ws : List Int} : stdy dss ws = true ↔ ∀ (i : Nat) (ds : List Int) (w : Int), dss[i]? = some ds → ws[i]? = some w → w = ws.getD (ds.getD 0 0).toNat 0 := by
  unfold stdy
  rw [List.all_eq_true]
  refine ⟨fun h i ds w h1 h2 => ?_, fun h b hb => ?_⟩
  · have := zip_at (f := fun ds (w : Int) => decide (w = ws.getD (ds.getD 0 0).toNat 0)) h1 h2
    exact of_decide_eq_true (h _ (List.mem_of_getElem? this))
  · obtain ⟨x, hx⟩ := List.getElem?_of_mem hb
    rw [List.getElem?_zipWith] at hx
    cases e1 : dss[x]? with
    | none => rw [e1] at hx; cases hx
    | some ds =>
      cases e2 : ws[x]? with
      | none => rw [e1, e2] at hx; cases hx
      | some w0 =>
        rw [e1, e2] at hx
        cases hx
        exact decide_eq_true (h x ds w0 e1 e2)
/-- the state behind a zero is a state -/
theorem MGood.zero {p : Int} {dss : List (List Int)} {ws : List Int} (g : MGood p dss ws) {ds : List Int} (h : ds ∈ dss) : (ds.getD 0 0).toNat < ws.length := by
  obtain ⟨l, al⟩ := g.rows ds h
  have := (isPr_small g.pr).1
  have e := at_getD (l := ds) (i := 0) (by omega) 0
  have := al _ (List.mem_of_getElem? e)
  rw [g.len]
  omega
theorem MGood.pos {p : Int} {dss : List (List Int)} {ws : List Int} (g : MGood p dss ws) : 0 < dss.length := List.length_pos_iff.mpr g.ne
/-- a state more, that a word of zeros reaches -/
theorem MGood.other {p : Nat} {dss : List (List Int)} {ws : List Int} (g : MGood p dss ws) (few : dss.length < 1000) : MGood p (dss ++ [List.replicate p 0]) (ws ++ [ws.getD 0 0]) := by
  have d0 := MGood.pos g
  refine ⟨g.pr, by simp, fun ds hds => ?_, by rw [List.length_append, List.length_append, g.len]; rfl, by rw [List.length_append]; show _ + 1 ≤ _; omega⟩
  rw [List.length_append]
  rcases List.mem_append.mp hds with h | h
  · obtain ⟨l, al⟩ := g.rows ds h
    exact ⟨l, fun d hd => ⟨(al d hd).1, by have := (al d hd).2; show d < ((dss.length + 1 : Nat) : Int); omega⟩⟩
  · have e : ds = List.replicate p 0 := by simpa using h
    rw [e]
    exact ⟨by rw [List.length_replicate], fun d hd => by rw [List.eq_of_mem_replicate hd]; show 0 ≤ (0 : Int) ∧ (0 : Int) < ((dss.length + 1 : Nat) : Int); omega⟩
theorem getD_app {l m : List Int} {i : Nat} (h : i < l.length) : (l ++ m).getD i 0 = l.getD i 0 := by
  rw [List.getD_eq_getElem?_getD, List.getD_eq_getElem?_getD, List.getElem?_append_left h]
theorem stdy_other {p : Nat} {dss : List (List Int)} {ws : List Int} (g : MGood p dss ws) (st : stdy dss ws = true) : stdy (dss ++ [List.replicate p 0]) (ws ++ [ws.getD 0 0]) = true := by
  have d0 := MGood.pos g
  have wl := g.len
  rw [stdy_iff] at st ⊢
  intro i ds w h1 h2
  by_cases z : i < dss.length
  · rw [List.getElem?_append_left z] at h1
    rw [List.getElem?_append_left (by omega)] at h2
    rw [getD_app (MGood.zero g (List.mem_of_getElem? h1))]
    exact st i ds w h1 h2
  · have e := (List.getElem?_eq_some_iff.mp h1).1
    rw [List.length_append] at e
    have e : i < dss.length + 1 := e
    have ei : i = dss.length := by omega
    rw [ei, List.getElem?_append_right (Nat.le_refl _), Nat.sub_self] at h1
    rw [ei, ← wl, List.getElem?_append_right (Nat.le_refl _), Nat.sub_self] at h2
    cases h1
    cases h2
    have e0 : (List.replicate p (0 : Int)).getD 0 0 = 0 := by
      cases p <;> rfl
    rw [e0]
    exact (getD_app (by show 0 < _; omega)).symm
theorem stdy_up {p : Int} {dss : List (List Int)} {ws : List Int} (g : MGood p dss ws) (st : stdy dss ws = true) : stdy dss (ws.map (· + 1)) = true := by
  rw [stdy_iff] at st ⊢
  intro i ds w h1 h2
  obtain ⟨w0, hw, rfl⟩ := map_at h2
  have l := MGood.zero g (List.mem_of_getElem? h1)
  rw [getD_of (at_map (f := (· + 1)) (at_getD l 0)), ← st i ds w0 h1 hw]
theorem up_ne {ws : List Int} (h : 0 < ws.length) : ws ≠ ws.map (· + 1) := fun e => by
  cases ws with
  | nil => cases h
  | cons a l =>
    rw [List.map_cons] at e
    have := (List.cons.inj e).1
    omega
theorem MGood.up {p : Int} {dss : List (List Int)} {ws : List Int} (g : MGood p dss ws) : MGood p dss (ws.map (· + 1)) := ⟨g.pr, g.ne, g.rows, by rw [List.length_map]; exact g.len, g.few⟩
theorem mok {K : PySem.W.Frag} {H : Hp} {p : Int} {a b : Addr} {xs : List V} {dss : List (List Int)} {ws : List Int} (g : MGood p dss ws) (st : stdy dss ws = true) (sq : Sq K H a xs) (hp : Paired (fun x ds => ∃ b, x = .ref b ∧ Sq K H b (ds.map V.int)) xs dss)
    (sw : Sq K H b (ws.map V.int)) : MOk K H (.int p) (.ref a) (.ref b) p dss ws := by
  have l := Paired.length hp
  have d0 := MGood.pos g
  refine ⟨rfl, g.pr, ⟨a, xs, rfl, sq, by rw [l]; exact g.few, fun e => by rw [e] at l; exact absurd l (by show 0 ≠ _; omega), paired_of l fun i x ds hx hds => ?_⟩, ⟨b, rfl, sw⟩, g.len, st⟩
  obtain ⟨ds', e, b, rfl, sb⟩ := paired_at hp hx
  rw [hds] at e
  cases e
  obtain ⟨l1, r⟩ := g.rows ds (List.mem_of_getElem? hds)
  exact ⟨⟨b, rfl, sb⟩, l1, by rw [l]; exact r⟩
theorem pen_ext {H H' : Hp} {d c : Addr} {n : Int} (h : Pen H d c n) (m : LamX.ExtN H H') : Pen H' d c n := by
  obtain ⟨kvs, cs, p, g, f, h1, h2, r⟩ := h
  exact ⟨kvs, cs, p, g, f, m _ _ h1 (fun ps z => by cases z), m _ _ h2 (fun ps z => by cases z), r⟩
theorem pen_more {H H' : Hp} {d c : Addr} {n : Int} (h : Pen H d c n) (m : More H H') : Pen H' d c n := pen_ext h fun b o e _ => m b o e
/-- the rows and the worths stand there -/
structure LA (K : PySem.W.Frag) (M W : Addr) (rs : List V) (dss : List (List Int)) (ws : List Int) (T : List (Addr × Str)) (H : Hp) : Prop where
  tab : LamX.Tabs T H
  hM : H M = some (.tup rs)
  hp : Paired (TupI K H) rs dss
  hW : H W = some (.tup (ws.map V.int))
theorem LA.more {K : PySem.W.Frag} {M W : Addr} {rs : List V} {dss : List (List Int)} {ws : List Int} {T : List (Addr × Str)} {H H' : Hp} (s : LA K M W rs dss ws T H) (m : More H H') : LA K M W rs dss ws T H' :=
  ⟨s.tab.ext m, m _ _ s.hM, paired_imp (fun _ _ r => r.more m) s.hp, m _ _ s.hW⟩
theorem LA.ext {K : PySem.W.Frag} {M W : Addr} {rs : List V} {dss : List (List Int)} {ws : List Int} {T : List (Addr × Str)} {H H' : Hp} (s : LA K M W rs dss ws T H) (m : LamX.ExtN H H') (t : LamX.Tabs T H') : LA K M W rs dss ws T H' :=
  ⟨t, (Kp.ext m).tup s.hM, paired_imp (fun _ _ r => r.kp (Kp.ext m)) s.hp, (Kp.ext m).tup s.hW⟩
theorem LA.off {K : PySem.W.Frag} {M W d c : Addr} {n n' : Int} {rs : List V} {dss : List (List Int)} {ws : List Int} {T : List (Addr × Str)} {H H' : Hp} (s : LA K M W rs dss ws T H) (m : Off d H H') (pn : Pen H d c n) (pn' : Pen H' d c n') : LA K M W rs dss ws T H' ∧ Kp H H' := by
  have k : Kp H H' := Kp.off m (Pen.dk pn) (Pen.dk pn')
  obtain ⟨kvs, hd⟩ := Pen.dk pn
  exact ⟨⟨tabs_off s.tab m hd, k.tup s.hM, paired_imp (fun _ _ r => r.kp k) s.hp, k.tup s.hW⟩, k⟩
theorem LA.sq {K : PySem.W.Frag} {M W : Addr} {rs : List V} {dss : List (List Int)} {ws : List Int} {T : List (Addr × Str)} {H : Hp} (s : LA K M W rs dss ws T H) : Paired (fun x ds => ∃ b, x = .ref b ∧ Sq K H b (ds.map V.int)) rs dss :=
  paired_imp (fun _ _ ⟨b, e, h⟩ => ⟨b, e, .inr h⟩) s.hp
/-- the lists that the second machine is made of -/
structure LR (H0 : Hp) (R S : Addr) (xs : List V) (dss : List (List Int)) (ws : List Int) (H : Hp) : Prop where
  hR : H R = some (.lst xs)
  hS : H S = some (.lst (ws.map V.int))
  nR : H0 R = none
  nS : H0 S = none
  RS : R ≠ S
  rows : Paired (fun x ds => ∃ b, x = .ref b ∧ b ≠ R ∧ b ≠ S ∧ H0 b = none ∧ H b = some (.lst (ds.map V.int))) xs dss
theorem LR.more {H0 : Hp} {R S : Addr} {xs : List V} {dss : List (List Int)} {ws : List Int} {H H' : Hp} (s : LR H0 R S xs dss ws H) (m : More H H') : LR H0 R S xs dss ws H' :=
  ⟨m _ _ s.hR, m _ _ s.hS, s.nR, s.nS, s.RS, paired_imp (fun _ _ ⟨b, a1, a2, a3, a4, a5⟩ => ⟨b, a1, a2, a3, a4, m _ _ a5⟩) s.rows⟩
/-- a value that is no number for a machine -/
def OddN (x : V) : Prop := (∀ K H, (∃ i, x = .int i ∧ i < 0) ∨ NoInt K H x) ∧ ∃ e : PyData, (∀ K H, Dp K H x e) ∧ PyData.eqv (.list [.str "number", .str "n", e]) (.list [.str "number", .str "n", e]) = true ∧ SeqAt.shaped (.list [.str "number", .str "n", e]) = true
theorem pick_p {x : V} (h : x ∈ [V.int 2, .int 3, .int 5, .int 7]) : ∃ p : Nat, x = .int p ∧ isPr p = true := by
  simp only [List.mem_cons, List.not_mem_nil, or_false] at h
  obtain rfl | rfl | rfl | rfl := h
  · exact ⟨2, rfl, by decide⟩
  · exact ⟨3, rfl, by decide⟩
  · exact ⟨5, rfl, by decide⟩
  · exact ⟨7, rfl, by decide⟩
theorem pick_odd {x : V} (h : x ∈ [V.int (-1), .non, .bl true, .str "1", .int (-(10 : Int) ^ (30 : Int).toNat)]) : OddN x := by
  rcases List.mem_cons.mp h with rfl | h
  · exact ⟨fun _ _ => .inl ⟨_, rfl, by decide⟩, _, fun _ _ => .int _, by decide +kernel, by decide +kernel⟩
  rcases List.mem_cons.mp h with rfl | h
  · exact ⟨fun _ _ => .inr noInt_non, _, fun _ _ => .non, by decide +kernel, by decide +kernel⟩
  rcases List.mem_cons.mp h with rfl | h
  · exact ⟨fun _ _ => .inr (noInt_bl _), _, fun _ _ => .bl _, by decide +kernel, by decide +kernel⟩
  rcases List.mem_cons.mp h with rfl | h
  · exact ⟨fun _ _ => .inr (noInt_str _), _, fun _ _ => .str _, by decide +kernel, by decide +kernel⟩
  rcases List.mem_cons.mp h with rfl | h
  · exact ⟨fun _ _ => .inl ⟨_, rfl, by decide +kernel⟩, _, fun _ _ => .int _, by decide +kernel, by decide +kernel⟩
  · exact (List.not_mem_nil h).elim
abbrev sLaw : Stmt := top 27
abbrev NLaw : List Str := ["_law_script", "_law_pen_here", "_law_p", "_law_moves", "_law_worths", "_law_row", "_law_rows", "_law_some", "_law_kept", "_law_other", "_law_lap", "_law_n", "_law_odd", "_law_told", "_law_value", "_law_worth"]
theorem scLaw : FnScope NLaw ["_law_script"] (defScope sLaw) := ⟨rfl, rfl, rfl, by decide +kernel, rfl, by decide +kernel, by decide +kernel⟩
def lamL : Str := (PyProof.Rows.envOfC "law" (defScope sLaw) 0 0 .none).qual ++ "<lambda>"
def spLaw (K : PySem.W.Frag) (PtL PtR : Addr) : Sp := fun vs H Q _ => ∃ (a : Addr) (ns : List Int), vs = [.ref a] ∧ SqL K H a (ns.map V.int) ∧ H PtL = some (.tbl #[]) ∧ H PtR = some (.tbl #[]) ∧ ∀ H', Q (.bl true) H'
end K67

namespace K67
open PySem L2 Gd B5

section
variable {P : Program} {w : World} {K : PySem.W.Frag} {mg : Str → Option Value} {base : Heap}
theorem ok_law {f c PtL PtR : Addr} {kV doc pm ct oc : Value} {an od : Option Addr} {osl : Array (Option Value)} {g0 g1 g2 g3 g4 g5 g6 g7 gI gE gA gW gR C CN CR CU fN fR fU : Addr} {d0 d1 d2 d3 d4 d5 d6 d7 dI' dE dA dW dR' fdN fdR fdU : FuncData}
    (lk : K.lookup f = some ⟨oc, od, .func (PySem.W.fnOf "law" "law" (defArgs sLaw) (defBody sLaw) (defScope sLaw) .none kV doc pm an (.ref c) ct), osl⟩)
    (hcd : PySem.W.codeIn K (.ref c) "law" = true) (TB : LamX.TabB base mg c PtL) (LR' : PtL ≠ PtR) (B : Blt mg) (Z : McC K mg C) (nf : ∀ n ∈ (["NoneType", "tuple", "int"] : List String), PySem.W.notFirst K C (.type n) = true)
    (M : Mk K C gI) (bI : Binds K dI' ["self", "p", "moves", "worths"] []) (GI : FnOk P w K mg base (L2.CX P w) 5 gI dI' ["self", "p", "moves", "worths"] (spMI K C CN CR CU))
    (hE : PySem.W.findIn K (.ref C) "__eq__" = some (some (.ref gE))) (fE : PySem.W.isFn K (.ref gE) = true) (bE : Binds K dE ["self", "other"] []) (GE : FnOk P w K mg base CX0 1 gE dE ["self", "other"] (spMEq K C))
    (MA : Meth K C "at" gA) (bA : Binds K dA ["self", "n"] []) (GA : FnOk P w K mg base (L2.CX P w) 5 gA dA ["self", "n"] (spMAt K C CN))
    (Pe : Cl K mg "_law_pen" sPen ["_law_script"] g0 d0) (Dr : Cl K mg "_law_draw" sDraw ["_law_pen_here", "_law_many"] g1 d1) (Pi : Cl K mg "_law_pick" sPick ["_law_pen_here", "_law_some"] g2 d2)
    (St : Cl K mg "_law_steady" sSt ["_law_pen_here", "_law_p", "_law_most"] g3 d3) (zMin : mg "min" = none) (La : Cl K mg "_law_large" sLarge ["_law_pen_here"] g4 d4)
    (Ld : Cl K mg "_law_digits" sLd ["_law_n", "_law_p"] g5 d5) (Ls : Cl K mg "_law_state" sLs ["_law_moves", "_law_word"] g6 d6) (Im : Cl K mg "_law_is_machine" sIm ["_law_told", "_law_p", "_law_moves", "_law_worths"] g7 d7)
    (Rf : Cl K mg "_law_refused" sRef ["_law_call"] gW dW) (T : Cau3 K CN CR CU)
    (N : Er K mg "BadNumber" "BadNumber.__init__" CN fN ["what", "number"] sBadNumber fdN) (Rr : Er K mg "BadRow" "BadRow.__init__" CR fR ["row"] sBadRow fdR) (U : Er K mg "Unlike" "Unlike.__init__" CU fU ["what"] sUnlike fdU)
    (kR : PySem.W.keepIn K (.ref gR) = true) (gR' : mg "_law_refuses" = some (.ref gR)) (bR : Binds K dR' ["_law_pen_here", "_law_p", "_law_moves", "_law_worths"] [])
    (GR : FnG P w K mg base CX0 9 gR dR' ["_law_pen_here", "_law_p", "_law_moves", "_law_worths"] (spRf K PtR)) :
    FnG P w K mg base CX0 10 f (PySem.W.fnOf "law" "law" (defArgs sLaw) (defBody sLaw) (defScope sLaw) .none kV doc pm an (.ref c) ct) ["_law_script"] (spLaw K PtL PtR) := by
  have G0 : FnOk P w K mg base CX0 1 g0 d0 ["_law_script"] (spPen K) := ok_pen Pe.fn B.int_ B.list_
  have G1 : FnOk P w K mg base CX0 1 g1 d1 ["_law_pen_here", "_law_many"] spDraw := ok_draw Dr.fn B.int_ B.len_
  have G2 : FnOk P w K mg base CX0 2 g2 d2 ["_law_pen_here", "_law_some"] (spPick K) := ok_pick Pi.fn Dr.fn Dr.b Dr.g B.int_ B.len_
  have G3 : FnOk P w K mg base CX0 3 g3 d3 ["_law_pen_here", "_law_p", "_law_most"] (spSt K) := ok_st St.fn B zMin Dr Pi
  have G4 : FnOk P w K mg base CX0 3 g4 d4 ["_law_pen_here"] spLarge := ok_large La.fn Dr.fn Dr.b Dr.g Pi.fn Pi.b Pi.g B.int_ B.len_ B.range_
  have G5 : FnOk P w K mg base CX0 1 g5 d5 ["_law_n", "_law_p"] spLd := ok_ld Ld.fn B
  have G6 : FnOk P w K mg base CX0 1 g6 d6 ["_law_moves", "_law_word"] (spLs K) := ok_ls Ls.fn
  have G7 : FnOk P w K mg base CX0 1 g7 d7 ["_law_told", "_law_p", "_law_moves", "_law_worths"] (spIm K C) := ok_im Im.fn B Z
  refine fnG_of lk hcd scLaw (fun vs H Q E h => ?_) (fun A outer s H vs Q E hgd hr h => ?_)
  · obtain ⟨a, ns, rfl, _⟩ := h
    rfl
  · obtain ⟨sa, ns, rfl, hS, hPL, hPR, fin⟩ := h
    have hr1 : Room 1 _ := hr.mono (by decide)
    have hr2 : Room 2 _ := hr.mono (by decide)
    have hr3 : Room 3 _ := hr.mono (by decide)
    have hr5 : Room 5 _ := hr.mono (by decide)
    have hr6 : Room 6 _ := hr.mono (by decide)
    have hu64 := hr.units
    obtain ⟨ocW, odW, kVW, docW, pmW, anW, cdW, ctW, oslW, rfl, lkW, hcdW⟩ := Rf.fn.ex
    have bW := Rf.b
    have lam : ∀ {params : Arguments} {body : Expr} {scope : Scope} {lpos p pos : Pos} {t : XK → TE}, LamX.LamS (defScope sLaw) scope →
        defaultsOf params (cxOf CX0 P w K mg base NLaw "law" (defScope sLaw) f (.ref c) A outer s H E).nox.env = ([], []) →
        (∀ (q : Str) (cl : List (Str × Addr)) (pm cv ctv : Value), bindArgs (PySem.W.kla_fn "<lambda>" q params body scope cl pm cv ctv) ⟨[], []⟩ = pure []) →
        (∀ (A' : Around) (outer' : List Env) (s' : Shared) (H' : Hp) (E' : XK) (f' c' : Addr), Room 7 (A'.deeper (LamX.lamEnv (cxOf CX0 P w K mg base NLaw "law" (defScope sLaw) f (.ref c) A outer s H E).nox scope s'.heap.objs.size f' c')) →
          PE (LamX.lamCx (cxOf CX0 P w K mg base NLaw "law" (defScope sLaw) f (.ref c) A outer s H E).nox A' outer' s' H' E' scope f' c') body (t E')) →
        PE (cxOf CX0 P w K mg base NLaw "law" (defScope sLaw) f (.ref c) A outer s H E).nox
          (.Call (.Name "_law_refused" p) [.Lambda params body scope lpos] [] pos) (LamX.tLam [(PtL, lamL), (PtR, lamR)] (TRef3 CN CR CU) t) := by
      intro params body scope lpos p pos t L hdef hbind hbody
      exact LamX.pe_lamcall (k := 7) (T := [(PtL, lamL), (PtR, lamR)]) (c := c) (P := PtL) rfl Rf.g Rf.k lkW hcdW bW scRef rfl (.inl rfl)
        (ref_gives (k := 7) hr T N.g Rr.g U.g (N.no _ (.head _)) (N.no _ (.tail _ (.head _))) (Rr.no _ (.head _)) (U.no _ (.head _))) TB rfl (.head _)
        (fun p hp e => by
          obtain rfl | hp := List.mem_cons.mp hp
          · rfl
          obtain rfl | hp := List.mem_cons.mp hp
          · exact absurd e.symm LR'
          · exact (List.not_mem_nil hp).elim) hr L hdef hbind hbody
    suffices hh : ∃ t, PSs (cxOf CX0 P w K mg base NLaw "law" (defScope sLaw) f (.ref c) A outer s H E).nox (defBody sLaw) t ∧ t { nx := fun _ H' => Q .non H', rt := Q } (L2.start NLaw [.ref sa]) H by
      obtain ⟨t, d, q⟩ := hh
      exact ⟨t, d.nox, q⟩
    refine ⟨_, Evl.pss_cut (ps_set (i := 1) scLaw.nd rfl (Or.inl rfl) (pe_call G0 hr1 rfl Pe.g Pe.k Pe.b .nil pass0 (pa_cons (pv 0) pa_nil)))
      (Evl.pss_cut (ps_set (i := 2) scLaw.nd rfl (Or.inl rfl) (pe_call G2 hr2 rfl Pi.g Pi.k Pi.b .nil pass0 (pa_cons (pv 1) (pa_cons (pe_lst (pa_cons pe_int (pa_cons pe_int (pa_cons pe_int (pa_cons pe_int pa_nil))))) pa_nil))))
      (Evl.pss_cut (ps_asg (pe_call G3 hr3 rfl St.g St.k St.b .nil pass0 (pa_cons (pv 1) (pa_cons (pv 2) (pa_cons pe_int pa_nil)))) (pg_tup (by rfl) (pgs_cons (pg_name (i := 3) scLaw.nd rfl (Or.inl rfl)) (pgs_cons (pg_name (i := 4) scLaw.nd rfl (Or.inl rfl)) pgs_nil))))
      (Evl.pss_cut (ps_par (i := 6) (j := 7) rfl scLaw.nd rfl rfl (by decide) rfl rfl (pa_cons (pe_lc (own := [("_law_row", 5)]) (g := gName 5) (tt := tYes) rfl scLaw.nd (pi_sq (K := K) rfl (pv 3))
            (blkOk_by (N := NLaw) (sc := defScope sLaw) (by decide +kernel)) (fun _ _ _ _ _ => pg_name (i := 5) scLaw.nd rfl (Or.inl rfl)) (fun _ _ _ _ _ => pts_nil)
            (fun _ _ _ _ _ => pe_callTy (r := rLof K) (call_lof rfl) (by rfl) B.list_ (by decide +kernel) (pa_cons (pv 5) pa_nil)))
          (pa_cons (pe_callTy call_list_of (by rfl) B.list_ (by decide +kernel) (pa_cons (pv 4) pa_nil)) pa_nil)) (by rfl))
      (Evl.pss_cut (ps_asg (pe_tup (pa_cons (pe_make M GI hr6 rfl Z.g bI .nil (passes_call LamX.takes0 (fun _ _ _ _ h => h)) (pa_cons (pv 2) (pa_cons (pv 3) (pa_cons (pv 4) pa_nil)))) (pa_cons (pe_make M GI hr6 rfl Z.g bI .nil (passes_call LamX.takes0 (fun _ _ _ _ h => h)) (pa_cons (pv 2) (pa_cons (pv 6) (pa_cons (pv 7) pa_nil)))) pa_nil)))
          (pg_tup (by rfl) (pgs_cons (pg_name (i := 13) scLaw.nd rfl (Or.inr rfl)) (pgs_cons (pg_name (i := 8) scLaw.nd rfl (Or.inl rfl)) pgs_nil))))
      (Evl.pss_cut (ps_for PassesOwn.never rfl (pi_list (pv 6)) (pg_name (i := 5) scLaw.nd rfl (Or.inl rfl)) (pss_one (ps_asg (pe_op op_pow pe_int pe_int) (pg_sub (pv 5) pe_int set_list))))
      (Evl.pss_cut (ps_expr (pe_bm PySem.F.plainAttrs_list PySem.F.slot_list_append PySem.F.type_list_append mt_append (pv 6) (pa_cons (pe_op op_rep (pe_lst (pa_cons pe_int pa_nil)) (pv 2)) pa_nil)))
      (Evl.pss_cut (ps_expr (pe_bm PySem.F.plainAttrs_list PySem.F.slot_list_append PySem.F.type_list_append mt_append (pv 7) (pa_cons pe_int pa_nil)))
      (Evl.pss_cut (ps_if (PW.pt (pw_or (pt_not (pt_val (pe_call G7 hr1 rfl Im.g Im.k Im.b .nil pass0 (pa_cons (pv 13) (pa_cons (pv 2) (pa_cons (pv 3) (pa_cons (pv 4) pa_nil)))))))
          (pw_or1 (pt_not (pt_val (pe_call G7 hr1 rfl Im.g Im.k Im.b .nil pass0 (pa_cons (pv 8) (pa_cons (pv 2) (pa_cons (pv 3) (pa_cons (pv 4) pa_nil))))))))))
          (pss_one (ps_ret pe_bl)) pss_nil)
      (Evl.pss_cut (ps_if (PW.pt (pw_or (pt_cmpR op_notBl (pe_cmpR (op_eqOwn hE fE GE bE hr1 pass0) (pv 13) (pv 8) (nomark _)) pe_bl (nomark _))
          (pw_or1 (pt_cmpR (op_neD hu64) (pe_lc (own := [("_law_value", 14)]) (g := gName 14) (tt := tYes) rfl scLaw.nd (pi_list (pe_lst (pa_cons pe_non (pa_cons (pv 3) (pa_cons pe_int pa_nil)))))
              (blkOk_by (N := NLaw) (sc := defScope sLaw) (by decide +kernel)) (fun _ _ _ _ _ => pg_name (i := 14) scLaw.nd rfl (Or.inl rfl)) (fun _ _ _ _ _ => pts_nil)
              (fun _ _ _ _ _ => pe_cmpR (r := rOwnE K C (spMEq K C) E0) (op_eqOwn hE fE GE bE hr1 pass0) (pv 13) (pv 14) (nomark _)))
            (pe_lst (pa_cons pe_bl (pa_cons pe_bl (pa_cons pe_bl pa_nil)))) (nomark _)))))
          (pss_one (ps_ret pe_bl)) pss_nil)
      (Evl.pss_cut (ps_set (i := 9) scLaw.nd rfl (Or.inl rfl) (pe_make M GI hr6 rfl Z.g bI .nil (passes_call LamX.takes0 (fun _ _ _ _ h => h)) (pa_cons (pv 2) (pa_cons (pe_op op_catA (pv 3) (pe_tup (pa_cons (pe_op op_repN (pe_tup (pa_cons pe_int pa_nil)) (pv 2)) pa_nil)))
          (pa_cons (pe_op op_catA (pv 4) (pe_tup (pa_cons (pe_ix ix_seq (pv 4) pe_int (fun _ _ => rfl)) pa_nil))) pa_nil)))))
      (Evl.pss_cut (ps_if (PW.pt (pw_or (pt_cmpR (op_eqOwn hE fE GE bE hr1 pass0) (pv 13) (pv 9) (nomark _)) (pw_or1 (pt_cmpR (op_eqOwn hE fE GE bE hr1 pass0) (pv 13)
          (pe_make M GI hr6 rfl Z.g bI .nil (passes_call LamX.takes0 (fun _ _ _ _ h => h)) (pa_cons (pv 2) (pa_cons (pv 3) (pa_cons (pe_lc (own := [("_law_worth", 15)]) (g := gName 15) (tt := tYes) rfl scLaw.nd (pi_sq (K := K) rfl (pv 4))
              (blkOk_by (N := NLaw) (sc := defScope sLaw) (by decide +kernel)) (fun _ _ _ _ _ => pg_name (i := 15) scLaw.nd rfl (Or.inl rfl)) (fun _ _ _ _ _ => pts_nil)
              (fun _ _ _ _ _ => pe_op op_add (pv 15) pe_int)) pa_nil)))) (nomark _)))))
          (pss_one (ps_ret pe_bl)) pss_nil)
      (Evl.pss_cut (ps_for PassesOwn.never rfl (pi_range1 (by rfl) B.range_ (pa_cons pe_int pa_nil)) (pg_name (i := 10) scLaw.nd rfl (Or.inl rfl))
        (pss_cons (ps_set (i := 11) scLaw.nd rfl (Or.inl rfl) (pe_call G4 hr3 rfl La.g La.k La.b .nil pass0 (pa_cons (pv 1) pa_nil)))
        (pss_one (ps_if (pt_cmpR op_ne (pe_meth (pv 13) Z.ic.cl MA GA hr5 bA .nil (passes_call LamX.takes0 (fun _ _ _ _ h => h)) (pa_cons (pv 11) pa_nil))
            (pe_ix ix_seq (pv 4) (pe_call G6 hr1 rfl Ls.g Ls.k Ls.b .nil pass0 (pa_cons (pv 3) (pa_cons (pe_call G5 hr1 rfl Ld.g Ld.k Ld.b .nil pass0 (pa_cons (pv 11) (pa_cons (pv 2) pa_nil))) pa_nil))) (fun _ _ => rfl)) (nomark _))
          (pss_one (ps_ret pe_bl)) pss_nil))))
      (Evl.pss_cut (ps_set (i := 12) scLaw.nd rfl (Or.inr rfl) (pe_call G2 hr2 rfl Pi.g Pi.k Pi.b .nil pass0 (pa_cons (pv 1) (pa_cons (pe_lst (pa_cons (pe_un un_neg pe_int) (pa_cons pe_non (pa_cons pe_bl (pa_cons pe_str (pa_cons (pe_un un_neg (pe_op op_pow pe_int pe_int)) pa_nil)))))) pa_nil))))
      (Evl.pss_cut (ps_if (PW.pt (pw_or (pt_cmpR op_ne (pe_meth (pv 13) Z.ic.cl MA GA hr5 bA .nil (passes_call LamX.takes0 (fun _ _ _ _ h => h)) (pa_cons pe_int pa_nil)) (pe_ix ix_seq (pv 4) pe_int (fun _ _ => rfl)) (nomark _))
          (pw_or1 (pt_cmpR (op_neD hu64) (lam (LamX.lamS_by (by decide +kernel)) rfl (fun _ _ _ _ _ => rfl) (fun A' outer' s' H' E' f' c' hr' => pe_meth (pv 13) Z.ic.cl MA GA (hr'.mono (by decide)) bA .nil takesLam (pa_cons (pv 12) pa_nil)))
            (pe_lst (pa_cons pe_str (pa_cons pe_str (pa_cons (pv 12) pa_nil)))) (nomark _)))))
          (pss_one (ps_ret pe_bl)) pss_nil)
      (pss_one (ps_ret (pe_callG GR hgd hr rfl gR' kR bR .nil pass0 (pa_cons (pv 1) (pa_cons (pv 2) (pa_cons (pv 3) (pa_cons (pv 4) pa_nil))))))))))))))))))))), ?_⟩
    refine ⟨fun σ' H' => ∃ d cc, σ' = [some (.ref sa), some (.ref d), none, none, none, none, none, none, none, none, none, none, none, none, none, none] ∧ Pen H' d cc 0 ∧ LamX.Tabs [(PtL, lamL), (PtR, lamR)] H', ?_, ?_⟩
    · refine ⟨_, rfl, sa, ns, rfl, hS, fun H1 d cc pen fr nd => ⟨d, cc, rfl, pen, fun pq hpq => ?_⟩⟩
      obtain rfl | hpq := List.mem_cons.mp hpq
      · exact LamX.TabS.nil (fr _ _ hPL)
      obtain rfl | hpq := List.mem_cons.mp hpq
      · exact LamX.TabS.nil (fr _ _ hPR)
      · exact (List.not_mem_nil hpq).elim
    clear hS hPL hPR
    rintro σ0 H0 ⟨d, cc, rfl, pen0, tab0⟩
    refine ⟨fun σ' H' => ∃ p : Nat, σ' = [some (.ref sa), some (.ref d), some (.int p), none, none, none, none, none, none, none, none, none, none, none, none, none] ∧ isPr p = true ∧ Pen H' d cc 1 ∧ LamX.Tabs [(PtL, lamL), (PtR, lamR)] H', ?_, ?_⟩
    · refine ⟨_, rfl, by show 4 ≤ sizeLine; decide, fun L hL => ?_⟩
      have m := new_more (o := .lst [V.int 2, .int 3, .int 5, .int 7]) hL
      obtain ⟨kvs, hd⟩ := Pen.dk (pen0.upd (o := .lst [V.int 2, .int 3, .int 5, .int 7]) hL)
      refine ⟨d, cc, L, 0, _, rfl, pen0.upd hL, upd_same, by show 0 < 4; decide, by show 4 ≤ 1000; decide, by decide, by decide, fun x H' hx dr => ?_⟩
      obtain ⟨p, rfl, pr⟩ := pick_p hx
      exact ⟨p, rfl, pr, dr.pen, tabs_off (tab0.ext m) (.dr dr) hd⟩
    clear pen0 tab0
    rintro σ1 H1 ⟨p, rfl, pr, pen1, tab1⟩
    obtain ⟨p2, p7⟩ := isPr_small pr
    refine ⟨fun σ' H' => ∃ (M' W : Addr) (rs : List V) (dss : List (List Int)) (ws : List Int) (n : Int), σ' = [some (.ref sa), some (.ref d), some (.int p), some (.ref M'), some (.ref W), none, none, none, none, none, none, none, none, none, none, none] ∧ Pen H' d cc n ∧ 1 ≤ n ∧ n ≤ 1001 ∧ LA K M' W rs dss ws [(PtL, lamL), (PtR, lamR)] H' ∧ MGood p dss ws ∧ stdy dss ws = true ∧ dss.length ≤ 9, ?_, ?_⟩
    · obtain ⟨kvs, hd⟩ := Pen.dk pen1
      refine ⟨_, rfl, _, rfl, d, cc, 1, p, 9, rfl, pen1, by decide, by decide, pr, by decide, by decide, fun H' t M' W rs dss ws n' ht hM hp hW g st few pen' a1 a2 of => ?_⟩
      exact ⟨t, _, rfl, SqT.of ht, rfl, _, _, rfl, _, _, rfl, rfl, M', W, rs, dss, ws, n', rfl, pen', a1, by omega, ⟨tabs_off tab1 of hd, hM, hp, hW⟩, g, st, few⟩
    clear pen1 tab1
    rintro σ3 H3 ⟨M', W, rs, dss, ws, n, rfl, pen, n1, n2, la, g, st, few⟩
    have d0 := MGood.pos g
    have wl := g.len
    have rl : rs.length = dss.length := Paired.length la.hp

    refine ⟨fun σ' H' => ∃ R S xs, σ' = [some (.ref sa), some (.ref d), some (.int p), some (.ref M'), some (.ref W), none, some (.ref R), some (.ref S), none, none, none, none, none, none, none, none] ∧ More H3 H' ∧ LR H3 R S xs dss ws H', ?_, ?_⟩
    · refine ⟨_, rfl, M', rs, rfl, .inr (SqT.of la.hM), fun J Z' wk hZ D hD => ?_⟩
      refine lc_rel (n := 5) (D := D) (H1 := H3) wk (fun i v H' => ∃ ds, dss[i]? = some ds ∧ ∃ b, v = .ref b ∧ b ≠ D ∧ H3 b = none ∧ H' b = some (.lst (ds.map V.int))) (fun i v H' H'' m ⟨ds, e, b, e2, e3, e4, t⟩ => ⟨ds, e, b, e2, e3, e4, m _ _ t⟩) hD (fun H' m => hZ H' (.of m)) (by omega) (fun _ => rfl) ?_ ?_
      · intro i y H2 Q2 hy m m' ⟨l0, hl0⟩ q2
        obtain ⟨ds, hds, b, rfl, sb⟩ := paired_at la.hp hy
        refine ⟨_, rfl, b, ds.map V.int, rfl, .inr (sqT_more m sb), fun l hl => q2 _ _ (new_more hl) ⟨ds, hds, l, rfl, (ne_of_none hl0 hl).symm, ?_, ?_⟩⟩
        · cases e : H3 l with
          | none => rfl
          | some o => rw [m _ _ e] at hl; cases hl
        · rw [del_ne (ne_of_none hl0 hl).symm, upd_same]
      · intro H4 G vs vl mG mH nG al hD4
        have m4 : More H3 H4 := fun b o e => mH _ _ (mG _ _ e)
        refine ⟨_, rfl, W, _, rfl, .inr (SqT.of (m4 _ _ la.hW)), fun S hS => ⟨_, _, rfl, D, S, vs, ?_, ?_, ?_⟩⟩
        · rfl
        · exact fun b o e => new_more hS _ _ (m4 _ _ e)
        · refine ⟨new_more hS _ _ hD4, upd_same, hD, ?_, ne_of_none hD4 hS, paired_of (by omega) fun i x ds hx hds => ?_⟩
          · cases e : H3 S with
            | none => rfl
            | some o => rw [m4 _ _ e] at hS; cases hS
          obtain ⟨ds', e, b, rfl, bD, b3, hb⟩ := al i x hx
          rw [hds] at e
          cases e
          exact ⟨b, rfl, bD, ne_of_none (mH _ _ hb) hS, b3, new_more hS _ _ (mH _ _ hb)⟩
    rintro σ4 H4 ⟨R, S, xs, rfl, m34, lr⟩
    have xl : xs.length = dss.length := Paired.length lr.rows
    refine ⟨fun σ' H' => ∃ a b, σ' = [some (.ref sa), some (.ref d), some (.int p), some (.ref M'), some (.ref W), none, some (.ref R), some (.ref S), some (.ref b), none, none, none, none, some (.ref a), none, none] ∧ More H4 H' ∧ MAt K H' C a p dss ws ∧ MAt K H' C b p dss ws, ?_, ?_⟩
    · refine ⟨_, rfl, _, rfl, _, rfl, ?_⟩
      intro a dx ha hdx ne
      have m5 : More H4 (upd (upd H4 dx (.own a)) a (.ins C dx [])) := fun b o e => by
        rw [upd_ne (ne_of_none e ha), upd_ne (ne_of_none e hdx)]
        exact e
      have la5 := (la.more m34).more m5
      refine ⟨a, dx, _, _, _, rfl, upd_same, .inr ⟨p, dss, ws, mok g st (.inr (SqT.of la5.hM)) la5.sq (.inr (SqT.of la5.hW)), fun H5 of5 ma5 => ⟨rfl, _, rfl, _, rfl, _, rfl, ?_⟩⟩⟩
      have m45 : More H4 H5 := fun b o e => of5 _ _ (m5 _ _ e) (ne_of_none e ha)
      intro b dy hb hdy ne2
      have m6 : More H5 (upd (upd H5 dy (.own b)) b (.ins C dy [])) := fun b o e => by
        rw [upd_ne (ne_of_none e hb), upd_ne (ne_of_none e hdy)]
        exact e
      have lr6 := (lr.more m45).more m6
      refine ⟨b, dy, _, _, _, rfl, upd_same, .inr ⟨p, dss, ws, mok g st (.inl (SqL.of lr6.hR)) (paired_imp (fun _ _ ⟨b, e1, _, _, _, e2⟩ => ⟨b, e1, .inl (SqL.of e2)⟩) lr6.rows) (.inl (SqL.of lr6.hS)), fun H6 of6 mb6 => ⟨rfl, by show 2 ≤ sizeLine; decide, fun t ht => ?_⟩⟩⟩
      have m56 : More H5 H6 := fun b o e => of6 _ _ (m6 _ _ e) (ne_of_none e hb)
      have mt := new_more (o := .tup [.ref a, .ref b]) ht
      exact ⟨t, _, rfl, SqT.of upd_same, rfl, _, _, rfl, _, _, rfl, rfl, a, b, rfl, fun b o e => mt _ _ (m56 _ _ (m45 _ _ e)), (ma5.more m56).more mt, mb6.more mt⟩
    rintro σ5 H5 ⟨a, b, rfl, m45, ma5, mb5⟩
    have lr5 := lr.more m45
    clear lr
    refine ⟨fun σ' H' => ∃ z5, σ' = [some (.ref sa), some (.ref d), some (.int p), some (.ref M'), some (.ref W), z5, some (.ref R), some (.ref S), some (.ref b), none, none, none, none, some (.ref a), none, none] ∧ H' R = some (.lst xs) ∧ H' S = some (.lst (ws.map V.int)) ∧ Nl H5 H' ∧ More H3 H', ?_, ?_⟩
    · refine ⟨_, rfl, R, rfl, ⟨_, SqL.of lr5.hR⟩, for_it (walk_list (xs := xs)) (fun i σ' H' => ∃ z5, σ' = [some (.ref sa), some (.ref d), some (.int p), some (.ref M'), some (.ref W), z5, some (.ref R), some (.ref S), some (.ref b), none, none, none, none, some (.ref a), none, none] ∧ H' R = some (.lst xs) ∧ H' S = some (.lst (ws.map V.int)) ∧ (∀ x ∈ xs, ∃ b', x = .ref b' ∧ b' ≠ R ∧ b' ≠ S ∧ H3 b' = none ∧ ∃ ys, H' b' = some (.lst ys) ∧ ys.length = p) ∧ Nl H5 H' ∧ More H3 H')
        ⟨none, rfl, lr5.hR, lr5.hS, fun x hx => ?_, .of (fun _ _ e => e), fun b o e => m45 _ _ (m34 _ _ e)⟩ (fun i σ' H' _ ⟨_, _, h, _⟩ => SqL.of h) ?_ ?_⟩
      · obtain ⟨i, hi⟩ := List.getElem?_of_mem hx
        obtain ⟨ds, hds, b', rfl, r1, r2, r3, r4⟩ := paired_at lr5.rows hi
        refine ⟨b', rfl, r1, r2, r3, _, r4, ?_⟩
        have := (g.rows ds (List.mem_of_getElem? hds)).1
        rw [List.length_map]
        omega
      · rintro i y σ' G G' hi ⟨z5, rfl, hR, hS', al, nl, m3⟩ ⟨rfl, hy⟩
        obtain ⟨b', rfl, r1, r2, r3, ys, r4, r5⟩ := al y (List.mem_of_getElem? hy)
        refine ⟨_, _, rfl, rfl, ⟨by decide, by decide, by decide⟩, ?_⟩
        refine ⟨_, rfl, b', ys, _, 0, rfl, rfl, r4, ?_, _, rfl, by rw [upd_ne r1.symm]; exact hR, by rw [upd_ne r2.symm]; exact hS', fun x hx => ?_, nl.trans (.upd r4), fun c o e => by rw [upd_ne (ne_of_none e r3)]; exact m3 _ _ e⟩
        · exact (show L2.ixN _ ((0 : Nat) : Int) = some 0 from Evl.ixN_nat (by omega))
        · obtain ⟨c, rfl, q1, q2, q3, zs, q4, q5⟩ := al x hx
          refine ⟨c, rfl, q1, q2, q3, ?_⟩
          by_cases z : c = b'
          · subst z
            refine ⟨_, upd_same, ?_⟩
            rw [List.length_set]
            exact r5
          · exact ⟨zs, by rw [upd_ne z]; exact q4, q5⟩
      · rintro σ' G ⟨z5, rfl, hR, hS', al, nl, m3⟩
        exact ⟨z5, rfl, hR, hS', nl, m3⟩
    rintro σ6 H6 ⟨z5, rfl, hR6, hS6, nl6, m6⟩
    refine ⟨fun σ' H' => σ' = [some (.ref sa), some (.ref d), some (.int p), some (.ref M'), some (.ref W), z5, some (.ref R), some (.ref S), some (.ref b), none, none, none, none, some (.ref a), none, none] ∧ H' S = some (.lst (ws.map V.int)) ∧ Nl H5 H' ∧ More H3 H', ?_, ?_⟩
    · skip
      refine ⟨_, rfl, .inl ⟨rfl, _, SqL.of hR6⟩, ?_⟩
      refine ⟨by show 1 ≤ sizeLine; decide, fun ra_ hra_ => ?_⟩
      have m7 := new_more (o := .lst [V.int 0]) hra_
      have e_ra_ : (upd H6 ra_ (.lst [V.int 0])) ra_ = some (.lst [V.int 0]) := upd_same
      generalize upd H6 ra_ (.lst [V.int 0]) = H7 at m7 e_ra_ ⊢
      refine ⟨_, rfl, ra_, _, _, rfl, rfl, e_ra_, by omega, by omega, by rw [sizeLine_eq]; show 1 * _ ≤ _; omega, fun ra hra => ?_⟩
      rw [rep_one]
      have m8 := new_more (o := .lst (List.replicate (p : Int).toNat (V.int 0))) hra
      have e_ra : (upd H7 ra (.lst (List.replicate (p : Int).toNat (V.int 0)))) ra = some (.lst (List.replicate (p : Int).toNat (V.int 0))) := upd_same
      generalize upd H7 ra (.lst (List.replicate (p : Int).toNat (V.int 0))) = H8 at m8 e_ra ⊢
      refine ⟨R, xs, _, rfl, rfl, (m8 _ _ (m7 _ _ hR6)), by rw [sizeLine_eq, xl]; omega, rfl, by rw [upd_ne lr5.RS.symm]; exact (m8 _ _ (m7 _ _ hS6)), (nl6.trans (.of (fun b o e => m8 _ _ (m7 _ _ e)))).trans (.upd (m8 _ _ (m7 _ _ hR6))), fun c o e => by rw [upd_ne (ne_of_none e lr5.nR)]; exact (m8 _ _ (m7 _ _ (m6 _ _ e)))⟩
    rintro σ7 H7 ⟨rfl, hS7, nl7, m7⟩
    clear hR6 hS6 nl6
    refine ⟨fun σ' H' => σ' = [some (.ref sa), some (.ref d), some (.int p), some (.ref M'), some (.ref W), z5, some (.ref R), some (.ref S), some (.ref b), none, none, none, none, some (.ref a), none, none] ∧ MAt K H' C a p dss ws ∧ MAt K H' C b p dss ws ∧ More H3 H', ?_, ?_⟩
    · refine ⟨_, rfl, .inl ⟨rfl, _, SqL.of hS7⟩, S, _, _, rfl, rfl, hS7, by rw [sizeLine_eq, List.length_map, wl]; omega, rfl, mat_nl (nl7.trans (.upd hS7)) ma5, mat_nl (nl7.trans (.upd hS7)) mb5, fun c o e => by rw [upd_ne (ne_of_none e lr5.nS)]; exact m7 _ _ e⟩
    rintro σ8 H8 ⟨rfl, ma8, mb8, m38⟩
    clear nl7 ma5 mb5 lr5

    have la8 := la.more m38
    refine ⟨fun σ' H' => σ' = [some (.ref sa), some (.ref d), some (.int p), some (.ref M'), some (.ref W), z5, some (.ref R), some (.ref S), some (.ref b), none, none, none, none, some (.ref a), none, none] ∧ MAt K H' C a p dss ws ∧ MAt K H' C b p dss ws ∧ More H3 H', ?_, ?_⟩
    · refine ⟨_, rfl, _, rfl, _, rfl, _, rfl, a, M', W, rs, p, dss, ws, rfl, ma8, SqT.of la8.hM, la8.hp, SqT.of la8.hW, fun G1 e1 => ⟨_, rfl, iteF ?_⟩⟩
      have la9 := la8.more e1
      exact ⟨_, rfl, _, rfl, _, rfl, _, rfl, b, M', W, rs, p, dss, ws, rfl, mb8.more e1, SqT.of la9.hM, la9.hp, SqT.of la9.hW, fun G2 e2 => ⟨_, rfl, iteF ⟨rfl, (ma8.more e1).more e2, (mb8.more e1).more e2, fun c o e => e2 _ _ (e1 _ _ (m38 _ _ e))⟩⟩⟩
    rintro σ9 H9 ⟨rfl, ma9, mb9, m39⟩
    clear ma8 mb8 la8 m38
    refine ⟨fun σ' H' => σ' = [some (.ref sa), some (.ref d), some (.int p), some (.ref M'), some (.ref W), z5, some (.ref R), some (.ref S), some (.ref b), none, none, none, none, some (.ref a), none, none] ∧ MAt K H' C a p dss ws ∧ More H3 H', ?_, ?_⟩
    · obtain ⟨dx, ta, ua, xa, hia, _⟩ := id ma9
      obtain ⟨dy, tb, ub, xb, hib, _⟩ := id mb9
      refine ⟨_, rfl, _, rfl, a, dx, _, .ref C, rfl, hia, .inr ⟨b, dy, _, rfl, hib, rfl⟩, by simp [PySem.W.notFirst], a, .ref b, p, dss, ws, rfl, ma9, .inr ⟨b, p, dss, ws, rfl, mb9, ?_⟩⟩
      rw [decide_eq_true (⟨rfl, rfl, rfl⟩ : (p : Int) = p ∧ dss = dss ∧ ws = ws)]
      refine ⟨_, _, rfl, rfl, _, rfl, iteF ?_⟩
      refine ⟨_, rfl, by show 3 ≤ sizeLine; decide, fun l hl => ⟨l, rfl, ⟨_, SqL.of upd_same⟩, fun D hD => ?_⟩⟩
      have ml := new_more (o := .lst [V.non, .ref M', .int 0]) hl
      refine lc_name (n := 14) (rs := [.bl false, .bl false, .bl false]) walk_list hD (fun H' m => Same.seq m (SqL.of upd_same)) rfl (by show 3 ≤ 16777215; decide) (fun _ => rfl) ?_ ?_
      · intro i y v G Qv hy hv m q
        have key : ∃ nm, nm ∈ offOwn ∧ nm ∈ (["NoneType", "tuple", "int"] : List String) ∧ TyX K G y (.type nm) ∧ v = .bl false := by
          match i, hy, hv with
          | 0, hy, hv => cases hy; cases hv; exact ⟨"NoneType", by decide, by decide, .base .non, rfl⟩
          | 1, hy, hv => cases hy; cases hv; exact ⟨"tuple", by decide, by decide, tyT (SqT.of (m _ _ (ml _ _ (m39 _ _ la.hM)))), rfl⟩
          | 2, hy, hv => cases hy; cases hv; exact ⟨"int", by decide, by decide, .base (.int 0), rfl⟩
          | i + 3, hy, hv => cases hy
        obtain ⟨nm, i1, i2, ty, rfl⟩ := key
        exact ⟨_, rfl, _, rfl, a, dx, _, .type nm, rfl, m _ _ (ml _ _ hia), .inl ty, nf nm i2, a, y, p, dss, ws, rfl, (ma9.more ml).more m, .inl ⟨nm, i1, ty, q _ (fun _ _ e => e)⟩⟩
      · intro H' hD' m'
        refine ⟨by show 3 ≤ sizeLine; decide, fun l2 hl2 => ?_⟩
        refine ⟨_, _, .lst (SqL.of (new_more hl2 _ _ hD')) (.cons (.bl false) (.cons (.bl false) (.cons (.bl false) .nil))), .lst (SqL.of upd_same) (.cons (.bl false) (.cons (.bl false) (.cons (.bl false) .nil))), by decide +kernel, by decide +kernel, ?_⟩
        rw [show PyData.eqv (.list [.bool false, .bool false, .bool false]) (.list [.bool false, .bool false, .bool false]) = true by decide +kernel]
        refine ⟨_, rfl, iteF ⟨rfl, ?_, ?_⟩⟩
        · exact (ma9.more ml).more fun c o e => new_more hl2 _ _ (m' _ _ e)
        · exact fun c o e => new_more hl2 _ _ (m' _ _ (ml _ _ (m39 _ _ e)))
    rintro σ10 H10 ⟨rfl, ma10, m310⟩
    clear ma9 mb9 m39

    have la10 := la.more m310
    have w0 : (ws.map V.int)[0]? = some (.int (ws.getD 0 0)) := at_map (at_getD (by omega) 0)
    refine ⟨fun σ' H' => ∃ oth, σ' = [some (.ref sa), some (.ref d), some (.int p), some (.ref M'), some (.ref W), z5, some (.ref R), some (.ref S), some (.ref b), some (.ref oth), none, none, none, some (.ref a), none, none] ∧ MAt K H' C a p dss ws ∧ MAt K H' C oth p (dss ++ [List.replicate p 0]) (ws ++ [ws.getD 0 0]) ∧ More H3 H', ?_, ?_⟩
    · refine ⟨_, rfl, _, rfl, by show 1 ≤ sizeLine; decide, fun z0 hz0 => ?_⟩
      have m11 := new_more (o := .tup [V.int 0]) hz0
      have e_z0 : (upd H10 z0 (.tup [V.int 0])) z0 = some (.tup [V.int 0]) := upd_same
      generalize upd H10 z0 (.tup [V.int 0]) = H11 at m11 e_z0 ⊢
      refine ⟨_, rfl, .inl ⟨z0, p, _, rfl, rfl, SqT.of e_z0, by simp, by omega, by omega, by show 1 ≤ 1000; decide, fun z hz => ?_⟩⟩
      rw [rep_one, Int.toNat_natCast]
      have m12 := new_more (o := .tup (List.replicate p (V.int 0))) hz
      have e_z : (upd H11 z (.tup (List.replicate p (V.int 0)))) z = some (.tup (List.replicate p (V.int 0))) := upd_same
      generalize upd H11 z (.tup (List.replicate p (V.int 0))) = H12 at m12 e_z ⊢
      refine ⟨by show 1 ≤ sizeLine; decide, fun z1 hz1 => ?_⟩
      have m13 := new_more (o := .tup [V.ref z]) hz1
      have e_z1 : (upd H12 z1 (.tup [V.ref z])) z1 = some (.tup [V.ref z]) := upd_same
      generalize upd H12 z1 (.tup [V.ref z]) = H13 at m13 e_z1 ⊢
      refine cat_any (SqT.of (m13 _ _ (m12 _ _ (m11 _ _ la10.hM)))) (SqT.of e_z1) (by rw [rl]; show _ + 1 ≤ _; omega) fun M2 Hc mc hM2 => ?_
      refine ⟨_, rfl, _, rfl, ix_any (.inr (SqT.of (mc _ _ (m13 _ _ (m12 _ _ (m11 _ _ la10.hW)))))) rfl (j := 0) w0 ⟨by show 1 ≤ sizeLine; decide, fun z2 hz2 => ?_⟩⟩
      have m15 := new_more (o := .tup [V.int (ws.getD 0 0)]) hz2
      have e_z2 : (upd Hc z2 (.tup [V.int (ws.getD 0 0)])) z2 = some (.tup [V.int (ws.getD 0 0)]) := upd_same
      generalize upd Hc z2 (.tup [V.int (ws.getD 0 0)]) = H15 at m15 e_z2 ⊢
      refine cat_any (SqT.of (m15 _ _ (mc _ _ (m13 _ _ (m12 _ _ (m11 _ _ la10.hW)))))) (SqT.of e_z2) (by rw [List.length_map]; show _ + 1 ≤ _; omega) fun W2 Hd md hW2 => ?_
      intro oth dx ho hdx ne
      have m5 : More Hd (upd (upd Hd dx (.own oth)) oth (.ins C dx [])) := fun b o e => by
        rw [upd_ne (ne_of_none e ho), upd_ne (ne_of_none e hdx)]
        exact e
      have laD := (la10.more (fun b o e => md _ _ (m15 _ _ (mc _ _ (m13 _ _ (m12 _ _ (m11 _ _ e))))))).more m5
      refine ⟨oth, dx, _, _, _, rfl, upd_same, .inr ⟨p, _, _, mok (MGood.other g (by omega)) (stdy_other g st) (.inr (sqT_more m5 (sqT_more (fun b o e => md _ _ (m15 _ _ e)) hM2))) ?_ (.inr ?_), fun H5 of5 mo5 => ⟨rfl, ?_⟩⟩⟩
      · refine paired_snoc ⟨z, rfl, .inr (SqT.of ?_)⟩ laD.sq
        rw [List.map_replicate]
        exact m5 _ _ (md _ _ (m15 _ _ (mc _ _ (m13 _ _ e_z))))
      · rw [List.map_append]
        exact sqT_more m5 hW2
      have m45 : More Hd H5 := fun b o e => of5 _ _ (m5 _ _ e) (ne_of_none e ho)
      exact ⟨oth, rfl, (ma10.more (fun b o e => md _ _ (m15 _ _ (mc _ _ (m13 _ _ (m12 _ _ (m11 _ _ e))))))).more m45, mo5, fun b o e => m45 _ _ (md _ _ (m15 _ _ (mc _ _ (m13 _ _ (m12 _ _ (m11 _ _ (m310 _ _ e)))))))⟩
    rintro σ11 H11 ⟨oth, rfl, ma11, mo11, m311⟩
    clear ma10 m310 la10

    have la11 := la.more m311
    refine ⟨fun σ' H' => σ' = [some (.ref sa), some (.ref d), some (.int p), some (.ref M'), some (.ref W), z5, some (.ref R), some (.ref S), some (.ref b), some (.ref oth), none, none, none, some (.ref a), none, none] ∧ MAt K H' C a p dss ws ∧ More H3 H', ?_, ?_⟩
    · obtain ⟨dx, ta, ua, xa, hia, _⟩ := id ma11
      obtain ⟨dy, tb, ub, xb, hio, _⟩ := id mo11
      refine ⟨_, rfl, _, rfl, a, dx, _, .ref C, rfl, hia, .inr ⟨oth, dy, _, rfl, hio, rfl⟩, by simp [PySem.W.notFirst], a, .ref oth, p, dss, ws, rfl, ma11, .inr ⟨oth, p, _, _, rfl, mo11, ?_⟩⟩
      rw [decide_eq_false (fun z => by
        have e := congrArg List.length z.2.1
        rw [List.length_append] at e
        have e : dss.length = dss.length + 1 := e
        omega)]
      refine ⟨_, rfl, iteF ?_⟩
      refine ⟨_, rfl, _, rfl, _, rfl, _, rfl, W, _, rfl, .inr (SqT.of la11.hW), fun J Z' wk hZ D hD => ?_⟩
      refine lc_name (n := 15) (rs := (ws.map (· + 1)).map V.int) wk hD (fun H' m => hZ H' (.of m)) (by rw [List.length_map, List.length_map, List.length_map]) (by rw [List.length_map]; omega) (fun _ => rfl) ?_ ?_
      · intro i y v G Qv hy hv m q
        obtain ⟨w1, h1, rfl⟩ := map_at hy
        obtain ⟨w2, h2, rfl⟩ := map_at hv
        obtain ⟨w3, h3, rfl⟩ := map_at h2
        rw [h1] at h3
        cases h3
        exact ⟨_, rfl, _, _, rfl, rfl, q _ (fun _ _ e => e)⟩
      · intro G hD' m'
        intro x dz hx hdz ne
        have m5 : More G (upd (upd G dz (.own x)) x (.ins C dz [])) := fun b o e => by
          rw [upd_ne (ne_of_none e hx), upd_ne (ne_of_none e hdz)]
          exact e
        have laG := (la11.more m').more m5
        refine ⟨x, dz, _, _, _, rfl, upd_same, .inr ⟨p, dss, _, mok (MGood.up g) (stdy_up g st) (.inr (SqT.of laG.hM)) laG.sq (.inl (SqL.of (m5 _ _ hD'))), fun G2 of5 mx => ⟨rfl, ?_⟩⟩⟩
        have m6 : More H11 G2 := fun b o e => of5 _ _ (m5 _ _ (m' _ _ e)) (ne_of_none (m' _ _ e) hx)
        have ma := ma11.more m6
        obtain ⟨dw, tc, uc, xc, hix, _⟩ := id mx
        refine ⟨a, dx, _, .ref C, rfl, m6 _ _ hia, .inr ⟨x, dw, _, rfl, hix, rfl⟩, by simp [PySem.W.notFirst], a, .ref x, p, dss, ws, rfl, ma, .inr ⟨x, p, _, _, rfl, mx, ?_⟩⟩
        rw [decide_eq_false (fun z => up_ne (ws := ws) (by omega) z.2.2)]
        exact ⟨_, rfl, iteF ⟨rfl, ma, fun b o e => m6 _ _ (m311 _ _ e)⟩⟩
    rintro σ12 H12 ⟨rfl, ma12, m312⟩
    clear ma11 mo11 m311 la11

    have pen12 : Pen H12 d cc n := let ⟨o1, h1⟩ := pen.at; let ⟨o2, h2⟩ := pen.atc; pen.keep ((m312 _ _ h1).trans h1.symm) ((m312 _ _ h2).trans h2.symm)
    have la12 := la.more m312
    have nth : ∀ k, k < dss.length → (ws.map V.int)[k]? = some (.int (ws.getD k 0)) := fun k hk => at_map (at_getD (by omega) 0)
    refine ⟨fun σ' H' => ∃ z10 z11 n', σ' = [some (.ref sa), some (.ref d), some (.int p), some (.ref M'), some (.ref W), z5, some (.ref R), some (.ref S), some (.ref b), some (.ref oth), z10, z11, none, some (.ref a), none, none] ∧ Pen H' d cc n' ∧ n ≤ n' ∧ n' ≤ n + 240 ∧ LA K M' W rs dss ws [(PtL, lamL), (PtR, lamR)] H' ∧ MAt K H' C a p dss ws, ?_, ?_⟩
    · refine ⟨8, rfl, by decide, by decide, for_range (lo := 0) (n := 8) (fun i σ' H' => ∃ z10 z11 n', σ' = [some (.ref sa), some (.ref d), some (.int p), some (.ref M'), some (.ref W), z5, some (.ref R), some (.ref S), some (.ref b), some (.ref oth), z10, z11, none, some (.ref a), none, none] ∧ Pen H' d cc n' ∧ n ≤ n' ∧ n' ≤ n + 30 * i ∧ LA K M' W rs dss ws [(PtL, lamL), (PtR, lamR)] H' ∧ MAt K H' C a p dss ws)
        ⟨none, none, n, rfl, pen12, by omega, by omega, la12, ma12⟩ ?_ ?_⟩
      · rintro i σ' G hi ⟨z10, z11, n', rfl, pn, b1, b2, laG, maG⟩
        refine ⟨_, rfl, d, cc, n', rfl, pn, by omega, by omega, fun r n2 G1 r0 r1 a1 a2 pn1 of => ?_⟩
        obtain ⟨la1, kp⟩ := laG.off of pn pn1
        have ma1 := maG.kp kp
        obtain ⟨rn, rfl⟩ : ∃ rn : Nat, r = rn := ⟨r.toNat, by omega⟩
        have big : rn < 2 ^ 400 := by
          have : rn < 10 ^ 57 := by exact_mod_cast r1
          exact Nat.lt_of_lt_of_le this (by decide +kernel)
        obtain ⟨dx, ta, ua, xa, hia, _⟩ := id ma1
        refine ⟨_, rfl, a, dx, _, rfl, hia, rfl, _, rfl, a, _, p, dss, ws, rfl, ma1, g, .inl ⟨rn, rfl, big, fun G2 m2 => ?_⟩⟩
        refine ⟨_, rfl, _, rfl, _, rfl, _, rfl, rn, p, rfl, pr, big, fun G3 l m3 nl hl => ?_⟩
        have la3 := (la1.more m2).more m3
        have are := dgs_are (p := p) (by omega) rn rn (Nat.le_refl _)
        refine ⟨M', l, rs, p, dss, ws, dgs p rn, rfl, SqT.of la3.hM, la3.hp, g, SqL.of hl, are, ?_⟩
        have lt := MGood.run g (dgs p rn) 0 d0 are
        refine ix_any (.inr (SqT.of la3.hW)) rfl (nth _ lt) ?_
        rw [Int.toNat_natCast]
        refine ⟨rfl, _, rfl, ?_⟩
        rw [deI, decide_eq_true (rfl : ws.getD (runM dss (dgs p rn)) 0 = _)]
        refine iteF ⟨_, _, n2, rfl, pen_more (pen_more pn1 m2) m3, by omega, by omega, la3, (ma1.more m2).more m3⟩
      · rintro σ' G ⟨z10, z11, n', rfl, pn, b1, b2, laG, maG⟩
        exact ⟨z10, z11, n', rfl, pn, b1, b2, laG, maG⟩
    clear ma12 m312 la12 pen12
    rintro σ13 H13 ⟨z10, z11, n13, rfl, pen13, b1, b2, la13, ma13⟩

    refine ⟨fun σ' H' => ∃ xo, σ' = [some (.ref sa), some (.ref d), some (.int p), some (.ref M'), some (.ref W), z5, some (.ref R), some (.ref S), some (.ref b), some (.ref oth), z10, z11, some xo, some (.ref a), none, none] ∧ OddN xo ∧ (∃ n', Pen H' d cc n' ∧ 0 ≤ n' ∧ n' ≤ 1300) ∧ LA K M' W rs dss ws [(PtL, lamL), (PtR, lamR)] H' ∧ MAt K H' C a p dss ws, ?_, ?_⟩
    · refine ⟨_, rfl, _, rfl, _, _, rfl, rfl, ⟨by decide, by decide, by decide⟩, _, rfl, by show 5 ≤ sizeLine; decide, fun L hL => ?_⟩
      have m := new_more (o := .lst [V.int (-1), .non, .bl true, .str "1", .int (-(10 : Int) ^ (30 : Int).toNat)]) hL
      refine ⟨d, cc, L, n13, _, rfl, pen13.upd hL, upd_same, by show 0 < 5; decide, by show 5 ≤ 1000; decide, by omega, by omega, fun x H' hx dr => ?_⟩
      obtain ⟨la, kp⟩ := (la13.more m).off (.dr dr) (pen13.upd hL) dr.pen
      exact ⟨x, rfl, pick_odd hx, ⟨_, dr.pen, by omega, by omega⟩, la, (ma13.more m).kp kp⟩
    clear pen13 la13 ma13
    rintro σ14 H14 ⟨xo, rfl, ⟨bad, e, de, ev, sh⟩, ⟨n14, pen14, c1, c2⟩, la14, ma14⟩

    refine ⟨fun σ' H' => σ' = [some (.ref sa), some (.ref d), some (.int p), some (.ref M'), some (.ref W), z5, some (.ref R), some (.ref S), some (.ref b), some (.ref oth), z10, z11, some xo, some (.ref a), none, none] ∧ Pen H' d cc n14 ∧ LA K M' W rs dss ws [(PtL, lamL), (PtR, lamR)] H', ?_, ?_⟩
    · obtain ⟨dx, ta, ua, xa, hia, _⟩ := id ma14
      refine ⟨_, rfl, a, dx, _, rfl, hia, rfl, a, _, p, dss, ws, rfl, ma14, g, .inl ⟨0, rfl, by decide +kernel, fun G m => ⟨_, rfl, ix_any (.inr (SqT.of ((la14.more m).hW))) rfl (nth 0 d0) ⟨rfl, _, rfl, ?_⟩⟩⟩⟩
      rw [dgs_zero, deI, decide_eq_true (show ws.getD (runM dss []) 0 = ws.getD 0 0 from rfl)]
      refine iteF ⟨(la14.more m).tab, fun H15 eN tN => ?_⟩
      have k15 := (Kp.of m).trans (Kp.ext eN)
      have ma15 := ma14.kp k15
      have la15 := (la14.more m).ext eN tN
      refine ⟨_, rfl, a, dx, _, rfl, k15.at hia (fun _ z => nomatch z) (fun _ z => nomatch z), rfl, _, rfl, a, xo, p, dss, ws, rfl, ma15, g, .inr ⟨bad _ _, fun dd hdd => .inl ⟨rfl, dd, _, _, rfl, upd_same, fun t ht => ?_⟩⟩⟩
      have m16 : More H15 (upd (upd H15 dd (.xd [("number", xo), ("what", .str "n")])) t (.lst [.str "number", .str "n", xo])) := fun b o e => new_more ht _ _ (new_more hdd _ _ e)
      have e_t : (upd (upd H15 dd (.xd [("number", xo), ("what", .str "n")])) t (.lst [.str "number", .str "n", xo])) t = some (.lst [.str "number", .str "n", xo]) := upd_same
      generalize upd (upd H15 dd (.xd [("number", xo), ("what", .str "n")])) t (.lst [.str "number", .str "n", xo]) = H16 at m16 e_t ⊢
      refine ⟨_, rfl, by show 3 ≤ sizeLine; decide, fun u hu => ?_⟩
      have m17 := new_more (o := .lst [V.str "number", .str "n", xo]) hu
      have e_u : (upd H16 u (.lst [V.str "number", .str "n", xo])) u = some (.lst [V.str "number", .str "n", xo]) := upd_same
      generalize upd H16 u (.lst [V.str "number", .str "n", xo]) = H17 at m17 e_u ⊢
      refine ⟨_, _, .lst (SqL.of (m17 _ _ e_t)) (.cons (.str _) (.cons (.str _) (.cons (de _ _) .nil))), .lst (SqL.of e_u) (.cons (.str _) (.cons (.str _) (.cons (de _ _) .nil))), sh, sh, ?_⟩
      rw [ev]
      exact ⟨_, rfl, iteF ⟨rfl, pen_more (pen_ext (pen_more pen14 m) eN) (fun b o e => m17 _ _ (m16 _ _ e)), la15.more (fun b o e => m17 _ _ (m16 _ _ e))⟩⟩
    rintro σ15 H15 ⟨rfl, pen15, la15⟩
    exact ⟨_, rfl, _, rfl, _, rfl, _, rfl, d, cc, M', W, n14, p, rs, dss, ws, rfl, pen15, c1, by omega, fun pq hpq => la15.tab pq (.tail _ hpq), la15.hM, la15.hp, la15.hW, g, by omega, fin⟩
end
end K67

namespace K67
open PySem L2 Gd B5
/-! ### what the top has written -/
structure ErIn (K : PySem.W.Frag) (x : Str) (C : Addr) : Prop where
  aC : PySem.W.nsIn K mainGlobals x = some (some (.ref C))
  kC : PySem.W.keepIn K (.ref C) = true
  ga : PySem.W.findIn K (.ref C) "__getattribute__" = some (some (.builtin "BaseException.__getattribute__"))
  gg : PySem.W.findIn K (.ref C) "__getattr__" = some none
  be : PySem.W.subIn K (.ref C) (.type "BaseException") = some true
  hd : PySem.W.hasDictIn K C = true
structure IniIn (K : PySem.W.Frag) (q : Str) (st : Stmt) (C fI : Addr) (oc kV dc pm cd ct : Value) (od an : Option Addr) (sl : Array (Option Value)) (nm q' : Str) (N : Addr) (bs : List Value) (ce : Addr) (sn : List Str) (sub : List Value) (ab : Bool) (col : Option Bool) (dd : Option Addr) (m0 m1 m2 m3 m5 : Option Value) : Prop where
  xL : K.lookup C = some (excClassObj nm q' C N bs [.ref ce, .type "ValueError", .type "Exception", .type "BaseException", .type "object"] true sn sub ab col dd m0 m1 m2 m3 m5 "ValueError.__new__")
  sa : PySem.W.findIn K (.ref C) "__setattr__" = some (some (.builtin "object.__setattr__"))
  tC : PySem.W.typeIn K (.ref C) = some (.type "type")
  iC : PySem.W.findIn K (.ref C) "__init__" = some (some (.ref fI))
  tI : PySem.W.typeIn K (.ref fI) = some (.type "function")
  lI : K.lookup fI = some ⟨oc, od, .func (PySem.W.fnOf "__init__" q (defArgs st) (defBody st) (defScope st) .none kV dc pm an cd ct), sl⟩
  cI : PySem.W.codeIn K cd q = true
  kI : PySem.W.keepIn K (.ref fI) = true
theorem er_of {K : PySem.W.Frag} {h : Heap} {mg : Str → Option Value} (X : K.In h) (G : h.Ns mainGlobals mg) {x q : Str} {st : Stmt} {fs : List Str} {C fI : Addr} {oc kV dc pm cd ct : Value} {od an : Option Addr} {sl : Array (Option Value)} {nm q' : Str} {N : Addr} {bs : List Value} {ce : Addr} {sn : List Str} {sub : List Value} {ab : Bool} {col : Option Bool} {dd : Option Addr} {m0 m1 m2 m3 m5 : Option Value}
    (E : ErIn K x C) (I : IniIn K q st C fI oc kV dc pm cd ct od an sl nm q' N bs ce sn sub ab col dd m0 m1 m2 m3 m5) (no : ∀ g ∈ fs, PySem.W.findIn K (.ref C) g = some none)
    (b : ∀ (kV doc pm : Value) (an : Option Addr) (cdv ct : Value) (us : List Value), us.length = (("self" : Str) :: fs).length → bindArgs (PySem.W.fnOf "__init__" q (defArgs st) (defBody st) (defScope st) .none kV doc pm an cdv ct) ⟨us, []⟩ = pure ((("self" : Str) :: fs).zip us)) :
    Er K mg x q C fI fs st (PySem.W.fnOf "__init__" q (defArgs st) (defBody st) (defScope st) .none kV dc pm an cd ct) := by
  have F := fun_mk (st := st) I.lI I.cI I.kI
  exact ⟨⟨⟨nm, q', N, bs, _, sn, sub, ab, col, dd, m0, m1, m2, m3, m5, I.xL, by show PySem.HandSPX.refsVE [.type "ValueError", .type "Exception", .type "BaseException", .type "object"] = true; decide +kernel⟩, I.sa, E.be, I.tC, E.kC⟩, I.iC, I.tI, F, F.binds b, no, PySem.W.mg_of X G E.aC⟩
theorem all_mk {l : PySem.W.OpenLaw} {w : World} {K : PySem.W.Frag} {h : Heap} {mg : Str → Option Value} {fa gLaw CN CR CU C D ce cc0 cc1 Pt0 Pt1 : Addr} (X : K.In h) (G : h.Ns mainGlobals mg) (hfa : mg "law" = some (.ref fa))
    {i0 : Addr} {oc0 kV0 dc0 pm0 cd0 ct0 : Value} {od0 an0 : Option Addr} {sl0 : Array (Option Value)} {nm0 q0 : Str} {N0 : Addr} {bs0 : List Value} {sn0 : List Str} {sub0 : List Value} {ab0 : Bool} {col0 : Option Bool} {dd0 : Option Addr} {m00 m10 m20 m30 m50 : Option Value}
    {i1 : Addr} {oc1 kV1 dc1 pm1 cd1 ct1 : Value} {od1 an1 : Option Addr} {sl1 : Array (Option Value)} {nm1 q1 : Str} {N1 : Addr} {bs1 : List Value} {sn1 : List Str} {sub1 : List Value} {ab1 : Bool} {col1 : Option Bool} {dd1 : Option Addr} {m01 m11 m21 m31 m51 : Option Value}
    {i2 : Addr} {oc2 kV2 dc2 pm2 cd2 ct2 : Value} {od2 an2 : Option Addr} {sl2 : Array (Option Value)} {nm2 q2 : Str} {N2 : Addr} {bs2 : List Value} {sn2 : List Str} {sub2 : List Value} {ab2 : Bool} {col2 : Option Bool} {dd2 : Option Addr} {m02 m12 m22 m32 m52 : Option Value}
    {gf0 : Addr} {oodf0 oanf0 : Option Addr} {oslf0 : Array (Option Value)} {oocf0 okVf0 odcf0 opmf0 ocdf0 octf0 : Value}
    {gf1 : Addr} {oodf1 oanf1 : Option Addr} {oslf1 : Array (Option Value)} {oocf1 okVf1 odcf1 opmf1 ocdf1 octf1 : Value}
    {gf2 : Addr} {oodf2 oanf2 : Option Addr} {oslf2 : Array (Option Value)} {oocf2 okVf2 odcf2 opmf2 ocdf2 octf2 : Value}
    {gf3 : Addr} {oodf3 oanf3 : Option Addr} {oslf3 : Array (Option Value)} {oocf3 okVf3 odcf3 opmf3 ocdf3 octf3 : Value}
    {gf4 : Addr} {oodf4 oanf4 : Option Addr} {oslf4 : Array (Option Value)} {oocf4 okVf4 odcf4 opmf4 ocdf4 octf4 : Value}
    {gf5 : Addr} {oodf5 oanf5 : Option Addr} {oslf5 : Array (Option Value)} {oocf5 okVf5 odcf5 opmf5 ocdf5 octf5 : Value}
    {gf6 : Addr} {oodf6 oanf6 : Option Addr} {oslf6 : Array (Option Value)} {oocf6 okVf6 odcf6 opmf6 ocdf6 octf6 : Value}
    {gf7 : Addr} {oodf7 oanf7 : Option Addr} {oslf7 : Array (Option Value)} {oocf7 okVf7 odcf7 opmf7 ocdf7 octf7 : Value}
    {gf8 : Addr} {oodf8 oanf8 : Option Addr} {oslf8 : Array (Option Value)} {oocf8 okVf8 odcf8 opmf8 ocdf8 octf8 : Value}
    {gf9 : Addr} {oodf9 oanf9 : Option Addr} {oslf9 : Array (Option Value)} {oocf9 okVf9 odcf9 opmf9 ocdf9 octf9 : Value}
    {gf10 : Addr} {oodf10 oanf10 : Option Addr} {oslf10 : Array (Option Value)} {oocf10 okVf10 odcf10 opmf10 ocdf10 octf10 : Value}
    {gf11 : Addr} {oodf11 oanf11 : Option Addr} {oslf11 : Array (Option Value)} {oocf11 okVf11 odcf11 opmf11 ocdf11 octf11 : Value}
    {gf12 : Addr} {oodf12 oanf12 : Option Addr} {oslf12 : Array (Option Value)} {oocf12 okVf12 odcf12 opmf12 ocdf12 octf12 : Value}
    {gf13 : Addr} {oodf13 oanf13 : Option Addr} {oslf13 : Array (Option Value)} {oocf13 okVf13 odcf13 opmf13 ocdf13 octf13 : Value}
    {gf14 : Addr} {oodf14 oanf14 : Option Addr} {oslf14 : Array (Option Value)} {oocf14 okVf14 odcf14 opmf14 ocdf14 octf14 : Value}
    {gf15 : Addr} {oodf15 oanf15 : Option Addr} {oslf15 : Array (Option Value)} {oocf15 okVf15 odcf15 opmf15  octf15 : Value}
    {gm0_0 : Addr} {oodm0_0 oanm0_0 : Option Addr} {oslm0_0 : Array (Option Value)} {oocm0_0 okVm0_0 odcm0_0 opmm0_0 ocdm0_0 octm0_0 : Value}
    {gm0_1 : Addr} {oodm0_1 oanm0_1 : Option Addr} {oslm0_1 : Array (Option Value)} {oocm0_1 okVm0_1 odcm0_1 opmm0_1 ocdm0_1 octm0_1 : Value}
    {gm0_2 : Addr} {oodm0_2 oanm0_2 : Option Addr} {oslm0_2 : Array (Option Value)} {oocm0_2 okVm0_2 odcm0_2 opmm0_2 ocdm0_2 octm0_2 : Value}
    {oodF oanF : Option Addr} {oslF : Array (Option Value)} {oocF okVF odcF opmF octF : Value}
    (e0 : ErIn K "BadNumber" CN)
    (j0 : IniIn K "BadNumber.__init__" sBadNumber CN i0 oc0 kV0 dc0 pm0 cd0 ct0 od0 an0 sl0 nm0 q0 N0 bs0 ce sn0 sub0 ab0 col0 dd0 m00 m10 m20 m30 m50)
    (n0_0 : PySem.W.findIn K (.ref CN) "what" = some none)
    (n0_1 : PySem.W.findIn K (.ref CN) "number" = some none)
    (e1 : ErIn K "BadRow" CR)
    (j1 : IniIn K "BadRow.__init__" sBadRow CR i1 oc1 kV1 dc1 pm1 cd1 ct1 od1 an1 sl1 nm1 q1 N1 bs1 ce sn1 sub1 ab1 col1 dd1 m01 m11 m21 m31 m51)
    (n1_0 : PySem.W.findIn K (.ref CR) "row" = some none)
    (e2 : ErIn K "Unlike" CU)
    (j2 : IniIn K "Unlike.__init__" sUnlike CU i2 oc2 kV2 dc2 pm2 cd2 ct2 od2 an2 sl2 nm2 q2 N2 bs2 ce sn2 sub2 ab2 col2 dd2 m02 m12 m22 m32 m52)
    (n2_0 : PySem.W.findIn K (.ref CU) "what" = some none)
    (aC0 : PySem.W.nsIn K mainGlobals "Machine" = some (some (.ref C)))
    (pg0 : PySem.W.plainGet K C Str.empty = true)
    (hd0 : PySem.W.hasDictIn K C = true)
    (po0 : PySem.W.plainOver K C = true)
    (sa0 : PySem.W.findIn K (.ref C) "__setattr__" = some (some (.builtin "object.__setattr__")))
    (ha0 : PySem.W.findIn K (.ref C) "__class__" = some (some (.builtin "object.__class__")))
    (hn0 : PySem.W.specialIn K (.builtin "object.__class__") "__get__" = some (some (.builtin "getset_descriptor.__get__")))
    (ht0 : PySem.W.takesIn K (.builtin "object.__class__") = some true)
    (hm0 : PySem.W.mroIn K C (.type "object") = some true)
    (me0 : PySem.W.kitOne K (.ref C) (.ref C) = some true)
    (at0_0 : PySem.W.findIn K (.ref C) "p" = some none)
    (at0_1 : PySem.W.findIn K (.ref C) "moves" = some none)
    (at0_2 : PySem.W.findIn K (.ref C) "worths" = some none)
    (at0_3 : PySem.W.findIn K (.ref C) "size" = some none)
    (no0_int : PySem.W.kitOne K (.type "int") (.ref C) = some false)
    (no0_bool : PySem.W.kitOne K (.type "bool") (.ref C) = some false)
    (no0_NoneType : PySem.W.kitOne K (.type "NoneType") (.ref C) = some false)
    (no0_str : PySem.W.kitOne K (.type "str") (.ref C) = some false)
    (no0_list : PySem.W.kitOne K (.type "list") (.ref C) = some false)
    (no0_tuple : PySem.W.kitOne K (.type "tuple") (.ref C) = some false)
    (no0_dict : PySem.W.kitOne K (.type "dict") (.ref C) = some false)
    (ni0 : PySem.W.kitOne K (.ref C) (.type "int") = some false)
    (nf0_NoneType : PySem.W.notFirst K C (.type "NoneType") = true)
    (nf0_tuple : PySem.W.notFirst K C (.type "tuple") = true)
    (nf0_int : PySem.W.notFirst K C (.type "int") = true)
    (mk0 : PySem.W.makesIn K C = true)
    (kp0 : PySem.W.keepIn K (.ref C) = true)
    (af0 : PySem.W.nsIn K mainGlobals "is_integer" = some (some (.ref gf0)))
    (lf0 : K.lookup gf0 = some ⟨oocf0, oodf0, .func (PySem.W.fnOf "is_integer" "is_integer" (defArgs sIsI) (defBody sIsI) (defScope sIsI) .none okVf0 odcf0 opmf0 oanf0 ocdf0 octf0), oslf0⟩)
    (cf0 : PySem.W.codeIn K ocdf0 "is_integer" = true)
    (kf0 : PySem.W.keepIn K (.ref gf0) = true)
    (af1 : PySem.W.nsIn K mainGlobals "is_integers" = some (some (.ref gf1)))
    (lf1 : K.lookup gf1 = some ⟨oocf1, oodf1, .func (PySem.W.fnOf "is_integers" "is_integers" (defArgs sIsIs) (defBody sIsIs) (defScope sIsIs) .none okVf1 odcf1 opmf1 oanf1 ocdf1 octf1), oslf1⟩)
    (cf1 : PySem.W.codeIn K ocdf1 "is_integers" = true)
    (kf1 : PySem.W.keepIn K (.ref gf1) = true)
    (af2 : PySem.W.nsIn K mainGlobals "is_row" = some (some (.ref gf2)))
    (lf2 : K.lookup gf2 = some ⟨oocf2, oodf2, .func (PySem.W.fnOf "is_row" "is_row" (defArgs sRow) (defBody sRow) (defScope sRow) .none okVf2 odcf2 opmf2 oanf2 ocdf2 octf2), oslf2⟩)
    (cf2 : PySem.W.codeIn K ocdf2 "is_row" = true)
    (kf2 : PySem.W.keepIn K (.ref gf2) = true)
    (af3 : PySem.W.nsIn K mainGlobals "check_prime" = some (some (.ref gf3)))
    (lf3 : K.lookup gf3 = some ⟨oocf3, oodf3, .func (PySem.W.fnOf "check_prime" "check_prime" (defArgs sCP) (defBody sCP) (defScope sCP) .none okVf3 odcf3 opmf3 oanf3 ocdf3 octf3), oslf3⟩)
    (cf3 : PySem.W.codeIn K ocdf3 "check_prime" = true)
    (kf3 : PySem.W.keepIn K (.ref gf3) = true)
    (af4 : PySem.W.nsIn K mainGlobals "digits" = some (some (.ref gf4)))
    (lf4 : K.lookup gf4 = some ⟨oocf4, oodf4, .func (PySem.W.fnOf "digits" "digits" (defArgs sDg) (defBody sDg) (defScope sDg) .none okVf4 odcf4 opmf4 oanf4 ocdf4 octf4), oslf4⟩)
    (cf4 : PySem.W.codeIn K ocdf4 "digits" = true)
    (kf4 : PySem.W.keepIn K (.ref gf4) = true)
    (af5 : PySem.W.nsIn K mainGlobals "check_machine" = some (some (.ref gf5)))
    (lf5 : K.lookup gf5 = some ⟨oocf5, oodf5, .func (PySem.W.fnOf "check_machine" "check_machine" (defArgs sCM) (defBody sCM) (defScope sCM) .none okVf5 odcf5 opmf5 oanf5 ocdf5 octf5), oslf5⟩)
    (cf5 : PySem.W.codeIn K ocdf5 "check_machine" = true)
    (kf5 : PySem.W.keepIn K (.ref gf5) = true)
    (af6 : PySem.W.nsIn K mainGlobals "_law_pen" = some (some (.ref gf6)))
    (lf6 : K.lookup gf6 = some ⟨oocf6, oodf6, .func (PySem.W.fnOf "_law_pen" "_law_pen" (defArgs sPen) (defBody sPen) (defScope sPen) .none okVf6 odcf6 opmf6 oanf6 ocdf6 octf6), oslf6⟩)
    (cf6 : PySem.W.codeIn K ocdf6 "_law_pen" = true)
    (kf6 : PySem.W.keepIn K (.ref gf6) = true)
    (af7 : PySem.W.nsIn K mainGlobals "_law_draw" = some (some (.ref gf7)))
    (lf7 : K.lookup gf7 = some ⟨oocf7, oodf7, .func (PySem.W.fnOf "_law_draw" "_law_draw" (defArgs sDraw) (defBody sDraw) (defScope sDraw) .none okVf7 odcf7 opmf7 oanf7 ocdf7 octf7), oslf7⟩)
    (cf7 : PySem.W.codeIn K ocdf7 "_law_draw" = true)
    (kf7 : PySem.W.keepIn K (.ref gf7) = true)
    (af8 : PySem.W.nsIn K mainGlobals "_law_pick" = some (some (.ref gf8)))
    (lf8 : K.lookup gf8 = some ⟨oocf8, oodf8, .func (PySem.W.fnOf "_law_pick" "_law_pick" (defArgs sPick) (defBody sPick) (defScope sPick) .none okVf8 odcf8 opmf8 oanf8 ocdf8 octf8), oslf8⟩)
    (cf8 : PySem.W.codeIn K ocdf8 "_law_pick" = true)
    (kf8 : PySem.W.keepIn K (.ref gf8) = true)
    (af9 : PySem.W.nsIn K mainGlobals "_law_large" = some (some (.ref gf9)))
    (lf9 : K.lookup gf9 = some ⟨oocf9, oodf9, .func (PySem.W.fnOf "_law_large" "_law_large" (defArgs sLarge) (defBody sLarge) (defScope sLarge) .none okVf9 odcf9 opmf9 oanf9 ocdf9 octf9), oslf9⟩)
    (cf9 : PySem.W.codeIn K ocdf9 "_law_large" = true)
    (kf9 : PySem.W.keepIn K (.ref gf9) = true)
    (af10 : PySem.W.nsIn K mainGlobals "_law_digits" = some (some (.ref gf10)))
    (lf10 : K.lookup gf10 = some ⟨oocf10, oodf10, .func (PySem.W.fnOf "_law_digits" "_law_digits" (defArgs sLd) (defBody sLd) (defScope sLd) .none okVf10 odcf10 opmf10 oanf10 ocdf10 octf10), oslf10⟩)
    (cf10 : PySem.W.codeIn K ocdf10 "_law_digits" = true)
    (kf10 : PySem.W.keepIn K (.ref gf10) = true)
    (af11 : PySem.W.nsIn K mainGlobals "_law_steady" = some (some (.ref gf11)))
    (lf11 : K.lookup gf11 = some ⟨oocf11, oodf11, .func (PySem.W.fnOf "_law_steady" "_law_steady" (defArgs sSt) (defBody sSt) (defScope sSt) .none okVf11 odcf11 opmf11 oanf11 ocdf11 octf11), oslf11⟩)
    (cf11 : PySem.W.codeIn K ocdf11 "_law_steady" = true)
    (kf11 : PySem.W.keepIn K (.ref gf11) = true)
    (af12 : PySem.W.nsIn K mainGlobals "_law_state" = some (some (.ref gf12)))
    (lf12 : K.lookup gf12 = some ⟨oocf12, oodf12, .func (PySem.W.fnOf "_law_state" "_law_state" (defArgs sLs) (defBody sLs) (defScope sLs) .none okVf12 odcf12 opmf12 oanf12 ocdf12 octf12), oslf12⟩)
    (cf12 : PySem.W.codeIn K ocdf12 "_law_state" = true)
    (kf12 : PySem.W.keepIn K (.ref gf12) = true)
    (af13 : PySem.W.nsIn K mainGlobals "_law_is_machine" = some (some (.ref gf13)))
    (lf13 : K.lookup gf13 = some ⟨oocf13, oodf13, .func (PySem.W.fnOf "_law_is_machine" "_law_is_machine" (defArgs sIm) (defBody sIm) (defScope sIm) .none okVf13 odcf13 opmf13 oanf13 ocdf13 octf13), oslf13⟩)
    (cf13 : PySem.W.codeIn K ocdf13 "_law_is_machine" = true)
    (kf13 : PySem.W.keepIn K (.ref gf13) = true)
    (af14 : PySem.W.nsIn K mainGlobals "_law_refused" = some (some (.ref gf14)))
    (lf14 : K.lookup gf14 = some ⟨oocf14, oodf14, .func (PySem.W.fnOf "_law_refused" "_law_refused" (defArgs sRef) (defBody sRef) (defScope sRef) .none okVf14 odcf14 opmf14 oanf14 ocdf14 octf14), oslf14⟩)
    (cf14 : PySem.W.codeIn K ocdf14 "_law_refused" = true)
    (kf14 : PySem.W.keepIn K (.ref gf14) = true)
    (af15 : PySem.W.nsIn K mainGlobals "_law_refuses" = some (some (.ref gf15)))
    (lf15 : K.lookup gf15 = some ⟨oocf15, oodf15, .func (PySem.W.fnOf "_law_refuses" "_law_refuses" (defArgs sRf) (defBody sRf) (defScope sRf) .none okVf15 odcf15 opmf15 oanf15 (.ref cc1) octf15), oslf15⟩)
    (cf15 : PySem.W.codeIn K (.ref cc1) "_law_refuses" = true)
    (kf15 : PySem.W.keepIn K (.ref gf15) = true)
    (fcm0_0 : PySem.W.findIn K (.ref C) "__init__" = some (some (.ref gm0_0)))
    (fnm0_0 : PySem.W.isFn K (.ref gm0_0) = true)
    (lm0_0 : K.lookup gm0_0 = some ⟨oocm0_0, oodm0_0, .func (PySem.W.fnOf "__init__" "Machine.__init__" (defArgs sMI) (defBody sMI) (defScope sMI) .none okVm0_0 odcm0_0 opmm0_0 oanm0_0 ocdm0_0 octm0_0), oslm0_0⟩)
    (cm0_0 : PySem.W.codeIn K ocdm0_0 "Machine.__init__" = true)
    (km0_0 : PySem.W.keepIn K (.ref gm0_0) = true)
    (fcm0_1 : PySem.W.findIn K (.ref C) "__eq__" = some (some (.ref gm0_1)))
    (fnm0_1 : PySem.W.isFn K (.ref gm0_1) = true)
    (lm0_1 : K.lookup gm0_1 = some ⟨oocm0_1, oodm0_1, .func (PySem.W.fnOf "__eq__" "Machine.__eq__" (defArgs sME) (defBody sME) (defScope sME) .none okVm0_1 odcm0_1 opmm0_1 oanm0_1 ocdm0_1 octm0_1), oslm0_1⟩)
    (cm0_1 : PySem.W.codeIn K ocdm0_1 "Machine.__eq__" = true)
    (km0_1 : PySem.W.keepIn K (.ref gm0_1) = true)
    (fcm0_2 : PySem.W.findIn K (.ref C) "at" = some (some (.ref gm0_2)))
    (fnm0_2 : PySem.W.isFn K (.ref gm0_2) = true)
    (lm0_2 : K.lookup gm0_2 = some ⟨oocm0_2, oodm0_2, .func (PySem.W.fnOf "at" "Machine.at" (defArgs sMA) (defBody sMA) (defScope sMA) .none okVm0_2 odcm0_2 opmm0_2 oanm0_2 ocdm0_2 octm0_2), oslm0_2⟩)
    (cm0_2 : PySem.W.codeIn K ocdm0_2 "Machine.at" = true)
    (km0_2 : PySem.W.keepIn K (.ref gm0_2) = true)
    (aF : PySem.W.nsIn K mainGlobals "law" = some (some (.ref gLaw)))
    (lF : K.lookup gLaw = some ⟨oocF, oodF, .func (PySem.W.fnOf "law" "law" (defArgs sLaw) (defBody sLaw) (defScope sLaw) .none okVF odcF opmF oanF (.ref cc0) octF), oslF⟩)
    (cF : PySem.W.codeIn K (.ref cc0) "law" = true)
    (nP0 : K.lookup Pt0 = none)
    (hP0 : PySem.W.codeHdIn K cc0 Pt0 = true)
    (nP1 : K.lookup Pt1 = none)
    (hP1 : PySem.W.codeHdIn K cc1 Pt1 = true)
    (neP01 : Pt0 ≠ Pt1)
    (ac0 : PySem.W.nsIn K mainGlobals "PRIMES" = some (some (.ref D)))
    (kc0 : tupI K (.ref D) = some [2, 3, 5, 7])
    (z_int : PySem.W.nsIn K mainGlobals "int" = some none)
    (z_bool : PySem.W.nsIn K mainGlobals "bool" = some none)
    (z_tuple : PySem.W.nsIn K mainGlobals "tuple" = some none)
    (z_len : PySem.W.nsIn K mainGlobals "len" = some none)
    (z_list : PySem.W.nsIn K mainGlobals "list" = some none)
    (z_range : PySem.W.nsIn K mainGlobals "range" = some none)
    (z_isinstance : PySem.W.nsIn K mainGlobals "isinstance" = some none)
    (z_repr : PySem.W.nsIn K mainGlobals "repr" = some none)
    (z_all : PySem.W.nsIn K mainGlobals "all" = some none)
    (z_divmod : PySem.W.nsIn K mainGlobals "divmod" = some none)
    (z_reversed : PySem.W.nsIn K mainGlobals "reversed" = some none)
    (z_any : PySem.W.nsIn K mainGlobals "any" = some none)
    (z_zip : PySem.W.nsIn K mainGlobals "zip" = some none)
    (z_min : PySem.W.nsIn K mainGlobals "min" = some none)
    (xnn : PySem.W.exmOne K (.ref CN) (.ref CN) = some true)
    (xrn : PySem.W.exmOne K (.ref CR) (.ref CN) = some false)
    (xrr : PySem.W.exmOne K (.ref CR) (.ref CR) = some true)
    (xun : PySem.W.exmOne K (.ref CU) (.ref CN) = some false)
    (xur : PySem.W.exmOne K (.ref CU) (.ref CR) = some false)
    (xuu : PySem.W.exmOne K (.ref CU) (.ref CU) = some true)
    : (∀ p ∈ [(cc0, Pt0), (cc1, Pt1)], K.lookup p.2 = none ∧ PySem.W.codeHdIn K p.1 p.2 = true) ∧ ∃ fd : FuncData, (∀ (s : Shared) (u : Value), BindsTo s fd ⟨[u], []⟩ [("_law_script", u)]) ∧
      ∀ base : Heap, K.In base → base.Ns mainGlobals mg → (∀ p ∈ [(cc0, Pt0), (cc1, Pt1)], LamX.TabB base mg p.1 p.2) → FnG l.prog w K mg base CX0 10 fa fd ["_law_script"] (spLaw K Pt0 Pt1) := by
  have e := hfa.symm.trans (PySem.W.mg_of X G aF)
  cases e
  refine ⟨fun p hp => ?_, PySem.W.fnOf "law" "law" (defArgs sLaw) (defBody sLaw) (defScope sLaw) .none okVF odcF opmF oanF (.ref cc0) octF, fun s v => .of_eq rfl, fun base _ _ TB => ?_⟩
  · obtain rfl | hp := List.mem_cons.mp hp
    · exact ⟨nP0, hP0⟩
    obtain rfl | hp := List.mem_cons.mp hp
    · exact ⟨nP1, hP1⟩
    · exact (List.not_mem_nil hp).elim
  have Ff0 := fun_mk (st := sIsI) lf0 cf0 kf0
  have E_is_integer : Cl K mg "is_integer" sIsI ["value"] gf0 _ := ⟨Ff0, Ff0.binds (ps := ["value"]) (fun _ _ _ _ _ _ us hl => match us, hl with | [_], _ => rfl), PySem.W.mg_of X G af0⟩
  have Ff1 := fun_mk (st := sIsIs) lf1 cf1 kf1
  have E_is_integers : Cl K mg "is_integers" sIsIs ["value"] gf1 _ := ⟨Ff1, Ff1.binds (ps := ["value"]) (fun _ _ _ _ _ _ us hl => match us, hl with | [_], _ => rfl), PySem.W.mg_of X G af1⟩
  have Ff2 := fun_mk (st := sRow) lf2 cf2 kf2
  have E_is_row : Cl K mg "is_row" sRow ["value", "width"] gf2 _ := ⟨Ff2, Ff2.binds (ps := ["value", "width"]) (fun _ _ _ _ _ _ us hl => match us, hl with | [_, _], _ => rfl), PySem.W.mg_of X G af2⟩
  have Ff3 := fun_mk (st := sCP) lf3 cf3 kf3
  have E_check_prime : Cl K mg "check_prime" sCP ["p"] gf3 _ := ⟨Ff3, Ff3.binds (ps := ["p"]) (fun _ _ _ _ _ _ us hl => match us, hl with | [_], _ => rfl), PySem.W.mg_of X G af3⟩
  have Ff4 := fun_mk (st := sDg) lf4 cf4 kf4
  have E_digits : Cl K mg "digits" sDg ["n", "p"] gf4 _ := ⟨Ff4, Ff4.binds (ps := ["n", "p"]) (fun _ _ _ _ _ _ us hl => match us, hl with | [_, _], _ => rfl), PySem.W.mg_of X G af4⟩
  have Ff5 := fun_mk (st := sCM) lf5 cf5 kf5
  have E_check_machine : Cl K mg "check_machine" sCM ["p", "moves", "worths"] gf5 _ := ⟨Ff5, Ff5.binds (ps := ["p", "moves", "worths"]) (fun _ _ _ _ _ _ us hl => match us, hl with | [_, _, _], _ => rfl), PySem.W.mg_of X G af5⟩
  have Ff6 := fun_mk (st := sPen) lf6 cf6 kf6
  have E__law_pen : Cl K mg "_law_pen" sPen ["_law_script"] gf6 _ := ⟨Ff6, Ff6.binds (ps := ["_law_script"]) (fun _ _ _ _ _ _ us hl => match us, hl with | [_], _ => rfl), PySem.W.mg_of X G af6⟩
  have Ff7 := fun_mk (st := sDraw) lf7 cf7 kf7
  have E__law_draw : Cl K mg "_law_draw" sDraw ["_law_pen_here", "_law_many"] gf7 _ := ⟨Ff7, Ff7.binds (ps := ["_law_pen_here", "_law_many"]) (fun _ _ _ _ _ _ us hl => match us, hl with | [_, _], _ => rfl), PySem.W.mg_of X G af7⟩
  have Ff8 := fun_mk (st := sPick) lf8 cf8 kf8
  have E__law_pick : Cl K mg "_law_pick" sPick ["_law_pen_here", "_law_some"] gf8 _ := ⟨Ff8, Ff8.binds (ps := ["_law_pen_here", "_law_some"]) (fun _ _ _ _ _ _ us hl => match us, hl with | [_, _], _ => rfl), PySem.W.mg_of X G af8⟩
  have Ff9 := fun_mk (st := sLarge) lf9 cf9 kf9
  have E__law_large : Cl K mg "_law_large" sLarge ["_law_pen_here"] gf9 _ := ⟨Ff9, Ff9.binds (ps := ["_law_pen_here"]) (fun _ _ _ _ _ _ us hl => match us, hl with | [_], _ => rfl), PySem.W.mg_of X G af9⟩
  have Ff10 := fun_mk (st := sLd) lf10 cf10 kf10
  have E__law_digits : Cl K mg "_law_digits" sLd ["_law_n", "_law_p"] gf10 _ := ⟨Ff10, Ff10.binds (ps := ["_law_n", "_law_p"]) (fun _ _ _ _ _ _ us hl => match us, hl with | [_, _], _ => rfl), PySem.W.mg_of X G af10⟩
  have Ff11 := fun_mk (st := sSt) lf11 cf11 kf11
  have E__law_steady : Cl K mg "_law_steady" sSt ["_law_pen_here", "_law_p", "_law_most"] gf11 _ := ⟨Ff11, Ff11.binds (ps := ["_law_pen_here", "_law_p", "_law_most"]) (fun _ _ _ _ _ _ us hl => match us, hl with | [_, _, _], _ => rfl), PySem.W.mg_of X G af11⟩
  have Ff12 := fun_mk (st := sLs) lf12 cf12 kf12
  have E__law_state : Cl K mg "_law_state" sLs ["_law_moves", "_law_word"] gf12 _ := ⟨Ff12, Ff12.binds (ps := ["_law_moves", "_law_word"]) (fun _ _ _ _ _ _ us hl => match us, hl with | [_, _], _ => rfl), PySem.W.mg_of X G af12⟩
  have Ff13 := fun_mk (st := sIm) lf13 cf13 kf13
  have E__law_is_machine : Cl K mg "_law_is_machine" sIm ["_law_told", "_law_p", "_law_moves", "_law_worths"] gf13 _ := ⟨Ff13, Ff13.binds (ps := ["_law_told", "_law_p", "_law_moves", "_law_worths"]) (fun _ _ _ _ _ _ us hl => match us, hl with | [_, _, _, _], _ => rfl), PySem.W.mg_of X G af13⟩
  have Ff14 := fun_mk (st := sRef) lf14 cf14 kf14
  have E__law_refused : Cl K mg "_law_refused" sRef ["_law_call"] gf14 _ := ⟨Ff14, Ff14.binds (ps := ["_law_call"]) (fun _ _ _ _ _ _ us hl => match us, hl with | [_], _ => rfl), PySem.W.mg_of X G af14⟩
  have Ff15 := fun_mk (st := sRf) lf15 cf15 kf15
  have E__law_refuses : Cl K mg "_law_refuses" sRf ["_law_pen_here", "_law_p", "_law_moves", "_law_worths"] gf15 _ := ⟨Ff15, Ff15.binds (ps := ["_law_pen_here", "_law_p", "_law_moves", "_law_worths"]) (fun _ _ _ _ _ _ us hl => match us, hl with | [_, _, _, _], _ => rfl), PySem.W.mg_of X G af15⟩
  have Fm0_0 := fun_mk (st := sMI) lm0_0 cm0_0 km0_0
  have B_Machine___init__ := Fm0_0.binds (ps := ["self", "p", "moves", "worths"]) (fun _ _ _ _ _ _ us hl => match us, hl with | [_, _, _, _], _ => rfl)
  have Fm0_1 := fun_mk (st := sME) lm0_1 cm0_1 km0_1
  have B_Machine___eq__ := Fm0_1.binds (ps := ["self", "other"]) (fun _ _ _ _ _ _ us hl => match us, hl with | [_, _], _ => rfl)
  have Fm0_2 := fun_mk (st := sMA) lm0_2 cm0_2 km0_2
  have B_Machine_at := Fm0_2.binds (ps := ["self", "n"]) (fun _ _ _ _ _ _ us hl => match us, hl with | [_, _], _ => rfl)
  have L_Machine : Cls K C := ⟨pg0, hd0, po0, sa0⟩
  have GC_Machine := PySem.W.mg_of X G aC0
  have C_Machine : C8.InsC K C := ⟨L_Machine, ha0, hn0, ht0, hm0, me0⟩
  have M_Machine_init : Meth K C "__init__" gm0_0 := ⟨fcm0_0, fnm0_0, km0_0⟩
  have K_Machine : Mk K C gm0_0 := ⟨mk0, fcm0_0, fnm0_0, kp0⟩
  have M_Machine_eq : Meth K C "__eq__" gm0_1 := ⟨fcm0_1, fnm0_1, km0_1⟩
  have M_Machine_at : Meth K C "at" gm0_2 := ⟨fcm0_2, fnm0_2, km0_2⟩
  have R_BadNumber := er_of (x := "BadNumber") (fs := ["what", "number"]) X G e0 j0 (fun g hg => by
    rcases List.mem_cons.mp hg with rfl | hg
    · exact n0_0
    rcases List.mem_cons.mp hg with rfl | hg
    · exact n0_1
    exact (List.not_mem_nil hg).elim) (fun _ _ _ _ _ _ us hl => match us, hl with | [_, _, _], _ => rfl)
  have R_BadRow := er_of (x := "BadRow") (fs := ["row"]) X G e1 j1 (fun g hg => by
    rcases List.mem_cons.mp hg with rfl | hg
    · exact n1_0
    exact (List.not_mem_nil hg).elim) (fun _ _ _ _ _ _ us hl => match us, hl with | [_, _], _ => rfl)
  have R_Unlike := er_of (x := "Unlike") (fs := ["what"]) X G e2 j2 (fun g hg => by
    rcases List.mem_cons.mp hg with rfl | hg
    · exact n2_0
    exact (List.not_mem_nil hg).elim) (fun _ _ _ _ _ _ us hl => match us, hl with | [_, _], _ => rfl)
  have A_PRIMES := PySem.W.mg_of X G ac0
  have Z_int := PySem.W.mg_none_of X G z_int
  have Z_bool := PySem.W.mg_none_of X G z_bool
  have Z_tuple := PySem.W.mg_none_of X G z_tuple
  have Z_len := PySem.W.mg_none_of X G z_len
  have Z_list := PySem.W.mg_none_of X G z_list
  have Z_range := PySem.W.mg_none_of X G z_range
  have Z_isinstance := PySem.W.mg_none_of X G z_isinstance
  have Z_repr := PySem.W.mg_none_of X G z_repr
  have Z_all := PySem.W.mg_none_of X G z_all
  have Z_divmod := PySem.W.mg_none_of X G z_divmod
  have Z_reversed := PySem.W.mg_none_of X G z_reversed
  have Z_any := PySem.W.mg_none_of X G z_any
  have Z_zip := PySem.W.mg_none_of X G z_zip
  have Z_min := PySem.W.mg_none_of X G z_min
  have BB : Blt mg := ⟨Z_int, Z_bool, Z_tuple, Z_len, Z_list, Z_range, Z_isinstance, Z_repr, Z_all, Z_divmod, Z_reversed⟩
  have ZZ : McC K mg C := ⟨C_Machine, at0_0, at0_1, at0_2, at0_3, GC_Machine, fun n hn => by
    unfold offOwn at hn
    obtain rfl | hn := List.mem_cons.mp hn
    · exact no0_int
    obtain rfl | hn := List.mem_cons.mp hn
    · exact no0_bool
    obtain rfl | hn := List.mem_cons.mp hn
    · exact no0_NoneType
    obtain rfl | hn := List.mem_cons.mp hn
    · exact no0_str
    obtain rfl | hn := List.mem_cons.mp hn
    · exact no0_list
    obtain rfl | hn := List.mem_cons.mp hn
    · exact no0_tuple
    obtain rfl | hn := List.mem_cons.mp hn
    · exact no0_dict
    exact (List.not_mem_nil hn).elim⟩
  have nf : ∀ n ∈ (["NoneType", "tuple", "int"] : List String), PySem.W.notFirst K C (.type n) = true := fun n hn => by
    obtain rfl | hn := List.mem_cons.mp hn
    · exact nf0_NoneType
    obtain rfl | hn := List.mem_cons.mp hn
    · exact nf0_tuple
    obtain rfl | hn := List.mem_cons.mp hn
    · exact nf0_int
    exact (List.not_mem_nil hn).elim
  have TT : Cau3 K CN CR CU := ⟨xnn, xrn, xrr, xun, xur, xuu, ⟨e0.ga, e0.gg, e0.be, e0.hd⟩, ⟨e1.ga, e1.gg, e1.be, e1.hd⟩, ⟨e2.ga, e2.gg, e2.be, e2.hd⟩⟩
  have GCM := ok_cm (P := l.prog) (w := w) (mg := mg) (base := base) E_check_machine.fn BB Z_any Z_zip E_is_integer E_is_integers E_is_row E_check_prime R_BadNumber R_BadRow R_Unlike A_PRIMES kc0
  have GMI := ok_mi (P := l.prog) (w := w) (mg := mg) (base := base) Fm0_0 BB E_check_machine ZZ GCM
  have GME := ok_me (P := l.prog) (w := w) (mg := mg) (base := base) Fm0_1 BB ZZ
  have GDg := ok_dg (P := l.prog) (w := w) (mg := mg) (base := base) E_digits.fn BB E_is_integer E_check_prime R_BadNumber A_PRIMES kc0
  have GMA := ok_ma (P := l.prog) (w := w) (mg := mg) (base := base) Fm0_2 BB ZZ E_is_integer E_digits R_BadNumber GDg
  have GRF := ok_rf (P := l.prog) (w := w) (mg := mg) (base := base) lf15 cf15 (TB _ (.tail _ (.head _))) BB ZZ K_Machine B_Machine___init__ GMI E__law_draw E__law_pick E__law_refused TT R_BadNumber R_BadRow R_Unlike
  exact ok_law lF cF (TB _ (.head _)) neP01 BB ZZ nf K_Machine B_Machine___init__ GMI fcm0_1 fnm0_1 B_Machine___eq__ GME M_Machine_at B_Machine_at GMA E__law_pen E__law_draw E__law_pick E__law_steady Z_min E__law_large
    E__law_digits E__law_state E__law_is_machine E__law_refused TT R_BadNumber R_BadRow R_Unlike E__law_refuses.k E__law_refuses.g E__law_refuses.b GRF
theorem walk {l : PySem.W.OpenLaw} {q : Program} {loose : List Str} {XP : (Str → Option Value) → Heap → Prop} {YP : World → Heap → Prop} {d : DefRec} {K : Params → PySem.W.Frag} {cc0 cc1 Pt0 Pt1 : Addr} (hn : l.most = some 63) (hdf : d.params.defaults = [])
    (hY : ∀ (w : World) (h : Heap), YP w h → (K w.params).In h) (hT : ∀ (w : World) (h : Heap), YP w h → ∀ p ∈ [(cc0, Pt0), (cc1, Pt1)], h.get? p.2 = some { cls := .none, data := .fields #[] })
    (F : ∀ (w : World) (mg : Str → Option Value) (fa : Addr) (h : Heap), (K w.params).In h → h.Ns mainGlobals mg → mg d.name = some (.ref fa) →
      (∀ p ∈ [(cc0, Pt0), (cc1, Pt1)], (K w.params).lookup p.2 = none ∧ PySem.W.codeHdIn (K w.params) p.1 p.2 = true) ∧
      ∃ fd : FuncData, (∀ (s : Shared) (u : Value), BindsTo s fd ⟨[u], []⟩ [("_law_script", u)]) ∧ ∀ base : Heap, (K w.params).In base → base.Ns mainGlobals mg → (∀ p ∈ [(cc0, Pt0), (cc1, Pt1)], LamX.TabB base mg p.1 p.2) → FnG l.prog w (K w.params) mg base CX0 10 fa fd ["_law_script"] (spLaw (K w.params) Pt0 Pt1)) :
    PySem.W.WalkO q loose XP YP l.row.toRowW d [] (fun f vs => PySem.call f vs) :=
  walkT (n := 63) (k := 10) (x := "_law_script") (cs := [(cc0, Pt0), (cc1, Pt1)]) (sp := fun w => spLaw (K w.params) Pt0 Pt1) hn (by decide) hdf ⟨rfl, by decide, by decide⟩ hY hT F (fun _ _ a ns _ hP hS => ⟨a, ns, rfl, hS, hP _ (.head _), hP _ (.tail _ (.head _)), fun _ => rfl⟩)
end K67

open PySem PySem.W PyProof.Rows
set_option maxRecDepth 100000 in
set_option maxHeartbeats 0 in
theorem PySem.Challenge.cw_restcounts_k67_machines_kept_holds : PySem.Challenge.rw_restcounts_k67_machines_kept.Holds := by
  w_on; o_law; k_head; (case hw => w_witness2)
  k_fill
  refine' K67.walk (l := PySem.Challenge.rw_restcounts_k67_machines_kept) (cc0 := ?cc0) (Pt0 := 224) (cc1 := ?cc1) (Pt1 := 219) rfl rfl (fun w h Y => PySem.W.km_in_of Y) (fun w h Y p hp => ?T) ?F
  case F =>
    intro w mg fa h KX G hmg
    refine' K67.all_mk KX G hmg  ?e0 ?j0 ?n0_0 ?n0_1 ?e1 ?j1 ?n1_0 ?e2 ?j2 ?n2_0 ?aC0 ?pg0 ?hd0 ?po0 ?sa0 ?ha0 ?hn0 ?ht0 ?hm0 ?me0 ?at0_0 ?at0_1 ?at0_2 ?at0_3 ?no0_int ?no0_bool ?no0_NoneType ?no0_str ?no0_list ?no0_tuple ?no0_dict ?ni0 ?nf0_NoneType ?nf0_tuple ?nf0_int ?mk0 ?kp0 ?af0 ?lf0 ?cf0 ?kf0 ?af1 ?lf1 ?cf1 ?kf1 ?af2 ?lf2 ?cf2 ?kf2 ?af3 ?lf3 ?cf3 ?kf3 ?af4 ?lf4 ?cf4 ?kf4 ?af5 ?lf5 ?cf5 ?kf5 ?af6 ?lf6 ?cf6 ?kf6 ?af7 ?lf7 ?cf7 ?kf7 ?af8 ?lf8 ?cf8 ?kf8 ?af9 ?lf9 ?cf9 ?kf9 ?af10 ?lf10 ?cf10 ?kf10 ?af11 ?lf11 ?cf11 ?kf11 ?af12 ?lf12 ?cf12 ?kf12 ?af13 ?lf13 ?cf13 ?kf13 ?af14 ?lf14 ?cf14 ?kf14 ?af15 ?lf15 ?cf15 ?kf15 ?fcm0_0 ?fnm0_0 ?lm0_0 ?cm0_0 ?km0_0 ?fcm0_1 ?fnm0_1 ?lm0_1 ?cm0_1 ?km0_1 ?fcm0_2 ?fnm0_2 ?lm0_2 ?cm0_2 ?km0_2 ?aF ?lF ?cF ?nP0 ?hP0 ?nP1 ?hP1 ?neP01 ?ac0 ?kc0 ?z_int ?z_bool ?z_tuple ?z_len ?z_list ?z_range ?z_isinstance ?z_repr ?z_all ?z_divmod ?z_reversed ?z_any ?z_zip ?z_min ?xnn ?xrn ?xrr ?xun ?xur ?xuu
    (case e0 => (refine' K67.ErIn.mk ?_ ?_ ?_ ?_ ?_ ?_ <;> try k_is))
    (case j0 => (refine' K67.IniIn.mk ?_ ?_ ?_ ?_ ?_ ?_ ?_ ?_ <;> try k_is))
    (case n0_0 => k_is)
    (case n0_1 => k_is)
    (case e1 => (refine' K67.ErIn.mk ?_ ?_ ?_ ?_ ?_ ?_ <;> try k_is))
    (case j1 => (refine' K67.IniIn.mk ?_ ?_ ?_ ?_ ?_ ?_ ?_ ?_ <;> try k_is))
    (case n1_0 => k_is)
    (case e2 => (refine' K67.ErIn.mk ?_ ?_ ?_ ?_ ?_ ?_ <;> try k_is))
    (case j2 => (refine' K67.IniIn.mk ?_ ?_ ?_ ?_ ?_ ?_ ?_ ?_ <;> try k_is))
    (case n2_0 => k_is)
    (case aC0 => k_is)
    (case pg0 => k_is)
    (case hd0 => k_is)
    (case po0 => k_is)
    (case sa0 => k_is)
    (case ha0 => k_is)
    (case hn0 => k_is)
    (case ht0 => k_is)
    (case hm0 => k_is)
    (case me0 => (first | kernel_rfl | k_is | kit_is | decide +kernel))
    (case at0_0 => k_is)
    (case at0_1 => k_is)
    (case at0_2 => k_is)
    (case at0_3 => k_is)
    (case no0_int => (first | kernel_rfl | k_is | kit_is | decide +kernel))
    (case no0_bool => (first | kernel_rfl | k_is | kit_is | decide +kernel))
    (case no0_NoneType => (first | kernel_rfl | k_is | kit_is | decide +kernel))
    (case no0_str => (first | kernel_rfl | k_is | kit_is | decide +kernel))
    (case no0_list => (first | kernel_rfl | k_is | kit_is | decide +kernel))
    (case no0_tuple => (first | kernel_rfl | k_is | kit_is | decide +kernel))
    (case no0_dict => (first | kernel_rfl | k_is | kit_is | decide +kernel))
    (case ni0 => (first | kernel_rfl | k_is | kit_is | decide +kernel))
    (case nf0_NoneType => (first | kernel_rfl | k_is | kit_is | decide +kernel))
    (case nf0_tuple => (first | kernel_rfl | k_is | kit_is | decide +kernel))
    (case nf0_int => (first | kernel_rfl | k_is | kit_is | decide +kernel))
    (case mk0 => k_is)
    (case kp0 => k_is)
    (case af0 => k_is)
    (case lf0 => k_is)
    (case cf0 => k_is)
    (case kf0 => k_is)
    (case af1 => k_is)
    (case lf1 => k_is)
    (case cf1 => k_is)
    (case kf1 => k_is)
    (case af2 => k_is)
    (case lf2 => k_is)
    (case cf2 => k_is)
    (case kf2 => k_is)
    (case af3 => k_is)
    (case lf3 => k_is)
    (case cf3 => k_is)
    (case kf3 => k_is)
    (case af4 => k_is)
    (case lf4 => k_is)
    (case cf4 => k_is)
    (case kf4 => k_is)
    (case af5 => k_is)
    (case lf5 => k_is)
    (case cf5 => k_is)
    (case kf5 => k_is)
    (case af6 => k_is)
    (case lf6 => k_is)
    (case cf6 => k_is)
    (case kf6 => k_is)
    (case af7 => k_is)
    (case lf7 => k_is)
    (case cf7 => k_is)
    (case kf7 => k_is)
    (case af8 => k_is)
    (case lf8 => k_is)
    (case cf8 => k_is)
    (case kf8 => k_is)
    (case af9 => k_is)
    (case lf9 => k_is)
    (case cf9 => k_is)
    (case kf9 => k_is)
    (case af10 => k_is)
    (case lf10 => k_is)
    (case cf10 => k_is)
    (case kf10 => k_is)
    (case af11 => k_is)
    (case lf11 => k_is)
    (case cf11 => k_is)
    (case kf11 => k_is)
    (case af12 => k_is)
    (case lf12 => k_is)
    (case cf12 => k_is)
    (case kf12 => k_is)
    (case af13 => k_is)
    (case lf13 => k_is)
    (case cf13 => k_is)
    (case kf13 => k_is)
    (case af14 => k_is)
    (case lf14 => k_is)
    (case cf14 => k_is)
    (case kf14 => k_is)
    (case af15 => k_is)
    (case lf15 => k_is)
    (case cf15 => k_is)
    (case kf15 => k_is)
    (case fcm0_0 => k_is)
    (case fnm0_0 => k_is)
    (case lm0_0 => k_is)
    (case cm0_0 => k_is)
    (case km0_0 => k_is)
    (case fcm0_1 => k_is)
    (case fnm0_1 => k_is)
    (case lm0_1 => k_is)
    (case cm0_1 => k_is)
    (case km0_1 => k_is)
    (case fcm0_2 => k_is)
    (case fnm0_2 => k_is)
    (case lm0_2 => k_is)
    (case cm0_2 => k_is)
    (case km0_2 => k_is)
    (case aF => k_is)
    (case lF => k_is)
    (case cF => k_is)
    (case nP0 => (first | kernel_rfl | k_is | kit_is | decide +kernel))
    (case hP0 => (first | kernel_rfl | k_is | kit_is | decide +kernel))
    (case nP1 => (first | kernel_rfl | k_is | kit_is | decide +kernel))
    (case hP1 => (first | kernel_rfl | k_is | kit_is | decide +kernel))
    (case neP01 => decide)
    (case ac0 => k_is)
    (case kc0 => (first | kernel_rfl | k_is | kit_is | decide +kernel))
    (case z_int => k_is)
    (case z_bool => k_is)
    (case z_tuple => k_is)
    (case z_len => k_is)
    (case z_list => k_is)
    (case z_range => k_is)
    (case z_isinstance => k_is)
    (case z_repr => k_is)
    (case z_all => k_is)
    (case z_divmod => k_is)
    (case z_reversed => k_is)
    (case z_any => k_is)
    (case z_zip => k_is)
    (case z_min => k_is)
    (case xnn => (first | kernel_rfl | k_is | kit_is | decide +kernel))
    (case xrn => (first | kernel_rfl | k_is | kit_is | decide +kernel))
    (case xrr => (first | kernel_rfl | k_is | kit_is | decide +kernel))
    (case xun => (first | kernel_rfl | k_is | kit_is | decide +kernel))
    (case xur => (first | kernel_rfl | k_is | kit_is | decide +kernel))
    (case xuu => (first | kernel_rfl | k_is | kit_is | decide +kernel))
  case T =>
    obtain z | hp := List.mem_cons.mp hp
    · rw [z]
      exact PySem.W.km_tabs_of Y _ (by decide)
    obtain z | hp := List.mem_cons.mp hp
    · rw [z]
      exact PySem.W.km_tabs_of Y _ (by decide)
    · exact (List.not_mem_nil hp).elim

