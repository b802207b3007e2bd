import PyProof.Rows.All
import Wide.All
import OpenK.AllK
import Wide.FinOn
import HandS.ForMost
import HandS.ExcInit
import HandS.ExcField
import HandS.ExcOwn
import HandS.IsInst
import KE.KExcIs
import HandS.Exc
import HandS.Lambda
import HandS.EndTab
import KE.KNestM
import HandS.Wide
import HandS.Evl
import HandS.Walk
import HandS.WordsExc
import HandS.Rev
import HandS.Dict
import KE.SortData
import HandS.SortKw
import HandS.NoneIn
import HandS.Conv
import KE.KOpsOwn
import HandS.OwnEq
import HandS.SlotsOwn
import HandS.More
import PyProof.P3Eq
import HandS.Codes
import KE.KDictPairs
import KE.KDictDisplayH
import HandS.Style
import HandS.Defaults
import HandS.Text
import HandS.Strs
import PyProof.StrOps2
import HandS.StrMore
import PySem.Challenge.RW_restcounts_k14_texts_of_sums_read
set_option Elab.async false
set_option linter.all false
set_option maxRecDepth 100000
set_option maxHeartbeats 4000000
/-! Gd: defs whose promise leans on there being no repr under way around them; calls of such; a law's end over such. -/
namespace Gd
open PySem PySem.Spec PyProof.Rows L2

/-- a promise kept wherever no guard stands around -/
structure FnG (P : Program) (w : World) (K : PySem.W.Frag) (mg : Str → Option Value) (base : Heap)
    (CX : CXT) (k : Nat) (f : Addr) (fd : FuncData) (ps : List Str) (sp : Sp) : Prop where
  len : ∀ vs H Q E, sp vs H Q E → vs.length = ps.length
  go : ∀ (A : Around) (outer : List Env) (s : Shared) (H : Hp) (args : Args) (us : List Value) (vs : List V) (Q : VK) (E : XK),
    A.guards = some [] → Room k A → Env0 P w K mg base A outer s H →
    BindsTo s fd args (ps.zip us) → Vals vs us → sp vs H Q E →
    codeAny (model P w) A (.call (.ref f) args) (CR CX outer P w H s Q E) s

section
variable {P : Program} {w : World} {K : PySem.W.Frag} {mg : Str → Option Value} {base : Heap} {CX : CXT}

theorem FnG.ofOk {k : Nat} {f : Addr} {fd : FuncData} {ps : List Str} {sp : Sp}
    (F : FnOk P w K mg base CX k f fd ps sp) : FnG P w K mg base CX k f fd ps sp where
  len := F.len
  go := fun A outer s H args us vs Q E _ => F.run A outer s H args us vs Q E

/-- a def by its body, where the guards are none -/
theorem fnG_of {k : Nat} {f : Addr} {name qual : Str} {params : Arguments} {body : List Stmt} {scope : Scope}
    {dV kV doc pm cdv ct oc : Value} {an od : Option Addr} {osl : Array (Option Value)} {N ps : List Str} {sp : Sp}
    (lk : K.lookup f = some ⟨oc, od, .func (PySem.W.fnOf name qual params body scope dV kV doc pm an cdv ct), osl⟩)
    (hcd : PySem.W.codeIn K cdv qual = true) (S : FnScope N ps scope)
    (len : ∀ vs H Q E, sp vs H Q E → vs.length = ps.length)
    (B : ∀ (A : Around) (outer : List Env) (s : Shared) (H : Hp) (vs : List V) (Q : VK) (E : XK),
      A.guards = some [] → Room k (A.deeper (envOfC qual scope s.heap.objs.size f cdv)) → sp vs H Q E →
      ∃ t, PSs (cxOf CX P w K mg base N qual scope f cdv A outer s H E) body t ∧
        t { nx := fun _ H' => Q .non H', rt := Q } (start N vs) H) :
    FnG P w K mg base CX (k + 1) f (PySem.W.fnOf name qual params body scope dV kV doc pm an cdv ct) ps sp where
  len := len
  go := by
    intro A outer s H args us vs Q E hgd room env0 hbind rel hs
    have hlen := len _ _ _ _ hs
    have old : ∀ b o, base.get? b = some o → s.heap.get? b = some o := fun b o h => (env0.bs b o h).1
    have kin := env0.mod.kin.keeps old
    have nolim := env0.mod.nolimit.keeps old
    refine codeAny_call_function room.depth (kin _ _ lk) rfl S.co S.gen rfl
      (PySem.W.codeRec_of kin hcd) (hbind _ _ _ _ ?_)
    refine wpAny_newFunctionEnv_cells S.kind ?kinds fun env he s1 inC => ?_
    case kinds =>
      rintro ⟨n, v⟩ hm
      have hn := S.par n (List.of_mem_zip hm).1
      exact hn.imp (fun q => q) fun q => ⟨q, PySem.W.cellsFrom_some _ _ _ (.inl q)⟩
    subst he
    refine ⟨nolim.keeps inC.toInCall.keep, codeAny_func ?_⟩
    have ⟨t, derived, reading⟩ := B A outer s H vs Q E hgd (room.deeper _) hs
    have inv0 := inv_start (CX := CX) (E := E) S room.hd env0 hlen rel inC
    refine wpAny_mono (derived.run [] s1 (start N vs) H _ inv0 reading) ?_ fun _ _ he => he
    intro fl s' hfl
    match fl, hfl with
    | .ret _, ⟨v, _, H', J, rv, q⟩ => exact ⟨v, H', J.os, J.bare, J.base, J.hok, rv, q⟩
    | .next, ⟨_, H', J, q⟩ => exact ⟨V.non, H', J.os, J.bare, J.base, J.hok, rfl, q⟩
    | .brk, ⟨_, _, _, q⟩ => exact q.elim
    | .cont, ⟨_, _, _, q⟩ => exact q.elim

/-- for a def of the text that no exception leaves -/
theorem okG {x qual : Str} {st : Stmt} {f : Addr} {fd : FuncData} {N ps : List Str} {k : Nat} {sp : Sp}
    (F : Fun K x qual st f fd) (S : FnScope N ps (defScope st)) (len : ∀ vs H Q E, sp vs H Q E → vs.length = ps.length)
    (B : ∀ (cdv : Value) (A : Around) (outer : List Env) (s : Shared) (H : Hp) (vs : List V) (Q : VK) (E : XK),
      A.guards = some [] → Room k (A.deeper (envOfC qual (defScope st) s.heap.objs.size f cdv)) → sp vs H Q E →
      ∃ t, PSs (cxOf CX0 P w K mg base N qual (defScope st) f cdv A outer s H E).nox (defBody st) t ∧
        t { nx := fun _ H' => Q .non H', rt := Q } (start N vs) H) : FnG P w K mg base CX0 (k + 1) f fd ps sp := by
  have ⟨oc, od, kV, doc, pm, an, cdv, ct, osl, e, lk, hcd⟩ := F.ex
  subst e
  refine fnG_of lk hcd S len ?_
  intro A outer s H vs Q E hgd room hs
  have ⟨t, d, q⟩ := B cdv A outer s H vs Q E hgd room hs
  exact ⟨t, d.nox, q⟩
end

section
variable {X : Cx} {CX : CXT} {k : Nat} {f : Addr} {fd : FuncData} {ps : List Str} {sp : Sp} {dvs : List V} {ds : List Value} {E : XK}
/-- the call of such a def -/
theorem run_fnG {pins : List (Addr × Obj)} {σ : L2.St} {H : Hp} {s : Shared} {Q : VK} {us : List Value} {vs : List V}
    (F : FnG X.prog X.w X.K X.mg X.base CX k f fd ps sp) (hgd : X.A.guards = some []) (room : Room k X.A)
    (hb : Binds X.K fd ps ds) (hd : Vals dvs ds) (hx : Passes CX X E) (I : Inv X pins σ H s) (r : Vals vs us)
    (h : sp (vs ++ dvs) H Q E) : wpAny (model X.prog X.w) X.A (call (.ref f) us) (EP X pins σ Q) X.xe s := by
  have rr := r.append hd
  have hlen := F.len _ _ _ _ h
  rw [rr.length] at hlen
  have c := F.go X.A X.stack s H ⟨us, []⟩ (us ++ ds) (vs ++ dvs) Q E hgd room I.env0 (hb s us I.kIn hlen) rr h
  refine wpAny_call (codeAny_mono c ?_)
  intro res s' hres
  match res, hres with
  | .error e, he => exact hx pins σ H s e s' I he
  | .ok (.ret u), he => exact I.after he
  | .ok .next, he => exact he.elim
  | .ok .brk, he => exact he.elim
  | .ok .cont, he => exact he.elim

theorem pe_callG {x : Str} {p pos : Pos} {e : Expr} {es : List Expr} {t : TA}
    (F : FnG X.prog X.w X.K X.mg X.base CX k f fd ps sp) (hgd : X.A.guards = some []) (hr : Room k X.A) (hg : Gl X x)
    (hm : X.mg x = some (.ref f)) (hk : PySem.W.keepIn X.K (.ref f) = true) (hb : Binds X.K fd ps ds) (hd : Vals dvs ds)
    (hx : Passes CX X E) (ha : PA X (e :: es) t) (hdb : (x == ("__debug__" : Str)) = false := by decide)
    (he : starEach (e :: es) X.env = (false, eval e X.env) :: starEach es X.env := by rfl)
    (hpl : (backTo pos (starEach es X.env)).any (·.1) = false := by rfl) :
    PE X (.Call (.Name x p) (e :: es) [] pos) (tCall sp dvs E t) where
  run := by
    intro pins s σ H Q I h
    refine wpAny_Call_Name_kw (ld_glob I hg hm ?_ hdb)
    refine PySem.W.callWith_K (h₀ := X.base) I.ok.mod.kin hk ?_ he hpl
    refine thn (ha.run pos pins s σ H _ I h) ?_
    rintro us s1 ⟨vs, H1, I1, rel, q⟩
    exact ⟨I1.kIn, run_fnG F hgd hr hb hd hx I1 rel q⟩
end

/-! ### repr of data -/
mutual
theorem dp_nodict {K : PySem.W.Frag} {H : Hp} : ∀ (d : PyData) (v : V), Dp K H v d → d.hasDict = false
  | .none, _, _ => by simp only [PyData.hasDict]
  | .bool _, _, _ => by simp only [PyData.hasDict]
  | .int _, _, _ => by simp only [PyData.hasDict]
  | .str _, _, _ => by simp only [PyData.hasDict]
  | .list ds, _, h => by
    cases h with
    | lst _ ha => simp only [PyData.hasDict]; exact dpAll_nodict ds _ ha
  | .tuple ds, _, h => by
    cases h with
    | tup _ ha => simp only [PyData.hasDict]; exact dpAll_nodict ds _ ha
  | .dict _, _, h => by cases h
theorem dpAll_nodict {K : PySem.W.Frag} {H : Hp} : ∀ (ds : List PyData) (vs : List V), DpAll K H vs ds → PyData.hasDictAll ds = false
  | [], _, _ => by simp only [PyData.hasDictAll]
  | d :: ds, _, h => by
    cases h with
    | cons a b => simp only [PyData.hasDictAll, dp_nodict d _ a, dpAll_nodict ds _ b, Bool.or_self]
end

/-- repr(x) of data without dicts -/
def rRepr (K : PySem.W.Frag) : List V → Hp → VK → Prop := fun xs H Q => ∃ x d, xs = [x] ∧ Dp K H x d ∧
  d.showable = true ∧ d.depth ≤ 60 ∧ d.shown.length ≤ sizeLine ∧ Q (.str d.shown) H
theorem call_repr {X : Cx} (hgd : X.A.guards = some []) (hu : X.A.units + 64 < cLine) : CallR X (.builtin "repr") (rRepr X.K) := by
  intro pins s σ H xs us Q I rel h
  obtain ⟨x, d, rfl, dp, sh, hd, hz, q⟩ := h
  cases rel with
  | cons rx rt =>
    cases rt
    rename_i u
    obtain ⟨as, rd⟩ := Dp.reads I d x u dp rx
    have nod := dp_nodict d x dp
    cases dp with
    | non =>
      cases rx
      exact PySem.P.repr_of_none ⟨.str _, H, I.tok _, ⟨_, rfl⟩, q⟩
    | bl b =>
      cases rx
      exact PySem.P.repr_of_bool ⟨.str _, H, I.tok _, ⟨_, rfl⟩, q⟩
    | int i =>
      obtain ⟨t, rfl⟩ := rx
      exact PySem.P.repr_of_int (by simpa [PyData.showable] using sh) ⟨.str _, H, I.tok _, ⟨_, rfl⟩, q⟩
    | str z =>
      obtain ⟨t, rfl⟩ := rx
      exact PySem.P.repr_of_str ⟨.str _, H, I.tok _, ⟨_, rfl⟩, q⟩ (by simpa only [PyData.shown] using hz)
    | lst _ _ =>
      cases rx
      exact repr_of_reads' rd sh (PySem.PyData.noDict_hsm nod) hgd (by omega) (fun _ _ e => e) (fun h' t tk k => ⟨.str _, H, I.kept k, ⟨_, rfl⟩, q⟩) hz
    | tup _ _ =>
      cases rx
      exact repr_of_reads' rd sh (PySem.PyData.noDict_hsm nod) hgd (by omega) (fun _ _ e => e) (fun h' t tk k => ⟨.str _, H, I.kept k, ⟨_, rfl⟩, q⟩) hz
end Gd

/-! Ex: errors of own classes as values: made, their fields read, asked for their class. -/
namespace Gd
open PySem PySem.Spec PyProof.Rows L2

/-- what isinstance and the fields ask of such a class -/
structure ErC (K : PySem.W.Frag) (C : Addr) : Prop where
  ga : PySem.W.findIn K (.ref C) "__getattribute__" = some (some (.builtin "BaseException.__getattribute__"))
  gg : PySem.W.findIn K (.ref C) "__getattr__" = some none
  be : PySem.W.subIn K (.ref C) (.type "BaseException") = some true
  hd : PySem.W.hasDictIn K C = true
  ci : PySem.W.isClsIn K C = true
  cc : PySem.W.findIn K (.ref C) "__class__" = some (some (.builtin "object.__class__"))
  cg : PySem.W.specialIn K (.builtin "object.__class__") "__get__" = some (some (.builtin "getset_descriptor.__get__"))
  ct : PySem.W.takesIn K (.builtin "object.__class__") = some true
  om : PySem.W.mroIn K C (.type "object") = some true

section
variable {X : Cx} {CX : CXT} {pins : List (Addr × Obj)} {σ : L2.St} {H : Hp} {s : Shared}

/-- an error of the class at C stands at a, its fields fs (the last stored first) -/
def ErA (H : Hp) (a C : Addr) (fs : List (Str × V)) : Prop :=
  (H a = some (exo a C none) ∧ fs = []) ∨ ∃ d, H a = some (exo a C (some d)) ∧ H d = some (exd d fs)

/-- such an error, as the library's rules see it -/
theorem inst_of {a C : Addr} {fs : List (Str × V)} (I : Inv X pins σ H s) (e : ErA H a C fs) :
    ∃ ox od, PySem.W.InstAt s.heap a ox C od ∧ ∀ n v, fs.lookup n = some v →
      ∃ u o, od = some o ∧ PySem.W.lookIn n o = some (some u) ∧ RelV v u := by
  obtain ⟨e, rfl⟩ | ⟨d, e, ed⟩ := e
  · obtain ⟨t, ho⟩ := exo_at I.hok e
    exact ⟨_, none, ⟨ho, rfl, rfl, trivial⟩, fun n v z => by cases z⟩
  · obtain ⟨t, ho⟩ := exo_at I.hok e
    obtain ⟨mA, hns, rel⟩ := exd_at I.hok ed
    obtain ⟨od, hod, look⟩ := lookIn_ns hns
    refine ⟨_, some od, ⟨ho, rfl, rfl, hod⟩, fun n v z => ?_⟩
    have rn := rel n
    rw [z] at rn
    cases q : mA n with
    | none => rw [q] at rn; exact rn.elim
    | some u =>
      rw [q] at rn
      exact ⟨u, od, rfl, by rw [look, q], rn⟩

/-- isinstance(e, c) -/
def rIsEr (K : PySem.W.Frag) : List V → Hp → VK → Prop := fun xs H Q => ∃ (a C : Addr) (fs : List (Str × V)) (c : V) (u : Value) (b : Bool),
  xs = [.ref a, c] ∧ ErA H a C fs ∧ ErC K C ∧ ClsV c u ∧ PySem.W.kitOne K (.ref C) u = some b ∧ Q (.bl b) H
theorem call_isEr : CallR X (.builtin "isinstance") (rIsEr X.K) := by
  intro pins s σ H xs us Q I rel h
  obtain ⟨a, C, fs, c, u, b, rfl, ea, T, kc, kit, q⟩ := h
  obtain ⟨u1, u2, rfl, r1, r2⟩ := vals2 rel
  cases (show u1 = Value.ref a from r1)
  have e2 := kc.eq r2
  subst e2
  obtain ⟨ox, od, J, _⟩ := inst_of I ea
  have Z := PySem.W.kitx_exc (x := a) (ox := ox) (od := od) (K := X.K) T.ci T.ga T.gg T.be T.cc T.cg T.ct T.om
  exact PySem.W.kia_one Z I.kIn J kit (fun z => nomatch z) fun tk => ⟨.bl b, H, I.tok tk, rfl, q⟩

/-- e.f -/
def tErF (K : PySem.W.Frag) (f : Str) (te : TE) : TE := fun σ H Q => te σ H fun x H1 => ∃ (a C : Addr) (fs : List (Str × V)) (v : V),
  x = .ref a ∧ ErA H1 a C fs ∧ ErC K C ∧ PySem.W.findIn K (.ref C) f = some none ∧ fs.lookup f = some v ∧ Q v H1
theorem pe_erF {e : Expr} {te : TE} {pos : Pos} {f : Str} (he : PE X e te)
    (hb : attributeBase e f X.env (eval e X.env) = eval e X.env := by rfl) : PE X (.Attribute e f pos) (tErF X.K f te) where
  run := by
    intro pins s σ H Q I h
    refine attr_of hb (thn (he.run pins s σ H _ I h) ?_)
    rintro u s1 ⟨x, H1, I1, rx, a, C, fs, v, ex, ea, T, no, l, q⟩
    subst ex
    cases (show u = Value.ref a from rx)
    obtain ⟨ox, od, J, g⟩ := inst_of I1 ea
    obtain ⟨u, o, rfl, lk, ru⟩ := g f v l
    exact HandSPX.exc_get I1.kIn J T.ga T.gg T.be (PySem.W.findObj_own T.hd no rfl lk) (handed_of ru) ⟨v, H1, I1.tok _, ru, q⟩

/-- C(), an error class without an __init__ of its own -/
def tEr0 (C : Addr) : TE := fun _ H Q => ∀ a, H a = none → Q (.ref a) (upd H a (exo a C none))
theorem pe_er0 {C : Addr} {bmB : List Value} {B newId initId : String} {x : Str} {p pos : Pos} (F : ExcBaseFacts B newId initId bmB)
    (q : PySem.W.excIn X.K C bmB newId = true) (gC : X.mg x = some (.ref C)) (kC : PySem.W.keepIn X.K (.ref C) = true) (hg : Gl X x)
    (hdb : (x == ("__debug__" : Str)) = false := by decide) : PE X (.Call (.Name x p) [] [] pos) (tEr0 C) where
  run := by
    intro pins s σ H Q I h
    refine wpAny_Call_Name_kw (ld_glob I hg gC ?_ hdb)
    refine PySem.W.callWith_K0 I.kIn kC ?_
    obtain ⟨bm, N, nm, qn, bs, hdct, sn, sub, ab, col, dd, k0, k1, k2, k3, k5, mN, hC, hN, hni, T⟩ := exc_obj I.kIn q
    obtain ⟨hp, g, d, t, os⟩ := s
    refine wpAny_call_exc_subT F T hC hN hni ?_ (by show 0 ≤ sizeLine; exact Nat.zero_le _)
    intro h' a hm
    have fresh : H a = none := I.hok.gone hm.new
    obtain ⟨t0, ht, _, _⟩ := hm.there
    have lay : ObjOk X.prog X.w (upd H a (exo a C none)) h' a (exo a C none) := exo_ok ht
    refine ⟨.ref a, _, I.un (t' := t) ?_ ?_, rfl, h a fresh⟩
    · exact {
        keep := fun b u z _ _ _ => hm.keeps b u z
        slot := fun b u z _ _ _ => ⟨u.slots, hm.keeps b u z⟩
        free := fun b u z n _ => by rw [upd_ne (fun e => by rw [e] at z; have := hm.new; rw [this] at z; cases z)]; exact n
        there := fun b u z _ => ⟨u, hm.keeps b u z⟩
        tups := fun b xs z => by rw [upd_ne (ne_of_none z fresh)]; exact z
        frzs := fun b o u z => by rw [upd_ne (ne_of_none z fresh)]; exact z
        tbls := fun b ps z => ⟨#[], by rw [upd_ne (ne_of_none z fresh), z]; simp⟩ }
    · intro b u z
      by_cases e : b = a
      · subst e
        rw [upd_same] at z
        cases z
        exact lay
      · rw [upd_ne e] at z
        exact (I.hok b u z).stay (fun c v _ y => hm.keeps c v y) (fun c y => by rw [upd_ne (ne_of_none y fresh)]; exact y)
          fun c xs y => by rw [upd_ne (ne_of_none y fresh)]; exact y

/-- C(e, ..), C's own __init__ keeping sp -/
def tErI (C : Addr) (sp : Sp) (ta : TA) : TE := fun σ H Q => ta σ H fun vs H1 => vs.length ≤ 1000 ∧ ∀ a, H1 a = none →
  sp (.ref a :: vs) (upd H1 a (exo a C none)) (fun v H2 => v = .non ∧ Q (.ref a) H2) (fun _ _ _ => False)
theorem pe_erI {x : Str} {C fI : Addr} {k : Nat} {fd : FuncData} {ps : List Str} {sp : Sp} {e : Expr} {es : List Expr} {ta : TA} {p pos : Pos}
    (T : OexC X.K C) (iC : PySem.W.findIn X.K (.ref C) "__init__" = some (some (.ref fI))) (tI : PySem.W.typeIn X.K (.ref fI) = some (.type "function"))
    (F1 : FnOk X.prog X.w X.K X.mg X.base CX k fI fd ps sp) (hr : Room (k + 1) X.A) (hb : Binds X.K fd ps [])
    (hx : Passes CX X (fun _ _ _ => False)) (hg : Gl X x) (hm : X.mg x = some (.ref C)) (ha : PA X (e :: es) ta)
    (hdb : (x == ("__debug__" : Str)) = false := by decide)
    (he : starEach (e :: es) X.env = (false, eval e X.env) :: starEach es X.env := by rfl)
    (hpl : (backTo pos (starEach es X.env)).any (·.1) = false := by rfl) :
    PE X (.Call (.Name x p) (e :: es) [] pos) (tErI C sp ta) where
  run := by
    intro pins s σ H Q I h
    obtain ⟨nm, q, N, bs, bm, sn, sub, ab, col, dd, k0, k1, k2, k3, k5, hC, hbm⟩ := T.cls
    refine wpAny_Call_Name_kw (ld_glob I hg hm ?_ hdb)
    refine PySem.W.callWith_K (h₀ := X.base) I.ok.mod.kin T.kC (thn (ha.run pos pins s σ H _ I h) ?_) he hpl
    rintro us s1 ⟨vs, H1, I1, rel, few, next⟩
    refine ⟨I1.kIn, ?_⟩
    show wpAny _ _ (call (.ref C) us) _ _ _
    obtain ⟨hp, g, dr, tk, os⟩ := s1
    have above : hp.objs.size ≤ hp.objs.size + 1 := Nat.le_succ _
    have call := next (hp.objs.size + 1) (I1.hok.fresh above)
    have kept : ∀ b o, hp.get? b = some o → ((hp.push (PySem.W.kdv_tup us)).push (PySem.HandSPX.excO C hp.objs.size)).get? b = some o :=
      fun b o z => Heap.get?_push_of_some _ (Heap.get?_push_of_some _ z)
    have there : ((hp.push (PySem.W.kdv_tup us)).push (PySem.HandSPX.excO C hp.objs.size)).get? (hp.objs.size + 1) = some (PySem.HandSPX.excO C hp.objs.size) := by heap_get
    have I2 := I1.laid (t' := tk) (o := exo (hp.objs.size + 1) C none) kept above (exo_ok there)
    have rel2 : Vals (V.ref (hp.objs.size + 1) :: vs) (Value.ref (hp.objs.size + 1) :: us) := .cons rfl rel
    have len2 : (Value.ref (hp.objs.size + 1) :: us ++ []).length = ps.length := by
      rw [List.append_nil, ← rel2.length]
      exact F1.len _ _ _ _ call
    have usz : us.length ≤ sizeLine := by
      have := Paired.length rel
      rw [sizeLine_eq]
      omega
    have bound := hb _ (Value.ref (hp.objs.size + 1) :: us) I2.kIn len2
    rw [List.append_nil] at bound
    refine wpAny_call (PySem.HandSPX.call_own F.excBase_ValueError (fun Y => PySem.HandSPX.refsVE_contains Y bm hbm) (I1.kIn _ _ hC)
      (PySem.W.looks_findIn I1.kIn iC) (fun self => PySem.W.bind_fn I1.kIn self tI) usz ?_)
    refine codeAny_mono (F1.run _ X.stack _ _ ⟨Value.ref (hp.objs.size + 1) :: us, []⟩ _ _ _ (fun _ _ _ => False) (hr.make C us [])
      (I2.env0.make C us []) bound rel2 call) ?_
    intro r s' hr'
    match r, hr' with
    | .error er, z => exact hx pins σ _ _ er s' I2 z
    | .ok (.ret u), z =>
      obtain ⟨v, H2, I3, rv, ev, q2⟩ := I2.after z
      subst ev
      exact ⟨rv, ⟨V.ref (hp.objs.size + 1), H2, I3, rfl, q2⟩⟩
    | .ok .next, z => exact z.elim
    | .ok .brk, z => exact z.elim
    | .ok .cont, z => exact z.elim
end
end Gd

/-! Ge: the end of a law row over a def of the kind FnG. -/
namespace Gd
open PySem PySem.Spec PyProof.Rows L2

/-- what the law's call finds: an abstract heap that tracks the script at most, a base without it -/
structure Entry (P : Program) (w : World) (K : PySem.W.Frag) (mg : Str → Option Value) (s : Shared) (a : Addr) (ns : List Int)
    (H : Hp) (base : Heap) : Prop where
  only : Only H
  script : SqL K H a (ns.map V.int)
  kin : K.In base
  glob : base.Ns mainGlobals mg
  env : Env0 P w K mg base callerA [] s H
  old : ∀ (H' : Hp) (s' : Shared), Un [] [] H H' s.heap s'.heap → HOk P w H' s'.heap → PySem.OldK s.heap s'.heap

section
variable {P : Program} {w : World} {K : PySem.W.Frag} {mg mb : Str → Option Value} {s : Shared} {a : Addr} {vs : List Value} {ns : List Int}
theorem entry_of {H : Hp} (kin : K.In s.heap) (hns : s.heap.Ns mainGlobals mg) (hb : s.heap.Ns builtinsNs mb)
    (hbb : ∀ x : Str, x ≠ "__name__" → mb x = bootBuiltins x) (hlim : s.heap.NoLimit) (hg : s.gens = #[])
    (ha : s.heap.get? a = some { cls := .type "list", data := .seq vs.toArray })
    (o1 : Only H) (o2 : SqL K H a (ns.map V.int)) (o3 : HOk P w H s.heap) (o4 : ∀ b, H b ≠ none → b = a)
    (o5 : H a ≠ none → K.lookup a = none) : ∃ base, Entry P w K mg s a ns H base := by
  -- whatever isn't the script's own object is in the base
  have stays : ∀ {b : Addr} {o : Obj}, s.heap.get? b = some o → (b = a → H b = none) → (hidT s.heap H).get? b = some o := by
    intro b o e h
    refine hidT_get e ?_
    by_cases z : b = a
    · exact h z
    · exact Classical.byContradiction fun q => z (o4 b q)
  have ns_in : ∀ {b : Addr} {m : Str → Option Value}, s.heap.Ns b m → (hidT s.heap H).Ns b m := by
    rintro b m ⟨o, es, ep, e, d, r⟩
    refine ⟨o, es, ep, stays e fun z => ?_, d, r⟩
    rw [z, ha] at e
    rw [← Option.some.inj e] at d
    cases d
  have kin' : K.In (hidT s.heap H) := by
    intro b o e
    refine stays (kin b o e) fun z => Classical.byContradiction fun q => ?_
    rw [z] at q e
    rw [o5 q] at e
    cases e
  obtain ⟨mc, l1, l2⟩ := hlim
  refine ⟨hidT s.heap H, o1, o2, kin', ns_in hns, ?_, ?_⟩
  · refine ⟨rfl, ⟨kin', ns_in hns, ⟨mb, ns_in hb, hbb⟩, ⟨mc, ns_in l1, l2⟩⟩, fun b o e => of_hidT e, Nat.le_of_eq (hidT_size _ _), trivial, ?_, o3, .of_eq hg⟩
    intro b hm
    exact (List.not_mem_nil hm).elim
  · intro H' s' un ok'
    refine PySem.OldK.of_keep fun b o e => ?_
    cases q : H b with
    | none => exact un.keep b o e q List.not_mem_nil List.not_mem_nil
    | some u =>
      obtain z | ⟨ob, xs, z⟩ := o1 b
      · rw [q] at z
        cases z
      · obtain ⟨was, _⟩ := o3 b _ z
        obtain ⟨still, _⟩ := ok' b _ (un.frzs b ob _ z)
        rw [e] at was
        rw [Option.some.inj was]
        exact still

theorem entry_is (kin : K.In s.heap) (hns : s.heap.Ns mainGlobals mg) (hb : s.heap.Ns builtinsNs mb)
    (hbb : ∀ x : Str, x ≠ "__name__" → mb x = bootBuiltins x) (hlim : s.heap.NoLimit) (hg : s.gens = #[])
    (ha : s.heap.get? a = some { cls := .type "list", data := .seq vs.toArray })
    (hi : IntsAre vs ns) (hl : ns.length ≤ sizeLine) : ∃ H base, Entry P w K mg s a ns H base := by
  have rv := vals_ints hi
  have ln := hi.length
  cases hk : K.lookup a with
  | some o =>
    have e := kin a o hk
    rw [ha] at e
    cases e
    have sq : SqL K (fun _ => none) a (ns.map V.int) :=
      .inr ⟨_, vs.toArray, _, hk, rfl, rfl, rfl, by rw [List.size_toArray, ln]; exact hl, by simpa using rv⟩
    obtain ⟨base, E⟩ := entry_of (P := P) (w := w) kin hns hb hbb hlim hg ha (fun _ => .inl rfl) sq
      (fun b u z => by cases (show (none : Option HO) = some u from z)) (fun b z => absurd rfl z) fun z => absurd rfl z
    exact ⟨_, base, E⟩
  | none =>
    let H : Hp := fun b => if b = a then some (.frz { cls := .type "list", data := .seq vs.toArray } (.lst (ns.map V.int))) else none
    have at_a : H a = some (.frz { cls := .type "list", data := .seq vs.toArray } (.lst (ns.map V.int))) := if_pos rfl
    have off_a : ∀ {b}, b ≠ a → H b = none := fun z => if_neg z
    have ok : HOk P w H s.heap := by
      intro b u z
      by_cases q : b = a
      · subst q
        rw [at_a] at z
        cases z
        exact ⟨ha, by rw [List.length_map]; exact hl, vs, _, rv, ha⟩
      · rw [off_a q] at z
        cases z
    have on : Only H := by
      intro b
      by_cases q : b = a
      · subst q
        exact .inr ⟨_, _, at_a⟩
      · exact .inl (off_a q)
    obtain ⟨base, E⟩ := entry_of (P := P) (w := w) kin hns hb hbb hlim hg ha on (.inl (.inr ⟨_, at_a⟩)) ok
      (fun b z => Classical.byContradiction fun q => z (off_a q)) fun _ => hk
    exact ⟨H, base, E⟩
end

theorem walkG {l : PySem.W.OpenLaw} {n k : Nat} {q : Program} {loose : List Str} {XP : (Str → Option Value) → Heap → Prop}
    {YP : World → Heap → Prop} {d : DefRec} {K : Params → PySem.W.Frag} {sp : World → Sp} {x : Str}
    (hn : l.most = some n) (hn2 : n ≤ sizeLine) (hdf : d.params.defaults = []) (hr : Room k callerA)
    (hY : ∀ (w : World) (h : Heap), YP w h → (K w.params).In h)
    (F : ∀ (w : World) (mg : Str → Option Value) (fa : Addr) (h : Heap), (K w.params).In h → h.Ns mainGlobals mg → mg d.name = some (.ref fa) →
      ∃ fd : FuncData, (∀ (s : Shared) (u : Value), BindsTo s fd ⟨[u], []⟩ [(x, u)]) ∧
        ∀ base : Heap, (K w.params).In base → base.Ns mainGlobals mg → FnG l.prog w (K w.params) mg base CX0 k fa fd [x] (sp w))
    (hsp : ∀ (w : World) (H : Hp) (a : Addr) (ns : List Int), ns.length ≤ n → Only H → SqL (K w.params) H a (ns.map V.int) →
      sp w [.ref a] H (fun v _ => v = .bl true) fun _ _ _ => False) :
    PySem.W.WalkO q loose XP YP l.row.toRowW d [] (fun f vs => PySem.call f vs) := by
  refine Att.attach_call hn hdf ?_
  intro w s₀ s₁ mg mb fa o pm cd doc a vs ns G Y ho hd hcd hmg hobj hints hlen hgens
  have kin := hY w _ Y
  obtain ⟨fd, binds, all⟩ := F w mg fa _ kin G.T.g hmg
  obtain ⟨H, base, E⟩ := entry_is (P := l.prog) (w := w) kin G.T.g G.T.b G.T.builtins G.T.nolimit hgens hobj hints (Nat.le_trans hlen hn2)
  have run := (all base E.kin E.glob).go callerA [] s₁ H ⟨[.ref a], []⟩ [.ref a] [.ref a] _ _ rfl hr E.env (binds s₁ (.ref a)) (.cons rfl .nil)
    (hsp w H a ns hlen E.only E.script)
  refine codeAny_mono run ?_
  intro res s' hres
  match res, hres with
  | .ok (.ret u), ⟨v, H', os, bare, un, ok', rel, e⟩ =>
    subst e
    cases (show u = Value.bool true from rel)
    exact ⟨rfl, E.old H' s' un ok', os, bare⟩
end Gd

/-! Gr: repr of data, lists and tuples and dicts within one another. -/
namespace Gd
open PySem PySem.Spec PyProof.Rows L2
def kD : Key → PyData
  | .inl i => .int i
  | .inr x => .str x
mutual
/-- v is the data d, at the abstract heap -/
inductive Dq (K : PySem.W.Frag) (H : Hp) : V → PyData → Prop
  | non : Dq K H .non .none
  | bl (b : Bool) : Dq K H (.bl b) (.bool b)
  | int (i : Int) : Dq K H (.int i) (.int i)
  | str (x : Str) : Dq K H (.str x) (.str x)
  | lst {a : Addr} {xs : List V} {ds : List PyData} : SqL K H a xs → DqAll K H xs ds → Dq K H (.ref a) (.list ds)
  | tup {a : Addr} {xs : List V} {ds : List PyData} : SqT K H a xs → DqAll K H xs ds → Dq K H (.ref a) (.tuple ds)
  | dct {a : Addr} {kvs : List (Key × V)} {ds : List (PyData × PyData)} : Rd H a (.dK kvs) → DqKv K H kvs ds → Dq K H (.ref a) (.dict ds)
inductive DqAll (K : PySem.W.Frag) (H : Hp) : List V → List PyData → Prop
  | nil : DqAll K H [] []
  | cons {v : V} {vs : List V} {d : PyData} {ds : List PyData} : Dq K H v d → DqAll K H vs ds → DqAll K H (v :: vs) (d :: ds)
inductive DqKv (K : PySem.W.Frag) (H : Hp) : List (Key × V) → List (PyData × PyData) → Prop
  | nil : DqKv K H [] []
  | cons {k : Key} {v : V} {vs : List (Key × V)} {d : PyData} {ds : List (PyData × PyData)} : Dq K H v d → DqKv K H vs ds → DqKv K H ((k, v) :: vs) ((kD k, d) :: ds)
end

theorem ram_nil {h : Heap} {n : Nat} : ReadAtMost h n [] := fun b hb => (List.not_mem_nil hb).elim
/-- a value's own repr, and what it reads -/
structure Rp (prog : Program) (w : World) (h : Heap) (u : Value) (d : PyData) : Prop where
  reads : ∃ as, Reads h u d as
  repr : d.showable = true → d.shown.length ≤ sizeLine → ∃ bs, ReadAtMost h d.depth bs ∧ ReprK prog w bs h d.depth u d.shown
structure RpAll (prog : Program) (w : World) (h : Heap) (us : List Value) (ds : List PyData) : Prop where
  reads : ∃ as, ReadsAll h us ds as
  repr : PyData.showableAll ds = true → (∀ t ∈ PyData.shownAll ds, t.length ≤ sizeLine) →
    ∃ bs, ReadAtMost h (PyData.depthAll ds) bs ∧ ReprAllK prog w bs h (PyData.depthAll ds) us (PyData.shownAll ds)
section
variable {prog : Program} {w : World} {h : Heap}
theorem RpAll.nil : RpAll prog w h [] [] := ⟨⟨_, .nil⟩, fun _ _ => ⟨[], ram_nil, by simp only [PyData.shownAll]; exact .nil⟩⟩
theorem RpAll.cons {u : Value} {d : PyData} {us : List Value} {ds : List PyData} (a : Rp prog w h u d) (b : RpAll prog w h us ds) : RpAll prog w h (u :: us) (d :: ds) where
  reads := by
    obtain ⟨as, r⟩ := a.reads
    obtain ⟨bs, rs⟩ := b.reads
    exact ⟨_, .cons r rs⟩
  repr := by
    intro hs hz
    obtain ⟨s1, s2⟩ : d.showable = true ∧ PyData.showableAll ds = true := by simpa [PyData.showableAll] using hs
    obtain ⟨b1, m1, k1⟩ := a.repr s1 (hz _ (by simp only [PyData.shownAll]; exact List.mem_cons_self ..))
    obtain ⟨b2, m2, k2⟩ := b.repr s2 fun t ht => hz t (by simp only [PyData.shownAll]; exact List.mem_cons_of_mem _ ht)
    refine ⟨b1 ++ b2, ?_, ?_⟩
    · simp only [PyData.depthAll]
      exact (m1.mono (Nat.le_max_left _ _)).append (m2.mono (Nat.le_max_right _ _))
    · simp only [PyData.depthAll, PyData.shownAll]
      have sub1 : ∀ c ∈ b1, c ∈ b1 ++ b2 := fun c hc => List.mem_append_left _ hc
      have sub2 : ∀ c ∈ b2, c ∈ b1 ++ b2 := fun c hc => List.mem_append_right _ hc
      exact .cons ((k1.more sub1).level_le (Nat.le_max_left _ _)) (k2.more_le sub2 (Nat.le_max_right _ _))
theorem Rp.list {a : Addr} {o : Obj} {us : List Value} {n : Nat} {ds : List PyData} (ho : h.get? a = some o) (hc : o.cls = .type "list") (hd : o.data = .seq us.toArray n) (all : RpAll prog w h us ds) : Rp prog w h (.ref a) (.list ds) := by
  obtain ⟨as, rs⟩ := all.reads
  have r : Reads h (.ref a) (.list ds) _ := .list ho hc hd rs
  refine ⟨⟨_, r⟩, fun hs hz => ?_⟩
  have hz' : (listText (PyData.shownAll ds)).length ≤ sizeLine := by simpa only [PyData.shown] using hz
  obtain ⟨bs, m, k⟩ := all.repr (by simpa [PyData.showable] using hs) fun t ht => Nat.le_trans (listText_mem_le ht) hz'
  have deep : PyData.depthAll ds < PyData.depth (.list ds) := by simp only [PyData.depth]; omega
  have off : a ∉ bs := not_mem_of_deeper r deep m
  refine ⟨a :: bs, ReadAtMost.cons r (Nat.le_of_lt deep) m, ?_⟩
  simp only [PyData.depth, PyData.shown]
  cases us with
  | nil =>
    cases rs
    simp only [PyData.shownAll, listText_nil]
    exact ReprK.listEmpty ho hc hd
  | cons u us => exact ReprK.list ho hc hd off (by simpa using k.length_eq) fun i y e => k.item i y (by simpa using e)
theorem Rp.tuple {a : Addr} {o : Obj} {us : List Value} {n : Nat} {ds : List PyData} (ho : h.get? a = some o) (hc : o.cls = .type "tuple") (hd : o.data = .seq us.toArray n) (all : RpAll prog w h us ds) : Rp prog w h (.ref a) (.tuple ds) := by
  obtain ⟨as, rs⟩ := all.reads
  have r : Reads h (.ref a) (.tuple ds) _ := .tuple ho hc hd rs
  refine ⟨⟨_, r⟩, fun hs hz => ?_⟩
  have hz' : (tupleText (PyData.shownAll ds)).length ≤ sizeLine := by simpa only [PyData.shown] using hz
  obtain ⟨bs, m, k⟩ := all.repr (by simpa [PyData.showable] using hs) fun t ht => Nat.le_trans (tupleText_mem_le ht) hz'
  have deep : PyData.depthAll ds < PyData.depth (.tuple ds) := by simp only [PyData.depth]; omega
  refine ⟨a :: bs, ReadAtMost.cons r (Nat.le_of_lt deep) m, ?_⟩
  simp only [PyData.depth, PyData.shown]
  exact ReprK.tuple ho hc hd (not_mem_of_deeper r deep m) k
theorem Rp.dict {a : Addr} {o : Obj} {es : Array DictEntry} {n : Nat} {ds : List (PyData × PyData)} (ho : h.get? a = some o) (hc : o.cls = .type "dict") (hd : o.data = .dict es n) (low : (a == sysModules) = false)
    (ks : RpAll prog w h (es.toList.map (·.key)) (ds.map (·.1))) (vs : RpAll prog w h (es.toList.map (·.val)) (ds.map (·.2))) : Rp prog w h (.ref a) (.dict ds) := by
  obtain ⟨as, r1⟩ := ks.reads
  obtain ⟨bs, r2⟩ := vs.reads
  have r : Reads h (.ref a) (.dict ds) _ := .dict ho hc hd r1 r2
  refine ⟨⟨_, r⟩, fun hs hz => ?_⟩
  have hz' : (dictText (PyData.shownKv ds)).length ≤ sizeLine := by simpa only [PyData.shown] using hz
  obtain ⟨s1, s2⟩ := PyData.showableKv_split ds (by simpa [PyData.showable] using hs)
  obtain ⟨b1, m1, k1⟩ := ks.repr s1 fun t ht => by
    obtain ⟨p, hp, hl⟩ := PyData.shownKv_key_le ds t ht
    exact Nat.le_trans hl (Nat.le_trans (dictText_mem_le hp) hz')
  obtain ⟨b2, m2, k2⟩ := vs.repr s2 fun t ht => by
    obtain ⟨p, hp, hl⟩ := PyData.shownKv_val_le ds t ht
    exact Nat.le_trans hl (Nat.le_trans (dictText_mem_le hp) hz')
  have deep : PyData.depthKv ds < PyData.depth (.dict ds) := by simp only [PyData.depth]; omega
  have m := (m1.mono (PyData.depthAll_keys_le ds)).append (m2.mono (PyData.depthAll_vals_le ds))
  refine ⟨a :: (b1 ++ b2), ReadAtMost.cons r (Nat.le_of_lt deep) m, ?_⟩
  simp only [PyData.depth, PyData.shown, PyData.shownKv_eq]
  have sub1 : ∀ c ∈ b1, c ∈ b1 ++ b2 := fun c hc => List.mem_append_left _ hc
  have sub2 : ∀ c ∈ b2, c ∈ b1 ++ b2 := fun c hc => List.mem_append_right _ hc
  exact ReprK.dict ho hc hd low (not_mem_of_deeper r deep m) (ReprEntriesK.of_two es.toList _ _ (k1.more_le sub1 (PyData.depthAll_keys_le ds)) (k2.more_le sub2 (PyData.depthAll_vals_le ds)))
theorem Rp.int (i : Int) (t : Tok) : Rp prog w h (.int i t) (.int i) :=
  ⟨⟨_, .int i t⟩, fun hs _ => ⟨[], ram_nil, by simp only [PyData.shown]; exact .of_is (ReprIs.int t (by simpa [PyData.showable] using hs)) _ _ _⟩⟩
theorem Rp.str (x : Str) (t : Tok) : Rp prog w h (.str x t) (.str x) :=
  ⟨⟨_, .str x t⟩, fun _ hz => ⟨[], ram_nil, by simp only [PyData.shown]; exact .of_is (ReprIs.str x t (by simpa only [PyData.shown] using hz)) _ _ _⟩⟩
theorem Rp.bool (b : Bool) : Rp prog w h (.bool b) (.bool b) :=
  ⟨⟨_, .bool b⟩, fun _ _ => ⟨[], ram_nil, by simp only [PyData.shown]; exact .of_is (ReprIs.bool b) _ _ _⟩⟩
theorem Rp.none : Rp prog w h .none .none :=
  ⟨⟨_, .none⟩, fun _ _ => ⟨[], ram_nil, by simp only [PyData.shown]; exact .of_is ReprIs.none _ _ _⟩⟩
end
section
variable {X : Cx} {pins : List (Addr × Obj)} {σ : L2.St} {H : Hp} {s : Shared}
theorem key_rp {prog : Program} {w : World} {h : Heap} {k : Key} {u : Value} (e : keyIs k u = true) : Rp prog w h u (kD k) := by
  rcases keyIs_shape e with ⟨i, t, rfl, rfl⟩ | ⟨x, t, rfl, rfl⟩
  · exact Rp.int i t
  · exact Rp.str x t
mutual
theorem Dq.rp (I : Inv X pins σ H s) : ∀ (d : PyData) (v : V) (u : Value), Dq X.K H v d → RelV v u → Rp X.prog X.w s.heap u d
  | .none, _, _, h, r => by cases h; cases r; exact Rp.none
  | .bool b, _, _, h, r => by cases h; cases r; exact Rp.bool b
  | .int i, _, _, h, r => by cases h; obtain ⟨t, rfl⟩ := r; exact Rp.int i t
  | .str x, _, _, h, r => by cases h; obtain ⟨t, rfl⟩ := r; exact Rp.str x t
  | .list ds, _, _, h, r => by
    cases h with
    | lst hs ha =>
      cases r
      obtain ⟨its, rv, ⟨o, n, ho, hc, _, hd⟩, _⟩ := I.list hs
      exact Rp.list ho hc hd (DqAll.rp I ds _ its ha rv)
  | .tuple ds, _, _, h, r => by
    cases h with
    | tup hs ha =>
      cases r
      obtain ⟨its, rv, ⟨o, ho, hc, n, hd⟩, _⟩ := I.tuple hs
      exact Rp.tuple ho hc hd (DqAll.rp I ds _ its ha rv)
  | .dict ds, _, _, h, r => by
    cases h with
    | dct hs ha =>
      cases r
      obtain ⟨_, low, vs, kv, o, es, ep, ho, hx, hd, _, hp, _⟩ := dk_rd I.hok hs
      obtain ⟨k1, k2⟩ := DqKv.rp I ds _ vs es.toList ha kv hp
      exact Rp.dict ho hx.1 hd low k1 k2
theorem DqAll.rp (I : Inv X pins σ H s) : ∀ (ds : List PyData) (vs : List V) (us : List Value), DqAll X.K H vs ds → Vals vs us → RpAll X.prog X.w s.heap us ds
  | [], _, _, h, r => by cases h; cases r; exact RpAll.nil
  | d :: ds, _, _, h, r => by
    cases h with
    | cons h1 h2 =>
      cases r with
      | cons r1 r2 => exact RpAll.cons (Dq.rp I d _ _ h1 r1) (DqAll.rp I ds _ _ h2 r2)
theorem DqKv.rp (I : Inv X pins σ H s) : ∀ (ds : List (PyData × PyData)) (kvs : List (Key × V)) (vs : List (Key × Value)) (es : List DictEntry), DqKv X.K H kvs ds → KV kvs vs → Pairs (mixKind X.prog X.w) es vs →
    RpAll X.prog X.w s.heap (es.map (·.key)) (ds.map (·.1)) ∧ RpAll X.prog X.w s.heap (es.map (·.val)) (ds.map (·.2))
  | [], _, _, _, h, r, p => by cases h; cases r; cases p; exact ⟨RpAll.nil, RpAll.nil⟩
  | (dk, d) :: ds, _, _, _, h, r, p => by
    cases h with
    | cons h1 h2 =>
      cases r with
      | cons r1 r2 =>
        obtain ⟨r0, r1⟩ := r1
        cases p with
        | cons hk hv ht =>
          obtain ⟨a, b⟩ := DqKv.rp I ds _ _ _ h2 r2 ht
          simp only at r0 r1
          subst r0
          exact ⟨RpAll.cons (key_rp hk) a, RpAll.cons (Dq.rp I d _ _ h1 (by rw [← hv] at r1; exact r1)) b⟩
end
end
/-- repr(x) of data -/
def rReprQ (K : PySem.W.Frag) : List V → Hp → VK → Prop := fun xs H Q => ∃ x d, xs = [x] ∧ Dq K H x d ∧
  d.showable = true ∧ d.depth ≤ 60 ∧ d.shown.length ≤ sizeLine ∧ Q (.str d.shown) H
theorem call_reprQ {X : Cx} (hgd : X.A.guards = some []) (hu : X.A.units + 64 < cLine) : CallR X (.builtin "repr") (rReprQ X.K) := by
  intro pins s σ H xs us Q I rel h
  obtain ⟨x, d, rfl, dq, sh, hd, hz, q⟩ := h
  cases rel with
  | cons rx rt =>
    cases rt
    rename_i u
    cases dq with
    | non =>
      cases rx
      exact PySem.P.repr_of_none ⟨.str _, H, I.tok _, ⟨_, rfl⟩, q⟩
    | bl b =>
      cases rx
      exact PySem.P.repr_of_bool ⟨.str _, H, I.tok _, ⟨_, rfl⟩, q⟩
    | int i =>
      obtain ⟨t, rfl⟩ := rx
      exact PySem.P.repr_of_int (by simpa [PyData.showable] using sh) ⟨.str _, H, I.tok _, ⟨_, rfl⟩, q⟩
    | str z =>
      obtain ⟨t, rfl⟩ := rx
      exact PySem.P.repr_of_str ⟨.str _, H, I.tok _, ⟨_, rfl⟩, q⟩ (by simpa only [PyData.shown] using hz)
    | lst hs ha =>
      cases rx
      rename_i a zs ds
      obtain ⟨its, rv, ⟨o, n, ho, hc, _, hdt⟩, _⟩ := I.list hs
      have all := DqAll.rp I ds _ its ha rv
      obtain ⟨as, rs⟩ := all.reads
      have r : Reads s.heap (.ref a) (.list ds) _ := .list ho hc hdt rs
      have hz' : (listText (PyData.shownAll ds)).length ≤ sizeLine := by simpa only [PyData.shown] using hz
      obtain ⟨bs, m, k⟩ := all.repr (by simpa [PyData.showable] using sh) fun t ht => Nat.le_trans (listText_mem_le ht) hz'
      have deep : PyData.depthAll ds < PyData.depth (.list ds) := by simp only [PyData.depth]; omega
      refine call_repr_slot (by omega) ⟨o, ho, hc⟩ F.slot_list_repr.toG ?_
      cases its with
      | nil =>
        cases rs
        refine call_list_repr_empty ⟨o, ho, hc⟩ ho hdt ?_
        exact ⟨_, _, rfl, .str _, H, I.tok _, ⟨_, rfl⟩, by simpa only [PyData.shown, PyData.shownAll, listText_nil] using q⟩
      | cons u0 us0 =>
        refine call_list_reprK ho hc hdt (not_mem_of_deeper r deep m) (by simpa using k.length_eq) (fun i y e => k.item i y (by simpa using e)) hgd (fun b _ => Clear.nil b) (by show X.A.units + 1 + _ < cLine; omega) (fun _ _ e => e) (fun h' t tk kk => ?_) hz'
        exact ⟨_, _, rfl, .str _, H, I.kept kk, ⟨_, rfl⟩, by simpa only [PyData.shown] using q⟩
    | tup hs ha =>
      cases rx
      rename_i a zs ds
      obtain ⟨its, rv, ⟨o, ho, hc, n, hdt⟩, _⟩ := I.tuple hs
      have all := DqAll.rp I ds _ its ha rv
      obtain ⟨as, rs⟩ := all.reads
      have r : Reads s.heap (.ref a) (.tuple ds) _ := .tuple ho hc hdt rs
      have hz' : (tupleText (PyData.shownAll ds)).length ≤ sizeLine := by simpa only [PyData.shown] using hz
      obtain ⟨bs, m, k⟩ := all.repr (by simpa [PyData.showable] using sh) fun t ht => Nat.le_trans (tupleText_mem_le ht) hz'
      have deep : PyData.depthAll ds < PyData.depth (.tuple ds) := by simp only [PyData.depth]; omega
      refine call_repr_slot (by omega) ⟨o, ho, hc⟩ F.slot_tuple_repr ?_
      refine call_tuple_reprK ho hc hdt (not_mem_of_deeper r deep m) k hgd (fun b _ => Clear.nil b) (by show X.A.units + 1 + _ < cLine; omega) (fun _ _ e => e) (fun h' t tk kk => ?_) hz'
      exact ⟨_, _, rfl, .str _, H, I.kept kk, ⟨_, rfl⟩, by simpa only [PyData.shown] using q⟩
    | dct hs ha =>
      cases rx
      rename_i a kvs ds
      obtain ⟨_, low, vs, kv, o, es, ep, ho, hx, hdt, _, hp, _⟩ := dk_rd I.hok hs
      obtain ⟨ks, vals⟩ := DqKv.rp I ds _ vs es.toList ha kv hp
      obtain ⟨as, r1⟩ := ks.reads
      obtain ⟨bs, r2⟩ := vals.reads
      have r : Reads s.heap (.ref a) (.dict ds) _ := .dict ho hx.1 hdt r1 r2
      have hz' : (dictText (PyData.shownKv ds)).length ≤ sizeLine := by simpa only [PyData.shown] using hz
      obtain ⟨s1, s2⟩ := PyData.showableKv_split ds (by simpa [PyData.showable] using sh)
      obtain ⟨b1, m1, k1⟩ := ks.repr s1 fun t ht => by
        obtain ⟨p, hp, hl⟩ := PyData.shownKv_key_le ds t ht
        exact Nat.le_trans hl (Nat.le_trans (dictText_mem_le hp) hz')
      obtain ⟨b2, m2, k2⟩ := vals.repr s2 fun t ht => by
        obtain ⟨p, hp, hl⟩ := PyData.shownKv_val_le ds t ht
        exact Nat.le_trans hl (Nat.le_trans (dictText_mem_le hp) hz')
      have deep : PyData.depthKv ds < PyData.depth (.dict ds) := by simp only [PyData.depth]; omega
      have m := (m1.mono (PyData.depthAll_keys_le ds)).append (m2.mono (PyData.depthAll_vals_le ds))
      have sub1 : ∀ c ∈ b1, c ∈ b1 ++ b2 := fun c hc => List.mem_append_left _ hc
      have sub2 : ∀ c ∈ b2, c ∈ b1 ++ b2 := fun c hc => List.mem_append_right _ hc
      refine call_repr_slot (by omega) ⟨o, ho, hx.1⟩ F.slot_dict_repr ?_
      refine call_dict_reprK ho hx.1 hdt low (not_mem_of_deeper r deep m) (ReprEntriesK.of_two es.toList _ _ (k1.more_le sub1 (PyData.depthAll_keys_le ds)) (k2.more_le sub2 (PyData.depthAll_vals_le ds)))
        hgd (fun b _ => Clear.nil b) (by show X.A.units + 1 + _ < cLine; omega) (fun _ _ e => e) (fun h' t tk kk => ?_) (by rw [← PyData.shownKv_eq]; exact hz')
      exact ⟨_, _, rfl, .str _, H, I.kept kk, ⟨_, rfl⟩, by simpa only [PyData.shown, PyData.shownKv_eq] using q⟩
end Gd

/-! Lw: several clauses `except .. as n`; the end of a law row that makes lambdas, where no guard stands around. -/
namespace Gd
open PySem PySem.Spec PyProof.Rows L2

/-! ### several clauses, each with the name at slot i -/
abbrev Clause := Value × (Addr → Value → Option Addr → TS)
/-- behind the suite the name is gone -/
def offE (i : Nat) (D : Ends) : Ends :=
  { nx := fun σ H => D.nx (σ.set i none) H, rt := D.rt, bk := fun σ H => D.bk (σ.set i none) H, ct := fun σ H => D.ct (σ.set i none) H }
def wAll (K : PySem.W.Frag) (n i : Nat) (W : WX) (D : Ends) : List Clause → WX
  | [] => W
  | (c, ts) :: r => fun cls d σ H => ∃ b, PySem.W.exmOne K cls c = some b ∧
      (b = true → σ.length = n → ∀ a, H a = none → ts a cls d (offE i D) (σ.set i (some (.ref a))) H) ∧ (b = false → wAll K n i W D r cls d σ H)
inductive Clauses (X : Cx) (n : Str) : List ExceptHandler → List Clause → Prop
  | nil : Clauses X n [] []
  | cons {x : Str} {c : Value} {ts : Addr → Value → Option Addr → TS} {st : Stmt} {sts : List Stmt} {p1 p2 : Pos}
      {hds : List ExceptHandler} {l : List Clause} (nm : Names X x c)
      (su : ∀ (a : Addr) (oe : Obj) (cls : Value) (d : Option Addr) (pn : List (Addr × Obj)), Zc cls d oe →
        (∃ vs, oe.data = .fields vs) → PSs (X.suite a ((a, oe) :: pn)) (st :: sts) (ts a cls d))
      (rest : Clauses X n hds l) : Clauses X n (.ExceptHandler (some (.Name x p1)) (some n) (st :: sts) p2 :: hds) ((c, ts) :: l)

section
variable {X : Cx} {n : Str} {i : Nat} {body : List Stmt} {h₀ : ExceptHandler} {hds : List ExceptHandler} {l : List Clause} {pos : Pos} {tb : WX → TS} {W : WX}
theorem ps_tryAll (stk : X.stack = X.env :: X.outer) (frm : X.env.frame = some X.env.locals) (nd : X.N.Nodup) (at_ : X.N[i]? = some n)
    (loc : X.env.kindOf n = some .local) (tk : Takes X W)
    (hb : ∀ (V : WX) (pn : List (Addr × Obj)) (xe : Value → Shared → Prop), Takes (X.tr pn xe) V → PassesOwn (model X.prog X.w) X.A X.env xe →
      PSs (X.tr pn xe) body (tb V)) (hh : Clauses X n (h₀ :: hds) l) :
    PS X (.Try body (h₀ :: hds) [] [] pos) (fun D σ H => tb (wAll X.K X.N.length i W D l) D σ H) where
  run := by
    intro pins s σ H D I h
    have ok := I.ok
    have frames : X.A.frames = some (X.env :: X.outer) := by rw [ok.frames, stk]
    have isLoc : Loc X.env.scope n := .inl loc
    refine wpAny_Try_except (wpAny_mono ((hb (wAll X.K X.N.length i W D l) (X.pn ++ pins)
      (fun e s₁ => wpAny (model X.prog X.w) X.A (noteFrame e X.env)
        (fun _ s₂ => wpAny (model X.prog X.w) X.A (setFlight e none)
          (fun _ s₃ => wpAny (model X.prog X.w) X.A (handleBy e X.env (h₀ :: hds)) (SP X pins D) X.xe s₃) X.xe s₂) X.xe s₁)
      ?caught PassesOwn.looking).run [] s σ H D (I.toTry _) h) ?through fun _ _ z => z)
    case through =>
      intro f s1 q
      match f, q with
      | .next, ⟨σ', H', J, q⟩ => exact wpAny_execs_nil ⟨σ', H', J.ofTry ok, q⟩
      | .brk, ⟨σ', H', J, q⟩ => exact ⟨σ', H', J.ofTry ok, q⟩
      | .cont, ⟨σ', H', J, q⟩ => exact ⟨σ', H', J.ofTry ok, q⟩
      | .ret u, ⟨v, σ', H', J, r, q⟩ => exact ⟨v, σ', H', J.ofTry ok, r, q⟩
    case caught =>
      rintro u s' ⟨a, B, sI, pins', σ', H', cls, d, rfl, J0, nb, up, sky, na, os, ag, w⟩
      have J : Inv X pins σ' H' sI := J0.ofTry ok
      have sk : Sky B (X.env :: X.outer) a (Zc cls d) X.env.locals s'.heap := stk ▸ sky
      show wpAny (model X.prog X.w) X.A (noteFrame (.ref a) X.env) _ _ _
      refine Sky.land Zc.steady frames frm sk ?_
      intro hp fl up2
      have landed : Inv X pins σ' H' { s' with heap := hp } := J.landed nb fl.1 (up.trans up2) os ag
      obtain ⟨ob, vs, atA, zc, dat⟩ := fl.there
      have noFrame : a ∉ frs (X.env :: X.outer) := by
        intro hm
        obtain ⟨_, o', e', no⟩ := fl.2.2.1.mem hm
        rw [atA] at e'
        cases e'
        exact no _ dat
      have neL : a ≠ X.env.locals := fun z => noFrame (List.mem_filterMap.mpr ⟨X.env, List.mem_cons_self, by rw [frm, z]⟩)
      have neF : a ∉ X.fs := by
        intro hm
        obtain ⟨e, he, q⟩ := List.mem_filterMap.mp hm
        exact noFrame (List.mem_filterMap.mpr ⟨e, List.mem_cons_of_mem _ he, q⟩)
      have inSuite := landed.suite atA dat na neL neF
      have go : ∀ {hs : List ExceptHandler} {ls : List Clause}, Clauses X n hs ls → wAll X.K X.N.length i W D ls cls d σ' H' →
          wpAny (model X.prog X.w) X.A (handleBy (.ref a) X.env hs) (SP X pins D) X.xe { s' with heap := hp } := by
        intro hs ls k
        induction k with
        | nil =>
          intro w
          refine wpAny_handleBy_nil ?_
          obtain ⟨_, _, _, oe, vs2, T, oT, ts', he, hz, hd, h1, _⟩ := id fl
          unfold PySem.passOn
          refine wpAny_bind (wpAny_field he hd h1 ?_)
          have ref : ¬ ((Value.ref T == Value.none) = true) := by simp
          rw [if_neg ref]
          have fin : wpAny (model X.prog X.w) X.A (setFlight (.ref a) X.env.frame)
              (fun _ s4 => wpAny (model X.prog X.w) X.A (throw (.ref a) : Sem Flow) (SP X pins D) X.xe s4) X.xe { s' with heap := hp } := by
            rw [frm]
            refine HandSPX.setFlight_upZ fl fun h4 hh4 up4 => wpAny_throw (tk _ _ ?_)
            exact ⟨a, B, sI, pins, σ', H', cls, d, rfl, J, nb, (up.trans up2).trans up4, .inr (.inr (stk ▸ hh4)), na, os, ag, w⟩
          first
            | exact wpAny_bind (wpAny_pure (wpAny_bind fin))
            | exact wpAny_bind fin
        | @cons x c ts st sts p1 p2 hds2 l2 nm su rest ih =>
          rintro ⟨b, hb1, yes, no⟩
          refine wpAny_handleBy_cons (codeAny_handlers_test ?_) (fun q => by cases q)
          have typ : PySem.W.Looks (model X.prog X.w) hp (typeOf (.ref a)) cls :=
            fun A Q E s k q => wpAny_typeOf_ref (k _ _ atA) (by rw [zc.1]; exact q)
          have fits := PySem.W.exm_one (M := model X.prog X.w) (landed.kIn) typ hb1
          have named : ∀ {Q : Value → Shared → Prop} {E : Value → Shared → Prop}, Q c { s' with heap := hp } →
              wpAny (model X.prog X.w) (X.A.mark (some (.ref a))) (eval (.Name x p1) X.env) Q E { s' with heap := hp } := by
            intro Q E q
            obtain ⟨hg, dbg, hm | ⟨hm, hv, hn⟩⟩ := nm
            · exact ld_glob (X := X.suite a ((a, ob) :: (X.pn ++ pins))) inSuite hg hm q dbg
            · exact ld_blt (X := X.suite a ((a, ob) :: (X.pn ++ pins))) inSuite hg hm hv q hn dbg
          refine named (fits.here ?_)
          cases b with
          | false =>
            show wpAny _ X.A (handleBy (.ref a) X.env hds2) _ _ _
            exact ih (no rfl)
          | true =>
            refine codeAny_handlers_suite_as (HandSPX.lands_againZ fl ?_)
            intro h4 fl4 up4
            have land4 : Inv X pins σ' H' { s' with heap := h4 } := J.landed nb fl4.1 ((up.trans up2).trans up4) os ag
            obtain ⟨ob4, vs4, at4, z4, d4⟩ := fl4.there
            have in4 := land4.suite at4 d4 na neL neF
            refine store_ok (X := X.suite a ((a, ob4) :: (X.pn ++ pins))) (v := .ref a) in4 nd at_ isLoc rfl ?_ (.inr loc)
            intro s5 S5
            refine wpAny_mono ((su a ob4 cls d (X.pn ++ pins) z4 ⟨_, d4⟩).run [] s5 _ H' _ S5 (yes rfl J.len a na)) ?_ fun _ _ z => z.elim
            intro f s6 q
            have over : ∀ {σ6 : L2.St} {H6 : Hp} {Q : Shared → Prop}, Inv (X.suite a ((a, ob4) :: (X.pn ++ pins))) [] σ6 H6 s6 →
                (∀ s7, Inv X pins (σ6.set i none) H6 s7 → Q s7) →
                wpAny (model X.prog X.w) X.A (do bindName X.env n .none; unbindBehindTheSuite X.env n p2) (fun _ s7 => Q s7) X.xe s6 :=
              fun S q => gone_ok (S.unsuite ok) nd at_ loc q
            match f, q with
            | .next, ⟨σ6, H6, S6, q6⟩ => exact over S6 fun s7 J7 => ⟨_, _, J7, q6⟩
            | .brk, ⟨σ6, H6, S6, q6⟩ => exact over S6 fun s7 J7 => ⟨_, _, J7, q6⟩
            | .cont, ⟨σ6, H6, S6, q6⟩ => exact over S6 fun s7 J7 => ⟨_, _, J7, q6⟩
            | .ret u, ⟨v6, σ6, H6, S6, r6, q6⟩ => exact over S6 fun s7 J7 => ⟨_, _, _, J7, r6, q6⟩
      exact go hh w
end

/-! ### the law's end, the tables of its makers' code objects tracked -/
open LamX in
/-- what the law's call finds -/
structure EntryT (P : Program) (w : World) (K : PySem.W.Frag) (mg : Str → Option Value) (s : Shared) (a : Addr) (ns : List Int)
    (cs : List (Addr × Addr)) (H : Hp) (base : Heap) : Prop where
  tabs : ∀ p ∈ cs, H p.2 = some (.tbl #[])
  script : SqL K H a (ns.map V.int)
  kin : K.In base
  glob : base.Ns mainGlobals mg
  env : Env0 P w K mg base callerA [] s H
  bs : ∀ p ∈ cs, TabB base mg p.1 p.2
  old : ∀ (H' : Hp) (s' : Shared), Un [] [] H H' s.heap s'.heap → HOk P w H' s'.heap → PySem.OldK s.heap s'.heap

section
variable {P : Program} {w : World} {K : PySem.W.Frag} {mg mb : Str → Option Value} {s : Shared} {a : Addr} {vs : List Value} {ns : List Int} {cs : List (Addr × Addr)}
open LamX in
theorem entryT_of {H : Hp} (kin : K.In s.heap) (hns : s.heap.Ns mainGlobals mg) (hb : s.heap.Ns builtinsNs mb)
    (hbb : ∀ x : Str, x ≠ "__name__" → mb x = bootBuiltins x) (hlim : s.heap.NoLimit) (hg : s.gens = #[])
    (bmain : ∃ (bm : Addr) (ob : Obj), mg "__builtins__" = some (.ref bm) ∧ bm ≠ builtinsNs ∧ s.heap.get? bm = some ob ∧
      ob.cls = .type "module" ∧ ob.dict = some builtinsNs ∧ ob.data = .plain)
    (tabs : ∀ p ∈ cs, s.heap.get? p.2 = some { cls := .none, data := .fields #[] }) (noK : ∀ p ∈ cs, K.lookup p.2 = none)
    (heads : ∀ p ∈ cs, PySem.W.CodeHd s.heap p.1 p.2)
    (ha : s.heap.get? a = some { cls := .type "list", data := .seq vs.toArray })
    (o0 : ∀ p ∈ cs, H p.2 = some (.tbl #[])) (o1 : ∀ b, H b = none ∨ (∃ p ∈ cs, p.2 = b) ∨ ∃ o xs, H b = some (.frz o (.lst xs)))
    (o2 : SqL K H a (ns.map V.int)) (o3 : HOk P w H s.heap) (o4 : ∀ b, H b ≠ none → b = a ∨ ∃ p ∈ cs, p.2 = b)
    (o5 : H a ≠ none → K.lookup a = none) : ∃ base, EntryT P w K mg s a ns cs H base := by
  -- an object that is neither a sequence nor an empty record is in the base
  have stays : ∀ {b : Addr} {o : Obj}, s.heap.get? b = some o → (b = a → H b = none) → o.data ≠ .fields #[] → (hidT s.heap H).get? b = some o := by
    intro b o e h no
    refine hidT_get e (Classical.byContradiction fun q => ?_)
    obtain z | ⟨p, hp, z⟩ := o4 b q
    · exact q (h z)
    · have t := tabs p hp
      rw [z, e] at t
      rw [Option.some.inj t] at no
      exact no rfl
  have other : ∀ {b : Addr} {o : Obj}, s.heap.get? b = some o → (∀ xs n, o.data ≠ .seq xs n) → o.data ≠ .fields #[] → (hidT s.heap H).get? b = some o := by
    intro b o e nos nof
    refine stays e (fun z => ?_) nof
    rw [z, ha] at e
    rw [← Option.some.inj e] at nos
    exact (nos _ _ rfl).elim
  have ns_in : ∀ {b : Addr} {m : Str → Option Value}, s.heap.Ns b m → (hidT s.heap H).Ns b m := by
    rintro b m ⟨o, es, ep, e, d, r⟩
    refine ⟨o, es, ep, other e (fun xs n z => ?_) (fun z => ?_), d, r⟩
    · rw [d] at z
      cases z
    · rw [d] at z
      cases z
  have kin' : K.In (hidT s.heap H) := by
    intro b o e
    refine hidT_get (kin b o e) (Classical.byContradiction fun q => ?_)
    obtain z | ⟨p, hp, z⟩ := o4 b q
    · rw [z] at q e
      rw [o5 q] at e
      cases e
    · rw [← z, noK p hp] at e
      cases e
  have noPlain : ∀ {o : Obj}, o.data = .plain → (∀ xs n, o.data ≠ .seq xs n) ∧ o.data ≠ .fields #[] := by
    intro o d
    rw [d]
    refine ⟨fun xs n z => ?_, fun z => ?_⟩ <;> cases z
  obtain ⟨mc, l1, l2⟩ := hlim
  refine ⟨hidT s.heap H, o0, o2, kin', ns_in hns, ?_, ?_, ?_⟩
  · refine ⟨rfl, ⟨kin', ns_in hns, ⟨mb, ns_in hb, hbb⟩, ⟨mc, ns_in l1, l2⟩⟩, fun b o e => of_hidT e, Nat.le_of_eq (hidT_size _ _), trivial, ?_, o3, .of_eq hg⟩
    intro b hm
    exact (List.not_mem_nil hm).elim
  · intro p hp
    refine ⟨?_, ?_, ?_⟩
    · obtain ⟨o, us, file, tf, flags, tg, inF, text, tt, e1, r1, r2, r3, rest⟩ := heads p hp
      refine ⟨o, us, file, tf, flags, tg, inF, text, tt, other e1 (fun xs n z => ?_) (fun z => ?_), r1, r2, r3, rest⟩
      · rw [r2] at z
        cases z
      · rw [r2] at z
        cases z
        simp at r3
    · obtain ⟨bm, ob, b1, b2, b3, b4, b5, b6⟩ := bmain
      refine ⟨bm, ob, b1, b2, fun z => ?_, fun z => ?_, other b3 (noPlain b6).1 (noPlain b6).2, b4, b5, b6⟩
      · obtain ⟨o, es, ep, e, d, _⟩ := hns
        rw [z, e] at b3
        rw [← Option.some.inj b3, d] at b6
        cases b6
      · rw [z, tabs p hp] at b3
        rw [← Option.some.inj b3] at b6
        cases b6
    · intro z
      obtain ⟨o, es, ep, e, d, _⟩ := hns
      rw [z, tabs p hp] at e
      rw [← Option.some.inj e] at d
      cases d
  · intro H' s' un ok'
    have grown : ∀ p ∈ cs, ∃ more : Array Value, s'.heap.get? p.2 = some { cls := .none, data := .fields more } := by
      intro p hp
      obtain ⟨more, z⟩ := un.tbls p.2 #[] (o0 p hp)
      exact ⟨_, ok' p.2 _ z⟩
    have key : ∀ b o, (∀ p ∈ cs, p.2 ≠ b) → s.heap.get? b = some o → s'.heap.get? b = some o := by
      intro b o nb e
      cases q : H b with
      | none => exact un.keep b o e q List.not_mem_nil List.not_mem_nil
      | some u =>
        obtain z | ⟨p, hp, z⟩ | ⟨ob, xs, z⟩ := o1 b
        · rw [q] at z
          cases z
        · exact (nb p hp z).elim
        · obtain ⟨was, _⟩ := o3 b _ z
          obtain ⟨still, _⟩ := ok' b _ (un.frzs b ob _ z)
          rw [e] at was
          rw [Option.some.inj was]
          exact still
    refine ⟨fun b o e => ?_, fun b o e => ?_⟩
    · by_cases hb' : ∃ p ∈ cs, p.2 = b
      · obtain ⟨p, hp, rfl⟩ := hb'
        obtain ⟨more, hm⟩ := grown p hp
        have t := tabs p hp
        rw [e] at t
        rw [Option.some.inj t]
        exact .inr (.inl ⟨((heads p hp).tab (tabs p hp)).isCodeTable, rfl, #[], more, rfl, by rw [Array.empty_append]; exact hm⟩)
      · exact .inl (key b o (fun p hp z => hb' ⟨p, hp, z⟩) e)
    · by_cases hb' : ∃ p ∈ cs, p.2 = b
      · obtain ⟨p, hp, rfl⟩ := hb'
        obtain ⟨more, hm⟩ := grown p hp
        exact ⟨_, hm⟩
      · exact ⟨o, key b o (fun p hp z => hb' ⟨p, hp, z⟩) e⟩

open LamX in
theorem entryT_is (kin : K.In s.heap) (hns : s.heap.Ns mainGlobals mg) (hb : s.heap.Ns builtinsNs mb)
    (hbb : ∀ x : Str, x ≠ "__name__" → mb x = bootBuiltins x) (hlim : s.heap.NoLimit) (hg : s.gens = #[])
    (bmain : ∃ (bm : Addr) (ob : Obj), mg "__builtins__" = some (.ref bm) ∧ bm ≠ builtinsNs ∧ s.heap.get? bm = some ob ∧
      ob.cls = .type "module" ∧ ob.dict = some builtinsNs ∧ ob.data = .plain)
    (tabs : ∀ p ∈ cs, s.heap.get? p.2 = some { cls := .none, data := .fields #[] }) (noK : ∀ p ∈ cs, K.lookup p.2 = none)
    (heads : ∀ p ∈ cs, PySem.W.CodeHd s.heap p.1 p.2)
    (ha : s.heap.get? a = some { cls := .type "list", data := .seq vs.toArray })
    (hi : IntsAre vs ns) (hl : ns.length ≤ sizeLine) : ∃ H base, EntryT P w K mg s a ns cs H base := by
  have rv := vals_ints hi
  have ln := hi.length
  have noT : ¬ ∃ p ∈ cs, p.2 = a := by
    rintro ⟨p, hp, z⟩
    have t := tabs p hp
    rw [z, ha] at t
    have d := congrArg Obj.data (Option.some.inj t)
    cases d
  let T : Hp := fun b => if ∃ p ∈ cs, p.2 = b then some (.tbl #[]) else none
  have T_in : ∀ {b}, (∃ p ∈ cs, p.2 = b) → T b = some (.tbl #[]) := fun z => if_pos z
  have T_off : ∀ {b}, (¬ ∃ p ∈ cs, p.2 = b) → T b = none := fun z => if_neg z
  have okT : ∀ (H : Hp) b u, T b = some u → ObjOk P w H s.heap b u := by
    intro H b u z
    by_cases q : ∃ p ∈ cs, p.2 = b
    · rw [T_in q] at z
      cases z
      obtain ⟨p, hp, rfl⟩ := q
      exact tabs p hp
    · rw [T_off q] at z
      cases z
  cases hk : K.lookup a with
  | some o =>
    have e := kin a o hk
    rw [ha] at e
    cases e
    have sq : SqL K T a (ns.map V.int) :=
      .inr ⟨_, vs.toArray, _, hk, rfl, rfl, rfl, by rw [List.size_toArray, ln]; exact hl, by simpa using rv⟩
    obtain ⟨base, E⟩ := entryT_of (P := P) (w := w) (H := T) kin hns hb hbb hlim hg bmain tabs noK heads ha (fun p hp => T_in ⟨p, hp, rfl⟩)
      (fun b => by
        by_cases q : ∃ p ∈ cs, p.2 = b
        · exact .inr (.inl q)
        · exact .inl (T_off q)) sq (fun b u z => okT T b u z)
      (fun b z => by
        by_cases q : ∃ p ∈ cs, p.2 = b
        · exact .inr q
        · exact (z (T_off q)).elim) fun z => (z (T_off noT)).elim
    exact ⟨_, base, E⟩
  | none =>
    let H : Hp := fun b => if b = a then some (.frz { cls := .type "list", data := .seq vs.toArray } (.lst (ns.map V.int))) else T b
    have at_a : H a = some (.frz { cls := .type "list", data := .seq vs.toArray } (.lst (ns.map V.int))) := if_pos rfl
    have off_a : ∀ {b}, b ≠ a → H b = T b := fun z => if_neg z
    have H_in : ∀ p ∈ cs, H p.2 = some (.tbl #[]) := by
      intro p hp
      rw [off_a fun z => noT ⟨p, hp, z⟩]
      exact T_in ⟨p, hp, rfl⟩
    have ok : HOk P w H s.heap := by
      intro b u z
      by_cases q : b = a
      · subst q
        rw [at_a] at z
        cases z
        exact ⟨ha, by rw [List.length_map]; exact hl, vs, _, rv, ha⟩
      · rw [off_a q] at z
        exact okT H b u z
    obtain ⟨base, E⟩ := entryT_of (P := P) (w := w) (H := H) kin hns hb hbb hlim hg bmain tabs noK heads ha H_in
      (fun b => by
        by_cases q : b = a
        · subst q
          exact .inr (.inr ⟨_, _, at_a⟩)
        · by_cases r : ∃ p ∈ cs, p.2 = b
          · exact .inr (.inl r)
          · exact .inl ((off_a q).trans (T_off r))) (.inl (.inr ⟨_, at_a⟩)) ok
      (fun b z => by
        by_cases q : b = a
        · exact .inl q
        · rw [off_a q] at z
          by_cases r : ∃ p ∈ cs, p.2 = b
          · exact .inr r
          · exact (z (T_off r)).elim) fun _ => hk
    exact ⟨H, base, E⟩
end

open LamX in
theorem walkT {l : PySem.W.OpenLaw} {n k : Nat} {q : Program} {loose : List Str} {XP : (Str → Option Value) → Heap → Prop}
    {YP : World → Heap → Prop} {d : DefRec} {K : Params → PySem.W.Frag} {cs : List (Addr × Addr)} {sp : World → Sp} {x : Str}
    (hn : l.most = some n) (hn2 : n ≤ sizeLine) (hdf : d.params.defaults = []) (hr : Room k callerA)
    (hY : ∀ (w : World) (h : Heap), YP w h → (K w.params).In h)
    (hT : ∀ (w : World) (h : Heap), YP w h → ∀ p ∈ cs, h.get? p.2 = some { cls := .none, data := .fields #[] })
    (F : ∀ (w : World) (mg : Str → Option Value) (fa : Addr) (h : Heap), (K w.params).In h → h.Ns mainGlobals mg → mg d.name = some (.ref fa) →
      (∀ p ∈ cs, (K w.params).lookup p.2 = none ∧ PySem.W.codeHdIn (K w.params) p.1 p.2 = true) ∧
      ∃ fd : FuncData, (∀ (s : Shared) (u : Value), BindsTo s fd ⟨[u], []⟩ [(x, u)]) ∧
        ∀ base : Heap, (K w.params).In base → base.Ns mainGlobals mg → (∀ p ∈ cs, TabB base mg p.1 p.2) →
          FnG l.prog w (K w.params) mg base CX0 k fa fd [x] (sp w))
    (hsp : ∀ (w : World) (H : Hp) (a : Addr) (ns : List Int), ns.length ≤ n → (∀ p ∈ cs, H p.2 = some (.tbl #[])) → SqL (K w.params) H a (ns.map V.int) →
      sp w [.ref a] H (fun v _ => v = .bl true) fun _ _ _ => False) :
    PySem.W.WalkO q loose XP YP l.row.toRowW d [] (fun f vs => PySem.call f vs) := by
  refine Att.attach_call hn hdf ?_
  intro w s₀ s₁ mg mb fa o pm cd doc a vs ns G Y ho hd hcd hmg hobj hints hlen hgens
  have kin := hY w _ Y
  obtain ⟨heads, fd, binds, all⟩ := F w mg fa _ kin G.T.g hmg
  obtain ⟨H, base, E⟩ := entryT_is (P := l.prog) (w := w) kin G.T.g G.T.b G.T.builtins G.T.nolimit hgens G.T.bmain (hT w _ Y)
    (fun p hp => (heads p hp).1) (fun p hp => PySem.W.codeHd_of_K kin (heads p hp).2) hobj hints (Nat.le_trans hlen hn2)
  have run := (all base E.kin E.glob E.bs).go callerA [] s₁ H ⟨[.ref a], []⟩ [.ref a] [.ref a] _ _ rfl hr E.env (binds s₁ (.ref a)) (.cons rfl .nil)
    (hsp w H a ns hlen E.tabs E.script)
  refine codeAny_mono run ?_
  intro res s' hres
  match res, hres with
  | .ok (.ret u), ⟨v, H', os, bare, un, ok', rel, e⟩ =>
    subst e
    cases (show u = Value.bool true from rel)
    exact ⟨rfl, E.old H' s' un ok', os, bare⟩

/-! ### a lambda's body: what a callee raises leaves it -/
open LamX in
theorem takesLam {X : Cx} {A : Around} {outer : List Env} {s : Shared} {H : Hp} {E : XK} {scope : Scope} {f c : Addr} :
    Passes (L2.CX X.prog X.w) (lamCx X A outer s H E scope f c) E :=
  passes_call (takes_of (X := lamCx X A outer s H E scope f c) (E := E) rfl rfl rfl rfl) fun _ _ _ _ h => h

/-! ### a written dict of ints: each value a tuple of ints -/
def keyI : Value → Option Int
  | .int i _ => some i
  | _ => none
def allI : List Value → Option (List Int)
  | [] => some []
  | v :: r => match keyI v, allI r with
    | some i, some is => some (i :: is)
    | _, _ => none
/-- the ints of the tuple of the written part at a -/
def tupI (K : PySem.W.Frag) : Value → Option (List Int)
  | .ref a => match K.lookup a with
    | some ⟨.type "tuple", none, .seq us _, _⟩ => allI us.toList
    | _ => none
  | _ => none
def rowsI (K : PySem.W.Frag) : List DictEntry → Option (List (Int × List Int))
  | [] => some []
  | e :: r => match keyI e.key, tupI K e.val, rowsI K r with
    | some i, some t, some l => if e.hash = hashInt i then some ((i, t) :: l) else none
    | _, _, _ => none
def dictI (K : PySem.W.Frag) (d : Addr) : Option (List (Int × List Int)) :=
  match K.lookup d with
  | some ⟨.type "dict", none, .dict es _, sl⟩ => if sl.isEmpty && !(d == sysModules) then rowsI K es.toList else none
  | _ => none

theorem keyI_some {v : Value} {i : Int} (h : keyI v = some i) : ∃ t, v = .int i t := by
  cases v <;> simp_all [keyI]
theorem allI_some : ∀ {us : List Value} {is : List Int}, allI us = some is → Vals (is.map V.int) us := by
  intro us
  induction us with
  | nil =>
    intro is h
    cases h
    exact .nil
  | cons v r ih =>
    intro is h
    unfold allI at h
    split at h
    · rename_i i l e1 e2
      cases h
      obtain ⟨t, rfl⟩ := keyI_some e1
      exact .cons ⟨t, rfl⟩ (ih e2)
    · cases h

theorem tupI_some {K : PySem.W.Frag} {v : Value} {is : List Int} (h : tupI K v = some is) :
    ∃ a us n sl, v = .ref a ∧ K.lookup a = some ⟨.type "tuple", none, .seq us n, sl⟩ ∧ Vals (is.map V.int) us.toList := by
  unfold tupI at h
  split at h
  · rename_i a
    split at h
    · rename_i us n sl e
      exact ⟨a, us, n, sl, rfl, e, allI_some h⟩
    · cases h
  · cases h

theorem rowsI_all {K : PySem.W.Frag} : ∀ {es : List DictEntry} {rows : List (Int × List Int)}, rowsI K es = some rows →
    (∀ e ∈ es, ∃ k t, e.key = .int k t ∧ e.hash = hashInt k) ∧
    (∀ k, rows.lookup k = none → (es.find? fun e => Value.isInt k e.key) = none) ∧
    ∀ k is, rows.lookup k = some is → ∃ e, (es.find? fun e => Value.isInt k e.key) = some e ∧ tupI K e.val = some is := by
  intro es
  induction es with
  | nil =>
    intro rows h
    cases h
    exact ⟨fun e he => (List.not_mem_nil he).elim, fun _ _ => rfl, fun k is z => by cases z⟩
  | cons e r ih =>
    intro rows h
    unfold rowsI at h
    split at h
    · rename_i i t l e1 e2 e3
      split at h
      · rename_i hh
        cases h
        obtain ⟨tk, ek⟩ := keyI_some e1
        obtain ⟨h1, h2, h3⟩ := ih e3
        have test : ∀ k, Value.isInt k e.key = decide (i = k) := by
          intro k
          rw [ek]
          show (i == k) = decide (i = k)
          by_cases q : i = k
          · subst q
            rw [beq_self_eq_true, decide_eq_true rfl]
          · rw [beq_eq_false_iff_ne.mpr q, decide_eq_false q]
        refine ⟨fun x hx => ?_, fun k z => ?_, fun k is z => ?_⟩
        · obtain rfl | hx := List.mem_cons.mp hx
          · exact ⟨i, tk, ek, hh⟩
          · exact h1 x hx
        · rw [List.lookup_cons] at z
          rw [List.find?_cons, test]
          by_cases q : k = i
          · subst q
            rw [beq_self_eq_true] at z
            cases z
          · rw [show (k == i) = false from beq_eq_false_iff_ne.mpr q] at z
            rw [show decide (i = k) = false from decide_eq_false fun y => q y.symm]
            exact h2 k z
        · rw [List.lookup_cons] at z
          rw [List.find?_cons, test]
          by_cases q : k = i
          · subst q
            rw [beq_self_eq_true] at z
            cases z
            rw [show decide (k = k) = true from decide_eq_true rfl]
            exact ⟨e, rfl, e2⟩
          · rw [show (k == i) = false from beq_eq_false_iff_ne.mpr q] at z
            rw [show decide (i = k) = false from decide_eq_false fun y => q y.symm]
            exact h3 k is z
      · cases h
    · cases h

/-- what such a dict tells, as the library's dict rules want it -/
theorem dictI_map {K : PySem.W.Frag} {prog : Program} {w : World} {h : Heap} {d : Addr} {rows : List (Int × List Int)} (kin : K.In h)
    (e : dictI K d = some rows) : (d == sysModules) = false ∧ ∃ f : Int → Option Value, h.MapOf (PySem.intKind prog w) d f ∧
      (∀ k, rows.lookup k = none → f k = none) ∧ ∀ k is, rows.lookup k = some is → ∃ v, f k = some v ∧ tupI K v = some is := by
  unfold dictI at e
  split at e
  · rename_i es n sl hl
    split at e
    · rename_i hc
      rw [Bool.and_eq_true] at hc
      obtain ⟨c1, c2⟩ := hc
      obtain ⟨h1, h2, h3⟩ := rowsI_all e
      have c1 : sl = #[] := Array.isEmpty_iff.mp c1
      subst c1
      have same : ∀ k, findBy Value.isInt es k = ((es.toList.find? fun e => Value.isInt k e.key).map (·.val)) := by
        intro k
        obtain ⟨l⟩ := es
        unfold findBy
        rw [List.find?_toArray]
      refine ⟨by simpa using c2, fun k => findBy Value.isInt es k, ⟨_, es, n, kin _ _ hl, ⟨rfl, rfl, rfl⟩, rfl, fun x hx => ?_, fun k => rfl⟩, fun k z => ?_, fun k is z => ?_⟩
      · obtain ⟨k, t, ek, eh⟩ := h1 x (Array.mem_toList_iff.mpr hx)
        exact ⟨k, by rw [ek]; simp [PySem.intKind, Value.isInt], eh⟩
      · show findBy Value.isInt es k = none
        rw [same, h2 k z]
        rfl
      · obtain ⟨x, e1, e2⟩ := h3 k is z
        exact ⟨x.val, by show findBy Value.isInt es k = _; rw [same, e1]; rfl, e2⟩
    · cases e
  · cases e

section
variable {X : Cx}
/-- k not in d, of such a dict -/
def rNotInI (K : PySem.W.Frag) : R2 := fun x y H Q => ∃ (k : Int) (d : Addr) (rows : List (Int × List Int)),
  x = .int k ∧ y = .ref d ∧ dictI K d = some rows ∧ Q (.bl (!(rows.lookup k).isSome)) H
theorem op_notInI : OpR X (compareOp .NotIn) (rNotInI X.K) := by
  intro pins s σ H x y v u Q I rx ry h
  obtain ⟨k, d, rows, rfl, rfl, e, q⟩ := h
  obtain ⟨t, rfl⟩ := rx
  cases (show u = Value.ref d from ry)
  obtain ⟨low, f, hm, f1, f2⟩ := dictI_map (prog := X.prog) (w := X.w) I.kIn e
  refine wpAny_notIn_of (intKind_is X.prog X.w k t) low hm ?_
  have fe : (f k).isSome = (rows.lookup k).isSome := by
    cases z : rows.lookup k with
    | none =>
      rw [f1 k z]
      rfl
    | some is =>
      obtain ⟨v, e1, _⟩ := f2 k is z
      rw [e1]
      rfl
  rw [fe]
  exact ⟨.bl _, H, I.tok _, rfl, q⟩
/-- d[k]: the tuple that stands there -/
def rIxI (K : PySem.W.Frag) : R2 := fun x y H Q => ∃ (k : Int) (d : Addr) (rows : List (Int × List Int)) (is : List Int),
  x = .ref d ∧ y = .int k ∧ dictI K d = some rows ∧ rows.lookup k = some is ∧ is.length ≤ 1000 ∧ ∀ a, SqT K H a (is.map V.int) → Q (.ref a) H
theorem ix_int : IxR X (rIxI X.K) := by
  intro value slice pins s σ H x y v u Q I rx ry h hs
  obtain ⟨k, d, rows, is, rfl, rfl, e, l, few, q⟩ := h
  cases (show v = Value.ref d from rx)
  obtain ⟨t, rfl⟩ := ry
  obtain ⟨low, f, hm, f1, f2⟩ := dictI_map (prog := X.prog) (w := X.w) I.kIn e
  obtain ⟨v, e1, e2⟩ := f2 k is l
  obtain ⟨a, us, n, sl, rfl, ha, rv⟩ := tupI_some e2
  have size : us.size ≤ sizeLine := by
    have z := Paired.length rv
    rw [List.length_map] at z
    have z2 : us.toList.length = us.size := Array.length_toList
    rw [sizeLine_eq]
    omega
  refine tail_any hm.typeIs slot_dict_getitem.lookup (wpAny_getItem_of (intKind_is X.prog X.w k t) hm e1 ⟨.ref a, H, I.tok _, rfl, q a ?_⟩) hs
  exact .inr ⟨_, us, n, ha, rfl, rfl, size, rv⟩
end
end Gd

namespace K14
open PySem L2 Gd
def top (i : Nat) : Stmt := PySem.Challenge.pw_restcounts_k14_texts_of_sums_read.main.body.getD i (.Pass ⟨0, 0, 0, 0⟩)
abbrev sPen : Stmt := top 42
abbrev sDraw : Stmt := top 43
abbrev sPick : Stmt := top 44
/-! ### the law's pen: where drawn numbers come from -/
abbrev kC : Key := Sum.inr "cells"
abbrev kA : Key := Sum.inr "at"
abbrev kG : Key := Sum.inr "digits"
abbrev kN : Key := Sum.inr "count"
abbrev kF : Key := Sum.inr "fold"
theorem kne : (kA = kC) = False ∧ (kG = kC) = False ∧ (kN = kC) = False ∧ (kF = kC) = False ∧ (kC = kA) = False ∧ (kG = kA) = False ∧ (kN = kA) = False ∧ (kF = kA) = False ∧
    (kC = kG) = False ∧ (kA = kG) = False ∧ (kN = kG) = False ∧ (kF = kG) = False ∧ (kC = kN) = False ∧ (kA = kN) = False ∧ (kG = kN) = False ∧ (kF = kN) = False ∧
    (kC = kF) = False ∧ (kA = kF) = False ∧ (kG = kF) = False ∧ (kN = kF) = False := by
  refine ⟨?_, ?_, ?_, ?_, ?_, ?_, ?_, ?_, ?_, ?_, ?_, ?_, ?_, ?_, ?_, ?_, ?_, ?_, ?_, ?_⟩ <;> exact eq_false (by decide +kernel)
theorem putK_same {kvs : List (Key × V)} {k : Key} {v x : V} (h : valV kvs k = some x) : (putK kvs k v).length = kvs.length := by
  have e := valV_any k kvs
  rw [h, Option.isSome_some] at e
  unfold putK
  rw [if_pos e, List.length_map]
theorem dg {H : Hp} {a : Addr} {kvs : List (Key × V)} (k : Key) {v : V} (hd : H a = some (.dK kvs)) (h : valV kvs k = some v) : DGet H a (kV k) (some v) := h ▸ DGet.k hd
theorem five {n : Nat} (h : n ≤ 5) : n < sizeLine := small1000 (by omega)
theorem put_in {kvs : List (Key × V)} (k j : Key) (v : V) {x : V} (h : valV kvs j = some x) (ne : (j = k) = False) : valV (putK kvs k v) j = some x := by
  rw [valV_put, if_neg (by rw [ne]; exact id)]
  exact h
theorem put_at {kvs : List (Key × V)} (k : Key) (v : V) : valV (putK kvs k v) k = some v := by
  rw [valV_put, if_pos rfl]
/-- the pen at d, its cells at c; n draws were made -/
def Pen (H : Hp) (d c : Addr) (n : Int) : Prop := ∃ (kvs : List (Key × V)) (cs : List Int) (p g f : Int), H d = some (.dK kvs) ∧ H c = some (.lst (cs.map V.int)) ∧
  kvs.length ≤ 5 ∧ valV kvs kC = some (.ref c) ∧ valV kvs kA = some (.int p) ∧ valV kvs kG = some (.int g) ∧ valV kvs kN = some (.int n) ∧ valV kvs kF = some (.int f) ∧
  (0 ≤ p ∧ 0 ≤ g) ∧ (0 ≤ f ∧ f < 2147483648)
theorem Pen.ne {H : Hp} {d c : Addr} {n : Int} (h : Pen H d c n) : c ≠ d := by
  obtain ⟨kvs, cs, p, g, f, h1, h2, _⟩ := h
  exact ne_of h2 h1 (by intro z; cases z)
theorem Pen.keep {H H' : Hp} {d c : Addr} {n : Int} (h : Pen H d c n) (e1 : H' d = H d) (e2 : H' c = H c) : Pen H' d c n := by
  obtain ⟨kvs, cs, p, g, f, h1, h2, r⟩ := h
  exact ⟨kvs, cs, p, g, f, e1.trans h1, e2.trans h2, r⟩
theorem Pen.at {H : Hp} {d c : Addr} {n : Int} (h : Pen H d c n) : ∃ o, H d = some o := let ⟨_, _, _, _, _, h1, _⟩ := h; ⟨_, h1⟩
theorem Pen.atc {H : Hp} {d c : Addr} {n : Int} (h : Pen H d c n) : ∃ o, H c = some o := let ⟨_, _, _, _, _, _, h2, _⟩ := h; ⟨_, h2⟩
/-- new objects do not touch the pen -/
theorem Pen.upd {H : Hp} {d c p : Addr} {n : Int} {o : HO} (h : Pen H d c n) (hp : H p = none) : Pen (upd H p o) d c n := by
  obtain ⟨o1, h1⟩ := h.at
  obtain ⟨o2, h2⟩ := h.atc
  exact h.keep (upd_ne (ne_of_none h1 hp)) (upd_ne (ne_of_none h2 hp))
/-- what a draw leaves -/
structure Drawn (H H' : Hp) (d c : Addr) (n : Int) : Prop where
  pen : Pen H' d c n
  off : ∀ b, b ≠ d → H' b = H b
theorem Drawn.trans {H H1 H2 : Hp} {d c : Addr} {n m : Int} (a : Drawn H H1 d c n) (b : Drawn H1 H2 d c m) : Drawn H H2 d c m := ⟨b.pen, fun x hx => (b.off x hx).trans (a.off x hx)⟩
/-- one step: a number of the pen is put anew -/
theorem pen_put {H : Hp} {d c : Addr} {kvs : List (Key × V)} {k : Key} {v x : V} (hd : H d = some (.dK kvs)) (l : kvs.length ≤ 5) (h : valV kvs k = some x) :
    (upd H d (.dK (putK kvs k v))) d = some (.dK (putK kvs k v)) ∧ (putK kvs k v).length ≤ 5 := ⟨upd_same, by rw [putK_same h]; exact l⟩

def spDraw : Sp := fun vs H Q _ => ∃ (d c : Addr) (n m : Int), vs = [.ref d, .int m] ∧ Pen H d c n ∧ 0 < m ∧ m ≤ 1000000000 ∧ 0 ≤ n ∧ n < 1000000000 ∧
  ∀ (r : Int) (H' : Hp), 0 ≤ r → r < m → Drawn H H' d c (n + 1) → Q (.int r) H'
def spPen (K : PySem.W.Frag) : Sp := fun vs H Q _ => ∃ (a : Addr) (ns : List Int), vs = [.ref a] ∧ SqL K H a (ns.map V.int) ∧
  ∀ (H' : Hp) (d c : Addr), Pen H' d c 0 → (∀ b o, H b = some o → H' b = some o) → H d = none → Q (.ref d) H'
def spPick (K : PySem.W.Frag) : Sp := fun vs H Q _ => ∃ (d c a : Addr) (n : Int) (xs : List V), vs = [.ref d, .ref a] ∧ Pen H d c n ∧ H a = some (.lst xs) ∧ 0 < xs.length ∧ xs.length ≤ 1000 ∧ 0 ≤ n ∧ n < 1000000000 ∧
  ∀ (x : V) (H' : Hp), x ∈ xs → Drawn H H' d c (n + 1) → Q x H'
section
variable {P : Program} {w : World} {K : PySem.W.Frag} {mg : Str → Option Value} {base : Heap}
theorem scDraw : FnScope ["_law_pen_here", "_law_many", "_law_cell", "_law_digit", "_law_mixed"] ["_law_pen_here", "_law_many"] (defScope sDraw) := ⟨rfl, rfl, rfl, by decide +kernel, rfl, by decide +kernel, by decide +kernel⟩
theorem ok_draw {f : Addr} {fd : FuncData} (F : Fun K "_law_draw" "_law_draw" sDraw f fd) (mInt : mg "int" = none) (mLen : mg "len" = none) : FnOk P w K mg base CX0 1 f fd ["_law_pen_here", "_law_many"] spDraw := by
  refine F.ok scDraw (fun vs H Q E h => ?_) (fun cdv A outer s H vs Q E hr h => ?_)
  · obtain ⟨d, c, n, m, rfl, _⟩ := h
    rfl
  · obtain ⟨d, c, n, m, rfl, pen, m0, m1, n0, n1, k⟩ := h
    have hu := hu_of hr
    have ne := pen.ne
    obtain ⟨kvs, cs, p, g, f, hd, hc, hl, vC, vA, vG, vN, vF, ⟨p0, g0⟩, f0, f1⟩ := pen
    refine ⟨_, pss_cons (ps_dput hu (pv 0) pe_str (pe_op op_add (pe_dget hu (pv 0) pe_str (fun _ _ => rfl)) pe_int) rfl)
      (Evl.pss_cut (ps_if (PW.pt (pw_and (pt_cmpR op_eq (pe_dget hu (pv 0) pe_str (fun _ _ => rfl)) pe_int (nomark _))
            (pw_and1 (pt_cmpR op_lt (pe_dget hu (pv 0) pe_str (fun _ _ => rfl)) (pe_callB call_len_seq (by rfl) mLen PySem.boot_len (pa_cons (pe_dget hu (pv 0) pe_str (fun _ _ => rfl)) pa_nil)) (nomark _)))))
          (pss_cons (ps_set (i := 2) scDraw.nd rfl (Or.inl rfl) (pe_ix ix_list (pe_dget hu (pv 0) pe_str (fun _ _ => rfl)) (pe_dget hu (pv 0) pe_str (fun _ _ => rfl)) (fun _ _ => rfl)))
          (pss_cons (ps_dput hu (pv 0) pe_str (pe_op op_add (pe_dget hu (pv 0) pe_str (fun _ _ => rfl)) pe_int) rfl)
          (pss_one (ps_if (pt_cmpR op_ge (pv 2) (pe_op op_pow pe_int pe_int) (nomark _))
            (pss_one (ps_dput hu (pv 0) pe_str (pe_op op_sub (pv 2) (pe_op op_pow pe_int pe_int)) rfl))
            (pss_one (ps_dput hu (pv 0) pe_str (pe_op op_mod (pe_callTy call_int1 (by rfl) mInt (by decide +kernel) (pa_cons (pe_op op_add (pe_op op_mul (pe_dget hu (pv 0) pe_str (fun _ _ => rfl)) pe_int) (pv 2)) pa_nil)) pe_int) rfl))))))
          pss_nil)
      (pss_cons (ps_if (pt_cmpR op_gt (pe_dget hu (pv 0) pe_str (fun _ _ => rfl)) pe_int (nomark _))
          (pss_cons (ps_set (i := 3) scDraw.nd rfl (Or.inl rfl) (pe_op op_mod (pe_callTy call_int1 (by rfl) mInt (by decide +kernel) (pa_cons (pe_dget hu (pv 0) pe_str (fun _ _ => rfl)) pa_nil)) (pv 1)))
          (pss_cons (ps_dput hu (pv 0) pe_str (pe_op op_fdiv (pe_dget hu (pv 0) pe_str (fun _ _ => rfl)) (pv 1)) rfl)
          (pss_one (ps_ret (pv 3)))))
          pss_nil)
      (pss_cons (ps_set (i := 4) scDraw.nd rfl (Or.inl rfl) (pe_op op_add (pe_op op_add (pe_dget hu (pv 0) pe_str (fun _ _ => rfl)) (pe_op op_mul (pe_dget hu (pv 0) pe_str (fun _ _ => rfl)) pe_int)) pe_int))
      (pss_one (ps_ret (pe_op op_mod (pe_op op_fdiv (pe_callTy call_int1 (by rfl) mInt (by decide +kernel) (pa_cons (pe_op op_mod (pe_op op_pow (pv 4) pe_int) pe_int) pa_nil)) pe_int) (pv 1))))))), ?_⟩
    -- pen['count'] = pen['count'] + 1
    obtain ⟨ac, gc, nc, fc, ca, ga, na, fa, cg, ag, ng, fg, cn, an, gn, fn, cf, af, gf, nf⟩ := kne
    have l1 : (putK kvs kN (V.int (n + 1))).length ≤ 5 := by rw [putK_same vN]; exact hl
    have vC1 := put_in kN kC (V.int (n + 1)) vC cn
    have vA1 := put_in kN kA (V.int (n + 1)) vA an
    have vG1 := put_in kN kG (V.int (n + 1)) vG gn
    have vF1 := put_in kN kF (V.int (n + 1)) vF fn
    have vN1 : valV (putK kvs kN (V.int (n + 1))) kN = some (V.int (n + 1)) := put_at kN _
    refine ⟨_, rfl, d, _, rfl, dg kN hd vN, _, _, rfl, rfl, _, rfl, d, _, rfl, DPut.k (k := kN) hd (five hl), ?_⟩
    have hc1 : ∀ o, (L2.upd H d o) c = some (.lst (cs.map V.int)) := fun o => by rw [upd_ne ne]; exact hc
    generalize putK kvs kN (V.int (n + 1)) = kvs1 at *
    clear vC vA vG vN vF
    -- behind the if: a heap that differs at the pen alone
    refine ⟨fun σ' H' => ∃ (kvs : List (Key × V)) (p g f : Int) (z : Option V), σ' = [some (.ref d), some (.int m), z, none, none] ∧ H' d = some (.dK kvs) ∧ (∀ b, b ≠ d → H' b = H b) ∧
      kvs.length ≤ 5 ∧ valV kvs kC = some (.ref c) ∧ valV kvs kA = some (.int p) ∧ valV kvs kG = some (.int g) ∧ valV kvs kN = some (.int (n + 1)) ∧ valV kvs kF = some (.int f) ∧
      (0 ≤ p ∧ 0 ≤ g) ∧ (0 ≤ f ∧ f < 2147483648), ?_, ?_⟩
    · have mid : ∀ (z : Option V) (kvs2 : List (Key × V)) (H2 : Hp) (p g f : Int), H2 d = some (.dK kvs2) → (∀ b, b ≠ d → H2 b = H b) → kvs2.length ≤ 5 → valV kvs2 kC = some (.ref c) → valV kvs2 kA = some (.int p) →
          valV kvs2 kG = some (.int g) → valV kvs2 kN = some (.int (n + 1)) → valV kvs2 kF = some (.int f) → (0 ≤ p ∧ 0 ≤ g) → (0 ≤ f ∧ f < 2147483648) →
          ∃ (kvs : List (Key × V)) (p g f : Int) (z' : Option V), [some (V.ref d), some (V.int m), z, none, none] = [some (V.ref d), some (V.int m), z', none, none] ∧ H2 d = some (.dK kvs) ∧ (∀ b, b ≠ d → H2 b = H b) ∧
            kvs.length ≤ 5 ∧ valV kvs kC = some (.ref c) ∧ valV kvs kA = some (.int p) ∧ valV kvs kG = some (.int g) ∧ valV kvs kN = some (.int (n + 1)) ∧ valV kvs kF = some (.int f) ∧ (0 ≤ p ∧ 0 ≤ g) ∧ (0 ≤ f ∧ f < 2147483648) :=
        fun z kvs2 H2 p g f a1 a2 a3 a4 a5 a6 a7 a8 a9 a10 => ⟨kvs2, p, g, f, z, rfl, a1, a2, a3, a4, a5, a6, a7, a8, a9, a10⟩
      have off : ∀ o b, b ≠ d → (L2.upd H d o) b = H b := fun o b hb => upd_ne hb
      refine ⟨_, rfl, d, _, rfl, dg kG upd_same vG1, rfl, _, rfl, ite2 (fun _ => ?_) (fun _ => ?_)⟩
      · refine ⟨_, rfl, d, _, rfl, dg kA upd_same vA1, _, rfl, d, _, rfl, dg kC upd_same vC1, c, _, rfl, .inl (SqL.of (hc1 _)), _, _, rfl, rfl, _, rfl, ite2 (fun hlt => ?_) (fun _ => ?_)⟩
        · have hlt := of_decide_eq_true hlt
          rw [List.length_map] at hlt
          have hp : p.toNat < cs.length := by omega
          have hat : (cs.map V.int)[p.toNat]? = some (V.int cs[p.toNat]) := by rw [List.getElem?_map, List.getElem?_eq_getElem hp]; rfl
          refine ⟨_, rfl, d, _, rfl, dg kC upd_same vC1, _, rfl, d, _, rfl, dg kA upd_same vA1, c, _, _, _, rfl, rfl, SqL.of (hc1 _), at_of (by omega) hat, ?_⟩
          generalize cs[p.toNat] = x
          -- pen['at'] = pen['at'] + 1
          have l2 : (putK kvs1 kA (V.int (p + 1))).length ≤ 5 := by rw [putK_same vA1]; exact l1
          have vC2 := put_in kA kC (V.int (p + 1)) vC1 ca
          have vG2 := put_in kA kG (V.int (p + 1)) vG1 ga
          have vF2 := put_in kA kF (V.int (p + 1)) vF1 fa
          have vN2 := put_in kA kN (V.int (p + 1)) vN1 na
          have vA2 : valV (putK kvs1 kA (V.int (p + 1))) kA = some (V.int (p + 1)) := put_at kA _
          refine ⟨_, rfl, d, _, rfl, dg kA upd_same vA1, _, _, rfl, rfl, _, rfl, d, _, rfl, DPut.k (k := kA) upd_same (five l1), ?_⟩
          rw [upd_upd]
          generalize putK kvs1 kA (V.int (p + 1)) = kvs2 at *
          refine ⟨_, rfl, _, _, rfl, rfl, ⟨by decide, by decide, by decide⟩, _, _, rfl, rfl, _, rfl, ite2 (fun hge => ?_) (fun _ => ?_)⟩
          · have hge := of_decide_eq_true hge
            refine ⟨_, rfl, _, _, rfl, rfl, ⟨by decide, by decide, by decide⟩, _, _, rfl, rfl, _, rfl, d, _, rfl, DPut.k (k := kG) upd_same (five l2), ?_⟩
            rw [upd_upd]
            have e10 : (10 : Int) ^ (18 : Int).toNat = 1000000000000000000 := by decide
            exact mid _ _ _ (p + 1) _ f upd_same (off _) (by rw [putK_same vG2]; exact l2) (put_in kG kC _ vC2 cg) (put_in kG kA _ vA2 ag) (put_at kG _) (put_in kG kN _ vN2 ng) (put_in kG kF _ vF2 fg) ⟨by omega, by omega⟩ ⟨f0, f1⟩
          · refine ⟨_, rfl, d, _, rfl, dg kF upd_same vF2, _, _, rfl, rfl, .inl ⟨by omega, by omega⟩, _, rfl, _, _, rfl, rfl, .inl ⟨_, rfl, _, _, rfl, rfl, (by show (0 : Int) < 2147483587; decide), _, rfl, d, _, rfl, DPut.k (k := kF) upd_same (five l2), ?_⟩⟩
            rw [upd_upd]
            exact mid _ _ _ (p + 1) g _ upd_same (off _) (by rw [putK_same vF2]; exact l2) (put_in kF kC _ vC2 cf) (put_in kF kA _ vA2 af) (put_in kF kG _ vG2 gf) (put_in kF kN _ vN2 nf) (put_at kF _) ⟨by omega, by omega⟩ ⟨by omega, by omega⟩
        · exact mid _ _ _ p g f upd_same (off _) l1 vC1 vA1 vG1 vN1 vF1 ⟨p0, g0⟩ ⟨f0, f1⟩
      · refine iteF ?_
        exact mid _ _ _ p g f upd_same (off _) l1 vC1 vA1 vG1 vN1 vF1 ⟨p0, g0⟩ ⟨f0, f1⟩
    · clear vC1 vA1 vG1 vF1 vN1 l1 hc1 p0 g0 f0 f1 hl hd
      rintro σ' H2 ⟨kvs2, p2, g2, f2, z, rfl, hd2, off, l2, vC2, vA2, vG2, vN2, vF2, ⟨p0, g0⟩, f0, f1⟩
      have hc2 : H2 c = some (.lst (cs.map V.int)) := (off c ne).trans hc
      have m30 : m < 1073741824 := by omega
      refine ⟨_, rfl, d, _, rfl, dg kG hd2 vG2, _, _, rfl, rfl, _, rfl, ite2 (fun hgt => ?_) (fun _ => ?_)⟩
      · refine ⟨_, rfl, d, _, rfl, dg kG hd2 vG2, .inl ⟨_, rfl, _, rfl, _, _, rfl, rfl, m0, ?_⟩⟩
        refine ⟨_, rfl, d, _, rfl, dg kG hd2 vG2, _, rfl, _, _, rfl, rfl, ⟨m0, m30⟩, _, rfl, d, _, rfl, DPut.k (k := kG) hd2 (five l2), _, rfl, ?_⟩
        have q0 : 0 ≤ g2 / m := Int.ediv_nonneg g0 (by omega)
        refine k _ _ (Int.emod_nonneg _ (by omega)) (Int.emod_lt_of_pos _ m0) ⟨⟨_, cs, p2, g2 / m, f2, upd_same, by rw [upd_ne ne]; exact hc2, by rw [putK_same vG2]; exact l2, put_in kG kC _ vC2 cg, put_in kG kA _ vA2 ag, put_at kG _, put_in kG kN _ vN2 ng, put_in kG kF _ vF2 fg, ⟨p0, q0⟩, f0, f1⟩, fun b hb => by rw [upd_ne hb]; exact off b hb⟩
      · refine ⟨_, rfl, d, _, rfl, dg kF hd2 vF2, _, rfl, d, _, rfl, dg kN hd2 vN2, _, _, rfl, rfl, .inr ⟨by decide, by decide⟩, _, _, rfl, rfl, _, _, rfl, rfl, ?_⟩
        refine ⟨_, rfl, _, _, rfl, rfl, ⟨by decide, by decide, by omega⟩, _, _, rfl, rfl, (by show (0 : Int) < 2305843009213693951; decide), .inl ⟨_, rfl, _, _, rfl, rfl, ⟨by decide, by decide⟩, _, rfl, _, _, rfl, rfl, m0, ?_⟩⟩
        exact k _ _ (Int.emod_nonneg _ (by omega)) (Int.emod_lt_of_pos _ m0) ⟨⟨kvs2, cs, p2, g2, f2, hd2, hc2, l2, vC2, vA2, vG2, vN2, vF2, ⟨p0, g0⟩, f0, f1⟩, off⟩

theorem scPen : FnScope ["_law_script", "_law_fold", "_law_cell"] ["_law_script"] (defScope sPen) := ⟨rfl, rfl, rfl, by decide +kernel, rfl, by decide +kernel, by decide +kernel⟩
theorem ok_pen {f : Addr} {fd : FuncData} (F : Fun K "_law_pen" "_law_pen" sPen f fd) (mInt : mg "int" = none) (mLst : mg "list" = none) : FnOk P w K mg base CX0 1 f fd ["_law_script"] (spPen K) := by
  refine F.ok scPen (fun vs H Q E h => ?_) (fun cdv A outer s H vs Q E hr h => ?_)
  · obtain ⟨a, ns, rfl, _⟩ := h
    rfl
  · obtain ⟨a, ns, rfl, hS, k⟩ := h
    refine ⟨_, pss_cons (ps_set (i := 1) scPen.nd rfl (Or.inl rfl) pe_int)
      (pss_cons (ps_for PassesOwn.never rfl (pi_list (pv 0)) (pg_name (i := 2) scPen.nd rfl (Or.inl rfl))
        (pss_one (ps_set (i := 1) scPen.nd rfl (Or.inl rfl) (pe_op op_mod (pe_callTy call_int1 (by rfl) mInt (by decide +kernel) (pa_cons (pe_op op_add (pe_op op_mul (pv 1) pe_int) (pv 2)) pa_nil)) pe_int))))
      (pss_one (ps_ret (pe_disp (pps_cons pe_str (pe_callTy call_list_of (by rfl) mLst (by decide +kernel) (pa_cons (pv 0) pa_nil))
        (pps_cons pe_str pe_int (pps_cons pe_str pe_int (pps_cons pe_str pe_int (pps_cons pe_str (pv 1) pps_nil))))) rfl rfl (by simp) (by decide))))), ?_⟩
    refine ⟨_, rfl, a, rfl, ⟨_, hS⟩, for_list (K := K) (a := a) (xs := ns.map V.int) (fun _ σ H2 => ∃ (f : Int) (v : Option V), σ = [some (.ref a), some (.int f), v] ∧ H2 = H ∧ 0 ≤ f ∧ f < 1000000007)
      ⟨0, none, rfl, rfl, by decide, by decide⟩ (fun i σ H2 _ ⟨_, _, _, e, _⟩ => e ▸ hS) ?_ ?_⟩
    · rintro i y σ H2 hi ⟨f, v, rfl, rfl, f0, f1⟩
      obtain ⟨z, rfl⟩ : ∃ z, y = V.int z := by
        rw [List.getElem?_map] at hi
        cases e : ns[i]? with
        | none => rw [e] at hi; cases hi
        | some z => rw [e] at hi; exact ⟨z, (Option.some.inj hi).symm⟩
      refine ⟨_, rfl, _, _, rfl, rfl, .inl ⟨by omega, by omega⟩, _, rfl, _, _, rfl, rfl, .inl ⟨_, rfl, _, _, rfl, rfl, (by show (0 : Int) < 1000000007; decide), ?_⟩⟩
      exact ⟨_, _, rfl, rfl, Int.emod_nonneg _ (by decide), Int.emod_lt_of_pos _ (by decide)⟩
    · rintro σ H2 ⟨f, v, rfl, rfl, f0, f1⟩
      intro d hd
      have hS1 : SqL K (L2.upd H2 d (.dK [])) a (ns.map V.int) := Same.seq (fun b o e => by rw [upd_ne (ne_of_none e hd)]; exact e) hS
      refine ⟨_, rfl, a, _, rfl, .inl hS1, fun c hc => ?_⟩
      have ncd : c ≠ d := fun e => by
        rw [e, upd_same] at hc
        cases hc
      have hc0 : H2 c = none := by rw [upd_ne ncd] at hc; exact hc
      refine ⟨_, rfl, by rw [upd_ne ncd.symm, upd_same], [(kC, .ref c), (kA, .int 0), (kG, .int 0), (kN, .int 0), (kF, .int f)], rfl, (by show 5 ≤ 15; decide), ?_⟩
      have lm := length_mergeK [(kC, V.ref c), (kA, .int 0), (kG, .int 0), (kN, .int 0), (kF, .int f)] []
      obtain ⟨ac, gc, nc, fc, ca, ga, na, fa, cg, ag, ng, fg, cn, an, gn, fn, cf, af, gf, nf⟩ := kne
      have em : mergeK [] [(kC, V.ref c), (kA, .int 0), (kG, .int 0), (kN, .int 0), (kF, .int f)] = putK (putK (putK (putK (putK [] kC (.ref c)) kA (.int 0)) kG (.int 0)) kN (.int 0)) kF (.int f) := rfl
      have v1 : valV (mergeK [] [(kC, V.ref c), (kA, .int 0), (kG, .int 0), (kN, .int 0), (kF, .int f)]) kC = some (.ref c) := by
        rw [em]; exact put_in _ _ _ (put_in _ _ _ (put_in _ _ _ (put_in _ _ _ (put_at _ _) ca) cg) cn) cf
      have v2 : valV (mergeK [] [(kC, V.ref c), (kA, .int 0), (kG, .int 0), (kN, .int 0), (kF, .int f)]) kA = some (.int 0) := by
        rw [em]; exact put_in _ _ _ (put_in _ _ _ (put_in _ _ _ (put_at _ _) ag) an) af
      have v3 : valV (mergeK [] [(kC, V.ref c), (kA, .int 0), (kG, .int 0), (kN, .int 0), (kF, .int f)]) kG = some (.int 0) := by
        rw [em]; exact put_in _ _ _ (put_in _ _ _ (put_at _ _) gn) gf
      have v4 : valV (mergeK [] [(kC, V.ref c), (kA, .int 0), (kG, .int 0), (kN, .int 0), (kF, .int f)]) kN = some (.int 0) := by
        rw [em]; exact put_in _ _ _ (put_at _ _) nf
      have v5 : valV (mergeK [] [(kC, V.ref c), (kA, .int 0), (kG, .int 0), (kN, .int 0), (kF, .int f)]) kF = some (.int f) := by
        rw [em]; exact put_at _ _
      have l5 : (mergeK [] [(kC, V.ref c), (kA, .int 0), (kG, .int 0), (kN, .int 0), (kF, .int f)]).length ≤ 5 := lm
      refine k _ d c ⟨_, ns, 0, 0, f, upd_same, by rw [upd_ne ncd, upd_same], l5, v1, v2, v3, v4, v5, by decide, f0, by omega⟩ (fun b o e => ?_) hd
      rw [upd_ne (ne_of_none e hd), upd_ne (ne_of_none e hc0), upd_ne (ne_of_none e hd)]
      exact e
theorem scPick : FnScope ["_law_pen_here", "_law_some"] ["_law_pen_here", "_law_some"] (defScope sPick) := ⟨rfl, rfl, rfl, by decide +kernel, rfl, by decide +kernel, by decide +kernel⟩
theorem ok_pick {f fD : Addr} {fd fdD : FuncData} (F : Fun K "_law_pick" "_law_pick" sPick f fd) (FD : Fun K "_law_draw" "_law_draw" sDraw fD fdD) (bD : Binds K fdD ["_law_pen_here", "_law_many"] []) (mD : mg "_law_draw" = some (.ref fD))
    (mInt : mg "int" = none) (mLen : mg "len" = none) : FnOk P w K mg base CX0 2 f fd ["_law_pen_here", "_law_some"] (spPick K) := by
  have GD : FnOk P w K mg base CX0 1 fD fdD ["_law_pen_here", "_law_many"] spDraw := ok_draw FD mInt mLen
  refine F.ok scPick (fun vs H Q E h => ?_) (fun cdv A outer s H vs Q E hr h => ?_)
  · obtain ⟨d, c, a, n, xs, rfl, _⟩ := h
    rfl
  · obtain ⟨d, c, a, n, xs, rfl, pen, ha, x0, x1, n0, n1, k⟩ := h
    refine ⟨_, pss_one (ps_ret (pe_ix ix_list (pv 1) (pe_call GD hr rfl mD FD.kp bD .nil pass0 (pa_cons (pv 0) (pa_cons (pe_callB call_len_seq (by rfl) mLen PySem.boot_len (pa_cons (pv 1) pa_nil)) pa_nil))) (fun _ _ => rfl))), ?_⟩
    refine ⟨_, rfl, _, rfl, _, rfl, a, _, rfl, .inl (SqL.of ha), d, c, n, _, rfl, pen, by omega, by omega, n0, n1, fun r H' r0 r1 dr => ?_⟩
    have nda : a ≠ d := fun e => by
      obtain ⟨kvs, cs, p, g, f, h1, _⟩ := pen
      rw [e, h1] at ha
      cases ha
    have hr : r.toNat < xs.length := by omega
    refine ⟨a, _, _, _, rfl, rfl, SqL.of ((dr.off a nda).trans ha), at_of (j := r.toNat) (by omega) (List.getElem?_eq_getElem hr), ?_⟩
    exact k _ _ (List.getElem_mem hr) dr
end
/-! ### the errors -/
/-- what an __init__ that keeps its arguments as fields does -/
def spIni (C : Addr) (fs : List Str) : Sp := fun vs H Q _ => ∃ (a : Addr) (ys : List V), vs = .ref a :: ys ∧ ys.length = fs.length ∧ H a = some (exo a C none) ∧
  ∀ (H' : Hp) (dx : Addr), H dx = none → dx ≠ a → (∀ b, b ≠ a → b ≠ dx → H' b = H b) → H' a = some (exo a C (some dx)) → H' dx = some (exd dx (fs.zip ys).reverse) → Q .non H'
section
variable {P : Program} {w : World} {K : PySem.W.Frag} {mg : Str → Option Value} {base : Heap}
abbrev sBadRow : Stmt := inClass (top 10) 0
theorem scBadRow : FnScope ["self", "row"] ["self", "row"] (defScope sBadRow) := ⟨rfl, rfl, rfl, by decide +kernel, rfl, by decide +kernel, by decide +kernel⟩
theorem okBadRow {f C : Addr} {fd : FuncData} (F : Fun K "__init__" "BadRow.__init__" sBadRow f fd) (T : OexC K C) (no : ∀ g ∈ (["row"] : List Str), PySem.W.findIn K (.ref C) g = some none) : FnOk P w K mg base CX0 1 f fd ["self", "row"] (spIni C ["row"]) := by
  refine F.ok scBadRow (fun vs H Q E h => ?_) (fun cdv A outer s H vs Q E hr h => ?_)
  · obtain ⟨a, ys, rfl, hl, _⟩ := h
    show ys.length + 1 = _
    rw [hl]
    rfl
  · obtain ⟨a, ys, rfl, hl, ha, k⟩ := h
    match ys, hl with
    | [y0], _ =>
    refine ⟨_, pss_one (ps_ost (pv 0) (pv 1)), ?_⟩
    refine ⟨_, rfl, _, rfl, a, C, rfl, T, no _ (.head _), .inl ⟨ha, fun dx hdx ne => ?_⟩⟩
    refine k _ dx hdx ne (fun b hb hd => ?_) ?_ ?_
    · rw [upd_ne hb, upd_ne hd]
    · exact upd_same
    · rw [upd_ne ne, upd_same]; rfl
end
end K14

namespace K14
open PySem L2 Gd
/-! ### kinds of values -/
def offInt : List String := ["bool", "NoneType", "str", "list", "tuple", "dict"]
theorem off_int : ∀ n ∈ offInt, kitB n "int" = some (decide (n = "bool")) ∧ kitB n "bool" = some (decide (n = "bool")) := by decide +kernel
theorem on_int : kitB "int" "int" = some true ∧ kitB "int" "bool" = some false := by decide +kernel
/-- no int at all, or a bool -/
def NoInt (K : PySem.W.Frag) (H : Hp) (x : V) : Prop := ∃ n, n ∈ offInt ∧ TyX K H x (.type n)
theorem tyMore {K : PySem.W.Frag} {H H' : Hp} {x : V} {n : String} (e : ∀ b o, H b = some o → H' b = some o) (t : TyX K H x (.type n)) : TyX K H' x (.type n) := by
  cases t with
  | base t =>
    refine .base ?_
    cases t with
    | non => exact .non
    | bl b => exact .bl b
    | int i => exact .int i
    | str z => exact .str z
    | flt z => exact .flt z
    | lst h => exact .lst (e _ _ h)
    | frz h => exact .frz (e _ _ h)
    | tup h => exact .tup (e _ _ h)
    | dK h => exact .dK (e _ _ h)
    | dT h => exact .dT (e _ _ h)
  | byt b => exact .byt b
  | set h => exact .set (e _ _ h)
  | kList h c => exact .kList h c
  | kTuple h c => exact .kTuple h c
  | kDict h c => exact .kDict h c
  | fTuple h => exact .fTuple (e _ _ h)
  | fDict h => exact .fDict (e _ _ h)
theorem NoInt.more {K : PySem.W.Frag} {H H' : Hp} {x : V} (e : ∀ b o, H b = some o → H' b = some o) (h : NoInt K H x) : NoInt K H' x :=
  let ⟨n, m, t⟩ := h; ⟨n, m, tyMore e t⟩
def spIsI (K : PySem.W.Frag) : Sp := fun vs H Q _ => ∃ x, vs = [x] ∧ ((∃ i, x = .int i ∧ Q (.bl true) H) ∨ (NoInt K H x ∧ Q (.bl false) H) ∨ ∃ t, TyX K H x t ∧ PySem.W.kitOne K t (.type "int") = some false ∧ Q (.bl false) H)
section
variable {P : Program} {w : World} {K : PySem.W.Frag} {mg : Str → Option Value} {base : Heap}
abbrev sIsI : Stmt := top 12
theorem scIsI : FnScope ["value"] ["value"] (defScope sIsI) := ⟨rfl, rfl, rfl, by decide +kernel, rfl, by decide +kernel, by decide +kernel⟩
theorem ok_isI {f : Addr} {fd : FuncData} (F : Fun K "is_integer" "is_integer" sIsI f fd) (mIsi : mg "isinstance" = none) (mInt : mg "int" = none) (mBool : mg "bool" = none) : FnOk P w K mg base CX0 1 f fd ["value"] (spIsI K) := by
  refine F.ok scIsI (fun vs H Q E h => ?_) (fun cdv A outer s H vs Q E hr h => ?_)
  · obtain ⟨x, rfl, _⟩ := h
    rfl
  · obtain ⟨x, rfl, h⟩ := h
    refine ⟨_, pss_one (ps_ret (pe_and (pe_callB call_isi (by rfl) mIsi (by decide +kernel) (pa_cons (pv 0) (pa_cons (pe_bltn (v := .ty "int") rfl mInt (by decide +kernel) rfl) pa_nil)))
      (pe_one (pe_not (pe_callB call_isi (by rfl) mIsi (by decide +kernel) (pa_cons (pv 0) (pa_cons (pe_bltn (v := .ty "bool") rfl mBool (by decide +kernel) rfl) pa_nil))))))), ?_⟩
    obtain ⟨i, rfl, q⟩ | ⟨⟨n, hn, t⟩, q⟩ | ⟨t, ty, kt, q⟩ := h
    · refine ⟨_, rfl, _, _, _, _, _, rfl, .ty "int", .base (.int i), kit_ty on_int.1, _, rfl, iteT ?_⟩
      exact ⟨_, rfl, _, _, _, _, _, rfl, .ty "bool", .base (.int i), kit_ty on_int.2, _, rfl, q⟩
    · obtain ⟨k1, k2⟩ := off_int n hn
      refine ⟨_, rfl, _, _, _, _, _, rfl, .ty "int", t, kit_ty k1, _, rfl, ite2 (fun z => ?_) (fun z => q)⟩
      refine ⟨_, rfl, _, _, _, _, _, rfl, .ty "bool", t, kit_ty k2, _, rfl, ?_⟩
      rw [z]
      exact q
    · exact ⟨_, rfl, _, _, _, _, _, rfl, .ty "int", ty, kt, _, rfl, iteF q⟩
end
theorem pi_or {X : Cx} {tg it : Expr} {u v : TI} (a : PI X tg it u) (b : PI X tg it v) : PI X tg it (fun σ H R => u σ H R ∨ v σ H R) where
  run := by
    rintro pins s σ H R I (h | h)
    · exact a.run pins s σ H R I h
    · exact b.run pins s σ H R I h
theorem sqT_more {K : PySem.W.Frag} {H H' : Hp} {a : Addr} {xs : List V} (e : ∀ b o, H b = some o → H' b = some o) : SqT K H a xs → SqT K H' a xs
  | .inl (.inl h) => .inl (.inl (e _ _ h))
  | .inl (.inr ⟨o, h⟩) => .inl (.inr ⟨o, e _ _ h⟩)
  | .inr h => .inr h
/-- a list or a tuple of xs -/
def Sq (K : PySem.W.Frag) (H : Hp) (a : Addr) (xs : List V) : Prop := SqL K H a xs ∨ SqT K H a xs
theorem Sq.more {K : PySem.W.Frag} {H H' : Hp} {a : Addr} {xs : List V} (e : ∀ b o, H b = some o → H' b = some o) : Sq K H a xs → Sq K H' a xs
  | .inl h => .inl (Same.seq e h)
  | .inr h => .inr (sqT_more e h)
/-! ### errors of the program -/
structure Er (K : PySem.W.Frag) (mg : Str → Option Value) (x q : Str) (C fI : Addr) (fs : List Str) (st : Stmt) (fd : FuncData) : Prop where
  T : OexC K C
  iC : PySem.W.findIn K (.ref C) "__init__" = some (some (.ref fI))
  tI : PySem.W.typeIn K (.ref fI) = some (.type "function")
  fn : Fun K "__init__" q st fI fd
  b : Binds K fd ("self" :: fs) []
  no : ∀ g ∈ fs, PySem.W.findIn K (.ref C) g = some none
  g : mg x = some (.ref C)
theorem mk_ini {C : Addr} {fs : List Str} {vs : List V} {H1 : Hp} {Q : XK} (hl : vs.length = fs.length) (h9 : vs.length ≤ 900)
    (h : ∀ d, H1 d = none → Q (.ref C) (some d) (upd H1 d (.xd (fs.zip vs).reverse))) : vs.length ≤ 1000 ∧ ∀ a, H1 a = none →
      spIni C fs (.ref a :: (vs ++ [])) (upd H1 a (exo a C none)) (fun v H2 => v = .non ∧ ∃ (d : Addr) (fs' : List (Str × V)), H2 a = some (exo a C (some d)) ∧
        H2 d = some (exd d fs') ∧ H1 d = none ∧ Q (.ref C) (some d) (upd (del H2 a) d (.xd fs'))) (fun _ _ _ => False) := by
  refine ⟨by omega, fun a ha => ⟨a, vs, by rw [List.append_nil], hl, upd_same, fun H' dx hdx ne off e1 e2 => ⟨rfl, dx, _, e1, e2, ?_, ?_⟩⟩⟩
  · rw [upd_ne ne] at hdx
    exact hdx
  · rw [upd_ne ne] at hdx
    have same : upd (del H' a) dx (.xd (fs.zip vs).reverse) = upd H1 dx (.xd (fs.zip vs).reverse) := by
      funext b
      by_cases q : b = dx
      · subst q
        rw [upd_same, upd_same]
      · rw [upd_ne q, upd_ne q]
        by_cases z : b = a
        · subst z
          rw [del_same, ha]
        · rw [del_ne z, off b z q, upd_ne z]
    rw [same]
    exact h dx hdx
def RRow (CR : Addr) (x : V) (H : Hp) (E : XK) : Prop := ∀ d, H d = none → E (.ref CR) (some d) (upd H d (.xd [("row", x)]))
section
variable {P : Program} {w : World} {K : PySem.W.Frag} {mg : Str → Option Value} {base : Heap}
/-- a def of the text -/
structure Cl (K : PySem.W.Frag) (mg : Str → Option Value) (x : Str) (st : Stmt) (ps : List Str) (f : Addr) (fd : FuncData) : Prop where
  fn : Fun K x x st f fd
  b : Binds K fd ps []
  g : mg x = some (.ref f)
theorem Cl.k {x : Str} {st : Stmt} {ps : List Str} {f : Addr} {fd : FuncData} (h : Cl K mg x st ps f fd) : PySem.W.keepIn K (.ref f) = true := h.fn.kp
structure Blt (mg : Str → Option Value) : Prop where
  int_ : mg "int" = none
  bool_ : mg "bool" = none
  tup_ : mg "tuple" = none
  len_ : mg "len" = none
  list_ : mg "list" = none
  range_ : mg "range" = none
  isi_ : mg "isinstance" = none
  repr_ : mg "repr" = none
  all_ : mg "all" = none
  divmod_ : mg "divmod" = none
  rev_ : mg "reversed" = none
end
abbrev More (H H' : Hp) : Prop := ∀ b o, H b = some o → H' b = some o
theorem More.new {H H' : Hp} {p : Addr} {o : HO} (m : More H H') (hp : H' p = none) : More H (upd H' p o) := fun b u e => by
  rw [upd_ne (ne_of_none (m b u e) hp)]
  exact m b u e
theorem More.at {H H' : Hp} {p : Addr} {o : HO} (m : More H H') (hp : H p = none) : More H (upd H' p o) := fun b u e => by
  rw [upd_ne (ne_of_none e hp)]
  exact m b u e
theorem More.off {H H' : Hp} {p : Addr} (m : More H H') (hp : H' p = none) : H p = none := by
  cases e : H p with
  | none => rfl
  | some o =>
    rw [m p o e] at hp
    cases hp
/-! ### sequences of integers -/
def isI : V → Bool
  | .int _ => true
  | _ => false
theorem noInt_isI {K : PySem.W.Frag} {H : Hp} {y : V} (h : NoInt K H y) : isI y = false := by
  obtain ⟨n, hn, t⟩ := h
  cases y with
  | int i =>
    cases t with
    | base t =>
      cases t
      exact absurd hn (by decide)
  | _ => rfl
theorem tyL {K : PySem.W.Frag} {H : Hp} {a : Addr} {xs : List V} : SqL K H a xs → TyX K H (.ref a) (.type "list")
  | .inl (.inl h) => .base (.lst h)
  | .inl (.inr ⟨o, h⟩) => .base (.frz h)
  | .inr ⟨o, its, n, h, c, _⟩ => .kList h c
theorem tyT {K : PySem.W.Frag} {H : Hp} {a : Addr} {xs : List V} : SqT K H a xs → TyX K H (.ref a) (.type "tuple")
  | .inl (.inl h) => .base (.tup h)
  | .inl (.inr ⟨o, h⟩) => .fTuple h
  | .inr ⟨o, its, n, h, c, _⟩ => .kTuple h c
def noSeq : List String := ["int", "bool", "NoneType", "str", "dict"]
theorem seq_no : ∀ n ∈ noSeq, kitB n "tuple" = some false ∧ kitB n "list" = some false := by decide +kernel
theorem seq_yes : kitB "tuple" "tuple" = some true ∧ kitB "list" "tuple" = some false ∧ kitB "list" "list" = some true := by decide +kernel
def spIsIs (K : PySem.W.Frag) : Sp := fun vs H Q _ => ∃ x, vs = [x] ∧
  ((∃ n, n ∈ noSeq ∧ TyX K H x (.type n) ∧ ∀ H', More H H' → Q (.bl false) H') ∨
    ∃ a xs, x = .ref a ∧ Sq K H a xs ∧ xs.length ≤ 1000 ∧ (∀ y ∈ xs, (∃ i, y = .int i) ∨ NoInt K H y) ∧ ∀ H', More H H' → Q (.bl (xs.all isI)) H')
theorem take_snoc {α : Type} {l : List α} {i : Nat} {x : α} (h : l[i]? = some x) : l.take (i + 1) = l.take i ++ [x] := by
  rw [List.take_succ, h]
  rfl
section
variable {P : Program} {w : World} {K : PySem.W.Frag} {mg : Str → Option Value} {base : Heap}
variable {fI f : Addr} {fdI fd : FuncData}
abbrev sIsIs : Stmt := top 13
theorem scIsIs : FnScope ["value", "item"] ["value"] (defScope sIsIs) := ⟨rfl, rfl, rfl, by decide +kernel, rfl, by decide +kernel, by decide +kernel⟩
theorem ok_isIs (F : Fun K "is_integers" "is_integers" sIsIs f fd) (B : Blt mg) (I : Cl K mg "is_integer" sIsI ["value"] fI fdI) :
    FnOk P w K mg base CX0 2 f fd ["value"] (spIsIs K) := by
  have GI : FnOk P w K mg base CX0 1 fI fdI ["value"] (spIsI K) := ok_isI I.fn B.isi_ B.int_ B.bool_
  refine F.ok scIsIs (fun vs H Q E h => ?_) (fun cdv A outer s H vs Q E hr h => ?_)
  · obtain ⟨x, rfl, _⟩ := h
    rfl
  · obtain ⟨x, rfl, h⟩ := h
    refine ⟨_, pss_one (ps_ret (pe_and (pe_callB call_isiT (by rfl) B.isi_ (by decide +kernel) (pa_cons (pv 0) (pa_cons (pe_tup (pa_cons (pe_bltn (v := .ty "tuple") rfl B.tup_ (by decide +kernel) rfl)
        (pa_cons (pe_bltn (v := .ty "list") rfl B.list_ (by decide +kernel) rfl) pa_nil))) pa_nil)))
      (pe_one (pe_callB (cr_all rfl) (by rfl) B.all_ (by decide +kernel) (pa_cons (pe_lc (own := [("item", 1)]) (g := gName 1) (tt := tYes) rfl scIsIs.nd (pi_or (pi_list (pv 0)) (pi_tup (pv 0)))
        (blkOk_by (N := ["value", "item"]) (sc := defScope sIsIs) (by decide +kernel))
        (fun _ _ _ _ _ => pg_name (i := 1) scIsIs.nd rfl (Or.inl rfl)) (fun _ _ _ _ _ => pts_nil)
        (fun _ _ _ _ _ => pe_call GI hr rfl I.g I.k I.b .nil pass0 (pa_cons (pv 1) pa_nil))) pa_nil))))), ?_⟩
    refine ⟨_, rfl, (by show 2 ≤ sizeLine; decide), fun t ht => ?_⟩
    have m1 : More H (upd H t (.tup [.ty "tuple", .ty "list"])) := More.new (fun _ _ e => e) ht
    obtain ⟨n, hn, ty, q⟩ | ⟨a, xs, rfl, sq, few, all, q⟩ := h
    · obtain ⟨k1, k2⟩ := seq_no n hn
      refine ⟨_, t, _, _, _, false, rfl, upd_same, .cons (.ty "tuple") (.cons (.ty "list") .nil), tyMore m1 ty, kitAny_cons (kit_ty k1) (fun _ => kitAny_cons (kit_ty k2) (fun _ => kitAny_nil) (fun z => nomatch z)) (fun z => nomatch z), _, rfl, iteF ?_⟩
      exact q _ m1
    · have yes : ∃ n, TyX K H (.ref a) (.type n) ∧ PySem.W.kitAny K (.type n) [.type "tuple", .type "list"] = some true := by
        obtain h | h := sq
        · exact ⟨_, tyL h, kitAny_cons (kit_ty seq_yes.2.1) (fun _ => kitAny_cons (kit_ty seq_yes.2.2) (fun z => nomatch z) (fun _ => rfl)) (fun z => nomatch z)⟩
        · exact ⟨_, tyT h, kitAny_cons (kit_ty seq_yes.1) (fun z => nomatch z) (fun _ => rfl)⟩
      obtain ⟨n, ty, ka⟩ := yes
      refine ⟨_, t, _, _, _, true, rfl, upd_same, .cons (.ty "tuple") (.cons (.ty "list") .nil), tyMore m1 ty, ka, _, rfl, iteT ?_⟩
      have sq1 := Sq.more m1 sq
      generalize upd H t (.tup [.ty "tuple", .ty "list"]) = H1 at m1 sq1 ⊢
      have body : ∀ (J : It) (G : Hp → Prop), Walk J xs.length G (YAt xs) → (∀ H', More H1 H' → G H') → ∀ L, H1 L = none → _ :=
        fun J G wk hG L hL => lc_it (w := wk) (vs := [1]) (g := gName 1) (tt := tYes) (σ := [some (.ref a), none]) (D := L) (H1 := H1)
          (te := tCall (spIsI K) [] (fun _ _ _ => False) (tCons (tVar 1) tNil))
          (Qd := fun H' => ∃ (b : Addr) (bs : List Bool), [V.ref L] = [V.ref b] ∧ SqL K H' b (bs.map V.bl) ∧ Q (.bl (bs.all id)) H')
          (fun i H' => H' L = some (.lst ((xs.take i).map fun y => V.bl (isI y))) ∧ More H1 H') ⟨upd_same, More.new (fun _ _ e => e) hL⟩ (fun i H' _ h => hG H' h.2)
          (fun i y H2 H3 hi ⟨e1, m2⟩ ⟨eH, hy⟩ => by
            subst eH
            have la : ((xs.take i).map fun y => V.bl (isI y)).length < sizeLine := by
              rw [List.length_map, List.length_take]
              exact small1000 (by omega)
            have fin : ∀ b, isI y = b → ∃ acc, H3 L = some (.lst acc) ∧ acc.length < sizeLine ∧ (upd H3 L (.lst (acc ++ [V.bl b]))) L = some (.lst ((xs.take (i + 1)).map fun y => V.bl (isI y))) ∧ More H1 (upd H3 L (.lst (acc ++ [V.bl b]))) := by
              intro b hb
              refine ⟨_, e1, la, ?_, m2.at hL⟩
              rw [upd_same, take_snoc hy, List.map_append, List.map_cons, List.map_nil, hb]
            refine ⟨rfl, _, rfl, y, rfl, ?_⟩
            obtain ⟨z, rfl⟩ | no := all y (List.mem_of_getElem? hy)
            · exact .inl ⟨z, rfl, fin _ rfl⟩
            · exact .inr (.inl ⟨no.more fun b o e => m2 b o (m1 b o e), fin _ (noInt_isI no)⟩))
          (fun H' ⟨e1, m2⟩ => by
            rw [List.take_length] at e1
            refine ⟨L, xs.map isI, rfl, SqL.of (by rw [List.map_map]; exact e1), ?_⟩
            have : ((xs.map isI).all id) = xs.all isI := by rw [List.all_map]; rfl
            rw [this]
            exact q _ fun b o e => m2 b o (m1 b o e))
      obtain h | h := sq1
      · exact .inl ⟨_, rfl, a, rfl, ⟨xs, h⟩, body _ _ walk_list fun H' m => Same.seq m h⟩
      · exact .inr ⟨_, rfl, a, rfl, ⟨xs, h⟩, body _ _ walk_tup fun H' m => sqT_more m h⟩
end
end K14

namespace K14
open PySem L2 Gd
/-! ### terms of a sum -/
def NoSq (K : PySem.W.Frag) (H : Hp) (x : V) : Prop := ∃ n, n ∈ noSeq ∧ TyX K H x (.type n)
theorem NoSq.more {K : PySem.W.Frag} {H H' : Hp} {x : V} (e : ∀ b o, H b = some o → H' b = some o) (h : NoSq K H x) : NoSq K H' x := let ⟨n, m, t⟩ := h; ⟨n, m, tyMore e t⟩
def Its (K : PySem.W.Frag) (H : Hp) (ys : List V) : Prop := ys.length ≤ 1000 ∧ ∀ y ∈ ys, (∃ i, y = .int i) ∨ NoInt K H y
theorem Its.more {K : PySem.W.Frag} {H H' : Hp} {ys : List V} (e : ∀ b o, H b = some o → H' b = some o) (h : Its K H ys) : Its K H' ys := ⟨h.1, fun y hy => (h.2 y hy).imp id fun z => z.more e⟩
theorem Its.ints {K : PySem.W.Frag} {H : Hp} {ds : List Int} (h : ds.length ≤ 1000) : Its K H (ds.map V.int) := ⟨by rw [List.length_map]; exact h, fun y hy => by
  obtain ⟨d, _, rfl⟩ := List.mem_map.mp hy
  exact .inl ⟨d, rfl⟩⟩
def spRow (K : PySem.W.Frag) : Sp := fun vs H Q _ => ∃ (x : V) (n : Int), vs = [x, .int n] ∧
  ((NoSq K H x ∧ ∀ H', More H H' → Q (.bl false) H') ∨ ∃ a xs, x = .ref a ∧ Sq K H a xs ∧ Its K H xs ∧ ∀ H', More H H' → Q (.bl (xs.all isI && decide (((xs.length : Nat) : Int) = n))) H')
/-- a list, or a tuple that is tracked itself -/
def Sk (K : PySem.W.Frag) (H : Hp) (b : Addr) (xs : List V) : Prop := SqL K H b xs ∨ H b = some (.tup xs)
theorem Sk.sq {K : PySem.W.Frag} {H : Hp} {b : Addr} {xs : List V} : Sk K H b xs → Sq K H b xs
  | .inl h => .inl h
  | .inr h => .inr (SqT.of h)
theorem Sk.more {K : PySem.W.Frag} {H H' : Hp} {b : Addr} {xs : List V} (e : ∀ b o, H b = some o → H' b = some o) : Sk K H b xs → Sk K H' b xs
  | .inl h => .inl (Same.seq e h)
  | .inr h => .inr (e _ _ h)
def Trm (K : PySem.W.Frag) (H : Hp) (x : V) (ds : List Int) (n : Int) : Prop := ∃ a b, x = .ref a ∧ Sq K H a [.ref b, .int n] ∧ Sk K H b (ds.map V.int) ∧ ds.length = 3
def NoTrm (K : PySem.W.Frag) (H : Hp) (x : V) : Prop := NoSq K H x ∨ (∃ a xs, x = .ref a ∧ Sq K H a xs ∧ xs.length ≠ 2 ∧ xs.length ≤ 1000) ∨
  ∃ a u v, x = .ref a ∧ Sq K H a [u, v] ∧ (NoSq K H u ∨ ∃ b ys, u = .ref b ∧ Sq K H b ys ∧ Its K H ys ∧ ((ys.all isI && decide (((ys.length : Nat) : Int) = 3)) = false ∨ NoInt K H v))
theorem Trm.more {K : PySem.W.Frag} {H H' : Hp} {x : V} {ds : List Int} {n : Int} (e : ∀ b o, H b = some o → H' b = some o) (h : Trm K H x ds n) : Trm K H' x ds n :=
  let ⟨a, b, r, s1, s2, l⟩ := h; ⟨a, b, r, s1.more e, s2.more e, l⟩
theorem NoTrm.more {K : PySem.W.Frag} {H H' : Hp} {x : V} (e : ∀ b o, H b = some o → H' b = some o) (h : NoTrm K H x) : NoTrm K H' x := by
  obtain h | ⟨a, xs, r, s, l⟩ | ⟨a, u, v, r, s, h⟩ := h
  · exact .inl (h.more e)
  · exact .inr (.inl ⟨a, xs, r, s.more e, l⟩)
  · refine .inr (.inr ⟨a, u, v, r, s.more e, ?_⟩)
    obtain h | ⟨b, ys, r, s, i, h⟩ := h
    · exact .inl (h.more e)
    · exact .inr ⟨b, ys, r, s.more e, i.more e, h.imp id fun z => z.more e⟩
def spTerm (K : PySem.W.Frag) : Sp := fun vs H Q _ => ∃ x : V, vs = [x] ∧
  ((∃ ds n, Trm K H x ds n ∧ ∀ H', More H H' → Q (.bl true) H') ∨ (NoTrm K H x ∧ ∀ H', More H H' → Q (.bl false) H'))
theorem deI {i j : Int} : decide (V.int i = V.int j) = decide (i = j) := by simp only [V.int.injEq]
theorem ix_any {K : PySem.W.Frag} {H : Hp} {a : Addr} {xs : List V} {j : Nat} {i : Int} {v : V} {Q : VK} (s : Sq K H a xs) (e : i = (j : Int)) (h : xs[j]? = some v) (q : Q v H) : rIx K (.ref a) (.int i) H Q := by
  obtain s | s := s
  · exact .inl ⟨a, xs, i, v, rfl, rfl, s, at_of e h, q⟩
  · exact .inr (.inl ⟨a, xs, i, v, rfl, rfl, s, at_of e h, q⟩)
theorem isI_all (ds : List Int) : (ds.map V.int).all isI = true := by
  rw [List.all_map, List.all_eq_true]
  intro d _
  rfl
theorem sq_len {K : PySem.W.Frag} {H : Hp} {a : Addr} {xs : List V} (s : Sq K H a xs) : SqL K H a xs ∨ SqT K H a xs := s
section
variable {P : Program} {w : World} {K : PySem.W.Frag} {mg : Str → Option Value} {base : Heap}
variable {fI fS fR f : Addr} {fdI fdS fdR fd : FuncData}
abbrev sRow : Stmt := top 14
abbrev sTerm : Stmt := top 33
theorem scRow : FnScope ["value", "width"] ["value", "width"] (defScope sRow) := ⟨rfl, rfl, rfl, by decide +kernel, rfl, by decide +kernel, by decide +kernel⟩
theorem scTerm : FnScope ["item"] ["item"] (defScope sTerm) := ⟨rfl, rfl, rfl, by decide +kernel, rfl, by decide +kernel, by decide +kernel⟩
theorem ok_row (F : Fun K "is_row" "is_row" sRow f fd) (B : Blt mg) (I : Cl K mg "is_integer" sIsI ["value"] fI fdI) (S : Cl K mg "is_integers" sIsIs ["value"] fS fdS) :
    FnOk P w K mg base CX0 3 f fd ["value", "width"] (spRow K) := by
  have GS : FnOk P w K mg base CX0 2 fS fdS ["value"] (spIsIs K) := ok_isIs S.fn B I
  refine F.ok scRow (fun vs H Q E h => ?_) (fun cdv A outer s H vs Q E hr h => ?_)
  · obtain ⟨x, n, rfl, _⟩ := h
    rfl
  · obtain ⟨x, n, rfl, h⟩ := h
    refine ⟨_, pss_one (ps_ret (pe_and (pe_call GS hr rfl S.g S.k S.b .nil pass0 (pa_cons (pv 0) pa_nil))
      (pe_one (pe_cmpR op_eq (pe_callB call_len_seq (by rfl) B.len_ PySem.boot_len (pa_cons (pv 0) pa_nil)) (pv 1) (nomark _))))), ?_⟩
    obtain ⟨⟨m, hm, t⟩, q⟩ | ⟨a, xs, rfl, s, i, q⟩ := h
    · exact ⟨_, rfl, x, rfl, .inl ⟨m, hm, t, fun H' mo => ⟨_, rfl, iteF (q H' mo)⟩⟩⟩
    · refine ⟨_, rfl, _, rfl, .inr ⟨a, xs, rfl, s, i.1, i.2, fun H' mo => ⟨_, rfl, ?_⟩⟩⟩
      have q := q H' mo
      cases e : xs.all isI with
      | false =>
        rw [e] at q
        exact iteF q
      | true =>
        rw [e] at q
        exact iteT ⟨_, rfl, a, _, rfl, s.more mo, _, rfl, rfl, by rw [deI]; exact q⟩
theorem ok_term (F : Fun K "is_term" "is_term" sTerm f fd) (B : Blt mg) (I : Cl K mg "is_integer" sIsI ["value"] fI fdI) (S : Cl K mg "is_integers" sIsIs ["value"] fS fdS) (R : Cl K mg "is_row" sRow ["value", "width"] fR fdR) :
    FnOk P w K mg base CX0 4 f fd ["item"] (spTerm K) := by
  have GI : FnOk P w K mg base CX0 1 fI fdI ["value"] (spIsI K) := ok_isI I.fn B.isi_ B.int_ B.bool_
  have GR : FnOk P w K mg base CX0 3 fR fdR ["value", "width"] (spRow K) := ok_row R.fn B I S
  refine F.ok scTerm (fun vs H Q E h => ?_) (fun cdv A outer s H vs Q E hr h => ?_)
  · obtain ⟨x, rfl, _⟩ := h
    rfl
  · obtain ⟨x, rfl, h⟩ := h
    refine ⟨_, pss_one (ps_ret (pe_and (pe_callB call_isiT (by rfl) B.isi_ (by decide +kernel) (pa_cons (pv 0) (pa_cons (pe_tup (pa_cons (pe_bltn (v := .ty "tuple") rfl B.tup_ (by decide +kernel) rfl)
        (pa_cons (pe_bltn (v := .ty "list") rfl B.list_ (by decide +kernel) rfl) pa_nil))) pa_nil)))
      (pe_and (pe_cmpR op_eq (pe_callB call_len_seq (by rfl) B.len_ PySem.boot_len (pa_cons (pv 0) pa_nil)) pe_int (nomark _))
      (pe_and (pe_call GR hr rfl R.g R.k R.b .nil pass0 (pa_cons (pe_ix ix_seq (pv 0) pe_int (fun _ _ => rfl)) (pa_cons pe_int pa_nil)))
      (pe_one (pe_call GI (hr.mono (by decide)) rfl I.g I.k I.b .nil pass0 (pa_cons (pe_ix ix_seq (pv 0) pe_int (fun _ _ => rfl)) pa_nil))))))), ?_⟩
    refine ⟨_, rfl, (by show 2 ≤ sizeLine; decide), fun t ht => ?_⟩
    have m1 : More H (upd H t (.tup [.ty "tuple", .ty "list"])) := More.new (fun _ _ e => e) ht
    have yes : ∀ (a : Addr) (xs : List V), Sq K H a xs → ∃ n, TyX K H (.ref a) (.type n) ∧ PySem.W.kitAny K (.type n) [.type "tuple", .type "list"] = some true := by
      rintro a xs (h | h)
      · exact ⟨_, tyL h, kitAny_cons (kit_ty seq_yes.2.1) (fun _ => kitAny_cons (kit_ty seq_yes.2.2) (fun z => nomatch z) (fun _ => rfl)) (fun z => nomatch z)⟩
      · exact ⟨_, tyT h, kitAny_cons (kit_ty seq_yes.1) (fun z => nomatch z) (fun _ => rfl)⟩
    obtain ⟨ds, n, ⟨a, b, rfl, s1, s2, l3⟩, q⟩ | ⟨h, q⟩ := h
    · obtain ⟨n', ty, ka⟩ := yes a _ s1
      refine ⟨_, t, _, _, _, true, rfl, upd_same, .cons (.ty "tuple") (.cons (.ty "list") .nil), tyMore m1 ty, ka, _, rfl, iteT ?_⟩
      refine ⟨_, rfl, a, _, rfl, s1.more m1, rfl, _, rfl, iteT ?_⟩
      refine ⟨_, rfl, ix_any (s1.more m1) rfl (j := 0) rfl ⟨.ref b, 3, rfl, .inr ⟨b, _, rfl, s2.sq.more m1, Its.ints (by omega), fun H' mo => ⟨_, rfl, ?_⟩⟩⟩⟩
      have mo' : More H H' := fun c o e => mo c o (m1 c o e)
      rw [isI_all, List.length_map, l3]
      exact iteT ⟨_, rfl, ix_any (s1.more mo') rfl (j := 1) rfl ⟨.int n, rfl, .inl ⟨n, rfl, q _ mo'⟩⟩⟩
    · have two : ∀ (a : Addr) (xs : List V), x = .ref a → Sq K H a xs → xs.length = 2 → ∃ u v, xs = [u, v] := by
        intro a xs _ _ l
        match xs, l with
        | [u, v], _ => exact ⟨u, v, rfl⟩
      obtain ⟨n, hn, ty⟩ | ⟨a, xs, rfl, s1, l2, _⟩ | ⟨a, u, v, rfl, s1, h⟩ := h
      · obtain ⟨k1, k2⟩ := seq_no n hn
        exact ⟨_, t, _, _, _, false, rfl, upd_same, .cons (.ty "tuple") (.cons (.ty "list") .nil), tyMore m1 ty, kitAny_cons (kit_ty k1) (fun _ => kitAny_cons (kit_ty k2) (fun _ => kitAny_nil) (fun z => nomatch z)) (fun z => nomatch z), _, rfl, iteF (q _ m1)⟩
      · obtain ⟨n', ty, ka⟩ := yes a _ s1
        refine ⟨_, t, _, _, _, true, rfl, upd_same, .cons (.ty "tuple") (.cons (.ty "list") .nil), tyMore m1 ty, ka, _, rfl, iteT ?_⟩
        refine ⟨_, rfl, a, _, rfl, s1.more m1, rfl, _, rfl, ?_⟩
        rw [deI, decide_eq_false (by omega)]
        exact iteF (q _ m1)
      · obtain ⟨n', ty, ka⟩ := yes a _ s1
        refine ⟨_, t, _, _, _, true, rfl, upd_same, .cons (.ty "tuple") (.cons (.ty "list") .nil), tyMore m1 ty, ka, _, rfl, iteT ?_⟩
        refine ⟨_, rfl, a, _, rfl, s1.more m1, rfl, _, rfl, iteT ?_⟩
        obtain nu | ⟨b, ys, rfl, s2, it, h⟩ := h
        · refine ⟨_, rfl, ix_any (s1.more m1) rfl (j := 0) rfl ⟨u, 3, rfl, .inl ⟨nu.more m1, fun H' mo => ⟨_, rfl, iteF (q _ fun c o e => mo c o (m1 c o e))⟩⟩⟩⟩
        · refine ⟨_, rfl, ix_any (s1.more m1) rfl (j := 0) rfl ⟨.ref b, 3, rfl, .inr ⟨b, ys, rfl, s2.more m1, it.more m1, fun H' mo => ⟨_, rfl, ?_⟩⟩⟩⟩
          have mo' : More H H' := fun c o e => mo c o (m1 c o e)
          cases e : (ys.all isI && decide (((ys.length : Nat) : Int) = 3)) with
          | false => exact iteF (q _ mo')
          | true =>
            rw [e] at h
            obtain z | nv := h
            · cases z
            · exact iteT ⟨_, rfl, ix_any (s1.more mo') rfl (j := 1) rfl ⟨v, rfl, .inr (.inl ⟨nv.more mo', q _ mo'⟩)⟩⟩
end
end K14

namespace Ply
open PySem L2
abbrev Po := List (List Int × Int)
def kI (l : List Int) : List Key := l.map Sum.inl
theorem kI_V (l : List Int) : (kI l).map kV = l.map V.int := by
  unfold kI
  rw [List.map_map]
  rfl
theorem kI_inj {a b : List Int} (h : kI a = kI b) : a = b := by
  have z : ∀ a b : List Int, a.map (Sum.inl : Int → Key) = b.map Sum.inl → a = b := by
    intro a
    induction a with
    | nil =>
      intro b h
      cases b with
      | nil => rfl
      | cons y b => cases h
    | cons x a ih =>
      intro b h
      cases b with
      | nil => cases h
      | cons y b =>
        rw [List.map_cons, List.map_cons] at h
        obtain ⟨h1, h2⟩ := List.cons.inj h
        rw [Sum.inl.inj h1, ih b h2]
  exact z a b h
def dk (p : Po) : List (List Key × V) := p.map fun e => (kI e.1, V.int e.2)
def look (p : Po) (k : List Int) : Option Int := (p.find? fun e => decide (e.1 = k)).map (·.2)
def val (p : Po) (k : List Int) : Int := (look p k).getD 0
def put (p : Po) (k : List Int) (n : Int) : Po := if (p.any fun e => decide (e.1 = k)) = true then p.map (fun e => if e.1 = k then (e.1, n) else e) else p ++ [(k, n)]
def ks (p : Po) : List (List Int) := p.map (·.1)
theorem dec_kI (a b : List Int) : decide (kI a = kI b) = decide (a = b) := by
  by_cases h : a = b
  · rw [h, decide_eq_true rfl, decide_eq_true rfl]
  · rw [decide_eq_false h, decide_eq_false fun z => h (kI_inj z)]
theorem look_cons (e : List Int × Int) (p : Po) (k : List Int) : look (e :: p) k = if e.1 = k then some e.2 else look p k := by
  unfold look
  by_cases h : e.1 = k
  · rw [List.find?_cons_of_pos (by simpa using h), if_pos h]
    rfl
  · rw [List.find?_cons_of_neg (by simpa using h), if_neg h]
theorem valV_dk (p : Po) (k : List Int) : valV (dk p) (kI k) = (look p k).map V.int := by
  induction p with
  | nil => rfl
  | cons e p ih =>
    rw [look_cons]
    unfold dk valV at *
    rw [List.map_cons]
    by_cases h : e.1 = k
    · rw [List.find?_cons_of_pos (by rw [dec_kI]; simpa using h), if_pos h]
      rfl
    · rw [List.find?_cons_of_neg (by rw [dec_kI]; simpa using h), if_neg h]
      exact ih
theorem putK_dk (p : Po) (k : List Int) (n : Int) : putK (dk p) (kI k) (.int n) = dk (put p k n) := by
  have ha : ((dk p).any fun kv => decide (kv.1 = kI k)) = p.any fun e => decide (e.1 = k) := by
    unfold dk
    rw [List.any_map]
    congr 1
    funext e
    exact dec_kI e.1 k
  unfold putK put
  rw [ha]
  by_cases h : (p.any fun e => decide (e.1 = k)) = true
  · rw [if_pos h, if_pos h]
    unfold dk
    rw [List.map_map, List.map_map]
    congr 1
    funext e
    by_cases g : e.1 = k
    · show (if kI e.1 = kI k then _ else _) = (kI (if e.1 = k then (e.1, n) else e).1, V.int (if e.1 = k then (e.1, n) else e).2)
      rw [if_pos (by rw [g]), if_pos g]
    · show (if kI e.1 = kI k then _ else _) = (kI (if e.1 = k then (e.1, n) else e).1, V.int (if e.1 = k then (e.1, n) else e).2)
      rw [if_neg (fun z => g (kI_inj z)), if_neg g]
  · rw [if_neg h, if_neg h]
    unfold dk
    rw [List.map_append]
    rfl
theorem any_look (p : Po) (k : List Int) : (p.any fun e => decide (e.1 = k)) = (look p k).isSome := by
  induction p with
  | nil => rfl
  | cons e p ih =>
    rw [look_cons, List.any_cons, ih]
    by_cases h : e.1 = k
    · rw [if_pos h, decide_eq_true h]; rfl
    · rw [if_neg h, decide_eq_false h]; rfl
theorem look_put (p : Po) (k j : List Int) (n : Int) : look (put p k n) j = if j = k then some n else look p j := by
  unfold put
  by_cases h : (p.any fun e => decide (e.1 = k)) = true
  · rw [if_pos h]
    rw [any_look] at h
    have z : ∀ p : Po, look (p.map fun e => if e.1 = k then (e.1, n) else e) j = if j = k then (look p k).map (fun _ => n) else look p j := by
      intro p
      induction p with
      | nil => by_cases e : j = k <;> simp [e, look]
      | cons e p ih =>
        rw [List.map_cons, look_cons, ih, look_cons, look_cons]
        by_cases g : e.1 = k
        · rw [if_pos g]
          by_cases q : j = k
          · subst q
            rw [if_pos rfl]
            simp [g]
          · rw [if_neg q]
            have : ¬ e.1 = j := fun z => q (z.symm.trans g)
            rw [if_neg this]
            simp [q]
            intro z
            exact absurd z this
        · rw [if_neg g]
          by_cases q : j = k
          · subst q
            rw [if_pos rfl, if_neg g]
            simp [g]
          · rw [if_neg q, if_neg q]
    rw [z]
    by_cases q : j = k
    · rw [if_pos q, if_pos q]
      obtain ⟨v, hv⟩ := Option.isSome_iff_exists.mp h
      rw [hv]
      rfl
    · rw [if_neg q, if_neg q]
  · rw [if_neg h]
    rw [any_look, Bool.not_eq_true] at h
    have z : ∀ p : Po, look p k = none → look (p ++ [(k, n)]) j = if j = k then some n else look p j := by
      intro p
      induction p with
      | nil =>
        intro _
        rw [List.nil_append, look_cons]
        by_cases q : j = k
        · rw [if_pos q, if_pos q.symm]
        · rw [if_neg q, if_neg fun z => q z.symm]
      | cons e p ih =>
        intro hn
        rw [look_cons] at hn
        have g : ¬ e.1 = k := fun z => by rw [if_pos z] at hn; cases hn
        rw [if_neg g] at hn
        rw [List.cons_append, look_cons, look_cons, ih hn]
        by_cases q : j = k
        · rw [if_pos q, if_pos q, if_neg (by rw [q]; exact g)]
        · rw [if_neg q, if_neg q]
    exact z p (by cases e : look p k with | none => rfl | some v => rw [e] at h; cases h)
theorem val_put (p : Po) (k j : List Int) (n : Int) : val (put p k n) j = if j = k then n else val p j := by
  unfold val
  rw [look_put]
  by_cases q : j = k
  · rw [if_pos q, if_pos q]; rfl
  · rw [if_neg q, if_neg q]
theorem mem_ks (p : Po) (k : List Int) : k ∈ ks p ↔ (look p k).isSome = true := by
  rw [← any_look, List.any_eq_true]
  unfold ks
  rw [List.mem_map]
  constructor
  · rintro ⟨e, h, rfl⟩
    exact ⟨e, h, decide_eq_true rfl⟩
  · rintro ⟨e, h, g⟩
    exact ⟨e, h, of_decide_eq_true g⟩
theorem ks_put (p : Po) (k : List Int) (n : Int) : ks (put p k n) = if k ∈ ks p then ks p else ks p ++ [k] := by
  have h : (k ∈ ks p) ↔ (p.any fun e => decide (e.1 = k)) = true := by rw [mem_ks, any_look]
  unfold put
  by_cases g : (p.any fun e => decide (e.1 = k)) = true
  · rw [if_pos g, if_pos (h.mpr g)]
    unfold ks
    rw [List.map_map]
    congr 1
    funext e
    show (if e.1 = k then (e.1, n) else e).1 = e.1
    by_cases q : e.1 = k
    · rw [if_pos q]
    · rw [if_neg q]
  · rw [if_neg g, if_neg fun z => g (h.mp z)]
    unfold ks
    rw [List.map_append]
    rfl
theorem nodup_put {p : Po} (h : (ks p).Nodup) (k : List Int) (n : Int) : (ks (put p k n)).Nodup := by
  rw [ks_put]
  by_cases g : k ∈ ks p
  · rw [if_pos g]; exact h
  · rw [if_neg g, List.nodup_append]
    exact ⟨h, by simp, fun a ha b hb e => by
      rw [List.mem_singleton] at hb
      exact g (hb ▸ e ▸ ha)⟩
theorem len_put (p : Po) (k : List Int) (n : Int) : (put p k n).length ≤ p.length + 1 := by
  unfold put
  by_cases g : (p.any fun e => decide (e.1 = k)) = true
  · rw [if_pos g, List.length_map]; omega
  · rw [if_neg g, List.length_append]; exact Nat.le_refl _
theorem mem_put {p : Po} {k : List Int} {n : Int} {e : List Int × Int} (h : e ∈ put p k n) : e = (k, n) ∨ e ∈ p := by
  unfold put at h
  by_cases g : (p.any fun e => decide (e.1 = k)) = true
  · rw [if_pos g] at h
    obtain ⟨x, hx, rfl⟩ := List.mem_map.mp h
    by_cases q : x.1 = k
    · rw [if_pos q, q]; exact .inl rfl
    · rw [if_neg q]; exact .inr hx
  · rw [if_neg g, List.mem_append, List.mem_singleton] at h
    exact h.symm
theorem look_mem {p : Po} {k : List Int} {n : Int} (h : look p k = some n) : (k, n) ∈ p := by
  unfold look at h
  cases e : (p.find? fun e => decide (e.1 = k)) with
  | none => rw [e] at h; cases h
  | some x =>
    rw [e] at h
    cases h
    have := List.find?_some e
    have m := List.mem_of_find?_eq_some e
    rw [of_decide_eq_true this |>.symm]
    exact m
theorem look_at {p : Po} (h : (ks p).Nodup) {e : List Int × Int} (he : e ∈ p) : look p e.1 = some e.2 := by
  induction p with
  | nil => cases he
  | cons x p ih =>
    rw [look_cons]
    unfold ks at h
    rw [List.map_cons, List.nodup_cons] at h
    rcases List.mem_cons.mp he with rfl | he
    · rw [if_pos rfl]
    · rw [if_neg fun z => h.1 (List.mem_map.mpr ⟨e, he, z.symm⟩)]
      exact ih h.2 he
theorem val_at {p : Po} (h : (ks p).Nodup) {e : List Int × Int} (he : e ∈ p) : val p e.1 = e.2 := by
  unfold val
  rw [look_at h he]
  rfl
theorem val_off {p : Po} {k : List Int} (h : val p k ≠ 0) : k ∈ ks p := by
  rw [mem_ks]
  unfold val at h
  cases e : look p k with
  | none => rw [e] at h; exact absurd rfl h
  | some v => rfl
/-! ### sums of terms -/
def tot : Po → List Int → Int
  | [], _ => 0
  | e :: r, k => (if e.1 = k then e.2 else 0) + tot r k
def accum (p : Po) : Po → Po
  | [] => p
  | e :: r => accum (put p e.1 (val p e.1 + e.2)) r
theorem accum_snoc (p l : Po) (e : List Int × Int) : accum p (l ++ [e]) = put (accum p l) e.1 (val (accum p l) e.1 + e.2) := by
  induction l generalizing p with
  | nil => rfl
  | cons x l ih => exact ih _
theorem val_accum (p l : Po) (k : List Int) : val (accum p l) k = val p k + tot l k := by
  induction l generalizing p with
  | nil => show val p k = val p k + 0; omega
  | cons e l ih =>
    show val (accum (put p e.1 (val p e.1 + e.2)) l) k = val p k + ((if e.1 = k then e.2 else 0) + tot l k)
    rw [ih, val_put]
    by_cases q : e.1 = k
    · rw [if_pos q.symm, if_pos q, q]; omega
    · rw [if_neg fun z => q z.symm, if_neg q]; omega
theorem nodup_accum {p : Po} (h : (ks p).Nodup) (l : Po) : (ks (accum p l)).Nodup := by
  induction l generalizing p with
  | nil => exact h
  | cons e l ih => exact ih (nodup_put h _ _)
theorem len_accum (p l : Po) : (accum p l).length ≤ p.length + l.length := by
  induction l generalizing p with
  | nil => exact Nat.le_refl _
  | cons e l ih =>
    have h1 := ih (p := put p e.1 (val p e.1 + e.2))
    have h2 := len_put p e.1 (val p e.1 + e.2)
    show (accum (put p e.1 (val p e.1 + e.2)) l).length ≤ _
    rw [List.length_cons]
    omega
theorem tot_append (a b : Po) (k : List Int) : tot (a ++ b) k = tot a k + tot b k := by
  induction a with
  | nil => show tot b k = 0 + tot b k; omega
  | cons e a ih =>
    show (if e.1 = k then e.2 else 0) + tot (a ++ b) k = _ + tot a k + tot b k
    rw [ih]; omega
theorem tot_perm {a b : Po} (h : a.Perm b) (k : List Int) : tot a k = tot b k := by
  induction h with
  | nil => rfl
  | cons e _ ih => show _ + _ = _ + _; rw [ih]
  | swap x y l => show _ + (_ + _) = _ + (_ + _); omega
  | trans _ _ h1 h2 => exact h1.trans h2
theorem tot_val {p : Po} (h : (ks p).Nodup) (k : List Int) : tot p k = val p k := by
  induction p with
  | nil => rfl
  | cons e p ih =>
    unfold ks at h
    rw [List.map_cons, List.nodup_cons] at h
    show (if e.1 = k then e.2 else 0) + tot p k = val (e :: p) k
    rw [ih h.2]
    unfold val
    rw [look_cons]
    by_cases q : e.1 = k
    · rw [if_pos q, if_pos q]
      have : look p k = none := by
        cases z : look p k with
        | none => rfl
        | some v => exact absurd (List.mem_map.mpr ⟨_, look_mem z, q.symm⟩) h.1
      rw [this]
      show e.2 + 0 = e.2
      omega
    · rw [if_neg q, if_neg q]; omega
/-! ### the one form -/
structure Form (f : List Int → Int) (l : List (List Int)) : Prop where
  up : l.Pairwise (· ≤ ·)
  nd : l.Nodup
  all : ∀ k, k ∈ l ↔ f k ≠ 0
theorem same_of : ∀ (a b : List (List Int)), a.Pairwise (· ≤ ·) → b.Pairwise (· ≤ ·) → a.Nodup → b.Nodup → (∀ k, k ∈ a ↔ k ∈ b) → a = b
  | [], [], _, _, _, _, _ => rfl
  | [], y :: b, _, _, _, _, h => nomatch (h y).mpr (.head _)
  | x :: a, [], _, _, _, _, h => nomatch (h x).mp (.head _)
  | x :: a, y :: b, ha, hb, na, nb, h => by
    rw [List.pairwise_cons] at ha hb
    rw [List.nodup_cons] at na nb
    have xy : x = y := by
      rcases List.mem_cons.mp ((h x).mp (.head _)) with e | hx
      · exact e
      · rcases List.mem_cons.mp ((h y).mpr (.head _)) with e | hy
        · exact e.symm
        · exact List.le_antisymm (ha.1 y hy) (hb.1 x hx)
    subst xy
    rw [same_of a b ha.2 hb.2 na.2 nb.2 fun k => ?_]
    constructor
    · intro hk
      rcases List.mem_cons.mp ((h k).mp (.tail _ hk)) with e | g
      · rw [e] at hk; exact absurd hk na.1
      · exact g
    · intro hk
      rcases List.mem_cons.mp ((h k).mpr (.tail _ hk)) with e | g
      · rw [e] at hk; exact absurd hk nb.1
      · exact g
theorem Form.one {f : List Int → Int} {a b : List (List Int)} (ha : Form f a) (hb : Form f b) : a = b :=
  same_of a b ha.up hb.up ha.nd hb.nd fun k => (ha.all k).trans (hb.all k).symm
end Ply

/-! Dor: a reading put in the place of another; d[k] if k in d else 0. -/
namespace Gd
open PySem L2
theorem pe_imp {X : Cx} {e : Expr} {t u : TE} (h : PE X e t) (i : ∀ σ H Q, u σ H Q → t σ H Q) : PE X e u :=
  ⟨fun pins s σ H Q I q => h.run pins s σ H Q I (i σ H Q q)⟩
theorem pe_dor {X : Cx} {o o' k k' z : Expr} {i j : Nat} {n : Int} {p1 p2 p3 : Pos} (hu : X.A.units + 1 < cLine) (ho : PE X o (tVar i)) (hk : PE X k (tVar j)) (ho' : PE X o' (tVar i)) (hk' : PE X k' (tVar j)) (hs : NoSl k')
    (hz : PE X z (tC (.int n))) (h1 : behindInMarks .In o = false) :
    PE X (.IfExp (.Compare k [.In] [o] p1) (.Subscript o' k' p2) z p3) (tDGet2 (tVar i) (tVar j) (tC (.int n))) := by
  refine pe_imp (pe_ifExp (pt_cmp (pc_din hu hk ho) h1) (pe_dget hu ho' hk' hs) hz) ?_
  rintro σ H Q ⟨x, h1, a, rfl, _, y, h2, o, g, q⟩
  refine ⟨y, h2, _, h1, a, o, rfl, g, _, rfl, ?_⟩
  cases o with
  | none => exact iteF q
  | some v => exact iteT ⟨_, h1, y, h2, a, v, rfl, g, q⟩
end Gd

namespace L2
open PySem PySem.Spec PyProof.Rows PySem.W
/-! ### sorted of a list of tuples of ints, any length -/
def leI (p q : Addr × List Int) : Bool := decide (p.2 ≤ q.2)
theorem dataLe_tups {β : Type} (x : β → List Int) : dataLe false (fun b => .tuple ((x b).map .int)) = fun p q => decide (x p ≤ x q) := by
  have := dataLe_rows x
  exact this
theorem ints_read {h : Heap} : ∀ {us : List Value} {ns : List Int}, IntsAre us ns → ReadsAll h us (ns.map PyData.int) []
  | _, _, .nil => .nil
  | _, _, .cons n t r => .cons (.int n t) (ints_read r)
def rSortTI (K : PySem.W.Frag) : List V → Hp → VK → Prop := fun vs H Q => ∃ (a : Addr) (bs : List (Addr × List Int)), vs = [V.ref a] ∧ SqL K H a (bs.map fun b => V.ref b.1) ∧ (∀ b ∈ bs, SqT K H b.1 (b.2.map V.int) ∧ b.2 ≠ []) ∧
  ∀ p, H p = none → Q (.ref p) (upd H p (.lst ((bs.mergeSort leI).map fun b => V.ref b.1)))
theorem each_refs : ∀ {bs : List (Addr × List Int)} {us : List Value}, Vals (bs.map fun b => V.ref b.1) us → EachIs (fun v (b : Addr × List Int) => v = Value.ref b.1) us bs
  | [], _, r => by
    rw [List.map_nil] at r
    cases r
    exact .nil
  | b :: bs, _, r => by
    rw [List.map_cons] at r
    cases r with
    | cons h t => exact .cons h (each_refs t)
theorem refs_each : ∀ {bs : List (Addr × List Int)} {us : List Value}, EachIs (fun v (b : Addr × List Int) => v = Value.ref b.1) us bs → Vals (bs.map fun b => V.ref b.1) us
  | _, _, .nil => .nil
  | _, _, .cons h t => by
    rw [List.map_cons]
    exact .cons h (refs_each t)
theorem each_mem {α β : Type} {R S : α → β → Prop} : ∀ {as : List α} {bs : List β}, EachIs R as bs → (∀ a, ∀ b ∈ bs, R a b → S a b) → EachIs S as bs
  | _, _, .nil, _ => .nil
  | _, _, .cons h t, k => .cons (k _ _ (.head _) h) (each_mem t fun a b hb => k a b (.tail _ hb))
theorem cr_sortTI {X : Cx} (hu : X.A.units + 64 < cLine) : CallR X (.builtin "sorted") (rSortTI X.K) := by
  intro pins s σ H vs us Q I r h
  obtain ⟨a, bs, rfl, hs, hb, q⟩ := h
  rw [Vals.ref1 r]
  obtain ⟨its, rv, hl, hz⟩ := I.list hs
  rw [List.length_map] at hz
  have er := each_refs rv
  refine sorted_data (β := Addr × List Int) (bs := bs) (enc := fun b => .tuple (b.2.map .int)) hl.isList er (each_mem er fun v b hb1 e => ?_) (AllAlike.of fun b b' => ?_) (.inl fun d hd => ?_) hz (fun b _ => ?_) fun out lo eo => ?_
  · subst e
    obtain ⟨its2, rv2, ⟨o, ho, hc, n, hd⟩, _⟩ := I.tuple (hb b hb1).1
    exact ⟨_, .tuple ho hc hd (by simpa using ints_read rv2.ints)⟩
  · show alike (.tuple _) (.tuple _) = true
    unfold alike
    exact alike_ints _ _
  · obtain ⟨b, hb1, rfl⟩ := List.mem_map.mp hd
    have := (hb b hb1).2
    cases e : b.2 with
    | nil => exact absurd e this
    | cons x r => exact ⟨_, _, rfl⟩
  · show X.A.units + 2 + PyData.depth (.tuple _) < cLine
    rw [PyData.depth, depth_ints]
    omega
  · obtain ⟨ep, he'⟩ := PyProof.Rows.sortedAll_at s.heap its out.toArray
    rw [dataLe_tups] at eo
    have hlen : (((bs.mergeSort leI)).map fun b => V.ref b.1).length ≤ sizeLine := by rw [List.length_map, List.length_mergeSort]; exact hz
    exact ⟨.ref _, upd H (s.heap.objs.size + 1) (.lst ((bs.mergeSort leI).map fun b => V.ref b.1)), I.laid (t' := s.toks) (fun _ _ => PyProof.Rows.sortedAll_old) (Nat.le_succ _) ⟨hlen, out, ep, refs_each eo, he'⟩, rfl, q _ (I.hok.fresh (Nat.le_succ _))⟩
end L2

namespace MxD
open PySem PySem.Spec
/-! ### max(xs, default=d) -/
theorem okArgs (a d : Value) : argsOk "max" ⟨[a], [(Str.ofString "default", d)]⟩ := by unfold argsOk; kernel_rfl
section
variable {prog : Program} {w : World} {A : Around} {R : Result → Shared → Prop} {I : Addr} {fp wr : List Addr} {n : Nat} {P : Nat → Value → Prop} {St : Nat → Heap → Prop}
abbrev Kw (dv : Value) : List (Str × Value) := [(Str.ofString "default", dv)]
theorem lname : (toString "max" ++ toString ".loop" : String) = "max.loop" := by decide
abbrev hd (S I : Addr) (dv : Value) : Code := .builtin "max.loop" ⟨[.ref I, .none, .ref S], Kw dv⟩
/-- from a best item on -/
theorem more (W : Walks prog w A.in1 I fp wr n P St) (bt : Nat → Nat → Bool) (cmp : CmpOf prog w A.in1 .Gt P bt) (S : Addr) (off : S ∉ fp) (dv : Value) : ∀ (left j : Nat) (t : Shared) (best : Value) (c : Nat),
    j + 1 + left = n → St (j + 1) t.heap → P (argBest bt j) best → t.heap.get? S = some { cls := .type "list", data := .seq #[best, best] c } →
    (∀ v h' tk, P (argBest bt (n - 1)) v → (∀ b o, b ∉ wr → b ≠ S → t.heap.get? b = some o → h'.get? b = some o) → R (.ok (.ret v)) { t with heap := h', toks := tk }) → codeAny (model prog w) A (hd S I dv) R t
  | 0, j, t, best, c, hj, st, pb, at_, fin => by
    have offw : S ∉ wr := fun z => off (W.sub _ z)
    refine codeAny_builtin F.entry_max_loop (by
      rw [Around.under_plainId F.plain_max_loop _]
      show wpAny _ A.in1 (seqItems? (.ref S) >>= _) _ _ t
      refine wpAny_bind (wpAny_seqItems at_ rfl (?_ : wpAny _ A.in1 (tryCatch (pyNext (.ref I)) _ >>= _) _ _ t))
      refine wpAny_bind (wpAny_tryCatch (W.done t _ _ (by rw [show n = j + 1 by omega]; exact st) fun h1 tk same => ?_))
      refine (?_ : wpAny _ A.in1 (updateSeq S (fun _ => #[]) >>= _) _ _ _)
      refine wpAny_bind (wpAny_updateSeq (same S _ offw at_) rfl (wpAny_bind (wpAny_letGo (wpAny_pure ?_))))
      exact fin best _ tk (by rw [show n - 1 = j by omega]; exact pb) fun b o z1 z2 e => (Heap.get?_update_other _ _ (Ne.symm z2)).trans (same b o z1 e))
  | left + 1, j, t, best, c, hj, st, pb, at_, fin => by
    have offw : S ∉ wr := fun z => off (W.sub _ z)
    refine codeAny_builtin F.entry_max_loop (by
      rw [Around.under_plainId F.plain_max_loop _]
      show wpAny _ A.in1 (seqItems? (.ref S) >>= _) _ _ t
      refine wpAny_bind (wpAny_seqItems at_ rfl (?_ : wpAny _ A.in1 (tryCatch (pyNext (.ref I)) _ >>= _) _ _ t))
      refine wpAny_bind (wpAny_tryCatch (W.item (j + 1) t _ _ (by omega) st fun v h1 tk pv st1 same => ?_))
      have at1 := same S _ offw at_
      refine (?_ : wpAny _ A.in1 (tryCatch (holding [v, v] (richCompare .Gt v best >>= _)) _ >>= _) _ _ _)
      refine wpAny_bind (wpAny_tryCatch (wpAny_holding (wpAny_bind (cmp (j + 1) (argBest bt j) v best _ _ _ pv pb (wpAny_bind (wpAny_holding (wpAny_truthy_bool (wpAny_bind (wpAny_letGo (wpAny_pure ?_))))))))))
      cases hb : bt (j + 1) (argBest bt j) with
      | true =>
        simp only [if_true]
        refine wpAny_bind (wpAny_updateSeq at1 rfl (wpAny_bind (wpAny_letGo ?_)))
        rw [lname]
        refine wpAny_pure ⟨plainId_quiet F.plain_max_loop _, more W bt cmp S off dv left (j + 1) _ v _ (by omega) (W.frame _ _ _ st1 fun b z o e => ?_) (by simp only [argBest, hb, if_true]; exact pv) (Heap.get?_update_self _ at1 rfl) fun v2 h2 tk2 p2 same2 => ?_⟩
        · exact (Heap.get?_update_other _ _ (fun q : S = b => off (by rw [q]; exact z))).trans e
        · exact fin v2 h2 tk2 p2 fun b o z1 z2 e => same2 b o z1 z2 ((Heap.get?_update_other _ _ (Ne.symm z2)).trans (same b o z1 e))
      | false =>
        simp only [Bool.false_eq_true, if_false]
        refine wpAny_bind (wpAny_letGo (by
          rw [lname]
          refine wpAny_pure ⟨plainId_quiet F.plain_max_loop _, more W bt cmp S off dv left (j + 1) _ best c (by omega) st1 (by simp only [argBest, hb, Bool.false_eq_true, if_false]; exact pb) at1 fun v2 h2 tk2 p2 same2 => ?_⟩
          exact fin v2 h2 tk2 p2 fun b o z1 z2 e => same2 b o z1 z2 (same b o z1 e))))
theorem start (W : Walks prog w A.in1 I fp wr n P St) (bt : Nat → Nat → Bool) (cmp : CmpOf prog w A.in1 .Gt P bt) (S : Addr) (off : S ∉ fp) (dv : Value) {t : Shared} {c : Nat} (st : St 0 t.heap)
    (at_ : t.heap.get? S = some { cls := .type "list", data := .seq #[] c })
    (fin : ∀ v h' tk, ((n = 0 ∧ v = dv) ∨ (0 < n ∧ P (argBest bt (n - 1)) v)) → (∀ b o, b ∉ wr → b ≠ S → t.heap.get? b = some o → h'.get? b = some o) → R (.ok (.ret v)) { t with heap := h', toks := tk }) : codeAny (model prog w) A (hd S I dv) R t := by
  have offw : S ∉ wr := fun z => off (W.sub _ z)
  refine codeAny_builtin F.entry_max_loop (by
    rw [Around.under_plainId F.plain_max_loop _]
    show wpAny _ A.in1 (seqItems? (.ref S) >>= _) _ _ t
    refine wpAny_bind (wpAny_seqItems at_ rfl (?_ : wpAny _ A.in1 (tryCatch (pyNext (.ref I)) _ >>= _) _ _ t))
    by_cases n0 : n = 0
    · refine wpAny_bind (wpAny_tryCatch (W.done t _ _ (by rw [n0]; exact st) fun h1 tk same => ?_))
      refine wpAny_bind (wpAny_rule (wpAny_pure ?_))
      exact fin dv h1 tk (.inl ⟨n0, rfl⟩) fun b o z1 _ e => same b o z1 e
    · refine wpAny_bind (wpAny_tryCatch (W.item 0 t _ _ (by omega) st fun v h1 tk pv st1 same => ?_))
      have at1 := same S _ offw at_
      refine (?_ : wpAny _ A.in1 (updateSeq S (fun _ => #[v, v]) >>= _) _ _ _)
      refine wpAny_bind (wpAny_updateSeq at1 rfl (by
        rw [lname]
        refine wpAny_pure ⟨plainId_quiet F.plain_max_loop _, more W bt cmp S off dv (n - 1) 0 _ v _ (by omega) (W.frame _ _ _ st1 fun b z o e => ?_) pv (Heap.get?_update_self _ at1 rfl) fun v2 h2 tk2 p2 same2 => ?_⟩
        · exact (Heap.get?_update_other _ _ (fun q : S = b => off (by rw [q]; exact z))).trans e
        · exact fin v2 h2 tk2 (.inr ⟨by omega, p2⟩) fun b o z1 z2 e => same2 b o z1 z2 ((Heap.get?_update_other _ _ (Ne.symm z2)).trans (same b o z1 e)))))
theorem params (d : Value) : Builtin.Builtins.bindParams "max" ["key", "default"] 0 ⟨[], Kw d⟩ = pure [none, some d] := rfl
end
section
variable {prog : Program} {w : World} {A : Around} {E : Value → Shared → Prop} {s : Shared}
theorem callD {l : Addr} {its : Array Value} {bt : Nat → Nat → Bool} {d : Value} {Q : Value → Shared → Prop} (hh : A.handled = none) (hl : s.heap.IsList l its)
    (cmp : CmpOf prog w A.in1 .Gt (fun i v => its[i]? = some v) bt)
    (h : ∀ v h' tk, ((its.size = 0 ∧ v = d) ∨ (0 < its.size ∧ its[argBest bt (its.size - 1)]? = some v)) → (∀ b o, s.heap.get? b = some o → h'.get? b = some o) → Q v { s with heap := h', toks := tk }) :
    wpAny (model prog w) A (call (.builtin "max") [.ref l] (Kw d)) Q E s := by
  refine wpAny_call (codeAny_call_builtin F.plain_max F.entry_max ?_)
  have go : wpAny (model prog w) A.in1 (Builtin.«max» ⟨[.ref l], Kw d⟩) (fun fin s' => match fin with
      | .done f => (match (Except.ok f : Result) with | .ok (.ret v) => Q v s' | .ok _ => False | .error e => E e s')
      | .again c' => c'.quiet = true ∧ codeAny (model prog w) A c' (fun r s' => match r with | .ok (.ret v) => Q v s' | .ok _ => False | .error e => E e s') s') E s := by
    show wpAny _ A.in1 (Builtin.Builtins.bindParams "max" ["key", "default"] 0 ⟨[], Kw d⟩ >>= _) _ _ s
    rw [params d]
    refine wpAny_bind (wpAny_pure (wpAny_bind (wpAny_pure (wpAny_bind (wpAny_pyIter_list hl (wpAny_bind (wpAny_newObj_type ?_)))))))
    rw [lname]
    have lt : l < s.heap.objs.size := let ⟨o, ho, _⟩ := hl; Heap.lt_size ho
    generalize hI : s.heap.objs.size = I at *
    have nlI : l ≠ I := Nat.ne_of_lt lt
    have st0 : (s.heap.push { cls := .type "list_iterator", data := .fields #[.ref l, .int 0 0] }).IsListIter I l 0 ∧ (s.heap.push { cls := .type "list_iterator", data := .fields #[.ref l, .int 0 0] }).IsList l its :=
      ⟨⟨_, by rw [← hI]; exact Heap.get?_push_size _ rfl, rfl, rfl⟩, hl.push _⟩
    have sz : (s.heap.push { cls := .type "list_iterator", data := .fields #[.ref l, .int 0 0] }).objs.size = I + 1 := by rw [Heap.size_push, hI]
    have k1 : ∀ b o, s.heap.get? b = some o → (s.heap.push { cls := .type "list_iterator", data := .fields #[.ref l, .int 0 0] }).get? b = some o := fun b o e => Heap.get?_push_of_some _ e
    have W := Walks.list (prog := prog) (w := w) (A := A.in1) hh I l nlI its
    generalize hg1 : s.heap.push { cls := .type "list_iterator", data := .fields #[.ref l, .int 0 0] } = g1 at *
    have W' := Walks.list (prog := prog) (w := w) (A := A.in1) hh I l nlI its
    have ne1 : g1.objs.size ≠ I := by rw [sz]; exact Nat.succ_ne_self I
    have ne2 : g1.objs.size ≠ l := by rw [sz]; exact Nat.ne_of_gt (Nat.lt_succ_of_lt lt)
    have k2 : ∀ b o, g1.get? b = some o → (g1.push { cls := .type "list", data := .seq #[] 0 }).get? b = some o := fun b o e => Heap.get?_push_of_some _ e
    refine wpAny_pure ⟨plainId_quiet F.plain_max_loop _, start W' bt cmp g1.objs.size (by simp only [List.mem_cons, List.not_mem_nil, or_false]; exact fun z => z.elim ne1 ne2) d (W'.frame _ _ _ st0 fun b _ o e => k2 b o e) (Heap.get?_push_size _ rfl) fun v h' tk p same => ?_⟩
    refine h v h' tk p fun b o e => ?_
    have lb : b < I := by rw [← hI]; exact Heap.lt_size e
    exact same b o (by simp only [List.mem_cons, List.not_mem_nil, or_false]; exact Nat.ne_of_lt lb) (by rw [sz]; exact Nat.ne_of_lt (Nat.lt_succ_of_lt lb)) (k2 b o (k1 b o e))
  simp only [checkBuiltinCall, F.kind_max]
  cases hsig : Manifest.signature? "max" with
  | none => exact wpAny_pure go
  | some sig =>
    have ha := okArgs (.ref l) d
    simp only [argsOk, hsig] at ha
    have h2 : Bind.checkArgs "max" sig ⟨[.ref l], Kw d⟩ = pure () := ha
    show wpAny _ A.in1 (Bind.checkArgs "max" sig ⟨[.ref l], Kw d⟩) _ _ s
    rw [h2]
    exact wpAny_pure go
end
end MxD
namespace L2
open PySem PySem.Spec PyProof.Rows
def rMaxDf (K : PySem.W.Frag) : List V → List V → Hp → VK → Prop := fun vs zs H Q => ∃ (a : Addr) (ns : List Int) (d : Int), vs = [V.ref a] ∧ zs = [V.int d] ∧ SqL K H a (ns.map V.int) ∧
  (ns = [] → Q (.int d) H) ∧ ∀ m, m ∈ ns → (∀ y ∈ ns, y ≤ m) → Q (.int m) H
theorem cr_maxDf {X : Cx} (hc : X.calm = true) : CallRK X (.builtin "max") [Str.ofString "default"] (rMaxDf X.K) := by
  intro pins s σ H vs zs us ws Q I r rz h
  obtain ⟨a, ns, d, rfl, rfl, hs, q0, q1⟩ := h
  rw [Vals.ref1 r]
  obtain ⟨u, rfl, t, rfl⟩ := vals1 rz
  obtain ⟨its, rv, hl, _⟩ := I.list hs
  have hi := rv.ints
  obtain ⟨xs, e⟩ := hi.allInts.items
  have hn : numsOf (intItems xs).toList = ns := by rw [← e]; exact hi.numsOf
  rw [nums_intItems] at hn
  have hl1 := hl.isList
  rw [e] at hl1
  refine MxD.callD (I.ok.hd hc) hl1 (CmpOf.ints_gt (numAt xs) (fun _ _ => intItems_at)) fun v h' tk p k => ?_
  have sz : (intItems xs).size = xs.size := by simp [intItems]
  have ln : ns.length = xs.size := by rw [← hn]; simp
  rw [sz] at p
  obtain ⟨z, rfl⟩ | ⟨z, hv⟩ := p
  · have : ns = [] := List.eq_nil_of_length_eq_zero (by omega)
    exact ⟨.int d, H, I.kept k, ⟨_, rfl⟩, q0 this⟩
  · obtain ⟨t2, rfl⟩ := intItems_at hv
    obtain ⟨h1, h2⟩ := argBest_gt (numAt xs) (xs.size - 1)
    refine ⟨.int _, H, I.kept k, ⟨_, rfl⟩, q1 _ ?_ fun y hy => ?_⟩
    · rw [← hn, numAt_eq]
      exact PySem.getD_mem (by rw [List.length_map, Array.length_toList]; omega)
    · rw [← hn] at hy
      obtain ⟨j, hj⟩ := List.getElem?_of_mem hy
      have lj : j < xs.size := by
        have := (List.getElem?_eq_some_iff.mp hj).1
        rw [List.length_map, Array.length_toList] at this
        exact this
      have := h2 j (by omega)
      have ej : numAt xs j = y := by
        rw [numAt_eq, List.getD_eq_getElem?_getD, hj]
        rfl
      rw [ej] at this
      exact this
end L2

namespace K14
open PySem L2 Gd Ply
def gOr (u v : TG) : TG := fun x σ H R => u x σ H R ∨ v x σ H R
theorem pg_or {X : Cx} {tg : Expr} {u v : TG} (a : PG X tg u) (b : PG X tg v) : PG X tg (gOr u v) where
  run := by
    rintro pins s σ H x y R I r (h | h)
    · exact a.run pins s σ H x y R I r h
    · exact b.run pins s σ H x y R I r h
theorem pi_listK {X : Cx} {K : PySem.W.Frag} (hK : X.K = K) {tg e : Expr} {te : TE} (h : PE X e te) : PI X tg e (iList K te) := hK ▸ pi_list h
theorem cr_maxDfK {X : Cx} {K : PySem.W.Frag} (hK : X.K = K) (hc : X.calm = true) : CallRK X (.builtin "max") [Str.ofString "default"] (rMaxDf K) := hK ▸ cr_maxDf hc
/-! ### what a sum of powers is -/
structure It3 where
  p : Addr
  b : Addr
  k : List Int
  n : Int
/-- at t stands the tuple of the terms l -/
def TAt (H : Hp) (t : Addr) (l : Po) : Prop := ∃ L : List It3, H t = some (.tup (L.map fun e => V.ref e.p)) ∧ (∀ e ∈ L, H e.p = some (.tup [.ref e.b, .int e.n]) ∧ H e.b = some (.tup (e.k.map V.int))) ∧ (L.map fun e => (e.k, e.n)) = l
theorem TAt.more {H H' : Hp} {t : Addr} {l : Po} (e : ∀ b o, H b = some o → H' b = some o) (h : TAt H t l) : TAt H' t l :=
  let ⟨L, a, b, c⟩ := h; ⟨L, e _ _ a, fun x hx => ⟨e _ _ (b x hx).1, e _ _ (b x hx).2⟩, c⟩
def Canon (f : List Int → Int) (l : Po) : Prop := ∃ q, Form f q ∧ l = q.map fun k => (k, f k)
theorem Canon.one {f : List Int → Int} {a b : Po} (ha : Canon f a) (hb : Canon f b) : a = b := by
  obtain ⟨q, h1, rfl⟩ := ha
  obtain ⟨q2, h2, rfl⟩ := hb
  rw [h1.one h2]
/-- the greatest size at one place -/
structure Gr (q : List (List Int)) (i : Nat) (m : Int) : Prop where
  on : m = 0 ∨ ∃ k ∈ q, m = (k.getD i 0).natAbs
  low : 0 ≤ m
  up : ∀ k ∈ q, ((k.getD i 0).natAbs : Int) ≤ m
theorem Gr.one {q : List (List Int)} {i : Nat} {m n : Int} (a : Gr q i m) (b : Gr q i n) : m = n := by
  have h : ∀ m n, Gr q i m → Gr q i n → m ≤ n := by
    intro m n a b
    obtain rfl | ⟨k, hk, rfl⟩ := a.on
    · exact b.low
    · exact b.up k hk
  exact Int.le_antisymm (h _ _ a b) (h _ _ b a)
/-- the new object at a, with its three fields, is the sum f -/
structure Pob (H : Hp) (C a : Addr) (f : List Int → Int) : Prop where
  ex : ∃ (dx t r d : Addr) (fs : List (Str × V)) (l p : Po) (m0 m1 m2 : Int), H a = some (.ins C dx fs) ∧ fs.lookup ("terms" : Str) = some (V.ref t) ∧ fs.lookup ("reach" : Str) = some (V.ref r) ∧ fs.lookup ("_numbers" : Str) = some (V.ref d) ∧
    TAt H t l ∧ Canon f l ∧ H r = some (.tup [.int m0, .int m1, .int m2]) ∧ (Gr (ks l) 0 m0 ∧ Gr (ks l) 1 m1 ∧ Gr (ks l) 2 m2) ∧ H d = some (.dT (dk p)) ∧ (ks p).Nodup ∧ (∀ k, val p k = f k) ∧ p.length ≤ 300 ∧ ∀ e ∈ p, e.1.length = 3
theorem Pob.more {H H' : Hp} {C a : Addr} {f : List Int → Int} (e : ∀ b o, H b = some o → H' b = some o) (h : Pob H C a f) : Pob H' C a f :=
  let ⟨dx, t, r, d, fs, l, p, m0, m1, m2, h1, h2, h3, h4, h5, h6, h7, h8, h9, h10⟩ := h.ex
  ⟨dx, t, r, d, fs, l, p, m0, m1, m2, e _ _ h1, h2, h3, h4, h5.more e, h6, e _ _ h7, h8, e _ _ h9, h10⟩
theorem paired_at {α β : Type} {R : α → β → Prop} : ∀ {xs : List α} {l : List β}, Paired R xs l → ∀ {i : Nat} {y : α}, xs[i]? = some y → ∃ e, l[i]? = some e ∧ R y e
  | _, _, .nil, i, y, h => by rw [List.getElem?_nil] at h; cases h
  | _, _, .cons h t, 0, y, e => by cases e; exact ⟨_, rfl, h⟩
  | _, _, .cons h t, i + 1, y, e => by
    rw [List.getElem?_cons_succ] at e
    obtain ⟨z, h1, h2⟩ := paired_at t e
    exact ⟨z, by rw [List.getElem?_cons_succ]; exact h1, h2⟩
theorem valD (p : Po) (k : List Int) : (valV (dk p) (kI k)).getD (.int 0) = .int (val p k) := by
  rw [valV_dk]
  unfold val
  cases look p k <;> rfl
theorem valS {p : Po} {k : List Int} (h : k ∈ ks p) : valV (dk p) (kI k) = some (.int (val p k)) := by
  rw [valV_dk]
  rw [mem_ks] at h
  unfold val
  cases e : look p k with
  | none => rw [e] at h; cases h
  | some v => rfl
theorem dk_len (p : Po) : (dk p).length = p.length := by unfold dk; rw [List.length_map]
theorem sort_form {f : List Int → Int} {bs : List (Addr × List Int)} (nd : (bs.map (·.2)).Nodup) (all : ∀ k, k ∈ bs.map (·.2) ↔ f k ≠ 0) : Form f ((bs.mergeSort leI).map (·.2)) where
  up := by
    rw [List.pairwise_map]
    have h := List.pairwise_mergeSort (le := leI) (fun a b c h1 h2 => by
      unfold leI at *
      rw [decide_eq_true_eq] at *
      exact List.le_trans h1 h2) (fun a b => by
      unfold leI
      rcases List.le_total a.2 b.2 with h | h
      · rw [decide_eq_true h]; rfl
      · rw [decide_eq_true h, Bool.or_true]) bs
    exact h.imp fun h => of_decide_eq_true h
  nd := (((List.mergeSort_perm bs leI).map (·.2)).nodup_iff).mpr nd
  all := fun k => (((List.mergeSort_perm bs leI).map (·.2)).mem_iff).trans (all k)
theorem accum_all {P : List Int → Prop} : ∀ (l p : Po), (∀ e ∈ p, P e.1) → (∀ e ∈ l, P e.1) → ∀ e ∈ accum p l, P e.1
  | [], p, h, _ => h
  | x :: l, p, h, hl => accum_all l (put p x.1 (val p x.1 + x.2)) (fun e he => by
      rcases mem_put he with rfl | he
      · exact hl x (.head _)
      · exact h e he) fun e he => hl e (.tail _ he)
theorem paired_back {α β : Type} {R : α → β → Prop} : ∀ {xs : List α} {l : List β}, Paired R xs l → ∀ e ∈ l, ∃ y, R y e
  | _, _, .nil, e, h => nomatch h
  | _, _, .cons h t, e, he => by
    rcases List.mem_cons.mp he with rfl | he
    · exact ⟨_, h⟩
    · exact paired_back t e he
def spInit (K : PySem.W.Frag) (C CR : Addr) : Sp := fun vs H Q E => ∃ (a t dx : Addr) (xs : List V), vs = [.ref a, .ref t] ∧ H a = some (.ins C dx []) ∧ Sq K H t xs ∧ xs.length ≤ 300 ∧
  ((∃ l : Po, Paired (fun x e => Trm K H x e.1 e.2) xs l ∧ ∀ H', (∀ b o, H b = some o → b ≠ a → H' b = some o) → Pob H' C a (tot l) → Q .non H') ∨
    ∃ (i : Nat) (x : V), xs[i]? = some x ∧ NoTrm K H x ∧ (∀ j y, j < i → xs[j]? = some y → ∃ ds n, Trm K H y ds n) ∧ ∀ H', More H H' → RRow CR x H' E)
section
variable {P : Program} {w : World} {K : PySem.W.Frag} {mg : Str → Option Value} {base : Heap}
variable {fI fS fR fT fB f CR C : Addr} {fdI fdS fdR fdT fdB fd : FuncData}
structure Blt2 (mg : Str → Option Value) : Prop where
  sorted_ : mg "sorted" = none
  max_ : mg "max" = none
  abs_ : mg "abs" = none
  dict_ : mg "dict" = none
abbrev sPw : Stmt := inClass (top 32) 0
abbrev NPw : List Str := ["self", "terms", "item", "numbers", "exponents", "number", "power", "kept", "at", "told"]
def compOf (s : Stmt) : Scope := match s with
  | .Assign _ (.Call _ [.ListComp _ _ sc _] _ _) _ => sc
  | _ => { kind := .function, names := [], isGenerator := false, isCoroutine := false }
theorem scPw : FnScope NPw ["self", "terms"] (defScope sPw) := ⟨rfl, rfl, rfl, by decide +kernel, rfl, by decide +kernel, by decide +kernel⟩
theorem ok_init (F : Fun K "__init__" "Powers.__init__" sPw f fd) (B : Blt mg) (B2 : Blt2 mg) (cl : Cls K C) (n1 : NoAttr K C "terms") (n2 : NoAttr K C "reach") (n3 : NoAttr K C "_numbers")
    (I : Cl K mg "is_integer" sIsI ["value"] fI fdI) (S : Cl K mg "is_integers" sIsIs ["value"] fS fdS) (R : Cl K mg "is_row" sRow ["value", "width"] fR fdR) (T : Cl K mg "is_term" sTerm ["item"] fT fdT)
    (Br : Er K mg "BadRow" "BadRow.__init__" CR fB ["row"] sBadRow fdB) : FnOk P w K mg base (L2.CX P w) 6 f fd ["self", "terms"] (spInit K C CR) := by
  have GT : FnOk P w K mg base CX0 4 fT fdT ["item"] (spTerm K) := ok_term T.fn B I S R
  have GB : FnOk P w K mg base CX0 1 fB fdB ["self", "row"] (spIni CR ["row"]) := okBadRow Br.fn Br.T Br.no
  refine F.okX scPw (fun vs H Q E h => ?_) (fun cdv A outer s H vs Q E hr h => ?_)
  · obtain ⟨a, t, dx, xs, rfl, _⟩ := h
    rfl
  · obtain ⟨a, t, dx, xs, rfl, ha, sq, few, h⟩ := h
    have hu := hu_of hr
    have hu64 := hr.units
    refine ⟨_, Evl.pss_cut (ps_for (passes_of rfl) rfl (pi_or (pi_list (pv 1)) (pi_tup (pv 1))) (pg_name (i := 2) scPw.nd rfl (Or.inl rfl))
        (pss_one (ps_if (pt_not (pt_val (pe_call GT (hr.mono (by decide)) rfl T.g T.k T.b .nil pass0 (pa_cons (pv 2) pa_nil))))
          (pss_one (ps_raise rfl (takes_of rfl rfl rfl rfl) (pmk_oex Br.T Br.iC Br.tI GB (hr.mono (by decide)) Br.b .nil pass0 rfl Br.g (pa_cons (pv 2) pa_nil)))) pss_nil)))
      (pss_cons (ps_set (i := 3) scPw.nd rfl (Or.inr rfl) pe_dnewT)
      (Evl.pss_cut (ps_for (passes_of rfl) rfl (pi_or (pi_list (pv 1)) (pi_tup (pv 1))) (pg_or (pg_tup (by rfl) (pgs_cons (pg_name (i := 4) scPw.nd rfl (Or.inl rfl)) (pgs_cons (pg_name (i := 5) scPw.nd rfl (Or.inl rfl)) pgs_nil)))
            (pg_unl (by rfl) (pgs_cons (pg_name (i := 4) scPw.nd rfl (Or.inl rfl)) (pgs_cons (pg_name (i := 5) scPw.nd rfl (Or.inl rfl)) pgs_nil))))
        (pss_cons (ps_set (i := 6) scPw.nd rfl (Or.inl rfl) (pe_callTy call_tuple_of (by rfl) B.tup_ (by decide +kernel) (pa_cons (pv 4) pa_nil)))
        (pss_one (ps_dput hu (pv 3) (pv 6) (pe_op op_add (pe_dor hu (pv 3) (pv 6) (pv 3) (pv 6) (fun _ _ => rfl) pe_int (by rfl)) (pv 5)) rfl))))
      (pss_cons (ps_set (i := 7) scPw.nd rfl (Or.inr rfl) (pe_callB (cr_sortTI hu64) (by rfl) B2.sorted_ (by decide +kernel) (pa_cons (pe_lock (pe_lc (own := [("power", 6)]) (g := gName 6) rfl scPw.nd (pi_keys (pv 3))
          (blkOk_by (N := NPw) (sc := defScope sPw) (by decide +kernel)) (fun _ _ _ _ _ => pg_name (i := 6) scPw.nd rfl (Or.inl rfl))
          (fun _ _ _ _ _ => pts_one (pt_cmpR op_ne (pe_dget hu (pv 3) (pv 6) (fun _ _ => rfl)) pe_int (nomark _))) (fun _ _ _ _ _ => pv 6))) pa_nil)))
      (pss_cons (ps_fld (pv 0) (pe_callTy call_tuple_of (by rfl) B.tup_ (by decide +kernel) (pa_cons (pe_lc (own := [("power", 6)]) (g := gName 6) (tt := tYes) rfl scPw.nd (pi_list (pv 7))
          (blkOk_by (N := NPw) (sc := defScope sPw) (by decide +kernel)) (fun _ _ _ _ _ => pg_name (i := 6) scPw.nd rfl (Or.inl rfl)) (fun _ _ _ _ _ => pts_nil)
          (fun _ _ _ _ _ => pe_tup (pa_cons (pv 6) (pa_cons (pe_dget hu (pv 3) (pv 6) (fun _ _ => rfl)) pa_nil)))) pa_nil)) rfl)
      (pss_cons (ps_fld (pv 0) (pe_callTy call_tuple_of (by rfl) B.tup_ (by decide +kernel) (pa_cons (pe_lc (own := [("at", 8)]) (g := gName 8) (tt := tYes) rfl scPw.nd (pi_range1 rfl B.range_ (pa_cons pe_int pa_nil))
          (blkOk_by (N := NPw) (sc := defScope sPw) (by decide +kernel)) (fun _ _ _ _ _ => pg_name (i := 8) scPw.nd rfl (Or.inr rfl)) (fun _ _ _ _ _ => pts_nil)
          (fun _ _ _ _ _ => pe_callBK (id := "max") (r := rMaxDf K) (cr_maxDfK rfl rfl) (by rfl) B2.max_ (by decide +kernel) (pa_cons (by exact (pe_lc (own := [("told", 9)]) (g := gName 9) (tt := tYes) rfl scPw.nd (pi_listK (K := K) rfl (pv 7))
            (blkOk_by (N := NPw) (sc := relabel (compOf ((defBody sPw).getD 5 (.Pass ⟨0, 0, 0, 0⟩))) (PyProof.Rows.envOfC "Powers.__init__" (defScope sPw) 0 0 .none)) (by decide +kernel)) (fun _ _ _ _ _ => pg_name (i := 9) scPw.nd rfl (Or.inl rfl)) (fun _ _ _ _ _ => pts_nil)
            (fun _ _ _ _ _ => pe_callB call_abs (by rfl) B2.abs_ (by decide +kernel) (pa_cons (pe_ix (r := rIxT K) ix_tup (pv 9) (pv 8) (fun _ _ => rfl)) pa_nil)))) pa_nil) (pk_cons pe_int pk_nil))) pa_nil)) rfl)
      (pss_one (ps_fld (pv 0) (pv 3) rfl))))))), ?_⟩
    obtain ⟨l, hl, q⟩ | ⟨i0, x0, hx0, no, before, q⟩ := h
    · refine ⟨fun σ' H' => ∃ z, σ' = [some (.ref a), some (.ref t), z, none, none, none, none, none, none, none] ∧ More H H', ?_, ?_⟩
      · have P1 : Nat → L2.St → Hp → Prop := fun i σ' H' => ∃ z, σ' = [some (.ref a), some (.ref t), z, none, none, none, none, none, none, none] ∧ More H H'
        rcases sq with s | s
        · refine .inl ⟨_, rfl, t, rfl, ⟨xs, s⟩, for_it walk_list (fun i σ' H' => ∃ z, σ' = [some (.ref a), some (.ref t), z, none, none, none, none, none, none, none] ∧ More H H') ⟨_, rfl, fun _ _ e => e⟩ (fun i σ' H' _ ⟨_, _, m⟩ => Same.seq m s) ?_ (fun _ _ h => h)⟩
          rintro i y σ2 H2 H3 hi ⟨z, rfl, m2⟩ ⟨rfl, hy⟩
          obtain ⟨e, _, tr⟩ := paired_at hl hy
          exact ⟨_, rfl, y, rfl, .inl ⟨e.1, e.2, tr.more m2, fun H' mo => ⟨_, rfl, iteF ⟨_, rfl, fun b o q => mo b o (m2 b o q)⟩⟩⟩⟩
        · refine .inr ⟨_, rfl, t, rfl, ⟨xs, s⟩, for_it walk_tup (fun i σ' H' => ∃ z, σ' = [some (.ref a), some (.ref t), z, none, none, none, none, none, none, none] ∧ More H H') ⟨_, rfl, fun _ _ e => e⟩ (fun i σ' H' _ ⟨_, _, m⟩ => sqT_more m s) ?_ (fun _ _ h => h)⟩
          rintro i y σ2 H2 H3 hi ⟨z, rfl, m2⟩ ⟨rfl, hy⟩
          obtain ⟨e, _, tr⟩ := paired_at hl hy
          exact ⟨_, rfl, y, rfl, .inl ⟨e.1, e.2, tr.more m2, fun H' mo => ⟨_, rfl, iteF ⟨_, rfl, fun b o q => mo b o (m2 b o q)⟩⟩⟩⟩
      · rintro σ1 H1 ⟨z, rfl, m1⟩
        intro d hd
        have hd0 : H d = none := More.off m1 hd
        have nad : a ≠ d := ne_of_none ha hd0
        have dl : xs.length = l.length := Paired.length hl
        have turn : ∀ (i : Nat) (y : V) (H2 : Hp), xs[i]? = some y → H2 d = some (.dT (dk (accum [] (l.take i)))) → More H H2 → ∃ e, l[i]? = some e ∧ ∃ a' b, y = .ref a' ∧ Sq K H2 a' [.ref b, .int e.2] ∧ Sk K H2 b (e.1.map V.int) ∧ e.1.length = 3 ∧
            accum [] (l.take (i + 1)) = put (accum [] (l.take i)) e.1 (val (accum [] (l.take i)) e.1 + e.2) ∧ (dk (accum [] (l.take i))).length < sizeLine := by
          intro i y H2 hy h2 m2
          obtain ⟨e, he, tr⟩ := paired_at hl hy
          obtain ⟨a', b, r1, r2, r3, r4⟩ := tr.more m2
          refine ⟨e, he, a', b, r1, r2, r3, r4, ?_, ?_⟩
          · rw [take_snoc he, accum_snoc]
          · rw [dk_len]
            have := len_accum [] (l.take i)
            rw [List.length_take, List.length_nil] at this
            exact small1000 (by omega)
        refine ⟨fun σ' H' => ∃ z4 z5 z6, σ' = [some (.ref a), some (.ref t), z, some (.ref d), z4, z5, z6, none, none, none] ∧ H' d = some (.dT (dk (accum [] l))) ∧ More H H', ?_, ?_⟩
        · have fin : ∀ (i : Nat) (H2 : Hp) (e : List Int × Int) (b : Addr), H2 d = some (.dT (dk (accum [] (l.take i)))) → More H H2 → H2 b = some (.tup (e.1.map V.int)) → (dk (accum [] (l.take i))).length < sizeLine →
              accum [] (l.take (i + 1)) = put (accum [] (l.take i)) e.1 (val (accum [] (l.take i)) e.1 + e.2) →
              DGet H2 d (.ref b) (valV (dk (accum [] (l.take i))) (kI e.1)) ∧ DPut H2 d (.ref b) (.int (val (accum [] (l.take i)) e.1 + e.2)) (upd H2 d (.dT (dk (accum [] (l.take (i + 1)))))) ∧ More H (upd H2 d (.dT (dk (accum [] (l.take (i + 1)))))) := by
            intro i H2 e b h2 m2 hb len ea
            have hb' : H2 b = some (.tup ((kI e.1).map kV)) := by rw [kI_V]; exact hb
            refine ⟨DGet.t h2 hb', ?_, m2.at hd0⟩
            rw [ea, ← putK_dk]
            exact DPut.t h2 hb' len
          rcases sq with s0 | s0
          · refine .inl ⟨_, rfl, t, rfl, ⟨xs, Same.seq (m1.at hd0) s0⟩, for_it (walk_list (xs := xs)) (fun i σ' H' => ∃ z4 z5 z6, σ' = [some (.ref a), some (.ref t), z, some (.ref d), z4, z5, z6, none, none, none] ∧ H' d = some (.dT (dk (accum [] (l.take i)))) ∧ More H H')
              ⟨none, none, none, rfl, (by exact upd_same), (by exact m1.at hd0)⟩ (fun i σ' H' _ ⟨_, _, _, _, _, m⟩ => Same.seq m s0) ?_ (fun σ' H' h => ?_)⟩
            · rintro i y σ2 H2 H3 hi ⟨z4, z5, z6, rfl, h2, m2⟩ ⟨rfl, hy⟩
              obtain ⟨e, he, a', b, rfl, s1, s2, l3, ea, len⟩ := turn i y H3 hy h2 m2
              have go : ∀ (b' : Addr) (H4 : Hp), H4 d = some (.dT (dk (accum [] (l.take i)))) → More H H4 → H4 b' = some (.tup (e.1.map V.int)) →
                  ∃ o, DGet H4 d (.ref b') o ∧ o.getD (.int 0) = .int (val (accum [] (l.take i)) e.1) ∧ DPut H4 d (.ref b') (.int (val (accum [] (l.take i)) e.1 + e.2)) (upd H4 d (.dT (dk (accum [] (l.take (i + 1)))))) ∧ More H (upd H4 d (.dT (dk (accum [] (l.take (i + 1)))))) := by
                intro b' H4 g1 g2 g3
                obtain ⟨f1, f2, f3⟩ := fin i H4 e b' g1 g2 g3 len ea
                exact ⟨_, f1, valD _ _, f2, f3⟩
              rcases s1 with s1 | s1
              · refine .inr ⟨a', _, rfl, s1, rfl, _, _, rfl, _, _, rfl, rfl, ?_⟩
                rcases s2 with s2 | s2
                · refine ⟨_, rfl, b, _, rfl, .inl ⟨s2, fun p np => ?_⟩⟩
                  have npd : p ≠ d := fun z => by rw [z, h2] at np; cases np
                  obtain ⟨o, g1, g2, g3, g4⟩ := go p (upd H3 p (.tup (e.1.map V.int))) (by rw [upd_ne npd.symm]; exact h2) (m2.new np) upd_same
                  exact ⟨_, rfl, d, rfl, .inr ⟨_, .inl (by rw [upd_ne npd.symm]; exact h2)⟩, _, rfl, o, g1, _, rfl, _, _, g2, rfl, _, rfl, _, rfl, d, _, rfl, g3, _, _, _, rfl, upd_same, g4⟩
                · refine ⟨_, rfl, b, _, rfl, .inr ⟨SqT.of s2, ?_⟩⟩
                  obtain ⟨o, g1, g2, g3, g4⟩ := go b H3 h2 m2 s2
                  exact ⟨_, rfl, d, rfl, .inr ⟨_, .inl h2⟩, _, rfl, o, g1, _, rfl, _, _, g2, rfl, _, rfl, _, rfl, d, _, rfl, g3, _, _, _, rfl, upd_same, g4⟩
              · refine .inl ⟨a', _, rfl, s1, rfl, _, _, rfl, _, _, rfl, rfl, ?_⟩
                rcases s2 with s2 | s2
                · refine ⟨_, rfl, b, _, rfl, .inl ⟨s2, fun p np => ?_⟩⟩
                  have npd : p ≠ d := fun z => by rw [z, h2] at np; cases np
                  obtain ⟨o, g1, g2, g3, g4⟩ := go p (upd H3 p (.tup (e.1.map V.int))) (by rw [upd_ne npd.symm]; exact h2) (m2.new np) upd_same
                  exact ⟨_, rfl, d, rfl, .inr ⟨_, .inl (by rw [upd_ne npd.symm]; exact h2)⟩, _, rfl, o, g1, _, rfl, _, _, g2, rfl, _, rfl, _, rfl, d, _, rfl, g3, _, _, _, rfl, upd_same, g4⟩
                · refine ⟨_, rfl, b, _, rfl, .inr ⟨SqT.of s2, ?_⟩⟩
                  obtain ⟨o, g1, g2, g3, g4⟩ := go b H3 h2 m2 s2
                  exact ⟨_, rfl, d, rfl, .inr ⟨_, .inl h2⟩, _, rfl, o, g1, _, rfl, _, _, g2, rfl, _, rfl, _, rfl, d, _, rfl, g3, _, _, _, rfl, upd_same, g4⟩
            · obtain ⟨z4, z5, z6, rfl, h2, m2⟩ := h
              rw [dl, List.take_length] at h2
              exact ⟨z4, z5, z6, rfl, h2, m2⟩
          · refine .inr ⟨_, rfl, t, rfl, ⟨xs, sqT_more (m1.at hd0) s0⟩, for_it (walk_tup (xs := xs)) (fun i σ' H' => ∃ z4 z5 z6, σ' = [some (.ref a), some (.ref t), z, some (.ref d), z4, z5, z6, none, none, none] ∧ H' d = some (.dT (dk (accum [] (l.take i)))) ∧ More H H')
              ⟨none, none, none, rfl, (by exact upd_same), (by exact m1.at hd0)⟩ (fun i σ' H' _ ⟨_, _, _, _, _, m⟩ => sqT_more m s0) ?_ (fun σ' H' h => ?_)⟩
            · rintro i y σ2 H2 H3 hi ⟨z4, z5, z6, rfl, h2, m2⟩ ⟨rfl, hy⟩
              obtain ⟨e, he, a', b, rfl, s1, s2, l3, ea, len⟩ := turn i y H3 hy h2 m2
              have go : ∀ (b' : Addr) (H4 : Hp), H4 d = some (.dT (dk (accum [] (l.take i)))) → More H H4 → H4 b' = some (.tup (e.1.map V.int)) →
                  ∃ o, DGet H4 d (.ref b') o ∧ o.getD (.int 0) = .int (val (accum [] (l.take i)) e.1) ∧ DPut H4 d (.ref b') (.int (val (accum [] (l.take i)) e.1 + e.2)) (upd H4 d (.dT (dk (accum [] (l.take (i + 1)))))) ∧ More H (upd H4 d (.dT (dk (accum [] (l.take (i + 1)))))) := by
                intro b' H4 g1 g2 g3
                obtain ⟨f1, f2, f3⟩ := fin i H4 e b' g1 g2 g3 len ea
                exact ⟨_, f1, valD _ _, f2, f3⟩
              rcases s1 with s1 | s1
              · refine .inr ⟨a', _, rfl, s1, rfl, _, _, rfl, _, _, rfl, rfl, ?_⟩
                rcases s2 with s2 | s2
                · refine ⟨_, rfl, b, _, rfl, .inl ⟨s2, fun p np => ?_⟩⟩
                  have npd : p ≠ d := fun z => by rw [z, h2] at np; cases np
                  obtain ⟨o, g1, g2, g3, g4⟩ := go p (upd H3 p (.tup (e.1.map V.int))) (by rw [upd_ne npd.symm]; exact h2) (m2.new np) upd_same
                  exact ⟨_, rfl, d, rfl, .inr ⟨_, .inl (by rw [upd_ne npd.symm]; exact h2)⟩, _, rfl, o, g1, _, rfl, _, _, g2, rfl, _, rfl, _, rfl, d, _, rfl, g3, _, _, _, rfl, upd_same, g4⟩
                · refine ⟨_, rfl, b, _, rfl, .inr ⟨SqT.of s2, ?_⟩⟩
                  obtain ⟨o, g1, g2, g3, g4⟩ := go b H3 h2 m2 s2
                  exact ⟨_, rfl, d, rfl, .inr ⟨_, .inl h2⟩, _, rfl, o, g1, _, rfl, _, _, g2, rfl, _, rfl, _, rfl, d, _, rfl, g3, _, _, _, rfl, upd_same, g4⟩
              · refine .inl ⟨a', _, rfl, s1, rfl, _, _, rfl, _, _, rfl, rfl, ?_⟩
                rcases s2 with s2 | s2
                · refine ⟨_, rfl, b, _, rfl, .inl ⟨s2, fun p np => ?_⟩⟩
                  have npd : p ≠ d := fun z => by rw [z, h2] at np; cases np
                  obtain ⟨o, g1, g2, g3, g4⟩ := go p (upd H3 p (.tup (e.1.map V.int))) (by rw [upd_ne npd.symm]; exact h2) (m2.new np) upd_same
                  exact ⟨_, rfl, d, rfl, .inr ⟨_, .inl (by rw [upd_ne npd.symm]; exact h2)⟩, _, rfl, o, g1, _, rfl, _, _, g2, rfl, _, rfl, _, rfl, d, _, rfl, g3, _, _, _, rfl, upd_same, g4⟩
                · refine ⟨_, rfl, b, _, rfl, .inr ⟨SqT.of s2, ?_⟩⟩
                  obtain ⟨o, g1, g2, g3, g4⟩ := go b H3 h2 m2 s2
                  exact ⟨_, rfl, d, rfl, .inr ⟨_, .inl h2⟩, _, rfl, o, g1, _, rfl, _, _, g2, rfl, _, rfl, _, rfl, d, _, rfl, g3, _, _, _, rfl, upd_same, g4⟩
            · obtain ⟨z4, z5, z6, rfl, h2, m2⟩ := h
              rw [dl, List.take_length] at h2
              exact ⟨z4, z5, z6, rfl, h2, m2⟩
        · rintro σ2 H2 ⟨z4, z5, z6, rfl, h2, m2⟩
          have nd : (ks (accum [] l)).Nodup := nodup_accum (by exact List.nodup_nil) l
          have va : ∀ k, val (accum [] l) k = tot l k := fun k => by
            rw [val_accum]
            show (0 : Int) + _ = _
            omega
          have lA : (accum [] l).length ≤ 300 := by
            have := len_accum [] l
            rw [List.length_nil] at this
            omega
          have l3 : ∀ e ∈ accum [] l, e.1.length = 3 := accum_all (P := fun k => k.length = 3) l [] (fun _ h => nomatch h) fun e he => by
            obtain ⟨y, _, _, _, _, _, z⟩ := paired_back hl e he
            exact z
          have tv : ∀ k, tot l k = val (accum [] l) k := fun k => (va k).symm
          generalize hA : accum [] l = A at *
          refine ⟨d, .dT (dk A), h2, trivial, fun od => ?_⟩
          have ndA : A.length < sizeLine := small1000 (by omega)
          refine ⟨_, rfl, d, od, rfl, .inr ⟨_, upd_same, fun D hD => lc_it (walk_keysT (kvs := dk A)) (fun i H' => ∃ bs : List (Addr × List Int), H' D = some (.lst (bs.map fun b => V.ref b.1)) ∧ (∀ b ∈ bs, H' b.1 = some (.tup (b.2.map V.int))) ∧
              bs.map (·.2) = (ks (A.take i)).filter (fun k => decide (val A k ≠ 0)) ∧ H' d = some (.frz od (.dT (dk A))) ∧ (∀ b o, b ≠ d → H2 b = some o → H' b = some o)) ⟨[], upd_same, fun _ h => (List.not_mem_nil h).elim, rfl, ?_, ?_⟩ ?_ ?_ ?_⟩⟩
          · have : D ≠ d := fun z => by rw [z, upd_same] at hD; cases hD
            rw [upd_ne this.symm]
            exact upd_same
          · intro b o nb e
            have e' : (upd H2 d (.frz od (.dT (dk A)))) b = some o := by rw [upd_ne nb]; exact e
            rw [upd_ne (ne_of_none e' hD)]
            exact e'
          · exact fun i H' _ ⟨_, _, _, _, h, _⟩ => h
          · rintro i x H3 H4 hi ⟨bs, e1, e2, e3, e4, e5⟩ ⟨rfl, k, v, b, hk, rfl, hb⟩
            obtain ⟨e, he, rfl, rfl⟩ : ∃ e, A[i]? = some e ∧ k = kI e.1 ∧ v = .int e.2 := by
              unfold dk at hk
              rw [List.getElem?_map] at hk
              cases z : A[i]? with
              | none => rw [z] at hk; cases hk
              | some e =>
                rw [z] at hk
                cases hk
                exact ⟨e, rfl, rfl, rfl⟩
            rw [kI_V] at hb
            have mem : e ∈ A := List.mem_of_getElem? he
            have ve : val A e.1 = e.2 := val_at nd mem
            have dg : DGet H4 d (.ref b) (some (.int e.2)) := .inr ⟨dk A, kI e.1, b, .inr ⟨od, e4⟩, rfl, by rw [kI_V]; exact hb, by rw [valS (List.mem_map.mpr ⟨e, mem, rfl⟩), ve]⟩
            have tk : ks (A.take (i + 1)) = ks (A.take i) ++ [e.1] := by
              rw [take_snoc he]
              unfold ks
              rw [List.map_append]
              rfl
            refine ⟨rfl, _, rfl, _, rfl, d, _, rfl, dg, rfl, _, rfl, ?_⟩
            rw [show (!decide (V.int e.2 = V.int 0)) = decide (e.2 ≠ 0) by rw [deI]; by_cases z : e.2 = 0 <;> simp [z]]
            refine ite2 (fun z => ?_) (fun z => ?_)
            · have z := of_decide_eq_true z
              refine ⟨_, rfl, _, e1, ?_, bs ++ [(b, e.1)], ?_, ?_, ?_, ?_, ?_⟩
              · have l1 : (bs.map (·.2)).length ≤ (ks (A.take i)).length := by rw [e3]; exact List.length_filter_le _ _
                unfold ks at l1
                rw [List.length_map, List.length_map, List.length_take] at l1
                rw [List.length_map]
                exact small1000 (by omega)
              · rw [upd_same, List.map_append]; rfl
              · intro c hc
                rcases List.mem_append.mp hc with hc | hc
                · rw [upd_ne (ne_of (e2 c hc) e1 (by intro z; cases z))]
                  exact e2 c hc
                · rw [List.mem_singleton] at hc
                  subst hc
                  rw [upd_ne (ne_of hb e1 (by intro z; cases z))]
                  exact hb
              · rw [List.map_append, e3, tk, List.filter_append, List.filter_cons_of_pos (by rw [ve]; exact decide_eq_true z)]
                rfl
              · rw [upd_ne (ne_of e4 e1 (by intro z; cases z))]
                exact e4
              · intro c o nc ec
                have e' : (upd H2 d (.frz od (.dT (dk A)))) c = some o := by rw [upd_ne nc]; exact ec
                rw [upd_ne (ne_of_none e' hD)]
                exact e5 c o nc ec
            · refine ⟨bs, e1, e2, ?_, e4, e5⟩
              rw [e3, tk, List.filter_append, List.filter_cons_of_neg (by rw [ve]; exact fun q => z q)]
              exact (List.append_nil _).symm
          · rintro H3 ⟨bs, e1, e2, e3, e4, e5⟩
            rw [show (dk A).length = A.length from dk_len A, List.take_length] at e3
            have nDd : D ≠ d := ne_of e1 e4 (by intro z; cases z)
            have off : ∀ b o, b ≠ d → H3 b = some o → (upd H3 d (.dT (dk A))) b = some o := fun b o nb e => by rw [upd_ne nb]; exact e
            have l0 : ∀ b ∈ bs, b.2.length = 3 := fun b hb => by
              have : b.2 ∈ (ks A).filter (fun k => decide (val A k ≠ 0)) := by rw [← e3]; exact List.mem_map.mpr ⟨b, hb, rfl⟩
              obtain ⟨e, he, q⟩ := List.mem_map.mp (List.mem_filter.mp this).1
              rw [← q]
              exact l3 e he
            refine ⟨e4, D, bs, rfl, SqL.of (off _ _ nDd e1), fun b hb => ⟨SqT.of (off _ _ (ne_of (e2 b hb) e4 (by intro z; cases z)) (e2 b hb)), fun z => by have := l0 b hb; rw [z] at this; cases this⟩, fun p np => ?_⟩
            have fm : Form (tot l) ((bs.mergeSort leI).map (·.2)) := sort_form (by rw [e3]; exact List.Pairwise.filter _ nd) fun k => by
              rw [e3, List.mem_filter, decide_eq_true_eq, va]
              exact ⟨fun z => z.2, fun z => ⟨val_off (by rw [va]; exact z), z⟩⟩
            have perm := List.mergeSort_perm bs leI
            have sl : ∀ b ∈ bs.mergeSort leI, (upd (upd H3 d (.dT (dk A))) p (.lst ((bs.mergeSort leI).map fun b => V.ref b.1))) b.1 = some (.tup (b.2.map V.int)) ∧ b.2.length = 3 ∧ b.2 ∈ ks A := fun b hb => by
              have hb := perm.mem_iff.mp hb
              have h1 := off _ _ (ne_of (e2 b hb) e4 (by intro z; cases z)) (e2 b hb)
              refine ⟨by rw [upd_ne (ne_of_none h1 np)]; exact h1, l0 b hb, ?_⟩
              have : b.2 ∈ (ks A).filter (fun k => decide (val A k ≠ 0)) := by rw [← e3]; exact List.mem_map.mpr ⟨b, hb, rfl⟩
              exact (List.mem_filter.mp this).1
            have slen : (bs.mergeSort leI).length ≤ 300 := by
              rw [List.length_mergeSort]
              have l1 : (bs.map (·.2)).length ≤ (ks A).length := by rw [e3]; exact List.length_filter_le _ _
              unfold ks at l1
              rw [List.length_map, List.length_map] at l1
              omega
            have d5 : (upd (upd H3 d (.dT (dk A))) p (.lst ((bs.mergeSort leI).map fun b => V.ref b.1))) d = some (.dT (dk A)) := by
              have h1 : (upd H3 d (.dT (dk A))) d = some (.dT (dk A)) := upd_same
              rw [upd_ne (ne_of_none h1 np)]
              exact h1
            have m5 : ∀ b o, b ≠ d → H2 b = some o → (upd (upd H3 d (.dT (dk A))) p (.lst ((bs.mergeSort leI).map fun b => V.ref b.1))) b = some o := fun b o nb e => by
              have h1 := off b o nb (e5 b o nb e)
              rw [upd_ne (ne_of_none h1 np)]
              exact h1
            have p5 : (upd (upd H3 d (.dT (dk A))) p (.lst ((bs.mergeSort leI).map fun b => V.ref b.1))) p = some (.lst ((bs.mergeSort leI).map fun b => V.ref b.1)) := upd_same
            generalize upd (upd H3 d (.dT (dk A))) p (.lst ((bs.mergeSort leI).map fun b => V.ref b.1)) = H5 at sl d5 m5 p5 ⊢
            generalize bs.mergeSort leI = sb at *
            clear e1 e2 e3 perm
            have ha5 : H5 a = some (.ins C dx []) := m5 a _ nad (m2 a _ ha)
            have mH5 : ∀ b o, H b = some o → H5 b = some o := fun b o e => m5 b o (ne_of_none e hd0) (m2 b o e)
            -- self.terms
            refine ⟨_, rfl, p, rfl, ⟨_, SqL.of p5⟩, fun D1 hD1 => lc_it (walk_list (xs := sb.map fun b => V.ref b.1)) (fun i H' => ∃ L : List It3, H' D1 = some (.lst (L.map fun e => V.ref e.p)) ∧
                (∀ e ∈ L, H' e.p = some (.tup [.ref e.b, .int e.n]) ∧ H' e.b = some (.tup (e.k.map V.int))) ∧ (L.map fun e => (e.k, e.n)) = (sb.take i).map (fun b => (b.2, tot l b.2)) ∧ More H5 H')
              ⟨[], upd_same, fun _ h => (List.not_mem_nil h).elim, rfl, More.new (fun _ _ e => e) hD1⟩ (fun i H' _ ⟨_, _, _, _, m⟩ => SqL.of (m _ _ p5)) ?_ ?_⟩
            · rintro i x H6 H7 hi ⟨L, g1, g2, g3, g4⟩ ⟨rfl, hx⟩
              obtain ⟨b0, hb0, rfl⟩ : ∃ b0, sb[i]? = some b0 ∧ x = .ref b0.1 := by
                rw [List.getElem?_map] at hx
                cases z : sb[i]? with
                | none => rw [z] at hx; cases hx
                | some b0 => rw [z] at hx; exact ⟨b0, rfl, (Option.some.inj hx).symm⟩
              obtain ⟨q1, q2, q3⟩ := sl b0 (List.mem_of_getElem? hb0)
              have dg : DGet H7 d (.ref b0.1) (some (.int (tot l b0.2))) := by
                have z := DGet.t (k := kI b0.2) (g4 _ _ d5) (by rw [kI_V]; exact g4 _ _ q1)
                rw [valS q3, va] at z
                exact z
              refine ⟨rfl, _, rfl, _, rfl, _, rfl, d, _, rfl, dg, (by show 2 ≤ sizeLine; decide), fun q nq => ?_⟩
              have nqD : D1 ≠ q := ne_of_none g1 nq
              have ll : L.length ≤ 300 := by
                have := congrArg List.length g3
                rw [List.length_map, List.length_map, List.length_take] at this
                omega
              refine ⟨_, by rw [upd_ne nqD]; exact g1, by rw [List.length_map]; exact small1000 (by omega), L ++ [⟨q, b0.1, b0.2, tot l b0.2⟩], ?_, ?_, ?_, ?_⟩
              · rw [upd_same, List.map_append]; rfl
              · intro e he
                have off : ∀ c o, c ≠ D1 → H7 c = some o → (upd (upd H7 q (.tup [.ref b0.1, .int (tot l b0.2)])) D1 (.lst ((L.map fun e => V.ref e.p) ++ [.ref q]))) c = some o := fun c o nc e => by
                  rw [upd_ne nc, upd_ne (ne_of_none e nq)]; exact e
                rcases List.mem_append.mp he with he | he
                · obtain ⟨k1, k2⟩ := g2 e he
                  exact ⟨off _ _ (ne_of k1 g1 (by intro z; cases z)) k1, off _ _ (ne_of k2 g1 (by intro z; cases z)) k2⟩
                · rw [List.mem_singleton] at he
                  subst he
                  refine ⟨?_, off _ _ (ne_of (g4 _ _ q1) g1 (by intro z; cases z)) (g4 _ _ q1)⟩
                  show (upd (upd H7 q (.tup [.ref b0.1, .int (tot l b0.2)])) D1 _) q = _
                  rw [upd_ne nqD.symm, upd_same]
              · rw [List.map_append, g3, take_snoc hb0, List.map_append]; rfl
              · intro c o e
                have e' := g4 c o e
                rw [upd_ne (ne_of_none e hD1), upd_ne (ne_of_none e' nq)]
                exact e'
            · rintro H6 ⟨L, g1, g2, g3, g4⟩
              rw [List.length_map, List.take_length] at g3
              refine ⟨D1, _, rfl, .inl ⟨SqL.of g1, fun t1 nt1 => ?_⟩⟩
              have nat1 : a ≠ t1 := ne_of_none (g4 _ _ ha5) nt1
              refine ⟨_, rfl, a, C, dx, [], rfl, by rw [upd_ne nat1]; exact g4 _ _ ha5, cl, n1, by show 0 < 1000; decide, ?_⟩
              have off : ∀ c o, c ≠ a → H6 c = some o → (upd (upd H6 t1 (.tup (L.map fun e => V.ref e.p))) a (.ins C dx (putF "terms" (.ref t1) []))) c = some o := fun c o nc e => by
                rw [upd_ne nc, upd_ne (ne_of_none e nt1)]; exact e
              have T7 : TAt (upd (upd H6 t1 (.tup (L.map fun e => V.ref e.p))) a (.ins C dx (putF "terms" (.ref t1) []))) t1 ((sb.map (·.2)).map fun k => (k, tot l k)) := by
                refine ⟨L, by rw [upd_ne nat1.symm, upd_same], fun e he => ?_, by rw [g3, List.map_map]; rfl⟩
                obtain ⟨k1, k2⟩ := g2 e he
                exact ⟨off _ _ (ne_of k1 (g4 _ _ ha5) (by intro z; cases z)) k1, off _ _ (ne_of k2 (g4 _ _ ha5) (by intro z; cases z)) k2⟩
              have ha7 : (upd (upd H6 t1 (.tup (L.map fun e => V.ref e.p))) a (.ins C dx (putF "terms" (.ref t1) []))) a = some (.ins C dx [("terms", .ref t1)]) := upd_same
              have m7 : ∀ c o, c ≠ a → H5 c = some o → (upd (upd H6 t1 (.tup (L.map fun e => V.ref e.p))) a (.ins C dx (putF "terms" (.ref t1) []))) c = some o := fun c o nc e => off c o nc (g4 c o e)
              generalize upd (upd H6 t1 (.tup (L.map fun e => V.ref e.p))) a (.ins C dx (putF "terms" (.ref t1) [])) = H7 at T7 ha7 m7 ⊢
              clear g1 g2 g3 g4
              have p7 := m7 p _ (ne_of p5 ha5 (by intro z; cases z)) p5
              have sl7 : ∀ b ∈ sb, H7 b.1 = some (.tup (b.2.map V.int)) ∧ b.2.length = 3 := fun b hb => ⟨m7 _ _ (ne_of (sl b hb).1 ha5 (by intro z; cases z)) (sl b hb).1, (sl b hb).2.1⟩
              -- self.reach
              refine ⟨3, rfl, by decide, by decide, fun D2 hD2 => lc_range (lo := 0) (n := 3) (fun i H' => ∃ ms : List Int, H' D2 = some (.lst (ms.map V.int)) ∧ ms.length = i ∧ (∀ j m, ms[j]? = some m → Gr (sb.map (·.2)) j m) ∧ More H7 H')
                ⟨[], upd_same, rfl, fun j m h => (by rw [List.getElem?_nil] at h; cases h), More.new (fun _ _ e => e) hD2⟩ ?_ ?_⟩
              · rintro i H8 hi ⟨ms, g1, g2, g3, g4⟩
                have fin : ∀ (H9 : Hp) (m : Int), More H8 H9 → Gr (sb.map (·.2)) i m → ∃ acc, H9 D2 = some (.lst acc) ∧ acc.length < sizeLine ∧ ∃ ms : List Int, (upd H9 D2 (.lst (acc ++ [V.int m]))) D2 = some (.lst (ms.map V.int)) ∧ ms.length = i + 1 ∧
                    (∀ j m, ms[j]? = some m → Gr (sb.map (·.2)) j m) ∧ More H7 (upd H9 D2 (.lst (acc ++ [V.int m]))) := by
                  intro H9 m m9 gr
                  refine ⟨_, m9 _ _ g1, by rw [List.length_map]; exact small1000 (by omega), ms ++ [m], by rw [upd_same, List.map_append]; rfl, by rw [List.length_append, g2]; rfl, fun j m' hj => ?_, fun c o e => ?_⟩
                  · by_cases lt : j < ms.length
                    · rw [List.getElem?_append_left lt] at hj
                      exact g3 j m' hj
                    · have := (List.getElem?_eq_some_iff.mp hj).1
                      rw [List.length_append] at this
                      have this : j < ms.length + 1 := this
                      have ej : j = ms.length := by omega
                      subst ej
                      rw [List.getElem?_append_right (Nat.le_refl _), Nat.sub_self] at hj
                      cases hj
                      rw [g2]
                      exact gr
                  · rw [upd_ne (ne_of_none e hD2)]
                    exact m9 c o (g4 c o e)
                refine ⟨rfl, _, rfl, p, rfl, ⟨_, SqL.of (g4 _ _ p7)⟩, fun D3 hD3 => lc_it (walk_list (xs := sb.map fun b => V.ref b.1)) (fun j H' => H' D3 = some (.lst (((sb.take j).map fun b => ((b.2.getD i 0).natAbs : Int)).map V.int)) ∧ More H8 H')
                  ⟨upd_same, More.new (fun _ _ e => e) hD3⟩ (fun i H' _ h => SqL.of (h.2 _ _ (g4 _ _ p7))) ?_ ?_⟩
                · rintro j x H9 H10 hj ⟨k1, k2⟩ ⟨rfl, hx⟩
                  obtain ⟨b0, hb0, rfl⟩ : ∃ b0, sb[j]? = some b0 ∧ x = .ref b0.1 := by
                    rw [List.getElem?_map] at hx
                    cases z : sb[j]? with
                    | none => rw [z] at hx; cases hx
                    | some b0 => rw [z] at hx; exact ⟨b0, rfl, (Option.some.inj hx).symm⟩
                  obtain ⟨q1, q2⟩ := sl7 b0 (List.mem_of_getElem? hb0)
                  have li : i < b0.2.length := by rw [q2]; exact hi
                  have at_ : (b0.2.map V.int)[i]? = some (V.int (b0.2.getD i 0)) := by
                    rw [List.getElem?_map, List.getD_eq_getElem?_getD, List.getElem?_eq_getElem li]
                    rfl
                  refine ⟨rfl, _, rfl, _, rfl, b0.1, _, _, _, rfl, rfl, SqT.of (k2 _ _ (g4 _ _ q1)), at_of (Int.zero_add _) at_, _, rfl, _, k1, ?_, ?_, ?_⟩
                  · rw [List.length_map, List.length_map, List.length_take]
                    exact small1000 (by omega)
                  · rw [upd_same, take_snoc hb0, List.map_append, List.map_append]
                    have : (if b0.2.getD i 0 < 0 then -b0.2.getD i 0 else b0.2.getD i 0) = ((b0.2.getD i 0).natAbs : Int) := by
                      generalize b0.2.getD i 0 = y
                      by_cases z : y < 0
                      · rw [if_pos z]; omega
                      · rw [if_neg z]; omega
                    rw [this]
                    rfl
                  · intro c o e
                    rw [upd_ne (ne_of_none e hD3)]
                    exact k2 c o e
                · rintro H9 ⟨k1, k2⟩
                  rw [List.length_map, List.take_length] at k1
                  refine ⟨D3, _, 0, rfl, rfl, SqL.of k1, fun z => ?_, fun m hm up => ?_⟩
                  · have z : sb = [] := List.map_eq_nil_iff.mp z
                    refine fin H9 0 k2 ⟨.inl rfl, by decide, fun k hk => ?_⟩
                    rw [z] at hk
                    cases hk
                  · obtain ⟨b0, hb0, rfl⟩ := List.mem_map.mp hm
                    refine fin H9 _ k2 ⟨.inr ⟨b0.2, List.mem_map.mpr ⟨b0, hb0, rfl⟩, rfl⟩, by omega, fun k hk => ?_⟩
                    obtain ⟨b1, hb1, rfl⟩ := List.mem_map.mp hk
                    exact up _ (List.mem_map.mpr ⟨b1, hb1, rfl⟩)
              · rintro H8 ⟨ms, g1, g2, g3, g4⟩
                match ms, g2 with
                | [r0, r1, r2], _ =>
                refine ⟨D2, _, rfl, .inl ⟨SqL.of g1, fun t2 nt2 => ?_⟩⟩
                have ha8 := g4 _ _ ha7
                have nat2 : a ≠ t2 := ne_of_none ha8 nt2
                refine ⟨_, rfl, a, C, dx, _, rfl, by rw [upd_ne nat2]; exact ha8, cl, n2, by show 1 < 1000; decide, ?_⟩
                refine ⟨_, rfl, _, rfl, a, C, dx, _, rfl, upd_same, cl, n3, by show 2 < 1000; decide, ?_⟩
                rw [upd_upd]
                have off : ∀ (o' : HO) c o, c ≠ a → H7 c = some o → (upd (upd H8 t2 (.tup ([r0, r1, r2].map V.int))) a o') c = some o := fun o' c o nc e => by
                  have e' := g4 c o e
                  rw [upd_ne nc, upd_ne (ne_of_none e' nt2)]
                  exact e'
                obtain ⟨L, u1, u2, u3⟩ := T7
                have ek : ks ((sb.map (·.2)).map fun k => (k, tot l k)) = sb.map (·.2) := by
                  unfold ks
                  rw [List.map_map]
                  exact List.map_id _
                refine q _ (fun b o e nb => ?_) ⟨dx, t1, t2, d, _, _, A, r0, r1, r2, upd_same, rfl, rfl, rfl, ⟨L, off _ _ _ (ne_of u1 ha7 (by intro z; cases z)) u1, fun e he => ?_, u3⟩, ⟨_, fm, rfl⟩, ?_, ?_, ?_, nd, va, lA, l3⟩
                · exact off _ _ _ nb (m7 _ _ nb (mH5 b o e))
                · obtain ⟨k1, k2⟩ := u2 e he
                  exact ⟨off _ _ _ (ne_of k1 ha7 (by intro z; cases z)) k1, off _ _ _ (ne_of k2 ha7 (by intro z; cases z)) k2⟩
                · rw [upd_ne nat2.symm, upd_same]
                  rfl
                · rw [ek]
                  exact ⟨g3 0 r0 rfl, g3 1 r1 rfl, g3 2 r2 rfl⟩
                · exact off _ _ _ nad.symm (m7 _ _ nad.symm d5)
    · refine ⟨fun _ _ => False, ?_, fun _ _ h => h.elim⟩
      have li : i0 < xs.length := (List.getElem?_eq_some_iff.mp hx0).1
      rcases sq with s | s
      · refine .inl ⟨_, rfl, t, rfl, ⟨xs, s⟩, for_it walk_list (fun i σ' H' => i ≤ i0 ∧ ∃ z, σ' = [some (.ref a), some (.ref t), z, none, none, none, none, none, none, none] ∧ More H H') ⟨Nat.zero_le _, _, rfl, fun _ _ e => e⟩ (fun i σ' H' _ ⟨_, _, _, m⟩ => Same.seq m s) ?_ (fun _ _ h => by have := h.1; omega)⟩
        rintro i y σ2 H2 H3 hi ⟨le, z, rfl, m2⟩ ⟨rfl, hy⟩
        by_cases e : i = i0
        · subst e
          rw [hx0] at hy
          cases hy
          exact ⟨_, rfl, x0, rfl, .inr ⟨no.more m2, fun H' mo => ⟨_, rfl, iteT ⟨_, rfl, mk_ini rfl (by show 1 ≤ 900; decide) (q H' fun b o q => mo b o (m2 b o q))⟩⟩⟩⟩
        · obtain ⟨ds, n, tr⟩ := before i y (by omega) hy
          exact ⟨_, rfl, y, rfl, .inl ⟨ds, n, tr.more m2, fun H' mo => ⟨_, rfl, iteF ⟨by omega, _, rfl, fun b o q => mo b o (m2 b o q)⟩⟩⟩⟩
      · refine .inr ⟨_, rfl, t, rfl, ⟨xs, s⟩, for_it walk_tup (fun i σ' H' => i ≤ i0 ∧ ∃ z, σ' = [some (.ref a), some (.ref t), z, none, none, none, none, none, none, none] ∧ More H H') ⟨Nat.zero_le _, _, rfl, fun _ _ e => e⟩ (fun i σ' H' _ ⟨_, _, _, m⟩ => sqT_more m s) ?_ (fun _ _ h => by have := h.1; omega)⟩
        rintro i y σ2 H2 H3 hi ⟨le, z, rfl, m2⟩ ⟨rfl, hy⟩
        by_cases e : i = i0
        · subst e
          rw [hx0] at hy
          cases hy
          exact ⟨_, rfl, x0, rfl, .inr ⟨no.more m2, fun H' mo => ⟨_, rfl, iteT ⟨_, rfl, mk_ini rfl (by show 1 ≤ 900; decide) (q H' fun b o q => mo b o (m2 b o q))⟩⟩⟩⟩
        · obtain ⟨ds, n, tr⟩ := before i y (by omega) hy
          exact ⟨_, rfl, y, rfl, .inl ⟨ds, n, tr.more m2, fun H' mo => ⟨_, rfl, iteF ⟨by omega, _, rfl, fun b o q => mo b o (m2 b o q)⟩⟩⟩⟩
end
end K14

namespace L2
open PySem PySem.Spec PyProof.Rows
/-! ### x == y, x != y by an own __eq__ of the class of x -/
section
variable {X : Cx} {CX : CXT} {C f : Addr} {fd : FuncData} {ps : List Str} {sp : Sp} {n : Nat} {E : XK}
def OthT (K : PySem.W.Frag) (H : Hp) (C : Addr) (y : V) (t : Value) : Prop := TyX K H y t ∨ ∃ b dy gs, y = .ref b ∧ H b = some (.ins C dy gs) ∧ t = .ref C
def rOwnE (K : PySem.W.Frag) (C : Addr) (sp : Sp) (E : XK) : R2 := fun x y H Q => ∃ a dx fs t, x = .ref a ∧ H a = some (.ins C dx fs) ∧ OthT K H C y t ∧ PySem.W.notFirst K C t = true ∧ sp [x, y] H Q E
theorem oth_looks {pins : List (Addr × Obj)} {σ : L2.St} {H : Hp} {s : Shared} {y : V} {u t : Value} (I : Inv X pins σ H s) (ry : RelV y u) (o : OthT X.K H C y t) : PySem.W.Looks (model X.prog X.w) s.heap (typeOf u) t := by
  obtain ty | ⟨b, dy, gs, rfl, hb, rfl⟩ := o
  · obtain ⟨P, k, p, _⟩ := kit_of I ry ty
    exact k.ty _ _ I.kIn p
  · cases ry
    obtain ⟨mB, J, _⟩ := ins_get I.hok hb
    obtain ⟨od, J, _⟩ := J.look
    exact J.type
theorem rc_own {op : CmpOp} (hs : PySem.W.findIn X.K (.ref C) (cmpInfo op).2.1 = some (some (.ref f))) (hf : PySem.W.isFn X.K (.ref f) = true) (F : FnR X.prog X.w X.K X.mg X.base CX n f sp)
    (hr : Room n X.A) (hx : Passes CX X E) : OpR X (fun a b => richCompare op a b) (rOwnE X.K C sp E) := by
  intro pins s σ H x y v u Q I rx ry h
  obtain ⟨a, dx, fs, t, rfl, ha, o, hn, q⟩ := h
  cases (show v = Value.ref a from rx)
  obtain ⟨mA, J, _⟩ := ins_get I.hok ha
  obtain ⟨od, J, _⟩ := J.look
  obtain ⟨m, hF⟩ := I.fr
  refine PySem.W.cmp_K (op := op) (tb := t) hr.units0 hF I.ok.mod.kin J (oth_looks I ry o) hn hs hf ?_
  refine wpAny_mono (wpAny_call (run_fnR (us := [.ref a, u]) (vs := [.ref a, y]) F hr hx I (.cons rfl (.cons ry .nil)) q)) (fun w s' z => ?_) fun _ _ x => x
  obtain ⟨z', H', I', rz, qz⟩ := z
  exact SlX.cmpback rz ⟨z', H', I', rz, qz⟩
theorem op_eqOwn (hs : PySem.W.findIn X.K (.ref C) "__eq__" = some (some (.ref f))) (hf : PySem.W.isFn X.K (.ref f) = true) (F : FnOk X.prog X.w X.K X.mg X.base CX n f fd ps sp) (hb : Binds X.K fd ps [])
    (hr : Room n X.A) (hx : Passes CX X E) : OpR X (compareOp .Eq) (rOwnE X.K C sp E) := by
  intro pins s σ H x y v u Q I rx ry h
  have F2 := F.raw (sp := sp) hb .nil
  obtain ⟨a, dx, fs, t, e1, ha, o, hn, q⟩ := h
  exact rc_own (op := .Eq) hs hf F2 hr hx pins s σ H x y v u Q I rx ry ⟨a, dx, fs, t, e1, ha, o, hn, by show sp ([x, y] ++ []) H Q E; rw [List.append_nil]; exact q⟩
end
end L2

namespace K14
open PySem L2 Gd Ply
/-! ### terms as data -/
def dI (k : List Int) : PyData := .tuple (k.map .int)
def dE (e : List Int × Int) : PyData := .tuple [dI e.1, .int e.2]
def dT (l : Po) : PyData := .tuple (l.map dE)
theorem lay_ints : ∀ k : List Int, PyData.canLayAll0 (k.map .int) = true
  | [] => by simp [PyData.canLayAll0]
  | x :: k => by
    rw [List.map_cons]
    simp only [PyData.canLayAll0, PyData.canLay0, lay_ints k, Bool.and_self]
theorem lay_es : ∀ l : Po, PyData.canLayAll0 (l.map dE) = true
  | [] => by simp [PyData.canLayAll0]
  | e :: l => by
    rw [List.map_cons]
    simp only [PyData.canLayAll0, dE, dI, PyData.canLay0, lay_ints, lay_es l, Bool.and_self]
theorem dep_ints : ∀ k : List Int, PyData.depthAll (k.map .int) = 0
  | [] => by simp [PyData.depthAll]
  | x :: k => by
    rw [List.map_cons]
    simp [PyData.depthAll, PyData.depth, dep_ints k]
theorem dep_es : ∀ l : Po, PyData.depthAll (l.map dE) ≤ 2
  | [] => by simp [PyData.depthAll]
  | e :: l => by
    have := dep_es l
    rw [List.map_cons]
    simp only [PyData.depthAll, dE, dI, PyData.depth, dep_ints]
    omega
theorem lay_T (l : Po) : (dT l).canLay0 = true := by
  unfold dT
  simp only [PyData.canLay0, lay_es]
theorem shaped_T (l : Po) : SeqAt.shaped (dT l) = true := by
  unfold SeqAt.shaped
  rw [lay_T, Bool.true_and, decide_eq_true_eq]
  have := dep_es l
  unfold dT
  simp only [PyData.depth]
  omega
/-- the two have the same terms -/
def same (l m : Po) : Bool := PyData.eqv (dT l) (dT m)
theorem same_refl (l : Po) : same l l = true := SeqAt.eqv_refl _ (lay_T l)
theorem dp_ints {K : PySem.W.Frag} {H : Hp} : ∀ k : List Int, DpAll K H (k.map V.int) (k.map .int)
  | [] => .nil
  | x :: k => .cons (.int x) (dp_ints k)
theorem dp_T {K : PySem.W.Frag} {H : Hp} {t : Addr} {l : Po} (h : TAt H t l) : Dp K H (.ref t) (dT l) := by
  obtain ⟨L, h1, h2, rfl⟩ := h
  have all : ∀ L : List It3, (∀ e ∈ L, H e.p = some (.tup [.ref e.b, .int e.n]) ∧ H e.b = some (.tup (e.k.map V.int))) → DpAll K H (L.map fun e => V.ref e.p) ((L.map fun e => (e.k, e.n)).map dE) := by
    intro L
    induction L with
    | nil => intro _; exact .nil
    | cons e L ih =>
      intro h
      obtain ⟨h3, h4⟩ := h e (.head _)
      exact .cons (.tup (SqT.of h3) (.cons (.tup (SqT.of h4) (dp_ints _)) (.cons (.int _) .nil))) (ih fun x hx => h x (.tail _ hx))
  exact .tup (SqT.of h1) (all L h2)
def cst (n : Int) : Po := if n = 0 then [] else [([0, 0, 0], n)]
def spCt (K : PySem.W.Frag) : Sp := fun vs H Q _ => ∃ n : Int, vs = [.int n] ∧ ∀ H' r, More H H' → Dp K H' (.ref r) (dT (cst n)) → Q (.ref r) H'
def spEq (K : PySem.W.Frag) (C : Addr) : Sp := fun vs H Q _ => ∃ (a : Addr) (y : V) (f : List Int → Int), vs = [.ref a, y] ∧ Pob H C a f ∧
  ((∃ n, y = .int n ∧ ∀ l H', Canon f l → More H H' → Q (.bl (same l (cst n))) H') ∨ (NoInt K H y ∧ ∀ H', More H H' → Q (.bl false) H') ∨
    ∃ b g, y = .ref b ∧ Pob H C b g ∧ ∀ l m H', Canon f l → Canon g m → More H H' → Q (.bl (same l m)) H')
section
variable {P : Program} {w : World} {K : PySem.W.Frag} {mg : Str → Option Value} {base : Heap}
variable {fI fT f C N0 : Addr} {fdI fdT fd : FuncData}
abbrev sCt : Stmt := top 35
abbrev sEq : Stmt := inClass (top 32) 8
theorem scCt : FnScope ["number"] ["number"] (defScope sCt) := ⟨rfl, rfl, rfl, by decide +kernel, rfl, by decide +kernel, by decide +kernel⟩
theorem scEq : FnScope ["self", "other"] ["self", "other"] (defScope sEq) := ⟨rfl, rfl, rfl, by decide +kernel, rfl, by decide +kernel, by decide +kernel⟩
/-- what is asked of the class -/
structure PwC (K : PySem.W.Frag) (mg : Str → Option Value) (C : Addr) : Prop where
  ic : C8.InsC K C
  n1 : NoAttr K C "terms"
  n2 : NoAttr K C "reach"
  n3 : NoAttr K C "_numbers"
  g : mg "Powers" = some (.ref C)
  ni : PySem.W.kitOne K (.ref C) (.type "int") = some false
  no : ∀ n ∈ offInt, PySem.W.kitOne K (.type n) (.ref C) = some false
theorem Pob.ty (W : PwC K mg C) {H : Hp} {a : Addr} {g : List Int → Int} (h : Pob H C a g) : TyX K H (.ref a) (.ref C) := by
  obtain ⟨dx, t, r, d, fs, l, p, m0, m1, m2, h1, _⟩ := h.ex
  exact .base (.ins h1 W.ic.cl W.ic.ha W.ic.hn W.ic.htk W.ic.hm)
theorem ok_ct (F : Fun K "constant_terms" "constant_terms" sCt f fd) (gN : mg "NO_LETTER" = some (.ref N0)) (tN : tupI K (.ref N0) = some [0, 0, 0]) : FnOk P w K mg base CX0 1 f fd ["number"] (spCt K) := by
  refine F.ok scCt (fun vs H Q E h => ?_) (fun cdv A outer s H vs Q E hr h => ?_)
  · obtain ⟨n, rfl, _⟩ := h
    rfl
  · obtain ⟨n, rfl, q⟩ := h
    have hT : ∀ H, SqT K H N0 ([0, 0, 0].map V.int) := by
      intro H
      obtain ⟨a, us, n, sl, ea, hk, rv⟩ := tupI_some tN
      cases ea
      refine .inr ⟨_, us, n, hk, rfl, rfl, ?_, rv⟩
      have z := Paired.length rv
      have z2 : us.toList.length = us.size := Array.length_toList
      rw [← z2, ← z, sizeLine_eq]
      show 3 ≤ 16777216
      decide
    refine ⟨_, pss_one (ps_ret (pe_ifExp (pt_cmpR op_ne (pv 0) pe_int (nomark _)) (pe_tup (pa_cons (pe_tup (pa_cons (pe_glob (v := .ref N0) rfl gN rfl) (pa_cons (pv 0) pa_nil))) pa_nil)) (pe_tup pa_nil))), ?_⟩
    refine ⟨_, rfl, rfl, _, rfl, ?_⟩
    rw [show (!decide (V.int n = V.int 0)) = decide (n ≠ 0) by rw [deI]; by_cases z : n = 0 <;> simp [z]]
    refine ite2 (fun z => ?_) (fun z => ?_)
    · have z := of_decide_eq_true z
      refine ⟨_, rfl, by show 2 ≤ sizeLine; decide, fun p np => ⟨by show 1 ≤ sizeLine; decide, fun r nr => q _ _ ((More.new (fun _ _ e => e) np).new nr) ?_⟩⟩
      unfold cst
      rw [if_neg z]
      exact .tup (SqT.of upd_same) (.cons (.tup (SqT.of (by rw [upd_ne (ne_of_none upd_same nr)]; exact upd_same)) (.cons (.tup (hT _) (dp_ints _)) (.cons (.int _) .nil))) .nil)
    · have z : n = 0 := by
        by_cases e : n = 0
        · exact e
        · exact absurd (decide_eq_true e) z
      refine ⟨by show 0 ≤ sizeLine; decide, fun r nr => q _ _ (More.new (fun _ _ e => e) nr) ?_⟩
      unfold cst
      rw [if_pos z]
      exact .tup (SqT.of upd_same) .nil
theorem ok_eq (F : Fun K "__eq__" "Powers.__eq__" sEq f fd) (B : Blt mg) (W : PwC K mg C) (I : Cl K mg "is_integer" sIsI ["value"] fI fdI) (T : Cl K mg "constant_terms" sCt ["number"] fT fdT)
    (gN : mg "NO_LETTER" = some (.ref N0)) (tN : tupI K (.ref N0) = some [0, 0, 0]) : FnOk P w K mg base CX0 2 f fd ["self", "other"] (spEq K C) := by
  have GI : FnOk P w K mg base CX0 1 fI fdI ["value"] (spIsI K) := ok_isI I.fn B.isi_ B.int_ B.bool_
  have GT : FnOk P w K mg base CX0 1 fT fdT ["number"] (spCt K) := ok_ct T.fn gN tN
  refine F.ok scEq (fun vs H Q E h => ?_) (fun cdv A outer s H vs Q E hr h => ?_)
  · obtain ⟨a, y, f, rfl, _⟩ := h
    rfl
  · obtain ⟨a, y, g, rfl, pa, h⟩ := h
    have hu64 := hr.units
    refine ⟨_, pss_cons (ps_if (pt_val (pe_call GI hr rfl I.g I.k I.b .nil pass0 (pa_cons (pv 1) pa_nil)))
        (pss_one (ps_ret (pe_cmpR (op_eqD hu64) (pe_fld (pv 0) rfl) (pe_call GT hr rfl T.g T.k T.b .nil pass0 (pa_cons (pv 1) pa_nil)) (nomark _)))) pss_nil)
      (pss_one (ps_ret (pe_and (pe_callB call_isi (by rfl) B.isi_ (by decide +kernel) (pa_cons (pv 1) (pa_cons (pe_glob (v := .ref C) rfl W.g rfl) pa_nil)))
        (pe_one (pe_cmpR (op_eqD hu64) (pe_fld (pv 0) rfl) (pe_fld (pv 1) rfl) (nomark _)))))), ?_⟩
    obtain ⟨dx, t, r, d, fs, l, p, m0, m1, m2, h1, h2, h3, h4, h5, h6, _⟩ := pa.ex
    obtain ⟨n, rfl, q⟩ | ⟨no, q⟩ | ⟨b, g2, rfl, pb, q⟩ := h
    · refine ⟨_, rfl, _, rfl, .inl ⟨n, rfl, _, rfl, iteT ?_⟩⟩
      refine ⟨_, rfl, a, C, dx, fs, _, rfl, h1, W.ic.cl, W.n1, h2, _, rfl, n, rfl, fun H' x mo dp => ?_⟩
      exact ⟨_, _, dp_T (h5.more mo), dp, shaped_T _, shaped_T _, q l H' h6 mo⟩
    · refine ⟨_, rfl, y, rfl, .inr (.inl ⟨no, _, rfl, iteF ?_⟩)⟩
      obtain ⟨n, hn, ty⟩ := no
      exact ⟨_, rfl, y, .ref C, _, _, _, rfl, .own C, ty, W.no n hn, _, rfl, iteF (q H fun _ _ e => e)⟩
    · obtain ⟨dx2, t2, r2, d2, fs2, l2, p2, _, _, _, k1, k2, k3, k4, k5, k6, _⟩ := pb.ex
      refine ⟨_, rfl, _, rfl, .inr (.inr ⟨_, pb.ty W, W.ni, _, rfl, iteF ?_⟩)⟩
      refine ⟨_, rfl, _, .ref C, _, _, _, rfl, .own C, pb.ty W, W.ic.me, _, rfl, iteT ?_⟩
      exact ⟨_, rfl, a, C, dx, fs, _, rfl, h1, W.ic.cl, W.n1, h2, _, rfl, b, C, dx2, fs2, _, rfl, k1, W.ic.cl, W.n1, k2, _, _, dp_T h5, dp_T k5, shaped_T _, shaped_T _, q l l2 H h6 k6 fun _ _ e => e⟩
end
end K14

namespace Td
open PySem L2 PySem.Spec PyProof.Rows
/-! ### dict(list of pairs) whose keys are tuples -/
section
variable {κ : Type} [DecidableEq κ]
theorem atKey_off {xs : List (κ × Addr × Value)} {k : κ} (h : k ∉ xs.map (·.1)) : atKey xs k = none := by
  unfold atKey
  have : (xs.find? fun x => decide (x.1 = k)) = none := by
    rw [List.find?_eq_none]
    intro x hx e
    exact h (List.mem_map.mpr ⟨x, hx, of_decide_eq_true e⟩)
  rw [this]
  rfl
theorem storedAll_nodup : ∀ (ps acc : List (κ × Addr × Value)), ((acc ++ ps).map (·.1)).Nodup → storedAllH acc ps = acc ++ ps
  | [], acc, _ => by rw [List.append_nil]; rfl
  | p :: ps, acc, h => by
    have h1 : p.1 ∉ acc.map (·.1) := by
      rw [List.map_append, List.map_cons, List.nodup_append] at h
      intro z
      exact h.2.2 _ z _ (.head _) rfl
    show storedAllH (storedH acc p.1 p.2.1 p.2.2) ps = _
    rw [storedH_new (atKey_off h1)]
    have e : acc ++ p :: ps = (acc ++ [p]) ++ ps := by rw [List.append_assoc]; rfl
    rw [e] at h ⊢
    exact storedAll_nodup ps _ h
end
/-- one pair of the list: the tuple, its key, where the key stands, the value -/
structure It2 where
  p : Addr
  k : List Key
  b : Addr
  v : V
def rDictPT (K : PySem.W.Frag) : List V → Hp → VK → Prop := fun xs H Q => ∃ (a : Addr) (L : List It2), xs = [.ref a] ∧ SqL K H a (L.map fun e => V.ref e.p) ∧
  (∀ e ∈ L, SqT K H e.p [.ref e.b, e.v] ∧ H e.b = some (.tup (e.k.map kV))) ∧ (L.map (·.k)).Nodup ∧ ∀ d, H d = none → Q (.ref d) (upd H d (.dT (L.map fun e => (e.k, e.v))))
section
variable {X : Cx} {pins : List (Addr × Obj)} {σ : L2.St} {H : Hp} {s : Shared}
theorem pairs_at (I : Inv X pins σ H s) : ∀ (L : List It2), (∀ e ∈ L, SqT X.K H e.p [.ref e.b, e.v] ∧ H e.b = some (.tup (e.k.map kV))) →
    ∃ us : List Value, us.length = L.length ∧ KT H (L.map fun e => (e.k, e.v)) ((L.zip us).map fun z => (z.1.k, z.1.b, z.2)) ∧
      ∀ (j : Nat) (e : It2) (u : Value), L[j]? = some e → us[j]? = some u → IsTup s.heap e.p #[.ref e.b, u]
  | [], _ => ⟨[], rfl, .nil, fun j e u h => nomatch h⟩
  | e :: L, h => by
    obtain ⟨us, hl, kt, at_⟩ := pairs_at I L fun x hx => h x (.tail _ hx)
    obtain ⟨h1, h2⟩ := h e (.head _)
    obtain ⟨its, rv, ht, _⟩ := I.tuple h1
    obtain ⟨u, y, rfl, ru, ry⟩ := vals2 rv
    cases ru
    refine ⟨y :: us, by rw [List.length_cons, List.length_cons, hl], .cons ⟨rfl, h2, ry⟩ kt, fun j e' u' h3 h4 => ?_⟩
    cases j with
    | zero =>
      cases h3
      cases h4
      exact ht
    | succ j => exact at_ j e' u' h3 h4
theorem isTup_pair {h : Heap} {t : Addr} {k v : Value} (x : IsTup h t #[k, v]) : PairAt h t k v := .inl x
theorem call_dictPT (hc : X.calm = true) (hu : X.A.units + 8 < cLine) : CallR X (.type "dict") (rDictPT X.K) := by
  intro pins s σ H xs us Q I r h
  obtain ⟨a, L, rfl, hS, hL, nd, q⟩ := h
  rw [Vals.ref1 r]
  obtain ⟨its, rv, ⟨o, n, ho, hcl, hd, hdat⟩, hz⟩ := I.list hS
  have ei : its = L.map fun e => Value.ref e.p := by
    have : L.map (fun e => V.ref e.p) = (L.map (·.p)).map V.ref := by rw [List.map_map]; rfl
    rw [this] at rv
    rw [refs_at rv, List.map_map]
    rfl
  subst ei
  rw [List.length_map] at hz
  obtain ⟨ws, hl, kt, at_⟩ := pairs_at I L hL
  have lz : (L.zip ws).length = L.length := by rw [List.length_zip, hl, Nat.min_self]
  have zat : ∀ (j : Nat) (e : It2) (u : Value), (L.zip ws)[j]? = some (e, u) → L[j]? = some e ∧ ws[j]? = some u := by
    intro j e u z
    rw [List.getElem?_zip_eq_some] at z
    exact z
  refine call_dict_pairsH (knd := tupleKind (mixKind X.prog X.w)) (ps := (L.zip ws).map fun z => (z.1.k, z.1.b, z.2))
    (PairArg.list a (L.map fun e => Value.ref e.p).toArray (fun j => (L[j]?.map (·.p)).getD 0) ((L.zip ws).map fun z => (Value.ref z.1.b, z.2)))
    (I.ok.hd hc) (by show X.A.units + 1 + 1 < cLine; omega) ⟨⟨o, n, ho, hcl, hd, hdat⟩, ?_, ?_⟩ ⟨by rw [List.length_map, List.length_map], ?_⟩ ?_ (by rw [List.length_map, lz]; exact hz) ?_
  · rw [List.size_toArray, List.length_map, List.length_map, lz]
  · intro j k v hj
    rw [List.getElem?_map] at hj
    cases e : (L.zip ws)[j]? with
    | none => rw [e] at hj; cases hj
    | some z =>
      rw [e] at hj
      cases hj
      obtain ⟨h1, h2⟩ := zat j z.1 z.2 e
      refine ⟨?_, ?_⟩
      · rw [List.getElem?_toArray, List.getElem?_map, h1]
        show _ = some (Value.ref ((L[j]?.map (·.p)).getD 0))
        rw [h1]
        rfl
      · show PairAt s.heap ((L[j]?.map (·.p)).getD 0) _ _
        rw [h1]
        exact isTup_pair (at_ j _ _ h1 h2)
  · intro i key v hi
    have hi : ((L.zip ws).map fun z => (Value.ref z.1.b, z.2))[i]? = some (key, v) := hi
    rw [List.getElem?_map] at hi
    cases e : (L.zip ws)[i]? with
    | none => rw [e] at hi; cases hi
    | some z =>
      rw [e] at hi
      cases hi
      exact ⟨z.1.k, z.1.b, by rw [List.getElem?_map, e]; rfl, rfl⟩
  · intro h' hk x hx
    obtain ⟨z, hz1, rfl⟩ := List.mem_map.mp hx
    obtain ⟨j, hj⟩ := List.getElem?_of_mem hz1
    obtain ⟨h1, _⟩ := zat j z.1 z.2 hj
    have h2 := (hL z.1 (List.mem_of_getElem? h1)).2
    obtain ⟨o', its', n', h3, h4, h5, h6⟩ := key_of I.hok h2
    exact ⟨o', its', n', hk _ _ (Nat.ne_of_lt (Heap.lt_size h3)) (by simp) h3, h4, h5, h6⟩
  · intro h' tk hd' hk
    have ek : ((L.zip ws).map fun z => (z.1.k, z.1.b, z.2)).map (·.1) = L.map (·.k) := by
      rw [List.map_map]
      show (L.zip ws).map (fun z => z.1.k) = _
      rw [show (fun z : It2 × Value => z.1.k) = (fun e : It2 => e.k) ∘ Prod.fst from rfl, ← List.map_map, List.map_fst_zip (by omega)]
    rw [storedAll_nodup _ _ (by rw [List.nil_append, ek]; exact nd), List.nil_append] at hd'
    obtain ⟨o2, es, ep, g1, g2, g3, g4, g5, g6⟩ := hd'
    have hb : H s.heap.objs.size = none := I.hok.fresh (Nat.le_refl _)
    have hm : (s.heap.objs.size == sysModules) = false := beq_eq_false_iff_ne.mpr (Nat.ne_of_gt I.big)
    refine ⟨.ref s.heap.objs.size, upd H s.heap.objs.size (.dT (L.map fun e => (e.k, e.v))), I.laid (t' := tk) (fun b o e => hk b o (by simp) e) (Nat.le_refl _) ⟨by rw [List.length_map]; exact hz, hm, _, ?_, o2, es, ep, g1, g2, g3, g4, g6⟩, rfl, q _ hb⟩
    have keep : ∀ {l : List (List Key × V)} {m : List (List Key × Addr × Value)}, KT H l m → Paired (fun (p : List Key × V) (q : List Key × Addr × Value) => p.1 = q.1 ∧ (upd H s.heap.objs.size (.dT (L.map fun e => (e.k, e.v)))) q.2.1 = some (.tup (p.1.map kV)) ∧ RelV p.2 q.2.2) l m := by
      intro l m q
      induction q with
      | nil => exact .nil
      | cons hq t ih => exact .cons ⟨hq.1, by rw [upd_ne (ne_of_none hq.2.1 hb)]; exact hq.2.1, hq.2.2⟩ ih
    exact keep kt
end
end Td

namespace Td
open PySem L2 PySem.Spec PyProof.Rows
/-! ### {(..): v, ..}: a display whose keys are tuples -/
structure It1 where
  k : List Key
  b : Addr
  v : V
def tDispT (trs : List (TE × TE)) : TE := fun σ H Q => ∀ p, H p = none → tPairs trs σ (upd H p (.dT [])) fun ps H2 => H2 p = some (.dT []) ∧ ∃ L : List It1, ps = L.map (fun e => (V.ref e.b, e.v)) ∧ L.length ≤ 15 ∧
  (∀ e ∈ L, H2 e.b = some (.tup (e.k.map kV))) ∧ (L.map (·.k)).Nodup ∧ Q (.ref p) (upd H2 p (.dT (L.map fun e => (e.k, e.v))))
theorem carriesT {P : Program} {w : World} {H : Hp} {h : Heap} (ok : HOk P w H h) : ∀ {L : List It1} {ws : List (Value × Value)}, (∀ e ∈ L, H e.b = some (.tup (e.k.map kV))) → VV (L.map fun e => (V.ref e.b, e.v)) ws →
    ∃ ps : List (List Key × Addr × Value), CarriesH (tupleKind (mixKind P w)) h ws ps ∧ ps.map (·.1) = L.map (·.k) ∧
      Paired (fun (p : List Key × V) (q : List Key × Addr × Value) => p.1 = q.1 ∧ H q.2.1 = some (.tup (p.1.map kV)) ∧ RelV p.2 q.2.2) (L.map fun e => (e.k, e.v)) ps
  | [], _, _, r => by rw [List.map_nil] at r; cases r; exact ⟨[], trivial, rfl, .nil⟩
  | e :: L, _, hk, r => by
    rw [List.map_cons] at r
    cases r with
    | @cons a b as bs h1 t =>
      obtain ⟨ps, c, m, q⟩ := carriesT ok (fun x hx => hk x (.tail _ hx)) t
      obtain ⟨b1, b2⟩ := b
      obtain ⟨g1, g2⟩ := h1
      exact ⟨(e.k, e.b, b2) :: ps, ⟨g1, rfl, key_of ok (hk e (.head _)), c⟩, by rw [List.map_cons, List.map_cons, m], .cons ⟨rfl, hk e (.head _), g2⟩ q⟩
theorem pe_dispT {X : Cx} {pos : Pos} {keys : List (Option Expr)} {values : List Expr} {trs : List (TE × TE)} (hu : X.A.units + 8 < cLine) (h : PPs X pos keys values trs) (hall : keys.all (·.isSome) = true) (hl : keys.length = values.length) (h0 : keys ≠ [])
    (h15 : keys.length ≤ 15) : PE X (.Dict keys values pos) (tDispT trs) := by
  refine ⟨fun pins s σ H Q I q => ?_⟩
  have hn := I.hok.fresh (Nat.le_refl s.heap.objs.size)
  have I1 := I.laid (a := s.heap.objs.size) (o := .dT []) (h' := s.heap.push { cls := .type "dict", data := .dict #[] }) (t' := s.toks) (fun _ _ q => Heap.get?_push_of_some _ q) (Nat.le_refl _) (dt_empty s.heap I.big)
  have hz := pairTrees_length keys values X.env pos hall hl
  rw [arm_eval_Dict, zip_pairTrees keys values X.env pos hall hl, dictDisplay_pairs (pairTrees keys values X.env pos) (fun e => by rw [e] at hz; exact h0 (List.length_eq_zero_iff.mp hz.symm)) (by omega)]
  refine wpAny_bind (wpAny_standAt (wpAny_bind (wpAny_subDictH (knd := tupleKind (mixKind X.prog X.w)) (by show X.A.units < cLine; omega) (by omega) (thn (h.run pins _ σ _ _ I1 (q _ hn)) fun ws s2 ⟨ps, H2, I2, rel, e, L, ep, few, hk, nd, q2⟩ => ?_))))
  subst ep
  obtain ⟨rs, c, m, rk⟩ := carriesT (w := X.w) I2.hok hk rel
  obtain ⟨z, hd, xs0, kt0, dd⟩ := dt_of I2.hok e
  cases kt0
  refine ⟨rs, c, dd, fun h' tk dd' hs => wpAny_pure ⟨.ref s.heap.objs.size, _, ?_, rfl, q2⟩⟩
  rw [storedAll_nodup _ _ (by rw [List.nil_append, m]; exact nd), List.nil_append] at dd'
  obtain ⟨o2, es, ep, g1, g2, g3, g4, g5, g6⟩ := dd'
  refine d_write I2 (by rw [e]; exact True.intro) hs ⟨o2, g1⟩ ⟨by rw [List.length_map, sizeLine_eq]; omega, hd, rs, ?_, o2, es, ep, g1, g2, g3, g4, g6⟩
  have keep : ∀ {l : List (List Key × V)} {m : List (List Key × Addr × Value)}, Paired (fun (p : List Key × V) (q : List Key × Addr × Value) => p.1 = q.1 ∧ H2 q.2.1 = some (.tup (p.1.map kV)) ∧ RelV p.2 q.2.2) l m →
      Paired (fun (p : List Key × V) (q : List Key × Addr × Value) => p.1 = q.1 ∧ (upd H2 s.heap.objs.size (.dT (L.map fun e => (e.k, e.v)))) q.2.1 = some (.tup (p.1.map kV)) ∧ RelV p.2 q.2.2) l m := by
    intro l m q
    induction q with
    | nil => exact .nil
    | cons hq t ih => exact .cons ⟨hq.1, by rw [upd_ne (ne_of hq.2.1 e (by intro z; cases z))]; exact hq.2.1, hq.2.2⟩ ih
  exact keep rk
end Td

namespace K14
open PySem L2 Gd Ply
abbrev Off (d : Addr) (H H' : Hp) : Prop := ∀ b o, H b = some o → b ≠ d → H' b = some o
theorem Off.trans {d : Addr} {H H1 H2 : Hp} (a : Off d H H1) (b : Off d H1 H2) : Off d H H2 := fun x o e n => b x o (a x o e n) n
theorem Off.of {d : Addr} {H H' : Hp} (m : More H H') : Off d H H' := fun b o e _ => m b o e
theorem Off.dr {d c : Addr} {n : Int} {H H' : Hp} (h : Drawn H H' d c n) : Off d H H' := fun b o e nb => (h.off b nb).trans e
theorem new_more {H : Hp} {p : Addr} {o : HO} (hp : H p = none) : More H (upd H p o) := More.new (fun _ _ e => e) hp
theorem nodup_kI : ∀ {l : List (List Int)}, l.Nodup → (l.map kI).Nodup
  | [], _ => List.nodup_nil
  | k :: l, h => by
    rw [List.nodup_cons] at h
    rw [List.map_cons, List.nodup_cons]
    refine ⟨fun z => ?_, nodup_kI h.2⟩
    obtain ⟨k', hk, e⟩ := List.mem_map.mp z
    rw [kI_inj e] at hk
    exact h.1 hk
theorem nodup_sub {p q : Po} (h : (ks p).Nodup) (s : q.Sublist p) : (ks q).Nodup := List.Nodup.sublist (s.map _) h
/-- at D stands the law's own sum p -/
structure PD (H : Hp) (D : Addr) (p : Po) (B C : Nat) : Prop where
  at_ : H D = some (.dT (dk p))
  nd : (ks p).Nodup
  few : p.length ≤ 5
  three : ∀ e ∈ p, e.1.length = 3
  exp : ∀ e ∈ p, ∀ i ∈ e.1, i.natAbs ≤ B
  num : ∀ e ∈ p, e.2.natAbs ≤ C
end K14

namespace K14
open PySem L2 Gd Ply
/-- a dict of the law: its sum p -/
structure PX (H : Hp) (D : Addr) (p : Po) : Prop where
  at_ : H D = some (.dT (dk p))
  nd : (ks p).Nodup
  few : p.length ≤ 300
  three : ∀ e ∈ p, e.1.length = 3
theorem PD.px {H : Hp} {D : Addr} {p : Po} {B C : Nat} (h : PD H D p B C) : PX H D p := ⟨h.at_, h.nd, by have := h.few; omega, h.three⟩
theorem PX.more {H H' : Hp} {D : Addr} {p : Po} (m : More H H') (h : PX H D p) : PX H' D p := ⟨m _ _ h.at_, h.nd, h.few, h.three⟩
def spTerms : Sp := fun vs H Q _ => ∃ (D : Addr) (p : Po), vs = [.ref D] ∧ PX H D p ∧ ∀ t l H', Canon (val p) l → TAt H' t l → More H H' → Q (.ref t) H'
def spIsSum (C : Addr) : Sp := fun vs H Q _ => ∃ (a D : Addr) (p : Po) (f : List Int → Int), vs = [.ref a, .ref D] ∧ PX H D p ∧ Pob H C a f ∧ (∀ k, f k = val p k) ∧ ∀ H', More H H' → Q (.bl true) H'
theorem keys_of : ∀ {p : Po} {H : Hp} {bs : List Addr}, IsKeys H (dk p) bs → ∃ bz : List (Addr × List Int), bz.map (·.1) = bs ∧ bz.map (·.2) = ks p ∧ ∀ b ∈ bz, H b.1 = some (.tup (b.2.map V.int))
  | [], _, _, h => by
    cases h
    exact ⟨[], rfl, rfl, fun _ h => nomatch h⟩
  | e :: p, H, _, h => by
    have h : Paired (fun (p : List Key × V) b => H b = some (.tup (p.1.map kV))) ((kI e.1, V.int e.2) :: dk p) _ := h
    cases h with
    | @cons _ b _ bs h1 t =>
      obtain ⟨bz, a1, a2, a3⟩ := keys_of t
      refine ⟨(b, e.1) :: bz, by rw [List.map_cons, a1], by rw [List.map_cons, a2]; rfl, fun x hx => ?_⟩
      rcases List.mem_cons.mp hx with rfl | hx
      · rw [kI_V] at h1
        exact h1
      · exact a3 x hx
section
variable {P : Program} {w : World} {K : PySem.W.Frag} {mg : Str → Option Value} {base : Heap}
variable {gT f C : Addr} {dT' fd : FuncData}
abbrev sTerms : Stmt := top 45
abbrev sIsSum : Stmt := top 46
theorem scTerms : FnScope ["_law_poly", "_law_place"] ["_law_poly"] (defScope sTerms) := ⟨rfl, rfl, rfl, by decide +kernel, rfl, by decide +kernel, by decide +kernel⟩
theorem scIsSum : FnScope ["_law_told", "_law_poly"] ["_law_told", "_law_poly"] (defScope sIsSum) := ⟨rfl, rfl, rfl, by decide +kernel, rfl, by decide +kernel, by decide +kernel⟩
theorem ok_terms (F : Fun K "_law_terms" "_law_terms" sTerms f fd) (B : Blt mg) (B2 : Blt2 mg) : FnOk P w K mg base CX0 1 f fd ["_law_poly"] spTerms := by
  refine F.ok scTerms (fun vs H Q E h => ?_) (fun cdv A outer s H vs Q E hr h => ?_)
  · obtain ⟨D, p, rfl, _⟩ := h
    rfl
  · obtain ⟨D, p, rfl, px, q⟩ := h
    have hu := hu_of hr
    have hu64 := hr.units
    refine ⟨_, pss_one (ps_ret (pe_callTy call_tuple_of (by rfl) B.tup_ (by decide +kernel) (pa_cons (pe_lc (own := [("_law_place", 1)]) (g := gName 1) rfl scTerms.nd
        (pi_list (pe_callB (cr_sortTI hu64) (by rfl) B2.sorted_ (by decide +kernel) (pa_cons (pe_callTy (call_list_dT rfl) (by rfl) B.list_ (by decide +kernel) (pa_cons (pv 0) pa_nil)) pa_nil)))
        (blkOk_by (N := ["_law_poly", "_law_place"]) (sc := defScope sTerms) (by decide +kernel)) (fun _ _ _ _ _ => pg_name (i := 1) scTerms.nd rfl (Or.inl rfl))
        (fun _ _ _ _ _ => pts_one (pt_cmpR op_ne (pe_dget hu (pv 0) (pv 1) (fun _ _ => rfl)) pe_int (nomark _)))
        (fun _ _ _ _ _ => pe_tup (pa_cons (pv 1) (pa_cons (pe_dget hu (pv 0) (pv 1) (fun _ _ => rfl)) pa_nil)))) pa_nil))), ?_⟩
    obtain ⟨hD, nd, few, three⟩ := px
    refine ⟨_, rfl, D, _, rfl, .inl hD, fun L0 bs nL ik => ?_⟩
    obtain ⟨bz, b1, b2, b3⟩ := keys_of ik
    have er : bs.map V.ref = bz.map fun b => V.ref b.1 := by rw [← b1, List.map_map]; rfl
    have z3 : ∀ b ∈ bz, b.2.length = 3 ∧ b.2 ∈ ks p := fun b hb => by
      have m : b.2 ∈ ks p := by rw [← b2]; exact List.mem_map.mpr ⟨b, hb, rfl⟩
      obtain ⟨e, he, z⟩ := List.mem_map.mp m
      exact ⟨by rw [← z]; exact three e he, m⟩
    rw [er]
    refine ⟨L0, bz, rfl, SqL.of upd_same, fun b hb => ⟨SqT.of (by rw [upd_ne (ne_of_none (b3 b hb) nL)]; exact b3 b hb), fun z => by have := (z3 b hb).1; rw [z] at this; cases this⟩, fun L1 nL1 => ?_⟩
    have m1 : More H (upd (upd H L0 (.lst (bz.map fun b => V.ref b.1))) L1 (.lst ((bz.mergeSort leI).map fun b => V.ref b.1))) := (new_more nL).new nL1
    have e1 : (upd (upd H L0 (.lst (bz.map fun b => V.ref b.1))) L1 (.lst ((bz.mergeSort leI).map fun b => V.ref b.1))) L1 = some (.lst ((bz.mergeSort leI).map fun b => V.ref b.1)) := upd_same
    generalize upd (upd H L0 (.lst (bz.map fun b => V.ref b.1))) L1 (.lst ((bz.mergeSort leI).map fun b => V.ref b.1)) = H1 at m1 e1 ⊢
    have perm := List.mergeSort_perm bz leI
    have up : ((bz.mergeSort leI).map (·.2)).Pairwise (· ≤ ·) ∧ ((bz.mergeSort leI).map (·.2)).Nodup ∧ ∀ k, k ∈ (bz.mergeSort leI).map (·.2) ↔ k ∈ ks p := by
      have f := sort_form (f := fun k => if k ∈ ks p then 1 else 0) (bs := bz) (by rw [b2]; exact nd) (fun k => by rw [b2]; by_cases z : k ∈ ks p <;> simp [z])
      exact ⟨f.up, f.nd, fun k => (f.all k).trans (by by_cases z : k ∈ ks p <;> simp [z])⟩
    have sl : ∀ b ∈ bz.mergeSort leI, H1 b.1 = some (.tup (b.2.map V.int)) ∧ b.2 ∈ ks p := fun b hb => ⟨m1 _ _ (b3 b (perm.mem_iff.mp hb)), (z3 b (perm.mem_iff.mp hb)).2⟩
    have slen : (bz.mergeSort leI).length ≤ 300 := by
      rw [List.length_mergeSort]
      have := congrArg List.length b2
      unfold ks at this
      rw [List.length_map, List.length_map] at this
      omega
    generalize bz.mergeSort leI = sb at *
    refine ⟨L1, rfl, ⟨_, SqL.of e1⟩, fun D1 hD1 => lc_it (walk_list (xs := sb.map fun b => V.ref b.1)) (fun i H' => ∃ L : List It3, H' D1 = some (.lst (L.map fun e => V.ref e.p)) ∧
        (∀ e ∈ L, H' e.p = some (.tup [.ref e.b, .int e.n]) ∧ H' e.b = some (.tup (e.k.map V.int))) ∧ (L.map fun e => (e.k, e.n)) = (((sb.take i).map (·.2)).filter fun k => decide (val p k ≠ 0)).map (fun k => (k, val p k)) ∧ More H1 H')
      ⟨[], upd_same, (fun _ h => nomatch h), rfl, More.new (fun _ _ e => e) hD1⟩ (fun i H' _ ⟨_, _, _, _, m⟩ => SqL.of (m _ _ e1)) ?_ ?_⟩
    · rintro i x H6 H7 hi ⟨L, g1, g2, g3, g4⟩ ⟨rfl, hx⟩
      obtain ⟨b0, hb0, rfl⟩ : ∃ b0, sb[i]? = some b0 ∧ x = .ref b0.1 := by
        rw [List.getElem?_map] at hx
        cases z : sb[i]? with
        | none => rw [z] at hx; cases hx
        | some b0 => rw [z] at hx; exact ⟨b0, rfl, (Option.some.inj hx).symm⟩
      obtain ⟨q1, q3⟩ := sl b0 (List.mem_of_getElem? hb0)
      have dg : DGet H7 D (.ref b0.1) (some (.int (val p b0.2))) := by
        have z := DGet.t (k := kI b0.2) (g4 _ _ (m1 _ _ hD)) (by rw [kI_V]; exact g4 _ _ q1)
        rw [valS q3] at z
        exact z
      have tk : ((sb.take (i + 1)).map (·.2)) = (sb.take i).map (·.2) ++ [b0.2] := by rw [take_snoc hb0, List.map_append]; rfl
      refine ⟨rfl, _, rfl, _, rfl, D, _, rfl, dg, rfl, _, rfl, ?_⟩
      rw [show (!decide (V.int (val p b0.2) = V.int 0)) = decide (val p b0.2 ≠ 0) by rw [deI]; by_cases z : val p b0.2 = 0 <;> simp [z]]
      refine ite2 (fun z => ?_) (fun z => ?_)
      · refine ⟨_, rfl, _, rfl, _, rfl, D, _, rfl, dg, by show 2 ≤ sizeLine; decide, fun q nq => ?_⟩
        have nqD : D1 ≠ q := ne_of_none g1 nq
        have ll : L.length ≤ 300 := by
          have := congrArg List.length g3
          rw [List.length_map, List.length_map] at this
          have h2 := List.length_filter_le (fun k => decide (val p k ≠ 0)) ((sb.take i).map (·.2))
          rw [List.length_map, List.length_take] at h2
          omega
        refine ⟨_, by rw [upd_ne nqD]; exact g1, by rw [List.length_map]; exact small1000 (by omega), L ++ [⟨q, b0.1, b0.2, val p b0.2⟩], ?_, ?_, ?_, ?_⟩
        · rw [upd_same, List.map_append]; rfl
        · intro e he
          have off : ∀ c o, c ≠ D1 → H7 c = some o → (upd (upd H7 q (.tup [.ref b0.1, .int (val p b0.2)])) D1 (.lst ((L.map fun e => V.ref e.p) ++ [.ref q]))) c = some o := fun c o nc e => by
            rw [upd_ne nc, upd_ne (ne_of_none e nq)]; exact e
          rcases List.mem_append.mp he with he | he
          · obtain ⟨k1, k2⟩ := g2 e he
            exact ⟨off _ _ (ne_of k1 g1 (by intro z; cases z)) k1, off _ _ (ne_of k2 g1 (by intro z; cases z)) k2⟩
          · rw [List.mem_singleton] at he
            subst he
            refine ⟨?_, off _ _ (ne_of (g4 _ _ q1) g1 (by intro z; cases z)) (g4 _ _ q1)⟩
            show (upd (upd H7 q (.tup [.ref b0.1, .int (val p b0.2)])) D1 _) q = _
            rw [upd_ne nqD.symm, upd_same]
        · rw [List.map_append, g3, tk, List.filter_append, List.filter_cons_of_pos (p := fun k => decide (val p k ≠ 0)) z, List.map_append]; rfl
        · intro c o e
          have e' := g4 c o e
          rw [upd_ne (ne_of_none e hD1), upd_ne (ne_of_none e' nq)]
          exact e'
      · refine ⟨L, g1, g2, ?_, g4⟩
        rw [g3, tk, List.filter_append, List.filter_cons_of_neg (p := fun k => decide (val p k ≠ 0)) z, List.filter_nil, List.append_nil]
    · rintro H6 ⟨L, g1, g2, g3, g4⟩
      rw [List.length_map, List.take_length] at g3
      refine ⟨D1, _, rfl, .inl ⟨SqL.of g1, fun t1 nt1 => ?_⟩⟩
      refine q t1 _ _ ⟨_, ⟨List.Pairwise.filter _ up.1, List.Pairwise.filter _ up.2.1, fun k => ?_⟩, rfl⟩ ⟨L, upd_same, fun e he => ?_, g3⟩ fun b o e => ?_
      · rw [List.mem_filter, decide_eq_true_eq, up.2.2]
        exact ⟨fun z => z.2, fun z => ⟨val_off z, z⟩⟩
      · obtain ⟨k1, k2⟩ := g2 e he
        exact ⟨by rw [upd_ne (ne_of_none k1 nt1)]; exact k1, by rw [upd_ne (ne_of_none k2 nt1)]; exact k2⟩
      · have e' := g4 _ _ (m1 _ _ e)
        rw [upd_ne (ne_of_none e' nt1)]
        exact e'
theorem ok_issum (F : Fun K "_law_is_sum" "_law_is_sum" sIsSum f fd) (B : Blt mg) (B2 : Blt2 mg) (W : PwC K mg C) (T : Cl K mg "_law_terms" sTerms ["_law_poly"] gT dT') : FnOk P w K mg base CX0 2 f fd ["_law_told", "_law_poly"] (spIsSum C) := by
  have GT : FnOk P w K mg base CX0 1 gT dT' ["_law_poly"] spTerms := ok_terms T.fn B B2
  refine F.ok scIsSum (fun vs H Q E h => ?_) (fun cdv A outer s H vs Q E hr h => ?_)
  · obtain ⟨a, D, p, f, rfl, _⟩ := h
    rfl
  · obtain ⟨a, D, p, f, rfl, px, pa, ef, q⟩ := h
    have hu64 := hr.units
    refine ⟨_, pss_one (ps_ret (pe_and (pe_callB call_isi (by rfl) B.isi_ (by decide +kernel) (pa_cons (pv 0) (pa_cons (pe_glob (v := .ref C) rfl W.g rfl) pa_nil)))
        (pe_one (pe_cmpR (op_eqD hu64) (pe_fld (pv 0) rfl) (pe_call GT hr rfl T.g T.k T.b .nil pass0 (pa_cons (pv 1) pa_nil)) (nomark _))))), ?_⟩
    obtain ⟨dx, t, r, d, fs, l, _, m0, m1, m2, h1, h2, h3, h4, h5, h6, _⟩ := pa.ex
    refine ⟨_, rfl, _, .ref C, _, _, _, rfl, .own C, pa.ty W, W.ic.me, _, rfl, iteT ?_⟩
    refine ⟨_, rfl, a, C, dx, fs, _, rfl, h1, W.ic.cl, W.n1, h2, _, rfl, D, p, rfl, px, fun t2 l2 H' c2 a2 mo => ?_⟩
    have el : l = l2 := by
      have : (fun k => f k) = val p := funext ef
      rw [show f = val p from this] at h6
      exact h6.one c2
    subst el
    have q := q H' mo
    rw [← same_refl l] at q
    exact ⟨_, _, dp_T (h5.more mo), dp_T a2, shaped_T _, shaped_T _, q⟩
end
end K14

namespace K14
open PySem L2 Gd Ply
/-! ### what reading a text means -/
def skp : List Nat → List Nat
  | [] => []
  | c :: r => if c = 32 then skp r else c :: r
theorem skp_len : ∀ R, (skp R).length ≤ R.length
  | [] => Nat.le_refl _
  | c :: r => by
    unfold skp
    split
    · have := skp_len r
      rw [List.length_cons]
      omega
    · exact Nat.le_refl _
theorem skp_ne {c : Nat} {r : List Nat} (h : c ≠ 32) : skp (c :: r) = c :: r := by
  unfold skp
  rw [if_neg h]
theorem skp_sp (r : List Nat) : skp (32 :: r) = skp r := by
  conv => lhs; unfold skp
  rw [if_pos rfl]
theorem skp_head : ∀ R c r, skp R = c :: r → c ≠ 32
  | [], _, _, h => nomatch h
  | d :: l, c, r, h => by
    unfold skp at h
    split at h
    · exact skp_head l c r h
    · rename_i n
      cases h
      exact n
theorem skp_skp (R : List Nat) : skp (skp R) = skp R := by
  cases e : skp R with
  | nil => rfl
  | cons c r => exact skp_ne (skp_head R c r e)
theorem skp_gap (k : Nat) (R : List Nat) : skp (List.replicate k 32 ++ R) = skp R := by
  induction k with
  | zero => rfl
  | succ k ih => rw [List.replicate_succ, List.cons_append, skp_sp, ih]
theorem skp_drop : ∀ R : List Nat, ∃ k, k ≤ R.length ∧ skp R = R.drop k ∧ R.take k = List.replicate k 32
  | [] => ⟨0, Nat.le_refl _, rfl, rfl⟩
  | c :: r => by
    by_cases h : c = 32
    · subst h
      obtain ⟨k, a, b, d⟩ := skp_drop r
      refine ⟨k + 1, by rw [List.length_cons]; omega, by rw [skp_sp, b]; rfl, ?_⟩
      rw [List.take_succ_cons, d, List.replicate_succ]
    · exact ⟨0, Nat.zero_le _, skp_ne h, rfl⟩
def isDg (c : Nat) : Bool := decide (48 ≤ c ∧ c ≤ 57)
def hdDg : List Nat → Bool
  | [] => false
  | c :: _ => isDg c
def Fig (R : List Nat) (n : Nat) (R' : List Nat) : Prop := skp R = TL.numL n ++ R' ∧ hdDg R' = false
def No (c : Nat) (R : List Nat) : Prop := ∀ r, R ≠ c :: r
def RExp (R : List Nat) (e : Int) (R' : List Nat) : Prop :=
  (No 94 (skp R) ∧ e = 1 ∧ R' = skp R) ∨
  ∃ R1, skp R = 94 :: R1 ∧ ((∃ R2 n, skp R1 = 45 :: R2 ∧ Fig R2 n R' ∧ n < 10 ^ 50 ∧ e = -(n : Int)) ∨ (No 45 (skp R1) ∧ ∃ n : Nat, Fig (skp R1) n R' ∧ n < 10 ^ 50 ∧ e = (n : Int)))
inductive Eff where
  | lt (at_ : Nat) (e : Int)
  | num (n : Nat)
def Step (R : List Nat) : Eff → List Nat → Prop
  | .lt a e, R' => a < 3 ∧ ∃ R1, skp R = (120 + a) :: R1 ∧ RExp R1 e R'
  | .num n, R' => n < 10 ^ 50 ∧ Fig R n R'
inductive Facs : List Nat → List Eff → List Nat → Prop
  | last {R R1 f} : Step R f R1 → No 42 (skp R1) → Facs R [f] (skp R1)
  | more {R R1 R2 f fs R'} : Step R f R1 → skp R1 = 42 :: R2 → Facs R2 fs R' → Facs R (f :: fs) R'
/-- what a factor does to the exponents and the number -/
def run1 (s : List Int × Int) : Eff → List Int × Int
  | .lt a e => (s.1.set a (s.1.getD a 0 + e), s.2)
  | .num n => (s.1, s.2 * n)
def run (fs : List Eff) (s : List Int × Int) : List Int × Int := fs.foldl run1 s
inductive Rest : List Nat → List (Int × List Eff) → List Nat → Prop
  | nil {R} : No 43 (skp R) → No 45 (skp R) → Rest R [] (skp R)
  | plus {R R1 R2 fs its R'} : skp R = 43 :: R1 → Facs R1 fs R2 → Rest R2 its R' → Rest R ((1, fs) :: its) R'
  | minus {R R1 R2 fs its R'} : skp R = 45 :: R1 → Facs R1 fs R2 → Rest R2 its R' → Rest R ((-1, fs) :: its) R'
def Pows (R : List Nat) (its : List (Int × List Eff)) (R' : List Nat) : Prop :=
  (∃ R1 R2 fs its', skp R = 45 :: R1 ∧ Facs R1 fs R2 ∧ Rest R2 its' R' ∧ its = (-1, fs) :: its') ∨
  (∃ R2 fs its', No 45 (skp R) ∧ Facs (skp R) fs R2 ∧ Rest R2 its' R' ∧ its = (1, fs) :: its')
def termOf (it : Int × List Eff) : List Int × Int := run it.2 ([0, 0, 0], it.1)
/-! ### digits of a number -/
theorem numL_head : ∀ n : Nat, 0 < n → ∃ c r, TL.numL n = c :: r ∧ c ≠ 48 := by
  intro n
  induction n using Nat.strongRecOn with
  | _ n ih =>
    intro h
    by_cases l : n < 10
    · exact ⟨48 + n, [], TL.numL_lt l, by omega⟩
    · obtain ⟨c, r, e, d⟩ := ih (n / 10) (by omega) (by omega)
      exact ⟨c, r ++ [48 + n % 10], by rw [TL.numL_step (by omega), e]; rfl, d⟩
theorem numL_zero : TL.numL 0 = [48] := TL.numL_lt (by decide)
theorem numL_dg {n c : Nat} (h : c ∈ TL.numL n) : isDg c = true := decide_eq_true (by have := TL.numL_digits n c h; omega)
theorem numL_few {n : Nat} (h : n < 10 ^ 50) : (TL.numL n).length ≤ 50 := TL.numL_len (by decide) h
/-! ### parts of a text -/
theorem sIx_at (n d i : Nat) (h : i ≤ n) : HT.sIx n d (some (i : Int)) = i := by
  unfold HT.sIx
  simp only
  split <;> omega
theorem sIx_up (n d i : Nat) : HT.sIx n d (some ((i : Int) + 1)) = min (i + 1) n := by
  unfold HT.sIx
  simp only
  split <;> omega
theorem cut_one (T : List Nat) (i : Nat) (h : i ≤ T.length) : cutS (SX.S T) (some (i : Int)) (some ((i : Int) + 1)) = SX.S ((T.drop i).take 1) := by
  unfold cutS
  rw [SX.S_len T, sIx_at _ _ _ h, sIx_up]
  show SX.S ((T.drop i).take (min (i + 1) T.length - i)) = _
  have : (T.drop i).take (min (i + 1) T.length - i) = (T.drop i).take 1 := by
    by_cases z : i = T.length
    · subst z
      rw [List.drop_length, List.take_nil, List.take_nil]
    · rw [show min (i + 1) T.length - i = 1 by omega]
  rw [this]
theorem cut_run (T : List Nat) (i j : Nat) (h : i ≤ j) (hj : j ≤ T.length) : cutS (SX.S T) (some (i : Int)) (some (j : Int)) = SX.S ((T.drop i).take (j - i)) := by
  unfold cutS
  rw [SX.S_len T, sIx_at _ _ _ (Nat.le_trans h hj), sIx_at _ _ _ hj]
end K14

/-! Fd: defs of the text whose last parameters have defaults. -/
namespace Gd
open PySem PySem.Spec PyProof.Rows L2
/-- a def of the text with the defaults dvs -/
structure FunE (K : PySem.W.Frag) (x qual : Str) (st : Stmt) (dvs : List V) (f : Addr) (fd : FuncData) : Prop where
  fn : FunD K x qual (defArgs st) (defBody st) (defScope st) dvs [] f fd
section
variable {P : Program} {w : World} {K : PySem.W.Frag} {mg : Str → Option Value} {base : Heap} {x qual : Str} {st : Stmt} {dvs : List V} {f : Addr} {fd : FuncData}
theorem FunE.kp (F : FunE K x qual st dvs f fd) : PySem.W.keepIn K (.ref f) = true := F.fn.kp
theorem funE_mk {oc dV kV doc pm cdv ct : Value} {od an : Option Addr} {osl : Array (Option Value)} (l : K.lookup f = some ⟨oc, od, .func (PySem.W.fnOf x qual (defArgs st) (defBody st) (defScope st) dV kV doc pm an cdv ct), osl⟩)
    (c : PySem.W.codeIn K cdv qual = true) (k : PySem.W.keepIn K (.ref f) = true) (d : DflV K dV dvs) : FunE K x qual st dvs f (PySem.W.fnOf x qual (defArgs st) (defBody st) (defScope st) dV kV doc pm an cdv ct) :=
  ⟨⟨⟨oc, od, dV, kV, doc, pm, an, cdv, ct, osl, rfl, l, c, d, .inl rfl⟩, k⟩⟩
theorem FunE.ok {N ps : List Str} {k : Nat} {sp : Sp} (F : FunE K x qual st dvs f fd) (S : FnScope N ps (defScope st)) (len : ∀ vs H Q E, sp vs H Q E → vs.length = ps.length)
    (hbody : ∀ (cdv : Value) (A : Around) (outer : List Env) (s : Shared) (H : Hp) (vs : List V) (Q : VK) (E : XK), Room k (A.deeper (envOfC qual (defScope st) s.heap.objs.size f cdv)) → sp vs H Q E →
      ∃ t, PSs (cxOf CX0 P w K mg base N qual (defScope st) f cdv A outer s H E).nox (defBody st) t ∧ t { nx := fun _ H' => Q .non H', rt := Q } (start N vs) H) : FnOk P w K mg base CX0 (k + 1) f fd ps sp := by
  refine F.fn.ok S len fun cdv A outer s H vs Q E hr hsp => ?_
  obtain ⟨t, h, q⟩ := hbody cdv A outer s H vs Q E hr hsp
  exact ⟨t, h.nox, q⟩
theorem FunE.okX {N ps : List Str} {k : Nat} {sp : Sp} (F : FunE K x qual st dvs f fd) (S : FnScope N ps (defScope st)) (len : ∀ vs H Q E, sp vs H Q E → vs.length = ps.length)
    (hbody : ∀ (cdv : Value) (A : Around) (outer : List Env) (s : Shared) (H : Hp) (vs : List V) (Q : VK) (E : XK), Room k (A.deeper (envOfC qual (defScope st) s.heap.objs.size f cdv)) → sp vs H Q E →
      ∃ t, PSs (cxOf (L2.CX P w) P w K mg base N qual (defScope st) f cdv A outer s H E) (defBody st) t ∧ t { nx := fun _ H' => Q .non H', rt := Q } (start N vs) H) : FnOk P w K mg base (L2.CX P w) (k + 1) f fd ps sp :=
  F.fn.ok S len hbody
/-- one default is left, and it is None -/
theorem FunE.binds1 {ps : List Str} (F : FunE K x qual st dvs f fd) (n j : Nat) (hd : dvs ≠ []) (hj : dvs.drop j = [.non]) (hn : n + 1 = ps.length)
    (h : ∀ (T : Addr) (kV doc pm : Value) (an : Option Addr) (cdv ct : Value) (us its : List Value), us.length = n → its.length = dvs.length →
      ∃ k, bindArgs (PySem.W.fnOf x qual (defArgs st) (defBody st) (defScope st) (.ref T) kV doc pm an cdv ct) ⟨us, []⟩ = seqItems? (.ref T) >>= k ∧ k (some its.toArray) = pure (ps.zip (us ++ its.drop j))) : Binds K fd ps [Value.none] := by
  have hl : dvs.length - j = 1 := by rw [← List.length_drop, hj]; rfl
  obtain ⟨ds, rv, b⟩ := F.fn.binds1 n j hd (by rw [hl]; exact hn) h
  rw [hj] at rv
  cases rv with
  | cons r t =>
    cases t
    cases r
    exact b
end
end Gd

namespace K14
open PySem L2 Gd Ply
/-! ### the scanner -/
structure At (C s : Addr) (T : List Nat) (i : Nat) (H : Hp) : Prop where
  ex : ∃ dx, H s = some (.ins C dx [("text", .str (SX.S T)), ("known", .non), ("place", .int (i : Int))])
  le : i ≤ T.length
  few : T.length ≤ 1000
structure ScC (K : PySem.W.Frag) (C : Addr) : Prop where
  cl : Cls K C
  n1 : NoAttr K C "text"
  n2 : NoAttr K C "place"
  n3 : NoAttr K C "known"
/-- a method of the class -/
structure Mt (K : PySem.W.Frag) (C : Addr) (m q : Str) (st : Stmt) (ps : List Str) (f : Addr) (fd : FuncData) : Prop where
  fn : Fun K m q st f fd
  b : Binds K fd ps []
  m : Meth K C m f
/-- a method whose last parameters have the default None -/
structure MtD (K : PySem.W.Frag) (C : Addr) (m q : Str) (st : Stmt) (ps : List Str) (f : Addr) (fd : FuncData) : Prop where
  fn : FunE K m q st [.non, .non] f fd
  b : Binds K fd ps [Value.none]
  m : Meth K C m f
/-- a test that is never asked -/
theorem deadT {X : Cx} {e : Expr} : PT X e (fun _ _ _ => False) := ⟨fun _ _ _ _ _ _ h => h.elim⟩
theorem At.off {C s : Addr} {T : List Nat} {i : Nat} {H H' : Hp} (h : At C s T i H) (e : H' s = H s) : At C s T i H' := ⟨let ⟨dx, h1⟩ := h.ex; ⟨dx, e.trans h1⟩, h.le, h.few⟩
def spHere (C : Addr) : Sp := fun vs H Q _ => ∃ s T i, vs = [.ref s] ∧ At C s T i H ∧ Q (.str (SX.S ((T.drop i).take 1))) H
def spStep (C : Addr) : Sp := fun vs H Q _ => ∃ s T i, vs = [.ref s] ∧ At C s T i H ∧ i < T.length ∧ ∀ H', At C s T (i + 1) H' → Off s H H' → Q .non H'
def spSkip (C : Addr) : Sp := fun vs H Q _ => ∃ s T i, vs = [.ref s] ∧ At C s T i H ∧ ∀ H' j, At C s T j H' → T.drop j = skp (T.drop i) → Off s H H' → Q .non H'
def spAtF (C : Addr) : Sp := fun vs H Q _ => ∃ s T i, vs = [.ref s] ∧ At C s T i H ∧ Q (.bl (hdDg (T.drop i))) H
def spTook (C : Addr) : Sp := fun vs H Q _ => ∃ s T i c, vs = [.ref s, .str (SX.S [c])] ∧ At C s T i H ∧ ∀ H' j (b : Bool), At C s T j H' → Off s H H' → (b = true → skp (T.drop i) = c :: T.drop j) → (b = false → T.drop j = skp (T.drop i) ∧ No c (skp (T.drop i))) → Q (.bl b) H'
def spFig (C : Addr) : Sp := fun vs H Q _ => ∃ s T i n R', vs = [.ref s, .non, .non] ∧ At C s T i H ∧ Fig (T.drop i) n R' ∧ ∀ H' j, At C s T j H' → T.drop j = R' → Off s H H' → Q (.str (SX.S (TL.numL n))) H'
def spEnd (C : Addr) : Sp := fun vs H Q _ => ∃ s T i, vs = [.ref s] ∧ At C s T i H ∧ skp (T.drop i) = [] ∧ ∀ H', Off s H H' → Q .non H'
def spSI (C : Addr) : Sp := fun vs H Q _ => ∃ s dx T, vs = [.ref s, .str (SX.S T), .non] ∧ H s = some (.ins C dx []) ∧ T.length ≤ 1000 ∧ ∀ H', At C s T 0 H' → Off s H H' → Q .non H'
def spNever : Sp := fun _ _ _ _ => False
section
variable {P : Program} {w : World} {K : PySem.W.Frag} {mg : Str → Option Value} {base : Heap}
variable {C f fH fS fK fF fA : Addr} {fd dH dS dK dF dA : FuncData} {tk : Tok}
abbrev sIni : Stmt := inClass (top 28) 0
abbrev sHere : Stmt := inClass (top 28) 1
abbrev sStep : Stmt := inClass (top 28) 2
abbrev sSkip : Stmt := inClass (top 28) 3
abbrev sFail : Stmt := inClass (top 28) 4
abbrev sAtF : Stmt := inClass (top 28) 5
abbrev sTook : Stmt := inClass (top 28) 7
abbrev sFig : Stmt := inClass (top 28) 8
abbrev sEnd : Stmt := inClass (top 28) 15
theorem scIni : FnScope ["self", "text", "known"] ["self", "text", "known"] (defScope sIni) := ⟨rfl, rfl, rfl, by decide +kernel, rfl, by decide +kernel, by decide +kernel⟩
theorem scHere : FnScope ["self"] ["self"] (defScope sHere) := ⟨rfl, rfl, rfl, by decide +kernel, rfl, by decide +kernel, by decide +kernel⟩
theorem scStep : FnScope ["self"] ["self"] (defScope sStep) := ⟨rfl, rfl, rfl, by decide +kernel, rfl, by decide +kernel, by decide +kernel⟩
theorem scSkip : FnScope ["self"] ["self"] (defScope sSkip) := ⟨rfl, rfl, rfl, by decide +kernel, rfl, by decide +kernel, by decide +kernel⟩
theorem scFail : FnScope ["self"] ["self"] (defScope sFail) := ⟨rfl, rfl, rfl, by decide +kernel, rfl, by decide +kernel, by decide +kernel⟩
theorem scAtF : FnScope ["self"] ["self"] (defScope sAtF) := ⟨rfl, rfl, rfl, by decide +kernel, rfl, by decide +kernel, by decide +kernel⟩
theorem scTook : FnScope ["self", "sign", "found"] ["self", "sign"] (defScope sTook) := ⟨rfl, rfl, rfl, by decide +kernel, rfl, by decide +kernel, by decide +kernel⟩
theorem scFig : FnScope ["self", "most", "greatest", "begin"] ["self", "most", "greatest"] (defScope sFig) := ⟨rfl, rfl, rfl, by decide +kernel, rfl, by decide +kernel, by decide +kernel⟩
theorem scEnd : FnScope ["self"] ["self"] (defScope sEnd) := ⟨rfl, rfl, rfl, by decide +kernel, rfl, by decide +kernel, by decide +kernel⟩
theorem ok_fail (F : Fun K "fail" "Scanner.fail" sFail f fd) : FnOk P w K mg base CX0 1 f fd ["self"] spNever := by
  refine F.ok scFail (fun vs H Q E h => h.elim) (fun cdv A outer s H vs Q E hr h => h.elim)
theorem ok_here (F : Fun K "here" "Scanner.here" sHere f fd) (Z : ScC K C) : FnOk P w K mg base CX0 1 f fd ["self"] (spHere C) := by
  refine F.ok scHere (fun vs H Q E h => ?_) (fun cdv A outer s H vs Q E hr h => ?_)
  · obtain ⟨s, T, i, rfl, _⟩ := h
    rfl
  · obtain ⟨s, T, i, rfl, at_, q⟩ := h
    refine ⟨_, pss_one (ps_ret (pe_slice sl_str (pe_fld (pv 0) rfl) (po_some (pe_fld (pv 0) rfl)) (po_some (pe_op op_add (pe_fld (pv 0) rfl) pe_int)))), ?_⟩
    obtain ⟨dx, h1⟩ := at_.ex
    refine ⟨_, rfl, s, C, dx, _, _, rfl, h1, Z.cl, Z.n1, rfl, _, rfl, s, C, dx, _, _, rfl, h1, Z.cl, Z.n2, rfl, _, rfl, _, rfl, s, C, dx, _, _, rfl, h1, Z.cl, Z.n2, rfl, _, _, rfl, rfl, _, rfl, _, rfl, ?_, ?_⟩
    · rw [SX.S_len]; exact Nat.le_of_lt (small1000 at_.few)
    · rw [cut_one T i at_.le]
      exact q
theorem ok_step (F : Fun K "step_on" "Scanner.step_on" sStep f fd) (Z : ScC K C) : FnOk P w K mg base CX0 1 f fd ["self"] (spStep C) := by
  refine F.ok scStep (fun vs H Q E h => ?_) (fun cdv A outer s H vs Q E hr h => ?_)
  · obtain ⟨s, T, i, rfl, _⟩ := h
    rfl
  · obtain ⟨s, T, i, rfl, at_, lt, q⟩ := h
    refine ⟨_, pss_one (ps_fld (pv 0) (pe_op op_add (pe_fld (pv 0) rfl) pe_int) rfl), ?_⟩
    obtain ⟨dx, h1⟩ := at_.ex
    refine ⟨_, rfl, s, C, dx, _, _, rfl, h1, Z.cl, Z.n2, rfl, _, _, rfl, rfl, _, rfl, s, C, dx, _, rfl, h1, Z.cl, Z.n2, by show 3 < 1000; decide, ?_⟩
    refine q _ ⟨⟨dx, upd_same⟩, lt, at_.few⟩ fun b o e nb => ?_
    rw [upd_ne nb]
    exact e
theorem head_is {R : List Nat} {c : Nat} (h : R.head? = some c) : ∃ r, R = c :: r := by
  match R, h with
  | d :: r, h =>
    cases h
    exact ⟨r, rfl⟩
theorem head_no {R : List Nat} {c : Nat} (h : ¬ R.head? = some c) : No c R := fun r e => h (by rw [e]; rfl)
theorem take_one_sp (R : List Nat) : decide (V.str (SX.S (R.take 1)) = V.str " ") = decide (R.head? = some 32) := by
  have e : (" " : Str) = SX.S [32] := rfl
  rw [decide_eq_decide, e]
  constructor
  · intro h
    have h := SX.S_inj (V.str.inj h)
    match R, h with
    | c :: r, h =>
      rw [List.take_succ_cons, List.take_zero] at h
      cases h
      rfl
  · intro h
    match R, h with
    | d :: r, h =>
      cases h
      rfl
theorem take_one_is (R : List Nat) (c : Nat) : decide (V.str (SX.S (R.take 1)) = V.str (SX.S [c])) = decide (R.head? = some c) := by
  rw [decide_eq_decide]
  constructor
  · intro h
    have h := SX.S_inj (V.str.inj h)
    match R, h with
    | c :: r, h =>
      rw [List.take_succ_cons, List.take_zero] at h
      cases h
      rfl
  · intro h
    match R, h with
    | d :: r, h =>
      cases h
      rfl
theorem take_one_no (R : List Nat) : decide (V.str (SX.S (R.take 1)) = V.str "") = decide (R = []) := by
  have e : ("" : Str) = SX.S [] := rfl
  rw [decide_eq_decide, e]
  constructor
  · intro h
    have h := SX.S_inj (V.str.inj h)
    match R, h with
    | [], _ => rfl
  · rintro rfl
    rfl
theorem drop_lt {T : List Nat} {i : Nat} {c : Nat} {r : List Nat} (h : T.drop i = c :: r) : i < T.length ∧ T.drop (i + 1) = r := by
  have l : i < T.length := by
    rcases Nat.lt_or_ge i T.length with z | z
    · exact z
    · rw [List.drop_eq_nil_of_le z] at h
      cases h
  refine ⟨l, ?_⟩
  rw [← List.tail_drop, h]
  rfl
theorem ok_skip (F : Fun K "skip" "Scanner.skip" sSkip f fd) (Z : ScC K C) (Hr : Mt K C "here" "Scanner.here" sHere ["self"] fH dH) (St : Mt K C "step_on" "Scanner.step_on" sStep ["self"] fS dS) : FnOk P w K mg base CX0 2 f fd ["self"] (spSkip C) := by
  have GH : FnOk P w K mg base CX0 1 fH dH ["self"] (spHere C) := ok_here Hr.fn Z
  have GS : FnOk P w K mg base CX0 1 fS dS ["self"] (spStep C) := ok_step St.fn Z
  refine F.ok scSkip (fun vs H Q E h => ?_) (fun cdv A outer s H vs Q E hr h => ?_)
  · obtain ⟨s, T, i, rfl, _⟩ := h
    rfl
  · obtain ⟨s, T, i, rfl, at_, q⟩ := h
    refine ⟨_, pss_one (ps_while PassesOwn.never (pt_cmpR op_eq (pe_meth0 (pv 0) Z.cl Hr.m GH hr Hr.b .nil pass0) pe_str (nomark _))
      (pss_one (ps_expr (pe_meth0 (pv 0) Z.cl St.m GS hr St.b .nil pass0)))), ?_⟩
    refine while_by (fun σ H2 => ∃ j, σ = [some (.ref s)] ∧ At C s T j H2 ∧ skp (T.drop j) = skp (T.drop i) ∧ Off s H H2) (fun _ H2 => match H2 s with | some (.ins _ _ [_, _, (_, .int j)]) => T.length - j.toNat | _ => 0)
      ⟨i, rfl, at_, rfl, fun _ _ e _ => e⟩ ?_ ?_
    · rintro σ H2 ⟨j, rfl, a2, sk, of⟩
      obtain ⟨dx, h1⟩ := a2.ex
      refine ⟨_, rfl, s, dx, _, rfl, h1, rfl, s, T, j, rfl, a2, rfl, _, rfl, ?_⟩
      rw [take_one_sp]
      refine ite2 (fun z => ?_) (fun z => ?_)
      · obtain ⟨r, er⟩ := head_is (of_decide_eq_true z)
        obtain ⟨l1, l2⟩ := drop_lt er
        refine ⟨_, rfl, s, dx, _, rfl, h1, rfl, s, T, j, rfl, a2, l1, fun H3 a3 o3 => ?_⟩
        refine ⟨⟨j + 1, rfl, a3, ?_, of.trans o3⟩, ?_⟩
        · rw [l2, ← sk, er, skp_sp]
        · obtain ⟨dx3, h3⟩ := a3.ex
          rw [h1, h3]
          show T.length - (((j + 1 : Nat) : Int)).toNat < T.length - ((j : Nat) : Int).toNat
          omega
      · have nz : (T.drop j).head? ≠ some 32 := fun y => z (decide_eq_true y)
        refine q _ j a2 ?_ of
        rw [← sk]
        cases e : T.drop j with
        | nil => rfl
        | cons c r => exact (skp_ne (fun y => nz (by rw [e, y]; rfl))).symm
    · rintro σ H2 Q1 Q2 f ⟨v, e, a, dx, fs, e1, h1, nm, s, T, i, e2, at_, p1, y, p2, q2⟩
      exact ⟨v, e, a, dx, fs, e1, h1, nm, s, T, i, e2, at_, p1, y, p2, f _ _ q2⟩
theorem ok_atf (F : Fun K "at_figure" "Scanner.at_figure" sAtF f fd) (Z : ScC K C) (Hr : Mt K C "here" "Scanner.here" sHere ["self"] fH dH) (gF : mg "FIGURES_scanning" = some (.str "0123456789" tk)) : FnOk P w K mg base CX0 2 f fd ["self"] (spAtF C) := by
  have GH : FnOk P w K mg base CX0 1 fH dH ["self"] (spHere C) := ok_here Hr.fn Z
  refine F.ok scAtF (fun vs H Q E h => ?_) (fun cdv A outer s H vs Q E hr h => ?_)
  · obtain ⟨s, T, i, rfl, _⟩ := h
    rfl
  · obtain ⟨s, T, i, rfl, at_, q⟩ := h
    refine ⟨_, pss_one (ps_ret (pe_and (pe_cmpR op_ne (pe_meth0 (pv 0) Z.cl Hr.m GH hr Hr.b .nil pass0) pe_str (nomark _))
      (pe_one (pe_cmpR op_in_sign (pe_meth0 (pv 0) Z.cl Hr.m GH hr Hr.b .nil pass0) (pe_glob (v := .str "0123456789") rfl gF ⟨_, rfl⟩) (by rfl))))), ?_⟩
    obtain ⟨dx, h1⟩ := at_.ex
    refine ⟨_, rfl, s, dx, _, rfl, h1, rfl, s, T, i, rfl, at_, rfl, _, rfl, ?_⟩
    rw [take_one_no]
    cases e : T.drop i with
    | nil =>
      rw [e] at q
      exact iteF q
    | cons c r =>
      refine iteT ⟨_, rfl, s, dx, _, rfl, h1, rfl, s, T, i, rfl, at_, c, _, by rw [e]; rfl, rfl, ?_⟩
      rw [e] at q
      have z : decide (c ∈ ("0123456789" : Str).cps.toList) = isDg c := by
        rw [show ("0123456789" : Str).cps.toList = [48, 49, 50, 51, 52, 53, 54, 55, 56, 57] from rfl]
        unfold isDg
        rw [decide_eq_decide]
        constructor
        · intro h
          simp only [List.mem_cons, List.not_mem_nil, or_false] at h
          omega
        · intro h
          simp only [List.mem_cons, List.not_mem_nil, or_false]
          omega
      rw [z]
      exact q
theorem ok_took (F : Fun K "took" "Scanner.took" sTook f fd) (Z : ScC K C) (Hr : Mt K C "here" "Scanner.here" sHere ["self"] fH dH) (St : Mt K C "step_on" "Scanner.step_on" sStep ["self"] fS dS)
    (Sk : Mt K C "skip" "Scanner.skip" sSkip ["self"] fK dK) : FnOk P w K mg base CX0 3 f fd ["self", "sign"] (spTook C) := by
  have GH : FnOk P w K mg base CX0 1 fH dH ["self"] (spHere C) := ok_here Hr.fn Z
  have GS : FnOk P w K mg base CX0 1 fS dS ["self"] (spStep C) := ok_step St.fn Z
  have GK : FnOk P w K mg base CX0 2 fK dK ["self"] (spSkip C) := ok_skip Sk.fn Z Hr St
  refine F.ok scTook (fun vs H Q E h => ?_) (fun cdv A outer s H vs Q E hr h => ?_)
  · obtain ⟨s, T, i, c, rfl, _⟩ := h
    rfl
  · obtain ⟨s, T, i, c, rfl, at_, q⟩ := h
    refine ⟨_, pss_cons (ps_expr (pe_meth0 (pv 0) Z.cl Sk.m GK hr Sk.b .nil pass0))
      (pss_cons (ps_set (i := 2) scTook.nd rfl (Or.inl rfl) (pe_cmpR op_eq (pe_meth0 (pv 0) Z.cl Hr.m GH (hr.mono (by decide)) Hr.b .nil pass0) (pv 1) (nomark _)))
      (pss_cons (ps_if (pt_val (pv 2)) (pss_one (ps_expr (pe_meth0 (pv 0) Z.cl St.m GS (hr.mono (by decide)) St.b .nil pass0))) pss_nil)
      (pss_one (ps_ret (pv 2))))), ?_⟩
    obtain ⟨dx, h1⟩ := at_.ex
    refine ⟨_, rfl, s, dx, _, rfl, h1, rfl, s, T, i, rfl, at_, fun H2 j a2 ej o2 => ?_⟩
    obtain ⟨dx2, h2⟩ := a2.ex
    refine ⟨_, rfl, s, dx2, _, rfl, h2, rfl, s, T, j, rfl, a2, _, rfl, rfl, _, rfl, ?_⟩
    rw [take_one_is]
    by_cases z : (T.drop j).head? = some c
    · obtain ⟨r, er⟩ := head_is z
      obtain ⟨l1, l2⟩ := drop_lt er
      rw [decide_eq_true z]
      refine ⟨_, rfl, iteT ⟨_, rfl, s, dx2, _, rfl, h2, rfl, s, T, j, rfl, a2, l1, fun H3 a3 o3 => ?_⟩⟩
      refine ⟨_, rfl, q H3 (j + 1) true a3 (o2.trans o3) (fun _ => ?_) (fun y => nomatch y)⟩
      rw [← ej, er, l2]
    · rw [decide_eq_false z]
      refine ⟨_, rfl, iteF ⟨_, rfl, q H2 j false a2 o2 (fun y => nomatch y) (fun _ => ⟨ej, ?_⟩)⟩⟩
      rw [← ej]
      exact head_no z
theorem ok_end (F : Fun K "end" "Scanner.end" sEnd f fd) (Z : ScC K C) (Hr : Mt K C "here" "Scanner.here" sHere ["self"] fH dH) (St : Mt K C "step_on" "Scanner.step_on" sStep ["self"] fS dS)
    (Sk : Mt K C "skip" "Scanner.skip" sSkip ["self"] fK dK) (Fa : Mt K C "fail" "Scanner.fail" sFail ["self"] fF dF) : FnOk P w K mg base CX0 3 f fd ["self"] (spEnd C) := by
  have GH : FnOk P w K mg base CX0 1 fH dH ["self"] (spHere C) := ok_here Hr.fn Z
  have GF : FnOk P w K mg base CX0 1 fF dF ["self"] spNever := ok_fail Fa.fn
  have GK : FnOk P w K mg base CX0 2 fK dK ["self"] (spSkip C) := ok_skip Sk.fn Z Hr St
  refine F.ok scEnd (fun vs H Q E h => ?_) (fun cdv A outer s H vs Q E hr h => ?_)
  · obtain ⟨s, T, i, rfl, _⟩ := h
    rfl
  · obtain ⟨s, T, i, rfl, at_, sk, q⟩ := h
    refine ⟨_, pss_cons (ps_expr (pe_meth0 (pv 0) Z.cl Sk.m GK hr Sk.b .nil pass0))
      (pss_one (ps_if (pt_cmpR op_ne (pe_meth0 (pv 0) Z.cl Hr.m GH (hr.mono (by decide)) Hr.b .nil pass0) pe_str (nomark _))
        (pss_one (ps_expr (pe_meth0 (pv 0) Z.cl Fa.m GF (hr.mono (by decide)) Fa.b .nil pass0))) pss_nil)), ?_⟩
    obtain ⟨dx, h1⟩ := at_.ex
    refine ⟨_, rfl, s, dx, _, rfl, h1, rfl, s, T, i, rfl, at_, fun H2 j a2 ej o2 => ?_⟩
    obtain ⟨dx2, h2⟩ := a2.ex
    refine ⟨_, rfl, s, dx2, _, rfl, h2, rfl, s, T, j, rfl, a2, rfl, _, rfl, ?_⟩
    rw [take_one_no, ej, sk]
    exact iteF (q H2 o2)
theorem ok_sini (F : FunE K "__init__" "Scanner.__init__" sIni [.non] f fd) (Z : ScC K C) : FnOk P w K mg base CX0 1 f fd ["self", "text", "known"] (spSI C) := by
  refine F.ok scIni (fun vs H Q E h => ?_) (fun cdv A outer s H vs Q E hr h => ?_)
  · obtain ⟨s, dx, T, rfl, _⟩ := h
    rfl
  · obtain ⟨s, dx, T, rfl, h1, few, q⟩ := h
    refine ⟨_, pss_cons (ps_fld (pv 0) (pv 1) rfl) (pss_cons (ps_fld (pv 0) (pv 2) rfl) (pss_one (ps_fld (pv 0) pe_int rfl))), ?_⟩
    refine ⟨_, rfl, _, rfl, s, C, dx, _, rfl, h1, Z.cl, Z.n1, by show 0 < 1000; decide, ?_⟩
    refine ⟨_, rfl, _, rfl, s, C, dx, _, rfl, upd_same, Z.cl, Z.n3, by show 1 < 1000; decide, ?_⟩
    rw [upd_upd]
    refine ⟨_, rfl, s, C, dx, _, rfl, upd_same, Z.cl, Z.n2, by show 2 < 1000; decide, ?_⟩
    rw [upd_upd]
    refine q _ ⟨⟨dx, upd_same⟩, Nat.zero_le _, few⟩ fun b o e nb => ?_
    rw [upd_ne nb]
    exact e
end
end K14

namespace K14
open PySem L2 Gd Ply
/-! ### a written tuple of texts -/
def keyS : Value → Option Str
  | .str z _ => some z
  | _ => none
def allS : List Value → Option (List Str)
  | [] => some []
  | v :: r => match keyS v, allS r with
    | some i, some is => some (i :: is)
    | _, _ => none
def tupS (K : PySem.W.Frag) : Value → Option (List Str)
  | .ref a => match K.lookup a with
    | some ⟨.type "tuple", none, .seq us _, _⟩ => allS us.toList
    | _ => none
  | _ => none
theorem keyS_some {v : Value} {i : Str} (h : keyS v = some i) : ∃ t, v = .str i t := by
  cases v <;> simp_all [keyS]
theorem allS_some : ∀ {us : List Value} {is : List Str}, allS us = some is → Vals (is.map V.str) us := by
  intro us
  induction us with
  | nil =>
    intro is h
    cases h
    exact .nil
  | cons v r ih =>
    intro is h
    unfold allS at h
    split at h
    · rename_i i l e1 e2
      cases h
      obtain ⟨t, rfl⟩ := keyS_some e1
      exact .cons ⟨t, rfl⟩ (ih e2)
    · cases h
theorem tupS_in {K : PySem.W.Frag} {a : Addr} {is : List Str} (h : tupS K (.ref a) = some is) (few : is.length ≤ 1000) (H : Hp) : SqT K H a (is.map V.str) := by
  unfold tupS at h
  simp only at h
  split at h
  · rename_i us n sl e
    have rv := allS_some h
    refine .inr ⟨_, us, n, e, rfl, rfl, ?_, rv⟩
    have z := Paired.length rv
    have z2 : us.toList.length = us.size := Array.length_toList
    rw [← z2, ← z, List.length_map]
    exact Nat.le_of_lt (small1000 few)
  · cases h
def spPo : Sp := fun vs H Q _ => ∃ n : Nat, vs = [.int 10, .int (n : Int)] ∧ n ≤ 60 ∧ ∀ z : Int, Q (.int z) H
def spNw : Sp := fun vs H Q _ => ∃ n : Nat, vs = [.str (SX.S (TL.numL n))] ∧ n < 10 ^ 50 ∧ Q (.int (n : Int)) H
def spRe (C : Addr) : Sp := fun vs H Q _ => ∃ s T i e R', vs = [.ref s] ∧ At C s T i H ∧ RExp (T.drop i) e R' ∧ ∀ H' j, At C s T j H' → T.drop j = R' → Off s H H' → Q (.int e) H'
section
variable {P : Program} {w : World} {K : PySem.W.Frag} {mg : Str → Option Value} {base : Heap}
variable {C f fP fN fH fS fK fF fA fT fG : Addr} {fd dP dN dH dS dK dF dA dT' dG : FuncData} {tk tf : Tok}
abbrev sPo : Stmt := top 4
abbrev sNw : Stmt := top 5
abbrev sRe : Stmt := top 40
theorem scPo : FnScope ["base", "exponent", "found", "_"] ["base", "exponent"] (defScope sPo) := ⟨rfl, rfl, rfl, by decide +kernel, rfl, by decide +kernel, by decide +kernel⟩
theorem scNw : FnScope ["figures", "number", "place", "piece"] ["figures"] (defScope sNw) := ⟨rfl, rfl, rfl, by decide +kernel, rfl, by decide +kernel, by decide +kernel⟩
theorem scRe : FnScope ["scanner", "sign"] ["scanner"] (defScope sRe) := ⟨rfl, rfl, rfl, by decide +kernel, rfl, by decide +kernel, by decide +kernel⟩
theorem ok_po (F : Fun K "power_of" "power_of" sPo f fd) (B : Blt mg) : FnOk P w K mg base CX0 1 f fd ["base", "exponent"] spPo := by
  refine F.ok scPo (fun vs H Q E h => ?_) (fun cdv A outer s H vs Q E hr h => ?_)
  · obtain ⟨n, rfl, _⟩ := h
    rfl
  · obtain ⟨n, rfl, few, q⟩ := h
    refine ⟨_, pss_cons (ps_set (i := 2) scPo.nd rfl (Or.inl rfl) pe_int)
      (pss_cons (ps_for PassesOwn.never rfl (pi_range1 rfl B.range_ (pa_cons (pv 1) pa_nil)) (pg_name (i := 3) scPo.nd rfl (Or.inl rfl))
        (pss_one (ps_set (i := 2) scPo.nd rfl (Or.inl rfl) (pe_op op_mul (pv 2) (pv 0)))))
      (pss_one (ps_ret (pv 2)))), ?_⟩
    refine ⟨_, rfl, n, rfl, by omega, by omega, for_range (lo := 0) (n := (n : Int).toNat) (fun i σ H2 => ∃ (z : Option V) (t : Int), σ = [some (.int 10), some (.int n), some (.int t), z] ∧ H2 = H) ⟨none, 1, rfl, rfl⟩ ?_ ?_⟩
    · rintro i σ H2 hi ⟨z, t, rfl, rfl⟩
      exact ⟨_, rfl, _, rfl, _, _, rfl, rfl, .inr ⟨by omega, by omega⟩, some (V.int (0 + (i : Int))), _, rfl, rfl⟩
    · rintro σ H2 ⟨z, t, rfl, rfl⟩
      exact ⟨_, rfl, q t⟩
theorem num_S (n : Nat) : SX.S (TL.numL n) = Str.ofString (toString ((n : Nat) : Int)) := TL.ext_tl (by rw [TL.tl_num])
theorem ok_nw (F : Fun K "number_with" "number_with" sNw f fd) (B : Blt mg) (Pw : Cl K mg "power_of" sPo ["base", "exponent"] fP dP) (gF : mg "FIGURES_arithmetic" = some (.int 60 tf)) : FnOk P w K mg base CX0 2 f fd ["figures"] spNw := by
  have GP : FnOk P w K mg base CX0 1 fP dP ["base", "exponent"] spPo := ok_po Pw.fn B
  refine F.ok scNw (fun vs H Q E h => ?_) (fun cdv A outer s H vs Q E hr h => ?_)
  · obtain ⟨n, rfl, _⟩ := h
    rfl
  · obtain ⟨n, rfl, big, q⟩ := h
    have len := numL_few big
    have pos : 0 < (TL.numL n).length := List.length_pos_iff.mpr (TL.numL_ne n)
    refine ⟨_, pss_cons (ps_set (i := 1) scNw.nd rfl (Or.inl rfl) pe_int)
      (pss_cons (ps_for PassesOwn.never rfl (pi_range3 rfl B.range_ (pa_cons pe_int (pa_cons (pe_callB call_len_str (by rfl) B.len_ PySem.boot_len (pa_cons (pv 0) pa_nil)) (pa_cons (pe_glob (v := .int 60) rfl gF ⟨_, rfl⟩) pa_nil)))) (pg_name (i := 2) scNw.nd rfl (Or.inl rfl))
        (pss_cons (ps_set (i := 3) scNw.nd rfl (Or.inl rfl) (pe_slice sl_str (pv 0) (po_some (pv 2)) (po_some (pe_op op_add (pv 2) (pe_glob (v := .int 60) rfl gF ⟨_, rfl⟩)))))
        (pss_one (ps_set (i := 1) scNw.nd rfl (Or.inl rfl) (pe_op op_add (pe_op op_mul (pv 1) (pe_call GP hr rfl Pw.g Pw.k Pw.b .nil pass0 (pa_cons pe_int (pa_cons (pe_callB call_len_str (by rfl) B.len_ PySem.boot_len (pa_cons (pv 3) pa_nil)) pa_nil))))
          (pe_callTy call_int_str (by rfl) B.int_ (by decide +kernel) (pa_cons (pv 3) pa_nil)))))))
      (pss_one (ps_ret (pv 1)))), ?_⟩
    have sl : (SX.S (TL.numL n)).length ≤ sizeLine := by rw [SX.S_len]; exact Nat.le_of_lt (small1000 (by omega))
    have rg : ∀ L : Nat, L < 51 → 0 < L → RgC 0 (L : Int) 60 1 := by
      have a : ∀ L : Nat, L < 51 → 0 < L → (Builtin.Range.small 0 (L : Int) 60 = true ∧ Builtin.Range.rangeSize 0 (L : Int) 60 = 1) := by decide +kernel
      exact fun L h1 h2 => ⟨by decide, by decide, (a L h1 h2).1, (a L h1 h2).2⟩
    refine ⟨_, rfl, _, rfl, sl, 0, _, 60, 1, rfl, rg _ (by rw [SX.S_len]; omega) (by rw [SX.S_len]; exact pos), ?_⟩
    refine for_rangeC (lo := 0) (c := 60) (n := 1) (fun i σ H2 => ∃ z1 z2 : Option V, σ = [some (.str (SX.S (TL.numL n))), some (.int (if i = 0 then 0 else n)), z1, z2] ∧ H2 = H) ⟨none, none, rfl, rfl⟩ ?_ ?_
    · rintro i σ H2 hi ⟨z1, z2, rfl, rfl⟩
      obtain rfl : i = 0 := by omega
      have cut : cutS (SX.S (TL.numL n)) (some (0 + ((0 : Nat) : Int) * 60)) (some (0 + ((0 : Nat) : Int) * 60 + 60)) = SX.S (TL.numL n) := by
        unfold cutS
        rw [SX.S_len]
        have e1 : HT.sIx (TL.numL n).length 0 (some (0 + ((0 : Nat) : Int) * 60)) = 0 := sIx_at _ _ 0 (Nat.zero_le _)
        have e2 : HT.sIx (TL.numL n).length (TL.numL n).length (some (0 + ((0 : Nat) : Int) * 60 + 60)) = (TL.numL n).length := by
          have : (0 + ((0 : Nat) : Int) * 60 + 60) = ((60 : Nat) : Int) := rfl
          rw [this]
          unfold HT.sIx
          simp only
          split <;> omega
        rw [e1, e2]
        show SX.S (((TL.numL n).drop 0).take ((TL.numL n).length - 0)) = _
        rw [List.drop_zero, Nat.sub_zero, List.take_length]
      refine ⟨_, rfl, _, rfl, _, rfl, _, rfl, _, _, rfl, rfl, _, rfl, _, rfl, sl, ?_⟩
      rw [cut]
      refine ⟨_, rfl, _, rfl, _, rfl, sl, (TL.numL n).length, by rw [SX.S_len]; rfl, by omega, fun z => ?_⟩
      refine ⟨_, _, rfl, rfl, .inl ⟨by rw [if_pos rfl]; decide, by rw [if_pos rfl]; decide⟩, _, rfl, _, n, rfl, by rw [num_S]; exact TL.int_num (by omega), by rw [SX.S_len]; omega, _, _, rfl, rfl, ?_⟩
      refine ⟨some (V.int (0 + ((0 : Nat) : Int) * 60)), some (V.str (SX.S (TL.numL n))), ?_, rfl⟩
      show [some (V.str (SX.S (TL.numL n))), some (V.int ((0 : Int) * z + n)), _, _] = [_, some (V.int (n : Int)), _, _]
      rw [Int.zero_mul, Int.zero_add]
    · rintro σ H2 ⟨z1, z2, rfl, rfl⟩
      exact ⟨_, rfl, q⟩
theorem ok_re (F : Fun K "read_exponent" "read_exponent" sRe f fd) (B : Blt mg) (Z : ScC K C) (Nw : Cl K mg "number_with" sNw ["figures"] fN dN) (Pw : Cl K mg "power_of" sPo ["base", "exponent"] fP dP) (gF : mg "FIGURES_arithmetic" = some (.int 60 tf))
    (Tk : Mt K C "took" "Scanner.took" sTook ["self", "sign"] fT dT') (Fg : MtD K C "figures" "Scanner.figures" sFig ["self", "most", "greatest"] fG dG)
    (GT : FnOk P w K mg base CX0 3 fT dT' ["self", "sign"] (spTook C)) (GG : FnOk P w K mg base CX0 3 fG dG ["self", "most", "greatest"] (spFig C)) : FnOk P w K mg base CX0 4 f fd ["scanner"] (spRe C) := by
  have GN : FnOk P w K mg base CX0 2 fN dN ["figures"] spNw := ok_nw Nw.fn B Pw gF
  refine F.ok scRe (fun vs H Q E h => ?_) (fun cdv A outer s H vs Q E hr h => ?_)
  · obtain ⟨s, T, i, e, R', rfl, _⟩ := h
    rfl
  · obtain ⟨s, T, i, e, R', rfl, at_, rx, q⟩ := h
    refine ⟨_, pss_cons (ps_if (pt_not (pt_val (pe_meth (pv 0) Z.cl Tk.m GT hr Tk.b .nil pass0 (pa_cons pe_str pa_nil)))) (pss_one (ps_ret pe_int)) pss_nil)
      (pss_cons (ps_set (i := 1) scRe.nd rfl (Or.inl rfl) (pe_ifExp (pt_val (pe_meth (pv 0) Z.cl Tk.m GT hr Tk.b .nil pass0 (pa_cons pe_str pa_nil))) (pe_un un_neg pe_int) pe_int))
      (pss_one (ps_ret (pe_op op_mul (pv 1) (pe_call GN (hr.mono (by decide)) rfl Nw.g Nw.k Nw.b .nil pass0 (pa_cons (pe_meth (pv 0) Z.cl Fg.m GG hr Fg.b (.cons (show RelV V.non Value.none from rfl) .nil) pass0 (pa_cons pe_non pa_nil)) pa_nil)))))), ?_⟩
    obtain ⟨dx, h1⟩ := at_.ex
    refine ⟨_, rfl, s, dx, _, rfl, h1, rfl, s, T, i, 94, rfl, at_, fun H2 j b a2 o2 yes no => ?_⟩
    obtain ⟨dx2, h2⟩ := a2.ex
    obtain ⟨n94, rfl, er⟩ | ⟨R1, e94, rr⟩ := rx
    · cases b with
      | true => exact absurd (yes rfl) (n94 _)
      | false => exact ⟨_, rfl, iteT (q H2 j a2 ((no rfl).1.trans er.symm) o2)⟩
    · cases b with
      | false => exact absurd e94 ((no rfl).2 _)
      | true =>
        have ej : T.drop j = R1 := by
          have y := yes rfl
          rw [e94] at y
          injection y with _ y
          exact y.symm
        refine ⟨_, rfl, iteF ⟨_, rfl, s, dx2, _, rfl, h2, rfl, s, T, j, 45, rfl, a2, fun H3 k b3 a3 o3 yes3 no3 => ?_⟩⟩
        obtain ⟨dx3, h3⟩ := a3.ex
        rw [ej] at yes3 no3
        obtain ⟨R2, n, e45, fg, big, rfl⟩ | ⟨n45, n, fg, big, rfl⟩ := rr
        · cases b3 with
          | false => exact absurd e45 ((no3 rfl).2 _)
          | true =>
            have ek : T.drop k = R2 := by
              have y := yes3 rfl
              rw [e45] at y
              injection y with _ y
              exact y.symm
            refine ⟨_, rfl, iteT ⟨_, rfl, _, rfl, _, rfl, s, dx3, _, rfl, h3, rfl, s, T, k, n, R', rfl, a3, by rw [ek]; exact fg, fun H4 l a4 el o4 => ?_⟩⟩
            refine ⟨n, rfl, big, _, _, rfl, rfl, .inl ⟨by decide, by decide⟩, ?_⟩
            show Q (V.int ((-1 : Int) * n)) H4
            rw [show (-1 : Int) * n = -(n : Int) by omega]
            exact q H4 l a4 el ((o2.trans o3).trans o4)
        · cases b3 with
          | true => exact absurd (yes3 rfl) (n45 _)
          | false =>
            refine ⟨_, rfl, iteF ⟨_, rfl, _, rfl, s, dx3, _, rfl, h3, rfl, s, T, k, n, R', rfl, a3, by rw [(no3 rfl).1]; exact fg, fun H4 l a4 el o4 => ?_⟩⟩
            refine ⟨n, rfl, big, _, _, rfl, rfl, .inl ⟨by decide, by decide⟩, ?_⟩
            show Q (V.int ((1 : Int) * n)) H4
            rw [Int.one_mul]
            exact q H4 l a4 el ((o2.trans o3).trans o4)
end
end K14

namespace K14
open PySem L2 Gd Ply
section
variable {P : Program} {w : World} {K : PySem.W.Frag} {mg : Str → Option Value} {base : Heap}
variable {C f fH fS fK fF fA : Addr} {fd dH dS dK dF dA : FuncData} {tk : Tok}
theorem fig_at {T : List Nat} {b n : Nat} {R' : List Nat} (e : T.drop b = TL.numL n ++ R') {k : Nat} (hk : k ≤ (TL.numL n).length) : T.drop (b + k) = (TL.numL n).drop k ++ R' ∧ b + k ≤ T.length := by
  have l := congrArg List.length e
  rw [List.length_drop, List.length_append] at l
  have p := List.length_pos_iff.mpr (TL.numL_ne n)
  refine ⟨?_, by omega⟩
  rw [← List.drop_drop, e, List.drop_append_of_le_length hk]
theorem ok_fig (F : FunE K "figures" "Scanner.figures" sFig [.non, .non] f fd) (Z : ScC K C) (Hr : Mt K C "here" "Scanner.here" sHere ["self"] fH dH) (St : Mt K C "step_on" "Scanner.step_on" sStep ["self"] fS dS)
    (Sk : Mt K C "skip" "Scanner.skip" sSkip ["self"] fK dK) (Fa : Mt K C "fail" "Scanner.fail" sFail ["self"] fF dF) (Af : Mt K C "at_figure" "Scanner.at_figure" sAtF ["self"] fA dA) (gF : mg "FIGURES_scanning" = some (.str "0123456789" tk)) :
    FnOk P w K mg base CX0 3 f fd ["self", "most", "greatest"] (spFig C) := by
  have GS : FnOk P w K mg base CX0 1 fS dS ["self"] (spStep C) := ok_step St.fn Z
  have GF : FnOk P w K mg base CX0 1 fF dF ["self"] spNever := ok_fail Fa.fn
  have GK : FnOk P w K mg base CX0 2 fK dK ["self"] (spSkip C) := ok_skip Sk.fn Z Hr St
  have GA : FnOk P w K mg base CX0 2 fA dA ["self"] (spAtF C) := ok_atf Af.fn Z Hr gF
  refine F.ok scFig (fun vs H Q E h => ?_) (fun cdv A outer s H vs Q E hr h => ?_)
  · obtain ⟨s, T, i, n, R', rfl, _⟩ := h
    rfl
  · obtain ⟨s, T, i, n, R', rfl, at_, ⟨fg, nd⟩, q⟩ := h
    have hr1 : Room 1 _ := hr.mono (by decide)
    refine ⟨_, pss_cons (ps_expr (pe_meth0 (pv 0) Z.cl Sk.m GK hr Sk.b .nil pass0))
      (pss_cons (ps_set (i := 3) scFig.nd rfl (Or.inl rfl) (pe_fld (pv 0) rfl))
      (pss_cons (ps_if (pt_not (pt_val (pe_meth0 (pv 0) Z.cl Af.m GA hr Af.b .nil pass0))) (pss_one (ps_expr (pe_meth0 (pv 0) Z.cl Fa.m GF hr1 Fa.b .nil pass0))) pss_nil)
      (pss_cons (ps_while PassesOwn.never (pt_val (pe_meth0 (pv 0) Z.cl Af.m GA hr Af.b .nil pass0))
        (pss_cons (ps_if (PW.pt (pw_and (pt_cmpR op_eq (pe_ix ix_str (pe_fld (pv 0) rfl) (pv 3) (fun _ _ => rfl)) pe_str (nomark _)) (pw_and1 (pt_cmpR op_gt (pe_fld (pv 0) rfl) (pv 3) (nomark _)))))
          (pss_one (ps_expr (pe_meth0 (pv 0) Z.cl Fa.m GF hr1 Fa.b .nil pass0))) pss_nil)
        (pss_cons (ps_if (PW.pt (pw_and (pt_cmpR op_notN (pv 1) pe_non (nomark _)) (pw_and1 (pt_cmpR op_ge (pe_op op_sub (pe_fld (pv 0) rfl) (pv 3)) (pv 1) (nomark _)))))
          (pss_one (ps_expr (pe_meth0 (pv 0) Z.cl Fa.m GF hr1 Fa.b .nil pass0))) pss_nil)
        (pss_cons (ps_if (PW.pt (pw_and (pt_cmpR op_notN (pv 2) pe_non (nomark _)) (pw_and1 deadT)))
          (pss_one (ps_expr (pe_meth0 (pv 0) Z.cl Fa.m GF hr1 Fa.b .nil pass0))) pss_nil)
        (pss_one (ps_expr (pe_meth0 (pv 0) Z.cl St.m GS hr1 St.b .nil pass0)))))))
      (pss_one (ps_ret (pe_slice sl_str (pe_fld (pv 0) rfl) (po_some (pv 3)) (po_some (pe_fld (pv 0) rfl)))))))), ?_⟩
    obtain ⟨dx, h1⟩ := at_.ex
    refine ⟨_, rfl, s, dx, _, rfl, h1, rfl, s, T, i, rfl, at_, fun H2 b a2 eb o2 => ?_⟩
    obtain ⟨dx2, h2⟩ := a2.ex
    rw [← eb] at fg
    have lp : 0 < (TL.numL n).length := List.length_pos_iff.mpr (TL.numL_ne n)
    have hd0 : hdDg (T.drop b) = true := by
      rw [fg]
      cases e : TL.numL n with
      | nil => exact absurd e (TL.numL_ne n)
      | cons c r => exact numL_dg (n := n) (by rw [e]; exact .head _)
    refine ⟨_, rfl, s, C, dx2, _, _, rfl, h2, Z.cl, Z.n2, rfl, ?_⟩
    refine ⟨_, rfl, s, dx2, _, rfl, h2, rfl, s, T, b, rfl, a2, ?_⟩
    rw [hd0]
    refine ⟨_, rfl, iteF ?_⟩
    refine while_by (fun σ H3 => ∃ k, σ = [some (.ref s), some .non, some .non, some (.int (b : Int))] ∧ k ≤ (TL.numL n).length ∧ At C s T (b + k) H3 ∧ Off s H H3) (fun _ H3 => match H3 s with | some (.ins _ _ [_, _, (_, .int j)]) => T.length - j.toNat | _ => 0)
      ⟨0, rfl, Nat.zero_le _, a2, o2⟩ ?_ ?_
    · rintro σ H3 ⟨k, rfl, hk, a3, o3⟩
      obtain ⟨dx3, h3⟩ := a3.ex
      obtain ⟨ek, lk⟩ := fig_at fg hk
      refine ⟨_, rfl, s, dx3, _, rfl, h3, rfl, s, T, b + k, rfl, a3, _, rfl, ?_⟩
      rw [ek]
      by_cases z : k = (TL.numL n).length
      · have : (TL.numL n).drop k = [] := by rw [z, List.drop_length]
        rw [this, List.nil_append, nd]
        refine iteF ⟨_, rfl, s, C, dx3, _, _, rfl, h3, Z.cl, Z.n1, rfl, _, rfl, _, rfl, _, rfl, s, C, dx3, _, _, rfl, h3, Z.cl, Z.n2, rfl, _, rfl, _, rfl, by rw [SX.S_len]; exact Nat.le_of_lt (small1000 a3.few), ?_⟩
        rw [cut_run T b (b + k) (by omega) lk, fg, show b + k - b = (TL.numL n).length by omega, List.take_append_of_le_length (Nat.le_refl _), List.take_length]
        exact q H3 (b + k) a3 (by rw [ek, this]; rfl) o3
      · have lt : k < (TL.numL n).length := by omega
        have dg : hdDg ((TL.numL n).drop k ++ R') = true := by
          rw [List.drop_eq_getElem_cons lt]
          exact numL_dg (n := n) (List.getElem_mem lt)
        rw [dg]
        obtain ⟨c0, r0, e0⟩ : ∃ c r, TL.numL n = c :: r := by
          cases e : TL.numL n with
          | nil => exact absurd e (TL.numL_ne n)
          | cons c r => exact ⟨c, r, rfl⟩
        have g0 : T[b]? = some c0 := by
          have z : (T.drop b)[0]? = some c0 := by rw [fg, e0]; rfl
          rw [List.getElem?_drop] at z
          exact z
        have lb : b + k < T.length := by
          have z := congrArg List.length ek
          rw [List.length_drop, List.length_append, List.length_drop] at z
          omega
        have stop : ¬ (c0 = 48 ∧ 0 < k) := by
          rintro ⟨z1, z2⟩
          by_cases n0 : n = 0
          · subst n0
            rw [numL_zero] at lt
            have : k < 1 := lt
            omega
          · obtain ⟨c, r, e, ne⟩ := numL_head n (by omega)
            rw [e0] at e
            cases e
            exact ne z1
        have go : ∀ H4, At C s T (b + k + 1) H4 → Off s H3 H4 → (∃ k', [some (V.ref s), some .non, some .non, some (.int (b : Int))] = [some (V.ref s), some .non, some .non, some (.int (b : Int))] ∧ k' ≤ (TL.numL n).length ∧ At C s T (b + k') H4 ∧ Off s H H4) ∧
            (match H4 s with | some (.ins _ _ [_, _, (_, .int j)]) => T.length - j.toNat | _ => 0) < (match H3 s with | some (.ins _ _ [_, _, (_, .int j)]) => T.length - j.toNat | _ => 0) := by
          intro H4 a4 o4
          refine ⟨⟨k + 1, rfl, lt, a4, o3.trans o4⟩, ?_⟩
          obtain ⟨dx4, h4⟩ := a4.ex
          rw [h3, h4]
          show T.length - (((b + k + 1 : Nat) : Int)).toNat < T.length - ((b + k : Nat) : Int).toNat
          omega

        refine iteT ⟨_, rfl, s, C, dx3, _, _, rfl, h3, Z.cl, Z.n1, rfl, _, rfl, _, _, c0, rfl, rfl, by rw [SX.S_len]; exact Nat.le_of_lt (small1000 a3.few), atI_nat g0, rfl, _, rfl, ?_⟩
        refine ite2 (fun z => ?_) (fun z => ?_)
        · have z : c0 = 48 := by
            have z := V.str.inj (of_decide_eq_true z)
            have z := SX.S_inj (a := [c0]) (b := [48]) z
            cases z
            rfl
          refine ⟨_, rfl, s, C, dx3, _, _, rfl, h3, Z.cl, Z.n2, rfl, _, rfl, _, _, rfl, rfl, _, rfl, ?_⟩
          rw [show decide ((b : Int) < ((b + k : Nat) : Int)) = false from decide_eq_false (fun y => stop ⟨z, by omega⟩)]
          exact iteF ⟨_, rfl, rfl, _, rfl, iteF ⟨_, rfl, rfl, _, rfl, iteF ⟨_, rfl, s, dx3, _, rfl, h3, rfl, s, T, b + k, rfl, a3, lb, go⟩⟩⟩
        · exact ⟨_, rfl, rfl, _, rfl, iteF ⟨_, rfl, rfl, _, rfl, iteF ⟨_, rfl, s, dx3, _, rfl, h3, rfl, s, T, b + k, rfl, a3, lb, go⟩⟩⟩
    · rintro σ H2 Q1 Q2 f ⟨v, e, a, dx, fs, e1, h1, nm, s, T, i, e2, at_, y, p2, q2⟩
      exact ⟨v, e, a, dx, fs, e1, h1, nm, s, T, i, e2, at_, y, p2, f _ _ q2⟩
end
end K14

namespace K14
open PySem L2 Gd Ply
/-- while True: -/
theorem while_T {tb : TS} {D : Ends} {σ : L2.St} {H : Hp} (W : Nat → L2.St → Hp → Prop) (m : Nat) (h0 : W m σ H)
    (hs : ∀ m σ H, W m σ H → tb { D with nx := fun σ' H' => ∃ m', m' < m ∧ W m' σ' H', ct := fun σ' H' => ∃ m', m' < m ∧ W m' σ' H', bk := D.nx } σ H) : tWhile (fun σ H Q => ∃ b, V.bl true = V.bl b ∧ Q b H) tb D σ H :=
  ⟨W, ⟨m, h0⟩, fun m σ H h => ⟨true, rfl, iteT ⟨_, fun _ _ h => h, hs m σ H h⟩⟩⟩
def spRt (C : Addr) : Sp := fun vs H Q _ => ∃ s T i g fs R', vs = [.ref s, .int g] ∧ At C s T i H ∧ Facs (T.drop i) fs R' ∧ fs.length ≤ 100 ∧ g.natAbs ≤ 1 ∧
  ∀ H' j t b, At C s T j H' → T.drop j = R' → Off s H H' → H' t = some (.tup [.ref b, .int (run fs ([0, 0, 0], g)).2]) → H' b = some (.tup ((run fs ([0, 0, 0], g)).1.map V.int)) → Q (.ref t) H'
theorem run_len : ∀ (fs : List Eff) (s : List Int × Int), (run fs s).1.length = s.1.length
  | [], _ => rfl
  | .lt a e :: fs, s => by
    show (run fs _).1.length = _
    rw [run_len fs]
    show (s.1.set a _).length = _
    rw [List.length_set]
  | .num n :: fs, s => run_len fs _
section
variable {P : Program} {w : World} {K : PySem.W.Frag} {mg : Str → Option Value} {base : Heap}
variable {C f fP fN fH fS fK fT fG fR LP : Addr} {fd dP dN dH dS dK dT' dG dR : FuncData} {tk tf : Tok}
abbrev sRt : Stmt := top 39
abbrev NRt : List Str := ["scanner", "number", "exponents", "letter", "at"]
theorem scRt : FnScope NRt ["scanner", "number"] (defScope sRt) := ⟨rfl, rfl, rfl, by decide +kernel, rfl, by decide +kernel, by decide +kernel⟩
theorem xyz_yes : ∀ a : Nat, a < 3 → inV (.str (SX.S [120 + a])) ((["x", "y", "z"] : List Str).map V.str) = true ∧ (["x", "y", "z"] : List Str)[a]? = some (SX.S [120 + a]) ∧ ∀ m, m < a → (["x", "y", "z"] : List Str)[m]? ≠ some (SX.S [120 + a]) := by
  intro a h
  match a, h with
  | 0, _ => exact ⟨by decide +kernel, rfl, fun m h => absurd h (Nat.not_lt_zero _)⟩
  | 1, _ => exact ⟨by decide +kernel, rfl, fun m h => by
      obtain rfl : m = 0 := by omega
      decide +kernel⟩
  | 2, _ => exact ⟨by decide +kernel, rfl, fun m h => by
      match m, h with
      | 0, _ => decide +kernel
      | 1, _ => decide +kernel⟩
theorem xyz_no (c : Nat) (h : isDg c = true) : inV (.str (SX.S [c])) ((["x", "y", "z"] : List Str).map V.str) = false := by
  have h := of_decide_eq_true h
  have g : ∀ c : Nat, c < 58 → 48 ≤ c → inV (.str (SX.S [c])) ((["x", "y", "z"] : List Str).map V.str) = false := by decide +kernel
  exact g c (by omega) (by omega)
end
end K14

namespace K14
open PySem L2 Gd Ply
section
variable {P : Program} {w : World} {K : PySem.W.Frag} {mg : Str → Option Value} {base : Heap}
variable {C f fP fN fH fS fK fT fG fR LP : Addr} {fd dP dN dH dS dK dT' dG dR : FuncData} {tk tf : Tok}
theorem pow_small (n : Nat) (h : n < 10 ^ 50) : ((n : Int)).natAbs < 2 ^ 170 := by
  have : (10 : Nat) ^ 50 < 2 ^ 170 := by decide
  show n < _
  omega
/-- what the loop keeps -/
def RtI (C s x : Addr) (T R' : List Nat) (H : Hp) (fin : List Int × Int) (m : Nat) (σ : L2.St) (H2 : Hp) : Prop :=
  ∃ j k fs n z3 z4, σ = [some (.ref s), some (.int n), some (.ref x), z3, z4] ∧ fs.length = m ∧ m ≤ 100 ∧ H2 x = some (.lst (k.map V.int)) ∧ k.length = 3 ∧ At C s T j H2 ∧ Facs (T.drop j) fs R' ∧ run fs (k, n) = fin ∧
    n.natAbs < 2 ^ (1 + 170 * (100 - m)) ∧ Off s H H2
theorem ok_rt (F : Fun K "read_term" "read_term" sRt f fd) (B : Blt mg) (Z : ScC K C) (gL : mg "LETTERS_powers" = some (.ref LP)) (tL : tupS K (.ref LP) = some (["x", "y", "z"] : List Str))
    (Hr : Mt K C "here" "Scanner.here" sHere ["self"] fH dH) (St : Mt K C "step_on" "Scanner.step_on" sStep ["self"] fS dS) (Sk : Mt K C "skip" "Scanner.skip" sSkip ["self"] fK dK)
    (Tk : Mt K C "took" "Scanner.took" sTook ["self", "sign"] fT dT') (Fg : MtD K C "figures" "Scanner.figures" sFig ["self", "most", "greatest"] fG dG)
    (Nw : Cl K mg "number_with" sNw ["figures"] fN dN) (Re : Cl K mg "read_exponent" sRe ["scanner"] fR dR)
    (GH : FnOk P w K mg base CX0 1 fH dH ["self"] (spHere C)) (GS : FnOk P w K mg base CX0 1 fS dS ["self"] (spStep C)) (GK : FnOk P w K mg base CX0 2 fK dK ["self"] (spSkip C))
    (GT : FnOk P w K mg base CX0 3 fT dT' ["self", "sign"] (spTook C)) (GG : FnOk P w K mg base CX0 3 fG dG ["self", "most", "greatest"] (spFig C))
    (GN : FnOk P w K mg base CX0 2 fN dN ["figures"] spNw) (GR : FnOk P w K mg base CX0 4 fR dR ["scanner"] (spRe C)) : FnOk P w K mg base CX0 5 f fd ["scanner", "number"] (spRt C) := by
  refine F.ok scRt (fun vs H Q E h => ?_) (fun cdv A outer s0 H vs Q E hr h => ?_)
  · obtain ⟨s, T, i, g, fs, R', rfl, _⟩ := h
    rfl
  · obtain ⟨s, T, i, g, fs, R', rfl, at_, fc, few, g1, q⟩ := h
    have hr1 : Room 1 _ := hr.mono (by decide)
    have hr2 : Room 2 _ := hr.mono (by decide)
    have hr3 : Room 3 _ := hr.mono (by decide)
    have hL : ∀ H, SqT K H LP ((["x", "y", "z"] : List Str).map V.str) := fun H => tupS_in tL (by decide) H
    refine ⟨_, pss_cons (ps_set (i := 2) scRt.nd rfl (Or.inl rfl) (pe_lst (pa_cons pe_int (pa_cons pe_int (pa_cons pe_int pa_nil)))))
      (pss_one (ps_while PassesOwn.never (pt_val pe_bl)
        (pss_cons (ps_expr (pe_meth0 (pv 0) Z.cl Sk.m GK hr2 Sk.b .nil pass0))
        (pss_cons (ps_set (i := 3) scRt.nd rfl (Or.inl rfl) (pe_meth0 (pv 0) Z.cl Hr.m GH hr1 Hr.b .nil pass0))
        (Evl.pss_cut (ps_if (pt_cmpR op_in_seq (pv 3) (pe_glob (v := .ref LP) rfl gL rfl) (by rfl))
            (pss_cons (ps_expr (pe_meth0 (pv 0) Z.cl St.m GS hr1 St.b .nil pass0))
            (pss_cons (ps_set (i := 4) scRt.nd rfl (Or.inl rfl) (pe_bm PySem.F.plainAttrs_tuple PySem.F.slot_tuple_index PySem.F.type_tuple_index mt_tup_index (pe_glob (v := .ref LP) rfl gL rfl) (pa_cons (pv 3) pa_nil)))
            (pss_one (ps_asg (pe_op op_add (pe_ix ix_list (pv 2) (pv 4) (fun _ _ => rfl)) (pe_call GR hr rfl Re.g Re.k Re.b .nil pass0 (pa_cons (pv 0) pa_nil))) (pg_sub (pv 2) (pv 4) set_list)))))
            (pss_one (ps_set (i := 1) scRt.nd rfl (Or.inl rfl) (pe_op op_mulW (pv 1) (pe_call GN hr2 rfl Nw.g Nw.k Nw.b .nil pass0 (pa_cons (pe_meth (pv 0) Z.cl Fg.m GG hr3 Fg.b (.cons (show RelV V.non Value.none from rfl) .nil) pass0 (pa_cons pe_non pa_nil)) pa_nil))))))
        (pss_one (ps_if (pt_not (pt_val (pe_meth (pv 0) Z.cl Tk.m GT hr3 Tk.b .nil pass0 (pa_cons pe_str pa_nil))))
          (pss_one (ps_ret (pe_tup (pa_cons (pe_callTy call_tuple_of (by rfl) B.tup_ (by decide +kernel) (pa_cons (pv 2) pa_nil)) (pa_cons (pv 1) pa_nil))))) pss_nil))))))), ?_⟩
    refine ⟨by show 3 ≤ sizeLine; decide, fun x nx => ?_⟩
    have o1 : Off s H (upd H x (.lst [.int 0, .int 0, .int 0])) := Off.of (new_more nx)
    obtain ⟨dx0, hs0⟩ := at_.ex
    have nsx : s ≠ x := ne_of_none hs0 nx
    have a1 : At C s T i (upd H x (.lst [.int 0, .int 0, .int 0])) := at_.off (upd_ne nsx)
    have hx1 : (upd H x (.lst [.int 0, .int 0, .int 0])) x = some (.lst (([0, 0, 0] : List Int).map V.int)) := upd_same
    generalize upd H x (.lst [.int 0, .int 0, .int 0]) = H1 at o1 a1 hx1 ⊢
    refine while_T (RtI C s x T R' H (run fs ([0, 0, 0], g))) fs.length ⟨i, [0, 0, 0], fs, g, _, _, rfl, rfl, few, hx1, rfl, a1, fc, rfl, ?_, o1⟩ ?_
    · exact Nat.lt_of_le_of_lt g1 (Nat.one_lt_two_pow (by omega))
    clear o1 a1 hx1 fc few g1
    rintro m σ H2 ⟨j, k, fs1, n, z3, z4, rfl, rfl, few, hx2, k3, a2, fc, er, nb, o2⟩
    obtain ⟨dx2, h2⟩ := a2.ex
    refine ⟨_, rfl, s, dx2, _, rfl, h2, rfl, s, T, j, rfl, a2, fun H3 j3 a3 e3 o3 => ?_⟩
    obtain ⟨dx3, h3⟩ := a3.ex
    have hx3 := o3 x _ hx2 nsx.symm
    refine ⟨_, rfl, s, dx3, _, rfl, h3, rfl, s, T, j3, rfl, a3, ?_⟩
    obtain ⟨f1, R1, rest, st, efs⟩ : ∃ f1 R1 rest, Step (T.drop j) f1 R1 ∧ fs1 = f1 :: rest ∧ ((rest = [] ∧ No 42 (skp R1) ∧ R' = skp R1) ∨ ∃ R2, skp R1 = 42 :: R2 ∧ Facs R2 rest R') := by
      cases fc with
      | last a b => exact ⟨_, _, _, a, rfl, .inl ⟨rfl, b, rfl⟩⟩
      | more a b c => exact ⟨_, _, _, a, rfl, .inr ⟨_, b, c⟩⟩
    obtain ⟨rfl, efs⟩ := efs
    refine ⟨fun σ' H' => ∃ j5 k5 n5 z3 z4, σ' = [some (.ref s), some (.int n5), some (.ref x), z3, z4] ∧ H' x = some (.lst (k5.map V.int)) ∧ k5.length = 3 ∧ At C s T j5 H' ∧ T.drop j5 = R1 ∧ run rest (k5, n5) = run fs ([0, 0, 0], g) ∧
      n5.natAbs < 2 ^ (1 + 170 * (100 - rest.length)) ∧ Off s H H', ?_, ?_⟩
    · refine ⟨_, rfl, LP, _, rfl, .inr (hL _), rfl, flat_strs _, _, rfl, ?_⟩
      have o23 := o2.trans o3
      cases f1 with
      | lt a e =>
        obtain ⟨a3', R3, e3', rx⟩ := st
        rw [e3'] at e3
        obtain ⟨lt3, d3⟩ := drop_lt e3
        obtain ⟨y1, y2, y3⟩ := xyz_yes a a3'
        have e1 : (T.drop j3).take 1 = [120 + a] := by rw [e3]; rfl
        rw [e1]
        refine ite2 (fun _ => ?_) (fun z => absurd y1 z)
        refine ⟨_, rfl, s, dx3, _, rfl, h3, rfl, s, T, j3, rfl, a3, lt3, fun H4 a4 o4 => ?_⟩
        obtain ⟨dx4, h4⟩ := a4.ex
        have hx4 := o4 x _ hx3 nsx.symm
        obtain ⟨lo, hlo⟩ : ∃ lo, K.lookup LP = some lo ∧ lo.cls = .type "tuple" ∧ lo.dict = none := by
          have t := tL
          unfold tupS at t
          simp only at t
          split at t
          · rename_i ea
            exact ⟨_, ea, rfl, rfl⟩
          · cases t
        refine ⟨.inr (.inl ⟨rfl, lo, hlo⟩), _, rfl, LP, _, _, a, rfl, rfl, hL _, y2, y3, ?_⟩
        have ka : a < k.length := by omega
        have hka : (k.map V.int)[a]? = some (V.int (k.getD a 0)) := by
          rw [List.getElem?_map, List.getD_eq_getElem?_getD, List.getElem?_eq_getElem ka]
          rfl
        refine ⟨_, rfl, _, rfl, x, _, _, _, rfl, rfl, SqL.of hx4, atI_nat hka, _, rfl, s, T, j3 + 1, e, R1, rfl, a4, by rw [d3]; exact rx, fun H5 j5 a5 e5 o5 => ?_⟩
        have hx5 := o5 x _ hx4 nsx.symm
        refine ⟨_, _, rfl, rfl, _, rfl, _, rfl, x, _, _, a, rfl, rfl, hx5, ?_, ?_⟩
        · unfold ixN
          rw [List.length_map, if_pos (Int.natCast_nonneg _), if_pos (by omega), Int.toNat_natCast]
        · refine ⟨j5, k.set a (k.getD a 0 + e), n, _, _, rfl, ?_, by rw [List.length_set]; exact k3, a5.off (upd_ne nsx), e5, er, ?_, fun b o hb nb => ?_⟩
          · rw [upd_same, List.map_set]
          · refine Nat.lt_of_lt_of_le nb (Nat.pow_le_pow_right (by decide) ?_)
            rw [List.length_cons]
            omega
          · rw [upd_ne (ne_of_none hb nx)]
            exact (o23.trans (o4.trans o5)) b o hb nb
      | num n1 =>
        obtain ⟨big, fg⟩ := st
        have fg3 : Fig (T.drop j3) n1 R1 := by rw [e3]; exact ⟨by rw [skp_skp]; exact fg.1, fg.2⟩
        obtain ⟨c0, r0, ec⟩ : ∃ c0 r0, TL.numL n1 = c0 :: r0 := by
          cases e : TL.numL n1 with
          | nil => exact absurd e (TL.numL_ne n1)
          | cons c r => exact ⟨c, r, rfl⟩
        have e1 : (T.drop j3).take 1 = [c0] := by rw [e3, fg.1, ec]; rfl
        rw [e1]
        refine ite2 (fun z => absurd z (by rw [xyz_no c0 (numL_dg (n := n1) (by rw [ec]; exact .head _))]; decide)) (fun _ => ?_)
        refine ⟨_, rfl, _, rfl, s, dx3, _, rfl, h3, rfl, s, T, j3, n1, R1, rfl, a3, fg3, fun H4 j4 a4 e4 o4 => ?_⟩
        have hx4 := o4 x _ hx3 nsx.symm
        rw [List.length_cons] at nb few
        refine ⟨n1, rfl, big, _, _, rfl, rfl, wide_mul nb (pow_small n1 big) (by omega) (by decide) (by omega), ?_⟩
        refine ⟨j4, k, n * n1, _, _, rfl, hx4, k3, a4, e4, er, ?_, o23.trans o4⟩
        have := wide_lt nb (pow_small n1 big)
        refine Nat.lt_of_lt_of_le this (Nat.pow_le_pow_right (by decide) ?_)
        omega
    · rintro σ5 H5 ⟨j5, k5, n5, z3, z4, rfl, hx5, k5l, a5, e5, er5, nb5, o5⟩
      obtain ⟨dx5, h5⟩ := a5.ex
      rw [List.length_cons] at few
      refine ⟨_, rfl, s, dx5, _, rfl, h5, rfl, s, T, j5, 42, rfl, a5, fun H6 j6 b a6 o6 yes no => ?_⟩
      have hx6 := o6 x _ hx5 nsx.symm
      rw [e5] at yes no
      have o56 := o5.trans o6
      cases b with
      | true =>
        obtain ⟨_, nn, _⟩ | ⟨R2, e42, fc2⟩ := efs
        · exact absurd (yes rfl) (nn _)
        · have y := yes rfl
          rw [e42] at y
          injection y with _ y
          refine ⟨_, rfl, iteF ⟨rest.length, by rw [List.length_cons]; omega, j6, k5, rest, n5, _, _, rfl, rfl, by omega, hx6, k5l, a6, by rw [← y]; exact fc2, er5, nb5, o56⟩⟩
      | false =>
        obtain ⟨rfl, _, rfl⟩ | ⟨R2, e42, _⟩ := efs
        · refine ⟨_, rfl, iteT ⟨_, rfl, x, _, rfl, .inl ⟨SqL.of hx6, fun t nt => ⟨_, rfl, by show 2 ≤ sizeLine; decide, fun t2 nt2 => ?_⟩⟩⟩⟩
          have nst : s ≠ t := by
            obtain ⟨dx6, h6⟩ := a6.ex
            exact ne_of_none h6 nt
          have nst2 : s ≠ t2 := by
            obtain ⟨dx6, h6⟩ := a6.ex
            exact ne_of_none (new_more nt _ _ h6) nt2
          have er5 : (k5, n5) = run fs ([0, 0, 0], g) := er5
          refine q _ j6 t2 t ((a6.off (upd_ne nst)).off (upd_ne nst2)) (no rfl).1 (o56.trans (Off.of ((new_more nt).new nt2))) ?_ ?_
          · rw [← er5]
            exact upd_same
          · rw [← er5, upd_ne (ne_of_none upd_same nt2)]
            exact upd_same
        · exact absurd e42 ((no rfl).2 _)
end
end K14

namespace K14
open PySem L2 Gd Ply
theorem terms_ok {K : PySem.W.Frag} {H : Hp} {L : List It3} (h : ∀ e ∈ L, H e.p = some (.tup [.ref e.b, .int e.n]) ∧ H e.b = some (.tup (e.k.map V.int))) (t : ∀ e ∈ L, e.k.length = 3) :
    Paired (fun x (e : List Int × Int) => Trm K H x e.1 e.2) (L.map fun e => V.ref e.p) (L.map fun e => (e.k, e.n)) := by
  induction L with
  | nil => exact .nil
  | cons e L ih =>
    obtain ⟨h1, h2⟩ := h e (.head _)
    exact .cons ⟨e.p, e.b, rfl, .inr (SqT.of h1), .inr h2, t e (.head _)⟩ (ih (fun x hx => h x (.tail _ hx)) fun x hx => t x (.tail _ hx))
theorem Pob.offS {C C' a s : Addr} {H H' : Hp} {f : List Int → Int} (of : Off s H H') (hs : ∃ dx z1 z3 z2, H s = some (.ins C' dx [("text", z1), ("known", z3), ("place", z2)])) (h : Pob H C a f) : Pob H' C a f := by
  obtain ⟨dx', z1, z3, z2, hs⟩ := hs
  obtain ⟨dx, t, r, d, fs, l, p, m0, m1, m2, h1, h2, h3, h4, ⟨L, u1, u2, u3⟩, h6, h7, h8, h9, h10⟩ := h.ex
  refine ⟨dx, t, r, d, fs, l, p, m0, m1, m2, of _ _ h1 fun e => ?_, h2, h3, h4, ⟨L, of _ _ u1 (ne_of u1 hs (by intro z; cases z)), fun e he => ⟨of _ _ (u2 e he).1 (ne_of (u2 e he).1 hs (by intro z; cases z)), of _ _ (u2 e he).2 (ne_of (u2 e he).2 hs (by intro z; cases z))⟩, u3⟩, h6, of _ _ h7 (ne_of h7 hs (by intro z; cases z)), h8, of _ _ h9 (ne_of h9 hs (by intro z; cases z)), h10⟩
  rw [e, hs] at h1
  cases h1
  have : ([("text", z1), ("known", z3), ("place", z2)] : List (Str × V)).lookup ("terms" : Str) = none := rfl
  rw [this] at h2
  cases h2
def spRp (C CP : Addr) : Sp := fun vs H Q _ => ∃ s T i its R', vs = [.ref s] ∧ At C s T i H ∧ Pows (T.drop i) its R' ∧ its.length ≤ 100 ∧ (∀ it ∈ its, it.2.length ≤ 100) ∧
  ∀ H' j a, At C s T j H' → T.drop j = R' → Off s H H' → Pob H' CP a (tot (its.map termOf)) → Q (.ref a) H'
def spPf (CP : Addr) : Sp := fun vs H Q _ => ∃ T its R', vs = [.str (SX.S T)] ∧ T.length ≤ 1000 ∧ Pows T its R' ∧ skp R' = [] ∧ its.length ≤ 100 ∧ (∀ it ∈ its, it.2.length ≤ 100) ∧
  ∀ H' a, More H H' → Pob H' CP a (tot (its.map termOf)) → Q (.ref a) H'
/-- what the loop keeps -/
def RpI (C s L0 : Addr) (T R' : List Nat) (H : Hp) (all : List (Int × List Eff)) (m : Nat) (σ : L2.St) (H2 : Hp) : Prop :=
  ∃ j its, ∃ L : List It3, σ = [some (.ref s), some (.ref L0)] ∧ its.length = m ∧ m + L.length ≤ 100 ∧ (∀ it ∈ its, it.2.length ≤ 100) ∧ H2 L0 = some (.lst (L.map fun e => V.ref e.p)) ∧
    (∀ e ∈ L, H2 e.p = some (.tup [.ref e.b, .int e.n]) ∧ H2 e.b = some (.tup (e.k.map V.int))) ∧ (∀ e ∈ L, e.k.length = 3) ∧ At C s T j H2 ∧ Rest (T.drop j) its R' ∧ (L.map fun e => (e.k, e.n)) ++ its.map termOf = all.map termOf ∧ Off s H H2 ∧ H L0 = none
section
variable {P : Program} {w : World} {K : PySem.W.Frag} {mg : Str → Option Value} {base : Heap}
variable {C CP CR f fT fRt fI gi gs gr gt gb : Addr} {fd dT' dRt dI' di ds dr' dt db : FuncData}
abbrev sRp : Stmt := top 38
abbrev sPf : Stmt := top 37
theorem scRp : FnScope ["scanner", "terms"] ["scanner"] (defScope sRp) := ⟨rfl, rfl, rfl, by decide +kernel, rfl, by decide +kernel, by decide +kernel⟩
theorem scPf : FnScope ["text", "scanner", "powers"] ["text"] (defScope sPf) := ⟨rfl, rfl, rfl, by decide +kernel, rfl, by decide +kernel, by decide +kernel⟩
end
end K14

namespace K14
open PySem L2 Gd Ply
section
variable {P : Program} {w : World} {K : PySem.W.Frag} {mg : Str → Option Value} {base : Heap}
variable {C CP CR f fT fRt fI gi gs gr gt gb : Addr} {fd dT' dRt dI' di ds dr' dt db : FuncData}
theorem rt_new {C s : Addr} {H : Hp} {L : List It3} {t b : Addr} {k : List Int} {n : Int} (h : ∀ e ∈ L, H e.p = some (.tup [.ref e.b, .int e.n]) ∧ H e.b = some (.tup (e.k.map V.int))) (h1 : H t = some (.tup [.ref b, .int n])) (h2 : H b = some (.tup (k.map V.int))) :
    ∀ e ∈ L ++ [(⟨t, b, k, n⟩ : It3)], H e.p = some (.tup [.ref e.b, .int e.n]) ∧ H e.b = some (.tup (e.k.map V.int)) := by
  intro e he
  rcases List.mem_append.mp he with he | he
  · exact h e he
  · rw [List.mem_singleton] at he
    subst he
    exact ⟨h1, h2⟩
theorem at_lst {C s l : Addr} {T : List Nat} {i : Nat} {H : Hp} {xs : List V} (a : At C s T i H) (h : H l = some (.lst xs)) : l ≠ s := by
  obtain ⟨dx, h1⟩ := a.ex
  exact ne_of h h1 (by intro z; cases z)
theorem o3none {C s l : Addr} {T : List Nat} {j : Nat} {H H3 : Hp} {o : HO} (o3 : Off s H H3) (nl : H3 l = none) (hs : H s = some o) (a3 : At C s T j H3) : H l = none := by
  cases e : H l with
  | none => rfl
  | some u =>
    have ne : l ≠ s := fun z => by
      obtain ⟨dx, h⟩ := a3.ex
      rw [z, h] at nl
      cases nl
    rw [o3 l u e ne] at nl
    cases nl
theorem ok_rp (F : Fun K "read_powers" "read_powers" sRp f fd) (B : Blt mg) (B2 : Blt2 mg) (Z : ScC K C) (W : PwC K mg CP) (M : Mk K CP fI) (FI : Fun K "__init__" "Powers.__init__" sPw fI dI') (bI : Binds K dI' ["self", "terms"] [])
    (I : Cl K mg "is_integer" sIsI ["value"] gi di) (S : Cl K mg "is_integers" sIsIs ["value"] gs ds) (R : Cl K mg "is_row" sRow ["value", "width"] gr dr') (T : Cl K mg "is_term" sTerm ["item"] gt dt)
    (Br : Er K mg "BadRow" "BadRow.__init__" CR gb ["row"] sBadRow db)
    (Tk : Mt K C "took" "Scanner.took" sTook ["self", "sign"] fT dT') (GT : FnOk P w K mg base CX0 3 fT dT' ["self", "sign"] (spTook C))
    (Rt : Cl K mg "read_term" sRt ["scanner", "number"] fRt dRt) (GR : FnOk P w K mg base CX0 5 fRt dRt ["scanner", "number"] (spRt C)) : FnOk P w K mg base CX0 8 f fd ["scanner"] (spRp C CP) := by
  have GI : FnOk P w K mg base (L2.CX P w) 6 fI dI' ["self", "terms"] (spInit K CP CR) := ok_init FI B B2 W.ic.cl W.n1 W.n2 W.n3 I S R T Br
  refine F.ok scRp (fun vs H Q E h => ?_) (fun cdv A outer s0 H vs Q E hr h => ?_)
  · obtain ⟨s, T, i, its, R', rfl, _⟩ := h
    rfl
  · obtain ⟨s, T, i, its, R', rfl, at_, pw, few, few2, q⟩ := h
    have hr3 : Room 3 _ := hr.mono (by decide)
    have hr5 : Room 5 _ := hr.mono (by decide)
    refine ⟨_, Evl.pss_cut (ps_set (i := 1) scRp.nd rfl (Or.inl rfl) (pe_lst (pa_cons (pe_call GR hr5 rfl Rt.g Rt.k Rt.b .nil pass0 (pa_cons (pv 0) (pa_cons (pe_ifExp (pt_val (pe_meth (pv 0) Z.cl Tk.m GT hr3 Tk.b .nil pass0 (pa_cons pe_str pa_nil))) (pe_un un_neg pe_int) pe_int) pa_nil))) pa_nil)))
      (pss_one (ps_while PassesOwn.never (pt_val pe_bl)
        (pss_one (ps_if (pt_val (pe_meth (pv 0) Z.cl Tk.m GT hr3 Tk.b .nil pass0 (pa_cons pe_str pa_nil)))
          (pss_one (ps_expr (pe_bm PySem.F.plainAttrs_list PySem.F.slot_list_append PySem.F.type_list_append mt_append (pv 1) (pa_cons (pe_call GR hr5 rfl Rt.g Rt.k Rt.b .nil pass0 (pa_cons (pv 0) (pa_cons pe_int pa_nil))) pa_nil))))
          (pss_one (ps_if (pt_val (pe_meth (pv 0) Z.cl Tk.m GT hr3 Tk.b .nil pass0 (pa_cons pe_str pa_nil)))
            (pss_one (ps_expr (pe_bm PySem.F.plainAttrs_list PySem.F.slot_list_append PySem.F.type_list_append mt_append (pv 1) (pa_cons (pe_call GR hr5 rfl Rt.g Rt.k Rt.b .nil pass0 (pa_cons (pv 0) (pa_cons (pe_un un_neg pe_int) pa_nil))) pa_nil))))
            (pss_one (ps_ret (pe_make M GI hr rfl W.g bI .nil (passes_call LamX.takes0 (fun _ _ _ _ h => h)) (pa_cons (pv 1) pa_nil)))))))))), ?_⟩
    obtain ⟨dx0, hs0⟩ := at_.ex
    have enter : ∀ (sg : Int) (fs : List Eff) (its' : List (Int × List Eff)) (R2 : List Nat) (t b : Addr) (j3 : Nat) (H3 : Hp) (l0 : Addr), its = (sg, fs) :: its' → Rest R2 its' R' → At C s T j3 H3 → T.drop j3 = R2 → Off s H H3 →
        H3 t = some (.tup [.ref b, .int (termOf (sg, fs)).2]) → H3 b = some (.tup ((termOf (sg, fs)).1.map V.int)) → H3 l0 = none →
        RpI C s l0 T R' H its its'.length [some (.ref s), some (.ref l0)] (upd H3 l0 (.lst [.ref t])) := by
      intro sg fs its' R2 t b j3 H3 l0 e rs a3 e3 o3 h1 h2 nl
      refine ⟨j3, its', [⟨t, b, (termOf (sg, fs)).1, (termOf (sg, fs)).2⟩], rfl, rfl, ?_, fun it hit => few2 it (by rw [e]; exact .tail _ hit), upd_same, ?_, ?_, ?_, by rw [e3]; exact rs, by rw [e]; rfl, ?_⟩
      · rw [e, List.length_cons] at few
        exact few
      · intro e' he
        rw [List.mem_singleton] at he
        subst he
        exact ⟨new_more nl _ _ h1, new_more nl _ _ h2⟩
      · intro e' he
        rw [List.mem_singleton] at he
        subst he
        exact run_len fs _
      · obtain ⟨dx3, h3⟩ := a3.ex
        exact a3.off (upd_ne (ne_of_none h3 nl))
      · exact ⟨o3.trans (Off.of (new_more nl)), o3none o3 nl hs0 a3⟩
    refine ⟨fun σ' H' => ∃ l0 m, σ' = [some (.ref s), some (.ref l0)] ∧ RpI C s l0 T R' H its m σ' H', ?_, ?_⟩
    · refine ⟨_, rfl, _, rfl, s, dx0, _, rfl, hs0, rfl, s, T, i, 45, rfl, at_, fun H2 j2 b a2 o2 yes no => ?_⟩
      obtain ⟨R1, R2, fs, its', e1, fc, rs, ei⟩ | ⟨R2, fs, its', n45, fc, rs, ei⟩ := pw
      · cases b with
        | false => exact absurd e1 ((no rfl).2 _)
        | true =>
          have y := yes rfl
          rw [e1] at y
          injection y with _ y
          refine ⟨_, rfl, iteT ⟨_, rfl, s, T, j2, -1, fs, R2, rfl, a2, by rw [← y]; exact fc, few2 (-1, fs) (by rw [ei]; exact .head _), by decide, fun H3 j3 t b a3 e3 o3 h1 h2 => ⟨by show 1 ≤ sizeLine; decide, fun l0 nl => ⟨l0, its'.length, rfl, ?_⟩⟩⟩⟩
          exact enter (-1) fs its' R2 t b j3 H3 l0 ei rs a3 e3 (o2.trans o3) h1 h2 nl
      · cases b with
        | true => exact absurd (yes rfl) (n45 _)
        | false =>
          refine ⟨_, rfl, iteF ⟨s, T, j2, 1, fs, R2, rfl, a2, by rw [(no rfl).1]; exact fc, few2 (1, fs) (by rw [ei]; exact .head _), by decide, fun H3 j3 t b a3 e3 o3 h1 h2 => ⟨by show 1 ≤ sizeLine; decide, fun l0 nl => ⟨l0, its'.length, rfl, ?_⟩⟩⟩⟩
          exact enter 1 fs its' R2 t b j3 H3 l0 ei rs a3 e3 (o2.trans o3) h1 h2 nl
    rintro σ0 H0 ⟨l0, m0, rfl, st0⟩
    refine while_T (RpI C s l0 T R' H its) m0 st0 ?_
    rintro m σ H2 ⟨j, its1, L, rfl, rfl, fewL, few3, hL, hT, h3, a2, rs, ea, o2, hl0⟩
    obtain ⟨dx2, h2⟩ := a2.ex
    have nls : l0 ≠ s := at_lst a2 hL
    -- one more term
    have more : ∀ (sg : Int) (fs : List Eff) (its' : List (Int × List Eff)) (R2 : List Nat) (H3 : Hp), its1 = (sg, fs) :: its' → Off s H2 H3 → Rest R2 its' R' →
        ∀ (H4 : Hp) (j4 : Nat) (t b : Addr), At C s T j4 H4 → T.drop j4 = R2 → Off s H3 H4 → H4 t = some (.tup [.ref b, .int (termOf (sg, fs)).2]) → H4 b = some (.tup ((termOf (sg, fs)).1.map V.int)) →
        H4 l0 = some (.lst (L.map fun e => V.ref e.p)) ∧ (L.map fun e => V.ref e.p).length < sizeLine ∧ (∃ m', m' < its1.length ∧ RpI C s l0 T R' H its m' [some (.ref s), some (.ref l0)] (upd H4 l0 (.lst ((L.map fun e => V.ref e.p) ++ [.ref t])))) := by
      intro sg fs its' R2 H3 e o3 rs' H4 j4 t b a4 e4 o4 g1 g2
      have o24 := o3.trans o4
      have hL4 := o24 _ _ hL nls
      have hT4 : ∀ e ∈ L, H4 e.p = some (.tup [.ref e.b, .int e.n]) ∧ H4 e.b = some (.tup (e.k.map V.int)) := fun e he =>
        ⟨o24 _ _ (hT e he).1 (ne_of (hT e he).1 h2 (by intro z; cases z)), o24 _ _ (hT e he).2 (ne_of (hT e he).2 h2 (by intro z; cases z))⟩
      rw [e, List.length_cons] at fewL
      refine ⟨hL4, by rw [List.length_map]; exact small1000 (by omega), its'.length, by rw [e, List.length_cons]; omega, j4, its', L ++ [⟨t, b, (termOf (sg, fs)).1, (termOf (sg, fs)).2⟩], rfl, rfl, by rw [List.length_append]; show _ + (_ + 1) ≤ _; omega,
        fun it hit => few3 it (by rw [e]; exact .tail _ hit), by rw [upd_same, List.map_append]; rfl, ?_, ?_, ?_, by rw [e4]; exact rs', ?_, ?_, hl0⟩
      · have z := rt_new (C := C) (s := s) hT4 g1 g2
        intro e' he
        obtain ⟨z1, z2⟩ := z e' he
        exact ⟨by rw [upd_ne (ne_of z1 hL4 (by intro z; cases z))]; exact z1, by rw [upd_ne (ne_of z2 hL4 (by intro z; cases z))]; exact z2⟩
      · intro e' he
        rcases List.mem_append.mp he with he | he
        · exact h3 e' he
        · rw [List.mem_singleton] at he
          subst he
          exact run_len fs _
      · exact a4.off (upd_ne nls.symm)
      · rw [← ea, e, List.map_append, List.append_assoc]
        rfl
      · intro b' o hb nb
        rw [upd_ne (ne_of_none hb hl0)]
        exact (o2.trans o24) b' o hb nb
    refine ⟨_, rfl, s, dx2, _, rfl, h2, rfl, s, T, j, 43, rfl, a2, fun H3 j3 b a3 o3 yes no => ?_⟩
    obtain ⟨dx3, hs3⟩ := a3.ex
    have hL3 := o3 _ _ hL nls
    cases b with
    | true =>
      have y := yes rfl
      cases rs with
      | nil n43 _ => exact absurd y (n43 _)
      | minus e1 _ _ => rw [e1] at y; cases y
      | plus e1 fc rs' =>
        rw [e1] at y
        injection y with _ y
        refine ⟨_, rfl, iteT ⟨_, rfl, .inl ⟨rfl, _, SqL.of hL3⟩, _, rfl, s, T, j3, 1, _, _, rfl, a3, by rw [← y]; exact fc, few3 _ (.head _), by decide, fun H4 j4 t b a4 e4 o4 g1 g2 => ?_⟩⟩
        obtain ⟨u1, u2, u3⟩ := more 1 _ _ _ H3 rfl o3 rs' H4 j4 t b a4 e4 o4 g1 g2
        exact ⟨l0, _, _, rfl, rfl, u1, u2, u3⟩
    | false =>
      obtain ⟨d3, n43⟩ := no rfl
      refine ⟨_, rfl, iteF ⟨_, rfl, s, dx3, _, rfl, hs3, rfl, s, T, j3, 45, rfl, a3, fun H4 j4 b a4 o4 yes4 no4 => ?_⟩⟩
      have hL4 := o4 _ _ hL3 nls
      have o34 := o3.trans o4
      rw [d3, skp_skp] at yes4 no4
      cases b with
      | true =>
        have y := yes4 rfl
        cases rs with
        | nil _ n45 => exact absurd y (n45 _)
        | plus e1 _ _ => exact absurd e1 (n43 _)
        | minus e1 fc rs' =>
          rw [e1] at y
          injection y with _ y
          refine ⟨_, rfl, iteT ⟨_, rfl, .inl ⟨rfl, _, SqL.of hL4⟩, _, rfl, _, rfl, s, T, j4, -1, _, _, rfl, a4, by rw [← y]; exact fc, few3 _ (.head _), by decide, fun H5 j5 t b a5 e5 o5 g1 g2 => ?_⟩⟩
          obtain ⟨u1, u2, u3⟩ := more (-1) _ _ _ H4 rfl o34 rs' H5 j5 t b a5 e5 o5 g1 g2
          exact ⟨l0, _, _, rfl, rfl, u1, u2, u3⟩
      | false =>
        cases rs with
        | plus e1 _ _ => exact absurd e1 (n43 _)
        | minus e1 _ _ => exact absurd e1 ((no4 rfl).2 _)
        | nil _ _ =>
          refine ⟨_, rfl, iteF ⟨_, rfl, fun x dx nx ndx nne => ?_⟩⟩
          have hT4 : ∀ e ∈ L, H4 e.p = some (.tup [.ref e.b, .int e.n]) ∧ H4 e.b = some (.tup (e.k.map V.int)) := fun e he =>
            ⟨o34 _ _ (hT e he).1 (ne_of (hT e he).1 h2 (by intro z; cases z)), o34 _ _ (hT e he).2 (ne_of (hT e he).2 h2 (by intro z; cases z))⟩
          have mH : More H4 (upd (upd H4 dx (.own x)) x (.ins CP dx [])) := fun b o h => by
            rw [upd_ne (ne_of_none h nx), upd_ne (ne_of_none h ndx)]
            exact h
          refine ⟨x, l0, dx, _, rfl, upd_same, .inl (SqL.of (mH _ _ hL4)), by rw [List.length_map]; omega, .inl ⟨_, terms_ok (fun e he => ⟨mH _ _ (hT4 e he).1, mH _ _ (hT4 e he).2⟩) h3, fun H7 off7 pob => ⟨rfl, ?_⟩⟩⟩
          have m7 : More H4 H7 := fun b o h => off7 _ _ (mH _ _ h) (ne_of_none h nx)
          obtain ⟨dx4, hs4⟩ := a4.ex
          refine q H7 j4 x (a4.off ((m7 _ _ hs4).trans hs4.symm)) (no4 rfl).1 ((o2.trans o34).trans (Off.of m7)) ?_
          have e : L.map (fun e => (e.k, e.n)) = its.map termOf := by
            rw [← ea]
            exact (List.append_nil _).symm
          rw [← e]
          exact pob
end
end K14

namespace K14
open PySem L2 Gd Ply
section
variable {P : Program} {w : World} {K : PySem.W.Frag} {mg : Str → Option Value} {base : Heap}
variable {C CP f fI fRp fE : Addr} {fd dI' dRp dE' : FuncData}
theorem ok_pf (F : Fun K "powers_of" "powers_of" sPf f fd) (Z : ScC K C) (M : Mk K C fI) (gS : mg "Scanner" = some (.ref C)) (FI : FunE K "__init__" "Scanner.__init__" sIni [.non] fI dI') (bI : Binds K dI' ["self", "text", "known"] [Value.none])
    (Rp : Cl K mg "read_powers" sRp ["scanner"] fRp dRp) (GR : FnOk P w K mg base CX0 8 fRp dRp ["scanner"] (spRp C CP))
    (En : Mt K C "end" "Scanner.end" sEnd ["self"] fE dE') (GE : FnOk P w K mg base CX0 3 fE dE' ["self"] (spEnd C)) : FnOk P w K mg base CX0 9 f fd ["text"] (spPf CP) := by
  have GI : FnOk P w K mg base CX0 1 fI dI' ["self", "text", "known"] (spSI C) := ok_sini FI Z
  refine F.ok scPf (fun vs H Q E h => ?_) (fun cdv A outer s0 H vs Q E hr h => ?_)
  · obtain ⟨T, its, R', rfl, _⟩ := h
    rfl
  · obtain ⟨T, its, R', rfl, len, pw, sk, few, few2, q⟩ := h
    have hr2 : Room 2 _ := hr.mono (by decide)
    have hr3 : Room 3 _ := hr.mono (by decide)
    refine ⟨_, pss_cons (ps_set (i := 1) scPf.nd rfl (Or.inl rfl) (pe_make M GI hr2 rfl gS bI (.cons (show RelV V.non Value.none from rfl) .nil) pass0 (pa_cons (pv 0) pa_nil)))
      (pss_cons (ps_set (i := 2) scPf.nd rfl (Or.inl rfl) (pe_call GR hr rfl Rp.g Rp.k Rp.b .nil pass0 (pa_cons (pv 1) pa_nil)))
      (pss_cons (ps_expr (pe_meth0 (pv 1) Z.cl En.m GE hr3 En.b .nil pass0))
      (pss_one (ps_ret (pv 2))))), ?_⟩
    refine ⟨_, rfl, fun x dx nx ndx nne => ?_⟩
    refine ⟨x, dx, T, rfl, upd_same, len, fun H1 a1 o1 => ⟨rfl, ?_⟩⟩
    have m1 : More H H1 := fun b o h => by
      refine o1 _ _ ?_ (ne_of_none h nx)
      rw [upd_ne (ne_of_none h nx), upd_ne (ne_of_none h ndx)]
      exact h
    refine ⟨_, rfl, x, T, 0, its, R', rfl, a1, pw, few, few2, fun H2 j a a2 e2 o2 pob => ?_⟩
    obtain ⟨dx2, h2⟩ := a2.ex
    refine ⟨_, rfl, x, dx2, _, rfl, h2, rfl, x, T, j, rfl, a2, by rw [e2]; exact sk, fun H3 o3 => ?_⟩
    refine ⟨_, rfl, q H3 a (fun b o h => ?_) (pob.offS o3 ⟨_, _, _, _, h2⟩)⟩
    have nb : b ≠ x := ne_of_none h nx
    exact o3 _ _ (o2 _ _ (m1 _ _ h) nb) nb
end
end K14

namespace K14
open PySem L2 Gd Ply
/-! ### the law's texts -/
theorem op_mulSp {X : Cx} : OpR X (binaryOp .Mult) (fun x y H Q => ∃ k : Nat, x = .str (SX.S [32]) ∧ y = .int (k : Int) ∧ k ≤ 2 ∧ Q (.str (SX.S (List.replicate k 32))) H) := by
  intro pins s σ H x y v u Q I rx ry h
  obtain ⟨k, rfl, rfl, hk, q⟩ := h
  obtain ⟨t, rfl⟩ := rx
  obtain ⟨t', rfl⟩ := ry
  refine PySem.P.mul_str ?_ ?_ ?_ ?_
  · rw [decide_eq_false (by omega), decide_eq_false (by omega)]; rfl
  · intro h1 h2 h3
    match k, hk with
    | 1, _ => exact absurd h3 (by decide)
    | 2, _ => exact absurd h3 (by decide)
  · intro h1 h2
    match k, hk with
    | 1, _ => decide +kernel
    | 2, _ => decide +kernel
  · match k, hk with
    | 0, _ => exact ⟨by decide, .str _, H, I.tok _, ⟨_, rfl⟩, q⟩
    | 1, _ => exact ⟨.str _, H, I, ⟨_, rfl⟩, q⟩
    | 2, _ => exact ⟨by decide +kernel, .str _, H, I.tok _, ⟨_, rfl⟩, q⟩
abbrev rp (i : Nat) : List Nat := List.replicate i 32
/-- the text of an exponent, with spaces -/
def ETx (e : Int) (W : List Nat) : Prop := ∃ i j, i ≤ 2 ∧ j ≤ 2 ∧ ((0 ≤ e ∧ W = rp i ++ (TL.numL e.natAbs ++ rp j)) ∨ (e < 0 ∧ ∃ l, l ≤ 2 ∧ W = rp i ++ (45 :: (rp l ++ (TL.numL e.natAbs ++ rp j)))))
def spGap : Sp := fun vs H Q _ => ∃ (d c : Addr) (n : Int), vs = [.ref d] ∧ Pen H d c n ∧ 0 ≤ n ∧ n < 900000000 ∧ ∀ (H' : Hp) (i : Nat), i ≤ 2 → Pen H' d c (n + 1) → Off d H H' → Q (.str (SX.S (rp i))) H'
def spEt : Sp := fun vs H Q _ => ∃ (d c : Addr) (n e : Int), vs = [.ref d, .int e] ∧ Pen H d c n ∧ 0 ≤ n ∧ n < 800000000 ∧ e.natAbs < 10 ^ 10 ∧ ∀ (H' : Hp) (n' : Int) (W : List Nat), ETx e W → n ≤ n' → n' ≤ n + 3 → Pen H' d c n' → Off d H H' → Q (.str (SX.S W)) H'
theorem rp_len (i : Nat) : (rp i).length = i := List.length_replicate
theorem num_few {n : Nat} (h : n < 10 ^ 50) : (TL.numL n).length ≤ 50 := numL_few h
theorem size_ok {n : Nat} (h : n ≤ 1000) : n ≤ sizeLine := Nat.le_of_lt (small1000 h)
theorem lt50 {n : Nat} (h : n < 10 ^ 50) : n.log2 < 1920 := by
  rcases Nat.eq_zero_or_pos n with rfl | p
  · decide
  · have : n < 2 ^ 170 := Nat.lt_trans h (by decide)
    have := (Nat.log2_lt (by omega)).mpr this
    omega
section
variable {P : Program} {w : World} {K : PySem.W.Frag} {mg : Str → Option Value} {base : Heap}
variable {g1 g2 gG f : Addr} {d1 d2 dG fd : FuncData}
abbrev sGap : Stmt := top 47
abbrev sEt : Stmt := top 48
theorem scGap : FnScope ["_law_pen_here"] ["_law_pen_here"] (defScope sGap) := ⟨rfl, rfl, rfl, by decide +kernel, rfl, by decide +kernel, by decide +kernel⟩
theorem scEt : FnScope ["_law_pen_here", "_law_exponent", "_law_sign"] ["_law_pen_here", "_law_exponent"] (defScope sEt) := ⟨rfl, rfl, rfl, by decide +kernel, rfl, by decide +kernel, by decide +kernel⟩
theorem ok_gap (F : Fun K "_law_gap" "_law_gap" sGap f fd) (B : Blt mg) (Dr : Cl K mg "_law_draw" sDraw ["_law_pen_here", "_law_many"] g1 d1) (Pi : Cl K mg "_law_pick" sPick ["_law_pen_here", "_law_some"] g2 d2) :
    FnOk P w K mg base CX0 3 f fd ["_law_pen_here"] spGap := by
  have G2 : FnOk P w K mg base CX0 2 g2 d2 ["_law_pen_here", "_law_some"] (spPick K) := ok_pick Pi.fn Dr.fn Dr.b Dr.g B.int_ B.len_
  refine F.ok scGap (fun vs H Q E h => ?_) (fun cdv A outer s H vs Q E hr h => ?_)
  · obtain ⟨d, c, n, rfl, _⟩ := h
    rfl
  · obtain ⟨d, c, n, rfl, pen, n0, n1, q⟩ := h
    refine ⟨_, pss_one (ps_ret (pe_op op_mulSp pe_str (pe_call G2 hr rfl Pi.g Pi.k Pi.b .nil pass0 (pa_cons (pv 0) (pa_cons (pe_lst (pa_cons pe_int (pa_cons pe_int (pa_cons pe_int (pa_cons pe_int (pa_cons pe_int pa_nil)))))) pa_nil))))), ?_⟩
    refine ⟨_, rfl, by show 5 ≤ sizeLine; decide, fun l nl => ?_⟩
    refine ⟨d, c, l, n, _, rfl, pen.upd nl, upd_same, by show 0 < 5; decide, by show 5 ≤ 1000; decide, n0, by omega, fun x H' hx dr => ?_⟩
    have of : Off d H H' := (Off.of (new_more nl)).trans (Off.dr dr)
    simp only [List.mem_cons, List.not_mem_nil, or_false] at hx
    obtain rfl | rfl | rfl | rfl | rfl := hx
    · exact ⟨0, rfl, rfl, by decide, q H' 0 (by decide) dr.pen of⟩
    · exact ⟨0, rfl, rfl, by decide, q H' 0 (by decide) dr.pen of⟩
    · exact ⟨0, rfl, rfl, by decide, q H' 0 (by decide) dr.pen of⟩
    · exact ⟨1, rfl, rfl, by decide, q H' 1 (by decide) dr.pen of⟩
    · exact ⟨2, rfl, rfl, by decide, q H' 2 (by decide) dr.pen of⟩
theorem ok_et (F : Fun K "_law_exponent_text" "_law_exponent_text" sEt f fd) (B : Blt mg) (B2 : Blt2 mg) (mStr : mg "str" = none) (Ga : Cl K mg "_law_gap" sGap ["_law_pen_here"] gG dG) (GG : FnOk P w K mg base CX0 3 gG dG ["_law_pen_here"] spGap) :
    FnOk P w K mg base CX0 4 f fd ["_law_pen_here", "_law_exponent"] spEt := by
  refine F.ok scEt (fun vs H Q E h => ?_) (fun cdv A outer s H vs Q E hr h => ?_)
  · obtain ⟨d, c, n, e, rfl, _⟩ := h
    rfl
  · obtain ⟨d, c, n, e, rfl, pen, n0, n1, eb, q⟩ := h
    refine ⟨_, Evl.pss_cut (ps_set (i := 2) scEt.nd rfl (Or.inl rfl) (pe_ifExp (pt_cmpR op_lt (pv 1) pe_int (nomark _)) (pe_op op_add_str pe_str (pe_call GG hr rfl Ga.g Ga.k Ga.b .nil pass0 (pa_cons (pv 0) pa_nil))) pe_str))
      (pss_one (ps_ret (pe_op op_add_str (pe_op op_add_str (pe_op op_add_str (pe_call GG hr rfl Ga.g Ga.k Ga.b .nil pass0 (pa_cons (pv 0) pa_nil)) (pv 2))
        (pe_callTy call_str_int (by rfl) mStr (by decide +kernel) (pa_cons (pe_callB call_abs (by rfl) B2.abs_ (by decide +kernel) (pa_cons (pv 1) pa_nil)) pa_nil)))
        (pe_call GG hr rfl Ga.g Ga.k Ga.b .nil pass0 (pa_cons (pv 0) pa_nil))))), ?_⟩
    have ab : (if e < 0 then -e else e) = ((e.natAbs : Nat) : Int) := by
      by_cases z : e < 0
      · rw [if_pos z]; omega
      · rw [if_neg z]; omega
    have big : e.natAbs < 10 ^ 50 := Nat.lt_trans eb (by decide)
    have lg := lt50 big
    have nl := num_few big
    refine ⟨fun σ' H' => ∃ m sg, σ' = [some (.ref d), some (.int e), some (.str (SX.S sg))] ∧ sg.length ≤ 3 ∧ Pen H' d c m ∧ n ≤ m ∧ m ≤ n + 1 ∧ Off d H H' ∧ (∀ i j, i ≤ 2 → j ≤ 2 → ETx e (((rp i ++ sg) ++ TL.numL e.natAbs) ++ rp j)), ?_, ?_⟩
    · refine ⟨_, rfl, _, _, rfl, rfl, _, rfl, ite2 (fun z => ?_) (fun z => ?_)⟩
      · have z := of_decide_eq_true z
        refine ⟨_, rfl, d, c, n, rfl, pen, n0, by omega, fun H' i hi pen' of => ?_⟩
        refine ⟨SX.S [45], SX.S (rp i), rfl, rfl, ?_, ?_⟩
        · rw [SX.S_len, SX.S_len, rp_len]; exact size_ok (by show 1 + i ≤ 1000; omega)
        · rw [SX.S_cat]
          refine ⟨n + 1, 45 :: rp i, rfl, by rw [List.length_cons, rp_len]; omega, pen', by omega, by omega, of, fun i' j hi' hj => ⟨i', j, hi', hj, .inr ⟨z, i, hi, ?_⟩⟩⟩
          simp only [List.append_assoc, List.cons_append]
      · have z : ¬ e < 0 := fun y => z (decide_eq_true y)
        refine ⟨n, [], rfl, by decide, pen, by omega, by omega, fun _ _ h _ => h, fun i' j hi' hj => ⟨i', j, hi', hj, .inl ⟨by omega, ?_⟩⟩⟩
        simp only [List.append_assoc, List.nil_append]
    · rintro σ' H1 ⟨m, sg, rfl, ls, pen1, m0, m1, o1, et⟩
      refine ⟨_, rfl, d, c, m, rfl, pen1, by omega, by omega, fun H2 i hi pen2 o2 => ?_⟩
      refine ⟨_, rfl, SX.S (rp i), SX.S sg, rfl, rfl, by rw [SX.S_len, SX.S_len, rp_len]; exact size_ok (by omega), ?_⟩
      rw [SX.S_cat]
      refine ⟨_, rfl, _, rfl, _, rfl, ?_, ?_⟩
      · rw [ab, Int.natAbs_natCast]; exact lg
      · rw [ab, ← num_S]
        refine ⟨SX.S (rp i ++ sg), SX.S (TL.numL e.natAbs), rfl, rfl, by rw [SX.S_len, SX.S_len, List.length_append, rp_len]; exact size_ok (by omega), ?_⟩
        rw [SX.S_cat]
        refine ⟨_, rfl, d, c, m + 1, rfl, pen2, by omega, by omega, fun H3 j hj pen3 o3 => ?_⟩
        refine ⟨SX.S ((rp i ++ sg) ++ TL.numL e.natAbs), SX.S (rp j), rfl, rfl, by rw [SX.S_len, SX.S_len, List.length_append, List.length_append, rp_len, rp_len]; exact size_ok (by omega), ?_⟩
        rw [SX.S_cat]
        exact q H3 _ _ (et i j hi hj) (by omega) (by omega) pen3 ((o1.trans o2).trans o3)
end
end K14

namespace K14
open PySem L2 Gd Ply
/-! ### words of factors -/
def Wd : Eff → List Nat → Prop
  | .num n, W => n < 10 ^ 21 ∧ ∃ i j, i ≤ 2 ∧ j ≤ 2 ∧ W = rp i ++ (TL.numL n ++ rp j)
  | .lt a e, W => a < 3 ∧ ∃ i j, i ≤ 2 ∧ j ≤ 2 ∧ ((e = 1 ∧ W = rp i ++ ((120 + a) :: rp j)) ∨ (e.natAbs < 10 ^ 10 ∧ ∃ V, ETx e V ∧ W = rp i ++ ((120 + a) :: (rp j ++ (94 :: V)))))
/-- what may follow a word -/
def Tl (R : List Nat) : Prop := R = [] ∨ ∃ c r, R = c :: r ∧ (c = 42 ∨ c = 43 ∨ c = 45)
theorem tl_skp {R : List Nat} (h : Tl R) : skp R = R := by
  obtain rfl | ⟨c, r, rfl, h⟩ := h
  · rfl
  · exact skp_ne (by omega)
theorem tl_no {R : List Nat} (h : Tl R) : No 94 R := by
  obtain rfl | ⟨c, r, rfl, h⟩ := h
  · intro r e
    cases e
  · intro r' e
    cases e
    omega
theorem tl_dg {R : List Nat} (h : Tl R) (j : Nat) : hdDg (rp j ++ R) = false := by
  match j with
  | 0 =>
    obtain rfl | ⟨c, r, rfl, h⟩ := h
    · rfl
    · show isDg c = false
      exact decide_eq_false (by omega)
  | j + 1 => rfl
theorem gap_tl {R : List Nat} (h : Tl R) (j : Nat) : skp (rp j ++ R) = R := by rw [skp_gap, tl_skp h]
theorem skp_num (n : Nat) (X : List Nat) : skp (TL.numL n ++ X) = TL.numL n ++ X ∧ No 45 (TL.numL n ++ X) := by
  cases e : TL.numL n with
  | nil => exact absurd e (TL.numL_ne n)
  | cons c r =>
    have d := of_decide_eq_true (numL_dg (n := n) (c := c) (by rw [e]; exact .head _))
    exact ⟨skp_ne (by omega), fun r' h => by cases h; omega⟩
theorem fig_of {n : Nat} {j : Nat} {R : List Nat} (h : Tl R) (i : Nat) : Fig (rp i ++ (TL.numL n ++ (rp j ++ R))) n (rp j ++ R) := ⟨by rw [skp_gap, (skp_num n _).1], tl_dg h j⟩
theorem fig_skp {X : List Nat} {n : Nat} {Y : List Nat} (h : Fig X n Y) : Fig (skp X) n Y := ⟨by rw [skp_skp]; exact h.1, h.2⟩
theorem etx_exp {e : Int} {V R : List Nat} (h : ETx e V) (b : e.natAbs < 10 ^ 10) (t : Tl R) : ∃ R1, ((∃ R2 n, skp (V ++ R) = 45 :: R2 ∧ Fig R2 n R1 ∧ n < 10 ^ 50 ∧ e = -(n : Int)) ∨ (No 45 (skp (V ++ R)) ∧ ∃ n : Nat, Fig (skp (V ++ R)) n R1 ∧ n < 10 ^ 50 ∧ e = (n : Int))) ∧ skp R1 = R := by
  have b2 : e.natAbs < 10 ^ 50 := Nat.lt_trans b (by decide)
  obtain ⟨i, j, _, _, ⟨z, rfl⟩ | ⟨z, l, _, rfl⟩⟩ := h
  · have e1 : (rp i ++ (TL.numL e.natAbs ++ rp j)) ++ R = rp i ++ (TL.numL e.natAbs ++ (rp j ++ R)) := by simp only [List.append_assoc]
    refine ⟨rp j ++ R, .inr ⟨?_, e.natAbs, ?_, b2, by omega⟩, gap_tl t j⟩
    · rw [e1, skp_gap, (skp_num _ _).1]
      exact (skp_num _ _).2
    · rw [e1]
      exact fig_skp (fig_of t i)
  · have e1 : (rp i ++ (45 :: (rp l ++ (TL.numL e.natAbs ++ rp j)))) ++ R = rp i ++ (45 :: (rp l ++ (TL.numL e.natAbs ++ (rp j ++ R)))) := by simp only [List.append_assoc, List.cons_append]
    refine ⟨rp j ++ R, .inl ⟨rp l ++ (TL.numL e.natAbs ++ (rp j ++ R)), e.natAbs, ?_, fig_of t l, b2, by omega⟩, gap_tl t j⟩
    rw [e1, skp_gap, skp_ne (by decide)]
theorem wd_step {f : Eff} {W R : List Nat} (h : Wd f W) (t : Tl R) : ∃ R1, Step (W ++ R) f R1 ∧ skp R1 = R := by
  cases f with
  | num n =>
    obtain ⟨b, i, j, _, _, rfl⟩ := h
    have e1 : (rp i ++ (TL.numL n ++ rp j)) ++ R = rp i ++ (TL.numL n ++ (rp j ++ R)) := by simp only [List.append_assoc]
    exact ⟨rp j ++ R, ⟨Nat.lt_trans b (by decide), by rw [e1]; exact fig_of t i⟩, gap_tl t j⟩
  | lt a e =>
    obtain ⟨ha, i, j, _, _, ⟨rfl, rfl⟩ | ⟨b, V, ev, rfl⟩⟩ := h
    · have e1 : (rp i ++ ((120 + a) :: rp j)) ++ R = rp i ++ ((120 + a) :: (rp j ++ R)) := by simp only [List.append_assoc, List.cons_append]
      refine ⟨R, ⟨ha, rp j ++ R, by rw [e1, skp_gap, skp_ne (by omega)], .inl ⟨?_, rfl, (gap_tl t j).symm⟩⟩, tl_skp t⟩
      rw [gap_tl t j]
      exact tl_no t
    · have e1 : (rp i ++ ((120 + a) :: (rp j ++ (94 :: V)))) ++ R = rp i ++ ((120 + a) :: (rp j ++ (94 :: (V ++ R)))) := by simp only [List.append_assoc, List.cons_append]
      obtain ⟨R1, h1, h2⟩ := etx_exp ev b t
      exact ⟨R1, ⟨ha, rp j ++ (94 :: (V ++ R)), by rw [e1, skp_gap, skp_ne (by omega)], .inr ⟨V ++ R, by rw [skp_gap, skp_ne (by decide)], h1⟩⟩, h2⟩
theorem wd_head {f : Eff} {W : List Nat} (h : Wd f W) (R : List Nat) : No 45 (skp (W ++ R)) ∧ 0 < W.length := by
  cases f with
  | num n =>
    obtain ⟨b, i, j, _, _, rfl⟩ := h
    have p := List.length_pos_iff.mpr (TL.numL_ne n)
    refine ⟨?_, by rw [List.length_append, List.length_append]; omega⟩
    rw [List.append_assoc, skp_gap, List.append_assoc, (skp_num _ _).1]
    exact (skp_num _ _).2
  | lt a e =>
    obtain ⟨ha, i, j, _, _, ⟨_, rfl⟩ | ⟨b, V, ev, rfl⟩⟩ := h
    · refine ⟨?_, by rw [List.length_append, List.length_cons]; omega⟩
      rw [List.append_assoc, skp_gap, List.cons_append, skp_ne (by omega)]
      intro r z
      injection z with z
      omega
    · refine ⟨?_, by rw [List.length_append, List.length_cons]; omega⟩
      rw [List.append_assoc, skp_gap, List.cons_append, skp_ne (by omega)]
      intro r z
      injection z with z
      omega
theorem wd_len {f : Eff} {W : List Nat} (h : Wd f W) : W.length ≤ 26 := by
  cases f with
  | num n =>
    obtain ⟨b, i, j, _, _, rfl⟩ := h
    have := TL.numL_len (k := 21) (by decide) b
    rw [List.length_append, List.length_append, rp_len, rp_len]
    omega
  | lt a e =>
    obtain ⟨ha, i, j, _, _, ⟨_, rfl⟩ | ⟨b, V, ⟨i2, j2, _, _, ⟨_, rfl⟩ | ⟨_, l, _, rfl⟩⟩, rfl⟩⟩ := h
    · rw [List.length_append, List.length_cons, rp_len, rp_len]
      omega
    · have := TL.numL_len (k := 10) (by decide) b
      simp only [List.length_append, List.length_cons, rp_len]
      omega
    · have := TL.numL_len (k := 10) (by decide) b
      simp only [List.length_append, List.length_cons, rp_len]
      omega
theorem step_skp {R : List Nat} {f : Eff} {R1 : List Nat} (h : Step R f R1) : Step (skp R) f R1 := by
  cases f with
  | num n => exact ⟨h.1, fig_skp h.2⟩
  | lt a e =>
    obtain ⟨a1, R2, e2, x⟩ := h
    exact ⟨a1, R2, by rw [skp_skp]; exact e2, x⟩
theorem facs_skp {R : List Nat} {fs : List Eff} {R' : List Nat} (h : Facs R fs R') : Facs (skp R) fs R' := by
  cases h with
  | last a b => exact .last (step_skp a) b
  | more a b c => exact .more (step_skp a) b c
open HT in
theorem facs_join : ∀ {fs : List Eff} {ws : List (List Nat)}, Paired Wd fs ws → fs ≠ [] → ∀ {R : List Nat}, Tl R → No 42 R → Facs (TL.joinL [42] ws ++ R) fs R := by
  intro fs ws h
  induction h with
  | nil => intro z; exact absurd rfl z
  | @cons f W fs ws h t ih =>
    intro _ R tl no
    cases t with
    | nil =>
      obtain ⟨R1, s, e⟩ := wd_step h tl
      have := Facs.last s (by rw [e]; exact no)
      rw [e] at this
      exact this
    | @cons f2 W2 fs2 ws2 h2 t2 =>
      have ih := ih (by intro z; cases z) tl no
      have e1 : TL.joinL [42] (W :: W2 :: ws2) ++ R = W ++ (42 :: (TL.joinL [42] (W2 :: ws2) ++ R)) := by
        show (W ++ ([42] ++ TL.joinL [42] (W2 :: ws2))) ++ R = _
        rw [List.append_assoc, List.append_assoc]
        rfl
      rw [e1]
      obtain ⟨R1, s, e⟩ := wd_step h (R := 42 :: (TL.joinL [42] (W2 :: ws2) ++ R)) (.inr ⟨_, _, rfl, .inl rfl⟩)
      exact .more s e ih
end K14

namespace K14
open PySem L2 Gd Ply
def spFa : Sp := fun vs H Q _ => ∃ (d c : Addr) (n : Int), vs = [.ref d] ∧ Pen H d c n ∧ 0 ≤ n ∧ n < 700000000 ∧ ∀ (H' : Hp) (n' : Int) (fs : List Eff) (ws : List (List Nat)) (t b : Addr), Paired Wd fs ws → fs ≠ [] → fs.length ≤ 4 →
  H' t = some (.tup [.str (SX.S (TL.joinL [42] ws)), .ref b, .int (run fs ([0, 0, 0], 1)).2]) → H' b = some (.tup ((run fs ([0, 0, 0], 1)).1.map V.int)) → (run fs ([0, 0, 0], 1)).2.natAbs < 2 ^ 300 → n ≤ n' → n' ≤ n + 40 → Pen H' d c n' → Off d H H' → Q (.ref t) H'
theorem run_snoc (fs : List Eff) (f : Eff) (s : List Int × Int) : run (fs ++ [f]) s = run1 (run fs s) f := by
  unfold run
  rw [List.foldl_append]
  rfl
theorem paired_snoc {α β : Type} {R : α → β → Prop} {x : α} {y : β} (h : R x y) : ∀ {xs : List α} {l : List β}, Paired R xs l → Paired R (xs ++ [x]) (l ++ [y])
  | _, _, .nil => .cons h .nil
  | _, _, .cons h1 t => .cons h1 (paired_snoc h t)
theorem joinL_len : ∀ (ws : List (List Nat)), (∀ W ∈ ws, W.length ≤ 26) → (TL.joinL [42] ws).length ≤ 27 * ws.length
  | [], _ => Nat.le_refl _
  | [W], h => by
    have := h W (.head _)
    show W.length ≤ 27 * 1
    omega
  | W :: W2 :: ws, h => by
    have h1 := h W (.head _)
    have h2 := joinL_len (W2 :: ws) fun x hx => h x (.tail _ hx)
    show (W ++ ([42] ++ TL.joinL [42] (W2 :: ws))).length ≤ _
    rw [List.length_append, List.length_append]
    rw [List.length_cons (a := W)]
    show W.length + (1 + _) ≤ _
    omega
theorem paired_wd {fs : List Eff} {ws : List (List Nat)} (h : Paired Wd fs ws) : ∀ W ∈ ws, W.length ≤ 26 := by
  induction h with
  | nil => exact fun _ h => nomatch h
  | cons a t ih =>
    intro W hW
    rcases List.mem_cons.mp hW with rfl | hW
    · exact wd_len a
    · exact ih W hW
/-- what the loop keeps -/
structure FaI (H0 : Hp) (d c pl wd : Addr) (n : Int) (i : Nat) (num : Int) (H : Hp) : Prop where
  ex : ∃ (k : List Int) (fs : List Eff) (ws : List (List Nat)) (n' : Int), H pl = some (.lst (k.map V.int)) ∧ H wd = some (.lst ((ws.map SX.S).map V.str)) ∧ Paired Wd fs ws ∧ fs.length = i ∧ run fs ([0, 0, 0], 1) = (k, num) ∧ num.natAbs < 2 ^ (1 + 70 * i) ∧ k.length = 3 ∧
    Pen H d c n' ∧ n ≤ n' ∧ n' ≤ n + 1 + 9 * (i : Int) ∧ Off d H0 H ∧ H0 pl = none ∧ H0 wd = none
section
variable {P : Program} {w : World} {K : PySem.W.Frag} {mg : Str → Option Value} {base : Heap}
variable {g1 g2 gG gE f : Addr} {d1 d2 dG dE' fd : FuncData}
abbrev sFa : Stmt := top 49
abbrev NFa : List Str := ["_law_pen_here", "_law_place", "_law_number", "_law_words", "_law_k", "_law_at", "_law_more", "_law_exponent", "_law_text"]
theorem scFa : FnScope NFa ["_law_pen_here"] (defScope sFa) := ⟨rfl, rfl, rfl, by decide +kernel, rfl, by decide +kernel, by decide +kernel⟩
theorem ok_fa (F : Fun K "_law_factors" "_law_factors" sFa f fd) (B : Blt mg) (mStr : mg "str" = none) (Dr : Cl K mg "_law_draw" sDraw ["_law_pen_here", "_law_many"] g1 d1) (Pi : Cl K mg "_law_pick" sPick ["_law_pen_here", "_law_some"] g2 d2)
    (Ga : Cl K mg "_law_gap" sGap ["_law_pen_here"] gG dG) (GG : FnOk P w K mg base CX0 3 gG dG ["_law_pen_here"] spGap) (Et : Cl K mg "_law_exponent_text" sEt ["_law_pen_here", "_law_exponent"] gE dE') (GE : FnOk P w K mg base CX0 4 gE dE' ["_law_pen_here", "_law_exponent"] spEt) :
    FnOk P w K mg base CX0 5 f fd ["_law_pen_here"] spFa := by
  have G1 : FnOk P w K mg base CX0 1 g1 d1 ["_law_pen_here", "_law_many"] spDraw := ok_draw Dr.fn B.int_ B.len_
  have G2 : FnOk P w K mg base CX0 2 g2 d2 ["_law_pen_here", "_law_some"] (spPick K) := ok_pick Pi.fn Dr.fn Dr.b Dr.g B.int_ B.len_
  refine F.ok scFa (fun vs H Q E h => ?_) (fun cdv A outer s H vs Q E hr h => ?_)
  · obtain ⟨d, c, n, rfl, _⟩ := h
    rfl
  · obtain ⟨d, c, n, rfl, pen, n0, n1, q⟩ := h
    have hr1 : Room 1 _ := hr.mono (by decide)
    have hr2 : Room 2 _ := hr.mono (by decide)
    have hr3 : Room 3 _ := hr.mono (by decide)
    refine ⟨_, pss_cons (ps_par3 (i := 1) (j := 2) (l := 3) rfl scFa.nd rfl rfl rfl (by decide) (by decide) (by decide) rfl rfl rfl (pa_cons (pe_lst (pa_cons pe_int (pa_cons pe_int (pa_cons pe_int pa_nil)))) (pa_cons pe_int (pa_cons (pe_lst pa_nil) pa_nil))) (by rfl))
      (pss_cons (ps_for PassesOwn.never rfl (pi_range1 rfl B.range_ (pa_cons (pe_op op_add pe_int (pe_call G1 hr1 rfl Dr.g Dr.k Dr.b .nil pass0 (pa_cons (pv 0) (pa_cons pe_int pa_nil)))) pa_nil)) (pg_name (i := 4) scFa.nd rfl (Or.inl rfl))
        (pss_cons (ps_set (i := 5) scFa.nd rfl (Or.inl rfl) (pe_call G1 hr1 rfl Dr.g Dr.k Dr.b .nil pass0 (pa_cons (pv 0) (pa_cons pe_int pa_nil))))
        (Evl.pss_cut (ps_if (pt_cmpR op_gt (pv 5) pe_int (nomark _))
            (pss_cons (ps_set (i := 6) scFa.nd rfl (Or.inl rfl) (pe_call G2 hr2 rfl Pi.g Pi.k Pi.b .nil pass0 (pa_cons (pv 0) (pa_cons (pe_lst (pa_cons pe_int (pa_cons pe_int (pa_cons pe_int (pa_cons pe_int (pa_cons pe_int (pa_cons pe_int (pa_cons (pe_op op_pow pe_int pe_int)
                (pa_cons (pe_call G1 hr1 rfl Dr.g Dr.k Dr.b .nil pass0 (pa_cons (pv 0) (pa_cons pe_int pa_nil))) pa_nil))))))))) pa_nil))))
            (pss_cons (ps_set (i := 2) scFa.nd rfl (Or.inl rfl) (pe_op op_mulW (pv 2) (pv 6)))
            (pss_cons (ps_expr (pe_bm PySem.F.plainAttrs_list PySem.F.slot_list_append PySem.F.type_list_append mt_append (pv 3)
              (pa_cons (pe_op op_add_str (pe_op op_add_str (pe_call GG hr3 rfl Ga.g Ga.k Ga.b .nil pass0 (pa_cons (pv 0) pa_nil)) (pe_callTy call_str_int (by rfl) mStr (by decide +kernel) (pa_cons (pv 6) pa_nil)))
                (pe_call GG hr3 rfl Ga.g Ga.k Ga.b .nil pass0 (pa_cons (pv 0) pa_nil))) pa_nil)))
            (pss_one ps_continue)))) pss_nil)
        (pss_cons (ps_set (i := 7) scFa.nd rfl (Or.inl rfl) (pe_call G2 hr2 rfl Pi.g Pi.k Pi.b .nil pass0 (pa_cons (pv 0) (pa_cons (pe_lst (pa_cons pe_int (pa_cons pe_int (pa_cons pe_int (pa_cons (pe_un un_neg pe_int) (pa_cons pe_int (pa_cons (pe_un un_neg pe_int) (pa_cons pe_int
            (pa_cons (pe_op op_sub (pe_call G1 hr1 rfl Dr.g Dr.k Dr.b .nil pass0 (pa_cons (pv 0) (pa_cons (pe_op op_pow pe_int pe_int) pa_nil))) (pe_op op_mul pe_int (pe_op op_pow pe_int pe_int))) pa_nil))))))))) pa_nil))))
        (pss_cons (ps_set (i := 8) scFa.nd rfl (Or.inl rfl) (pe_op op_add_str (pe_op op_add_str (pe_call GG hr3 rfl Ga.g Ga.k Ga.b .nil pass0 (pa_cons (pv 0) pa_nil)) (pe_ix ix_str pe_str (pv 5) (fun _ _ => rfl))) (pe_call GG hr3 rfl Ga.g Ga.k Ga.b .nil pass0 (pa_cons (pv 0) pa_nil))))
        (Evl.pss_cut (ps_if (PW.pt (pw_or (pt_cmpR op_ne (pv 7) pe_int (nomark _)) (pw_or1 (pt_cmpR op_eq (pe_call G1 hr1 rfl Dr.g Dr.k Dr.b .nil pass0 (pa_cons (pv 0) (pa_cons pe_int pa_nil))) pe_int (nomark _)))))
            (pss_one (ps_set (i := 8) scFa.nd rfl (Or.inl rfl) (pe_op op_add_str (pe_op op_add_str (pv 8) pe_str) (pe_call GE hr rfl Et.g Et.k Et.b .nil pass0 (pa_cons (pv 0) (pa_cons (pv 7) pa_nil)))))) pss_nil)
        (pss_cons (ps_asg (pe_op op_add (pe_ix ix_list (pv 1) (pv 5) (fun _ _ => rfl)) (pv 7)) (pg_sub (pv 1) (pv 5) set_list))
        (pss_one (ps_expr (pe_bm PySem.F.plainAttrs_list PySem.F.slot_list_append PySem.F.type_list_append mt_append (pv 3) (pa_cons (pv 8) pa_nil)))))))))))
      (pss_one (ps_ret (pe_tup (pa_cons (pe_join pe_str (pv 3)) (pa_cons (pe_tup (pa_cons (pe_ix ix_list (pv 1) pe_int (fun _ _ => rfl)) (pa_cons (pe_ix ix_list (pv 1) pe_int (fun _ _ => rfl)) (pa_cons (pe_ix ix_list (pv 1) pe_int (fun _ _ => rfl)) pa_nil)))) (pa_cons (pv 2) pa_nil))))))), ?_⟩
    refine ⟨by show 3 ≤ sizeLine; decide, fun pl npl => ⟨by show 0 ≤ sizeLine; decide, fun wd nwd => ⟨_, _, _, rfl, ?_⟩⟩⟩
    have hpw : pl ≠ wd := fun z => by
      rw [← z, upd_same] at nwd
      cases nwd
    have hwd0 : H wd = none := More.off (new_more npl) nwd
    have pen1 : Pen (upd (upd H pl (.lst [.int 0, .int 0, .int 0])) wd (.lst [])) d c n := (pen.upd npl).upd nwd
    refine ⟨_, rfl, d, c, n, 4, rfl, pen1, by decide, by decide, n0, by omega, fun r H2 r0 r1 dr => ⟨_, _, rfl, rfl, 1 + r, rfl, by omega, by omega, for_range (lo := 0) (n := (1 + r).toNat)
      (fun i σ' H' => ∃ num z4 z5 z6 z7 z8, σ' = [some (.ref d), some (.ref pl), some (.int num), some (.ref wd), z4, z5, z6, z7, z8] ∧ FaI H d c pl wd n i num H') ?_ ?_ ?_⟩⟩
    · have hd2 : pl ≠ d ∧ wd ≠ d := by
        obtain ⟨o, ho⟩ := pen.at
        exact ⟨(ne_of_none ho npl).symm, (ne_of_none ho hwd0).symm⟩
      refine ⟨1, none, none, none, none, none, rfl, ⟨[0, 0, 0], [], [], n + 1, ?_, ?_, .nil, rfl, rfl, by decide, rfl, dr.pen, by omega, by omega, (Off.of ((new_more npl).new nwd)).trans (Off.dr dr), npl, hwd0⟩⟩
      · rw [dr.off pl hd2.1, upd_ne hpw, upd_same]
        rfl
      · rw [dr.off wd hd2.2, upd_same]
        rfl
    · rintro i σ2 H3 hi ⟨num, z4, z5, z6, z7, z8, rfl, fa⟩
      have hi : i < 4 := by omega
      obtain ⟨k, fs, ws, m, hpl, hwd, pw, fl, er, nb, k3, pen3, m0, m1, o3, npl, nwd⟩ := fa.ex
      have wl : ws.length = i := by rw [← fl]; exact (Paired.length pw).symm
      have hd3 : pl ≠ d ∧ wd ≠ d ∧ pl ≠ wd := by
        obtain ⟨kvs, hk⟩ := show ∃ kvs, H3 d = some (.dK kvs) from let ⟨kvs, _, _, _, _, h1, _⟩ := pen3; ⟨kvs, h1⟩
        exact ⟨ne_of hpl hk (by intro z; cases z), ne_of hwd hk (by intro z; cases z), hpw⟩
      obtain ⟨nd1, nd2, nd3⟩ := hd3
      refine ⟨_, rfl, d, c, m, 5, rfl, pen3, by decide, by decide, by omega, by omega, fun at_ H4 a0 a1 dr4 => ?_⟩
      have o4 := o3.trans (Off.dr dr4)
      have hpl4 := (dr4.off pl nd1).trans hpl
      have hwd4 := (dr4.off wd nd2).trans hwd
      refine ⟨fun σ' H' => σ' = [some (.ref d), some (.ref pl), some (.int num), some (.ref wd), some (.int (0 + (i : Int))), some (.int at_), z6, z7, z8] ∧ H' = H4 ∧ at_ < 3, ?_, ?_⟩
      · refine ⟨_, rfl, _, _, rfl, rfl, _, rfl, ite2 (fun z => ?_) (fun z => ?_)⟩
        · refine ⟨_, rfl, _, _, rfl, rfl, ⟨by decide, by decide, by decide⟩, _, rfl, d, c, m + 1, 1000, rfl, dr4.pen, by decide, by decide, by omega, by omega, fun r5 H5 r50 r51 dr5 => ⟨by show 8 ≤ sizeLine; decide, fun l nl => ?_⟩⟩
          refine ⟨d, c, l, m + 2, _, rfl, ?_, upd_same, by show 0 < 8; decide, by show 8 ≤ 1000; decide, by omega, by omega, fun x H6 hx dr6 => ?_⟩
          · have := dr5.pen.upd (o := .lst [.int 0, .int 1, .int 2, .int 3, .int 7, .int 10, .int (10 ^ (20 : Int).toNat), .int r5]) nl
            rw [show m + 1 + 1 = m + 2 by omega] at this
            exact this
          obtain ⟨more, rfl, hm⟩ : ∃ more : Nat, x = .int (more : Int) ∧ more < 10 ^ 21 := by
            simp only [List.mem_cons, List.not_mem_nil, or_false] at hx
            obtain rfl | rfl | rfl | rfl | rfl | rfl | rfl | rfl := hx
            · exact ⟨0, rfl, by decide⟩
            · exact ⟨1, rfl, by decide⟩
            · exact ⟨2, rfl, by decide⟩
            · exact ⟨3, rfl, by decide⟩
            · exact ⟨7, rfl, by decide⟩
            · exact ⟨10, rfl, by decide⟩
            · exact ⟨10 ^ 20, rfl, by decide⟩
            · exact ⟨r5.toNat, by rw [Int.toNat_of_nonneg r50], by
                have : r5.toNat < 1000 := by omega
                exact Nat.lt_trans this (by decide)⟩
          have o6 := ((o4.trans (Off.dr dr5)).trans (Off.of (new_more (o := .lst [.int 0, .int 1, .int 2, .int 3, .int 7, .int 10, .int (10 ^ (20 : Int).toNat), .int r5]) nl))).trans (Off.dr dr6)
          have mb : ((more : Int)).natAbs < 2 ^ 70 := by
            have : (10 : Nat) ^ 21 < 2 ^ 70 := by decide
            show more < _
            omega
          have hwd5 := (dr5.off wd nd2).trans hwd4
          have hpl5 := (dr5.off pl nd1).trans hpl4
          have hwd6 := (dr6.off wd nd2).trans (new_more (o := .lst [.int 0, .int 1, .int 2, .int 3, .int 7, .int 10, .int (10 ^ (20 : Int).toNat), .int r5]) nl _ _ hwd5)
          have hpl6 := (dr6.off pl nd1).trans (new_more (o := .lst [.int 0, .int 1, .int 2, .int 3, .int 7, .int 10, .int (10 ^ (20 : Int).toNat), .int r5]) nl _ _ hpl5)
          have lm := TL.numL_len (k := 21) (by decide) hm
          have pen6 := dr6.pen
          clear dr6 dr5 hwd5 hpl5 hpl4 hwd4 dr4 hpl hwd o3 o4
          refine ⟨_, rfl, _, rfl, _, _, rfl, rfl, wide_mul nb mb (by omega) (by decide) (by omega), ?_⟩
          refine ⟨_, rfl, .inl ⟨rfl, _, SqL.of hwd6⟩, _, rfl, d, c, m + 2 + 1, rfl, pen6, by omega, by omega, fun H7 i7 hi7 pen7 o7 => ?_⟩
          have hwd7 := o7 _ _ hwd6 nd2
          have hpl7 := o7 _ _ hpl6 nd1
          refine ⟨_, rfl, _, rfl, lt50 (Nat.lt_trans hm (by decide)), ?_⟩
          rw [← num_S]
          refine ⟨SX.S (rp i7), SX.S (TL.numL more), rfl, rfl, by rw [SX.S_len, SX.S_len, rp_len]; exact size_ok (by omega), ?_⟩
          rw [SX.S_cat]
          refine ⟨_, rfl, d, c, m + 2 + 1 + 1, rfl, pen7, by omega, by omega, fun H8 i8 hi8 pen8 o8 => ?_⟩
          have hwd8 := o8 _ _ hwd7 nd2
          have hpl8 := o8 _ _ hpl7 nd1
          refine ⟨SX.S (rp i7 ++ TL.numL more), SX.S (rp i8), rfl, rfl, by rw [SX.S_len, SX.S_len, List.length_append, rp_len, rp_len]; exact size_ok (by omega), ?_⟩
          rw [SX.S_cat]
          refine ⟨wd, _, _, rfl, rfl, hwd8, by rw [List.length_map, List.length_map]; exact small1000 (by omega), ?_⟩
          refine ⟨num * more, _, _, _, _, _, rfl, ⟨k, fs ++ [.num more], ws ++ [(rp i7 ++ TL.numL more) ++ rp i8], m + 2 + 1 + 1 + 1, ?_, ?_, paired_snoc ⟨hm, i7, i8, hi7, hi8, List.append_assoc _ _ _⟩ pw, by rw [List.length_append, fl]; rfl, ?_, ?_, k3, ?_, by omega, by omega, ?_, npl, nwd⟩⟩
          · rw [upd_ne nd3]
            exact hpl8
          · rw [upd_same, List.map_append, List.map_append]
            rfl
          · rw [run_snoc, er]
            rfl
          · have := wide_lt nb mb
            refine Nat.lt_of_lt_of_le this (Nat.pow_le_pow_right (by decide) (by omega))
          · refine pen8.keep (upd_ne nd2.symm) (upd_ne fun z => ?_)
            obtain ⟨o, ho⟩ := pen.atc
            rw [z, nwd] at ho
            cases ho
          · intro b o hb nb'
            rw [upd_ne (ne_of_none hb nwd)]
            exact ((o6.trans o7).trans o8) b o hb nb'
        · have z : ¬ (2 : Int) < at_ := fun y => z (decide_eq_true y)
          exact ⟨rfl, rfl, by omega⟩
      · rintro σ4 H4' ⟨rfl, rfl, at3⟩
        obtain ⟨a, rfl⟩ : ∃ a : Nat, at_ = (a : Int) := ⟨at_.toNat, by omega⟩
        have at3 : a < 3 := by omega
        refine ⟨_, rfl, _, rfl, _, rfl, _, rfl, _, _, rfl, rfl, ⟨by decide, by decide, by decide⟩, d, c, m + 1, _, rfl, dr4.pen, by decide, by decide, by omega, by omega, fun r5 H5 r50 r51 dr5 => ⟨_, _, rfl, rfl, ⟨by decide, by decide, by decide⟩, _, _, rfl, rfl, .inl ⟨by decide, by decide⟩, _, _, rfl, rfl, by show 8 ≤ sizeLine; decide, fun l nl => ?_⟩⟩
        have r51 : r5 < 1000000000 := r51
        refine ⟨d, c, l, m + 2, _, rfl, ?_, upd_same, by show 0 < 8; decide, by show 8 ≤ 1000; decide, by omega, by omega, fun x H6 hx dr6 => ?_⟩
        · have := dr5.pen.upd (o := .lst [.int 1, .int 1, .int 0, .int (-1), .int 2, .int (-3), .int 12, .int (r5 - 5 * 10 ^ (8 : Int).toNat)]) nl
          rw [show m + 1 + 1 = m + 2 by omega] at this
          exact this
        obtain ⟨e, rfl, he⟩ : ∃ e : Int, x = .int e ∧ e.natAbs < 10 ^ 10 := by
          simp only [List.mem_cons, List.not_mem_nil, or_false] at hx
          obtain rfl | rfl | rfl | rfl | rfl | rfl | rfl | rfl := hx
          · exact ⟨1, rfl, by decide⟩
          · exact ⟨1, rfl, by decide⟩
          · exact ⟨0, rfl, by decide⟩
          · exact ⟨-1, rfl, by decide⟩
          · exact ⟨2, rfl, by decide⟩
          · exact ⟨-3, rfl, by decide⟩
          · exact ⟨12, rfl, by decide⟩
          · refine ⟨_, rfl, ?_⟩
            have e1 : (5 : Int) * 10 ^ (8 : Int).toNat = 500000000 := by decide
            rw [e1]
            omega
        have ol := new_more (o := .lst [.int 1, .int 1, .int 0, .int (-1), .int 2, .int (-3), .int 12, .int (r5 - 5 * 10 ^ (8 : Int).toNat)]) nl
        have o6 := ((o4.trans (Off.dr dr5)).trans (Off.of ol)).trans (Off.dr dr6)
        have hwd6 := (dr6.off wd nd2).trans (ol _ _ ((dr5.off wd nd2).trans hwd4))
        have hpl6 := (dr6.off pl nd1).trans (ol _ _ ((dr5.off pl nd1).trans hpl4))
        have pen6 := dr6.pen
        clear dr6 dr5 hpl4 hwd4 dr4 hpl hwd o3 o4 ol
        refine ⟨_, rfl, d, c, m + 2 + 1, rfl, pen6, by omega, by omega, fun H7 i7 hi7 pen7 o7 => ?_⟩
        have at_s : atI ([120, 121, 122] : List Nat) (a : Int) = some (120 + a) := by
          match a, at3 with
          | 0, _ => rfl
          | 1, _ => rfl
          | 2, _ => rfl
        refine ⟨_, rfl, _, _, _, rfl, rfl, by decide, at_s, ?_⟩
        refine ⟨SX.S (rp i7), SX.S [120 + a], rfl, rfl, by rw [SX.S_len, SX.S_len, rp_len]; exact size_ok (by show i7 + 1 ≤ 1000; omega), ?_⟩
        rw [SX.S_cat]
        refine ⟨_, rfl, d, c, m + 2 + 1 + 1, rfl, pen7, by omega, by omega, fun H8 i8 hi8 pen8 o8 => ?_⟩
        refine ⟨SX.S (rp i7 ++ [120 + a]), SX.S (rp i8), rfl, rfl, by rw [SX.S_len, SX.S_len, List.length_append, rp_len, rp_len]; exact size_ok (by show i7 + 1 + i8 ≤ 1000; omega), ?_⟩
        rw [SX.S_cat]
        have o68 := (o6.trans o7).trans o8
        have hwd8 := o8 _ _ (o7 _ _ hwd6 nd2) nd2
        have hpl8 := o8 _ _ (o7 _ _ hpl6 nd1) nd1
        clear o6 o7 o8 hwd6 hpl6 pen6 pen7
        have short : rp i7 ++ [120 + a] ++ rp i8 = rp i7 ++ ((120 + a) :: rp i8) := by simp only [List.append_assoc, List.cons_append, List.nil_append]
        refine ⟨fun σ' H' => ∃ W m8, σ' = [some (.ref d), some (.ref pl), some (.int num), some (.ref wd), some (.int (0 + (i : Int))), some (.int (a : Int)), z6, some (.int e), some (.str (SX.S W))] ∧ Wd (.lt a e) W ∧ Pen H' d c m8 ∧ m ≤ m8 ∧ m8 ≤ m + 9 ∧ Off d H8 H', ?_, ?_⟩
        · refine ⟨_, rfl, rfl, _, rfl, ?_⟩
          have fin : ∀ (V : List Nat), ETx e V → Wd (.lt a e) ((rp i7 ++ [120 + a] ++ rp i8) ++ [94] ++ V) := fun V et => ⟨at3, i7, i8, hi7, hi8, .inr ⟨he, V, et, by rw [short]; simp only [List.append_assoc, List.cons_append, List.nil_append]⟩⟩
          have el : ∀ V, ETx e V → V.length ≤ 50 := by
            intro V et
            obtain ⟨i2, j2, _, _, ⟨_, rfl⟩ | ⟨_, l, _, rfl⟩⟩ := et
            · have := TL.numL_len (k := 10) (by decide) he
              simp only [List.length_append, rp_len]
              omega
            · have := TL.numL_len (k := 10) (by decide) he
              simp only [List.length_append, List.length_cons, rp_len]
              omega
          have l3 : (rp i7 ++ [120 + a] ++ rp i8).length ≤ 5 := by
            rw [List.length_append, List.length_append, rp_len, rp_len]
            show i7 + 1 + i8 ≤ 5
            omega
          refine ite2 (fun _ => ?_) (fun z => ?_)
          · refine ⟨_, rfl, SX.S (rp i7 ++ [120 + a] ++ rp i8), SX.S [94], rfl, rfl, by rw [SX.S_len, SX.S_len]; exact size_ok (by show _ + 1 ≤ 1000; omega), ?_⟩
            rw [SX.S_cat]
            refine ⟨_, rfl, _, rfl, d, c, m + 2 + 1 + 1 + 1, _, rfl, pen8, by omega, by omega, he, fun HA nA V et h3 h4 penA oA => ?_⟩
            refine ⟨SX.S _, SX.S V, rfl, rfl, by rw [SX.S_len, SX.S_len, List.length_append]; have := el V et; exact size_ok (by show _ + 1 + _ ≤ 1000; omega), ?_⟩
            rw [SX.S_cat]
            exact ⟨_, nA, rfl, fin V et, penA, by omega, by omega, oA⟩
          · have z : e = 1 := by
              by_cases y : e = 1
              · exact y
              · exact absurd (by rw [deI]; simp [y]) z
            subst z
            refine ⟨_, rfl, d, c, m + 2 + 1 + 1 + 1, 3, rfl, pen8, by decide, by decide, by omega, by omega, fun r9 H9 _ _ dr9 => ⟨rfl, _, rfl, ite2 (fun _ => ?_) (fun _ => ?_)⟩⟩
            · refine ⟨_, rfl, SX.S (rp i7 ++ [120 + a] ++ rp i8), SX.S [94], rfl, rfl, by rw [SX.S_len, SX.S_len]; exact size_ok (by show _ + 1 ≤ 1000; omega), ?_⟩
              rw [SX.S_cat]
              refine ⟨_, rfl, _, rfl, d, c, m + 2 + 1 + 1 + 1 + 1, _, rfl, dr9.pen, by omega, by omega, he, fun HA nA V et h3 h4 penA oA => ?_⟩
              refine ⟨SX.S _, SX.S V, rfl, rfl, by rw [SX.S_len, SX.S_len, List.length_append]; have := el V et; exact size_ok (by show _ + 1 + _ ≤ 1000; omega), ?_⟩
              rw [SX.S_cat]
              exact ⟨_, nA, rfl, fin V et, penA, by omega, by omega, (Off.dr dr9).trans oA⟩
            · exact ⟨_, _, rfl, ⟨at3, i7, i8, hi7, hi8, .inl ⟨rfl, short⟩⟩, dr9.pen, by omega, by omega, Off.dr dr9⟩
        · rintro σ5 H9 ⟨W, m8, rfl, hW, pen9, k0, k1, o9⟩
          have hwd9 := o9 _ _ hwd8 nd2
          have hpl9 := o9 _ _ hpl8 nd1
          have ka : a < k.length := by omega
          have hka : (k.map V.int)[a]? = some (V.int (k.getD a 0)) := by
            rw [List.getElem?_map, List.getD_eq_getElem?_getD, List.getElem?_eq_getElem ka]
            rfl
          refine ⟨_, rfl, _, rfl, pl, _, _, _, rfl, rfl, SqL.of hpl9, atI_nat hka, _, rfl, _, _, rfl, rfl, _, rfl, _, rfl, pl, _, _, a, rfl, rfl, hpl9, ?_, ?_⟩
          · unfold ixN
            rw [List.length_map, if_pos (Int.natCast_nonneg _), if_pos (by omega), Int.toNat_natCast]
          · have hwdA : (upd H9 pl (.lst ((k.map V.int).set a (.int (k.getD a 0 + e))))) wd = some (.lst ((ws.map SX.S).map V.str)) := by
              rw [upd_ne nd3.symm]
              exact hwd9
            refine ⟨_, rfl, .inl ⟨rfl, _, SqL.of hwdA⟩, _, rfl, wd, _, _, rfl, rfl, hwdA, by rw [List.length_map, List.length_map]; exact small1000 (by omega), ?_⟩
            refine ⟨num, _, _, _, _, _, rfl, ⟨k.set a (k.getD a 0 + e), fs ++ [.lt a e], ws ++ [W], m8, ?_, ?_, paired_snoc hW pw, by rw [List.length_append, fl]; rfl, ?_, ?_, by rw [List.length_set]; exact k3, ?_, by omega, by omega, ?_, npl, nwd⟩⟩
            · rw [upd_ne nd3, upd_same, List.map_set]
            · rw [upd_same, List.map_append, List.map_append]
              rfl
            · rw [run_snoc, er]
              rfl
            · exact Nat.lt_of_lt_of_le nb (Nat.pow_le_pow_right (by decide) (by omega))
            · obtain ⟨o, ho⟩ := pen.atc
              refine pen9.keep ?_ ?_
              · rw [upd_ne nd2.symm, upd_ne nd1.symm]
              · rw [upd_ne (fun z => (by rw [z, nwd] at ho; cases ho)), upd_ne (fun z => (by rw [z, npl] at ho; cases ho))]
            · intro b o hb nb'
              rw [upd_ne (ne_of_none hb nwd), upd_ne (ne_of_none hb npl)]
              exact (o68.trans o9) b o hb nb'
    · rintro σ2 H3 ⟨num, z4, z5, z6, z7, z8, rfl, fa⟩
      obtain ⟨k, fs, ws, m, hpl, hwd, pw, fl, er, nb, k3, pen3, m0, m1, o3, npl, nwd⟩ := fa.ex
      have wl : ws.length = fs.length := (Paired.length pw).symm
      have fl4 : fs.length ≤ 4 := by omega
      refine ⟨⟨_, rfl⟩, _, rfl, _, wd, ws.map SX.S, rfl, rfl, .inl (SqL.of hwd), ?_, ?_⟩
      · have e1 : ((ws.map SX.S).map (·.length)).sum ≤ 26 * ws.length := by
          have all := paired_wd pw
          clear pw hwd wl
          induction ws with
          | nil => exact Nat.le_refl _
          | cons W ws ih =>
            have h1 := all W (.head _)
            have h2 := ih fun x hx => all x (.tail _ hx)
            simp only [List.map_cons, List.sum_cons, List.length_cons, SX.S_len] at h2 ⊢
            omega
        have e2 : (ws.map SX.S).length = ws.length := List.length_map _
        rw [e2]
        show _ + ws.length * 1 ≤ _
        omega
      · rw [show ("*" : Str) = SX.S [42] from rfl, SX.join_S]
        match k, k3 with
        | [k0, k1, k2], _ =>
        refine ⟨_, rfl, pl, _, _, _, rfl, rfl, SqL.of hpl, at_of (j := 0) rfl rfl, _, rfl, pl, _, _, _, rfl, rfl, SqL.of hpl, at_of (j := 1) rfl rfl, _, rfl, pl, _, _, _, rfl, rfl, SqL.of hpl, at_of (j := 2) rfl rfl, by show 3 ≤ sizeLine; decide, fun b nb' => ⟨_, rfl, by show 3 ≤ sizeLine; decide, fun t nt => ?_⟩⟩
        refine q _ m fs ws t b pw ?_ fl4 ?_ ?_ ?_ m0 (by omega) ((pen3.upd nb').upd nt) (o3.trans (Off.of ((new_more nb').new nt)))
        · intro z
          rw [z] at fl
          have : (0 : Nat) = (1 + r).toNat := fl
          omega
        · rw [er]
          exact upd_same
        · rw [er, upd_ne (ne_of_none upd_same nt)]
          exact upd_same
        · rw [er]
          exact Nat.lt_of_lt_of_le nb (Nat.pow_le_pow_right (by decide) (by omega))
end
end K14

namespace K14
open PySem L2 Gd Ply
/-- what may follow a sum -/
def TlS (R : List Nat) : Prop := R = [] ∨ ∃ c r, R = c :: r ∧ (c = 43 ∨ c = 45)
theorem TlS.tl {R : List Nat} (h : TlS R) : Tl R := h.imp id fun ⟨c, r, e, z⟩ => ⟨c, r, e, .inr z⟩
theorem TlS.no {R : List Nat} (h : TlS R) : No 42 R := by
  obtain rfl | ⟨c, r, rfl, z⟩ := h
  · intro r e
    cases e
  · intro r' e
    cases e
    omega
/-- the text T so far tells these terms -/
def PT (T : List Nat) (its : List (Int × List Eff)) : Prop := ∀ R its2 R', TlS R → Rest R its2 R' → Pows (T ++ R) (its ++ its2) R'
theorem join_head {fs : List Eff} {ws : List (List Nat)} (h : Paired Wd fs ws) (ne : fs ≠ []) (R : List Nat) : No 45 (skp (TL.joinL [42] ws ++ R)) ∧ 0 < (TL.joinL [42] ws).length := by
  cases h with
  | nil => exact absurd rfl ne
  | @cons f W fs ws a t =>
    cases t with
    | nil => exact wd_head a R
    | @cons f2 W2 fs2 ws2 a2 t2 =>
      have e : TL.joinL [42] (W :: W2 :: ws2) = W ++ ([42] ++ TL.joinL [42] (W2 :: ws2)) := rfl
      rw [e, List.append_assoc]
      obtain ⟨h1, h2⟩ := wd_head a (([42] ++ TL.joinL [42] (W2 :: ws2)) ++ R)
      exact ⟨h1, by rw [List.length_append]; omega⟩
theorem pt_plain {fs : List Eff} {ws : List (List Nat)} (h : Paired Wd fs ws) (ne : fs ≠ []) : PT (TL.joinL [42] ws) [(1, fs)] := by
  intro R its2 R' t r
  exact .inr ⟨R, fs, its2, (join_head h ne R).1, facs_skp (facs_join h ne t.tl t.no), r, rfl⟩
theorem pt_minus {fs : List Eff} {ws : List (List Nat)} (h : Paired Wd fs ws) (ne : fs ≠ []) (i : Nat) : PT ((rp i ++ [45]) ++ TL.joinL [42] ws) [(-1, fs)] := by
  intro R its2 R' t r
  refine .inl ⟨TL.joinL [42] ws ++ R, R, fs, its2, ?_, facs_join h ne t.tl t.no, r, rfl⟩
  rw [List.append_assoc, List.append_assoc, skp_gap]
  exact skp_ne (by decide)
theorem pt_more {T : List Nat} {its : List (Int × List Eff)} {fs : List Eff} {ws : List (List Nat)} {c : Nat} {sg : Int} (p : PT T its) (h : Paired Wd fs ws) (ne : fs ≠ []) (hc : (c = 43 ∧ sg = 1) ∨ (c = 45 ∧ sg = -1)) : PT ((T ++ [c]) ++ TL.joinL [42] ws) (its ++ [(sg, fs)]) := by
  intro R its2 R' t r
  have e : ((T ++ [c]) ++ TL.joinL [42] ws) ++ R = T ++ (c :: (TL.joinL [42] ws ++ R)) := by simp only [List.append_assoc, List.cons_append, List.nil_append]
  rw [e, List.append_assoc]
  refine p _ _ R' (.inr ⟨c, _, rfl, by omega⟩) ?_
  obtain ⟨rfl, rfl⟩ | ⟨rfl, rfl⟩ := hc
  · exact .plus (skp_ne (by decide)) (facs_join h ne t.tl t.no) r
  · exact .minus (skp_ne (by decide)) (facs_join h ne t.tl t.no) r
theorem rest_nil : Rest [] [] [] := .nil (R := []) (fun r e => nomatch e) (fun r e => nomatch e)
theorem pt_end {T : List Nat} {its : List (Int × List Eff)} (p : PT T its) : Pows T its [] := by
  have := p [] [] [] (.inl rfl) rest_nil
  rw [List.append_nil, List.append_nil] at this
  exact this
theorem run_sign : ∀ (fs : List Eff) (k : List Int) (a b : Int), run fs (k, a * b) = ((run fs (k, b)).1, a * (run fs (k, b)).2)
  | [], _, _, _ => rfl
  | .lt i e :: fs, k, a, b => run_sign fs _ a b
  | .num n :: fs, k, a, b => by
    show run fs (k, a * b * n) = _
    rw [Int.mul_assoc]
    exact run_sign fs k a (b * n)
theorem term_sign (sg : Int) (fs : List Eff) : termOf (sg, fs) = ((run fs ([0, 0, 0], 1)).1, sg * (run fs ([0, 0, 0], 1)).2) := by
  have := run_sign fs [0, 0, 0] sg 1
  rw [Int.mul_one] at this
  exact this
theorem tot_snoc (l : Po) (e : List Int × Int) (k : List Int) : tot (l ++ [e]) k = tot l k + (if e.1 = k then e.2 else 0) := by
  rw [tot_append]
  show _ + ((if e.1 = k then e.2 else 0) + 0) = _
  omega
def spLaw (K : PySem.W.Frag) : Sp := fun vs H Q _ => ∃ (a : Addr) (ns : List Int), vs = [.ref a] ∧ SqL K H a (ns.map V.int) ∧ ∀ H', Q (.bl true) H'
/-- what the inner loop keeps -/
structure LI (H0 : Hp) (d c D : Addr) (n : Int) (i : Nat) (T : List Nat) (H : Hp) : Prop where
  ex : ∃ (its : List (Int × List Eff)) (p : Po) (m : Int), (i = 0 → T = [] ∧ its = []) ∧ (0 < i → PT T its ∧ 0 < T.length) ∧ its.length = i ∧ (∀ it ∈ its, it.2.length ≤ 4) ∧ H D = some (.dT (dk p)) ∧ (ks p).Nodup ∧ p.length ≤ i ∧ (∀ e ∈ p, e.1.length = 3) ∧
    (∀ k, val p k = tot (its.map termOf) k) ∧ T.length ≤ 120 * i ∧ Pen H d c m ∧ n ≤ m ∧ m ≤ n + 1 + 50 * (i : Int) ∧ Off d H0 H ∧ H0 D = none
theorem ends_of (i : Nat) (h : i ≤ 2) : Txt.endswith (SX.S (rp i ++ [45])) "-" = true := by
  match i, h with
  | 0, _ => decide +kernel
  | 1, _ => decide +kernel
  | 2, _ => decide +kernel
theorem ends_no : Txt.endswith (SX.S []) "-" = false ∧ Txt.endswith (SX.S [43]) "-" = false ∧ Txt.endswith (SX.S [45]) "-" = true := by decide +kernel
section
variable {P : Program} {w : World} {K : PySem.W.Frag} {mg : Str → Option Value} {base : Heap}
variable {g0 g1 g2 gG gF gS gP f C : Addr} {d0 d1 d2 dG dF dS dP fd : FuncData}
abbrev sLaw : Stmt := top 50
abbrev NLaw : List Str := ["_law_script", "_law_pen_here", "_law_lap", "_law_text", "_law_poly", "_law_k", "_law_words", "_law_place", "_law_number", "_law_sign"]
theorem scLaw : FnScope NLaw ["_law_script"] (defScope sLaw) := ⟨rfl, rfl, rfl, by decide +kernel, rfl, by decide +kernel, by decide +kernel⟩
theorem ok_law (F : Fun K "law" "law" sLaw f fd) (B : Blt mg) (Pe : Cl K mg "_law_pen" sPen ["_law_script"] g0 d0) (Dr : Cl K mg "_law_draw" sDraw ["_law_pen_here", "_law_many"] g1 d1) (Pi : Cl K mg "_law_pick" sPick ["_law_pen_here", "_law_some"] g2 d2)
    (Ga : Cl K mg "_law_gap" sGap ["_law_pen_here"] gG dG) (GG : FnOk P w K mg base CX0 3 gG dG ["_law_pen_here"] spGap) (Fa : Cl K mg "_law_factors" sFa ["_law_pen_here"] gF dF) (GF : FnOk P w K mg base CX0 5 gF dF ["_law_pen_here"] spFa)
    (Iss : Cl K mg "_law_is_sum" sIsSum ["_law_told", "_law_poly"] gS dS) (GS : FnOk P w K mg base CX0 2 gS dS ["_law_told", "_law_poly"] (spIsSum C)) (Pf : Cl K mg "powers_of" sPf ["text"] gP dP) (GP : FnOk P w K mg base CX0 9 gP dP ["text"] (spPf C)) :
    FnG P w K mg base CX0 10 f fd ["_law_script"] (spLaw K) := by
  have G0 : FnOk P w K mg base CX0 1 g0 d0 ["_law_script"] (spPen K) := ok_pen Pe.fn B.int_ B.list_
  have G1 : FnOk P w K mg base CX0 1 g1 d1 ["_law_pen_here", "_law_many"] spDraw := ok_draw Dr.fn B.int_ B.len_
  have G2 : FnOk P w K mg base CX0 2 g2 d2 ["_law_pen_here", "_law_some"] (spPick K) := ok_pick Pi.fn Dr.fn Dr.b Dr.g B.int_ B.len_
  refine okG F scLaw (fun vs H Q E h => ?_) (fun cdv A outer s H vs Q E hgd hr h => ?_)
  · obtain ⟨a, ns, rfl, _⟩ := h
    rfl
  · obtain ⟨a, ns, rfl, hS, q⟩ := h
    have hu := hu_of hr
    have hr1 : Room 1 _ := hr.mono (by decide)
    have hr2 : Room 2 _ := hr.mono (by decide)
    have hr3 : Room 3 _ := hr.mono (by decide)
    have hr5 : Room 5 _ := hr.mono (by decide)
    refine ⟨_, pss_cons (ps_set (i := 1) scLaw.nd rfl (Or.inl rfl) (pe_call G0 hr1 rfl Pe.g Pe.k Pe.b .nil pass0 (pa_cons (pv 0) pa_nil)))
      (pss_cons (ps_for PassesOwn.never rfl (pi_range1 rfl B.range_ (pa_cons pe_int pa_nil)) (pg_name (i := 2) scLaw.nd rfl (Or.inl rfl))
        (pss_cons (ps_par (i := 3) (j := 4) rfl scLaw.nd rfl rfl (by decide) rfl rfl (pa_cons pe_str (pa_cons pe_dnewT pa_nil)) (by rfl))
        (Evl.pss_cut (ps_for PassesOwn.never rfl (pi_range1 rfl B.range_ (pa_cons (pe_op op_add pe_int (pe_call G1 hr1 rfl Dr.g Dr.k Dr.b .nil pass0 (pa_cons (pv 1) (pa_cons pe_int pa_nil)))) pa_nil)) (pg_name (i := 5) scLaw.nd rfl (Or.inl rfl))
          (pss_cons (ps_asg (pe_call GF hr5 rfl Fa.g Fa.k Fa.b .nil pass0 (pa_cons (pv 1) pa_nil)) (pg_tup (by rfl) (pgs_cons (pg_name (i := 6) scLaw.nd rfl (Or.inl rfl)) (pgs_cons (pg_name (i := 7) scLaw.nd rfl (Or.inl rfl)) (pgs_cons (pg_name (i := 8) scLaw.nd rfl (Or.inl rfl)) pgs_nil)))))
          (Evl.pss_cut (ps_set (i := 9) scLaw.nd rfl (Or.inl rfl) (pe_ifExp (pt_cmpR op_ne (pv 3) pe_str (nomark _))
              (pe_call G2 hr2 rfl Pi.g Pi.k Pi.b .nil pass0 (pa_cons (pv 1) (pa_cons (pe_lst (pa_cons pe_str (pa_cons pe_str pa_nil))) pa_nil)))
              (pe_call G2 hr2 rfl Pi.g Pi.k Pi.b .nil pass0 (pa_cons (pv 1) (pa_cons (pe_lst (pa_cons pe_str (pa_cons pe_str (pa_cons (pe_op op_add_str (pe_call GG hr3 rfl Ga.g Ga.k Ga.b .nil pass0 (pa_cons (pv 1) pa_nil)) pe_str) pa_nil)))) pa_nil)))))
          (pss_cons (ps_set (i := 3) scLaw.nd rfl (Or.inl rfl) (pe_op op_add_str (pe_op op_add_str (pv 3) (pv 9)) (pv 6)))
          (pss_one (ps_dput hu (pv 4) (pv 7) (pe_op op_add (pe_dget2 hu (pv 4) (pv 7) pe_int ⟨rfl, rfl, rfl, rfl⟩) (pe_ifExp (pt_val (pe_m1 PySem.F.slot_str_endswith PySem.F.type_str_endswith mt_endswith (pv 9) pe_str)) (pe_un un_neg (pv 8)) (pv 8))) rfl))))))
        (pss_one (ps_if (pt_not (pt_val (pe_call GS hr2 rfl Iss.g Iss.k Iss.b .nil pass0 (pa_cons (pe_call GP hr rfl Pf.g Pf.k Pf.b .nil pass0 (pa_cons (pv 3) pa_nil)) (pa_cons (pv 4) pa_nil)))))
          (pss_one (ps_ret pe_bl)) pss_nil)))))
      (pss_one (ps_ret pe_bl))), ?_⟩
    refine ⟨_, rfl, a, ns, rfl, hS, fun H0 d c pen0 _ _ => ?_⟩
    refine ⟨3, rfl, by decide, by decide, for_range (lo := 0) (n := 3) (fun i σ' H' => ∃ z2 z3 z4 z5 z6 z7 z8 z9 m, σ' = [some (.ref a), some (.ref d), z2, z3, z4, z5, z6, z7, z8, z9] ∧ Pen H' d c m ∧ 0 ≤ m ∧ m ≤ 500 * (i : Int)) ⟨none, none, none, none, none, none, none, none, 0, rfl, pen0, by decide, by decide⟩ ?_ ?_⟩
    · rintro i0 σ0 H1 hi0 ⟨z2, z3, z4, z5, z6, z7, z8, z9, m, rfl, pen1, m0, m1⟩
      intro D hD
      refine ⟨_, _, rfl, ?_⟩
      have nDd : D ≠ d := by
        obtain ⟨o, ho⟩ := pen1.at
        exact (ne_of_none ho hD).symm
      have ncD : c ≠ D := by
        obtain ⟨o, ho⟩ := pen1.atc
        exact ne_of_none ho hD
      refine ⟨fun σ' H' => ∃ T i z2 z5 z6 z7 z8 z9, σ' = [some (.ref a), some (.ref d), z2, some (.str (SX.S T)), some (.ref D), z5, z6, z7, z8, z9] ∧ LI H1 d c D m i T H' ∧ 0 < i ∧ i ≤ 5, ?_, ?_⟩
      · refine ⟨_, rfl, d, c, m, 5, rfl, pen1.upd hD, by decide, by decide, by omega, by omega, fun r H2 r0 r1 dr => ⟨_, _, rfl, rfl, 1 + r, rfl, by omega, by omega, for_range (lo := 0) (n := (1 + r).toNat)
          (fun i σ' H' => ∃ T z2 z5 z6 z7 z8 z9, σ' = [some (.ref a), some (.ref d), z2, some (.str (SX.S T)), some (.ref D), z5, z6, z7, z8, z9] ∧ LI H1 d c D m i T H') ?_ ?_ ?_⟩⟩
        · refine ⟨[], _, _, _, _, _, _, rfl, ⟨[], [], m + 1, fun _ => ⟨rfl, rfl⟩, fun h => absurd h (Nat.lt_irrefl _), rfl, (fun _ h => nomatch h), ?_, List.nodup_nil, Nat.le_refl _, (fun _ h => nomatch h), fun _ => rfl, Nat.le_refl _, dr.pen, by omega, by omega, (Off.of (new_more hD)).trans (Off.dr dr), hD⟩⟩
          rw [dr.off D nDd]
          exact upd_same
        · rintro i σ3 H3 hi ⟨T, z2, z5, z6, z7, z8, z9, rfl, li⟩
          have hi5 : i < 5 := by omega
          obtain ⟨its, p, m3, i0', i1', il, il4, hp, nd, pl, p3, pv', tl, pen3, b0, b1, o3, hD0⟩ := li.ex
          refine ⟨_, rfl, d, c, m3, rfl, pen3, by omega, by omega, fun H4 m4 fs ws t b pw ne fl ht hb nb h1 h2 pen4 o4 => ?_⟩
          have hp4 := o4 _ _ hp nDd
          have jl := joinL_len ws (paired_wd pw)
          have wl : ws.length = fs.length := (Paired.length pw).symm
          refine ⟨t, _, rfl, SqT.of ht, rfl, _, _, rfl, _, _, rfl, _, _, rfl, rfl, ?_⟩
          refine ⟨fun σ' H' => ∃ sgn m5 z2 z5, σ' = [some (.ref a), some (.ref d), z2, some (.str (SX.S T)), some (.ref D), z5, some (.str (SX.S (TL.joinL [42] ws))), some (.ref b), some (.int (run fs ([0, 0, 0], 1)).2), some (.str (SX.S sgn))] ∧
            ((0 < i ∧ (sgn = [43] ∨ sgn = [45])) ∨ (i = 0 ∧ (sgn = [] ∨ ∃ j, j ≤ 2 ∧ sgn = rp j ++ [45]))) ∧ Pen H' d c m5 ∧ m4 ≤ m5 ∧ m5 ≤ m4 + 2 ∧ Off d H4 H', ?_, ?_⟩
          · have te : (!decide (V.str (SX.S T) = V.str "")) = decide (T ≠ []) := by
              have : decide (V.str (SX.S T) = V.str "") = decide (T = []) := by
                rw [decide_eq_decide]
                constructor
                · intro h
                  exact SX.S_inj (b := []) (V.str.inj h)
                · rintro rfl
                  rfl
              rw [this]
              by_cases z : T = [] <;> simp [z]
            refine ⟨_, rfl, rfl, _, rfl, ?_⟩
            rw [te]
            refine ite2 (fun z => ?_) (fun z => ?_)
            · have z := of_decide_eq_true z
              have ip : 0 < i := by
                rcases Nat.eq_zero_or_pos i with e | e
                · exact absurd (i0' e).1 z
                · exact e
              refine ⟨_, rfl, by show 2 ≤ sizeLine; decide, fun l nl => ?_⟩
              refine ⟨d, c, l, m4, _, rfl, pen4.upd nl, upd_same, by show 0 < 2; decide, by show 2 ≤ 1000; decide, by omega, by omega, fun x H5 hx dr5 => ?_⟩
              have o5 : Off d H4 H5 := (Off.of (new_more nl)).trans (Off.dr dr5)
              simp only [List.mem_cons, List.not_mem_nil, or_false] at hx
              obtain rfl | rfl := hx
              · exact ⟨[43], m4 + 1, _, _, rfl, .inl ⟨ip, .inl rfl⟩, dr5.pen, by omega, by omega, o5⟩
              · exact ⟨[45], m4 + 1, _, _, rfl, .inl ⟨ip, .inr rfl⟩, dr5.pen, by omega, by omega, o5⟩
            · have z : T = [] := by
                by_cases e : T = []
                · exact e
                · exact absurd (decide_eq_true e) z
              have ip : i = 0 := by
                rcases Nat.eq_zero_or_pos i with e | e
                · exact e
                · have := (i1' e).2
                  rw [z] at this
                  cases this
              refine ⟨_, rfl, _, rfl, d, c, m4, rfl, pen4, by omega, by omega, fun H5 j hj pen5 o5 => ?_⟩
              refine ⟨SX.S (rp j), SX.S [45], rfl, rfl, by rw [SX.S_len, SX.S_len, rp_len]; exact size_ok (by show j + 1 ≤ 1000; omega), ?_⟩
              rw [SX.S_cat]
              refine ⟨by show 3 ≤ sizeLine; decide, fun l nl => ?_⟩
              refine ⟨d, c, l, m4 + 1, _, rfl, pen5.upd nl, upd_same, by show 0 < 3; decide, by show 3 ≤ 1000; decide, by omega, by omega, fun x H6 hx dr6 => ?_⟩
              have o6 : Off d H4 H6 := o5.trans ((Off.of (new_more nl)).trans (Off.dr dr6))
              simp only [List.mem_cons, List.not_mem_nil, or_false] at hx
              obtain rfl | rfl | rfl := hx
              · exact ⟨[], m4 + 1 + 1, _, _, rfl, .inr ⟨ip, .inl rfl⟩, dr6.pen, by omega, by omega, o6⟩
              · exact ⟨[], m4 + 1 + 1, _, _, rfl, .inr ⟨ip, .inl rfl⟩, dr6.pen, by omega, by omega, o6⟩
              · exact ⟨rp j ++ [45], m4 + 1 + 1, _, _, rfl, .inr ⟨ip, .inr ⟨j, hj, rfl⟩⟩, dr6.pen, by omega, by omega, o6⟩
          · rintro σ6 H6 ⟨sgn, m5, z2', z5', rfl, sc, pen6, b4, b5, o6⟩
            have hp6 := o6 _ _ hp4 nDd
            have hb6 := o6 _ _ hb (by
              obtain ⟨kvs, hk⟩ := show ∃ kvs, H4 d = some (.dK kvs) from let ⟨kvs, _, _, _, _, h1, _⟩ := pen4; ⟨kvs, h1⟩
              exact ne_of hb hk (by intro z; cases z))
            have sl : sgn.length ≤ 3 := by
              obtain ⟨_, rfl | rfl⟩ | ⟨_, rfl | ⟨j, hj, rfl⟩⟩ := sc
              · decide
              · decide
              · decide
              · rw [List.length_append, rp_len]
                show j + 1 ≤ 3
                omega
            refine ⟨_, rfl, _, rfl, SX.S T, SX.S sgn, rfl, rfl, by rw [SX.S_len, SX.S_len]; exact size_ok (by omega), ?_⟩
            rw [SX.S_cat]
            refine ⟨_, rfl, SX.S (T ++ sgn), SX.S (TL.joinL [42] ws), rfl, rfl, by rw [SX.S_len, SX.S_len, List.length_append]; exact size_ok (by omega), ?_⟩
            rw [SX.S_cat]
            have key : H6 b = some (.tup ((kI (run fs ([0, 0, 0], 1)).1).map kV)) := by rw [kI_V]; exact hb6
            -- the sign
            obtain ⟨sg, bn, es, pt, sgv⟩ : ∃ (sg : Int) (bn : Bool), Txt.endswith (SX.S sgn) "-" = bn ∧ PT ((T ++ sgn) ++ TL.joinL [42] ws) (its ++ [(sg, fs)]) ∧ ((bn = true ∧ sg = -1) ∨ (bn = false ∧ sg = 1)) := by
              obtain ⟨e1, e2, e3⟩ := ends_no
              obtain ⟨ip, rfl | rfl⟩ | ⟨ip, rfl | ⟨j, hj, rfl⟩⟩ := sc
              · exact ⟨1, false, e2, pt_more (i1' ip).1 pw ne (.inl ⟨rfl, rfl⟩), .inr ⟨rfl, rfl⟩⟩
              · exact ⟨-1, true, e3, pt_more (i1' ip).1 pw ne (.inr ⟨rfl, rfl⟩), .inl ⟨rfl, rfl⟩⟩
              · obtain ⟨rfl, rfl⟩ := i0' ip
                exact ⟨1, false, e1, pt_plain pw ne, .inr ⟨rfl, rfl⟩⟩
              · obtain ⟨rfl, rfl⟩ := i0' ip
                exact ⟨-1, true, ends_of j hj, pt_minus pw ne j, .inl ⟨rfl, rfl⟩⟩
            have fin : ∀ x : Int, x = sg * (run fs ([0, 0, 0], 1)).2 → LI H1 d c D m (i + 1) ((T ++ sgn) ++ TL.joinL [42] ws) (upd H6 D (.dT (dk (put p (run fs ([0, 0, 0], 1)).1 (val p (run fs ([0, 0, 0], 1)).1 + x))))) := by
              intro x hx
              have k3 : (run fs ([0, 0, 0], 1)).1.length = 3 := run_len fs _
              refine ⟨its ++ [(sg, fs)], _, m5, fun h => absurd h (Nat.succ_ne_zero _), fun _ => ⟨pt, by rw [List.length_append]; have := (join_head pw ne []).2; omega⟩, by rw [List.length_append, il]; rfl, ?_, upd_same, nodup_put nd _ _, Nat.le_trans (len_put _ _ _) (by omega), ?_, ?_, ?_, ?_, by omega, by omega, ?_, hD0⟩
              · intro it hit
                rcases List.mem_append.mp hit with h | h
                · exact il4 it h
                · rw [List.mem_singleton] at h
                  subst h
                  exact fl
              · intro e he
                rcases mem_put he with rfl | he
                · exact k3
                · exact p3 e he
              · intro k
                rw [List.map_append, List.map_cons, List.map_nil, tot_snoc, term_sign, ← pv' k, val_put]
                show (if _ then _ else _) = val p k + (if (run fs ([0, 0, 0], 1)).1 = k then sg * (run fs ([0, 0, 0], 1)).2 else 0)
                rw [← hx]
                by_cases z : (run fs ([0, 0, 0], 1)).1 = k
                · subst z
                  simp
                · simp [z, Ne.symm z]
              · rw [List.length_append, List.length_append]
                omega
              · exact pen6.keep (upd_ne nDd.symm) (upd_ne ncD)
              · intro b' o hb' nb'
                rw [upd_ne (ne_of_none hb' hD0)]
                exact ((o3.trans o4).trans o6) b' o hb' nb'
            refine ⟨_, rfl, D, rfl, .inr ⟨_, .inl hp6⟩, _, rfl, _, DGet.t hp6 key, _, rfl, ⟨_, rfl⟩, _, _, rfl, rfl, _, rfl, ?_⟩
            rw [es]
            obtain ⟨rfl, rfl⟩ | ⟨rfl, rfl⟩ := sgv
            · refine iteT ⟨_, rfl, _, rfl, _, _, valD _ _, rfl, _, rfl, _, rfl, D, _, rfl, DPut.t hp6 key (by rw [dk_len]; exact small1000 (by omega)), ?_⟩
              rw [putK_dk]
              exact ⟨_, _, _, _, _, _, _, rfl, fin _ (by omega)⟩
            · refine iteF ⟨_, rfl, _, _, valD _ _, rfl, _, rfl, _, rfl, D, _, rfl, DPut.t hp6 key (by rw [dk_len]; exact small1000 (by omega)), ?_⟩
              rw [putK_dk]
              exact ⟨_, _, _, _, _, _, _, rfl, fin _ (by omega)⟩
        · rintro σ3 H3 ⟨T, z2, z5, z6, z7, z8, z9, rfl, li⟩
          exact ⟨T, (1 + r).toNat, z2, z5, z6, z7, z8, z9, rfl, li, by omega, by omega⟩
      · rintro σ3 H3 ⟨T, i, z2', z5', z6', z7', z8', z9', rfl, li, ip, i5⟩
        obtain ⟨its, p, m3, _, i1', il, il4, hp, nd, pl, p3, pv', tl, pen3, b0, b1, o3, hD0⟩ := li.ex
        refine ⟨_, rfl, T, its, [], rfl, by omega, pt_end (i1' ip).1, rfl, by omega, fun it hit => Nat.le_trans (il4 it hit) (by decide), fun H5 a5 m5 pob => ?_⟩
        refine ⟨_, rfl, a5, D, p, _, rfl, ⟨m5 _ _ hp, nd, by omega, p3⟩, pob, fun k => (pv' k).symm, fun H6 m6 => ⟨_, rfl, iteF ?_⟩⟩
        refine ⟨_, _, _, _, _, _, _, _, m3, rfl, ?_, by omega, ?_⟩
        · obtain ⟨o, ho⟩ := pen3.at
          obtain ⟨o2, ho2⟩ := pen3.atc
          exact pen3.keep ((m6 _ _ (m5 _ _ ho)).trans ho.symm) ((m6 _ _ (m5 _ _ ho2)).trans ho2.symm)
        · rw [Int.natCast_add]
          omega
    · rintro σ0 H1 _
      exact q H1
end
end K14

namespace K14
open PySem L2 Gd Ply
/-! ### what the top has written -/
structure ErIn (K : PySem.W.Frag) (x : Str) (C : Addr) : Prop where
  aC : PySem.W.nsIn K mainGlobals x = some (some (.ref C))
  kC : PySem.W.keepIn K (.ref C) = true
  ga : PySem.W.findIn K (.ref C) "__getattribute__" = some (some (.builtin "BaseException.__getattribute__"))
  gg : PySem.W.findIn K (.ref C) "__getattr__" = some none
  be : PySem.W.subIn K (.ref C) (.type "BaseException") = some true
  hd : PySem.W.hasDictIn K C = true
structure IniIn (K : PySem.W.Frag) (q : Str) (st : Stmt) (C fI : Addr) (oc kV dc pm cd ct : Value) (od an : Option Addr) (sl : Array (Option Value)) (nm q' : Str) (N : Addr) (bs : List Value) (ce : Addr) (sn : List Str) (sub : List Value) (ab : Bool) (col : Option Bool) (dd : Option Addr) (m0 m1 m2 m3 m5 : Option Value) : Prop where
  xL : K.lookup C = some (excClassObj nm q' C N bs [.ref ce, .type "ValueError", .type "Exception", .type "BaseException", .type "object"] true sn sub ab col dd m0 m1 m2 m3 m5 "ValueError.__new__")
  sa : PySem.W.findIn K (.ref C) "__setattr__" = some (some (.builtin "object.__setattr__"))
  tC : PySem.W.typeIn K (.ref C) = some (.type "type")
  iC : PySem.W.findIn K (.ref C) "__init__" = some (some (.ref fI))
  tI : PySem.W.typeIn K (.ref fI) = some (.type "function")
  lI : K.lookup fI = some ⟨oc, od, .func (PySem.W.fnOf "__init__" q (defArgs st) (defBody st) (defScope st) .none kV dc pm an cd ct), sl⟩
  cI : PySem.W.codeIn K cd q = true
  kI : PySem.W.keepIn K (.ref fI) = true
theorem er_of {K : PySem.W.Frag} {h : Heap} {mg : Str → Option Value} (X : K.In h) (G : h.Ns mainGlobals mg) {x q : Str} {st : Stmt} {fs : List Str} {C fI : Addr} {oc kV dc pm cd ct : Value} {od an : Option Addr} {sl : Array (Option Value)} {nm q' : Str} {N : Addr} {bs : List Value} {ce : Addr} {sn : List Str} {sub : List Value} {ab : Bool} {col : Option Bool} {dd : Option Addr} {m0 m1 m2 m3 m5 : Option Value}
    (E : ErIn K x C) (I : IniIn K q st C fI oc kV dc pm cd ct od an sl nm q' N bs ce sn sub ab col dd m0 m1 m2 m3 m5) (no : ∀ g ∈ fs, PySem.W.findIn K (.ref C) g = some none)
    (b : ∀ (kV doc pm : Value) (an : Option Addr) (cdv ct : Value) (us : List Value), us.length = (("self" : Str) :: fs).length → bindArgs (PySem.W.fnOf "__init__" q (defArgs st) (defBody st) (defScope st) .none kV doc pm an cdv ct) ⟨us, []⟩ = pure ((("self" : Str) :: fs).zip us)) :
    Er K mg x q C fI fs st (PySem.W.fnOf "__init__" q (defArgs st) (defBody st) (defScope st) .none kV dc pm an cd ct) := by
  have F := fun_mk (st := st) I.lI I.cI I.kI
  exact ⟨⟨⟨nm, q', N, bs, _, sn, sub, ab, col, dd, m0, m1, m2, m3, m5, I.xL, by show PySem.HandSPX.refsVE [.type "ValueError", .type "Exception", .type "BaseException", .type "object"] = true; decide +kernel⟩, I.sa, E.be, I.tC, E.kC⟩, I.iC, I.tI, F, F.binds b, no, PySem.W.mg_of X G E.aC⟩
theorem all_mk {l : PySem.W.OpenLaw} {w : World} {K : PySem.W.Frag} {h : Heap} {mg : Str → Option Value} {fa gLaw CR CP CS LP ce : Addr} (X : K.In h) (G : h.Ns mainGlobals mg) (hfa : mg "law" = some (.ref fa))
    {i0 : Addr} {oc0 kV0 dc0 pm0 cd0 ct0 : Value} {od0 an0 : Option Addr} {sl0 : Array (Option Value)} {nm0 q0 : Str} {N0 : Addr} {bs0 : List Value} {sn0 : List Str} {sub0 : List Value} {ab0 : Bool} {col0 : Option Bool} {dd0 : Option Addr} {m00 m10 m20 m30 m50 : Option Value}
    {gf0 : Addr} {oodf0 oanf0 : Option Addr} {oslf0 : Array (Option Value)} {oocf0 okVf0 odcf0 opmf0 ocdf0 octf0 : Value}
    {gf1 : Addr} {oodf1 oanf1 : Option Addr} {oslf1 : Array (Option Value)} {oocf1 okVf1 odcf1 opmf1 ocdf1 octf1 : Value}
    {gf2 : Addr} {oodf2 oanf2 : Option Addr} {oslf2 : Array (Option Value)} {oocf2 okVf2 odcf2 opmf2 ocdf2 octf2 : Value}
    {gf3 : Addr} {oodf3 oanf3 : Option Addr} {oslf3 : Array (Option Value)} {oocf3 okVf3 odcf3 opmf3 ocdf3 octf3 : Value}
    {gf4 : Addr} {oodf4 oanf4 : Option Addr} {oslf4 : Array (Option Value)} {oocf4 okVf4 odcf4 opmf4 ocdf4 octf4 : Value}
    {gf5 : Addr} {oodf5 oanf5 : Option Addr} {oslf5 : Array (Option Value)} {oocf5 okVf5 odcf5 opmf5 ocdf5 octf5 : Value}
    {gf6 : Addr} {oodf6 oanf6 : Option Addr} {oslf6 : Array (Option Value)} {oocf6 okVf6 odcf6 opmf6 ocdf6 octf6 : Value}
    {gf7 : Addr} {oodf7 oanf7 : Option Addr} {oslf7 : Array (Option Value)} {oocf7 okVf7 odcf7 opmf7 ocdf7 octf7 : Value}
    {gf8 : Addr} {oodf8 oanf8 : Option Addr} {oslf8 : Array (Option Value)} {oocf8 okVf8 odcf8 opmf8 ocdf8 octf8 : Value}
    {gf9 : Addr} {oodf9 oanf9 : Option Addr} {oslf9 : Array (Option Value)} {oocf9 okVf9 odcf9 opmf9 ocdf9 octf9 : Value}
    {gf10 : Addr} {oodf10 oanf10 : Option Addr} {oslf10 : Array (Option Value)} {oocf10 okVf10 odcf10 opmf10 ocdf10 octf10 : Value}
    {gf11 : Addr} {oodf11 oanf11 : Option Addr} {oslf11 : Array (Option Value)} {oocf11 okVf11 odcf11 opmf11 ocdf11 octf11 : Value}
    {gf12 : Addr} {oodf12 oanf12 : Option Addr} {oslf12 : Array (Option Value)} {oocf12 okVf12 odcf12 opmf12 ocdf12 octf12 : Value}
    {gf13 : Addr} {oodf13 oanf13 : Option Addr} {oslf13 : Array (Option Value)} {oocf13 okVf13 odcf13 opmf13 ocdf13 octf13 : Value}
    {gf14 : Addr} {oodf14 oanf14 : Option Addr} {oslf14 : Array (Option Value)} {oocf14 okVf14 odcf14 opmf14 ocdf14 octf14 : Value}
    {gf15 : Addr} {oodf15 oanf15 : Option Addr} {oslf15 : Array (Option Value)} {oocf15 okVf15 odcf15 opmf15 ocdf15 octf15 : Value}
    {gf16 : Addr} {oodf16 oanf16 : Option Addr} {oslf16 : Array (Option Value)} {oocf16 okVf16 odcf16 opmf16 ocdf16 octf16 : Value}
    {gf17 : Addr} {oodf17 oanf17 : Option Addr} {oslf17 : Array (Option Value)} {oocf17 okVf17 odcf17 opmf17 ocdf17 octf17 : Value}
    {gm0_0 : Addr} {oodm0_0 oanm0_0 : Option Addr} {oslm0_0 : Array (Option Value)} {oocm0_0 okVm0_0 odcm0_0 opmm0_0 ocdm0_0 octm0_0 : Value}
    {gm1_0 : Addr} {oodm1_0 oanm1_0 : Option Addr} {oslm1_0 : Array (Option Value)} {oocm1_0 okVm1_0 odcm1_0 opmm1_0 ocdm1_0 octm1_0 : Value}
    {gm1_1 : Addr} {oodm1_1 oanm1_1 : Option Addr} {oslm1_1 : Array (Option Value)} {oocm1_1 okVm1_1 odcm1_1 opmm1_1 ocdm1_1 octm1_1 : Value}
    {gm1_2 : Addr} {oodm1_2 oanm1_2 : Option Addr} {oslm1_2 : Array (Option Value)} {oocm1_2 okVm1_2 odcm1_2 opmm1_2 ocdm1_2 octm1_2 : Value}
    {gm1_3 : Addr} {oodm1_3 oanm1_3 : Option Addr} {oslm1_3 : Array (Option Value)} {oocm1_3 okVm1_3 odcm1_3 opmm1_3 ocdm1_3 octm1_3 : Value}
    {gm1_4 : Addr} {oodm1_4 oanm1_4 : Option Addr} {oslm1_4 : Array (Option Value)} {oocm1_4 okVm1_4 odcm1_4 opmm1_4 ocdm1_4 octm1_4 : Value}
    {gm1_5 : Addr} {oodm1_5 oanm1_5 : Option Addr} {oslm1_5 : Array (Option Value)} {oocm1_5 okVm1_5 odcm1_5 opmm1_5 ocdm1_5 octm1_5 : Value}
    {gm1_6 : Addr} {oodm1_6 oanm1_6 : Option Addr} {oslm1_6 : Array (Option Value)} {oocm1_6 okVm1_6 odcm1_6 opmm1_6 ocdm1_6 octm1_6 : Value}
    {gm1_7 : Addr} {oodm1_7 oanm1_7 : Option Addr} {oslm1_7 : Array (Option Value)} {oocm1_7 okVm1_7 odcm1_7 opmm1_7 ocdm1_7 octm1_7 : Value}
    {gm1_8 : Addr} {oodm1_8 oanm1_8 : Option Addr} {oslm1_8 : Array (Option Value)} {oocm1_8 okVm1_8 odcm1_8 opmm1_8 ocdm1_8 octm1_8 : Value}
    {oodF oanF : Option Addr} {oslF : Array (Option Value)} {oocF okVF odcF opmF ocdF octF : Value}
    {TDm1_0 : Addr} {tcm1_0 : Value} {tdm1_0 : Option Addr} {tnm1_0 : Nat} {tsm1_0 : Array (Option Value)}
    {TDm1_7 : Addr} {tcm1_7 : Value} {tdm1_7 : Option Addr} {tnm1_7 : Nat} {tsm1_7 : Array (Option Value)}
    {tg0 : Tok}
    {tg1 : Tok}
    (e0 : ErIn K "BadRow" CR)
    (j0 : IniIn K "BadRow.__init__" sBadRow CR i0 oc0 kV0 dc0 pm0 cd0 ct0 od0 an0 sl0 nm0 q0 N0 bs0 ce sn0 sub0 ab0 col0 dd0 m00 m10 m20 m30 m50)
    (n0_0 : PySem.W.findIn K (.ref CR) "row" = some none)
    (aC0 : PySem.W.nsIn K mainGlobals "Powers" = some (some (.ref CP)))
    (pg0 : PySem.W.plainGet K CP Str.empty = true)
    (hd0 : PySem.W.hasDictIn K CP = true)
    (po0 : PySem.W.plainOver K CP = true)
    (sa0 : PySem.W.findIn K (.ref CP) "__setattr__" = some (some (.builtin "object.__setattr__")))
    (ha0 : PySem.W.findIn K (.ref CP) "__class__" = some (some (.builtin "object.__class__")))
    (hn0 : PySem.W.specialIn K (.builtin "object.__class__") "__get__" = some (some (.builtin "getset_descriptor.__get__")))
    (ht0 : PySem.W.takesIn K (.builtin "object.__class__") = some true)
    (hm0 : PySem.W.mroIn K CP (.type "object") = some true)
    (me0 : PySem.W.kitOne K (.ref CP) (.ref CP) = some true)
    (at0_0 : PySem.W.findIn K (.ref CP) "terms" = some none)
    (at0_1 : PySem.W.findIn K (.ref CP) "reach" = some none)
    (at0_2 : PySem.W.findIn K (.ref CP) "_numbers" = some none)
    (no0_bool : PySem.W.kitOne K (.type "bool") (.ref CP) = some false)
    (no0_NoneType : PySem.W.kitOne K (.type "NoneType") (.ref CP) = some false)
    (no0_str : PySem.W.kitOne K (.type "str") (.ref CP) = some false)
    (no0_list : PySem.W.kitOne K (.type "list") (.ref CP) = some false)
    (no0_tuple : PySem.W.kitOne K (.type "tuple") (.ref CP) = some false)
    (no0_dict : PySem.W.kitOne K (.type "dict") (.ref CP) = some false)
    (ni0 : PySem.W.kitOne K (.ref CP) (.type "int") = some false)
    (mk0 : PySem.W.makesIn K CP = true)
    (kp0 : PySem.W.keepIn K (.ref CP) = true)
    (aC1 : PySem.W.nsIn K mainGlobals "Scanner" = some (some (.ref CS)))
    (pg1 : PySem.W.plainGet K CS Str.empty = true)
    (hd1 : PySem.W.hasDictIn K CS = true)
    (po1 : PySem.W.plainOver K CS = true)
    (sa1 : PySem.W.findIn K (.ref CS) "__setattr__" = some (some (.builtin "object.__setattr__")))
    (at1_0 : PySem.W.findIn K (.ref CS) "text" = some none)
    (at1_1 : PySem.W.findIn K (.ref CS) "place" = some none)
    (at1_2 : PySem.W.findIn K (.ref CS) "known" = some none)
    (mk1 : PySem.W.makesIn K CS = true)
    (kp1 : PySem.W.keepIn K (.ref CS) = true)
    (af0 : PySem.W.nsIn K mainGlobals "is_integer" = some (some (.ref gf0)))
    (lf0 : K.lookup gf0 = some ⟨oocf0, oodf0, .func (PySem.W.fnOf "is_integer" "is_integer" (defArgs sIsI) (defBody sIsI) (defScope sIsI) .none okVf0 odcf0 opmf0 oanf0 ocdf0 octf0), oslf0⟩)
    (cf0 : PySem.W.codeIn K ocdf0 "is_integer" = true)
    (kf0 : PySem.W.keepIn K (.ref gf0) = true)
    (af1 : PySem.W.nsIn K mainGlobals "is_integers" = some (some (.ref gf1)))
    (lf1 : K.lookup gf1 = some ⟨oocf1, oodf1, .func (PySem.W.fnOf "is_integers" "is_integers" (defArgs sIsIs) (defBody sIsIs) (defScope sIsIs) .none okVf1 odcf1 opmf1 oanf1 ocdf1 octf1), oslf1⟩)
    (cf1 : PySem.W.codeIn K ocdf1 "is_integers" = true)
    (kf1 : PySem.W.keepIn K (.ref gf1) = true)
    (af2 : PySem.W.nsIn K mainGlobals "is_row" = some (some (.ref gf2)))
    (lf2 : K.lookup gf2 = some ⟨oocf2, oodf2, .func (PySem.W.fnOf "is_row" "is_row" (defArgs sRow) (defBody sRow) (defScope sRow) .none okVf2 odcf2 opmf2 oanf2 ocdf2 octf2), oslf2⟩)
    (cf2 : PySem.W.codeIn K ocdf2 "is_row" = true)
    (kf2 : PySem.W.keepIn K (.ref gf2) = true)
    (af3 : PySem.W.nsIn K mainGlobals "is_term" = some (some (.ref gf3)))
    (lf3 : K.lookup gf3 = some ⟨oocf3, oodf3, .func (PySem.W.fnOf "is_term" "is_term" (defArgs sTerm) (defBody sTerm) (defScope sTerm) .none okVf3 odcf3 opmf3 oanf3 ocdf3 octf3), oslf3⟩)
    (cf3 : PySem.W.codeIn K ocdf3 "is_term" = true)
    (kf3 : PySem.W.keepIn K (.ref gf3) = true)
    (af4 : PySem.W.nsIn K mainGlobals "power_of" = some (some (.ref gf4)))
    (lf4 : K.lookup gf4 = some ⟨oocf4, oodf4, .func (PySem.W.fnOf "power_of" "power_of" (defArgs sPo) (defBody sPo) (defScope sPo) .none okVf4 odcf4 opmf4 oanf4 ocdf4 octf4), oslf4⟩)
    (cf4 : PySem.W.codeIn K ocdf4 "power_of" = true)
    (kf4 : PySem.W.keepIn K (.ref gf4) = true)
    (af5 : PySem.W.nsIn K mainGlobals "number_with" = some (some (.ref gf5)))
    (lf5 : K.lookup gf5 = some ⟨oocf5, oodf5, .func (PySem.W.fnOf "number_with" "number_with" (defArgs sNw) (defBody sNw) (defScope sNw) .none okVf5 odcf5 opmf5 oanf5 ocdf5 octf5), oslf5⟩)
    (cf5 : PySem.W.codeIn K ocdf5 "number_with" = true)
    (kf5 : PySem.W.keepIn K (.ref gf5) = true)
    (af6 : PySem.W.nsIn K mainGlobals "read_exponent" = some (some (.ref gf6)))
    (lf6 : K.lookup gf6 = some ⟨oocf6, oodf6, .func (PySem.W.fnOf "read_exponent" "read_exponent" (defArgs sRe) (defBody sRe) (defScope sRe) .none okVf6 odcf6 opmf6 oanf6 ocdf6 octf6), oslf6⟩)
    (cf6 : PySem.W.codeIn K ocdf6 "read_exponent" = true)
    (kf6 : PySem.W.keepIn K (.ref gf6) = true)
    (af7 : PySem.W.nsIn K mainGlobals "read_term" = some (some (.ref gf7)))
    (lf7 : K.lookup gf7 = some ⟨oocf7, oodf7, .func (PySem.W.fnOf "read_term" "read_term" (defArgs sRt) (defBody sRt) (defScope sRt) .none okVf7 odcf7 opmf7 oanf7 ocdf7 octf7), oslf7⟩)
    (cf7 : PySem.W.codeIn K ocdf7 "read_term" = true)
    (kf7 : PySem.W.keepIn K (.ref gf7) = true)
    (af8 : PySem.W.nsIn K mainGlobals "read_powers" = some (some (.ref gf8)))
    (lf8 : K.lookup gf8 = some ⟨oocf8, oodf8, .func (PySem.W.fnOf "read_powers" "read_powers" (defArgs sRp) (defBody sRp) (defScope sRp) .none okVf8 odcf8 opmf8 oanf8 ocdf8 octf8), oslf8⟩)
    (cf8 : PySem.W.codeIn K ocdf8 "read_powers" = true)
    (kf8 : PySem.W.keepIn K (.ref gf8) = true)
    (af9 : PySem.W.nsIn K mainGlobals "powers_of" = some (some (.ref gf9)))
    (lf9 : K.lookup gf9 = some ⟨oocf9, oodf9, .func (PySem.W.fnOf "powers_of" "powers_of" (defArgs sPf) (defBody sPf) (defScope sPf) .none okVf9 odcf9 opmf9 oanf9 ocdf9 octf9), oslf9⟩)
    (cf9 : PySem.W.codeIn K ocdf9 "powers_of" = true)
    (kf9 : PySem.W.keepIn K (.ref gf9) = true)
    (af10 : PySem.W.nsIn K mainGlobals "_law_pen" = some (some (.ref gf10)))
    (lf10 : K.lookup gf10 = some ⟨oocf10, oodf10, .func (PySem.W.fnOf "_law_pen" "_law_pen" (defArgs sPen) (defBody sPen) (defScope sPen) .none okVf10 odcf10 opmf10 oanf10 ocdf10 octf10), oslf10⟩)
    (cf10 : PySem.W.codeIn K ocdf10 "_law_pen" = true)
    (kf10 : PySem.W.keepIn K (.ref gf10) = true)
    (af11 : PySem.W.nsIn K mainGlobals "_law_draw" = some (some (.ref gf11)))
    (lf11 : K.lookup gf11 = some ⟨oocf11, oodf11, .func (PySem.W.fnOf "_law_draw" "_law_draw" (defArgs sDraw) (defBody sDraw) (defScope sDraw) .none okVf11 odcf11 opmf11 oanf11 ocdf11 octf11), oslf11⟩)
    (cf11 : PySem.W.codeIn K ocdf11 "_law_draw" = true)
    (kf11 : PySem.W.keepIn K (.ref gf11) = true)
    (af12 : PySem.W.nsIn K mainGlobals "_law_pick" = some (some (.ref gf12)))
    (lf12 : K.lookup gf12 = some ⟨oocf12, oodf12, .func (PySem.W.fnOf "_law_pick" "_law_pick" (defArgs sPick) (defBody sPick) (defScope sPick) .none okVf12 odcf12 opmf12 oanf12 ocdf12 octf12), oslf12⟩)
    (cf12 : PySem.W.codeIn K ocdf12 "_law_pick" = true)
    (kf12 : PySem.W.keepIn K (.ref gf12) = true)
    (af13 : PySem.W.nsIn K mainGlobals "_law_terms" = some (some (.ref gf13)))
    (lf13 : K.lookup gf13 = some ⟨oocf13, oodf13, .func (PySem.W.fnOf "_law_terms" "_law_terms" (defArgs sTerms) (defBody sTerms) (defScope sTerms) .none okVf13 odcf13 opmf13 oanf13 ocdf13 octf13), oslf13⟩)
    (cf13 : PySem.W.codeIn K ocdf13 "_law_terms" = true)
    (kf13 : PySem.W.keepIn K (.ref gf13) = true)
    (af14 : PySem.W.nsIn K mainGlobals "_law_is_sum" = some (some (.ref gf14)))
    (lf14 : K.lookup gf14 = some ⟨oocf14, oodf14, .func (PySem.W.fnOf "_law_is_sum" "_law_is_sum" (defArgs sIsSum) (defBody sIsSum) (defScope sIsSum) .none okVf14 odcf14 opmf14 oanf14 ocdf14 octf14), oslf14⟩)
    (cf14 : PySem.W.codeIn K ocdf14 "_law_is_sum" = true)
    (kf14 : PySem.W.keepIn K (.ref gf14) = true)
    (af15 : PySem.W.nsIn K mainGlobals "_law_gap" = some (some (.ref gf15)))
    (lf15 : K.lookup gf15 = some ⟨oocf15, oodf15, .func (PySem.W.fnOf "_law_gap" "_law_gap" (defArgs sGap) (defBody sGap) (defScope sGap) .none okVf15 odcf15 opmf15 oanf15 ocdf15 octf15), oslf15⟩)
    (cf15 : PySem.W.codeIn K ocdf15 "_law_gap" = true)
    (kf15 : PySem.W.keepIn K (.ref gf15) = true)
    (af16 : PySem.W.nsIn K mainGlobals "_law_exponent_text" = some (some (.ref gf16)))
    (lf16 : K.lookup gf16 = some ⟨oocf16, oodf16, .func (PySem.W.fnOf "_law_exponent_text" "_law_exponent_text" (defArgs sEt) (defBody sEt) (defScope sEt) .none okVf16 odcf16 opmf16 oanf16 ocdf16 octf16), oslf16⟩)
    (cf16 : PySem.W.codeIn K ocdf16 "_law_exponent_text" = true)
    (kf16 : PySem.W.keepIn K (.ref gf16) = true)
    (af17 : PySem.W.nsIn K mainGlobals "_law_factors" = some (some (.ref gf17)))
    (lf17 : K.lookup gf17 = some ⟨oocf17, oodf17, .func (PySem.W.fnOf "_law_factors" "_law_factors" (defArgs sFa) (defBody sFa) (defScope sFa) .none okVf17 odcf17 opmf17 oanf17 ocdf17 octf17), oslf17⟩)
    (cf17 : PySem.W.codeIn K ocdf17 "_law_factors" = true)
    (kf17 : PySem.W.keepIn K (.ref gf17) = true)
    (fcm0_0 : PySem.W.findIn K (.ref CP) "__init__" = some (some (.ref gm0_0)))
    (fnm0_0 : PySem.W.isFn K (.ref gm0_0) = true)
    (lm0_0 : K.lookup gm0_0 = some ⟨oocm0_0, oodm0_0, .func (PySem.W.fnOf "__init__" "Powers.__init__" (defArgs sPw) (defBody sPw) (defScope sPw) .none okVm0_0 odcm0_0 opmm0_0 oanm0_0 ocdm0_0 octm0_0), oslm0_0⟩)
    (cm0_0 : PySem.W.codeIn K ocdm0_0 "Powers.__init__" = true)
    (km0_0 : PySem.W.keepIn K (.ref gm0_0) = true)
    (fcm1_0 : PySem.W.findIn K (.ref CS) "__init__" = some (some (.ref gm1_0)))
    (fnm1_0 : PySem.W.isFn K (.ref gm1_0) = true)
    (lm1_0 : K.lookup gm1_0 = some ⟨oocm1_0, oodm1_0, .func (PySem.W.fnOf "__init__" "Scanner.__init__" (defArgs sIni) (defBody sIni) (defScope sIni) (.ref TDm1_0) okVm1_0 odcm1_0 opmm1_0 oanm1_0 ocdm1_0 octm1_0), oslm1_0⟩)
    (lTm1_0 : K.lookup TDm1_0 = some ⟨tcm1_0, tdm1_0, .seq #[.none] tnm1_0, tsm1_0⟩)
    (cm1_0 : PySem.W.codeIn K ocdm1_0 "Scanner.__init__" = true)
    (km1_0 : PySem.W.keepIn K (.ref gm1_0) = true)
    (fcm1_1 : PySem.W.findIn K (.ref CS) "here" = some (some (.ref gm1_1)))
    (fnm1_1 : PySem.W.isFn K (.ref gm1_1) = true)
    (lm1_1 : K.lookup gm1_1 = some ⟨oocm1_1, oodm1_1, .func (PySem.W.fnOf "here" "Scanner.here" (defArgs sHere) (defBody sHere) (defScope sHere) .none okVm1_1 odcm1_1 opmm1_1 oanm1_1 ocdm1_1 octm1_1), oslm1_1⟩)
    (cm1_1 : PySem.W.codeIn K ocdm1_1 "Scanner.here" = true)
    (km1_1 : PySem.W.keepIn K (.ref gm1_1) = true)
    (fcm1_2 : PySem.W.findIn K (.ref CS) "step_on" = some (some (.ref gm1_2)))
    (fnm1_2 : PySem.W.isFn K (.ref gm1_2) = true)
    (lm1_2 : K.lookup gm1_2 = some ⟨oocm1_2, oodm1_2, .func (PySem.W.fnOf "step_on" "Scanner.step_on" (defArgs sStep) (defBody sStep) (defScope sStep) .none okVm1_2 odcm1_2 opmm1_2 oanm1_2 ocdm1_2 octm1_2), oslm1_2⟩)
    (cm1_2 : PySem.W.codeIn K ocdm1_2 "Scanner.step_on" = true)
    (km1_2 : PySem.W.keepIn K (.ref gm1_2) = true)
    (fcm1_3 : PySem.W.findIn K (.ref CS) "skip" = some (some (.ref gm1_3)))
    (fnm1_3 : PySem.W.isFn K (.ref gm1_3) = true)
    (lm1_3 : K.lookup gm1_3 = some ⟨oocm1_3, oodm1_3, .func (PySem.W.fnOf "skip" "Scanner.skip" (defArgs sSkip) (defBody sSkip) (defScope sSkip) .none okVm1_3 odcm1_3 opmm1_3 oanm1_3 ocdm1_3 octm1_3), oslm1_3⟩)
    (cm1_3 : PySem.W.codeIn K ocdm1_3 "Scanner.skip" = true)
    (km1_3 : PySem.W.keepIn K (.ref gm1_3) = true)
    (fcm1_4 : PySem.W.findIn K (.ref CS) "fail" = some (some (.ref gm1_4)))
    (fnm1_4 : PySem.W.isFn K (.ref gm1_4) = true)
    (lm1_4 : K.lookup gm1_4 = some ⟨oocm1_4, oodm1_4, .func (PySem.W.fnOf "fail" "Scanner.fail" (defArgs sFail) (defBody sFail) (defScope sFail) .none okVm1_4 odcm1_4 opmm1_4 oanm1_4 ocdm1_4 octm1_4), oslm1_4⟩)
    (cm1_4 : PySem.W.codeIn K ocdm1_4 "Scanner.fail" = true)
    (km1_4 : PySem.W.keepIn K (.ref gm1_4) = true)
    (fcm1_5 : PySem.W.findIn K (.ref CS) "at_figure" = some (some (.ref gm1_5)))
    (fnm1_5 : PySem.W.isFn K (.ref gm1_5) = true)
    (lm1_5 : K.lookup gm1_5 = some ⟨oocm1_5, oodm1_5, .func (PySem.W.fnOf "at_figure" "Scanner.at_figure" (defArgs sAtF) (defBody sAtF) (defScope sAtF) .none okVm1_5 odcm1_5 opmm1_5 oanm1_5 ocdm1_5 octm1_5), oslm1_5⟩)
    (cm1_5 : PySem.W.codeIn K ocdm1_5 "Scanner.at_figure" = true)
    (km1_5 : PySem.W.keepIn K (.ref gm1_5) = true)
    (fcm1_6 : PySem.W.findIn K (.ref CS) "took" = some (some (.ref gm1_6)))
    (fnm1_6 : PySem.W.isFn K (.ref gm1_6) = true)
    (lm1_6 : K.lookup gm1_6 = some ⟨oocm1_6, oodm1_6, .func (PySem.W.fnOf "took" "Scanner.took" (defArgs sTook) (defBody sTook) (defScope sTook) .none okVm1_6 odcm1_6 opmm1_6 oanm1_6 ocdm1_6 octm1_6), oslm1_6⟩)
    (cm1_6 : PySem.W.codeIn K ocdm1_6 "Scanner.took" = true)
    (km1_6 : PySem.W.keepIn K (.ref gm1_6) = true)
    (fcm1_7 : PySem.W.findIn K (.ref CS) "figures" = some (some (.ref gm1_7)))
    (fnm1_7 : PySem.W.isFn K (.ref gm1_7) = true)
    (lm1_7 : K.lookup gm1_7 = some ⟨oocm1_7, oodm1_7, .func (PySem.W.fnOf "figures" "Scanner.figures" (defArgs sFig) (defBody sFig) (defScope sFig) (.ref TDm1_7) okVm1_7 odcm1_7 opmm1_7 oanm1_7 ocdm1_7 octm1_7), oslm1_7⟩)
    (lTm1_7 : K.lookup TDm1_7 = some ⟨tcm1_7, tdm1_7, .seq #[.none, .none] tnm1_7, tsm1_7⟩)
    (cm1_7 : PySem.W.codeIn K ocdm1_7 "Scanner.figures" = true)
    (km1_7 : PySem.W.keepIn K (.ref gm1_7) = true)
    (fcm1_8 : PySem.W.findIn K (.ref CS) "end" = some (some (.ref gm1_8)))
    (fnm1_8 : PySem.W.isFn K (.ref gm1_8) = true)
    (lm1_8 : K.lookup gm1_8 = some ⟨oocm1_8, oodm1_8, .func (PySem.W.fnOf "end" "Scanner.end" (defArgs sEnd) (defBody sEnd) (defScope sEnd) .none okVm1_8 odcm1_8 opmm1_8 oanm1_8 ocdm1_8 octm1_8), oslm1_8⟩)
    (cm1_8 : PySem.W.codeIn K ocdm1_8 "Scanner.end" = true)
    (km1_8 : PySem.W.keepIn K (.ref gm1_8) = true)
    (aF : PySem.W.nsIn K mainGlobals "law" = some (some (.ref gLaw)))
    (lF : K.lookup gLaw = some ⟨oocF, oodF, .func (PySem.W.fnOf "law" "law" (defArgs sLaw) (defBody sLaw) (defScope sLaw) .none okVF odcF opmF oanF ocdF octF), oslF⟩)
    (cF : PySem.W.codeIn K ocdF "law" = true)
    (kF : PySem.W.keepIn K (.ref gLaw) = true)
    (gl0 : PySem.W.nsIn K mainGlobals "FIGURES_arithmetic" = some (some (.int 60 tg0)))
    (gl1 : PySem.W.nsIn K mainGlobals "FIGURES_scanning" = some (some (.str "0123456789" tg1)))
    (ac0 : PySem.W.nsIn K mainGlobals "LETTERS_powers" = some (some (.ref LP)))
    (kc0 : tupS K (.ref LP) = some (["x", "y", "z"] : List Str))
    (z_int : PySem.W.nsIn K mainGlobals "int" = some none)
    (z_bool : PySem.W.nsIn K mainGlobals "bool" = some none)
    (z_tuple : PySem.W.nsIn K mainGlobals "tuple" = some none)
    (z_len : PySem.W.nsIn K mainGlobals "len" = some none)
    (z_list : PySem.W.nsIn K mainGlobals "list" = some none)
    (z_range : PySem.W.nsIn K mainGlobals "range" = some none)
    (z_isinstance : PySem.W.nsIn K mainGlobals "isinstance" = some none)
    (z_repr : PySem.W.nsIn K mainGlobals "repr" = some none)
    (z_all : PySem.W.nsIn K mainGlobals "all" = some none)
    (z_divmod : PySem.W.nsIn K mainGlobals "divmod" = some none)
    (z_reversed : PySem.W.nsIn K mainGlobals "reversed" = some none)
    (z_sorted : PySem.W.nsIn K mainGlobals "sorted" = some none)
    (z_max : PySem.W.nsIn K mainGlobals "max" = some none)
    (z_abs : PySem.W.nsIn K mainGlobals "abs" = some none)
    (z_dict : PySem.W.nsIn K mainGlobals "dict" = some none)
    (z_str : PySem.W.nsIn K mainGlobals "str" = some none)
    : ∃ fd : FuncData, (∀ (s : Shared) (u : Value), BindsTo s fd ⟨[u], []⟩ [("_law_script", u)]) ∧
      ∀ base : Heap, K.In base → base.Ns mainGlobals mg → FnG l.prog w K mg base CX0 10 fa fd ["_law_script"] (spLaw K) := by
  have e := hfa.symm.trans (PySem.W.mg_of X G aF)
  cases e
  have FL := fun_mk (st := sLaw) lF cF kF
  refine ⟨PySem.W.fnOf "law" "law" (defArgs sLaw) (defBody sLaw) (defScope sLaw) .none okVF odcF opmF oanF ocdF octF, fun s v => .of_eq rfl, fun base _ _ => ?_⟩
  have Ff0 := fun_mk (st := sIsI) lf0 cf0 kf0
  have E_is_integer : Cl K mg "is_integer" sIsI ["value"] gf0 _ := ⟨Ff0, Ff0.binds (ps := ["value"]) (fun _ _ _ _ _ _ us hl => match us, hl with | [_], _ => rfl), PySem.W.mg_of X G af0⟩
  have Ff1 := fun_mk (st := sIsIs) lf1 cf1 kf1
  have E_is_integers : Cl K mg "is_integers" sIsIs ["value"] gf1 _ := ⟨Ff1, Ff1.binds (ps := ["value"]) (fun _ _ _ _ _ _ us hl => match us, hl with | [_], _ => rfl), PySem.W.mg_of X G af1⟩
  have Ff2 := fun_mk (st := sRow) lf2 cf2 kf2
  have E_is_row : Cl K mg "is_row" sRow ["value", "width"] gf2 _ := ⟨Ff2, Ff2.binds (ps := ["value", "width"]) (fun _ _ _ _ _ _ us hl => match us, hl with | [_, _], _ => rfl), PySem.W.mg_of X G af2⟩
  have Ff3 := fun_mk (st := sTerm) lf3 cf3 kf3
  have E_is_term : Cl K mg "is_term" sTerm ["item"] gf3 _ := ⟨Ff3, Ff3.binds (ps := ["item"]) (fun _ _ _ _ _ _ us hl => match us, hl with | [_], _ => rfl), PySem.W.mg_of X G af3⟩
  have Ff4 := fun_mk (st := sPo) lf4 cf4 kf4
  have E_power_of : Cl K mg "power_of" sPo ["base", "exponent"] gf4 _ := ⟨Ff4, Ff4.binds (ps := ["base", "exponent"]) (fun _ _ _ _ _ _ us hl => match us, hl with | [_, _], _ => rfl), PySem.W.mg_of X G af4⟩
  have Ff5 := fun_mk (st := sNw) lf5 cf5 kf5
  have E_number_with : Cl K mg "number_with" sNw ["figures"] gf5 _ := ⟨Ff5, Ff5.binds (ps := ["figures"]) (fun _ _ _ _ _ _ us hl => match us, hl with | [_], _ => rfl), PySem.W.mg_of X G af5⟩
  have Ff6 := fun_mk (st := sRe) lf6 cf6 kf6
  have E_read_exponent : Cl K mg "read_exponent" sRe ["scanner"] gf6 _ := ⟨Ff6, Ff6.binds (ps := ["scanner"]) (fun _ _ _ _ _ _ us hl => match us, hl with | [_], _ => rfl), PySem.W.mg_of X G af6⟩
  have Ff7 := fun_mk (st := sRt) lf7 cf7 kf7
  have E_read_term : Cl K mg "read_term" sRt ["scanner", "number"] gf7 _ := ⟨Ff7, Ff7.binds (ps := ["scanner", "number"]) (fun _ _ _ _ _ _ us hl => match us, hl with | [_, _], _ => rfl), PySem.W.mg_of X G af7⟩
  have Ff8 := fun_mk (st := sRp) lf8 cf8 kf8
  have E_read_powers : Cl K mg "read_powers" sRp ["scanner"] gf8 _ := ⟨Ff8, Ff8.binds (ps := ["scanner"]) (fun _ _ _ _ _ _ us hl => match us, hl with | [_], _ => rfl), PySem.W.mg_of X G af8⟩
  have Ff9 := fun_mk (st := sPf) lf9 cf9 kf9
  have E_powers_of : Cl K mg "powers_of" sPf ["text"] gf9 _ := ⟨Ff9, Ff9.binds (ps := ["text"]) (fun _ _ _ _ _ _ us hl => match us, hl with | [_], _ => rfl), PySem.W.mg_of X G af9⟩
  have Ff10 := fun_mk (st := sPen) lf10 cf10 kf10
  have E__law_pen : Cl K mg "_law_pen" sPen ["_law_script"] gf10 _ := ⟨Ff10, Ff10.binds (ps := ["_law_script"]) (fun _ _ _ _ _ _ us hl => match us, hl with | [_], _ => rfl), PySem.W.mg_of X G af10⟩
  have Ff11 := fun_mk (st := sDraw) lf11 cf11 kf11
  have E__law_draw : Cl K mg "_law_draw" sDraw ["_law_pen_here", "_law_many"] gf11 _ := ⟨Ff11, Ff11.binds (ps := ["_law_pen_here", "_law_many"]) (fun _ _ _ _ _ _ us hl => match us, hl with | [_, _], _ => rfl), PySem.W.mg_of X G af11⟩
  have Ff12 := fun_mk (st := sPick) lf12 cf12 kf12
  have E__law_pick : Cl K mg "_law_pick" sPick ["_law_pen_here", "_law_some"] gf12 _ := ⟨Ff12, Ff12.binds (ps := ["_law_pen_here", "_law_some"]) (fun _ _ _ _ _ _ us hl => match us, hl with | [_, _], _ => rfl), PySem.W.mg_of X G af12⟩
  have Ff13 := fun_mk (st := sTerms) lf13 cf13 kf13
  have E__law_terms : Cl K mg "_law_terms" sTerms ["_law_poly"] gf13 _ := ⟨Ff13, Ff13.binds (ps := ["_law_poly"]) (fun _ _ _ _ _ _ us hl => match us, hl with | [_], _ => rfl), PySem.W.mg_of X G af13⟩
  have Ff14 := fun_mk (st := sIsSum) lf14 cf14 kf14
  have E__law_is_sum : Cl K mg "_law_is_sum" sIsSum ["_law_told", "_law_poly"] gf14 _ := ⟨Ff14, Ff14.binds (ps := ["_law_told", "_law_poly"]) (fun _ _ _ _ _ _ us hl => match us, hl with | [_, _], _ => rfl), PySem.W.mg_of X G af14⟩
  have Ff15 := fun_mk (st := sGap) lf15 cf15 kf15
  have E__law_gap : Cl K mg "_law_gap" sGap ["_law_pen_here"] gf15 _ := ⟨Ff15, Ff15.binds (ps := ["_law_pen_here"]) (fun _ _ _ _ _ _ us hl => match us, hl with | [_], _ => rfl), PySem.W.mg_of X G af15⟩
  have Ff16 := fun_mk (st := sEt) lf16 cf16 kf16
  have E__law_exponent_text : Cl K mg "_law_exponent_text" sEt ["_law_pen_here", "_law_exponent"] gf16 _ := ⟨Ff16, Ff16.binds (ps := ["_law_pen_here", "_law_exponent"]) (fun _ _ _ _ _ _ us hl => match us, hl with | [_, _], _ => rfl), PySem.W.mg_of X G af16⟩
  have Ff17 := fun_mk (st := sFa) lf17 cf17 kf17
  have E__law_factors : Cl K mg "_law_factors" sFa ["_law_pen_here"] gf17 _ := ⟨Ff17, Ff17.binds (ps := ["_law_pen_here"]) (fun _ _ _ _ _ _ us hl => match us, hl with | [_], _ => rfl), PySem.W.mg_of X G af17⟩
  have Fm0_0 := fun_mk (st := sPw) lm0_0 cm0_0 km0_0
  have B_Powers___init__ := Fm0_0.binds (ps := ["self", "terms"]) (fun _ _ _ _ _ _ us hl => match us, hl with | [_, _], _ => rfl)
  have Fm1_0 := funE_mk (st := sIni) (dvs := [.non]) lm1_0 cm1_0 km1_0 (.inr ⟨nofun, TDm1_0, _, [.none], _, rfl, lTm1_0, rfl, (.cons (show RelV V.non Value.none from rfl) .nil)⟩)
  have B_Scanner___init__ := Fm1_0.binds1 (ps := ["self", "text", "known"]) 2 0 nofun rfl rfl (fun _ _ _ _ _ _ _ us its hl hi => match us, its, hl, hi with | [_, _], [_], _, _ => ⟨_, rfl, rfl⟩)
  have Fm1_1 := fun_mk (st := sHere) lm1_1 cm1_1 km1_1
  have B_Scanner_here := Fm1_1.binds (ps := ["self"]) (fun _ _ _ _ _ _ us hl => match us, hl with | [_], _ => rfl)
  have Fm1_2 := fun_mk (st := sStep) lm1_2 cm1_2 km1_2
  have B_Scanner_step_on := Fm1_2.binds (ps := ["self"]) (fun _ _ _ _ _ _ us hl => match us, hl with | [_], _ => rfl)
  have Fm1_3 := fun_mk (st := sSkip) lm1_3 cm1_3 km1_3
  have B_Scanner_skip := Fm1_3.binds (ps := ["self"]) (fun _ _ _ _ _ _ us hl => match us, hl with | [_], _ => rfl)
  have Fm1_4 := fun_mk (st := sFail) lm1_4 cm1_4 km1_4
  have B_Scanner_fail := Fm1_4.binds (ps := ["self"]) (fun _ _ _ _ _ _ us hl => match us, hl with | [_], _ => rfl)
  have Fm1_5 := fun_mk (st := sAtF) lm1_5 cm1_5 km1_5
  have B_Scanner_at_figure := Fm1_5.binds (ps := ["self"]) (fun _ _ _ _ _ _ us hl => match us, hl with | [_], _ => rfl)
  have Fm1_6 := fun_mk (st := sTook) lm1_6 cm1_6 km1_6
  have B_Scanner_took := Fm1_6.binds (ps := ["self", "sign"]) (fun _ _ _ _ _ _ us hl => match us, hl with | [_, _], _ => rfl)
  have Fm1_7 := funE_mk (st := sFig) (dvs := [.non, .non]) lm1_7 cm1_7 km1_7 (.inr ⟨nofun, TDm1_7, _, [.none, .none], _, rfl, lTm1_7, rfl, (.cons (show RelV V.non Value.none from rfl) (.cons (show RelV V.non Value.none from rfl) .nil))⟩)
  have B_Scanner_figures := Fm1_7.binds1 (ps := ["self", "most", "greatest"]) 2 1 nofun rfl rfl (fun _ _ _ _ _ _ _ us its hl hi => match us, its, hl, hi with | [_, _], [_, _], _, _ => ⟨_, rfl, rfl⟩)
  have Fm1_8 := fun_mk (st := sEnd) lm1_8 cm1_8 km1_8
  have B_Scanner_end := Fm1_8.binds (ps := ["self"]) (fun _ _ _ _ _ _ us hl => match us, hl with | [_], _ => rfl)
  have L_Powers : Cls K CP := ⟨pg0, hd0, po0, sa0⟩
  have GC_Powers := PySem.W.mg_of X G aC0
  have C_Powers : C8.InsC K CP := ⟨L_Powers, ha0, hn0, ht0, hm0, me0⟩
  have M_Powers_init : Meth K CP "__init__" gm0_0 := ⟨fcm0_0, fnm0_0, km0_0⟩
  have K_Powers : Mk K CP gm0_0 := ⟨mk0, fcm0_0, fnm0_0, kp0⟩
  have L_Scanner : Cls K CS := ⟨pg1, hd1, po1, sa1⟩
  have GC_Scanner := PySem.W.mg_of X G aC1
  have M_Scanner_init : Meth K CS "__init__" gm1_0 := ⟨fcm1_0, fnm1_0, km1_0⟩
  have K_Scanner : Mk K CS gm1_0 := ⟨mk1, fcm1_0, fnm1_0, kp1⟩
  have M_Scanner_here : Meth K CS "here" gm1_1 := ⟨fcm1_1, fnm1_1, km1_1⟩
  have M_Scanner_step_on : Meth K CS "step_on" gm1_2 := ⟨fcm1_2, fnm1_2, km1_2⟩
  have M_Scanner_skip : Meth K CS "skip" gm1_3 := ⟨fcm1_3, fnm1_3, km1_3⟩
  have M_Scanner_fail : Meth K CS "fail" gm1_4 := ⟨fcm1_4, fnm1_4, km1_4⟩
  have M_Scanner_at_figure : Meth K CS "at_figure" gm1_5 := ⟨fcm1_5, fnm1_5, km1_5⟩
  have M_Scanner_took : Meth K CS "took" gm1_6 := ⟨fcm1_6, fnm1_6, km1_6⟩
  have M_Scanner_figures : Meth K CS "figures" gm1_7 := ⟨fcm1_7, fnm1_7, km1_7⟩
  have M_Scanner_end : Meth K CS "end" gm1_8 := ⟨fcm1_8, fnm1_8, km1_8⟩
  have R_BadRow := er_of (x := "BadRow") (fs := ["row"]) X G e0 j0 (fun g hg => by
    rcases List.mem_cons.mp hg with rfl | hg
    · exact n0_0
    exact (List.not_mem_nil hg).elim) (fun _ _ _ _ _ _ us hl => match us, hl with | [_, _], _ => rfl)
  have G_FIGURES_arithmetic := PySem.W.mg_of X G gl0
  have G_FIGURES_scanning := PySem.W.mg_of X G gl1
  have A_LETTERS_powers := PySem.W.mg_of X G ac0
  have Z_int := PySem.W.mg_none_of X G z_int
  have Z_bool := PySem.W.mg_none_of X G z_bool
  have Z_tuple := PySem.W.mg_none_of X G z_tuple
  have Z_len := PySem.W.mg_none_of X G z_len
  have Z_list := PySem.W.mg_none_of X G z_list
  have Z_range := PySem.W.mg_none_of X G z_range
  have Z_isinstance := PySem.W.mg_none_of X G z_isinstance
  have Z_repr := PySem.W.mg_none_of X G z_repr
  have Z_all := PySem.W.mg_none_of X G z_all
  have Z_divmod := PySem.W.mg_none_of X G z_divmod
  have Z_reversed := PySem.W.mg_none_of X G z_reversed
  have Z_sorted := PySem.W.mg_none_of X G z_sorted
  have Z_max := PySem.W.mg_none_of X G z_max
  have Z_abs := PySem.W.mg_none_of X G z_abs
  have Z_dict := PySem.W.mg_none_of X G z_dict
  have Z_str := PySem.W.mg_none_of X G z_str
  have BB : Blt mg := ⟨Z_int, Z_bool, Z_tuple, Z_len, Z_list, Z_range, Z_isinstance, Z_repr, Z_all, Z_divmod, Z_reversed⟩
  have B2 : Blt2 mg := ⟨Z_sorted, Z_max, Z_abs, Z_dict⟩
  have WW : PwC K mg CP := ⟨C_Powers, at0_0, at0_1, at0_2, GC_Powers, ni0, fun n hn => by
    unfold offInt at hn
    obtain rfl | hn := List.mem_cons.mp hn
    · exact no0_bool
    obtain rfl | hn := List.mem_cons.mp hn
    · exact no0_NoneType
    obtain rfl | hn := List.mem_cons.mp hn
    · exact no0_str
    obtain rfl | hn := List.mem_cons.mp hn
    · exact no0_list
    obtain rfl | hn := List.mem_cons.mp hn
    · exact no0_tuple
    obtain rfl | hn := List.mem_cons.mp hn
    · exact no0_dict
    exact (List.not_mem_nil hn).elim⟩
  have ZZ : ScC K CS := ⟨L_Scanner, at1_0, at1_1, at1_2⟩
  have tHere : Mt K CS "here" "Scanner.here" sHere ["self"] gm1_1 _ := ⟨Fm1_1, B_Scanner_here, M_Scanner_here⟩
  have tStep : Mt K CS "step_on" "Scanner.step_on" sStep ["self"] gm1_2 _ := ⟨Fm1_2, B_Scanner_step_on, M_Scanner_step_on⟩
  have tSkip : Mt K CS "skip" "Scanner.skip" sSkip ["self"] gm1_3 _ := ⟨Fm1_3, B_Scanner_skip, M_Scanner_skip⟩
  have tFail : Mt K CS "fail" "Scanner.fail" sFail ["self"] gm1_4 _ := ⟨Fm1_4, B_Scanner_fail, M_Scanner_fail⟩
  have tAtF : Mt K CS "at_figure" "Scanner.at_figure" sAtF ["self"] gm1_5 _ := ⟨Fm1_5, B_Scanner_at_figure, M_Scanner_at_figure⟩
  have tTook : Mt K CS "took" "Scanner.took" sTook ["self", "sign"] gm1_6 _ := ⟨Fm1_6, B_Scanner_took, M_Scanner_took⟩
  have tFig : MtD K CS "figures" "Scanner.figures" sFig ["self", "most", "greatest"] gm1_7 _ := ⟨Fm1_7, B_Scanner_figures, M_Scanner_figures⟩
  have tEnd : Mt K CS "end" "Scanner.end" sEnd ["self"] gm1_8 _ := ⟨Fm1_8, B_Scanner_end, M_Scanner_end⟩
  have GT := ok_took (P := l.prog) (w := w) (mg := mg) (base := base) tTook.fn ZZ tHere tStep tSkip
  have GFg := ok_fig (P := l.prog) (w := w) (mg := mg) (base := base) tFig.fn ZZ tHere tStep tSkip tFail tAtF G_FIGURES_scanning
  have GNw := ok_nw (P := l.prog) (w := w) (mg := mg) (base := base) E_number_with.fn BB E_power_of G_FIGURES_arithmetic
  have GRe := ok_re (P := l.prog) (w := w) (mg := mg) (base := base) E_read_exponent.fn BB ZZ E_number_with E_power_of G_FIGURES_arithmetic tTook tFig GT GFg
  have GRt := ok_rt (P := l.prog) (w := w) (mg := mg) (base := base) E_read_term.fn BB ZZ A_LETTERS_powers kc0 tHere tStep tSkip tTook tFig E_number_with E_read_exponent (ok_here tHere.fn ZZ) (ok_step tStep.fn ZZ) (ok_skip tSkip.fn ZZ tHere tStep) GT GFg GNw GRe
  have GRp := ok_rp (P := l.prog) (w := w) (mg := mg) (base := base) E_read_powers.fn BB B2 ZZ WW K_Powers Fm0_0 B_Powers___init__ E_is_integer E_is_integers E_is_row E_is_term R_BadRow tTook GT E_read_term GRt
  have GPf := ok_pf (P := l.prog) (w := w) (mg := mg) (base := base) E_powers_of.fn ZZ K_Scanner GC_Scanner Fm1_0 B_Scanner___init__ E_read_powers GRp tEnd (ok_end tEnd.fn ZZ tHere tStep tSkip tFail)
  have GGp := ok_gap (P := l.prog) (w := w) (mg := mg) (base := base) E__law_gap.fn BB E__law_draw E__law_pick
  have GEt := ok_et (P := l.prog) (w := w) (mg := mg) (base := base) E__law_exponent_text.fn BB B2 Z_str E__law_gap GGp
  have GFa := ok_fa (P := l.prog) (w := w) (mg := mg) (base := base) E__law_factors.fn BB Z_str E__law_draw E__law_pick E__law_gap GGp E__law_exponent_text GEt
  have GIs := ok_issum (P := l.prog) (w := w) (mg := mg) (base := base) E__law_is_sum.fn BB B2 WW E__law_terms
  exact ok_law FL BB E__law_pen E__law_draw E__law_pick E__law_gap GGp E__law_factors GFa E__law_is_sum GIs E_powers_of GPf
theorem walk {l : PySem.W.OpenLaw} {q : Program} {loose : List Str} {XP : (Str → Option Value) → Heap → Prop} {YP : World → Heap → Prop} {d : DefRec} {K : Params → PySem.W.Frag} (hn : l.most = some 63) (hdf : d.params.defaults = [])
    (hY : ∀ (w : World) (h : Heap), YP w h → (K w.params).In h)
    (F : ∀ (w : World) (mg : Str → Option Value) (fa : Addr) (h : Heap), (K w.params).In h → h.Ns mainGlobals mg → mg d.name = some (.ref fa) →
      ∃ fd : FuncData, (∀ (s : Shared) (u : Value), BindsTo s fd ⟨[u], []⟩ [("_law_script", u)]) ∧ ∀ base : Heap, (K w.params).In base → base.Ns mainGlobals mg → FnG l.prog w (K w.params) mg base CX0 10 fa fd ["_law_script"] (spLaw (K w.params))) :
    PySem.W.WalkO q loose XP YP l.row.toRowW d [] (fun f vs => PySem.call f vs) :=
  walkG (n := 63) (k := 10) (x := "_law_script") (sp := fun w => spLaw (K w.params)) hn (by decide) hdf ⟨rfl, by decide, by decide⟩ hY F (fun _ _ a ns _ _ hS => ⟨a, ns, rfl, hS, fun _ => rfl⟩)
end K14

open PySem PySem.W PyProof.Rows
set_option maxRecDepth 100000 in
set_option maxHeartbeats 0 in
theorem PySem.Challenge.cw_restcounts_k14_texts_of_sums_read_holds : PySem.Challenge.rw_restcounts_k14_texts_of_sums_read.Holds := by
  w_on; o_law; k_head; (case hw => w_witness2)
  k_fill
  refine K14.walk (l := PySem.Challenge.rw_restcounts_k14_texts_of_sums_read) rfl rfl (fun w h Y => PySem.W.kIn_of Y) ?F
  case F =>
    intro w mg fa h KX G hmg
    refine' K14.all_mk KX G hmg  ?e0 ?j0 ?n0_0 ?aC0 ?pg0 ?hd0 ?po0 ?sa0 ?ha0 ?hn0 ?ht0 ?hm0 ?me0 ?at0_0 ?at0_1 ?at0_2 ?no0_bool ?no0_NoneType ?no0_str ?no0_list ?no0_tuple ?no0_dict ?ni0 ?mk0 ?kp0 ?aC1 ?pg1 ?hd1 ?po1 ?sa1 ?at1_0 ?at1_1 ?at1_2 ?mk1 ?kp1 ?af0 ?lf0 ?cf0 ?kf0 ?af1 ?lf1 ?cf1 ?kf1 ?af2 ?lf2 ?cf2 ?kf2 ?af3 ?lf3 ?cf3 ?kf3 ?af4 ?lf4 ?cf4 ?kf4 ?af5 ?lf5 ?cf5 ?kf5 ?af6 ?lf6 ?cf6 ?kf6 ?af7 ?lf7 ?cf7 ?kf7 ?af8 ?lf8 ?cf8 ?kf8 ?af9 ?lf9 ?cf9 ?kf9 ?af10 ?lf10 ?cf10 ?kf10 ?af11 ?lf11 ?cf11 ?kf11 ?af12 ?lf12 ?cf12 ?kf12 ?af13 ?lf13 ?cf13 ?kf13 ?af14 ?lf14 ?cf14 ?kf14 ?af15 ?lf15 ?cf15 ?kf15 ?af16 ?lf16 ?cf16 ?kf16 ?af17 ?lf17 ?cf17 ?kf17 ?fcm0_0 ?fnm0_0 ?lm0_0 ?cm0_0 ?km0_0 ?fcm1_0 ?fnm1_0 ?lm1_0 ?lTm1_0 ?cm1_0 ?km1_0 ?fcm1_1 ?fnm1_1 ?lm1_1 ?cm1_1 ?km1_1 ?fcm1_2 ?fnm1_2 ?lm1_2 ?cm1_2 ?km1_2 ?fcm1_3 ?fnm1_3 ?lm1_3 ?cm1_3 ?km1_3 ?fcm1_4 ?fnm1_4 ?lm1_4 ?cm1_4 ?km1_4 ?fcm1_5 ?fnm1_5 ?lm1_5 ?cm1_5 ?km1_5 ?fcm1_6 ?fnm1_6 ?lm1_6 ?cm1_6 ?km1_6 ?fcm1_7 ?fnm1_7 ?lm1_7 ?lTm1_7 ?cm1_7 ?km1_7 ?fcm1_8 ?fnm1_8 ?lm1_8 ?cm1_8 ?km1_8 ?aF ?lF ?cF ?kF ?gl0 ?gl1 ?ac0 ?kc0 ?z_int ?z_bool ?z_tuple ?z_len ?z_list ?z_range ?z_isinstance ?z_repr ?z_all ?z_divmod ?z_reversed ?z_sorted ?z_max ?z_abs ?z_dict ?z_str
    (case e0 => (refine' K14.ErIn.mk ?_ ?_ ?_ ?_ ?_ ?_ <;> try k_is))
    (case j0 => (refine' K14.IniIn.mk ?_ ?_ ?_ ?_ ?_ ?_ ?_ ?_ <;> try k_is))
    (case n0_0 => k_is)
    (case aC0 => k_is)
    (case pg0 => k_is)
    (case hd0 => k_is)
    (case po0 => k_is)
    (case sa0 => k_is)
    (case ha0 => k_is)
    (case hn0 => k_is)
    (case ht0 => k_is)
    (case hm0 => k_is)
    (case me0 => (first | kernel_rfl | k_is | kit_is | decide +kernel))
    (case at0_0 => k_is)
    (case at0_1 => k_is)
    (case at0_2 => k_is)
    (case no0_bool => (first | kernel_rfl | k_is | kit_is | decide +kernel))
    (case no0_NoneType => (first | kernel_rfl | k_is | kit_is | decide +kernel))
    (case no0_str => (first | kernel_rfl | k_is | kit_is | decide +kernel))
    (case no0_list => (first | kernel_rfl | k_is | kit_is | decide +kernel))
    (case no0_tuple => (first | kernel_rfl | k_is | kit_is | decide +kernel))
    (case no0_dict => (first | kernel_rfl | k_is | kit_is | decide +kernel))
    (case ni0 => (first | kernel_rfl | k_is | kit_is | decide +kernel))
    (case mk0 => k_is)
    (case kp0 => k_is)
    (case aC1 => k_is)
    (case pg1 => k_is)
    (case hd1 => k_is)
    (case po1 => k_is)
    (case sa1 => k_is)
    (case at1_0 => k_is)
    (case at1_1 => k_is)
    (case at1_2 => k_is)
    (case mk1 => k_is)
    (case kp1 => k_is)
    (case af0 => k_is)
    (case lf0 => k_is)
    (case cf0 => k_is)
    (case kf0 => k_is)
    (case af1 => k_is)
    (case lf1 => k_is)
    (case cf1 => k_is)
    (case kf1 => k_is)
    (case af2 => k_is)
    (case lf2 => k_is)
    (case cf2 => k_is)
    (case kf2 => k_is)
    (case af3 => k_is)
    (case lf3 => k_is)
    (case cf3 => k_is)
    (case kf3 => k_is)
    (case af4 => k_is)
    (case lf4 => k_is)
    (case cf4 => k_is)
    (case kf4 => k_is)
    (case af5 => k_is)
    (case lf5 => k_is)
    (case cf5 => k_is)
    (case kf5 => k_is)
    (case af6 => k_is)
    (case lf6 => k_is)
    (case cf6 => k_is)
    (case kf6 => k_is)
    (case af7 => k_is)
    (case lf7 => k_is)
    (case cf7 => k_is)
    (case kf7 => k_is)
    (case af8 => k_is)
    (case lf8 => k_is)
    (case cf8 => k_is)
    (case kf8 => k_is)
    (case af9 => k_is)
    (case lf9 => k_is)
    (case cf9 => k_is)
    (case kf9 => k_is)
    (case af10 => k_is)
    (case lf10 => k_is)
    (case cf10 => k_is)
    (case kf10 => k_is)
    (case af11 => k_is)
    (case lf11 => k_is)
    (case cf11 => k_is)
    (case kf11 => k_is)
    (case af12 => k_is)
    (case lf12 => k_is)
    (case cf12 => k_is)
    (case kf12 => k_is)
    (case af13 => k_is)
    (case lf13 => k_is)
    (case cf13 => k_is)
    (case kf13 => k_is)
    (case af14 => k_is)
    (case lf14 => k_is)
    (case cf14 => k_is)
    (case kf14 => k_is)
    (case af15 => k_is)
    (case lf15 => k_is)
    (case cf15 => k_is)
    (case kf15 => k_is)
    (case af16 => k_is)
    (case lf16 => k_is)
    (case cf16 => k_is)
    (case kf16 => k_is)
    (case af17 => k_is)
    (case lf17 => k_is)
    (case cf17 => k_is)
    (case kf17 => k_is)
    (case fcm0_0 => k_is)
    (case fnm0_0 => k_is)
    (case lm0_0 => k_is)
    (case cm0_0 => k_is)
    (case km0_0 => k_is)
    (case fcm1_0 => k_is)
    (case fnm1_0 => k_is)
    (case lm1_0 => k_is)
    (case lTm1_0 => k_is)
    (case cm1_0 => k_is)
    (case km1_0 => k_is)
    (case fcm1_1 => k_is)
    (case fnm1_1 => k_is)
    (case lm1_1 => k_is)
    (case cm1_1 => k_is)
    (case km1_1 => k_is)
    (case fcm1_2 => k_is)
    (case fnm1_2 => k_is)
    (case lm1_2 => k_is)
    (case cm1_2 => k_is)
    (case km1_2 => k_is)
    (case fcm1_3 => k_is)
    (case fnm1_3 => k_is)
    (case lm1_3 => k_is)
    (case cm1_3 => k_is)
    (case km1_3 => k_is)
    (case fcm1_4 => k_is)
    (case fnm1_4 => k_is)
    (case lm1_4 => k_is)
    (case cm1_4 => k_is)
    (case km1_4 => k_is)
    (case fcm1_5 => k_is)
    (case fnm1_5 => k_is)
    (case lm1_5 => k_is)
    (case cm1_5 => k_is)
    (case km1_5 => k_is)
    (case fcm1_6 => k_is)
    (case fnm1_6 => k_is)
    (case lm1_6 => k_is)
    (case cm1_6 => k_is)
    (case km1_6 => k_is)
    (case fcm1_7 => k_is)
    (case fnm1_7 => k_is)
    (case lm1_7 => k_is)
    (case lTm1_7 => k_is)
    (case cm1_7 => k_is)
    (case km1_7 => k_is)
    (case fcm1_8 => k_is)
    (case fnm1_8 => k_is)
    (case lm1_8 => k_is)
    (case cm1_8 => k_is)
    (case km1_8 => k_is)
    (case aF => k_is)
    (case lF => k_is)
    (case cF => k_is)
    (case kF => k_is)
    (case gl0 => k_is)
    (case gl1 => k_is)
    (case ac0 => k_is)
    (case kc0 => (first | kernel_rfl | k_is | kit_is | decide +kernel))
    (case z_int => k_is)
    (case z_bool => k_is)
    (case z_tuple => k_is)
    (case z_len => k_is)
    (case z_list => k_is)
    (case z_range => k_is)
    (case z_isinstance => k_is)
    (case z_repr => k_is)
    (case z_all => k_is)
    (case z_divmod => k_is)
    (case z_reversed => k_is)
    (case z_sorted => k_is)
    (case z_max => k_is)
    (case z_abs => k_is)
    (case z_dict => k_is)
    (case z_str => k_is)

