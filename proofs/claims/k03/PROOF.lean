import PyProof.Rows.All
import Wide.All
import OpenK.AllK
import Wide.FinOn
import PyProof.P3Eq
import HandS.ForMost
import HandS.Codes
import HandS.IsInst
import HandS.Evl
import HandS.Walk
import HandS.Defaults
import HandS.ExcCtx
import HandS.HotCalls
import HandS.ExcIs
import HandS.AnyAll
import HandS.DictComp
import HandS.FStr
import HandS.RaiseMore
import HandS.Small
import HandS.EndTab
import HandS.HeadWalk
import HandS.Head2
import HandS.HeadHook4
import HandS.More
import HandS.Conv
import PySem.Challenge.RW_rrdesk_k03_names
set_option Elab.async false
set_option linter.all false
set_option maxRecDepth 100000
set_option maxHeartbeats 4000000
/-! rules of mine over the hand layer -/
namespace Rr
open PySem PySem.Spec PyProof.Rows L2
/-! ### what leaves a def -/
theorem passN {X : Cx} : Passes (L2N.CX X.prog X.w) X E0 := by
  intro _ _ _ _ _ _ _ h
  obtain ⟨_, _, _, _, _, _, _, _, _, _, _, _, z⟩ := h
  exact z.elim
theorem tkN {X : Cx} : L2N.Takes X (fun _ _ _ _ => False) := by
  intro _ _ x
  obtain ⟨_, _, _, _, _, _, _, _, _, _, _, _, _, _, _, _, z⟩ := x
  exact z.elim
/-- nothing is let out, at any slots -/
theorem p0 {X : Cx} (σ : L2.St) : PassesAt (L2N.CX X.prog X.w) X σ ((fun _ => E0 : L2.St → XK) σ) := fun pins H s e s' I c => passN pins σ H s e s' I c
/-- what a callee lets out is let out -/
theorem pU {X : Cx} {E : XK} (tk : L2N.Takes X (fun cls d _ H => E cls d H)) (σ : L2.St) : PassesAt (L2N.CX X.prog X.w) X σ ((fun _ => E : L2.St → XK) σ) := fun pins H s e s' I c =>
  L2N.passes_call tk (fun _ _ _ _ h => h) pins σ H s e s' I c
/-! ### calls: by a def's name, of a method, of a class -/
section
variable (P : Program) (w : World) (K : PySem.W.Frag) (mg : Str → Option Value) (base : Heap)
/-- a def's promise, to be called by its name -/
def Cal (k : Nat) (x : Str) (sp : Sp) : Prop := ∃ (f : Addr) (fd : FuncData) (ps : List Str), FnOk P w K mg base (L2N.CX P w) k f fd ps sp ∧ mg x = some (.ref f) ∧ PySem.W.keepIn K (.ref f) = true ∧ Binds K fd ps []
/-- a method's promise -/
def Met (k : Nat) (C : Addr) (m : Str) (sp : Sp) : Prop := ∃ (f : Addr) (fd : FuncData) (ps : List Str), Cls K C ∧ Meth K C m f ∧ FnOk P w K mg base (L2N.CX P w) k f fd ps sp ∧ Binds K fd ps []
/-- a class that is called; sp: its __init__ -/
def Mak (k : Nat) (x : Str) (C : Addr) (sp : Sp) : Prop := ∃ (f : Addr) (fd : FuncData) (ps : List Str), Mk K C f ∧ FnOk P w K mg base (L2N.CX P w) k f fd ps sp ∧ mg x = some (.ref C) ∧ Binds K fd ps []
/-- a method called with keywords: n values (self too), the names ks -/
def MetK (k : Nat) (C : Addr) (m : Str) (sp : Sp) (n : Nat) (ks : List Str) (gV : List V → List V → List V) : Prop := ∃ (f : Addr) (fd : FuncData) (ps : List Str) (g : List Value → List Value → List Value),
  Cls K C ∧ Meth K C m f ∧ FnOk P w K mg base (L2N.CX P w) k f fd ps sp ∧ KBn K fd ps n ks g gV
end
def tcF (sp : Sp) (E : L2.St → XK) (t : TA) : TE := fun σ H Q => t σ H fun vs H1 => sp vs H1 Q (E σ)
def tcM (sp : Sp) (E : L2.St → XK) (C : Addr) (m : Str) (ta : TE) (t : TA) : TE := fun σ H Q => ta σ H fun x H1 => ∃ a dx fs, x = .ref a ∧ H1 a = some (.ins C dx fs) ∧ fs.lookup m = none ∧ t σ H1 fun vs H2 => sp (x :: vs) H2 Q (E σ)
def tcC (sp : Sp) (C : Addr) (E : L2.St → XK) (t : TA) : TE := fun σ H Q => t σ H fun vs H1 => ∀ x dx, H1 x = none → H1 dx = none → dx ≠ x → sp (.ref x :: vs) (upd (upd H1 dx (.own x)) x (.ins C dx [])) (fun v H2 => v = .non ∧ Q (.ref x) H2) (E σ)
def tcMK (sp : Sp) (E : L2.St → XK) (C : Addr) (m : Str) (n l : Nat) (gV : List V → List V → List V) (ta : TE) (t tk : TA) : TE := fun σ H Q => ta σ H fun x H1 => ∃ a dx fs, x = .ref a ∧ H1 a = some (.ins C dx fs) ∧ fs.lookup m = none ∧
  t σ H1 fun vs H2 => tk σ H2 fun zs H3 => (x :: vs).length = n ∧ zs.length = l ∧ sp (gV (x :: vs) zs) H3 Q (E σ)
section
variable {X : Cx} {k j : Nat} {C : Addr} {x m : Str} {sp : Sp} {E : L2.St → XK} {p pos apos : Pos} {e o : Expr} {es : List Expr} {ta : TE} {t tk : TA}
/-- f(e, ..) -/
theorem pf (c : Cal X.prog X.w X.K X.mg X.base k x sp) (hr : Room j X.A) (hk : k ≤ j) (hg : Gl X x) (hx : ∀ σ, PassesAt (L2N.CX X.prog X.w) X σ (E σ)) (ha : PA X (e :: es) t)
    (hdb : (x == ("__debug__" : Str)) = false := by decide) (he : starEach (e :: es) X.env = (false, eval e X.env) :: starEach es X.env := by rfl) (hpl : (backTo pos (starEach es X.env)).any (·.1) = false := by rfl) :
    PE X (.Call (.Name x p) (e :: es) [] pos) (tcF sp E t) := by
  obtain ⟨f, fd, ps, F, hm, kp, b⟩ := c
  exact pe_callS F (hr.mono hk) hg hm kp b hx ha hdb he hpl
/-- o.m(e, ..) -/
theorem pm {pl : Sem Bool} (c : Met X.prog X.w X.K X.mg X.base k C m sp) (hr : Room j X.A) (hk : k ≤ j) (hx : ∀ σ, PassesAt (L2N.CX X.prog X.w) X σ (E σ)) (ho : PE X o ta) (ha : PA X (e :: es) t)
    (hst : starEach (e :: es) X.env = (false, eval e X.env) :: starEach es X.env := by rfl) (hpl : (backTo pos (starEach es X.env)).any (·.1) = false := by rfl)
    (ht : eval (.Call (.Attribute o m apos) (e :: es) [] pos) X.env = (do
      let r ← eval o X.env
      standAt apos.atName
      let (g, ys) ← holding [r] (getMethod r m pl)
      callWith pos g ys (backTo pos (starEach (e :: es) X.env)) (backToKw pos (keywordEach [] X.env))) := by rfl) :
    PE X (.Call (.Attribute o m apos) (e :: es) [] pos) (tcM sp E C m ta t) := by
  obtain ⟨f, fd, ps, hc, hm, F, b⟩ := c
  refine ⟨fun pins s σ H Q I h => PySem.W.methodCall_KW (pl := pl) (thn (ho.run pins s σ H _ I h) ?_) ht⟩
  rintro u s1 ⟨y, H1, I1, ry, a, dx, fs, rfl, ea, l, q⟩
  obtain rfl : u = Value.ref a := ry
  refine getmeth_ok I1 ea hc hm l (PySem.W.callWith_K (first := [.ref a]) (h₀ := X.base) I.ok.mod.kin hm.kp (thn (ha.run pos pins s1 σ H1 _ I1 q) ?_) hst hpl)
  rintro us s2 ⟨vs, H2, I2, r, q2⟩
  exact ⟨I2.kIn, run_fnS (us := .ref a :: us) (vs := .ref a :: vs) F (hr.mono hk) b (hx σ) I2 (.cons rfl r) q2⟩
/-- o.m() -/
theorem pm0 {pl : Sem Bool} (c : Met X.prog X.w X.K X.mg X.base k C m sp) (hr : Room j X.A) (hk : k ≤ j) (hx : ∀ σ, PassesAt (L2N.CX X.prog X.w) X σ (E σ)) (ho : PE X o ta)
    (ht : eval (.Call (.Attribute o m apos) [] [] pos) X.env = (do
      let r ← eval o X.env
      standAt apos.atName
      let (g, ys) ← holding [r] (getMethod r m pl)
      callWith pos g ys (backTo pos (starEach [] X.env)) (backToKw pos (keywordEach [] X.env))) := by rfl) :
    PE X (.Call (.Attribute o m apos) [] [] pos) (tcM sp E C m ta tNil) := by
  obtain ⟨f, fd, ps, hc, hm, F, b⟩ := c
  refine ⟨fun pins s σ H Q I h => PySem.W.methodCall_KW (pl := pl) (thn (ho.run pins s σ H _ I h) ?_) ht⟩
  rintro u s1 ⟨y, H1, I1, ry, a, dx, fs, rfl, ea, l, q⟩
  obtain rfl : u = Value.ref a := ry
  exact getmeth_ok I1 ea hc hm l (PySem.W.callWith_K0 (first := [.ref a]) I1.kIn hm.kp (run_fnS (us := [.ref a]) (vs := [.ref a]) F (hr.mono hk) b (hx σ) I1 (.cons rfl .nil) q))
/-- o.m(e, .., k = v, ..) -/
theorem pmk {pl : Sem Bool} {kws : List Keyword} {ks : List Str} {n : Nat} {gV : List V → List V → List V} (c : MetK X.prog X.w X.K X.mg X.base k C m sp n ks gV) (hr : Room j X.A) (hk : k ≤ j) (hx : Passes (L2N.CX X.prog X.w) X E0) (ho : PE X o ta) (ha : PA X (e :: es) t) (hkw : PK X kws tk)
    (hall : (backToKw pos (keywordEach kws X.env)).all (·.1.isSome) = true := by rfl) (hks : (backToKw pos (keywordEach kws X.env)).filterMap (·.1) = ks := by rfl)
    (hst : starEach (e :: es) X.env = (false, eval e X.env) :: starEach es X.env := by rfl)
    (hpl : ((backTo pos (starEach (e :: es) X.env)).any (·.1) || (backToKw pos (keywordEach kws X.env)).any (·.1.isNone)) = false := by rfl)
    (ht : eval (.Call (.Attribute o m apos) (e :: es) kws pos) X.env = (do
      let r ← eval o X.env
      standAt apos.atName
      let (g, ys) ← holding [r] (getMethod r m pl)
      callWith pos g ys (backTo pos (starEach (e :: es) X.env)) (backToKw pos (keywordEach kws X.env))) := by rfl) :
    PE X (.Call (.Attribute o m apos) (e :: es) kws pos) (tcMK sp (fun _ => E0) C m n ks.length gV ta t tk) := by
  obtain ⟨f, fd, ps, g, hc, hm, F, b⟩ := c
  refine ⟨fun pins s σ H Q I h => PySem.W.methodCall_KW (pl := pl) (thn (ho.run pins s σ H _ I h) ?_) ht⟩
  rintro u s1 ⟨y, H1, I1, ry, a, dx, fs, rfl, ea, l, q⟩
  obtain rfl : u = Value.ref a := ry
  refine getmeth_ok I1 ea hc hm l (PySem.W.callWith_KW (first := [.ref a]) (h₀ := X.base) I.ok.mod.kin hm.kp hall (thn (ha.run pos pins s1 σ H1 _ I1 q) ?_) hpl hst)
  rintro us s2 ⟨vs, H2, I2, r, q2⟩
  refine thn (hkw.run pos pins s2 σ H2 _ I2 q2) ?_
  rintro ws s3 ⟨zs, H3, I3, rz, l1, l2, q3⟩
  refine ⟨I3.kIn, ?_⟩
  rw [hks]
  exact run_fnN (us := .ref a :: us) (vs := .ref a :: vs) F (hr.mono hk) b hx I3 (.cons rfl r) rz l1 l2 q3
/-- C(e, ..) -/
theorem pc (c : Mak X.prog X.w X.K X.mg X.base k x C sp) (hr : Room j X.A) (hk : k + 1 ≤ j) (hg : Gl X x) {E : XK} (hx : Passes (L2N.CX X.prog X.w) X E) (ha : PA X (e :: es) t)
    (hdb : (x == ("__debug__" : Str)) = false := by decide) (he : starEach (e :: es) X.env = (false, eval e X.env) :: starEach es X.env := by rfl) (hpl : (backTo pos (starEach es X.env)).any (·.1) = false := by rfl) :
    PE X (.Call (.Name x p) (e :: es) [] pos) (tcC sp C (fun _ => E) t) := by
  obtain ⟨f, fd, ps, M, F, hm, b⟩ := c
  refine ⟨fun pins s σ H Q I h => (pe_make M F (hr.mono hk) hg hm b .nil hx ha hdb he hpl).run pins s σ H Q I ?_⟩
  unfold tMake
  unfold tcC at h
  simp only [List.append_nil]
  exact h
/-- an own exception of one argument -/
theorem pmk1 {bmB : List Value} {B newId initId : String} (F : ExcBaseFacts B newId initId bmB) (q : PySem.W.excIn X.K C bmB newId = true) (gC : X.mg x = some (.ref C)) (kC : PySem.W.keepIn X.K (.ref C) = true) (r : Raises X (.ref C)) (hg : Gl X x)
    (he : PE X e ta) (hs : starEach [e] X.env = (false, eval e X.env) :: starEach [] X.env := by rfl) (hdb : (x == ("__debug__" : Str)) = false := by decide) :
    L2N.PMk X (.Call (.Name x p) [e] [] pos) (fun σ H Q => ta σ H fun _ H1 => Q (.ref C) none H1) := by
  intro pins s σ H Q I h
  refine wpAny_Call_Name_kw (ld_glob I hg gC (PySem.W.callWith_K (h₀ := X.base) I.ok.mod.kin kC ?_ hs (by rfl)) hdb)
  rw [hs]
  refine Calls.spliced_cons (thn (he.run pins s σ H _ I h) ?_)
  rintro u s1 ⟨v, H1, I1, r1, q1⟩
  refine Calls.spliced_nil ⟨I1.kIn, ?_⟩
  obtain ⟨_, _, _, _, _, _, _, _, _, _, _, _, _, _, _, _, _, hC, hN, hni, T⟩ := exc_obj I1.kIn q
  exact wpAny_call_exc_subT F T hC hN hni (fun h' a hm => L2N.mk_of I1 hm r q1 (I1.hok.gone hm.new)) (by show 1 ≤ sizeLine; rw [sizeLine_eq]; omega)
end
/-! ### a def with its code object known -/
section
variable {P : Program} {w : World} {K : PySem.W.Frag} {mg : Str → Option Value} {base : Heap} {x qual : Str} {params : Arguments} {body : List Stmt} {scope : Scope} {dvs : List V} {kws : List (Str × V)} {fd : FuncData} {at_ : Str × Option Str}
theorem okF {N ps : List Str} {k : Nat} {sp : Sp} (F : FunD K x qual params body scope dvs kws (He.fAd K at_) fd) (S : FnScope N ps scope) (len : ∀ vs H Q E, sp vs H Q E → vs.length = ps.length)
    (hbody : ∀ (A : Around) (outer : List Env) (s : Shared) (H : Hp) (vs : List V) (Q : VK) (E : XK), Room k (A.deeper (envOfC qual scope s.heap.objs.size (He.fAd K at_) (.ref (He.codeOf K at_)))) → sp vs H Q E →
      ∃ t, PSs (cxOf (L2N.CX P w) P w K mg base N qual scope (He.fAd K at_) (.ref (He.codeOf K at_)) A outer s H E) body t ∧ t { nx := fun _ H' => Q .non H', rt := Q } (start N vs) H) : FnOk P w K mg base (L2N.CX P w) (k + 1) (He.fAd K at_) fd ps sp := by
  obtain ⟨oc, od, dV, kV, doc, pm, an, cdv, ct, osl, rfl, lk, hcd, _, _⟩ := F.ex
  obtain ⟨c, rfl⟩ := He.codeIn_ref hcd
  have ec : He.codeOf K at_ = c := He.codeOf_eq lk rfl
  subst ec
  exact fn_of lk hcd S len hbody
end
end Rr
namespace Rr
open PySem PySem.Spec PyProof.Rows L2
section
variable {X : Cx} {x : Str} {pos : Pos}
/-- a constant of the module -/
theorem pgI {i : Int} (hg : Gl X x) (h : ∃ t, X.mg x = some (.int i t)) (hd : (x == ("__debug__" : Str)) = false := by decide) : PE X (.Name x pos) (tC (.int i)) := by
  obtain ⟨t, h⟩ := h
  exact pe_glob hg h ⟨t, rfl⟩ hd
theorem pgS {z : Str} (hg : Gl X x) (h : ∃ t, X.mg x = some (.str z t)) (hd : (x == ("__debug__" : Str)) = false := by decide) : PE X (.Name x pos) (tC (.str z)) := by
  obtain ⟨t, h⟩ := h
  exact pe_glob hg h ⟨t, rfl⟩ hd
end
/-- a generator expression's scope, looked at -/
theorem gs_of {env : Env} {scope : Scope} {x : Str} (h : (decide (scope.kind = .function) && (!scope.isCoroutine && (scope.names.all (fun y => !decide (y.2 = .cell) && !decide (y.2 = .free)) && (decide (scope.names.lookup (".0" : Str) = some NameKind.local) && decide (scope.names.lookup x = some .local))))) = true) : GxR.GenS env scope x := by
  simp only [Bool.and_eq_true, decide_eq_true_eq, List.all_eq_true, Bool.not_eq_true', decide_eq_false_iff_not] at h
  obtain ⟨h1, h2, h3, h4, h5⟩ := h
  exact ⟨h1, h2, fun y hy => (h3 y hy).1, h4, h5, fun y hy z => absurd z (h3 y hy).2⟩
end Rr

set_option maxRecDepth 100000
set_option maxHeartbeats 4000000
/-! any, all of a generator expression over a text's signs whose test reads the module's constants -/
namespace Rr
open PySem PySem.Spec PyProof.Rows L2
open GxR (TabB TabG Tabbed GenS Ready trF)
/-- the test of the sign c; the module's names may be read in it -/
def EltG (prog : Program) (w : World) (mg : Str → Option Value) (scope : Scope) (x : Str) (elt : Expr) (pb : Nat → Bool) : Prop :=
  ∀ (env' : Env) (B : Around) (F : Value → Shared → Prop) (c : Nat) (t : Tok) (s' : Shared) (m' : Str → Option Value), env'.scope = scope → env'.globals = mainGlobals → s'.heap.Ns mainGlobals mg → s'.heap.Ns env'.locals m' → m' x = some (.str ⟨#[c]⟩ t) →
    wpAny (model prog w) B (eval elt env') (fun y s'' => y = .bool (pb c) ∧ Keeps s' s'') F s'
/-- c in NAME: NAME a text of the module -/
theorem elt_in {prog : Program} {w : World} {mg : Str → Option Value} {scope : Scope} {x y : Str} {z : Str} {p1 p2 p3 : Pos} (hk : scope.kind = .function) (hl : scope.names.lookup x = some .local) (hy : scope.names.lookup y = some .globalImplicit) (hz : ∃ t, mg y = some (.str z t)) (hd : (x == ("__debug__" : Str)) = false := by decide) (hdy : (y == ("__debug__" : Str)) = false := by decide) :
    EltG prog w mg scope x (.Compare (.Name x p1) [.In] [.Name y p2] p3) (fun c => decide (c ∈ z.cps.toList)) := by
  intro env' B F c t s' m' hs hg hG hn hm
  obtain ⟨tz, hz⟩ := hz
  refine wpAny_Compare1 (wpAny_Name (wpAny_loadName_local (by rw [hs]; exact hk) (show env'.scope.names.lookup x = some .local by rw [hs]; exact hl) hn hm ?_) hd)
  refine Calls.Name_function_global (by rw [hs]; exact hk) (show env'.scope.names.lookup y = some .globalImplicit by rw [hs]; exact hy) (Calls.loadGlobal_global (by rw [hg]; exact hG) hz ?_) hdy
  exact PyProof.Rows.in_str ⟨congrArg Value.bool (PySem.StrLaws.found_one z c), GxR.keeps_refl _⟩
/-- c not in NAME -/
theorem elt_notIn {prog : Program} {w : World} {mg : Str → Option Value} {scope : Scope} {x y : Str} {z : Str} {p1 p2 p3 : Pos} (hk : scope.kind = .function) (hl : scope.names.lookup x = some .local) (hy : scope.names.lookup y = some .globalImplicit) (hz : ∃ t, mg y = some (.str z t)) (hd : (x == ("__debug__" : Str)) = false := by decide) (hdy : (y == ("__debug__" : Str)) = false := by decide) :
    EltG prog w mg scope x (.Compare (.Name x p1) [.NotIn] [.Name y p2] p3) (fun c => !decide (c ∈ z.cps.toList)) := by
  intro env' B F c t s' m' hs hg hG hn hm
  obtain ⟨tz, hz⟩ := hz
  refine wpAny_Compare1 (wpAny_Name (wpAny_loadName_local (by rw [hs]; exact hk) (show env'.scope.names.lookup x = some .local by rw [hs]; exact hl) hn hm ?_) hd)
  refine Calls.Name_function_global (by rw [hs]; exact hk) (show env'.scope.names.lookup y = some .globalImplicit by rw [hs]; exact hy) (Calls.loadGlobal_global (by rw [hg]; exact hG) hz ?_) hdy
  exact PyProof.Rows.notIn_str ⟨congrArg (fun b => Value.bool (!b)) (PySem.StrLaws.found_one z c), GxR.keeps_refl _⟩
section
variable {X : Cx} {pins : List (Addr × Obj)} {σ : L2.St} {H : Hp} {s : Shared} {c P : Addr} {elt iter : Expr} {x : Str} {px p pos gpos : Pos} {scope : Scope} {pb : Nat → Bool} {te : TE} {k : Nat}
/-- the generator is made: what its walk will find -/
theorem gen_signs {Q' : Value → Shared → Prop} {R : Str → Hp → Prop} (hr : Room k X.A) (TB : TabB X.base X.mg c P) (hcode : X.env.code = .ref c) (S : GenS X.env scope x) (hi : PE X iter te) (hel : EltG X.prog X.w X.mg scope x elt pb)
    (hs : ∀ v, genFold iter X.env v = pure v) (I : Inv X pins σ H s) (h : te σ H fun v H1 => ∃ a : Str, v = .str a ∧ TabG H1 P ∧ R a H1) (hQ : ∀ a H1 g s5, R a H1 → Ready X pins σ H1 P a pb g s5 → Q' (.ref g) s5) :
    wpAny (model X.prog X.w) X.A (eval (.GeneratorExp elt [⟨.Name x px, iter, [], 0⟩] scope gpos) X.env) Q' X.xe s := by
  refine wpAny_GeneratorExp_walksQ hr.hd S.co (closure_ok S.free) S.cell S.dot S.loc S.kind (by have := hr.dp; omega) (thn (hi.run pins s σ H _ I h) ?_) hs
  rintro xv s1 ⟨v, H1, I1, r1, a, rfl, ⟨ps, hP, ht⟩, q1⟩
  obtain ⟨t, rfl⟩ := id r1
  refine wpAny_pyIter_str fun it St W hst => ⟨I1.nolimit.push it, ?_⟩
  have atP : s1.heap.get? P = some { cls := .none, data := .fields ps } := I1.hok P _ hP
  have ltP : P < s1.heap.objs.size := Heap.lt_size atP
  have up : ∀ b u, s1.heap.get? b = some u → (s1.heap.push it).get? b = some u := fun b u e => Heap.get?_push_of_some _ e
  have cd : PySem.W.CodeHd (s1.heap.push it) c P := TB.code.keeps fun b u e => up b u (I1.bk b u e)
  have szI : (s1.heap.push it).objs.size = s1.heap.objs.size + 1 := Heap.size_push ..
  have ltS : cStatics < s1.heap.objs.size := by
    obtain ⟨_, hns, _⟩ := I1.nolimit
    exact hns.lt
  have neP : cStatics ≠ P := by
    intro e
    obtain ⟨_, ⟨o', _, _, ho, hd, _⟩, _⟩ := I1.nolimit
    rw [e, atP] at ho
    cases ho
    cases hd
  -- behind the code object: it was found in the table, or the table has grown
  have rest : ∀ (cv : Value) (h3 : Heap) (tk : Nat) (more : Array Value), Heap.ExtBut P (s1.heap.push it) h3 → (s1.heap.push it).objs.size ≤ h3.objs.size → h3.get? P = some { cls := .none, data := .fields (ps ++ more) } → TriplesOk (ps ++ more).toList →
      wpAny (model X.prog X.w) X.A (builtinsFor X.env.globals X.env.builtins) (fun bi s4 =>
        ∃ Ia fp wr n0 Pf St0 pz F, Value.ref s1.heap.objs.size = .ref Ia ∧ (∀ B : Around, B.handled = none → Walks X.prog X.w B Ia fp wr n0 Pf St0) ∧ St0 0 s4.heap ∧ (∀ b ∈ fp, b < s4.heap.objs.size) ∧ s4.heap.NoLimit ∧ cStatics ∉ wr ∧
          (∀ hr' : Heap, (∀ b u, s4.heap.get? b = some u → hr'.get? b = some u) → QuietGen X.prog X.w (genEnv scope (cloFrom X.env.cells scope.names []) s4.heap.objs.size cv bi X.env) x [] elt (List.range s4.heap.objs.size) wr Pf pz F hr') ∧
          (∀ g h5 tk' gs, gs.bare = true → s4.heap.objs.size < g → h5.objs.size = g + 1 → (∀ b u, s4.heap.get? b = some u → h5.get? b = some u) →
            WalksS X.prog X.w X.A.in4 g (g :: s4.heap.objs.size :: List.range s4.heap.objs.size) (s4.heap.objs.size :: wr) (GenOnlyQ s4.gens.size) (passing pz n0 0).length
              (fun j y => ∃ i, (passing pz n0 0)[j]? = some i ∧ F i y) (GenAt X.prog X.w X.A.in4 g s4.gens.size s4.heap.objs.size (List.range s4.heap.objs.size) wr pz n0 F) →
            GenAt X.prog X.w X.A.in4 g s4.gens.size s4.heap.objs.size (List.range s4.heap.objs.size) wr pz n0 F 0 { s4 with gens := s4.gens.push gs, toks := tk', heap := h5 } →
            Q' (.ref g) { s4 with gens := s4.gens.push gs, toks := tk', heap := h5 })) X.xe { s1 with heap := h3, toks := tk } := by
    intro cv h3 tk more ext sz3 at3 ok3
    obtain ⟨bm, ob, e1, e2, e3, e4, e5, e6, e7, e8⟩ := TB.bm
    have old : ∀ b u, b ≠ P → s1.heap.get? b = some u → h3.get? b = some u := fun b u hb e => ext b u hb (up b u e)
    refine wpAny_builtinsFor (m := X.mg) (by rw [I1.ok.glob]; exact ((I1.mod.glob.keeps I1.bk).push it).extBut ext TB.gP) e1 e2 (old _ _ e4 (I1.bk _ _ e5)) e6 e7 e8 ?_
    have one : ∀ b, b ∈ [s1.heap.objs.size] → b = s1.heap.objs.size := fun b hb => List.mem_singleton.mp hb
    refine ⟨s1.heap.objs.size, [s1.heap.objs.size], [s1.heap.objs.size], a.cps.size, SignAt a, St, (fun _ => true), (fun i y => ∃ cc, a.cps[i]? = some cc ∧ y = .bool (pb cc)), rfl, W, ?_, ?_, (I1.nolimit.push it).extBut ext neP, fun z => Nat.ne_of_lt ltS (one _ z), ?_, ?_⟩
    · exact (W X.A hr.hd).frame _ _ _ hst fun b hb u e => ext b u (fun z => Nat.ne_of_lt ltP (z.symm.trans (one b hb))) e
    · intro b hb
      rw [one b hb]
      show s1.heap.objs.size < h3.objs.size
      omega
    · intro hr' khr
      refine ⟨fun B F i v s2 m2 _ _ hn _ _ => ?_, fun B F i v s2 m2 _ hPv _ hn hm hk => ?_⟩
      · simp only [List.forIn_nil]
        exact wpAny_pure ⟨rfl, GxR.keeps_refl _⟩
      · obtain ⟨cc, u, hcc, rfl⟩ := hPv
        refine wpAny_mono (hel _ B F cc u s2 m2 rfl I1.ok.glob ?_ hn hm) (fun y s3 r => ⟨⟨cc, hcc, r.1⟩, r.2⟩) fun _ _ e => e
        obtain ⟨o, es, ep, eo, r⟩ := I1.mod.glob
        have eo1 := I1.bk _ _ eo
        have lo := Heap.lt_size eo1
        refine ⟨o, es, ep, hk mainGlobals (List.mem_range.mpr ?_) (fun z => Nat.ne_of_lt lo (one _ z)) o (khr _ _ (old _ _ TB.gP eo1)), r⟩
        show mainGlobals < h3.objs.size
        exact Nat.lt_of_lt_of_le (Nat.lt_of_lt_of_le (Nat.lt_succ_of_lt lo) (Nat.le_of_eq szI.symm)) sz3
    · intro g h5 tk5 gs hgb hag sz5 k5 W5 hat
      simp only [GxR.passing_true, List.length_range] at W5
      refine hQ a H1 g _ q1 ⟨_, _, _, _, _, W5.in4_1, hat, ?_, fun s' hm => ?_⟩
      · rintro j y sj Qj Ej ⟨i, hij, cc, hcc, rfl⟩ hQj
        obtain ⟨hj, ej⟩ := List.getElem?_eq_some_iff.mp hij
        rw [List.getElem_range] at ej
        subst ej
        have hQ2 : Qj (trF pb a.cps.toList j) sj := hQj
        rw [GxR.trF_some (show a.cps.toList[j]? = some cc by rw [Array.getElem?_toList]; exact hcc)] at hQ2
        exact wpAny_truthy_bool hQ2
      · have nw : ∀ b u, s1.heap.get? b = some u → b ∉ h3.objs.size :: [s1.heap.objs.size] := by
          intro b u e hb
          have hl := Heap.lt_size e
          rcases List.mem_cons.mp hb with z | z
          · rw [z] at hl
            exact absurd (Nat.lt_of_lt_of_le (Nat.lt_succ_of_lt hl) (Nat.le_trans (Nat.le_of_eq szI.symm) sz3)) (Nat.lt_irrefl _)
          · rw [one b z] at hl
            exact Nat.lt_irrefl _ hl
        have J := GxR.inv_tab (more := more) (h' := s'.heap) (g' := s'.gens) (d' := s'.drawn) (t' := s'.toks) I1 hP (fun b u hb e => hm.heap b u (nw b u e) (k5 b u (old b u hb e))) (hm.heap P _ (nw P _ atP) (k5 P _ at3)) (AllBare.movedS (I1.bare.push hgb) hm)
        rw [GxR.sh_eta s1 s' hm.os] at J
        exact ⟨upd H1 P (.tbl (ps ++ more)), ⟨⟨ps ++ more, upd_same, ok3⟩, fun b hb => upd_ne hb⟩, J⟩
  cases hf : codeAmong gpos ps.toList with
  | none =>
    refine wpAny_genexprCodeX hcode (cd.code (up _ _ atP) ht) (cd.tab (up _ _ atP)) hf fun c' h' tk ext hge hlt hco _ htab _ => ?_
    obtain ⟨_, _, _, _, _, _, _, _, _, _, _, _, _, _, _, _, _, _, _, htr, _⟩ := hco
    exact rest _ h' tk _ ext (Nat.le_trans hge (Nat.le_of_lt hlt)) htab.2 htr
  | some cv =>
    refine wpAny_genexprCode_hit hcode (cd.code (up _ _ atP) ht) hf ?_
    exact rest cv (s1.heap.push it) s1.toks #[] (Heap.ExtBut.refl _ _) (Nat.le_refl _) (by rw [Array.append_empty]; exact up _ _ atP) (by rw [Array.append_empty]; exact ht)
/-- all(test for x in e) -/
theorem pe_all (hr : Room k X.A) (hg : Gl X "all") (hm : X.mg "all" = none) (TB : TabB X.base X.mg c P) (hcode : X.env.code = .ref c) (S : GenS X.env scope x) (hi : PE X iter te) (hel : EltG X.prog X.w X.mg scope x elt pb) (hs : ∀ v, genFold iter X.env v = pure v) (hb : bootBuiltins "all" = some (.builtin "all") := by decide +kernel)
    (he : starEach [.GeneratorExp elt [⟨.Name x px, iter, [], 0⟩] scope gpos] X.env = (false, eval (.GeneratorExp elt [⟨.Name x px, iter, [], 0⟩] scope gpos) X.env) :: starEach [] X.env := by rfl) :
    PE X (.Call (.Name "all" p) [.GeneratorExp elt [⟨.Name x px, iter, [], 0⟩] scope gpos] [] pos) (GxR.tAllS P pb te) := by
  refine ⟨fun pins s σ H Q I h => wpAny_Call_Name_kw (ld_blt I hg hm hb (PyProof.Rows.callWith_builtin1 ?_ he (by rfl)))⟩
  rw [he]
  refine Calls.spliced_cons (gen_signs (R := fun a H1 => ∀ H2, Tabbed P H1 H2 → Q (.bl (a.cps.toList.all pb)) H2) hr TB hcode S hi hel hs I h ?_)
  rintro a H1 g s5 hR ⟨fp, wr, G, F, St, W, hst, htr, hI⟩
  refine Calls.spliced_nil (call_all_walkS (W.self 0 _ _ _ hst ⟨g, fp, wr, G, _, F, St, _, rfl, W, hst, htr, fun s' hmv => ?_⟩))
  obtain ⟨H2, hT, J⟩ := hI s' hmv
  refine ⟨.bl _, H2, J, rfl, ?_⟩
  rw [GxR.all_signs a pb]
  exact hR H2 hT
/-- any(test for x in e) -/
theorem pe_any (hr : Room k X.A) (hg : Gl X "any") (hm : X.mg "any" = none) (TB : TabB X.base X.mg c P) (hcode : X.env.code = .ref c) (S : GenS X.env scope x) (hi : PE X iter te) (hel : EltG X.prog X.w X.mg scope x elt pb) (hs : ∀ v, genFold iter X.env v = pure v)
    (he : starEach [.GeneratorExp elt [⟨.Name x px, iter, [], 0⟩] scope gpos] X.env = (false, eval (.GeneratorExp elt [⟨.Name x px, iter, [], 0⟩] scope gpos) X.env) :: starEach [] X.env := by rfl) :
    PE X (.Call (.Name "any" p) [.GeneratorExp elt [⟨.Name x px, iter, [], 0⟩] scope gpos] [] pos) (GxR.tAnyS P pb te) := by
  refine ⟨fun pins s σ H Q I h => wpAny_Call_Name_kw (ld_blt I hg hm boot_any (PyProof.Rows.callWith_builtin1 ?_ he (by rfl)))⟩
  rw [he]
  refine Calls.spliced_cons (gen_signs (R := fun a H1 => ∀ H2, Tabbed P H1 H2 → Q (.bl (a.cps.toList.any pb)) H2) hr TB hcode S hi hel hs I h ?_)
  rintro a H1 g s5 hR ⟨fp, wr, G, F, St, W, hst, htr, hI⟩
  refine Calls.spliced_nil (call_any_walkS (W.self 0 _ _ _ hst ⟨g, fp, wr, G, _, F, St, _, rfl, W, hst, htr, fun s' hmv => ?_⟩))
  obtain ⟨H2, hT, J⟩ := hI s' hmv
  refine ⟨.bl _, H2, J, rfl, ?_⟩
  rw [GxR.any_signs a pb]
  exact hR H2 hT
end
end Rr

set_option maxRecDepth 100000
set_option maxHeartbeats 4000000
/-! the heap's frame; a desk as it stands in the heap -/
namespace Rr
open PySem PySem.Spec PyProof.Rows L2
open GxR (TabG Tabbed)
/-- not a table -/
def NoT (o : HO) : Prop := ∀ ps, o ≠ .tbl ps
/-- what stands outside of S stays (tables may grow); nothing goes -/
structure Keep (S : List Addr) (H H' : Hp) : Prop where
  old : ∀ b o, H b = some o → b ∉ S → NoT o → H' b = some o
  tab : ∀ P, TabG H P → TabG H' P
  gone : ∀ b, H' b = none → H b = none
theorem Keep.refl (S : List Addr) (H : Hp) : Keep S H H := ⟨fun _ _ h _ _ => h, fun _ h => h, fun _ h => h⟩
theorem Keep.trans {S : List Addr} {H H1 H2 : Hp} (a : Keep S H H1) (b : Keep S H1 H2) : Keep S H H2 := ⟨fun c o h n t => b.old c o (a.old c o h n t) n t, fun P h => b.tab P (a.tab P h), fun c h => a.gone c (b.gone c h)⟩
theorem Keep.mono {S S' : List Addr} {H H' : Hp} (k : Keep S H H') (h : ∀ b ∈ S, b ∈ S') : Keep S' H H' := ⟨fun b o e n t => k.old b o e (fun z => n (h b z)) t, k.tab, k.gone⟩
theorem Keep.any {S : List Addr} {H H' : Hp} (k : Keep [] H H') : Keep S H H' := k.mono fun _ h => absurd h List.not_mem_nil
/-- S' may be changed where it is new or stood in S -/
theorem Keep.trans' {S S' : List Addr} {H H1 H2 : Hp} (a : Keep S H H1) (b : Keep S' H1 H2) (h : ∀ x ∈ S', x ∈ S ∨ H x = none) : Keep S H H2 :=
  ⟨fun c o e n t => b.old c o (a.old c o e n t) (fun z => (h c z).elim n fun y => by rw [e] at y; cases y) t, fun P h => b.tab P (a.tab P h), fun c h => a.gone c (b.gone c h)⟩
theorem Keep.new {S : List Addr} {H : Hp} {p : Addr} {o : HO} (h : H p = none) : Keep S H (upd H p o) := by
  have ne : ∀ b u, H b = some u → b ≠ p := fun b u e z => by rw [z, h] at e; cases e
  refine ⟨fun b u e _ _ => by rw [upd_ne (ne b u e)]; exact e, ?_, fun b e => ?_⟩
  · rintro P ⟨ps, e, ok⟩
    exact ⟨ps, by rw [upd_ne (ne P _ e)]; exact e, ok⟩
  · by_cases z : b = p
    · rw [z]
      exact h
    · rw [upd_ne z] at e
      exact e
theorem Keep.upd {S : List Addr} {H : Hp} {p : Addr} {o u : HO} (e0 : H p = some u) (hp : p ∈ S) (nt : NoT u) : Keep S H (upd H p o) := by
  refine ⟨fun b v e n _ => by rw [upd_ne (fun z => n (by rw [z]; exact hp))]; exact e, ?_, fun b e => ?_⟩
  · rintro P ⟨ps, e, ok⟩
    refine ⟨ps, ?_, ok⟩
    rw [upd_ne (fun z => ?_)]
    · exact e
    · rw [z, e0] at e
      exact nt ps (Option.some.inj e)
  · by_cases z : b = p
    · rw [z, upd_same] at e
      cases e
    · rw [upd_ne z] at e
      exact e
theorem Keep.tabbed {S : List Addr} {H H' : Hp} {P : Addr} (t : Tabbed P H H') (hP : TabG H P) : Keep S H H' := by
  obtain ⟨g, k⟩ := t
  obtain ⟨ps0, e0, ok0⟩ := hP
  refine ⟨fun b o e _ nt => ?_, ?_, fun b e => ?_⟩
  · rw [k b (fun z => by rw [z, e0] at e; exact nt ps0 (Option.some.inj e).symm)]
    exact e
  · rintro P' ⟨ps, e, ok⟩
    by_cases z : P' = P
    · rw [z]
      exact g
    · exact ⟨ps, by rw [k P' z]; exact e, ok⟩
  · by_cases z : b = P
    · obtain ⟨ps, e1, _⟩ := g
      rw [z, e1] at e
      cases e
    · rw [← k b z]
      exact e
/-- something else is back at p as it was -/
theorem Keep.back {S : List Addr} {H H' : Hp} {p : Addr} {o u : HO} (e0 : H p = some u) (nt : NoT u) (k : Keep S (L2.upd H p o) H') : Keep S H (L2.upd H' p u) := by
  refine ⟨fun b v e n t => ?_, ?_, fun b e => ?_⟩
  · by_cases z : b = p
    · rw [z, upd_same, ← e0, ← z]
      exact e
    · rw [upd_ne z]
      exact k.old b v (by rw [upd_ne z]; exact e) n t
  · rintro P ⟨ps, e, ok⟩
    have z : P ≠ p := fun z => by rw [z, e0] at e; exact nt ps (Option.some.inj e)
    obtain ⟨ps', e', ok'⟩ := k.tab P ⟨ps, by rw [upd_ne z]; exact e, ok⟩
    exact ⟨ps', by rw [upd_ne z]; exact e', ok'⟩
  · by_cases z : b = p
    · rw [z, upd_same] at e
      cases e
    · rw [upd_ne z] at e
      have q := k.gone b e
      rw [upd_ne z] at q
      exact q
theorem nt_lst {xs : List V} : NoT (.lst xs) := fun _ h => nomatch h
theorem nt_tup {xs : List V} : NoT (.tup xs) := fun _ h => nomatch h
theorem nt_dK {xs : List (Key × V)} : NoT (.dK xs) := fun _ h => nomatch h
theorem nt_ins {C dx : Addr} {fs : List (Str × V)} : NoT (.ins C dx fs) := fun _ h => nomatch h
theorem nt_frz {o : Obj} {u : HO} : NoT (.frz o u) := fun _ h => nomatch h
theorem Keep.lst {S : List Addr} {H H' : Hp} {p : Addr} {xs : List V} (k : Keep S H H') (h : H p = some (.lst xs)) (n : p ∉ S) : H' p = some (.lst xs) := k.old _ _ h n nt_lst
theorem Keep.tup {S : List Addr} {H H' : Hp} {p : Addr} {xs : List V} (k : Keep S H H') (h : H p = some (.tup xs)) (n : p ∉ S) : H' p = some (.tup xs) := k.old _ _ h n nt_tup
theorem Keep.seq {S : List Addr} {K : PySem.W.Frag} {H H' : Hp} {p : Addr} {xs : List V} (k : Keep S H H') (h : SqL K H p xs) (n : ∀ o, H p = some o → p ∉ S) : SqL K H' p xs := by
  rcases h with (h | ⟨o, h⟩) | h
  · exact .inl (.inl (k.old _ _ h (n _ h) nt_lst))
  · exact .inl (.inr ⟨o, k.old _ _ h (n _ h) nt_frz⟩)
  · exact .inr h

/-! ### texts -/
abbrev SIGNSL : List Nat := ("abcdefghijklmnopqrstuvwxyz0123456789" : Str).cps.toList
def isSign (c : Nat) : Bool := decide (c ∈ SIGNSL)
/-- a name -/
def isName (x : Str) : Bool := decide (1 ≤ x.length ∧ x.length ≤ 12) && x.cps.toList.all isSign
/-- a text of moderate size -/
def Small (x : Str) : Prop := x.length ≤ 100000 ∧ ∀ c ∈ x.cps.toList, c < 16 ^ 8
theorem isSign_lt {c : Nat} (h : isSign c = true) : c < 128 := by
  have h1 : ∀ c ∈ SIGNSL, c < 128 := by decide +kernel
  exact h1 c (of_decide_eq_true h)
theorem isName_len {x : Str} (h : isName x = true) : 1 ≤ x.length ∧ x.length ≤ 12 := by
  unfold isName at h
  rw [Bool.and_eq_true] at h
  exact of_decide_eq_true h.1
theorem isName_small {x : Str} (h : isName x = true) : Small x := by
  refine ⟨Nat.le_trans (isName_len h).2 (by decide), fun c hc => ?_⟩
  unfold isName at h
  rw [Bool.and_eq_true] at h
  exact Nat.lt_trans (isSign_lt (List.all_eq_true.mp h.2 c hc)) (by decide)
theorem Small.repr {x : Str} (h : Small x) : (reprText x).length ≤ 1000002 := Nat.le_trans (PySem.StrLaws.reprText_len x h.2) (by have := h.1; omega)
theorem Small.line {x : Str} (h : Small x) : x.length ≤ sizeLine := by
  have := h.1
  rw [sizeLine_eq]
  omega

/-! ### the desk -/
/-- what a caller does -/
inductive Stt where
  | rdy (since : Int) | slp (due : Int) | wtg (bell : Str)
  deriving DecidableEq
def Stt.word : Stt → Str
  | .rdy _ => "ready"
  | .slp _ => "asleep"
  | .wtg _ => "waiting"
def Stt.sinceV : Stt → V
  | .rdy s => .int s
  | _ => .non
def Stt.dueV : Stt → V
  | .slp s => .int s
  | _ => .non
def Stt.bellV : Stt → V
  | .wtg b => .str b
  | _ => .non
structure Cr where
  name : Str
  rank : Int
  st : Stt
  deriving DecidableEq
def Cr.fs (c : Cr) : List (Str × V) := [("name", .str c.name), ("rank", .int c.rank), ("state", .str c.st.word), ("since", c.st.sinceV), ("due", c.st.dueV), ("bell", c.st.bellV)]
structure Dk where
  pace : Int
  room : Int
  now : Int
  line : List Cr
def dFs (p r n : Int) (L : Addr) : List (Str × V) := [("pace", .int p), ("room", .int r), ("now", .int n), ("_line", .ref L)]
abbrev Ln := List (Addr × Cr)
def kvsOf (ln : Ln) : List (Key × V) := ln.map fun p => (Sum.inr p.2.name, .ref p.1)
def namesL (l : List Cr) : List Str := l.map (·.name)
section
variable (K : PySem.W.Frag)
/-- the caller c stands at a -/
def CrAt (H : Hp) (a : Addr) (c : Cr) : Prop := ∃ dx, H a = some (.ins (He.ga K "Caller") dx c.fs)
/-- the desk at d, its line at L, its callers -/
structure DkIn (H : Hp) (d L : Addr) (ln : Ln) (D : Dk) : Prop where
  desk : ∃ dx, H d = some (.ins (He.ga K "Desk") dx (dFs D.pace D.room D.now L))
  line : H L = some (.dK (kvsOf ln))
  crs : ∀ p ∈ ln, CrAt K H p.1 p.2
  eq : ln.map (·.2) = D.line
  nd : (ln.map (·.1)).Nodup
  nm : (namesL D.line).Nodup
  len : D.line.length ≤ 60
/-- .. S: all that is its own -/
def DkAt (H : Hp) (S : List Addr) (d : Addr) (D : Dk) : Prop := ∃ L ln, S = d :: L :: ln.map (·.1) ∧ DkIn K H d L ln D
end
section
variable {K : PySem.W.Frag} {H H' : Hp} {S S' : List Addr} {d L : Addr} {ln : Ln} {D : Dk}
theorem DkIn.keep (x : DkIn K H d L ln D) (k : Keep S H H') (n : ∀ b ∈ d :: L :: ln.map (·.1), b ∉ S) : DkIn K H' d L ln D := by
  refine ⟨?_, k.old _ _ x.line (n L (by simp)) nt_dK, fun p hp => ?_, x.eq, x.nd, x.nm, x.len⟩
  · obtain ⟨dx, e⟩ := x.desk
    exact ⟨dx, k.old _ _ e (n d (by simp)) nt_ins⟩
  · obtain ⟨dx, e⟩ := x.crs p hp
    exact ⟨dx, k.old _ _ e (n p.1 (List.mem_cons_of_mem _ (List.mem_cons_of_mem _ (List.mem_map_of_mem hp)))) nt_ins⟩
theorem DkAt.keep (x : DkAt K H S d D) (k : Keep S' H H') (n : ∀ b ∈ S, b ∉ S') : DkAt K H' S d D := by
  obtain ⟨L, ln, rfl, x⟩ := x
  exact ⟨L, ln, rfl, x.keep k n⟩
theorem DkAt.keep0 (x : DkAt K H S d D) (k : Keep [] H H') : DkAt K H' S d D := x.keep k fun _ _ => List.not_mem_nil
/-- what is a list or a tuple is none of it -/
theorem DkAt.apart (x : DkAt K H S d D) {p : Addr} {o : HO} (e : H p = some o) (h : (∀ C dx fs, o ≠ .ins C dx fs) ∧ ∀ kvs, o ≠ .dK kvs) : p ∉ S := by
  obtain ⟨L, ln, rfl, x⟩ := x
  intro z
  rcases List.mem_cons.mp z with z | z
  · obtain ⟨dx, q⟩ := x.desk
    rw [z, q] at e
    exact h.1 _ _ _ (Option.some.inj e).symm
  · rcases List.mem_cons.mp z with z | z
    · have q := x.line
      rw [z, q] at e
      exact h.2 _ (Option.some.inj e).symm
    · obtain ⟨y, hy, z⟩ := List.mem_map.mp z
      obtain ⟨dx, q⟩ := x.crs y hy
      rw [← z, q] at e
      exact h.1 _ _ _ (Option.some.inj e).symm
theorem DkAt.lst (x : DkAt K H S d D) {p : Addr} {xs : List V} (e : H p = some (.lst xs)) : p ∉ S := x.apart e ⟨fun _ _ _ h => (nomatch h), fun _ h => (nomatch h)⟩
theorem DkAt.tup (x : DkAt K H S d D) {p : Addr} {xs : List V} (e : H p = some (.tup xs)) : p ∉ S := x.apart e ⟨fun _ _ _ h => (nomatch h), fun _ h => (nomatch h)⟩
theorem DkAt.frz (x : DkAt K H S d D) {p : Addr} {o : Obj} {u : HO} (e : H p = some (.frz o u)) : p ∉ S := x.apart e ⟨fun _ _ _ h => (nomatch h), fun _ h => (nomatch h)⟩
theorem DkAt.sq (x : DkAt K H S d D) {p : Addr} {xs : List V} (e : SqL K H p xs) : ∀ o, H p = some o → SqL K H p xs → (∃ ys, o = .lst ys) ∨ (∃ ob u, o = .frz ob u) → p ∉ S := by
  rintro o ho _ (⟨ys, rfl⟩ | ⟨ob, u, rfl⟩)
  · exact x.lst ho
  · exact x.frz ho
end
/-- S' is of S or new -/
def Sub (H : Hp) (S S' : List Addr) : Prop := ∀ b ∈ S', b ∈ S ∨ H b = none
theorem Sub.refl {H : Hp} {S : List Addr} : Sub H S S := fun _ h => .inl h
end Rr
namespace Rr
open PySem PySem.Spec PyProof.Rows L2
theorem fitN {a b : Str} {k : Nat} (n m : Nat) (ha : a.length ≤ n) (hb : b.length ≤ m) (h : n + m ≤ k := by decide) : (a ++ b).length ≤ k := by
  rw [Str.length_append]
  omega
/-- a text put behind another one -/
theorem fit {a b : Str} (n m : Nat) (ha : a.length ≤ n) (hb : b.length ≤ m) (h : n + m ≤ 16777216 := by decide) : (a ++ b).length ≤ sizeLine := by
  rw [sizeLine_eq]
  exact fitN n m ha hb h
theorem len0 : (Str.empty).length ≤ 0 := Nat.le_refl 0
theorem line_of {a : Str} {n : Nat} (ha : a.length ≤ n) (h : n ≤ 16777216 := by decide) : a.length ≤ sizeLine := by
  rw [sizeLine_eq]
  omega
/-- a whole number that is no monster -/
def Mod (i : Int) : Prop := -18446744073709551616 < i ∧ i < 18446744073709551616
theorem Mod.log {i : Int} (h : Mod i) : i.natAbs.log2 < 1920 := by
  unfold Mod at h
  by_cases z : i.natAbs = 0
  · rw [z]
    decide
  · have h1 : i.natAbs < 2 ^ 64 := by
      rw [show (2 : Nat) ^ 64 = 18446744073709551616 by decide]
      omega
    exact Nat.lt_trans ((Nat.log2_lt z).mpr h1) (by decide)
theorem Mod.len {i : Int} (h : Mod i) : (Str.ofString (toString i)).length ≤ 1921 := int_text_len_1921 h.log
section
variable {X : Cx} {e a b c : Expr} {t t' : TT} {ta tb tc : TE} {pos : Pos}
theorem PT.imp (h : PT X e t) (k : ∀ σ H Q, t' σ H Q → t σ H Q) : PT X e t' := ⟨fun pins s σ H Q I q => h.run pins s σ H Q I (k σ H Q q)⟩
theorem PE.imp {t t' : TE} (h : PE X e t) (k : ∀ σ H Q, t' σ H Q → t σ H Q) : PE X e t' := ⟨fun pins s σ H Q I q => h.run pins s σ H Q I (k σ H Q q)⟩
/-- a <= b <= c of three plain values -/
def tRng (ta tb tc : TE) : TT := fun σ H Q => ∃ i j k : Int, (∀ R : VK, R (.int i) H → ta σ H R) ∧ (∀ R : VK, R (.int j) H → tb σ H R) ∧ (∀ R : VK, R (.int k) H → tc σ H R) ∧ Q (decide (i ≤ j ∧ j ≤ k)) H
theorem pt_rng (ha : PE X a ta) (hb : PE X b tb) (hc : PE X c tc) (hm : lastMarks [CmpOp.LtE, CmpOp.LtE] [b, c] = false := by rfl) : PT X (.Compare a [.LtE, .LtE] [b, c] pos) (tRng ta tb tc) := by
  refine PT.imp (pt_chain op_le op_le ha hb hc (hm := hm)) ?_
  rintro σ H Q ⟨i, j, k, h1, h2, h3, q⟩
  refine h1 _ (h2 _ ⟨i, j, rfl, rfl, _, rfl, ite2 (fun h => h3 _ ⟨j, k, rfl, rfl, _, rfl, ?_⟩) (fun h => ⟨_, rfl, ?_⟩)⟩)
  · have e : decide (j ≤ k) = decide (i ≤ j ∧ j ≤ k) := by
      have := of_decide_eq_true h
      by_cases z : j ≤ k <;> simp [this, z]
    rw [e]
    exact q
  · have e : false = decide (i ≤ j ∧ j ≤ k) := by
      have : ¬ i ≤ j := fun z => h (decide_eq_true z)
      simp [this]
    rw [e]
    exact q
end
end Rr
namespace Rr
open PySem PySem.Spec PyProof.Rows L2
theorem putF_len (f : Str) (v : V) : ∀ fs : List (Str × V), (putF f v fs).length ≤ fs.length + 1
  | [] => Nat.le_refl _
  | (g, x) :: r => by
    unfold putF
    split
    · simp
    · have := putF_len f v r
      simp only [List.length_cons]
      omega
theorem putF_le {f : Str} {v : V} {fs : List (Str × V)} {n : Nat} (h : fs.length ≤ n) : (putF f v fs).length ≤ n + 1 := Nat.le_trans (putF_len f v fs) (by omega)
theorem few {fs : List (Str × V)} {n : Nat} (h : fs.length ≤ n) (k : n < 1000 := by decide) : fs.length < 1000 := by omega
end Rr
namespace Rr
open PySem PySem.Spec PyProof.Rows L2
open GxR (TabG Tabbed)
/-! ### the line as a dict -/
theorem kvs_find (n : Str) : ∀ ln : Ln, valV (kvsOf ln) (Sum.inr n : Key) = (ln.find? fun p => decide (p.2.name = n)).map fun p => V.ref p.1
  | [] => rfl
  | p :: r => by
    show valV ((Sum.inr p.2.name, V.ref p.1) :: kvsOf r) (Sum.inr n : Key) = _
    by_cases e : p.2.name = n
    · rw [valV_pos (congrArg Sum.inr e), List.find?_cons, decide_eq_true e]
      rfl
    · rw [valV_neg (fun z => e (Sum.inr.inj z)), List.find?_cons, decide_eq_false e]
      exact kvs_find n r
theorem kvs_drop (n : Str) : ∀ ln : Ln, dropK (kvsOf ln) (Sum.inr n : Key) = kvsOf (ln.filter fun p => decide (p.2.name ≠ n))
  | [] => rfl
  | p :: r => by
    show dropK ((Sum.inr p.2.name, V.ref p.1) :: kvsOf r) (Sum.inr n : Key) = _
    by_cases e : p.2.name = n
    · rw [dropK_pos (congrArg Sum.inr e), List.filter_cons, if_neg (by simp [e])]
      exact kvs_drop n r
    · rw [dropK_neg (fun z => e (Sum.inr.inj z)), List.filter_cons, if_pos (by simp [e])]
      exact congrArg (List.cons _) (kvs_drop n r)
theorem kvs_keys (ln : Ln) : (kvsOf ln).map (fun kv => kV kv.1) = (namesL (ln.map (·.2))).map V.str := by
  unfold kvsOf namesL
  rw [List.map_map, List.map_map, List.map_map]
  rfl
theorem kvs_len (ln : Ln) : (kvsOf ln).length = ln.length := List.length_map ..
theorem find_none {n : Str} {ln : Ln} (h : n ∉ namesL (ln.map (·.2))) : (ln.find? fun p => decide (p.2.name = n)) = none := by
  refine List.find?_eq_none.mpr fun p hp z => h ?_
  have e : p.2.name = n := of_decide_eq_true z
  rw [← e]
  exact List.mem_map_of_mem (List.mem_map_of_mem hp)
theorem find_some {n : Str} {ln : Ln} (h : n ∈ namesL (ln.map (·.2))) : ∃ p, (ln.find? fun p => decide (p.2.name = n)) = some p ∧ p ∈ ln ∧ p.2.name = n := by
  cases e : ln.find? fun p => decide (p.2.name = n) with
  | none =>
    obtain ⟨c, hc, rfl⟩ := List.mem_map.mp h
    obtain ⟨p, hp, rfl⟩ := List.mem_map.mp hc
    exact absurd (List.find?_eq_none.mp e p hp) (by simp)
  | some p => exact ⟨p, rfl, List.mem_of_find?_eq_some e, of_decide_eq_true (List.find?_some (p := fun p : Addr × Cr => decide (p.2.name = n)) e)⟩
section
variable {K : PySem.W.Frag} {H H' : Hp} {S S' : List Addr} {d L : Addr} {ln : Ln} {D : Dk}
theorem DkIn.dne (x : DkIn K H d L ln D) : d ≠ L := by
  obtain ⟨dx, e⟩ := x.desk
  exact ne_of e x.line (by intro z; cases z)
theorem DkIn.lne (x : DkIn K H d L ln D) {a : Addr} (h : a ∈ ln.map (·.1)) : a ≠ L := by
  obtain ⟨p, hp, rfl⟩ := List.mem_map.mp h
  obtain ⟨dx, e⟩ := x.crs p hp
  exact ne_of e x.line (by intro z; cases z)
theorem DkIn.cne (x : DkIn K H d L ln D) {a : Addr} (h : a ∈ ln.map (·.1)) : a ≠ d := by
  obtain ⟨p, hp, rfl⟩ := List.mem_map.mp h
  obtain ⟨dx, e⟩ := x.crs p hp
  obtain ⟨dy, e2⟩ := x.desk
  refine ne_of e e2 fun z => ?_
  injection z with _ _ z
  exact absurd (congrArg List.length z) (show ¬ (6 = 4) by decide)
/-- a caller more -/
theorem DkIn.add (x : DkIn K H d L ln D) {a : Addr} {c : Cr} (ha : H a = none) {o : HO} {b : Addr} (hb : H b = none) (hba : b ≠ a) {dx : Addr} (hc : c.name ∉ namesL D.line) (hl : D.line.length < 60) :
    DkIn K (upd (upd (upd H b o) a (.ins (He.ga K "Caller") dx c.fs)) L (.dK (putK (kvsOf ln) (Sum.inr c.name) (.ref a)))) d L (ln ++ [(a, c)]) { D with line := D.line ++ [c] } := by
  have nL : ∀ q v, H q = some v → q ≠ b ∧ q ≠ a := fun q v e => ⟨ne_of_none e hb, ne_of_none e ha⟩
  have ndL := nL _ _ x.line
  have new : valV (kvsOf ln) (Sum.inr c.name : Key) = none := by
    rw [kvs_find, find_none (by rw [x.eq]; exact hc)]
    rfl
  refine ⟨?_, ?_, fun p hp => ?_, ?_, ?_, ?_, ?_⟩
  · obtain ⟨dy, e⟩ := x.desk
    obtain ⟨z1, z2⟩ := nL _ _ e
    exact ⟨dy, by rw [upd_ne x.dne, upd_ne z2, upd_ne z1]; exact e⟩
  · rw [upd_same, putK_new _ new]
    unfold kvsOf
    rw [List.map_append]
    rfl
  · rcases List.mem_append.mp hp with hp | hp
    · obtain ⟨dy, e⟩ := x.crs p hp
      obtain ⟨z1, z2⟩ := nL _ _ e
      exact ⟨dy, by rw [upd_ne (x.lne (List.mem_map_of_mem hp)), upd_ne z2, upd_ne z1]; exact e⟩
    · rw [List.mem_singleton.mp hp]
      exact ⟨dx, by rw [upd_ne (fun z => ndL.2 z.symm), upd_same]⟩
  · rw [List.map_append, x.eq]
    rfl
  · rw [List.map_append]
    refine nd_snoc x.nd fun z => ?_
    obtain ⟨p, hp, e⟩ := List.mem_map.mp z
    obtain ⟨dy, e2⟩ := x.crs p hp
    rw [e, ha] at e2
    cases e2
  · show (namesL (D.line ++ [c])).Nodup
    unfold namesL
    rw [List.map_append]
    exact nd_snoc x.nm hc
  · show (D.line ++ [c]).length ≤ 60
    rw [List.length_append]
    simp
    omega
end
end Rr
namespace Rr
open PySem PySem.Spec PyProof.Rows L2
theorem atZ {α : Type} {xs : List α} {z : Int} (h0 : 0 ≤ z) (h : z.toNat < xs.length) : atI xs z = some xs[z.toNat] := by
  have e : atI xs ((z.toNat : Nat) : Int) = xs[z.toNat]? := by
    cases q : xs[z.toNat]? with
    | none => exact absurd (List.getElem?_eq_none_iff.mp q) (by omega)
    | some x => exact atI_nat q
  rw [Int.toNat_of_nonneg h0] at e
  rw [e, List.getElem?_eq_getElem h]
end Rr
namespace Rr
open PySem PySem.Spec PyProof.Rows L2
/-- what is new, or is of S, is written -/
theorem Keep.set {S : List Addr} {H H1 : Hp} {p : Addr} {o u : HO} (k : Keep S H H1) (h0 : H p = none ∨ p ∈ S) (e : H1 p = some u) (nt : NoT u) : Keep S H (L2.upd H1 p o) :=
  k.trans' (S' := [p]) (Keep.upd e (List.mem_singleton.mpr rfl) nt) fun x hx => by
    rw [List.mem_singleton.mp hx]
    exact h0.symm
end Rr

set_option maxRecDepth 100000
set_option maxHeartbeats 4000000
namespace Rr
open PySem PySem.Spec PyProof.Rows L2
/-! ### the text -/
def top (i : Nat) : Stmt := PySem.Challenge.pw_rrdesk_k03_names.main.body.getD i (.Pass ⟨0, 0, 0, 0⟩)
abbrev s_is_name : Stmt := top 4
abbrev N_is_name : List Str := ["text"]
theorem sc_is_name : FnScope N_is_name ["text"] (defScope s_is_name) := ⟨rfl, rfl, rfl, by decide +kernel, rfl, by decide +kernel, by decide +kernel⟩
abbrev s_Caller___init__ : Stmt := inClass (top 7) 0
abbrev N_Caller___init__ : List Str := ["self", "name", "rank", "since"]
theorem sc_Caller___init__ : FnScope N_Caller___init__ ["self", "name", "rank", "since"] (defScope s_Caller___init__) := ⟨rfl, rfl, rfl, by decide +kernel, rfl, by decide +kernel, by decide +kernel⟩
abbrev s_Caller_become : Stmt := inClass (top 7) 1
abbrev N_Caller_become : List Str := ["self", "state", "since", "due", "bell"]
theorem sc_Caller_become : FnScope N_Caller_become ["self", "state", "since", "due", "bell"] (defScope s_Caller_become) := ⟨rfl, rfl, rfl, by decide +kernel, rfl, by decide +kernel, by decide +kernel⟩
abbrev s_aged : Stmt := top 20
abbrev N_aged : List Str := ["rank", "waited", "pace"]
theorem sc_aged : FnScope N_aged ["rank", "waited", "pace"] (defScope s_aged) := ⟨rfl, rfl, rfl, by decide +kernel, rfl, by decide +kernel, by decide +kernel⟩
abbrev s_first : Stmt := top 21
abbrev N_first : List Str := ["rows", "pace", "place", "best", "at", "rank", "waited", "reached"]
theorem sc_first : FnScope N_first ["rows", "pace"] (defScope s_first) := ⟨rfl, rfl, rfl, by decide +kernel, rfl, by decide +kernel, by decide +kernel⟩
abbrev s_check_name : Stmt := top 25
abbrev N_check_name : List Str := ["text"]
theorem sc_check_name : FnScope N_check_name ["text"] (defScope s_check_name) := ⟨rfl, rfl, rfl, by decide +kernel, rfl, by decide +kernel, by decide +kernel⟩
abbrev s_check_rank : Stmt := top 26
abbrev N_check_rank : List Str := ["rank"]
theorem sc_check_rank : FnScope N_check_rank ["rank"] (defScope s_check_rank) := ⟨rfl, rfl, rfl, by decide +kernel, rfl, by decide +kernel, by decide +kernel⟩
abbrev s_check_ready : Stmt := top 27
abbrev N_check_ready : List Str := ["caller"]
theorem sc_check_ready : FnScope N_check_ready ["caller"] (defScope s_check_ready) := ⟨rfl, rfl, rfl, by decide +kernel, rfl, by decide +kernel, by decide +kernel⟩
abbrev s_check_not_ready : Stmt := top 28
abbrev N_check_not_ready : List Str := ["caller"]
theorem sc_check_not_ready : FnScope N_check_not_ready ["caller"] (defScope s_check_not_ready) := ⟨rfl, rfl, rfl, by decide +kernel, rfl, by decide +kernel, by decide +kernel⟩
abbrev s_Desk___init__ : Stmt := inClass (top 29) 0
abbrev N_Desk___init__ : List Str := ["self", "pace", "room"]
theorem sc_Desk___init__ : FnScope N_Desk___init__ ["self", "pace", "room"] (defScope s_Desk___init__) := ⟨rfl, rfl, rfl, by decide +kernel, rfl, by decide +kernel, by decide +kernel⟩
abbrev s_Desk_enter : Stmt := inClass (top 29) 1
abbrev N_Desk_enter : List Str := ["self", "name", "rank"]
theorem sc_Desk_enter : FnScope N_Desk_enter ["self", "name", "rank"] (defScope s_Desk_enter) := ⟨rfl, rfl, rfl, by decide +kernel, rfl, by decide +kernel, by decide +kernel⟩
abbrev s_Desk_wake : Stmt := inClass (top 29) 5
abbrev N_Desk_wake : List Str := ["self", "name", "caller"]
theorem sc_Desk_wake : FnScope N_Desk_wake ["self", "name"] (defScope s_Desk_wake) := ⟨rfl, rfl, rfl, by decide +kernel, rfl, by decide +kernel, by decide +kernel⟩
abbrev s_Desk_turn : Stmt := inClass (top 29) 8
abbrev N_Desk_turn : List Str := ["self", "ran", "caller"]
theorem sc_Desk_turn : FnScope N_Desk_turn ["self"] (defScope s_Desk_turn) := ⟨rfl, rfl, rfl, by decide +kernel, rfl, by decide +kernel, by decide +kernel⟩
abbrev s_Desk_names : Stmt := inClass (top 29) 11
abbrev N_Desk_names : List Str := ["self"]
theorem sc_Desk_names : FnScope N_Desk_names ["self"] (defScope s_Desk_names) := ⟨rfl, rfl, rfl, by decide +kernel, rfl, by decide +kernel, by decide +kernel⟩
abbrev s_Desk_ready : Stmt := inClass (top 29) 12
abbrev N_Desk_ready : List Str := ["self", "callers", "chosen", "caller"]
theorem sc_Desk_ready : FnScope N_Desk_ready ["self"] (defScope s_Desk_ready) := ⟨rfl, rfl, rfl, by decide +kernel, rfl, by decide +kernel, by decide +kernel⟩
abbrev s_Desk_state : Stmt := inClass (top 29) 13
abbrev N_Desk_state : List Str := ["self", "name"]
theorem sc_Desk_state : FnScope N_Desk_state ["self", "name"] (defScope s_Desk_state) := ⟨rfl, rfl, rfl, by decide +kernel, rfl, by decide +kernel, by decide +kernel⟩
abbrev s_Desk_rank : Stmt := inClass (top 29) 14
abbrev N_Desk_rank : List Str := ["self", "name"]
theorem sc_Desk_rank : FnScope N_Desk_rank ["self", "name"] (defScope s_Desk_rank) := ⟨rfl, rfl, rfl, by decide +kernel, rfl, by decide +kernel, by decide +kernel⟩
abbrev s_Desk_waited : Stmt := inClass (top 29) 15
abbrev N_Desk_waited : List Str := ["self", "name", "caller"]
theorem sc_Desk_waited : FnScope N_Desk_waited ["self", "name"] (defScope s_Desk_waited) := ⟨rfl, rfl, rfl, by decide +kernel, rfl, by decide +kernel, by decide +kernel⟩
abbrev s_Desk_bell : Stmt := inClass (top 29) 18
abbrev N_Desk_bell : List Str := ["self", "name"]
theorem sc_Desk_bell : FnScope N_Desk_bell ["self", "name"] (defScope s_Desk_bell) := ⟨rfl, rfl, rfl, by decide +kernel, rfl, by decide +kernel, by decide +kernel⟩
abbrev s_Desk__known : Stmt := inClass (top 29) 20
abbrev N_Desk__known : List Str := ["self", "name", "caller"]
theorem sc_Desk__known : FnScope N_Desk__known ["self", "name"] (defScope s_Desk__known) := ⟨rfl, rfl, rfl, by decide +kernel, rfl, by decide +kernel, by decide +kernel⟩
abbrev s_Desk__waited : Stmt := inClass (top 29) 21
abbrev N_Desk__waited : List Str := ["self", "caller"]
theorem sc_Desk__waited : FnScope N_Desk__waited ["self", "caller"] (defScope s_Desk__waited) := ⟨rfl, rfl, rfl, by decide +kernel, rfl, by decide +kernel, by decide +kernel⟩
abbrev s_Desk__ready_callers : Stmt := inClass (top 29) 22
abbrev N_Desk__ready_callers : List Str := ["self", "caller"]
theorem sc_Desk__ready_callers : FnScope N_Desk__ready_callers ["self"] (defScope s_Desk__ready_callers) := ⟨rfl, rfl, rfl, by decide +kernel, rfl, by decide +kernel, by decide +kernel⟩
abbrev s_Desk__chosen : Stmt := inClass (top 29) 23
abbrev N_Desk__chosen : List Str := ["self", "callers", "place", "caller"]
theorem sc_Desk__chosen : FnScope N_Desk__chosen ["self"] (defScope s_Desk__chosen) := ⟨rfl, rfl, rfl, by decide +kernel, rfl, by decide +kernel, by decide +kernel⟩
abbrev s_Desk__make_ready : Stmt := inClass (top 29) 24
abbrev N_Desk__make_ready : List Str := ["self", "callers", "caller"]
theorem sc_Desk__make_ready : FnScope N_Desk__make_ready ["self", "callers"] (defScope s_Desk__make_ready) := ⟨rfl, rfl, rfl, by decide +kernel, rfl, by decide +kernel, by decide +kernel⟩
abbrev s_Desk__go_last : Stmt := inClass (top 29) 25
abbrev N_Desk__go_last : List Str := ["self", "caller"]
theorem sc_Desk__go_last : FnScope N_Desk__go_last ["self", "caller"] (defScope s_Desk__go_last) := ⟨rfl, rfl, rfl, by decide +kernel, rfl, by decide +kernel, by decide +kernel⟩
abbrev s__law_cell_at : Stmt := top 31
abbrev N__law_cell_at : List Str := ["_law_script", "_law_k"]
theorem sc__law_cell_at : FnScope N__law_cell_at ["_law_script", "_law_k"] (defScope s__law_cell_at) := ⟨rfl, rfl, rfl, by decide +kernel, rfl, by decide +kernel, by decide +kernel⟩
abbrev s__law_sign_by : Stmt := top 32
abbrev N__law_sign_by : List Str := ["_law_cell", "_law_some"]
theorem sc__law_sign_by : FnScope N__law_sign_by ["_law_cell"] (defScope s__law_sign_by) := ⟨rfl, rfl, rfl, by decide +kernel, rfl, by decide +kernel, by decide +kernel⟩
abbrev s__law_text : Stmt := top 33
abbrev N__law_text : List Str := ["_law_script", "_law_good", "_law_size", "_law_signs", "_law_k"]
theorem sc__law_text : FnScope N__law_text ["_law_script"] (defScope s__law_text) := ⟨rfl, rfl, rfl, by decide +kernel, rfl, by decide +kernel, by decide +kernel⟩
abbrev s_law : Stmt := top 34
abbrev N_law : List Str := ["_law_script", "_law_text_here", "_law_due", "_law_sign", "_law_found", "_law_desk", "_law_refused"]
theorem sc_law : FnScope N_law ["_law_script"] (defScope s_law) := ⟨rfl, rfl, rfl, by decide +kernel, rfl, by decide +kernel, by decide +kernel⟩
/-! ### what the top has written -/
structure Tx (K : PySem.W.Frag) (mg : Str → Option Value) (base : Heap) : Prop where
  m_all : mg "all" = none
  m_len : mg "len" = none
  m_enumerate : mg "enumerate" = none
  m_list : mg "list" = none
  m_range : mg "range" = none
  m_bool : mg "bool" = none
  m_isinstance : mg "isinstance" = none
  h_MOST_SIGNS : ∃ t, mg "MOST_SIGNS" = some (.int 12 t)
  h_SIGNS : ∃ t, mg "SIGNS" = some (.str "abcdefghijklmnopqrstuvwxyz0123456789" t)
  h_READY : ∃ t, mg "READY" = some (.str "ready" t)
  h_TOP : ∃ t, mg "TOP" = some (.int 99 t)
  h_MOST_PACE : ∃ t, mg "MOST_PACE" = some (.int 1000 t)
  h_MOST_ROOM : ∃ t, mg "MOST_ROOM" = some (.int 60 t)
  r_Caller : mg "Caller" = some (.ref (He.ga K "Caller"))
  r_DeskError : mg "DeskError" = some (.ref (He.ga K "DeskError"))
  r_NoName : mg "NoName" = some (.ref (He.ga K "NoName"))
  r_NoRank : mg "NoRank" = some (.ref (He.ga K "NoRank"))
  r_NoDesk : mg "NoDesk" = some (.ref (He.ga K "NoDesk"))
  r_Known : mg "Known" = some (.ref (He.ga K "Known"))
  r_Unknown : mg "Unknown" = some (.ref (He.ga K "Unknown"))
  r_Full : mg "Full" = some (.ref (He.ga K "Full"))
  r_NotReady : mg "NotReady" = some (.ref (He.ga K "NotReady"))
  r_IsReady : mg "IsReady" = some (.ref (He.ga K "IsReady"))
  r_Desk : mg "Desk" = some (.ref (He.ga K "Desk"))
  e_DeskError : PySem.W.excIn K (He.ga K "DeskError") He.veBase "ValueError.__new__" = true ∧ PySem.W.keepIn K (.ref (He.ga K "DeskError")) = true ∧ PySem.W.subIn K (.ref (He.ga K "DeskError")) (.type "BaseException") = some true ∧ PySem.W.typeIn K (.ref (He.ga K "DeskError")) = some (.type "type")
  e_NoName : PySem.W.excIn K (He.ga K "NoName") He.veBase "ValueError.__new__" = true ∧ PySem.W.keepIn K (.ref (He.ga K "NoName")) = true ∧ PySem.W.subIn K (.ref (He.ga K "NoName")) (.type "BaseException") = some true ∧ PySem.W.typeIn K (.ref (He.ga K "NoName")) = some (.type "type")
  e_NoRank : PySem.W.excIn K (He.ga K "NoRank") He.veBase "ValueError.__new__" = true ∧ PySem.W.keepIn K (.ref (He.ga K "NoRank")) = true ∧ PySem.W.subIn K (.ref (He.ga K "NoRank")) (.type "BaseException") = some true ∧ PySem.W.typeIn K (.ref (He.ga K "NoRank")) = some (.type "type")
  e_NoDesk : PySem.W.excIn K (He.ga K "NoDesk") He.veBase "ValueError.__new__" = true ∧ PySem.W.keepIn K (.ref (He.ga K "NoDesk")) = true ∧ PySem.W.subIn K (.ref (He.ga K "NoDesk")) (.type "BaseException") = some true ∧ PySem.W.typeIn K (.ref (He.ga K "NoDesk")) = some (.type "type")
  e_Known : PySem.W.excIn K (He.ga K "Known") He.veBase "ValueError.__new__" = true ∧ PySem.W.keepIn K (.ref (He.ga K "Known")) = true ∧ PySem.W.subIn K (.ref (He.ga K "Known")) (.type "BaseException") = some true ∧ PySem.W.typeIn K (.ref (He.ga K "Known")) = some (.type "type")
  e_Unknown : PySem.W.excIn K (He.ga K "Unknown") He.veBase "ValueError.__new__" = true ∧ PySem.W.keepIn K (.ref (He.ga K "Unknown")) = true ∧ PySem.W.subIn K (.ref (He.ga K "Unknown")) (.type "BaseException") = some true ∧ PySem.W.typeIn K (.ref (He.ga K "Unknown")) = some (.type "type")
  e_Full : PySem.W.excIn K (He.ga K "Full") He.veBase "ValueError.__new__" = true ∧ PySem.W.keepIn K (.ref (He.ga K "Full")) = true ∧ PySem.W.subIn K (.ref (He.ga K "Full")) (.type "BaseException") = some true ∧ PySem.W.typeIn K (.ref (He.ga K "Full")) = some (.type "type")
  e_NotReady : PySem.W.excIn K (He.ga K "NotReady") He.veBase "ValueError.__new__" = true ∧ PySem.W.keepIn K (.ref (He.ga K "NotReady")) = true ∧ PySem.W.subIn K (.ref (He.ga K "NotReady")) (.type "BaseException") = some true ∧ PySem.W.typeIn K (.ref (He.ga K "NotReady")) = some (.type "type")
  e_IsReady : PySem.W.excIn K (He.ga K "IsReady") He.veBase "ValueError.__new__" = true ∧ PySem.W.keepIn K (.ref (He.ga K "IsReady")) = true ∧ PySem.W.subIn K (.ref (He.ga K "IsReady")) (.type "BaseException") = some true ∧ PySem.W.typeIn K (.ref (He.ga K "IsReady")) = some (.type "type")
  x_NoName_NoName : PySem.W.exmOne K (.ref (He.ga K "NoName")) (.ref (He.ga K "NoName")) = some true
  cl_Caller : Cls K (He.ga K "Caller")
  mk_Caller : Mk K (He.ga K "Caller") (He.fAd K ("Caller", some "__init__"))
  na_Caller_bell : NoAttr K (He.ga K "Caller") "bell"
  na_Caller_due : NoAttr K (He.ga K "Caller") "due"
  na_Caller_name : NoAttr K (He.ga K "Caller") "name"
  na_Caller_rank : NoAttr K (He.ga K "Caller") "rank"
  na_Caller_since : NoAttr K (He.ga K "Caller") "since"
  na_Caller_state : NoAttr K (He.ga K "Caller") "state"
  cl_Desk : Cls K (He.ga K "Desk")
  mk_Desk : Mk K (He.ga K "Desk") (He.fAd K ("Desk", some "__init__"))
  na_Desk__line : NoAttr K (He.ga K "Desk") "_line"
  na_Desk_now : NoAttr K (He.ga K "Desk") "now"
  na_Desk_pace : NoAttr K (He.ga K "Desk") "pace"
  na_Desk_room : NoAttr K (He.ga K "Desk") "room"
  r_is_name : mg "is_name" = some (.ref (He.ga K "is_name"))
  me_Caller_become : Meth K (He.ga K "Caller") "become" (He.fAd K ("Caller", some "become"))
  r_aged : mg "aged" = some (.ref (He.ga K "aged"))
  r_first : mg "first" = some (.ref (He.ga K "first"))
  r_check_name : mg "check_name" = some (.ref (He.ga K "check_name"))
  r_check_rank : mg "check_rank" = some (.ref (He.ga K "check_rank"))
  r_check_ready : mg "check_ready" = some (.ref (He.ga K "check_ready"))
  r_check_not_ready : mg "check_not_ready" = some (.ref (He.ga K "check_not_ready"))
  me_Desk_enter : Meth K (He.ga K "Desk") "enter" (He.fAd K ("Desk", some "enter"))
  me_Desk_wake : Meth K (He.ga K "Desk") "wake" (He.fAd K ("Desk", some "wake"))
  me_Desk_turn : Meth K (He.ga K "Desk") "turn" (He.fAd K ("Desk", some "turn"))
  me_Desk_names : Meth K (He.ga K "Desk") "names" (He.fAd K ("Desk", some "names"))
  me_Desk_ready : Meth K (He.ga K "Desk") "ready" (He.fAd K ("Desk", some "ready"))
  me_Desk_state : Meth K (He.ga K "Desk") "state" (He.fAd K ("Desk", some "state"))
  me_Desk_rank : Meth K (He.ga K "Desk") "rank" (He.fAd K ("Desk", some "rank"))
  me_Desk_waited : Meth K (He.ga K "Desk") "waited" (He.fAd K ("Desk", some "waited"))
  me_Desk_bell : Meth K (He.ga K "Desk") "bell" (He.fAd K ("Desk", some "bell"))
  me_Desk__known : Meth K (He.ga K "Desk") "_known" (He.fAd K ("Desk", some "_known"))
  me_Desk__waited : Meth K (He.ga K "Desk") "_waited" (He.fAd K ("Desk", some "_waited"))
  me_Desk__ready_callers : Meth K (He.ga K "Desk") "_ready_callers" (He.fAd K ("Desk", some "_ready_callers"))
  me_Desk__chosen : Meth K (He.ga K "Desk") "_chosen" (He.fAd K ("Desk", some "_chosen"))
  me_Desk__make_ready : Meth K (He.ga K "Desk") "_make_ready" (He.fAd K ("Desk", some "_make_ready"))
  me_Desk__go_last : Meth K (He.ga K "Desk") "_go_last" (He.fAd K ("Desk", some "_go_last"))
  r__law_cell_at : mg "_law_cell_at" = some (.ref (He.ga K "_law_cell_at"))
  r__law_sign_by : mg "_law_sign_by" = some (.ref (He.ga K "_law_sign_by"))
  r__law_text : mg "_law_text" = some (.ref (He.ga K "_law_text"))
  r_law : mg "law" = some (.ref (He.ga K "law"))
  d_is_name : ∃ fd, FunD K "is_name" "is_name" (defArgs s_is_name) (defBody s_is_name) (defScope s_is_name) [] [] (He.fAd K ("is_name", none)) fd
  d_Caller___init__ : ∃ fd, FunD K "__init__" "Caller.__init__" (defArgs s_Caller___init__) (defBody s_Caller___init__) (defScope s_Caller___init__) [] [] (He.fAd K ("Caller", some "__init__")) fd
  d_Caller_become : ∃ fd, FunD K "become" "Caller.become" (defArgs s_Caller_become) (defBody s_Caller_become) (defScope s_Caller_become) [.non, .non, .non] [] (He.fAd K ("Caller", some "become")) fd
  d_aged : ∃ fd, FunD K "aged" "aged" (defArgs s_aged) (defBody s_aged) (defScope s_aged) [] [] (He.fAd K ("aged", none)) fd
  d_first : ∃ fd, FunD K "first" "first" (defArgs s_first) (defBody s_first) (defScope s_first) [] [] (He.fAd K ("first", none)) fd
  d_check_name : ∃ fd, FunD K "check_name" "check_name" (defArgs s_check_name) (defBody s_check_name) (defScope s_check_name) [] [] (He.fAd K ("check_name", none)) fd
  d_check_rank : ∃ fd, FunD K "check_rank" "check_rank" (defArgs s_check_rank) (defBody s_check_rank) (defScope s_check_rank) [] [] (He.fAd K ("check_rank", none)) fd
  d_check_ready : ∃ fd, FunD K "check_ready" "check_ready" (defArgs s_check_ready) (defBody s_check_ready) (defScope s_check_ready) [] [] (He.fAd K ("check_ready", none)) fd
  d_check_not_ready : ∃ fd, FunD K "check_not_ready" "check_not_ready" (defArgs s_check_not_ready) (defBody s_check_not_ready) (defScope s_check_not_ready) [] [] (He.fAd K ("check_not_ready", none)) fd
  d_Desk___init__ : ∃ fd, FunD K "__init__" "Desk.__init__" (defArgs s_Desk___init__) (defBody s_Desk___init__) (defScope s_Desk___init__) [] [] (He.fAd K ("Desk", some "__init__")) fd
  d_Desk_enter : ∃ fd, FunD K "enter" "Desk.enter" (defArgs s_Desk_enter) (defBody s_Desk_enter) (defScope s_Desk_enter) [] [] (He.fAd K ("Desk", some "enter")) fd
  d_Desk_wake : ∃ fd, FunD K "wake" "Desk.wake" (defArgs s_Desk_wake) (defBody s_Desk_wake) (defScope s_Desk_wake) [] [] (He.fAd K ("Desk", some "wake")) fd
  d_Desk_turn : ∃ fd, FunD K "turn" "Desk.turn" (defArgs s_Desk_turn) (defBody s_Desk_turn) (defScope s_Desk_turn) [] [] (He.fAd K ("Desk", some "turn")) fd
  d_Desk_names : ∃ fd, FunD K "names" "Desk.names" (defArgs s_Desk_names) (defBody s_Desk_names) (defScope s_Desk_names) [] [] (He.fAd K ("Desk", some "names")) fd
  d_Desk_ready : ∃ fd, FunD K "ready" "Desk.ready" (defArgs s_Desk_ready) (defBody s_Desk_ready) (defScope s_Desk_ready) [] [] (He.fAd K ("Desk", some "ready")) fd
  d_Desk_state : ∃ fd, FunD K "state" "Desk.state" (defArgs s_Desk_state) (defBody s_Desk_state) (defScope s_Desk_state) [] [] (He.fAd K ("Desk", some "state")) fd
  d_Desk_rank : ∃ fd, FunD K "rank" "Desk.rank" (defArgs s_Desk_rank) (defBody s_Desk_rank) (defScope s_Desk_rank) [] [] (He.fAd K ("Desk", some "rank")) fd
  d_Desk_waited : ∃ fd, FunD K "waited" "Desk.waited" (defArgs s_Desk_waited) (defBody s_Desk_waited) (defScope s_Desk_waited) [] [] (He.fAd K ("Desk", some "waited")) fd
  d_Desk_bell : ∃ fd, FunD K "bell" "Desk.bell" (defArgs s_Desk_bell) (defBody s_Desk_bell) (defScope s_Desk_bell) [] [] (He.fAd K ("Desk", some "bell")) fd
  d_Desk__known : ∃ fd, FunD K "_known" "Desk._known" (defArgs s_Desk__known) (defBody s_Desk__known) (defScope s_Desk__known) [] [] (He.fAd K ("Desk", some "_known")) fd
  d_Desk__waited : ∃ fd, FunD K "_waited" "Desk._waited" (defArgs s_Desk__waited) (defBody s_Desk__waited) (defScope s_Desk__waited) [] [] (He.fAd K ("Desk", some "_waited")) fd
  d_Desk__ready_callers : ∃ fd, FunD K "_ready_callers" "Desk._ready_callers" (defArgs s_Desk__ready_callers) (defBody s_Desk__ready_callers) (defScope s_Desk__ready_callers) [] [] (He.fAd K ("Desk", some "_ready_callers")) fd
  d_Desk__chosen : ∃ fd, FunD K "_chosen" "Desk._chosen" (defArgs s_Desk__chosen) (defBody s_Desk__chosen) (defScope s_Desk__chosen) [] [] (He.fAd K ("Desk", some "_chosen")) fd
  d_Desk__make_ready : ∃ fd, FunD K "_make_ready" "Desk._make_ready" (defArgs s_Desk__make_ready) (defBody s_Desk__make_ready) (defScope s_Desk__make_ready) [] [] (He.fAd K ("Desk", some "_make_ready")) fd
  d_Desk__go_last : ∃ fd, FunD K "_go_last" "Desk._go_last" (defArgs s_Desk__go_last) (defBody s_Desk__go_last) (defScope s_Desk__go_last) [] [] (He.fAd K ("Desk", some "_go_last")) fd
  d__law_cell_at : ∃ fd, FunD K "_law_cell_at" "_law_cell_at" (defArgs s__law_cell_at) (defBody s__law_cell_at) (defScope s__law_cell_at) [] [] (He.fAd K ("_law_cell_at", none)) fd
  d__law_sign_by : ∃ fd, FunD K "_law_sign_by" "_law_sign_by" (defArgs s__law_sign_by) (defBody s__law_sign_by) (defScope s__law_sign_by) [] [] (He.fAd K ("_law_sign_by", none)) fd
  d__law_text : ∃ fd, FunD K "_law_text" "_law_text" (defArgs s__law_text) (defBody s__law_text) (defScope s__law_text) [] [] (He.fAd K ("_law_text", none)) fd
  d_law : ∃ fd, FunD K "law" "law" (defArgs s_law) (defBody s_law) (defScope s_law) [] [] (He.fAd K ("law", none)) fd
  tb_is_name : GxR.TabB base mg (He.codeOf K ("is_name", none)) (He.tabOf K (He.codeOf K ("is_name", none)))
def fa : List He.Fa := [.free "all", .free "len", .free "enumerate", .free "list", .free "range", .free "bool", .free "isinstance", .int "MOST_SIGNS" 12, .str "SIGNS" "abcdefghijklmnopqrstuvwxyz0123456789", .str "READY" "ready", .int "TOP" 99, .int "MOST_PACE" 1000, .int "MOST_ROOM" 60, .glo "Caller", .glo "DeskError", .glo "NoName", .glo "NoRank", .glo "NoDesk", .glo "Known", .glo "Unknown", .glo "Full", .glo "NotReady", .glo "IsReady", .glo "Desk", .exc "DeskError", .exc "NoName", .exc "NoRank", .exc "NoDesk", .exc "Known", .exc "Unknown", .exc "Full", .exc "NotReady", .exc "IsReady", .exm "NoName" "NoName" true, .cls "Caller", .mkr "Caller", .noat "Caller" "bell", .noat "Caller" "due", .noat "Caller" "name", .noat "Caller" "rank", .noat "Caller" "since", .noat "Caller" "state", .cls "Desk", .mkr "Desk", .noat "Desk" "_line", .noat "Desk" "now", .noat "Desk" "pace", .noat "Desk" "room", .glo "is_name", .meth "Caller" "become", .glo "aged", .glo "first", .glo "check_name", .glo "check_rank", .glo "check_ready", .glo "check_not_ready", .meth "Desk" "enter", .meth "Desk" "wake", .meth "Desk" "turn", .meth "Desk" "names", .meth "Desk" "ready", .meth "Desk" "state", .meth "Desk" "rank", .meth "Desk" "waited", .meth "Desk" "bell", .meth "Desk" "_known", .meth "Desk" "_waited", .meth "Desk" "_ready_callers", .meth "Desk" "_chosen", .meth "Desk" "_make_ready", .meth "Desk" "_go_last", .glo "_law_cell_at", .glo "_law_sign_by", .glo "_law_text", .glo "law"]
def fn : List He.DefD := [⟨("is_name", none), "is_name", "is_name", defArgs s_is_name, defBody s_is_name, defScope s_is_name, [], []⟩,
  ⟨("Caller", some "__init__"), "__init__", "Caller.__init__", defArgs s_Caller___init__, defBody s_Caller___init__, defScope s_Caller___init__, [], []⟩,
  ⟨("Caller", some "become"), "become", "Caller.become", defArgs s_Caller_become, defBody s_Caller_become, defScope s_Caller_become, [.non, .non, .non], []⟩,
  ⟨("aged", none), "aged", "aged", defArgs s_aged, defBody s_aged, defScope s_aged, [], []⟩,
  ⟨("first", none), "first", "first", defArgs s_first, defBody s_first, defScope s_first, [], []⟩,
  ⟨("check_name", none), "check_name", "check_name", defArgs s_check_name, defBody s_check_name, defScope s_check_name, [], []⟩,
  ⟨("check_rank", none), "check_rank", "check_rank", defArgs s_check_rank, defBody s_check_rank, defScope s_check_rank, [], []⟩,
  ⟨("check_ready", none), "check_ready", "check_ready", defArgs s_check_ready, defBody s_check_ready, defScope s_check_ready, [], []⟩,
  ⟨("check_not_ready", none), "check_not_ready", "check_not_ready", defArgs s_check_not_ready, defBody s_check_not_ready, defScope s_check_not_ready, [], []⟩,
  ⟨("Desk", some "__init__"), "__init__", "Desk.__init__", defArgs s_Desk___init__, defBody s_Desk___init__, defScope s_Desk___init__, [], []⟩,
  ⟨("Desk", some "enter"), "enter", "Desk.enter", defArgs s_Desk_enter, defBody s_Desk_enter, defScope s_Desk_enter, [], []⟩,
  ⟨("Desk", some "wake"), "wake", "Desk.wake", defArgs s_Desk_wake, defBody s_Desk_wake, defScope s_Desk_wake, [], []⟩,
  ⟨("Desk", some "turn"), "turn", "Desk.turn", defArgs s_Desk_turn, defBody s_Desk_turn, defScope s_Desk_turn, [], []⟩,
  ⟨("Desk", some "names"), "names", "Desk.names", defArgs s_Desk_names, defBody s_Desk_names, defScope s_Desk_names, [], []⟩,
  ⟨("Desk", some "ready"), "ready", "Desk.ready", defArgs s_Desk_ready, defBody s_Desk_ready, defScope s_Desk_ready, [], []⟩,
  ⟨("Desk", some "state"), "state", "Desk.state", defArgs s_Desk_state, defBody s_Desk_state, defScope s_Desk_state, [], []⟩,
  ⟨("Desk", some "rank"), "rank", "Desk.rank", defArgs s_Desk_rank, defBody s_Desk_rank, defScope s_Desk_rank, [], []⟩,
  ⟨("Desk", some "waited"), "waited", "Desk.waited", defArgs s_Desk_waited, defBody s_Desk_waited, defScope s_Desk_waited, [], []⟩,
  ⟨("Desk", some "bell"), "bell", "Desk.bell", defArgs s_Desk_bell, defBody s_Desk_bell, defScope s_Desk_bell, [], []⟩,
  ⟨("Desk", some "_known"), "_known", "Desk._known", defArgs s_Desk__known, defBody s_Desk__known, defScope s_Desk__known, [], []⟩,
  ⟨("Desk", some "_waited"), "_waited", "Desk._waited", defArgs s_Desk__waited, defBody s_Desk__waited, defScope s_Desk__waited, [], []⟩,
  ⟨("Desk", some "_ready_callers"), "_ready_callers", "Desk._ready_callers", defArgs s_Desk__ready_callers, defBody s_Desk__ready_callers, defScope s_Desk__ready_callers, [], []⟩,
  ⟨("Desk", some "_chosen"), "_chosen", "Desk._chosen", defArgs s_Desk__chosen, defBody s_Desk__chosen, defScope s_Desk__chosen, [], []⟩,
  ⟨("Desk", some "_make_ready"), "_make_ready", "Desk._make_ready", defArgs s_Desk__make_ready, defBody s_Desk__make_ready, defScope s_Desk__make_ready, [], []⟩,
  ⟨("Desk", some "_go_last"), "_go_last", "Desk._go_last", defArgs s_Desk__go_last, defBody s_Desk__go_last, defScope s_Desk__go_last, [], []⟩,
  ⟨("_law_cell_at", none), "_law_cell_at", "_law_cell_at", defArgs s__law_cell_at, defBody s__law_cell_at, defScope s__law_cell_at, [], []⟩,
  ⟨("_law_sign_by", none), "_law_sign_by", "_law_sign_by", defArgs s__law_sign_by, defBody s__law_sign_by, defScope s__law_sign_by, [], []⟩,
  ⟨("_law_text", none), "_law_text", "_law_text", defArgs s__law_text, defBody s__law_text, defScope s__law_text, [], []⟩,
  ⟨("law", none), "law", "law", defArgs s_law, defBody s_law, defScope s_law, [], []⟩]
def tf : List He.Defn := [("is_name", none)]
def ex (K : PySem.W.Frag) : Bool := true
end Rr

set_option maxRecDepth 100000
set_option maxHeartbeats 4000000
namespace Rr
open PySem PySem.Spec PyProof.Rows L2
open GxR (TabG Tabbed)
section
variable {P : Program} {w : World} {K : PySem.W.Frag} {mg : Str → Option Value} {base : Heap}
abbrev tabN (K : PySem.W.Frag) : Addr := He.tabOf K (He.codeOf K ("is_name", none))
abbrev xc (K : PySem.W.Frag) (x : Str) : Value := .ref (He.ga K x)
def sp_is_name (K : PySem.W.Frag) : Sp := fun vs H Q _ => ∃ x : Str, vs = [.str x] ∧ x.length ≤ sizeLine ∧ TabG H (tabN K) ∧ ∀ H', Keep [] H H' → Q (.bl (isName x)) H'
theorem isName_of {x : Str} (h1 : 1 ≤ (x.length : Int)) (h2 : (x.length : Int) ≤ 12) : isName x = x.cps.toList.all isSign := by
  unfold isName
  rw [decide_eq_true (show 1 ≤ x.length ∧ x.length ≤ 12 by omega), Bool.true_and]
theorem isName_no {x : Str} (h : ¬ (1 ≤ (x.length : Int) ∧ (x.length : Int) ≤ 12)) : isName x = false := by
  unfold isName
  rw [decide_eq_false (show ¬ (1 ≤ x.length ∧ x.length ≤ 12) by omega), Bool.false_and]
theorem c_is_name (T : Tx K mg base) : Cal P w K mg base 1 "is_name" (sp_is_name K) := by
  obtain ⟨fd, F⟩ := T.d_is_name
  refine ⟨_, fd, ["text"], okF (k := 0) F sc_is_name (fun vs H Q E h => ?_) (fun A outer s H vs Q E hr h => ?_), T.r_is_name, F.kp, F.bindsN fun _ _ _ _ _ _ us hl => match us, hl with | [_], _ => rfl⟩
  · obtain ⟨x, rfl, _⟩ := h
    rfl
  · have nd := sc_is_name.nd
    obtain ⟨x, rfl, hx, hT, q⟩ := h
    refine ⟨_, (pss_cons (ps_if (pt_not (pt_rng pe_int (pe_callB call_len_str (by rfl) T.m_len boot_len (pa_cons (pv 0) pa_nil)) (pgI (by rfl) T.h_MOST_SIGNS)))
  (pss_one (ps_ret pe_bl))
  pss_nil)
  (pss_one (ps_ret (pe_all hr (by rfl) T.m_all T.tb_is_name rfl (gs_of (by decide +kernel)) (pv 0) (elt_in rfl rfl rfl T.h_SIGNS) (fun _ => rfl))))), ?_⟩
    refine ⟨1, _, 12, fun _ z => z, fun _ z => ⟨_, rfl, _, rfl, hx, z⟩, fun _ z => z, ?_⟩
    by_cases e : 1 ≤ (x.length : Int) ∧ (x.length : Int) ≤ 12
    · rw [decide_eq_true e]
      refine iteF ⟨_, rfl, x, rfl, hT, fun H2 t => ?_⟩
      have e2 := q H2 (Keep.tabbed t hT)
      rw [isName_of e.1 e.2] at e2
      exact e2
    · rw [decide_eq_false e]
      have e2 := q H (Keep.refl _ _)
      rw [isName_no e] at e2
      exact iteT e2
def sp_check_name (K : PySem.W.Frag) : Sp := fun vs H Q E => ∃ x : Str, vs = [.str x] ∧ Small x ∧ TabG H (tabN K) ∧ ∀ H', Keep [] H H' → (isName x = false → E (xc K "NoName") none H') ∧ (isName x = true → Q .non H')
theorem c_check_name (T : Tx K mg base) : Cal P w K mg base 2 "check_name" (sp_check_name K) := by
  have c_is_name : Cal P w K mg base 1 "is_name" (sp_is_name K) := c_is_name T
  obtain ⟨fd, F⟩ := T.d_check_name
  refine ⟨_, fd, ["text"], okF (k := 1) F sc_check_name (fun vs H Q E h => ?_) (fun A outer s H vs Q E hr h => ?_), T.r_check_name, F.kp, F.bindsN fun _ _ _ _ _ _ us hl => match us, hl with | [_], _ => rfl⟩
  · obtain ⟨x, rfl, _⟩ := h
    rfl
  · have nd := sc_check_name.nd
    obtain ⟨x, rfl, hx, hT, q⟩ := h
    refine ⟨_, (pss_one (ps_if (pt_not (pt_val (pf c_is_name hr (by decide) (by rfl) p0 (pa_cons (pv 0) pa_nil))))
  (pss_one (L2N.ps_raise rfl (L2N.takes_of rfl rfl rfl rfl) (pmk1 PySem.F.excBase_ValueError T.e_NoName.1 T.r_NoName T.e_NoName.2.1 (raises_own T.e_NoName.2.2.1 T.e_NoName.2.2.2) rfl (pe_joined (.cons (pe_fmtR (pv 0)) (.cons pe_str .nil))))))
  pss_nil)), ?_⟩
    refine ⟨_, rfl, x, rfl, hx.line, hT, fun H2 k2 => ⟨_, rfl, ?_⟩⟩
    cases e : isName x with
    | true => exact iteF ((q H2 k2).2 e)
    | false =>
      have h1 := fitN (k := 1000002) 0 1000002 len0 hx.repr
      exact iteT ⟨_, rfl, .inl ⟨_, rfl, line_of hx.repr, _, rfl, line_of h1, _, rfl, fit 1000002 20 h1 (by decide), (q H2 k2).1 e⟩⟩
def sp_check_rank (K : PySem.W.Frag) : Sp := fun vs H Q E => ∃ r : Int, vs = [.int r] ∧ Mod r ∧ (¬ (0 ≤ r ∧ r ≤ 99) → E (xc K "NoRank") none H) ∧ (0 ≤ r ∧ r ≤ 99 → Q .non H)
theorem c_check_rank (T : Tx K mg base) : Cal P w K mg base 1 "check_rank" (sp_check_rank K) := by
  obtain ⟨fd, F⟩ := T.d_check_rank
  refine ⟨_, fd, ["rank"], okF (k := 0) F sc_check_rank (fun vs H Q E h => ?_) (fun A outer s H vs Q E hr h => ?_), T.r_check_rank, F.kp, F.bindsN fun _ _ _ _ _ _ us hl => match us, hl with | [_], _ => rfl⟩
  · obtain ⟨x, rfl, _⟩ := h
    rfl
  · have nd := sc_check_rank.nd
    obtain ⟨r, rfl, hr9, q1, q2⟩ := h
    refine ⟨_, (pss_one (ps_if (pt_not (pt_rng pe_int (pv 0) (pgI (by rfl) T.h_TOP)))
  (pss_one (L2N.ps_raise rfl (L2N.takes_of rfl rfl rfl rfl) (pmk1 PySem.F.excBase_ValueError T.e_NoRank.1 T.r_NoRank T.e_NoRank.2.1 (raises_own T.e_NoRank.2.2.1 T.e_NoRank.2.2.2) rfl (pe_joined (.cons pe_str (.cons (pe_fmt (pgI (by rfl) T.h_TOP)) (.cons pe_str (.cons (pe_fmt (pv 0)) .nil))))))))
  pss_nil)), ?_⟩
    refine ⟨0, r, 99, fun _ z => z, fun _ z => ⟨_, rfl, z⟩, fun _ z => z, ?_⟩
    by_cases e : 0 ≤ r ∧ r ≤ 99
    · rw [decide_eq_true e]
      exact iteF (q2 e)
    · rw [decide_eq_false e]
      refine iteT ⟨_, rfl, by decide, .inr ⟨99, rfl, by decide, _, rfl, fit 24 4 (by decide) (by decide), _, rfl, fit 28 10 (by decide) (by decide), _, rfl, .inr ⟨r, rfl, hr9.log, _, rfl, fit 40 1921 (by decide) hr9.len, q1 e⟩⟩⟩
/-! ### the makers -/
def sp_Caller (K : PySem.W.Frag) : Sp := fun vs H Q _ => ∃ (x dx : Addr) (n : Str) (r s : Int), vs = [.ref x, .str n, .int r, .int s] ∧ H x = some (.ins (He.ga K "Caller") dx []) ∧ Q .non (upd H x (.ins (He.ga K "Caller") dx (Cr.fs ⟨n, r, .rdy s⟩)))
theorem c_Caller (T : Tx K mg base) : Mak P w K mg base 1 "Caller" (He.ga K "Caller") (sp_Caller K) := by
  obtain ⟨fd, F⟩ := T.d_Caller___init__
  refine ⟨_, fd, ["self", "name", "rank", "since"], T.mk_Caller, okF (k := 0) F sc_Caller___init__ (fun vs H Q E h => ?_) (fun A outer s H vs Q E hr h => ?_), T.r_Caller, F.bindsN fun _ _ _ _ _ _ us hl => match us, hl with | [_, _, _, _], _ => rfl⟩
  · obtain ⟨x, dx, n, r, s, rfl, _⟩ := h
    rfl
  · have nd := sc_Caller___init__.nd
    obtain ⟨x, dx, n, r, s, rfl, h0, q⟩ := h
    refine ⟨_, (pss_cons (ps_fld (pv 0) (pv 1) rfl)
  (pss_cons (ps_fld (pv 0) (pv 2) rfl)
  (pss_cons (ps_fld (pv 0) (pgS (by rfl) T.h_READY) rfl)
  (pss_cons (ps_fld (pv 0) (pv 3) rfl)
  (pss_cons (ps_fld (pv 0) pe_non rfl)
  (pss_one (ps_fld (pv 0) pe_non rfl))))))), ?_⟩
    have l0 : ([] : List (Str × V)).length ≤ 0 := Nat.le_refl 0
    refine ⟨_, rfl, _, rfl, x, _, dx, _, rfl, h0, T.cl_Caller, T.na_Caller_name, few l0, ?_⟩
    refine ⟨_, rfl, _, rfl, x, _, dx, _, rfl, upd_same, T.cl_Caller, T.na_Caller_rank, few (putF_le l0), ?_⟩
    refine ⟨_, rfl, x, _, dx, _, rfl, upd_same, T.cl_Caller, T.na_Caller_state, few (putF_le (putF_le l0)), ?_⟩
    refine ⟨_, rfl, _, rfl, x, _, dx, _, rfl, upd_same, T.cl_Caller, T.na_Caller_since, few (putF_le (putF_le (putF_le l0))), ?_⟩
    refine ⟨_, rfl, x, _, dx, _, rfl, upd_same, T.cl_Caller, T.na_Caller_due, few (putF_le (putF_le (putF_le (putF_le l0)))), ?_⟩
    refine ⟨_, rfl, x, _, dx, _, rfl, upd_same, T.cl_Caller, T.na_Caller_bell, few (putF_le (putF_le (putF_le (putF_le (putF_le l0))))), ?_⟩
    simp only [upd_upd]
    exact q
def sp_Desk (K : PySem.W.Frag) : Sp := fun vs H Q E => ∃ (d dx : Addr) (p r : Int), vs = [.ref d, .int p, .int r] ∧ Mod p ∧ Mod r ∧ H d = some (.ins (He.ga K "Desk") dx []) ∧ (¬ ((1 ≤ p ∧ p ≤ 1000) ∧ 1 ≤ r ∧ r ≤ 60) → E (xc K "NoDesk") none H) ∧
  (((1 ≤ p ∧ p ≤ 1000) ∧ 1 ≤ r ∧ r ≤ 60) → ∀ L H', H L = none → Keep [d] H H' → DkAt K H' [d, L] d ⟨p, r, 0, []⟩ → Q .non H')
theorem c_Desk (T : Tx K mg base) : Mak P w K mg base 1 "Desk" (He.ga K "Desk") (sp_Desk K) := by
  obtain ⟨fd, F⟩ := T.d_Desk___init__
  refine ⟨_, fd, ["self", "pace", "room"], T.mk_Desk, okF (k := 0) F sc_Desk___init__ (fun vs H Q E h => ?_) (fun A outer s H vs Q E hr h => ?_), T.r_Desk, F.bindsN fun _ _ _ _ _ _ us hl => match us, hl with | [_, _, _], _ => rfl⟩
  · obtain ⟨d, dx, p, r, rfl, _⟩ := h
    rfl
  · have nd := sc_Desk___init__.nd
    obtain ⟨d, dx, p, r, rfl, hp9, hr9, h0, q1, q2⟩ := h
    refine ⟨_, (pss_cons (ps_if (pt_not (pt_rng pe_int (pv 1) (pgI (by rfl) T.h_MOST_PACE)))
  (pss_one (L2N.ps_raise rfl (L2N.takes_of rfl rfl rfl rfl) (pmk1 PySem.F.excBase_ValueError T.e_NoDesk.1 T.r_NoDesk T.e_NoDesk.2.1 (raises_own T.e_NoDesk.2.2.1 T.e_NoDesk.2.2.2) rfl (pe_joined (.cons pe_str (.cons (pe_fmt (pgI (by rfl) T.h_MOST_PACE)) (.cons pe_str (.cons (pe_fmt (pv 1)) .nil))))))))
  pss_nil)
  (pss_cons (ps_if (pt_not (pt_rng pe_int (pv 2) (pgI (by rfl) T.h_MOST_ROOM)))
  (pss_one (L2N.ps_raise rfl (L2N.takes_of rfl rfl rfl rfl) (pmk1 PySem.F.excBase_ValueError T.e_NoDesk.1 T.r_NoDesk T.e_NoDesk.2.1 (raises_own T.e_NoDesk.2.2.1 T.e_NoDesk.2.2.2) rfl (pe_joined (.cons pe_str (.cons (pe_fmt (pgI (by rfl) T.h_MOST_ROOM)) (.cons pe_str (.cons (pe_fmt (pv 2)) .nil))))))))
  pss_nil)
  (pss_cons (ps_fld (pv 0) (pv 1) rfl)
  (pss_cons (ps_fld (pv 0) (pv 2) rfl)
  (pss_cons (ps_fld (pv 0) pe_int rfl)
  (pss_one (ps_fld (pv 0) pe_dnewK rfl))))))), ?_⟩
    refine ⟨1, p, 1000, fun _ z => z, fun _ z => ⟨_, rfl, z⟩, fun _ z => z, ?_⟩
    by_cases e1 : 1 ≤ p ∧ p ≤ 1000
    case neg =>
      rw [decide_eq_false e1]
      refine iteT ⟨_, rfl, by decide, .inr ⟨1000, rfl, by decide, _, rfl, fit 24 4 (by decide) (by decide), _, rfl, fit 28 10 (by decide) (by decide), _, rfl, .inr ⟨p, rfl, hp9.log, _, rfl, fit 40 1921 (by decide) hp9.len, q1 fun z => e1 z.1⟩⟩⟩
    rw [decide_eq_true e1]
    refine iteF ⟨1, r, 60, fun _ z => z, fun _ z => ⟨_, rfl, z⟩, fun _ z => z, ?_⟩
    by_cases e2 : 1 ≤ r ∧ r ≤ 60
    case neg =>
      rw [decide_eq_false e2]
      refine iteT ⟨_, rfl, by decide, .inr ⟨60, rfl, by decide, _, rfl, fit 24 4 (by decide) (by decide), _, rfl, fit 28 10 (by decide) (by decide), _, rfl, .inr ⟨r, rfl, hr9.log, _, rfl, fit 40 1921 (by decide) hr9.len, q1 fun z => e2 z.2⟩⟩⟩
    rw [decide_eq_true e2]
    have l0 : ([] : List (Str × V)).length ≤ 0 := Nat.le_refl 0
    refine iteF ⟨_, rfl, _, rfl, d, _, dx, _, rfl, h0, T.cl_Desk, T.na_Desk_pace, few l0, ?_⟩
    refine ⟨_, rfl, _, rfl, d, _, dx, _, rfl, upd_same, T.cl_Desk, T.na_Desk_room, few (putF_le l0), ?_⟩
    refine ⟨_, rfl, d, _, dx, _, rfl, upd_same, T.cl_Desk, T.na_Desk_now, few (putF_le (putF_le l0)), ?_⟩
    simp only [upd_upd]
    intro L hL
    have hL0 : H L = none := (Keep.upd (S := [d]) h0 (List.mem_singleton.mpr rfl) nt_ins).gone L hL
    have dL : d ≠ L := ne_of_none h0 hL0
    refine ⟨_, rfl, d, _, dx, _, rfl, (upd_ne dL).trans upd_same, T.cl_Desk, T.na_Desk__line, few (putF_le (putF_le (putF_le l0))), ?_⟩
    refine q2 ⟨e1, e2⟩ L _ hL0 (((Keep.upd h0 (List.mem_singleton.mpr rfl) nt_ins).trans (Keep.new hL)).trans (Keep.upd ((upd_ne dL).trans upd_same) (List.mem_singleton.mpr rfl) nt_ins)) ⟨L, [], rfl, ⟨dx, upd_same⟩, (upd_ne dL.symm).trans upd_same, fun p hp => (nomatch hp), rfl, List.nodup_nil, List.nodup_nil, Nat.zero_le _⟩
/-- a new desk -/
theorem made_desk {H : Hp} {p r : Int} {Q : VK} {E : XK} {x dx : Addr} (ok : (1 ≤ p ∧ p ≤ 1000) ∧ 1 ≤ r ∧ r ≤ 60) (q : ∀ S H', Keep [] H H' → DkAt K H' S x ⟨p, r, 0, []⟩ → (∀ b ∈ S, H b = none) → Q .non H') (nx : H x = none) (ndx : H dx = none) (ne : dx ≠ x) :
    sp_Desk K [.ref x, .int p, .int r] (upd (upd H dx (.own x)) x (.ins (He.ga K "Desk") dx [])) Q E := by
  have k1 : Keep [] H (upd (upd H dx (.own x)) x (.ins (He.ga K "Desk") dx [])) := (Keep.new ndx).trans (Keep.new ((upd_ne ne.symm).trans nx))
  refine ⟨x, dx, p, r, rfl, ⟨by omega, by omega⟩, ⟨by omega, by omega⟩, upd_same, fun z => absurd ok z, fun _ L H' hL k hD => q [x, L] H' (k1.trans' k fun b hb => .inr (by rw [List.mem_singleton.mp hb]; exact nx)) hD fun b hb => ?_⟩
  rcases List.mem_cons.mp hb with z | z
  · rw [z]
    exact nx
  · rw [List.mem_singleton.mp z]
    exact k1.gone L hL
/-- who enters -/
def Dk.enter (D : Dk) (n : Str) (r : Int) : Dk := { D with line := D.line ++ [⟨n, r, .rdy D.now⟩] }
def sp_enter (K : PySem.W.Frag) : Sp := fun vs H Q E => ∃ (d : Addr) (S : List Addr) (D : Dk) (n : Str) (r : Int), vs = [.ref d, .str n, .int r] ∧ Small n ∧ Mod r ∧ TabG H (tabN K) ∧ DkAt K H S d D ∧ D.room ≤ 60 ∧ 0 ≤ D.room ∧ ∀ H',
  (Keep [] H H' → isName n = false → E (xc K "NoName") none H') ∧ (Keep [] H H' → isName n = true → ¬ (0 ≤ r ∧ r ≤ 99) → E (xc K "NoRank") none H') ∧
  (Keep [] H H' → isName n = true → (0 ≤ r ∧ r ≤ 99) → n ∈ namesL D.line → E (xc K "Known") none H') ∧ (Keep [] H H' → isName n = true → (0 ≤ r ∧ r ≤ 99) → n ∉ namesL D.line → D.room ≤ D.line.length → E (xc K "Full") none H') ∧
  (isName n = true → (0 ≤ r ∧ r ≤ 99) → n ∉ namesL D.line → ¬ D.room ≤ D.line.length → ∀ S', Keep S H H' → Sub H S S' → DkAt K H' S' d (D.enter n r) → Q .non H')
theorem c_Desk_enter (T : Tx K mg base) : Met P w K mg base 3 (He.ga K "Desk") "enter" (sp_enter K) := by
  have c_check_name : Cal P w K mg base 2 "check_name" (sp_check_name K) := c_check_name T
  have c_check_rank : Cal P w K mg base 1 "check_rank" (sp_check_rank K) := c_check_rank T
  have c_Caller : Mak P w K mg base 1 "Caller" (He.ga K "Caller") (sp_Caller K) := c_Caller T
  obtain ⟨fd, F⟩ := T.d_Desk_enter
  refine ⟨_, fd, ["self", "name", "rank"], T.cl_Desk, T.me_Desk_enter, okF (k := 2) F sc_Desk_enter (fun vs H Q E h => ?_) (fun A outer s H vs Q E hr h => ?_), F.bindsN fun _ _ _ _ _ _ us hl => match us, hl with | [_, _, _], _ => rfl⟩
  · obtain ⟨d, S, D, n, r, rfl, _⟩ := h
    rfl
  · have nd := sc_Desk_enter.nd
    obtain ⟨d, S, D, n, r, rfl, hn9, hr9, hT, hD, hr60, hr0, q⟩ := h
    refine ⟨_, (pss_cons (ps_expr (pf c_check_name hr (by decide) (by rfl) (pU (L2N.takes_of rfl rfl rfl rfl)) (pa_cons (pv 1) pa_nil)))
  (pss_cons (ps_expr (pf c_check_rank hr (by decide) (by rfl) (pU (L2N.takes_of rfl rfl rfl rfl)) (pa_cons (pv 2) pa_nil)))
  (pss_cons (ps_if (pt_cmp (pc_din (hu_of hr) (pv 1) (pe_fld (pv 0) rfl)))
  (pss_one (L2N.ps_raise rfl (L2N.takes_of rfl rfl rfl rfl) (pmk1 PySem.F.excBase_ValueError T.e_Known.1 T.r_Known T.e_Known.2.1 (raises_own T.e_Known.2.2.1 T.e_Known.2.2.2) rfl (pe_joined (.cons pe_str (.cons (pe_fmt (pv 1)) (.cons pe_str .nil)))))))
  pss_nil)
  (pss_cons (ps_if (pt_cmpR op_ge (pe_callB call_lenD (by rfl) T.m_len boot_len (pa_cons (pe_fld (pv 0) rfl) pa_nil)) (pe_fld (pv 0) rfl) (nomark _))
  (pss_one (L2N.ps_raise rfl (L2N.takes_of rfl rfl rfl rfl) (pmk1 PySem.F.excBase_ValueError T.e_Full.1 T.r_Full T.e_Full.2.1 (raises_own T.e_Full.2.2.1 T.e_Full.2.2.2) rfl (pe_joined (.cons pe_str (.cons (pe_fmt (pe_fld (pv 0) rfl)) (.cons pe_str .nil)))))))
  pss_nil)
  (pss_one (ps_dput (hu_of hr) (pe_fld (pv 0) rfl) (pv 1) (pc c_Caller hr (by decide) (by rfl) passN (pa_cons (pv 1) (pa_cons (pv 2) (pa_cons (pe_fld (pv 0) rfl) pa_nil)))) rfl)))))), ?_⟩
    refine ⟨_, rfl, n, rfl, hn9, hT, fun H1 k1 => ⟨fun e => (q H1).1 k1 e, fun en => ?_⟩⟩
    refine ⟨_, rfl, r, rfl, hr9, fun e => (q H1).2.1 k1 en e, fun er => ?_⟩
    obtain ⟨L, ln, rfl, x0⟩ := hD
    have x := x0.keep k1 fun _ _ => List.not_mem_nil
    obtain ⟨dx, hd⟩ := id x.desk
    refine ⟨_, rfl, _, rfl, d, _, dx, _, _, rfl, hd, T.cl_Desk, T.na_Desk__line, rfl, L, _, rfl, DGet.k (k := Sum.inr n) x.line, _, rfl, ?_⟩
    by_cases em : n ∈ namesL D.line
    · obtain ⟨p, e1, _⟩ := find_some (ln := ln) (by rw [x.eq]; exact em)
      rw [kvs_find, e1]
      refine iteT ⟨_, rfl, by decide, _, rfl, .inl ⟨n, rfl, hn9.line, _, rfl, fit 30 100000 (by decide) hn9.1, _, rfl, fit 100030 30 (fitN 30 100000 (by decide) hn9.1) (by decide), (q H1).2.2.1 k1 en er em⟩⟩
    · rw [kvs_find, find_none (by rw [x.eq]; exact em)]
      refine iteF ⟨_, rfl, d, _, dx, _, _, rfl, hd, T.cl_Desk, T.na_Desk__line, rfl, L, _, rfl, x.line, _, rfl, d, _, dx, _, _, rfl, hd, T.cl_Desk, T.na_Desk_room, rfl, _, _, rfl, rfl, _, rfl, ?_⟩
      rw [kvs_len]
      have el : ln.length = D.line.length := by rw [← x.eq, List.length_map]
      rw [el]
      by_cases ef : D.room ≤ (D.line.length : Int)
      · rw [decide_eq_true ef]
        have mr : Mod D.room := ⟨by omega, by omega⟩
        refine iteT ⟨_, rfl, by decide, _, rfl, d, _, dx, _, _, rfl, hd, T.cl_Desk, T.na_Desk_room, rfl, .inr ⟨_, rfl, mr.log, _, rfl, fit 30 1921 (by decide) mr.len, _, rfl, fit 2000 30 (fitN 30 1921 (by decide) mr.len) (by decide), (q H1).2.2.2.1 k1 en er em ef⟩⟩
      · rw [decide_eq_false ef]
        refine iteF ⟨_, rfl, _, rfl, _, rfl, d, _, dx, _, _, rfl, hd, T.cl_Desk, T.na_Desk_now, rfl, fun a da na nda ne => ?_⟩
        have nda' : ∀ b o, H1 b = some o → b ≠ da ∧ b ≠ a := fun b o e => ⟨ne_of_none e nda, ne_of_none e na⟩
        refine ⟨a, da, n, r, D.now, rfl, upd_same, rfl, ?_⟩
        rw [upd_upd]
        obtain ⟨z1, z2⟩ := nda' _ _ hd
        obtain ⟨y1, y2⟩ := nda' _ _ x.line
        refine ⟨_, rfl, d, _, dx, _, _, rfl, (upd_ne z2).trans ((upd_ne z1).trans hd), T.cl_Desk, T.na_Desk__line, rfl, _, rfl, _, _, rfl, DPut.k (k := Sum.inr n) ((upd_ne y2).trans ((upd_ne y1).trans x.line)) ?_, ?_⟩
        · rw [kvs_len, el]
          exact small1000 (Nat.le_trans x.len (by decide))
        · refine (q _).2.2.2.2 en er em ef (d :: L :: (ln ++ [(a, (⟨n, r, .rdy D.now⟩ : Cr))]).map (·.1)) ?_ ?_ ⟨L, _, rfl, x.add na nda ne em (by omega)⟩
          · exact (((k1.any.trans (Keep.new nda)).trans (Keep.new ((upd_ne ne.symm).trans na))).trans (Keep.upd ((upd_ne y2).trans ((upd_ne y1).trans x.line)) (by simp) nt_dK))
          · intro b hb
            rw [List.map_append] at hb
            rcases List.mem_cons.mp hb with z | z
            · exact .inl (by rw [z]; simp)
            · rcases List.mem_cons.mp z with z | z
              · exact .inl (by rw [z]; simp)
              · rcases List.mem_append.mp z with z | z
                · exact .inl (by simp [z])
                · have : b = a := by simpa using z
                  rw [this]
                  exact .inr (k1.gone _ na)
def sp_names (K : PySem.W.Frag) : Sp := fun vs H Q _ => ∃ (d : Addr) (S : List Addr) (D : Dk), vs = [.ref d] ∧ DkAt K H S d D ∧ ∀ p, H p = none → Q (.ref p) (upd H p (.lst ((namesL D.line).map V.str)))
theorem c_Desk_names (T : Tx K mg base) : Met P w K mg base 1 (He.ga K "Desk") "names" (sp_names K) := by
  obtain ⟨fd, F⟩ := T.d_Desk_names
  refine ⟨_, fd, ["self"], T.cl_Desk, T.me_Desk_names, okF (k := 0) F sc_Desk_names (fun vs H Q E h => ?_) (fun A outer s H vs Q E hr h => ?_), F.bindsN fun _ _ _ _ _ _ us hl => match us, hl with | [_], _ => rfl⟩
  · obtain ⟨d, S, D, rfl, _⟩ := h
    rfl
  · have nd := sc_Desk_names.nd
    obtain ⟨d, S, D, rfl, ⟨L, ln, rfl, x⟩, q⟩ := h
    obtain ⟨dx, hd⟩ := id x.desk
    refine ⟨_, (pss_one (ps_ret (pe_callTy (call_listD rfl) (by rfl) T.m_list (by decide +kernel) (pa_cons (pe_fld (pv 0) rfl) pa_nil)))), ?_⟩
    refine ⟨_, rfl, d, _, dx, _, _, rfl, hd, T.cl_Desk, T.na_Desk__line, rfl, L, _, rfl, .inl x.line, ?_⟩
    rw [kvs_keys, x.eq]
    exact q
end
end Rr

set_option maxRecDepth 100000
set_option maxHeartbeats 4000000
namespace Rr
open PySem PySem.Spec PyProof.Rows L2
open GxR (TabG Tabbed)
open Evl (pss_cut)
/-! ### the law's own defs -/
def cell (ns : List Int) (k : Int) : Int := ns.getD k.toNat 0
abbrev S1 (c : Nat) : Str := ⟨#[c]⟩
def sp_cell (K : PySem.W.Frag) : Sp := fun vs H Q _ => ∃ (a : Addr) (ns : List Int) (k : Int), vs = [.ref a, .int k] ∧ SqL K H a (ns.map V.int) ∧ 0 ≤ k ∧ Q (.int (cell ns k)) H
def sp_sign : Sp := fun vs H Q _ => ∃ c : Int, vs = [.int c] ∧ ∀ z : Nat, z < 128 → Q (.str (S1 z)) H
def sp_text (K : PySem.W.Frag) : Sp := fun vs H Q _ => ∃ (a : Addr) (ns : List Int), vs = [.ref a] ∧ SqL K H a (ns.map V.int) ∧ ∀ z H', Keep [] H H' → z.length ≤ 14 → (∀ c ∈ z.cps.toList, c < 128) → Q (.str z) H'
def sp_law (K : PySem.W.Frag) : Sp := fun vs H Q _ => ∃ (a : Addr) (ns : List Int), vs = [.ref a] ∧ SqL K H a (ns.map V.int) ∧ ns.length ≤ 63 ∧ TabG H (tabN K) ∧ ∀ H', Q (.bl true) H'
section
variable {P : Program} {w : World} {K : PySem.W.Frag} {mg : Str → Option Value} {base : Heap}
theorem c__law_cell_at (T : Tx K mg base) : Cal P w K mg base 1 "_law_cell_at" (sp_cell K) := by
  obtain ⟨fd, F⟩ := T.d__law_cell_at
  refine ⟨_, fd, ["_law_script", "_law_k"], okF (k := 0) F sc__law_cell_at (fun vs H Q E h => ?_) (fun A outer s H vs Q E hr h => ?_), T.r__law_cell_at, F.kp, F.bindsN fun _ _ _ _ _ _ us hl => match us, hl with | [_, _], _ => rfl⟩
  · obtain ⟨a, ns, k, rfl, _⟩ := h
    rfl
  · have nd := sc__law_cell_at.nd
    obtain ⟨a, ns, z, rfl, hS, hz, q⟩ := h
    obtain ⟨k, rfl⟩ : ∃ k : Nat, z = k := ⟨z.toNat, by omega⟩
    refine ⟨_, (pss_cons (ps_if (pt_cmpR op_lt (pv 1) (pe_callB call_len_seq (by rfl) T.m_len boot_len (pa_cons (pv 0) pa_nil)) (nomark _))
  (pss_one (ps_ret (pe_ix ix_list (pv 0) (pv 1) (fun _ _ => rfl))))
  pss_nil)
  (pss_one (ps_ret pe_int))), ?_⟩
    refine ⟨_, rfl, _, rfl, a, _, rfl, .inl hS, _, _, rfl, rfl, _, rfl, ite2 (fun e => ?_) (fun e => ?_)⟩
    · have e0 : (k : Int) < ((ns.map V.int).length : Int) := of_decide_eq_true e
      rw [List.length_map] at e0
      have hk : k < ns.length := by omega
      refine ⟨_, rfl, _, rfl, a, _, _, _, rfl, rfl, hS, atI_nat (j := k) (by rw [List.getElem?_map, List.getElem?_eq_getElem hk]; rfl), ?_⟩
      have e1 : cell ns k = ns[k] := by
        unfold cell
        rw [Int.toNat_natCast, List.getD_eq_getElem?_getD, List.getElem?_eq_getElem hk]
        rfl
      rw [e1] at q
      exact q
    · have e0 : ¬ (k : Int) < ((ns.map V.int).length : Int) := fun z => e (decide_eq_true z)
      rw [List.length_map] at e0
      have e1 : cell ns k = 0 := by
        unfold cell
        rw [Int.toNat_natCast, List.getD_eq_getElem?_getD, List.getElem?_eq_none (by omega)]
        rfl
      rw [e1] at q
      exact q
abbrev SOME96 : Str := " !\"#$&'()*+,-./0123456789:;<=>?@ABCDEFGHIJKLMNOPQRSTUVWXYZ[\\]^_`" ++ "abcdefghijklmnopqrstuvwxyz{|}~\n\t"
theorem c__law_sign_by (T : Tx K mg base) : Cal P w K mg base 1 "_law_sign_by" sp_sign := by
  obtain ⟨fd, F⟩ := T.d__law_sign_by
  refine ⟨_, fd, ["_law_cell"], okF (k := 0) F sc__law_sign_by (fun vs H Q E h => ?_) (fun A outer s H vs Q E hr h => ?_), T.r__law_sign_by, F.kp, F.bindsN fun _ _ _ _ _ _ us hl => match us, hl with | [_], _ => rfl⟩
  · obtain ⟨c, rfl, _⟩ := h
    rfl
  · have nd := sc__law_sign_by.nd
    obtain ⟨c, rfl, q⟩ := h
    refine ⟨_, (pss_cons (ps_set (i := 1) nd rfl (Or.inl rfl) pe_str)
  (pss_cons (ps_set (i := 1) nd rfl (Or.inl rfl) (pe_op op_add_str (pv 1) pe_str))
  (pss_one (ps_ret (pe_ix ix_str (pv 1) (pe_op op_mod (pv 0) pe_int) (fun _ _ => rfl)))))), ?_⟩
    have hm0 : 0 ≤ c % 96 := Int.emod_nonneg _ (by decide)
    have hm1 : c % 96 < 96 := Int.emod_lt_of_pos _ (by decide)
    have hl : SOME96.cps.toList.length = 96 := by decide +kernel
    have hb : ∀ z ∈ SOME96.cps.toList, z < 128 := by decide +kernel
    have hi : (c % 96).toNat < SOME96.cps.toList.length := by omega
    refine ⟨_, rfl, _, _, rfl, rfl, (by decide +kernel), _, rfl, _, rfl, _, _, rfl, rfl, (show (0 : Int) < 96 by decide), SOME96, _, SOME96.cps.toList[(c % 96).toNat], rfl, rfl, (by decide +kernel), atZ hm0 hi, q _ (hb _ (List.getElem_mem hi))⟩
theorem join_len (ys : List Nat) : (ys.map S1).map (·.length) = ys.map fun _ => 1 := by
  rw [List.map_map]
  rfl
theorem sum_ones (ys : List Nat) : (ys.map fun _ => 1).sum = ys.length := by
  induction ys with
  | nil => rfl
  | cons y r ih => rw [List.map_cons, List.sum_cons, ih, List.length_cons]; omega
/-- signs joined -/
theorem join_signs (ys : List Nat) : Txt.join Str.empty (ys.map S1) = SX.S ys := by
  have e : ys.map S1 = (ys.map fun c => [c]).map SX.S := by
    rw [List.map_map]
    rfl
  rw [e]
  show Txt.join (SX.S []) _ = _
  rw [SX.join_S]
  congr 1
  induction ys with
  | nil => rfl
  | cons c r ih =>
    cases r with
    | nil => rfl
    | cons c2 r2 =>
      show [c] ++ ([] ++ TL.joinL [] ((c2 :: r2).map fun c => [c])) = _
      have := ih (by rw [List.map_map]; rfl)
      rw [this]
      rfl
theorem c__law_text (T : Tx K mg base) : Cal P w K mg base 2 "_law_text" (sp_text K) := by
  have c__law_cell_at : Cal P w K mg base 1 "_law_cell_at" (sp_cell K) := c__law_cell_at T
  have c__law_sign_by : Cal P w K mg base 1 "_law_sign_by" sp_sign := c__law_sign_by T
  obtain ⟨fd, F⟩ := T.d__law_text
  refine ⟨_, fd, ["_law_script"], okF (k := 1) F sc__law_text (fun vs H Q E h => ?_) (fun A outer s H vs Q E hr h => ?_), T.r__law_text, F.kp, F.bindsN fun _ _ _ _ _ _ us hl => match us, hl with | [_], _ => rfl⟩
  · obtain ⟨a, ns, rfl, _⟩ := h
    rfl
  · have nd := sc__law_text.nd
    obtain ⟨a, ns, rfl, hS, q⟩ := h
    refine ⟨_, (pss_cons (ps_set (i := 1) nd rfl (Or.inr rfl) pe_str)
  (pss_cons (ps_set (i := 2) nd rfl (Or.inl rfl) (pe_op op_mod (pf c__law_cell_at hr (by decide) (by rfl) p0 (pa_cons (pv 0) (pa_cons pe_int pa_nil))) pe_int))
  (pss_cons (ps_setLc (i := 3) (own := [("_law_k", 4)]) (g := gName 4) (tt := tYes) rfl nd rfl rfl (sw_true rfl rfl rfl (by decide +kernel)) (pi_range1 (by rfl) T.m_range (pa_cons (pv 2) pa_nil)) (blkOk_by (N := N__law_text) (sc := defScope s__law_text) (by decide +kernel)) (fun _ _ _ _ _ => (pg_name (i := 4) nd rfl (Or.inl rfl))) (fun _ _ _ _ _ => pts_nil) (fun _ _ _ _ _ => (pe_ix ix_str (pv 1) (pe_op op_mod (pe_op op_add (pf c__law_cell_at hr (by decide) (by rfl) p0 (pa_cons (pv 0) (pa_cons pe_int pa_nil))) (pf c__law_cell_at hr (by decide) (by rfl) p0 (pa_cons (pv 0) (pa_cons (pe_op op_add pe_int (pv 4)) pa_nil)))) pe_int) (fun _ _ => rfl))))
  (pss_cut (ps_if (PW.pt (pw_and (pt_cmpR op_gt (pv 2) pe_int (nomark _)) (pw_and1 (pt_cmpR op_eq (pe_op op_mod (pf c__law_cell_at hr (by decide) (by rfl) p0 (pa_cons (pv 0) (pa_cons pe_int pa_nil))) pe_int) pe_int (nomark _)))))
  (pss_one (ps_asg (pf c__law_sign_by hr (by decide) (by rfl) p0 (pa_cons (pf c__law_cell_at hr (by decide) (by rfl) p0 (pa_cons (pv 0) (pa_cons pe_int pa_nil))) pa_nil)) (pg_sub (pv 3) (pe_op op_mod (pe_op op_fdiv (pf c__law_cell_at hr (by decide) (by rfl) p0 (pa_cons (pv 0) (pa_cons pe_int pa_nil))) pe_int) (pv 2)) set_list)))
  pss_nil)
  (pss_one (ps_ret (pe_join pe_str (pv 3)))))))), ?_⟩
    have hn0 : 0 ≤ cell ns 0 % 15 := Int.emod_nonneg _ (by decide)
    have hn1 : cell ns 0 % 15 < 15 := Int.emod_lt_of_pos _ (by decide)
    have hG : SIGNSL.length = 36 := by decide +kernel
    have hb : ∀ z ∈ SIGNSL, z < 128 := by decide +kernel
    refine ⟨_, rfl, a, ns, 0, rfl, hS, by decide, _, _, rfl, rfl, (show (0 : Int) < 15 by decide), ?_⟩
    refine ⟨_, rfl, cell ns 0 % 15, rfl, by omega, by omega, fun D hD => ?_⟩
    refine lc_it walk_range (Pv := fun i H' => Keep [] H H' ∧ ∃ cs : List Nat, cs.length = i ∧ (∀ c ∈ cs, c < 128) ∧ H' D = some (.lst ((cs.map S1).map V.str))) ⟨Keep.new hD, [], rfl, fun c hc => (nomatch hc), upd_same⟩ (fun _ _ _ _ => trivial) ?_ ?_
    · rintro i x H1 H2 hi ⟨k1, cs, hl, hc, hd⟩ ⟨rfl, rfl⟩
      have hi' : i < (cell ns 0 % 15).toNat := hi
      have hS1 : SqL K H2 a (ns.map V.int) := k1.seq hS fun _ _ => List.not_mem_nil
      refine ⟨rfl, ?_⟩
      refine ⟨_, rfl, _, rfl, a, ns, 1, rfl, hS1, by decide, _, rfl, _, rfl, _, _, rfl, rfl, a, ns, 4 + (0 + (i : Int)), rfl, hS1, by omega, _, _, rfl, rfl, _, _, rfl, rfl, (show (0 : Int) < 36 by decide), ?_⟩
      generalize (cell ns 1 + cell ns (4 + (0 + (i : Int)))) = z
      have hm0 : 0 ≤ z % 36 := Int.emod_nonneg _ (by decide)
      have hm1 : z % 36 < 36 := Int.emod_lt_of_pos _ (by decide)
      have hz : (z % 36).toNat < SIGNSL.length := by omega
      refine ⟨_, _, SIGNSL[(z % 36).toNat], rfl, rfl, (by decide +kernel), atZ hm0 hz, _, hd, small1000 ?_, k1.set (.inl hD) hd nt_lst, cs ++ [SIGNSL[(z % 36).toNat]], ?_, ?_, ?_⟩
      · rw [List.length_map, List.length_map]
        omega
      · rw [List.length_append, hl]
        rfl
      · intro c hc'
        rcases List.mem_append.mp hc' with h | h
        · exact hc c h
        · rw [List.mem_singleton.mp h]
          exact hb _ (List.getElem_mem hz)
      · rw [upd_same, List.map_append, List.map_append]
        rfl
    · rintro H1 ⟨k1, cs, hl, hc, hd⟩
      have hS1 : SqL K H1 a (ns.map V.int) := k1.seq hS fun _ _ => List.not_mem_nil
      refine ⟨fun σ' H2 => Keep [] H H2 ∧ σ' = [some (.ref a), some (.str "abcdefghijklmnopqrstuvwxyz0123456789"), some (.int (cell ns 0 % 15)), some (.ref D), none] ∧ ∃ cs : List Nat, cs.length = (cell ns 0 % 15).toNat ∧ (∀ c ∈ cs, c < 128) ∧ H2 D = some (.lst ((cs.map S1).map V.str)), ?_, ?_⟩
      · refine ⟨_, rfl, _, _, rfl, rfl, _, rfl, ite2 (fun c => ?_) (fun c => iteF ⟨k1, rfl, cs, hl, hc, hd⟩)⟩
        have c0 : 0 < cell ns 0 % 15 := of_decide_eq_true c
        refine ⟨_, rfl, a, ns, 2, rfl, hS1, by decide, _, _, rfl, rfl, (show (0 : Int) < 2 by decide), rfl, _, rfl, ite2 (fun _ => ?_) (fun _ => ⟨k1, rfl, cs, hl, hc, hd⟩)⟩
        refine ⟨_, rfl, a, ns, 3, rfl, hS1, by decide, _, rfl, fun z hz => ?_⟩
        refine ⟨_, rfl, _, rfl, a, ns, 2, rfl, hS1, by decide, _, _, rfl, rfl, ⟨by decide, by decide⟩, _, rfl, _, _, rfl, rfl, c0, D, _, _, ((cell ns 2 / 2) % (cell ns 0 % 15)).toNat, rfl, rfl, hd, ?_, k1.set (.inl hD) hd nt_lst, rfl, cs.set ((cell ns 2 / 2) % (cell ns 0 % 15)).toNat z, ?_, ?_, ?_⟩
        · have h1 : 0 ≤ (cell ns 2 / 2) % (cell ns 0 % 15) := Int.emod_nonneg _ (by omega)
          have h2 : (cell ns 2 / 2) % (cell ns 0 % 15) < cell ns 0 % 15 := Int.emod_lt_of_pos _ c0
          have h3 : ((cell ns 2 / 2) % (cell ns 0 % 15)).toNat < ((cs.map S1).map V.str).length := by
            rw [List.length_map, List.length_map]
            omega
          have h4 := Evl.ixN_nat h3
          rw [Int.toNat_of_nonneg h1] at h4
          exact h4
        · rw [List.length_set]
          exact hl
        · intro x hx
          rcases List.mem_or_eq_of_mem_set hx with h | h
          · exact hc x h
          · rw [h]
            exact hz
        · rw [upd_same, ← List.map_set, ← List.map_set]
      · rintro σ' H2 ⟨k2, rfl, cs2, hl2, hc2, hd2⟩
        have e0 : (cs2.map S1).length = (cell ns 0 % 15).toNat := by rw [List.length_map]; exact hl2
        refine ⟨⟨_, rfl⟩, _, rfl, _, D, cs2.map S1, rfl, rfl, .inl (.inl (.inl hd2)), ?_, ?_⟩
        · rw [join_len, sum_ones, e0, hl2]
          show (cell ns 0 % 15).toNat + (cell ns 0 % 15).toNat * 0 ≤ _
          omega
        · have e1 := join_signs cs2
          show Q (.str (Txt.join Str.empty (cs2.map S1))) H2
          rw [e1]
          exact q _ H2 k2 (by rw [SX.S_len, hl2]; omega) hc2
theorem take_all {l : List Nat} {i : Nat} {c : Nat} (h : l[i]? = some c) (p : Nat → Bool) : (l.take (i + 1)).all p = ((l.take i).all p && p c) := by
  rw [List.take_add_one, h, List.all_append]
  simp
theorem ok_law (T : Tx K mg base) {fd : FuncData} (F : FunD K "law" "law" (defArgs s_law) (defBody s_law) (defScope s_law) [] [] (He.fAd K ("law", none)) fd) : FnOk P w K mg base (L2N.CX P w) 4 (He.ga K "law") fd ["_law_script"] (sp_law K) := by
  have c__law_text : Cal P w K mg base 2 "_law_text" (sp_text K) := c__law_text T
  have c_is_name : Cal P w K mg base 1 "is_name" (sp_is_name K) := c_is_name T
  have c_Desk : Mak P w K mg base 1 "Desk" (He.ga K "Desk") (sp_Desk K) := c_Desk T
  have c_Desk_enter : Met P w K mg base 3 (He.ga K "Desk") "enter" (sp_enter K) := c_Desk_enter T
  have c_Desk_names : Met P w K mg base 1 (He.ga K "Desk") "names" (sp_names K) := c_Desk_names T
  refine okF (k := 3) (at_ := ("law", none)) F sc_law (fun vs H Q E h => ?_) (fun A outer s H vs Q E hr h => ?_)
  · obtain ⟨a, ns, rfl, _⟩ := h
    rfl
  · have nd := sc_law.nd
    obtain ⟨a, ns, rfl, hS, hlen, hT, q⟩ := h
    refine ⟨_, (pss_cons (ps_set (i := 1) nd rfl (Or.inl rfl) (pf c__law_text hr (by decide) (by rfl) p0 (pa_cons (pv 0) pa_nil)))
  (pss_cut (ps_set (i := 2) nd rfl (Or.inl rfl) (pe_and (pe_cmpR op_le pe_int (pe_callB call_len_str (by rfl) T.m_len boot_len (pa_cons (pv 1) pa_nil)) (nomark _)) (pe_one (pe_cmpR op_le (pe_callB call_len_str (by rfl) T.m_len boot_len (pa_cons (pv 1) pa_nil)) pe_int (nomark _)))))
  (pss_cons (ps_for (passes_of rfl) rfl (pi_str (pv 1)) (pg_name (i := 3) nd rfl (Or.inl rfl))
  (pss_one (ps_if (pt_cmpR op_notIn_sign (pv 3) pe_str rfl)
  (pss_one (ps_set (i := 2) nd rfl (Or.inl rfl) pe_bl))
  pss_nil)))
  (pss_cons (ps_set (i := 4) nd rfl (Or.inl rfl) (pf c_is_name hr (by decide) (by rfl) p0 (pa_cons (pv 1) pa_nil)))
  (pss_cons (ps_if (PW.pt (pw_or (pt_not (pt_val (pe_callB call_isi (by rfl) T.m_isinstance (by decide +kernel) (pa_cons (pv 4) (pa_cons (pe_bltn (v := .ty "bool") (by rfl) T.m_bool (by decide +kernel) rfl) pa_nil))))) (pw_or1 (pt_cmpR op_ne (pv 4) (pv 2) (nomark _)))))
  (pss_one (ps_ret pe_bl))
  pss_nil)
  (pss_cons (ps_set (i := 5) nd rfl (Or.inl rfl) (pc c_Desk hr (by decide) (by rfl) (L2N.passes_call (L2N.takes_of rfl rfl rfl rfl) fun _ _ _ _ h => h) (pa_cons pe_int (pa_cons pe_int pa_nil))))
  (pss_cons (ps_set (i := 6) nd rfl (Or.inl rfl) pe_bl)
  (pss_cut (L2N.ps_try_many rfl rfl (L2N.takes_of rfl rfl rfl rfl) (fun W pn xe tk hp => (pss_one (ps_expr (pm c_Desk_enter hr (by decide) (L2N.passAt tk) (pv 5) (pa_cons (pv 1) (pa_cons pe_int pa_nil))))))
  (.cons ⟨rfl, by decide, .inl T.r_NoName⟩ (fun a oe cls d pn hz hf => (pss_one (ps_set (i := 6) nd rfl (Or.inl rfl) pe_bl))) .nil))
  (pss_cons (ps_if (pt_val (pv 6))
  (pss_one (ps_ret (pe_and (pe_not (pv 2)) (pe_one (pe_cmpR (op_eqD hr.units) (pm0 c_Desk_names hr (by decide) p0 (pv 5)) (pe_lst pa_nil) (nomark _))))))
  pss_nil)
  (pss_one (ps_ret (pe_and (pv 2) (pe_one (pe_cmpR (op_eqD hr.units) (pm0 c_Desk_names hr (by decide) p0 (pv 5)) (pe_lst (pa_cons (pv 1) pa_nil)) (nomark _))))))))))))))), ?_⟩
    refine ⟨_, rfl, a, ns, rfl, hS, fun z H1 k1 hz hc => ?_⟩
    have zl : z.length ≤ sizeLine := by rw [sizeLine_eq]; omega
    have zok : PyData.strOk z = true := by
      unfold PyData.strOk
      rw [← Array.all_toList]
      exact List.all_eq_true.mpr fun c h => decide_eq_true (Nat.lt_trans (hc c h) (by decide))
    have zs : Small z := ⟨by omega, fun c h => Nat.lt_trans (hc c h) (by decide)⟩
    refine ⟨fun σ' H2 => H1 = H2 ∧ σ' = [some (.ref a), some (.str z), some (.bl (decide (1 ≤ z.length ∧ z.length ≤ 12))), none, none, none, none], ?_, ?_⟩
    · refine ⟨_, rfl, _, rfl, zl, _, _, rfl, rfl, _, rfl, ite2 (fun c => ?_) (fun c => ⟨rfl, ?_⟩)⟩
      · have c1 : 1 ≤ (z.length : Int) := of_decide_eq_true c
        refine ⟨_, rfl, _, rfl, zl, _, _, rfl, rfl, rfl, ?_⟩
        have e : decide ((z.length : Int) ≤ 12) = decide (1 ≤ z.length ∧ z.length ≤ 12) := by
          by_cases h : (z.length : Int) ≤ 12
          · rw [decide_eq_true h, decide_eq_true (by omega)]
          · rw [decide_eq_false h, decide_eq_false (by omega)]
        rw [← e]
        rfl
      · have e : decide (1 ≤ z.length ∧ z.length ≤ 12) = false := decide_eq_false fun h => c (decide_eq_true (by omega))
        rw [e]
        rfl
    rintro σ' _ ⟨rfl, rfl⟩
    refine ⟨_, rfl, z, rfl, ?_⟩
    refine for_it walk_str (fun i σ H' => H1 = H' ∧ ∃ v, σ = [some (.ref a), some (.str z), some (.bl (decide (1 ≤ z.length ∧ z.length ≤ 12) && (z.cps.toList.take i).all isSign)), v, none, none, none]) ⟨rfl, none, by simp [L2.start]⟩ (fun _ _ _ _ _ => trivial) ?_ ?_
    · rintro i x σ _ H2 hi ⟨rfl, v, rfl⟩ ⟨rfl, c, hcc, rfl⟩
      have hcl : z.cps.toList[i]? = some c := by rw [Array.getElem?_toList]; exact hcc
      refine ⟨_, rfl, c, _, rfl, rfl, _, rfl, ?_⟩
      rw [take_all hcl]
      by_cases e : c ∈ SIGNSL
      · have e2 : isSign c = true := decide_eq_true e
        rw [decide_eq_true e, e2, Bool.and_true]
        exact iteF ⟨rfl, _, rfl⟩
      · have e2 : isSign c = false := decide_eq_false e
        rw [decide_eq_false e, e2, Bool.and_false, Bool.and_false]
        exact iteT ⟨rfl, _, rfl⟩
    · rintro σ _ ⟨rfl, v, rfl⟩
      have ed : (decide (1 ≤ z.length ∧ z.length ≤ 12) && (z.cps.toList.take z.cps.size).all isSign) = isName z := by
        rw [List.take_of_length_le (by simp)]
        rfl
      rw [ed]
      refine ⟨_, rfl, z, rfl, zl, k1.tab _ hT, fun H2 k2 => ?_⟩
      refine ⟨_, rfl, _, _, _, _, true, rfl, .ty "bool", .base (.bl (isName z)), kit_ty (by cases isName z <;> decide +kernel), true, rfl, iteF ?_⟩
      refine ⟨_, rfl, _, rfl, rfl, _, rfl, ?_⟩
      rw [decide_eq_true (show V.bl (isName z) = V.bl (isName z) from rfl)]
      refine iteF ?_
      intro d dx0 nx0 ndx0 ne0
      refine made_desk (p := 1) (r := 1) ⟨by decide, by decide⟩ (fun S H3 k3 hD hF => ⟨rfl, ?_⟩) nx0 ndx0 ne0
      have hT3 : TabG H3 (tabN K) := k3.tab _ (k2.tab _ (k1.tab _ hT))
      refine ⟨fun σ' H4 => ∃ r v, σ' = [some (.ref a), some (.str z), some (.bl (isName z)), v, some (.bl (isName z)), some (.ref d), some (.bl r)] ∧ r = !(isName z) ∧ ∃ S' D, DkAt K H4 S' d D ∧ (r = true → D.line = []) ∧ (r = false → namesL D.line = [z]), ?_, ?_⟩
      · obtain ⟨L, ln, eS, x⟩ := id hD
        obtain ⟨dx, hd⟩ := x.desk
        refine ⟨_, rfl, d, dx, _, rfl, hd, rfl, _, rfl, d, S, ⟨1, 1, 0, []⟩, z, 0, rfl, zs, ⟨by decide, by decide⟩, hT3, hD, (by decide), (by decide), fun H4 => ⟨?_, ?_, ?_, ?_, ?_⟩⟩
        · intro k4 en
          exact ⟨true, T.x_NoName_NoName, fun _ b hb => ⟨true, v, rfl, by rw [en] <;> rfl, S, _, hD.keep0 k4, fun _ => rfl, fun h => (nomatch h)⟩, fun h => (nomatch h)⟩
        · intro _ _ h
          exact absurd (show (0 : Int) ≤ 0 ∧ (0 : Int) ≤ 99 by decide) h
        · intro _ _ _ h
          exact absurd h (by simp [namesL])
        · intro _ _ _ _ h
          exact absurd h (by simp)
        · intro en _ _ _ S' k4 hS hD'
          exact ⟨false, v, rfl, by rw [en] <;> rfl, S', _, hD', fun h => (nomatch h), fun _ => rfl⟩
      · rintro σ' H4 ⟨r, v', rfl, er, S', D, hD4, hr1, hr2⟩
        obtain ⟨L, ln, eS, x⟩ := id hD4
        obtain ⟨dx, hd⟩ := x.desk
        refine ⟨_, rfl, _, rfl, ?_⟩
        cases r with
        | true =>
          have en : isName z = false := by
            cases h : isName z with
            | false => rfl
            | true => rw [h] at er; cases er
          rw [en]
          refine iteT ⟨_, rfl, _, rfl, _, rfl, ?_⟩
          refine ⟨_, rfl, d, dx, _, rfl, hd, rfl, d, S', D, rfl, hD4, fun p np => ⟨by decide, fun p2 np2 => ?_⟩⟩
          rw [hr1 rfl]
          refine ⟨_, _, .lst (.inl (.inl ((upd_ne (ne_of_none upd_same np2)).trans upd_same))) .nil, .lst (.inl (.inl upd_same)) .nil, rfl, rfl, ?_⟩
          exact q _
        | false =>
          have en : isName z = true := by
            cases h : isName z with
            | true => rfl
            | false => rw [h] at er; cases er
          rw [en]
          refine iteF ⟨_, rfl, _, rfl, ?_⟩
          refine ⟨_, rfl, d, dx, _, rfl, hd, rfl, d, S', D, rfl, hD4, fun p np => ⟨_, rfl, (show 1 ≤ sizeLine by decide), fun p2 np2 => ?_⟩⟩
          rw [hr2 rfl]
          refine ⟨.list [.str z], .list [.str z], .lst (.inl (.inl ((upd_ne (ne_of_none upd_same np2)).trans upd_same))) (.cons (.str z) .nil), .lst (.inl (.inl upd_same)) (.cons (.str z) .nil), ?_, ?_, ?_⟩
          · simp [SeqAt.shaped, PyData.canLay0, PyData.canLayAll0, PyData.depth, PyData.depthAll, zok]
          · simp [SeqAt.shaped, PyData.canLay0, PyData.canLayAll0, PyData.depth, PyData.depthAll, zok]
          · rw [SeqAt.eqv_refl _ (by simp [PyData.canLay0, PyData.canLayAll0, zok])]
            exact q _
theorem GxR_triples : TriplesOk (#[] : Array Value).toList := by first | exact trivial | simp [TriplesOk] | exact .nil
theorem law_sp {H : Hp} {a : Addr} {ns : List Int} (tabs : ∀ q ∈ tf, TabG H (He.tabOf K (He.codeOf K q))) (hl : ns.length ≤ 63) (hb : ∀ z ∈ ns, Builtin.Int.intBits z ≤ 1048576) (hS : SqL K H a (ns.map V.int)) :
    sp_law K [.ref a] H (fun v _ => v = .bl true) fun _ _ _ => False := ⟨a, ns, rfl, hS, hl, tabs ("is_name", none) (by simp [tf]), fun _ => rfl⟩
end
end Rr

set_option maxRecDepth 100000
set_option maxHeartbeats 0
namespace Rr
open PySem PySem.Spec PyProof.Rows L2
/-! ### the head: one run of the top, and what it leaves -/
abbrev RW : PySem.W.OpenRow := PySem.W.OpenLaw.row PySem.Challenge.rw_rrdesk_k03_names
abbrev hk : PySem.W.Hook := He.hookX 5 fa fn [] tf ex
def ob (s : PySem.W.SharedT) : He.AlX := He.obsX 5 fa fn [] tf ex (HandSHeadRun.getT s)
theorem ob_eq (s : PySem.W.SharedT) : ob s = hk.obs s.abs := He.obsX_eq (HandSHeadRun.getT_eq s)
theorem run (w : World) : HandSHeadRun.RunEq RW (PySem.W.view RW.prog [34]) hk ob 12000 ((["_wall", "SIGNS", "MOST_SIGNS", "is_name", "READY", "Caller", "DeskError", "NoName", "NoRank", "NoDesk", "Known", "Unknown", "Full", "NotReady", "IsReady", "TOP", "aged", "first", "MOST_PACE", "MOST_ROOM", "check_name", "check_rank", "check_ready", "check_not_ready", "Desk", "_law_cell_at", "_law_sign_by", "_law_text"] : List Str)) w := by
  intro os
  kernel_rfl
theorem tx_of {w : World} {h : Heap} {K : PySem.W.Frag} {mg : Str → Option Value} {base : Heap} (X : K.In h) (G : h.Ns mainGlobals mg) (c : He.SaysX fa fn [] tf ex w h K) (TB : ∀ p ∈ tf.map (He.cT K), LamX.TabB base mg p.1 p.2) : Tx K mg base := ⟨He.free_ok X G (c.t.d.fact 0 (f := .free "all") rfl),
  He.free_ok X G (c.t.d.fact 1 (f := .free "len") rfl),
  He.free_ok X G (c.t.d.fact 2 (f := .free "enumerate") rfl),
  He.free_ok X G (c.t.d.fact 3 (f := .free "list") rfl),
  He.free_ok X G (c.t.d.fact 4 (f := .free "range") rfl),
  He.free_ok X G (c.t.d.fact 5 (f := .free "bool") rfl),
  He.free_ok X G (c.t.d.fact 6 (f := .free "isinstance") rfl),
  He.int_ok X G (c.t.d.fact 7 (f := .int "MOST_SIGNS" 12) rfl),
  He.str_ok X G (c.t.d.fact 8 (f := .str "SIGNS" "abcdefghijklmnopqrstuvwxyz0123456789") rfl),
  He.str_ok X G (c.t.d.fact 9 (f := .str "READY" "ready") rfl),
  He.int_ok X G (c.t.d.fact 10 (f := .int "TOP" 99) rfl),
  He.int_ok X G (c.t.d.fact 11 (f := .int "MOST_PACE" 1000) rfl),
  He.int_ok X G (c.t.d.fact 12 (f := .int "MOST_ROOM" 60) rfl),
  He.glo_ok X G (c.t.d.fact 13 (f := .glo "Caller") rfl),
  He.glo_ok X G (c.t.d.fact 14 (f := .glo "DeskError") rfl),
  He.glo_ok X G (c.t.d.fact 15 (f := .glo "NoName") rfl),
  He.glo_ok X G (c.t.d.fact 16 (f := .glo "NoRank") rfl),
  He.glo_ok X G (c.t.d.fact 17 (f := .glo "NoDesk") rfl),
  He.glo_ok X G (c.t.d.fact 18 (f := .glo "Known") rfl),
  He.glo_ok X G (c.t.d.fact 19 (f := .glo "Unknown") rfl),
  He.glo_ok X G (c.t.d.fact 20 (f := .glo "Full") rfl),
  He.glo_ok X G (c.t.d.fact 21 (f := .glo "NotReady") rfl),
  He.glo_ok X G (c.t.d.fact 22 (f := .glo "IsReady") rfl),
  He.glo_ok X G (c.t.d.fact 23 (f := .glo "Desk") rfl),
  He.exc_ok (c.t.d.fact 24 (f := .exc "DeskError") rfl),
  He.exc_ok (c.t.d.fact 25 (f := .exc "NoName") rfl),
  He.exc_ok (c.t.d.fact 26 (f := .exc "NoRank") rfl),
  He.exc_ok (c.t.d.fact 27 (f := .exc "NoDesk") rfl),
  He.exc_ok (c.t.d.fact 28 (f := .exc "Known") rfl),
  He.exc_ok (c.t.d.fact 29 (f := .exc "Unknown") rfl),
  He.exc_ok (c.t.d.fact 30 (f := .exc "Full") rfl),
  He.exc_ok (c.t.d.fact 31 (f := .exc "NotReady") rfl),
  He.exc_ok (c.t.d.fact 32 (f := .exc "IsReady") rfl),
  He.exm_ok (c.t.d.fact 33 (f := .exm "NoName" "NoName" true) rfl),
  He.cls_ok (c.t.d.fact 34 (f := .cls "Caller") rfl),
  He.mkr_ok (c.t.d.fact 35 (f := .mkr "Caller") rfl),
  He.noat_ok (c.t.d.fact 36 (f := .noat "Caller" "bell") rfl),
  He.noat_ok (c.t.d.fact 37 (f := .noat "Caller" "due") rfl),
  He.noat_ok (c.t.d.fact 38 (f := .noat "Caller" "name") rfl),
  He.noat_ok (c.t.d.fact 39 (f := .noat "Caller" "rank") rfl),
  He.noat_ok (c.t.d.fact 40 (f := .noat "Caller" "since") rfl),
  He.noat_ok (c.t.d.fact 41 (f := .noat "Caller" "state") rfl),
  He.cls_ok (c.t.d.fact 42 (f := .cls "Desk") rfl),
  He.mkr_ok (c.t.d.fact 43 (f := .mkr "Desk") rfl),
  He.noat_ok (c.t.d.fact 44 (f := .noat "Desk" "_line") rfl),
  He.noat_ok (c.t.d.fact 45 (f := .noat "Desk" "now") rfl),
  He.noat_ok (c.t.d.fact 46 (f := .noat "Desk" "pace") rfl),
  He.noat_ok (c.t.d.fact 47 (f := .noat "Desk" "room") rfl),
  He.glo_ok X G (c.t.d.fact 48 (f := .glo "is_name") rfl),
  He.meth_ok (c.t.d.fact 49 (f := .meth "Caller" "become") rfl),
  He.glo_ok X G (c.t.d.fact 50 (f := .glo "aged") rfl),
  He.glo_ok X G (c.t.d.fact 51 (f := .glo "first") rfl),
  He.glo_ok X G (c.t.d.fact 52 (f := .glo "check_name") rfl),
  He.glo_ok X G (c.t.d.fact 53 (f := .glo "check_rank") rfl),
  He.glo_ok X G (c.t.d.fact 54 (f := .glo "check_ready") rfl),
  He.glo_ok X G (c.t.d.fact 55 (f := .glo "check_not_ready") rfl),
  He.meth_ok (c.t.d.fact 56 (f := .meth "Desk" "enter") rfl),
  He.meth_ok (c.t.d.fact 57 (f := .meth "Desk" "wake") rfl),
  He.meth_ok (c.t.d.fact 58 (f := .meth "Desk" "turn") rfl),
  He.meth_ok (c.t.d.fact 59 (f := .meth "Desk" "names") rfl),
  He.meth_ok (c.t.d.fact 60 (f := .meth "Desk" "ready") rfl),
  He.meth_ok (c.t.d.fact 61 (f := .meth "Desk" "state") rfl),
  He.meth_ok (c.t.d.fact 62 (f := .meth "Desk" "rank") rfl),
  He.meth_ok (c.t.d.fact 63 (f := .meth "Desk" "waited") rfl),
  He.meth_ok (c.t.d.fact 64 (f := .meth "Desk" "bell") rfl),
  He.meth_ok (c.t.d.fact 65 (f := .meth "Desk" "_known") rfl),
  He.meth_ok (c.t.d.fact 66 (f := .meth "Desk" "_waited") rfl),
  He.meth_ok (c.t.d.fact 67 (f := .meth "Desk" "_ready_callers") rfl),
  He.meth_ok (c.t.d.fact 68 (f := .meth "Desk" "_chosen") rfl),
  He.meth_ok (c.t.d.fact 69 (f := .meth "Desk" "_make_ready") rfl),
  He.meth_ok (c.t.d.fact 70 (f := .meth "Desk" "_go_last") rfl),
  He.glo_ok X G (c.t.d.fact 71 (f := .glo "_law_cell_at") rfl),
  He.glo_ok X G (c.t.d.fact 72 (f := .glo "_law_sign_by") rfl),
  He.glo_ok X G (c.t.d.fact 73 (f := .glo "_law_text") rfl),
  He.glo_ok X G (c.t.d.fact 74 (f := .glo "law") rfl),
  c.t.d.def_ 0 rfl,
  c.t.d.def_ 1 rfl,
  c.t.d.def_ 2 rfl,
  c.t.d.def_ 3 rfl,
  c.t.d.def_ 4 rfl,
  c.t.d.def_ 5 rfl,
  c.t.d.def_ 6 rfl,
  c.t.d.def_ 7 rfl,
  c.t.d.def_ 8 rfl,
  c.t.d.def_ 9 rfl,
  c.t.d.def_ 10 rfl,
  c.t.d.def_ 11 rfl,
  c.t.d.def_ 12 rfl,
  c.t.d.def_ 13 rfl,
  c.t.d.def_ 14 rfl,
  c.t.d.def_ 15 rfl,
  c.t.d.def_ 16 rfl,
  c.t.d.def_ 17 rfl,
  c.t.d.def_ 18 rfl,
  c.t.d.def_ 19 rfl,
  c.t.d.def_ 20 rfl,
  c.t.d.def_ 21 rfl,
  c.t.d.def_ 22 rfl,
  c.t.d.def_ 23 rfl,
  c.t.d.def_ 24 rfl,
  c.t.d.def_ 25 rfl,
  c.t.d.def_ 26 rfl,
  c.t.d.def_ 27 rfl,
  c.t.d.def_ 28 rfl,
  (let t := TB (He.cT K ("is_name", none)) (List.mem_map_of_mem (f := He.cT K) (show ((("is_name", none)) : He.Defn) ∈ tf by simp [tf])); ⟨t.code, t.bm, t.gP⟩)⟩
theorem nobody {P : Program} {w : World} {H : Hp} {s : Shared} {e : Value} {s' : Shared} (h : L2N.CX P w [] H s (fun _ _ _ => False) e s') : False := by
  obtain ⟨_, _, _, _, _, _, _, _, _, _, _, _, z⟩ := h
  exact z
theorem lawAt {w : World} {h : Heap} {K : PySem.W.Frag} {mg : Str → Option Value} {fa0 : Addr} (X : K.In h) (G : h.Ns mainGlobals mg) (hfa : mg ("law" : Str) = some (.ref fa0)) (c : He.SaysX fa fn [] tf ex w h K) :
    LamX.LawAtS PySem.Challenge.rw_rrdesk_k03_names w K (L2N.CX (PySem.Challenge.rw_rrdesk_k03_names).prog w) 4 63 "_law_script" mg fa0 h := by
  have e : fa0 = He.ga K "law" := Value.ref.inj (Option.some.inj (hfa.symm.trans (He.glo_ok X G (c.t.d.facts (f := .glo "law") (by simp [fa])))))
  subst e
  obtain ⟨fd, F⟩ := c.t.d.def_ 28 rfl
  refine ⟨fd, tf.map (He.cT K), sp_law K, fun p hp => ?_, fun p hp => ?_, fun p hp => ?_, fun s u => FunD.bindsA (ps := ["_law_script"]) F (fun _ _ _ _ _ _ us hl => match us, hl with | [_], _ => rfl) s [u] rfl, ?_, fun base hK hG TB => ok_law (tx_of X G c TB) F⟩
  · obtain ⟨q, hq, rfl⟩ := List.mem_map.mp hp
    exact c.empty q hq
  · obtain ⟨q, hq, rfl⟩ := List.mem_map.mp hp
    exact c.out q hq
  · obtain ⟨q, hq, rfl⟩ := List.mem_map.mp hp
    exact PySem.W.codeHd_of_K X (c.hd q hq)
  · intro H a ns hl hb hT hS
    have tabs : ∀ q ∈ tf, GxR.TabG H (He.tabOf K (He.codeOf K q)) := fun q hq => ⟨#[], hT _ (List.mem_map_of_mem hq), GxR_triples⟩
    exact law_sp tabs hl hb hS
end Rr
open PySem PySem.W PySem.Calls PyProof.Rows
theorem PySem.Challenge.cw_rrdesk_k03_names_holds : PySem.Challenge.rw_rrdesk_k03_names.Holds := by
  w_on; o_law
  refine HandSHeadRun.head_any (r := OpenLaw.row PySem.Challenge.rw_rrdesk_k03_names) (q := view (OpenLaw.row PySem.Challenge.rw_rrdesk_k03_names).prog [34]) (H := Rr.hk) (ob := Rr.ob) (M := 12000) (loose := (["_wall", "SIGNS", "MOST_SIGNS", "is_name", "READY", "Caller", "DeskError", "NoName", "NoRank", "NoDesk", "Known", "Unknown", "Full", "NotReady", "IsReady", "TOP", "aged", "first", "MOST_PACE", "MOST_ROOM", "check_name", "check_rank", "check_ready", "check_not_ready", "Desk", "_law_cell_at", "_law_sign_by", "_law_text"] : List Str)) (d := HandSHeadRun.topDef (OpenLaw.row PySem.Challenge.rw_rrdesk_k03_names).prog 34) (kwd := []) Rr.ob_eq
    (by kernel_rfl) (fun s => by kernel_rfl) Rr.run (by kernel_rfl) (by kernel_rfl) (by kernel_rfl) (by rfl) (by first | assumption | decide +kernel) (by decide +kernel) ⟨rfl, rfl, rfl, rfl, rfl, by decide +kernel⟩ ?hw ?hc
  case hw => w_witness2
  case hc =>
    refine LamX.walk_ofTsE (l := PySem.Challenge.rw_rrdesk_k03_names) (n := 63) (k := 4) (x := "_law_script") (CX := fun w => L2N.CX (PySem.Challenge.rw_rrdesk_k03_names).prog w) rfl (by decide) (by kernel_rfl) ⟨rfl, by decide, by decide⟩ ?F (fun _ _ _ _ _ z => Rr.nobody z)
    intro w mg fa h Y G hmg0
    obtain ⟨K, KX, c⟩ := Y
    have hmg : mg ("law" : PySem.Str) = some (.ref fa) := by
      have e : (HandSHeadRun.topDef (OpenLaw.row PySem.Challenge.rw_rrdesk_k03_names).prog 34).name = ("law" : PySem.Str) := by kernel_rfl
      rw [← e]
      exact hmg0
    exact ⟨K, KX, Rr.lawAt KX G hmg c⟩

