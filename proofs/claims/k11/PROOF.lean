import PyProof.Rows.All
import Wide.All
import OpenK.AllK
import Wide.FinOn
import PyProof.P3Eq
import HandS.ForMost
import HandS.Codes
import HandS.IsInst
import HandS.Evl
import HandS.Walk
import HandS.Defaults
import HandS.ExcCtx
import HandS.HotCalls
import HandS.ExcIs
import HandS.AnyAll
import HandS.DictComp
import HandS.FStr
import HandS.RaiseMore
import HandS.Small
import HandS.EndTab
import HandS.HeadWalk
import HandS.Head2
import HandS.HeadHook4
import HandS.More
import HandS.Conv
import HandS.SuiteRaise
import KE.KExcStr
import HandS.RaiseFrom
import HandS.MakeKw
import HandS.TryOnly
import PyProof.StrBlock2
import HandS.Style
import PySem.Challenge.RW_rrdesk_k11_read
set_option Elab.async false
set_option linter.all false
set_option maxRecDepth 100000
set_option maxHeartbeats 4000000
/-! rules of mine over the hand layer -/
namespace Rr
open PySem PySem.Spec PyProof.Rows L2
/-! ### what leaves a def -/
theorem passN {X : Cx} : Passes (L2N.CX X.prog X.w) X E0 := by
  intro _ _ _ _ _ _ _ h
  obtain ⟨_, _, _, _, _, _, _, _, _, _, _, _, z⟩ := h
  exact z.elim
theorem tkN {X : Cx} : L2N.Takes X (fun _ _ _ _ => False) := by
  intro _ _ x
  obtain ⟨_, _, _, _, _, _, _, _, _, _, _, _, _, _, _, _, z⟩ := x
  exact z.elim
/-- nothing is let out, at any slots -/
theorem p0 {X : Cx} (σ : L2.St) : PassesAt (L2N.CX X.prog X.w) X σ ((fun _ => E0 : L2.St → XK) σ) := fun pins H s e s' I c => passN pins σ H s e s' I c
/-- what a callee lets out is let out -/
theorem pU {X : Cx} {E : XK} (tk : L2N.Takes X (fun cls d _ H => E cls d H)) (σ : L2.St) : PassesAt (L2N.CX X.prog X.w) X σ ((fun _ => E : L2.St → XK) σ) := fun pins H s e s' I c =>
  L2N.passes_call tk (fun _ _ _ _ h => h) pins σ H s e s' I c
/-! ### calls: by a def's name, of a method, of a class -/
section
variable (P : Program) (w : World) (K : PySem.W.Frag) (mg : Str → Option Value) (base : Heap)
/-- a def's promise, to be called by its name -/
def Cal (k : Nat) (x : Str) (sp : Sp) : Prop := ∃ (f : Addr) (fd : FuncData) (ps : List Str), FnOk P w K mg base (L2N.CX P w) k f fd ps sp ∧ mg x = some (.ref f) ∧ PySem.W.keepIn K (.ref f) = true ∧ Binds K fd ps []
/-- a method's promise -/
def Met (k : Nat) (C : Addr) (m : Str) (sp : Sp) : Prop := ∃ (f : Addr) (fd : FuncData) (ps : List Str), Cls K C ∧ Meth K C m f ∧ FnOk P w K mg base (L2N.CX P w) k f fd ps sp ∧ Binds K fd ps []
/-- a class that is called; sp: its __init__ -/
def Mak (k : Nat) (x : Str) (C : Addr) (sp : Sp) : Prop := ∃ (f : Addr) (fd : FuncData) (ps : List Str), Mk K C f ∧ FnOk P w K mg base (L2N.CX P w) k f fd ps sp ∧ mg x = some (.ref C) ∧ Binds K fd ps []
/-- a method called with keywords: n values (self too), the names ks -/
def MetK (k : Nat) (C : Addr) (m : Str) (sp : Sp) (n : Nat) (ks : List Str) (gV : List V → List V → List V) : Prop := ∃ (f : Addr) (fd : FuncData) (ps : List Str) (g : List Value → List Value → List Value),
  Cls K C ∧ Meth K C m f ∧ FnOk P w K mg base (L2N.CX P w) k f fd ps sp ∧ KBn K fd ps n ks g gV
end
def tcF (sp : Sp) (E : L2.St → XK) (t : TA) : TE := fun σ H Q => t σ H fun vs H1 => sp vs H1 Q (E σ)
def tcM (sp : Sp) (E : L2.St → XK) (C : Addr) (m : Str) (ta : TE) (t : TA) : TE := fun σ H Q => ta σ H fun x H1 => ∃ a dx fs, x = .ref a ∧ H1 a = some (.ins C dx fs) ∧ fs.lookup m = none ∧ t σ H1 fun vs H2 => sp (x :: vs) H2 Q (E σ)
def tcC (sp : Sp) (C : Addr) (E : L2.St → XK) (t : TA) : TE := fun σ H Q => t σ H fun vs H1 => ∀ x dx, H1 x = none → H1 dx = none → dx ≠ x → sp (.ref x :: vs) (upd (upd H1 dx (.own x)) x (.ins C dx [])) (fun v H2 => v = .non ∧ Q (.ref x) H2) (E σ)
def tcMK (sp : Sp) (E : L2.St → XK) (C : Addr) (m : Str) (n l : Nat) (gV : List V → List V → List V) (ta : TE) (t tk : TA) : TE := fun σ H Q => ta σ H fun x H1 => ∃ a dx fs, x = .ref a ∧ H1 a = some (.ins C dx fs) ∧ fs.lookup m = none ∧
  t σ H1 fun vs H2 => tk σ H2 fun zs H3 => (x :: vs).length = n ∧ zs.length = l ∧ sp (gV (x :: vs) zs) H3 Q (E σ)
section
variable {X : Cx} {k j : Nat} {C : Addr} {x m : Str} {sp : Sp} {E : L2.St → XK} {p pos apos : Pos} {e o : Expr} {es : List Expr} {ta : TE} {t tk : TA}
/-- f(e, ..) -/
theorem pf (c : Cal X.prog X.w X.K X.mg X.base k x sp) (hr : Room j X.A) (hk : k ≤ j) (hg : Gl X x) (hx : ∀ σ, PassesAt (L2N.CX X.prog X.w) X σ (E σ)) (ha : PA X (e :: es) t)
    (hdb : (x == ("__debug__" : Str)) = false := by decide) (he : starEach (e :: es) X.env = (false, eval e X.env) :: starEach es X.env := by rfl) (hpl : (backTo pos (starEach es X.env)).any (·.1) = false := by rfl) :
    PE X (.Call (.Name x p) (e :: es) [] pos) (tcF sp E t) := by
  obtain ⟨f, fd, ps, F, hm, kp, b⟩ := c
  exact pe_callS F (hr.mono hk) hg hm kp b hx ha hdb he hpl
/-- o.m(e, ..) -/
theorem pm {pl : Sem Bool} (c : Met X.prog X.w X.K X.mg X.base k C m sp) (hr : Room j X.A) (hk : k ≤ j) (hx : ∀ σ, PassesAt (L2N.CX X.prog X.w) X σ (E σ)) (ho : PE X o ta) (ha : PA X (e :: es) t)
    (hst : starEach (e :: es) X.env = (false, eval e X.env) :: starEach es X.env := by rfl) (hpl : (backTo pos (starEach es X.env)).any (·.1) = false := by rfl)
    (ht : eval (.Call (.Attribute o m apos) (e :: es) [] pos) X.env = (do
      let r ← eval o X.env
      standAt apos.atName
      let (g, ys) ← holding [r] (getMethod r m pl)
      callWith pos g ys (backTo pos (starEach (e :: es) X.env)) (backToKw pos (keywordEach [] X.env))) := by rfl) :
    PE X (.Call (.Attribute o m apos) (e :: es) [] pos) (tcM sp E C m ta t) := by
  obtain ⟨f, fd, ps, hc, hm, F, b⟩ := c
  refine ⟨fun pins s σ H Q I h => PySem.W.methodCall_KW (pl := pl) (thn (ho.run pins s σ H _ I h) ?_) ht⟩
  rintro u s1 ⟨y, H1, I1, ry, a, dx, fs, rfl, ea, l, q⟩
  obtain rfl : u = Value.ref a := ry
  refine getmeth_ok I1 ea hc hm l (PySem.W.callWith_K (first := [.ref a]) (h₀ := X.base) I.ok.mod.kin hm.kp (thn (ha.run pos pins s1 σ H1 _ I1 q) ?_) hst hpl)
  rintro us s2 ⟨vs, H2, I2, r, q2⟩
  exact ⟨I2.kIn, run_fnS (us := .ref a :: us) (vs := .ref a :: vs) F (hr.mono hk) b (hx σ) I2 (.cons rfl r) q2⟩
/-- o.m() -/
theorem pm0 {pl : Sem Bool} (c : Met X.prog X.w X.K X.mg X.base k C m sp) (hr : Room j X.A) (hk : k ≤ j) (hx : ∀ σ, PassesAt (L2N.CX X.prog X.w) X σ (E σ)) (ho : PE X o ta)
    (ht : eval (.Call (.Attribute o m apos) [] [] pos) X.env = (do
      let r ← eval o X.env
      standAt apos.atName
      let (g, ys) ← holding [r] (getMethod r m pl)
      callWith pos g ys (backTo pos (starEach [] X.env)) (backToKw pos (keywordEach [] X.env))) := by rfl) :
    PE X (.Call (.Attribute o m apos) [] [] pos) (tcM sp E C m ta tNil) := by
  obtain ⟨f, fd, ps, hc, hm, F, b⟩ := c
  refine ⟨fun pins s σ H Q I h => PySem.W.methodCall_KW (pl := pl) (thn (ho.run pins s σ H _ I h) ?_) ht⟩
  rintro u s1 ⟨y, H1, I1, ry, a, dx, fs, rfl, ea, l, q⟩
  obtain rfl : u = Value.ref a := ry
  exact getmeth_ok I1 ea hc hm l (PySem.W.callWith_K0 (first := [.ref a]) I1.kIn hm.kp (run_fnS (us := [.ref a]) (vs := [.ref a]) F (hr.mono hk) b (hx σ) I1 (.cons rfl .nil) q))
/-- o.m(e, .., k = v, ..) -/
theorem pmk {pl : Sem Bool} {kws : List Keyword} {ks : List Str} {n : Nat} {gV : List V → List V → List V} (c : MetK X.prog X.w X.K X.mg X.base k C m sp n ks gV) (hr : Room j X.A) (hk : k ≤ j) (hx : Passes (L2N.CX X.prog X.w) X E0) (ho : PE X o ta) (ha : PA X (e :: es) t) (hkw : PK X kws tk)
    (hall : (backToKw pos (keywordEach kws X.env)).all (·.1.isSome) = true := by rfl) (hks : (backToKw pos (keywordEach kws X.env)).filterMap (·.1) = ks := by rfl)
    (hst : starEach (e :: es) X.env = (false, eval e X.env) :: starEach es X.env := by rfl)
    (hpl : ((backTo pos (starEach (e :: es) X.env)).any (·.1) || (backToKw pos (keywordEach kws X.env)).any (·.1.isNone)) = false := by rfl)
    (ht : eval (.Call (.Attribute o m apos) (e :: es) kws pos) X.env = (do
      let r ← eval o X.env
      standAt apos.atName
      let (g, ys) ← holding [r] (getMethod r m pl)
      callWith pos g ys (backTo pos (starEach (e :: es) X.env)) (backToKw pos (keywordEach kws X.env))) := by rfl) :
    PE X (.Call (.Attribute o m apos) (e :: es) kws pos) (tcMK sp (fun _ => E0) C m n ks.length gV ta t tk) := by
  obtain ⟨f, fd, ps, g, hc, hm, F, b⟩ := c
  refine ⟨fun pins s σ H Q I h => PySem.W.methodCall_KW (pl := pl) (thn (ho.run pins s σ H _ I h) ?_) ht⟩
  rintro u s1 ⟨y, H1, I1, ry, a, dx, fs, rfl, ea, l, q⟩
  obtain rfl : u = Value.ref a := ry
  refine getmeth_ok I1 ea hc hm l (PySem.W.callWith_KW (first := [.ref a]) (h₀ := X.base) I.ok.mod.kin hm.kp hall (thn (ha.run pos pins s1 σ H1 _ I1 q) ?_) hpl hst)
  rintro us s2 ⟨vs, H2, I2, r, q2⟩
  refine thn (hkw.run pos pins s2 σ H2 _ I2 q2) ?_
  rintro ws s3 ⟨zs, H3, I3, rz, l1, l2, q3⟩
  refine ⟨I3.kIn, ?_⟩
  rw [hks]
  exact run_fnN (us := .ref a :: us) (vs := .ref a :: vs) F (hr.mono hk) b hx I3 (.cons rfl r) rz l1 l2 q3
/-- C(e, ..) -/
theorem pc (c : Mak X.prog X.w X.K X.mg X.base k x C sp) (hr : Room j X.A) (hk : k + 1 ≤ j) (hg : Gl X x) {E : XK} (hx : Passes (L2N.CX X.prog X.w) X E) (ha : PA X (e :: es) t)
    (hdb : (x == ("__debug__" : Str)) = false := by decide) (he : starEach (e :: es) X.env = (false, eval e X.env) :: starEach es X.env := by rfl) (hpl : (backTo pos (starEach es X.env)).any (·.1) = false := by rfl) :
    PE X (.Call (.Name x p) (e :: es) [] pos) (tcC sp C (fun _ => E) t) := by
  obtain ⟨f, fd, ps, M, F, hm, b⟩ := c
  refine ⟨fun pins s σ H Q I h => (pe_make M F (hr.mono hk) hg hm b .nil hx ha hdb he hpl).run pins s σ H Q I ?_⟩
  unfold tMake
  unfold tcC at h
  simp only [List.append_nil]
  exact h
/-- an own exception of one argument -/
theorem pmk1 {bmB : List Value} {B newId initId : String} (F : ExcBaseFacts B newId initId bmB) (q : PySem.W.excIn X.K C bmB newId = true) (gC : X.mg x = some (.ref C)) (kC : PySem.W.keepIn X.K (.ref C) = true) (r : Raises X (.ref C)) (hg : Gl X x)
    (he : PE X e ta) (hs : starEach [e] X.env = (false, eval e X.env) :: starEach [] X.env := by rfl) (hdb : (x == ("__debug__" : Str)) = false := by decide) :
    L2N.PMk X (.Call (.Name x p) [e] [] pos) (fun σ H Q => ta σ H fun _ H1 => Q (.ref C) none H1) := by
  intro pins s σ H Q I h
  refine wpAny_Call_Name_kw (ld_glob I hg gC (PySem.W.callWith_K (h₀ := X.base) I.ok.mod.kin kC ?_ hs (by rfl)) hdb)
  rw [hs]
  refine Calls.spliced_cons (thn (he.run pins s σ H _ I h) ?_)
  rintro u s1 ⟨v, H1, I1, r1, q1⟩
  refine Calls.spliced_nil ⟨I1.kIn, ?_⟩
  obtain ⟨_, _, _, _, _, _, _, _, _, _, _, _, _, _, _, _, _, hC, hN, hni, T⟩ := exc_obj I1.kIn q
  exact wpAny_call_exc_subT F T hC hN hni (fun h' a hm => L2N.mk_of I1 hm r q1 (I1.hok.gone hm.new)) (by show 1 ≤ sizeLine; rw [sizeLine_eq]; omega)
end
/-! ### a def with its code object known -/
section
variable {P : Program} {w : World} {K : PySem.W.Frag} {mg : Str → Option Value} {base : Heap} {x qual : Str} {params : Arguments} {body : List Stmt} {scope : Scope} {dvs : List V} {kws : List (Str × V)} {fd : FuncData} {at_ : Str × Option Str}
theorem okF {N ps : List Str} {k : Nat} {sp : Sp} (F : FunD K x qual params body scope dvs kws (He.fAd K at_) fd) (S : FnScope N ps scope) (len : ∀ vs H Q E, sp vs H Q E → vs.length = ps.length)
    (hbody : ∀ (A : Around) (outer : List Env) (s : Shared) (H : Hp) (vs : List V) (Q : VK) (E : XK), Room k (A.deeper (envOfC qual scope s.heap.objs.size (He.fAd K at_) (.ref (He.codeOf K at_)))) → sp vs H Q E →
      ∃ t, PSs (cxOf (L2N.CX P w) P w K mg base N qual scope (He.fAd K at_) (.ref (He.codeOf K at_)) A outer s H E) body t ∧ t { nx := fun _ H' => Q .non H', rt := Q } (start N vs) H) : FnOk P w K mg base (L2N.CX P w) (k + 1) (He.fAd K at_) fd ps sp := by
  obtain ⟨oc, od, dV, kV, doc, pm, an, cdv, ct, osl, rfl, lk, hcd, _, _⟩ := F.ex
  obtain ⟨c, rfl⟩ := He.codeIn_ref hcd
  have ec : He.codeOf K at_ = c := He.codeOf_eq lk rfl
  subst ec
  exact fn_of lk hcd S len hbody
end
end Rr
namespace Rr
open PySem PySem.Spec PyProof.Rows L2
section
variable {X : Cx} {x : Str} {pos : Pos}
/-- a constant of the module -/
theorem pgI {i : Int} (hg : Gl X x) (h : ∃ t, X.mg x = some (.int i t)) (hd : (x == ("__debug__" : Str)) = false := by decide) : PE X (.Name x pos) (tC (.int i)) := by
  obtain ⟨t, h⟩ := h
  exact pe_glob hg h ⟨t, rfl⟩ hd
theorem pgS {z : Str} (hg : Gl X x) (h : ∃ t, X.mg x = some (.str z t)) (hd : (x == ("__debug__" : Str)) = false := by decide) : PE X (.Name x pos) (tC (.str z)) := by
  obtain ⟨t, h⟩ := h
  exact pe_glob hg h ⟨t, rfl⟩ hd
end
/-- a field, within a comprehension -/
theorem pe_fldK {X : Cx} {K : PySem.W.Frag} {e : Expr} {ta : TE} {f : Str} {pos : Pos} (hK : X.K = K) (he : PE X e ta) (hb : attributeBase e f X.env (eval e X.env) = eval e X.env) : PE X (.Attribute e f pos) (tFld K ta f) := by
  subst hK
  exact pe_fld he hb
section
variable {X : Cx} {K : PySem.W.Frag} {tg l : Expr} {tl : TE}
theorem ix_listK (hK : X.K = K) : IxR X (rIxL K) := by
  subst hK
  exact ix_list
theorem ix_tupK (hK : X.K = K) : IxR X (rIxT K) := by
  subst hK
  exact ix_tup
theorem sl_listK (hK : X.K = K) : SlR X (rSlL K) := by
  subst hK
  exact sl_list
theorem pi_listK (hK : X.K = K) (hl : PE X l tl) : PI X tg l (iList K tl) := by
  subst hK
  exact pi_list hl
theorem len_seqK (hK : X.K = K) : CallR X (.builtin "len") (fun xs H Q => ∃ p ys, xs = [.ref p] ∧ (SqL K H p ys ∨ SqT K H p ys) ∧ Q (.int ys.length) H) := by
  subst hK
  exact call_len_seq
theorem in_seqK (hK : X.K = K) : OpR X (compareOp .In) (rIn K false) := by
  subst hK
  exact op_in_seq
theorem isiK (hK : X.K = K) : CallR X (.builtin "isinstance") (rIsi K) := by
  subst hK
  exact call_isi
end
/-- a text, turned round -/
theorem picks_back (c : Array Nat) : ((PySem.Builtin.Str.strSliceIndices none none (-1) c.size).filterMap (c[·]?)) = c.toList.reverse := by
  rw [PyProof.Rows.picked_rev, PyProof.Rows.filterMap_get, List.map_map]
  · refine List.ext_getElem (by simp) fun i h1 h2 => ?_
    have hi : i < c.size := by simpa using h1
    simp only [List.getElem_map, List.getElem_range, Function.comp, List.getElem_reverse, Array.length_toList, Array.getElem_toList]
    have hj : c.size - 1 - i < c.size := by omega
    simp [Array.getD, hj]
  · intro i hi
    obtain ⟨j, hj, rfl⟩ := List.mem_map.mp hi
    have := List.mem_range.mp hj
    omega
def tRevS (te : TE) : TE := fun σ H Q => te σ H fun x H1 => ∃ z, x = .str z ∧ z.length ≤ sizeLine ∧ Q (.str (SX.S z.cps.toList.reverse)) H1
theorem pe_revS {X : Cx} {e : Expr} {te : TE} {k : Nat} {p1 p2 p3 pos : Pos} (he : PE X e te) : PE X (.Subscript e (.Slice none none (some (.UnaryOp .USub (.Constant (.int 1) k p1) p2)) p3) pos) (tRevS te) := by
  constructor
  intro pins s σ H Q I h
  refine Subscript_ (thn (he.run pins s σ H _ I h) ?_)
  rintro v s1 ⟨x, H1, I1, r1, z, rfl, hz, q⟩
  obtain ⟨t, rfl⟩ := r1
  have stp : PO X (some (.UnaryOp .USub (.Constant (.int 1) k p1) p2)) (tPart (tUn (rU fun i => .int (-i)) (tC (.int 1)))) := po_some (pe_un un_neg pe_int)
  refine wpAny_Slice (thn (po_none.run pins s1 σ H1 (fun o H2 => o = none ∧ H2 = H1) I1 ⟨rfl, rfl⟩) ?_)
  rintro vl s2 ⟨_, _, I2, pl, rfl, rfl⟩
  refine thn (po_none.run pins s2 σ _ (fun o H3 => o = none ∧ H3 = _) I2 ⟨rfl, rfl⟩) ?_
  rintro vu s3 ⟨_, _, I3, pu, rfl, rfl⟩
  refine thn (stp.run pins s3 σ _ (fun o H4 => o = some (-1) ∧ H4 = _) I3 ⟨1, rfl, -1, rfl, rfl, rfl⟩) ?_
  rintro vs s4 ⟨_, _, I4, ps, rfl, rfl⟩
  obtain ⟨l, rfl, el⟩ := IsPart.raw pl
  obtain ⟨u, rfl, eu⟩ := IsPart.raw pu
  obtain ⟨n, rfl, en⟩ := IsPart.raw ps
  cases l with
  | some _ => cases el
  | none =>
  cases u with
  | some _ => cases eu
  | none =>
  cases n with
  | none => cases en
  | some m =>
  obtain ⟨i, t2⟩ := m
  have ei : i = -1 := Option.some.inj en
  subst ei
  have J : Inv X pins σ _ { s4 with heap := s4.heap.push { cls := .type "slice", data := .fields #[partValue none, partValue none, partValue (some (-1, t2))] } } := I4.kept (t' := s4.toks) fun b o q => Heap.get?_push_of_some _ q
  refine tail_any (ops := [.str z t, .ref s4.heap.objs.size]) (typeIs_str _ _ _) F.slot_str_getitem.lookup ?_ (by with_unfolding_all rfl)
  have hs := Heap.IsSliceOf.new s4.heap (partValue none) (partValue none) (partValue (some (-1, t2)))
  obtain ⟨os, h1, h2, h3⟩ := hs
  refine wpAny_getItem_str_slice (l := none) (u := none) (st := some (-1, t2)) ⟨os, h1, h2, h3⟩ rfl ?_
  have e : ((PySem.Builtin.Str.strSliceIndices none none (-1) z.length).filterMap (z.cps[·]?)) = z.cps.toList.reverse := picks_back z.cps
  show Made.post (.str ⟨((PySem.Builtin.Str.strSliceIndices none none (-1) z.length).filterMap (z.cps[·]?)).toArray⟩) (EP X pins σ Q) _
  rw [e]
  exact ⟨by rw [show (⟨z.cps.toList.reverse.toArray⟩ : Str).length = z.length by simp [Str.length]]; exact hz, .str _, _, J.tok _, ⟨_, rfl⟩, q⟩
/-- a generator expression's scope, looked at -/
theorem gs_of {env : Env} {scope : Scope} {x : Str} (h : (decide (scope.kind = .function) && (!scope.isCoroutine && (scope.names.all (fun y => !decide (y.2 = .cell) && !decide (y.2 = .free)) && (decide (scope.names.lookup (".0" : Str) = some NameKind.local) && decide (scope.names.lookup x = some .local))))) = true) : GxR.GenS env scope x := by
  simp only [Bool.and_eq_true, decide_eq_true_eq, List.all_eq_true, Bool.not_eq_true', decide_eq_false_iff_not] at h
  obtain ⟨h1, h2, h3, h4, h5⟩ := h
  exact ⟨h1, h2, fun y hy => (h3 y hy).1, h4, h5, fun y hy z => absurd z (h3 y hy).2⟩
end Rr

set_option maxRecDepth 100000
set_option maxHeartbeats 4000000
/-! any, all of a generator expression over a text's signs whose test reads the module's constants -/
namespace Rr
open PySem PySem.Spec PyProof.Rows L2
open GxR (TabB TabG Tabbed GenS Ready trF)
/-- the test of the sign c; the module's names may be read in it -/
def EltG (prog : Program) (w : World) (mg : Str → Option Value) (scope : Scope) (x : Str) (elt : Expr) (pb : Nat → Bool) : Prop :=
  ∀ (env' : Env) (B : Around) (F : Value → Shared → Prop) (c : Nat) (t : Tok) (s' : Shared) (m' : Str → Option Value), env'.scope = scope → env'.globals = mainGlobals → s'.heap.Ns mainGlobals mg → s'.heap.Ns env'.locals m' → m' x = some (.str ⟨#[c]⟩ t) →
    wpAny (model prog w) B (eval elt env') (fun y s'' => y = .bool (pb c) ∧ Keeps s' s'') F s'
/-- c in NAME: NAME a text of the module -/
theorem elt_in {prog : Program} {w : World} {mg : Str → Option Value} {scope : Scope} {x y : Str} {z : Str} {p1 p2 p3 : Pos} (hk : scope.kind = .function) (hl : scope.names.lookup x = some .local) (hy : scope.names.lookup y = some .globalImplicit) (hz : ∃ t, mg y = some (.str z t)) (hd : (x == ("__debug__" : Str)) = false := by decide) (hdy : (y == ("__debug__" : Str)) = false := by decide) :
    EltG prog w mg scope x (.Compare (.Name x p1) [.In] [.Name y p2] p3) (fun c => decide (c ∈ z.cps.toList)) := by
  intro env' B F c t s' m' hs hg hG hn hm
  obtain ⟨tz, hz⟩ := hz
  refine wpAny_Compare1 (wpAny_Name (wpAny_loadName_local (by rw [hs]; exact hk) (show env'.scope.names.lookup x = some .local by rw [hs]; exact hl) hn hm ?_) hd)
  refine Calls.Name_function_global (by rw [hs]; exact hk) (show env'.scope.names.lookup y = some .globalImplicit by rw [hs]; exact hy) (Calls.loadGlobal_global (by rw [hg]; exact hG) hz ?_) hdy
  exact PyProof.Rows.in_str ⟨congrArg Value.bool (PySem.StrLaws.found_one z c), GxR.keeps_refl _⟩
/-- c not in NAME -/
theorem elt_notIn {prog : Program} {w : World} {mg : Str → Option Value} {scope : Scope} {x y : Str} {z : Str} {p1 p2 p3 : Pos} (hk : scope.kind = .function) (hl : scope.names.lookup x = some .local) (hy : scope.names.lookup y = some .globalImplicit) (hz : ∃ t, mg y = some (.str z t)) (hd : (x == ("__debug__" : Str)) = false := by decide) (hdy : (y == ("__debug__" : Str)) = false := by decide) :
    EltG prog w mg scope x (.Compare (.Name x p1) [.NotIn] [.Name y p2] p3) (fun c => !decide (c ∈ z.cps.toList)) := by
  intro env' B F c t s' m' hs hg hG hn hm
  obtain ⟨tz, hz⟩ := hz
  refine wpAny_Compare1 (wpAny_Name (wpAny_loadName_local (by rw [hs]; exact hk) (show env'.scope.names.lookup x = some .local by rw [hs]; exact hl) hn hm ?_) hd)
  refine Calls.Name_function_global (by rw [hs]; exact hk) (show env'.scope.names.lookup y = some .globalImplicit by rw [hs]; exact hy) (Calls.loadGlobal_global (by rw [hg]; exact hG) hz ?_) hdy
  exact PyProof.Rows.notIn_str ⟨congrArg (fun b => Value.bool (!b)) (PySem.StrLaws.found_one z c), GxR.keeps_refl _⟩
section
variable {X : Cx} {pins : List (Addr × Obj)} {σ : L2.St} {H : Hp} {s : Shared} {c P : Addr} {elt iter : Expr} {x : Str} {px p pos gpos : Pos} {scope : Scope} {pb : Nat → Bool} {te : TE} {k : Nat}
/-- the generator is made: what its walk will find -/
theorem gen_signs {Q' : Value → Shared → Prop} {R : Str → Hp → Prop} (hr : Room k X.A) (TB : TabB X.base X.mg c P) (hcode : X.env.code = .ref c) (S : GenS X.env scope x) (hi : PE X iter te) (hel : EltG X.prog X.w X.mg scope x elt pb)
    (hs : ∀ v, genFold iter X.env v = pure v) (I : Inv X pins σ H s) (h : te σ H fun v H1 => ∃ a : Str, v = .str a ∧ TabG H1 P ∧ R a H1) (hQ : ∀ a H1 g s5, R a H1 → Ready X pins σ H1 P a pb g s5 → Q' (.ref g) s5) :
    wpAny (model X.prog X.w) X.A (eval (.GeneratorExp elt [⟨.Name x px, iter, [], 0⟩] scope gpos) X.env) Q' X.xe s := by
  refine wpAny_GeneratorExp_walksQ hr.hd S.co (closure_ok S.free) S.cell S.dot S.loc S.kind (by have := hr.dp; omega) (thn (hi.run pins s σ H _ I h) ?_) hs
  rintro xv s1 ⟨v, H1, I1, r1, a, rfl, ⟨ps, hP, ht⟩, q1⟩
  obtain ⟨t, rfl⟩ := id r1
  refine wpAny_pyIter_str fun it St W hst => ⟨I1.nolimit.push it, ?_⟩
  have atP : s1.heap.get? P = some { cls := .none, data := .fields ps } := I1.hok P _ hP
  have ltP : P < s1.heap.objs.size := Heap.lt_size atP
  have up : ∀ b u, s1.heap.get? b = some u → (s1.heap.push it).get? b = some u := fun b u e => Heap.get?_push_of_some _ e
  have cd : PySem.W.CodeHd (s1.heap.push it) c P := TB.code.keeps fun b u e => up b u (I1.bk b u e)
  have szI : (s1.heap.push it).objs.size = s1.heap.objs.size + 1 := Heap.size_push ..
  have ltS : cStatics < s1.heap.objs.size := by
    obtain ⟨_, hns, _⟩ := I1.nolimit
    exact hns.lt
  have neP : cStatics ≠ P := by
    intro e
    obtain ⟨_, ⟨o', _, _, ho, hd, _⟩, _⟩ := I1.nolimit
    rw [e, atP] at ho
    cases ho
    cases hd
  -- behind the code object: it was found in the table, or the table has grown
  have rest : ∀ (cv : Value) (h3 : Heap) (tk : Nat) (more : Array Value), Heap.ExtBut P (s1.heap.push it) h3 → (s1.heap.push it).objs.size ≤ h3.objs.size → h3.get? P = some { cls := .none, data := .fields (ps ++ more) } → TriplesOk (ps ++ more).toList →
      wpAny (model X.prog X.w) X.A (builtinsFor X.env.globals X.env.builtins) (fun bi s4 =>
        ∃ Ia fp wr n0 Pf St0 pz F, Value.ref s1.heap.objs.size = .ref Ia ∧ (∀ B : Around, B.handled = none → Walks X.prog X.w B Ia fp wr n0 Pf St0) ∧ St0 0 s4.heap ∧ (∀ b ∈ fp, b < s4.heap.objs.size) ∧ s4.heap.NoLimit ∧ cStatics ∉ wr ∧
          (∀ hr' : Heap, (∀ b u, s4.heap.get? b = some u → hr'.get? b = some u) → QuietGen X.prog X.w (genEnv scope (cloFrom X.env.cells scope.names []) s4.heap.objs.size cv bi X.env) x [] elt (List.range s4.heap.objs.size) wr Pf pz F hr') ∧
          (∀ g h5 tk' gs, gs.bare = true → s4.heap.objs.size < g → h5.objs.size = g + 1 → (∀ b u, s4.heap.get? b = some u → h5.get? b = some u) →
            WalksS X.prog X.w X.A.in4 g (g :: s4.heap.objs.size :: List.range s4.heap.objs.size) (s4.heap.objs.size :: wr) (GenOnlyQ s4.gens.size) (passing pz n0 0).length
              (fun j y => ∃ i, (passing pz n0 0)[j]? = some i ∧ F i y) (GenAt X.prog X.w X.A.in4 g s4.gens.size s4.heap.objs.size (List.range s4.heap.objs.size) wr pz n0 F) →
            GenAt X.prog X.w X.A.in4 g s4.gens.size s4.heap.objs.size (List.range s4.heap.objs.size) wr pz n0 F 0 { s4 with gens := s4.gens.push gs, toks := tk', heap := h5 } →
            Q' (.ref g) { s4 with gens := s4.gens.push gs, toks := tk', heap := h5 })) X.xe { s1 with heap := h3, toks := tk } := by
    intro cv h3 tk more ext sz3 at3 ok3
    obtain ⟨bm, ob, e1, e2, e3, e4, e5, e6, e7, e8⟩ := TB.bm
    have old : ∀ b u, b ≠ P → s1.heap.get? b = some u → h3.get? b = some u := fun b u hb e => ext b u hb (up b u e)
    refine wpAny_builtinsFor (m := X.mg) (by rw [I1.ok.glob]; exact ((I1.mod.glob.keeps I1.bk).push it).extBut ext TB.gP) e1 e2 (old _ _ e4 (I1.bk _ _ e5)) e6 e7 e8 ?_
    have one : ∀ b, b ∈ [s1.heap.objs.size] → b = s1.heap.objs.size := fun b hb => List.mem_singleton.mp hb
    refine ⟨s1.heap.objs.size, [s1.heap.objs.size], [s1.heap.objs.size], a.cps.size, SignAt a, St, (fun _ => true), (fun i y => ∃ cc, a.cps[i]? = some cc ∧ y = .bool (pb cc)), rfl, W, ?_, ?_, (I1.nolimit.push it).extBut ext neP, fun z => Nat.ne_of_lt ltS (one _ z), ?_, ?_⟩
    · exact (W X.A hr.hd).frame _ _ _ hst fun b hb u e => ext b u (fun z => Nat.ne_of_lt ltP (z.symm.trans (one b hb))) e
    · intro b hb
      rw [one b hb]
      show s1.heap.objs.size < h3.objs.size
      omega
    · intro hr' khr
      refine ⟨fun B F i v s2 m2 _ _ hn _ _ => ?_, fun B F i v s2 m2 _ hPv _ hn hm hk => ?_⟩
      · simp only [List.forIn_nil]
        exact wpAny_pure ⟨rfl, GxR.keeps_refl _⟩
      · obtain ⟨cc, u, hcc, rfl⟩ := hPv
        refine wpAny_mono (hel _ B F cc u s2 m2 rfl I1.ok.glob ?_ hn hm) (fun y s3 r => ⟨⟨cc, hcc, r.1⟩, r.2⟩) fun _ _ e => e
        obtain ⟨o, es, ep, eo, r⟩ := I1.mod.glob
        have eo1 := I1.bk _ _ eo
        have lo := Heap.lt_size eo1
        refine ⟨o, es, ep, hk mainGlobals (List.mem_range.mpr ?_) (fun z => Nat.ne_of_lt lo (one _ z)) o (khr _ _ (old _ _ TB.gP eo1)), r⟩
        show mainGlobals < h3.objs.size
        exact Nat.lt_of_lt_of_le (Nat.lt_of_lt_of_le (Nat.lt_succ_of_lt lo) (Nat.le_of_eq szI.symm)) sz3
    · intro g h5 tk5 gs hgb hag sz5 k5 W5 hat
      simp only [GxR.passing_true, List.length_range] at W5
      refine hQ a H1 g _ q1 ⟨_, _, _, _, _, W5.in4_1, hat, ?_, fun s' hm => ?_⟩
      · rintro j y sj Qj Ej ⟨i, hij, cc, hcc, rfl⟩ hQj
        obtain ⟨hj, ej⟩ := List.getElem?_eq_some_iff.mp hij
        rw [List.getElem_range] at ej
        subst ej
        have hQ2 : Qj (trF pb a.cps.toList j) sj := hQj
        rw [GxR.trF_some (show a.cps.toList[j]? = some cc by rw [Array.getElem?_toList]; exact hcc)] at hQ2
        exact wpAny_truthy_bool hQ2
      · have nw : ∀ b u, s1.heap.get? b = some u → b ∉ h3.objs.size :: [s1.heap.objs.size] := by
          intro b u e hb
          have hl := Heap.lt_size e
          rcases List.mem_cons.mp hb with z | z
          · rw [z] at hl
            exact absurd (Nat.lt_of_lt_of_le (Nat.lt_succ_of_lt hl) (Nat.le_trans (Nat.le_of_eq szI.symm) sz3)) (Nat.lt_irrefl _)
          · rw [one b z] at hl
            exact Nat.lt_irrefl _ hl
        have J := GxR.inv_tab (more := more) (h' := s'.heap) (g' := s'.gens) (d' := s'.drawn) (t' := s'.toks) I1 hP (fun b u hb e => hm.heap b u (nw b u e) (k5 b u (old b u hb e))) (hm.heap P _ (nw P _ atP) (k5 P _ at3)) (AllBare.movedS (I1.bare.push hgb) hm)
        rw [GxR.sh_eta s1 s' hm.os] at J
        exact ⟨upd H1 P (.tbl (ps ++ more)), ⟨⟨ps ++ more, upd_same, ok3⟩, fun b hb => upd_ne hb⟩, J⟩
  cases hf : codeAmong gpos ps.toList with
  | none =>
    refine wpAny_genexprCodeX hcode (cd.code (up _ _ atP) ht) (cd.tab (up _ _ atP)) hf fun c' h' tk ext hge hlt hco _ htab _ => ?_
    obtain ⟨_, _, _, _, _, _, _, _, _, _, _, _, _, _, _, _, _, _, _, htr, _⟩ := hco
    exact rest _ h' tk _ ext (Nat.le_trans hge (Nat.le_of_lt hlt)) htab.2 htr
  | some cv =>
    refine wpAny_genexprCode_hit hcode (cd.code (up _ _ atP) ht) hf ?_
    exact rest cv (s1.heap.push it) s1.toks #[] (Heap.ExtBut.refl _ _) (Nat.le_refl _) (by rw [Array.append_empty]; exact up _ _ atP) (by rw [Array.append_empty]; exact ht)
/-- all(test for x in e) -/
theorem pe_all (hr : Room k X.A) (hg : Gl X "all") (hm : X.mg "all" = none) (TB : TabB X.base X.mg c P) (hcode : X.env.code = .ref c) (S : GenS X.env scope x) (hi : PE X iter te) (hel : EltG X.prog X.w X.mg scope x elt pb) (hs : ∀ v, genFold iter X.env v = pure v) (hb : bootBuiltins "all" = some (.builtin "all") := by decide +kernel)
    (he : starEach [.GeneratorExp elt [⟨.Name x px, iter, [], 0⟩] scope gpos] X.env = (false, eval (.GeneratorExp elt [⟨.Name x px, iter, [], 0⟩] scope gpos) X.env) :: starEach [] X.env := by rfl) :
    PE X (.Call (.Name "all" p) [.GeneratorExp elt [⟨.Name x px, iter, [], 0⟩] scope gpos] [] pos) (GxR.tAllS P pb te) := by
  refine ⟨fun pins s σ H Q I h => wpAny_Call_Name_kw (ld_blt I hg hm hb (PyProof.Rows.callWith_builtin1 ?_ he (by rfl)))⟩
  rw [he]
  refine Calls.spliced_cons (gen_signs (R := fun a H1 => ∀ H2, Tabbed P H1 H2 → Q (.bl (a.cps.toList.all pb)) H2) hr TB hcode S hi hel hs I h ?_)
  rintro a H1 g s5 hR ⟨fp, wr, G, F, St, W, hst, htr, hI⟩
  refine Calls.spliced_nil (call_all_walkS (W.self 0 _ _ _ hst ⟨g, fp, wr, G, _, F, St, _, rfl, W, hst, htr, fun s' hmv => ?_⟩))
  obtain ⟨H2, hT, J⟩ := hI s' hmv
  refine ⟨.bl _, H2, J, rfl, ?_⟩
  rw [GxR.all_signs a pb]
  exact hR H2 hT
/-- any(test for x in e) -/
theorem pe_any (hr : Room k X.A) (hg : Gl X "any") (hm : X.mg "any" = none) (TB : TabB X.base X.mg c P) (hcode : X.env.code = .ref c) (S : GenS X.env scope x) (hi : PE X iter te) (hel : EltG X.prog X.w X.mg scope x elt pb) (hs : ∀ v, genFold iter X.env v = pure v)
    (he : starEach [.GeneratorExp elt [⟨.Name x px, iter, [], 0⟩] scope gpos] X.env = (false, eval (.GeneratorExp elt [⟨.Name x px, iter, [], 0⟩] scope gpos) X.env) :: starEach [] X.env := by rfl) :
    PE X (.Call (.Name "any" p) [.GeneratorExp elt [⟨.Name x px, iter, [], 0⟩] scope gpos] [] pos) (GxR.tAnyS P pb te) := by
  refine ⟨fun pins s σ H Q I h => wpAny_Call_Name_kw (ld_blt I hg hm boot_any (PyProof.Rows.callWith_builtin1 ?_ he (by rfl)))⟩
  rw [he]
  refine Calls.spliced_cons (gen_signs (R := fun a H1 => ∀ H2, Tabbed P H1 H2 → Q (.bl (a.cps.toList.any pb)) H2) hr TB hcode S hi hel hs I h ?_)
  rintro a H1 g s5 hR ⟨fp, wr, G, F, St, W, hst, htr, hI⟩
  refine Calls.spliced_nil (call_any_walkS (W.self 0 _ _ _ hst ⟨g, fp, wr, G, _, F, St, _, rfl, W, hst, htr, fun s' hmv => ?_⟩))
  obtain ⟨H2, hT, J⟩ := hI s' hmv
  refine ⟨.bl _, H2, J, rfl, ?_⟩
  rw [GxR.any_signs a pb]
  exact hR H2 hT
end
end Rr

set_option maxRecDepth 100000
set_option maxHeartbeats 4000000
/-! the heap's frame; a desk as it stands in the heap -/
namespace Rr
open PySem PySem.Spec PyProof.Rows L2
open GxR (TabG Tabbed)
/-- not a table -/
def NoT (o : HO) : Prop := (∀ ps, o ≠ .tbl ps) ∧ ∀ c q, o ≠ LamX.CodeO c q
/-- the table of Desk.ready's code objects, and its lambda's name -/
abbrev tabR (K : PySem.W.Frag) : Addr := He.tabOf K (He.codeOf K ("Desk", some "ready"))
abbrev qR : Str := "Desk.ready.<locals>.<lambda>"
abbrev LamOk (K : PySem.W.Frag) (H : Hp) : Prop := LamX.TabS H (tabR K) qR
/-- what stands outside of S stays (tables may grow); nothing goes -/
structure Keep (K : PySem.W.Frag) (S : List Addr) (H H' : Hp) : Prop where
  old : ∀ b o, H b = some o → b ∉ S → NoT o → H' b = some o
  tab : ∀ P, TabG H P → TabG H' P
  gone : ∀ b, H' b = none → H b = none
  lam : LamOk K H → LamOk K H'
section
variable {K : PySem.W.Frag}
theorem Keep.refl (S : List Addr) (H : Hp) : Keep K S H H := ⟨fun _ _ h _ _ => h, fun _ h => h, fun _ h => h, id⟩
theorem Keep.trans {S : List Addr} {H H1 H2 : Hp} (a : Keep K S H H1) (b : Keep K S H1 H2) : Keep K S H H2 := ⟨fun c o h n t => b.old c o (a.old c o h n t) n t, fun P h => b.tab P (a.tab P h), fun c h => a.gone c (b.gone c h), fun h => b.lam (a.lam h)⟩
theorem Keep.mono {S S' : List Addr} {H H' : Hp} (k : Keep K S H H') (h : ∀ b ∈ S, b ∈ S') : Keep K S' H H' := ⟨fun b o e n t => k.old b o e (fun z => n (h b z)) t, k.tab, k.gone, k.lam⟩
theorem Keep.any {S : List Addr} {H H' : Hp} (k : Keep K [] H H') : Keep K S H H' := k.mono fun _ h => absurd h List.not_mem_nil
/-- S' may be changed where it is new or stood in S -/
theorem Keep.trans' {S S' : List Addr} {H H1 H2 : Hp} (a : Keep K S H H1) (b : Keep K S' H1 H2) (h : ∀ x ∈ S', x ∈ S ∨ H x = none) : Keep K S H H2 :=
  ⟨fun c o e n t => b.old c o (a.old c o e n t) (fun z => (h c z).elim n fun y => by rw [e] at y; cases y) t, fun P h => b.tab P (a.tab P h), fun c h => a.gone c (b.gone c h), fun h => b.lam (a.lam h)⟩
/-- tables and code objects that stand as they stood -/
theorem tabS_at {H H' : Hp} {P : Addr} {q : Str} (t : LamX.TabS H P q) (h1 : ∀ ps, H P = some (.tbl ps) → H' P = some (.tbl ps)) (h2 : ∀ c, H c = some (LamX.CodeO c q) → H' c = some (LamX.CodeO c q)) : LamX.TabS H' P q := by
  obtain ⟨ps, a1, a2, a3⟩ := t
  refine ⟨ps, h1 _ a1, a2, fun pos cv hc => ?_⟩
  obtain ⟨c, e1, e2⟩ := a3 pos cv hc
  exact ⟨c, e1, h2 c e2⟩
theorem Keep.new {S : List Addr} {H : Hp} {p : Addr} {o : HO} (h : H p = none) : Keep K S H (upd H p o) := by
  have ne : ∀ b u, H b = some u → b ≠ p := fun b u e z => by rw [z, h] at e; cases e
  refine ⟨fun b u e _ _ => by rw [upd_ne (ne b u e)]; exact e, ?_, fun b e => ?_, fun t => tabS_at t (fun ps e => (upd_ne (ne _ _ e)).trans e) fun c e => (upd_ne (ne _ _ e)).trans e⟩
  · rintro P ⟨ps, e, ok⟩
    exact ⟨ps, by rw [upd_ne (ne P _ e)]; exact e, ok⟩
  · by_cases z : b = p
    · rw [z]
      exact h
    · rw [upd_ne z] at e
      exact e
theorem Keep.upd {S : List Addr} {H : Hp} {p : Addr} {o u : HO} (e0 : H p = some u) (hp : p ∈ S) (nt : NoT u) : Keep K S H (upd H p o) := by
  have nT : ∀ P ps, H P = some (.tbl ps) → P ≠ p := fun P ps e z => by
    rw [z, e0] at e
    exact nt.1 ps (Option.some.inj e)
  have nC : ∀ c q, H c = some (LamX.CodeO c q) → c ≠ p := fun c q e z => by
    rw [z, e0] at e
    exact nt.2 _ _ (Option.some.inj e)
  refine ⟨fun b v e n _ => by rw [upd_ne (fun z => n (by rw [z]; exact hp))]; exact e, ?_, fun b e => ?_, fun t => tabS_at t (fun ps e => (upd_ne (nT _ _ e)).trans e) fun c e => (upd_ne (nC _ _ e)).trans e⟩
  · rintro P ⟨ps, e, ok⟩
    exact ⟨ps, (upd_ne (nT _ _ e)).trans e, ok⟩
  · by_cases z : b = p
    · rw [z, upd_same] at e
      cases e
    · rw [upd_ne z] at e
      exact e
theorem codeO_tbl {c : Addr} {q : Str} {ps : Array Value} (h : LamX.CodeO c q = .tbl ps) : False := by
  unfold LamX.CodeO at h
  cases h
theorem Keep.tabbed {S : List Addr} {H H' : Hp} {P : Addr} (t : Tabbed P H H') (hP : TabG H P) (nR : P ≠ tabR K) : Keep K S H H' := by
  obtain ⟨g, k⟩ := t
  obtain ⟨ps0, e0, ok0⟩ := hP
  refine ⟨fun b o e _ nt => ?_, ?_, fun b e => ?_, fun t => tabS_at t (fun ps e => (k _ nR.symm).trans e) fun c e => (k c fun z => ?_).trans e⟩
  · rw [k b (fun z => by rw [z, e0] at e; exact nt.1 ps0 (Option.some.inj e).symm)]
    exact e
  · rintro P' ⟨ps, e, ok⟩
    by_cases z : P' = P
    · rw [z]
      exact g
    · exact ⟨ps, by rw [k P' z]; exact e, ok⟩
  · by_cases z : b = P
    · obtain ⟨ps, e1, _⟩ := g
      rw [z, e1] at e
      cases e
    · rw [← k b z]
      exact e
  · rw [z, e0] at e
    exact codeO_tbl (Option.some.inj e).symm
/-- something else is back at p as it was -/
theorem Keep.back {S : List Addr} {H H' : Hp} {p : Addr} {o u : HO} (e0 : H p = some u) (nt : NoT u) (k : Keep K S (L2.upd H p o) H') (no : NoT o) (hp : p ∉ S) : Keep K S H (L2.upd H' p u) := by
  have nT : ∀ P ps, H P = some (.tbl ps) → P ≠ p := fun P ps e z => by
    rw [z, e0] at e
    exact nt.1 ps (Option.some.inj e)
  have nC : ∀ c q, H c = some (LamX.CodeO c q) → c ≠ p := fun c q e z => by
    rw [z, e0] at e
    exact nt.2 _ _ (Option.some.inj e)
  have at_ : H' p = some o := k.old p o upd_same hp no
  refine ⟨fun b v e n t => ?_, ?_, fun b e => ?_, fun t => ?_⟩
  · by_cases z : b = p
    · rw [z, upd_same, ← e0, ← z]
      exact e
    · rw [upd_ne z]
      exact k.old b v (by rw [upd_ne z]; exact e) n t
  · rintro P ⟨ps, e, ok⟩
    have z := nT P ps e
    obtain ⟨ps', e', ok'⟩ := k.tab P ⟨ps, by rw [upd_ne z]; exact e, ok⟩
    exact ⟨ps', by rw [upd_ne z]; exact e', ok'⟩
  · by_cases z : b = p
    · rw [z, upd_same] at e
      cases e
    · rw [upd_ne z] at e
      have q := k.gone b e
      rw [upd_ne z] at q
      exact q
  · have t2 := k.lam (tabS_at t (fun ps e => (upd_ne (nT _ _ e)).trans e) fun c e => (upd_ne (nC _ _ e)).trans e)
    refine tabS_at t2 (fun ps e => (upd_ne fun z => ?_).trans e) fun c e => (upd_ne fun z => ?_).trans e
    · rw [z, at_] at e
      exact no.1 ps (Option.some.inj e)
    · rw [z, at_] at e
      exact no.2 _ _ (Option.some.inj e)
theorem nt_lst {xs : List V} : NoT (.lst xs) := ⟨(fun _ h => nomatch h), fun c q h => by
  unfold LamX.CodeO at h
  cases h⟩
theorem nt_tup {xs : List V} : NoT (.tup xs) := ⟨(fun _ h => nomatch h), fun c q h => by
  unfold LamX.CodeO at h
  cases h⟩
theorem nt_dK {xs : List (Key × V)} : NoT (.dK xs) := ⟨(fun _ h => nomatch h), fun c q h => by
  unfold LamX.CodeO at h
  cases h⟩
theorem nt_ins {C dx : Addr} {fs : List (Str × V)} : NoT (.ins C dx fs) := ⟨(fun _ h => nomatch h), fun c q h => by
  unfold LamX.CodeO at h
  cases h⟩
theorem nt_frz {o : Obj} {u : HO} : NoT (.frz o u) := ⟨(fun _ h => nomatch h), fun c q h => by
  unfold LamX.CodeO at h
  cases h⟩
theorem Keep.lst {S : List Addr} {H H' : Hp} {p : Addr} {xs : List V} (k : Keep K S H H') (h : H p = some (.lst xs)) (n : p ∉ S) : H' p = some (.lst xs) := k.old _ _ h n nt_lst
theorem Keep.tup {S : List Addr} {H H' : Hp} {p : Addr} {xs : List V} (k : Keep K S H H') (h : H p = some (.tup xs)) (n : p ∉ S) : H' p = some (.tup xs) := k.old _ _ h n nt_tup
theorem Keep.seq {S : List Addr} {K : PySem.W.Frag} {H H' : Hp} {p : Addr} {xs : List V} (k : Keep K S H H') (h : SqL K H p xs) (n : ∀ o, H p = some o → p ∉ S) : SqL K H' p xs := by
  rcases h with (h | ⟨o, h⟩) | h
  · exact .inl (.inl (k.old _ _ h (n _ h) nt_lst))
  · exact .inl (.inr ⟨o, k.old _ _ h (n _ h) nt_frz⟩)
  · exact .inr h

end
/-! ### texts -/
abbrev SIGNSL : List Nat := ("abcdefghijklmnopqrstuvwxyz0123456789" : Str).cps.toList
def isSign (c : Nat) : Bool := decide (c ∈ SIGNSL)
/-- a name -/
def isName (x : Str) : Bool := decide (1 ≤ x.length ∧ x.length ≤ 12) && x.cps.toList.all isSign
/-- a text of moderate size -/
def Small (x : Str) : Prop := x.length ≤ 100000 ∧ ∀ c ∈ x.cps.toList, c < 16 ^ 8
theorem isSign_lt {c : Nat} (h : isSign c = true) : c < 128 := by
  have h1 : ∀ c ∈ SIGNSL, c < 128 := by decide +kernel
  exact h1 c (of_decide_eq_true h)
theorem isName_len {x : Str} (h : isName x = true) : 1 ≤ x.length ∧ x.length ≤ 12 := by
  unfold isName at h
  rw [Bool.and_eq_true] at h
  exact of_decide_eq_true h.1
theorem isName_small {x : Str} (h : isName x = true) : Small x := by
  refine ⟨Nat.le_trans (isName_len h).2 (by decide), fun c hc => ?_⟩
  unfold isName at h
  rw [Bool.and_eq_true] at h
  exact Nat.lt_trans (isSign_lt (List.all_eq_true.mp h.2 c hc)) (by decide)
theorem Small.repr {x : Str} (h : Small x) : (reprText x).length ≤ 1000002 := Nat.le_trans (PySem.StrLaws.reprText_len x h.2) (by have := h.1; omega)
theorem Small.line {x : Str} (h : Small x) : x.length ≤ sizeLine := by
  have := h.1
  rw [sizeLine_eq]
  omega

/-! ### the desk -/
/-- what a caller does -/
inductive Stt where
  | rdy (since : Int) | slp (due : Int) | wtg (bell : Str)
  deriving DecidableEq
def Stt.word : Stt → Str
  | .rdy _ => "ready"
  | .slp _ => "asleep"
  | .wtg _ => "waiting"
def Stt.sinceV : Stt → V
  | .rdy s => .int s
  | _ => .non
def Stt.dueV : Stt → V
  | .slp s => .int s
  | _ => .non
def Stt.bellV : Stt → V
  | .wtg b => .str b
  | _ => .non
structure Cr where
  name : Str
  rank : Int
  st : Stt
  deriving DecidableEq
def Cr.fs (c : Cr) : List (Str × V) := [("name", .str c.name), ("rank", .int c.rank), ("state", .str c.st.word), ("since", c.st.sinceV), ("due", c.st.dueV), ("bell", c.st.bellV)]
structure Dk where
  pace : Int
  room : Int
  now : Int
  line : List Cr
def dFs (p r n : Int) (L : Addr) : List (Str × V) := [("pace", .int p), ("room", .int r), ("now", .int n), ("_line", .ref L)]
abbrev Ln := List (Addr × Cr)
def kvsOf (ln : Ln) : List (Key × V) := ln.map fun p => (Sum.inr p.2.name, .ref p.1)
def namesL (l : List Cr) : List Str := l.map (·.name)
section
variable (K : PySem.W.Frag)
/-- the caller c stands at a -/
def CrAt (H : Hp) (a : Addr) (c : Cr) : Prop := ∃ dx, H a = some (.ins (He.ga K "Caller") dx c.fs)
/-- the desk at d, its line at L, its callers -/
structure DkIn (H : Hp) (d L : Addr) (ln : Ln) (D : Dk) : Prop where
  desk : ∃ dx, H d = some (.ins (He.ga K "Desk") dx (dFs D.pace D.room D.now L))
  line : H L = some (.dK (kvsOf ln))
  crs : ∀ p ∈ ln, CrAt K H p.1 p.2
  eq : ln.map (·.2) = D.line
  nd : (ln.map (·.1)).Nodup
  nm : (namesL D.line).Nodup
  len : D.line.length ≤ 60
  ok : ∀ c ∈ D.line, isName c.name = true
  pr : (1 ≤ D.pace ∧ D.pace ≤ 1000) ∧ 1 ≤ D.room ∧ D.room ≤ 60
/-- .. S: all that is its own -/
def DkAt (H : Hp) (S : List Addr) (d : Addr) (D : Dk) : Prop := ∃ L ln, S = d :: L :: ln.map (·.1) ∧ DkIn K H d L ln D
end
section
variable {K : PySem.W.Frag} {H H' : Hp} {S S' : List Addr} {d L : Addr} {ln : Ln} {D : Dk}
theorem DkIn.keep (x : DkIn K H d L ln D) (k : Keep K S H H') (n : ∀ b ∈ d :: L :: ln.map (·.1), b ∉ S) : DkIn K H' d L ln D := by
  refine ⟨?_, k.old _ _ x.line (n L (by simp)) nt_dK, fun p hp => ?_, x.eq, x.nd, x.nm, x.len, x.ok, x.pr⟩
  · obtain ⟨dx, e⟩ := x.desk
    exact ⟨dx, k.old _ _ e (n d (by simp)) nt_ins⟩
  · obtain ⟨dx, e⟩ := x.crs p hp
    exact ⟨dx, k.old _ _ e (n p.1 (List.mem_cons_of_mem _ (List.mem_cons_of_mem _ (List.mem_map_of_mem hp)))) nt_ins⟩
theorem DkAt.keep (x : DkAt K H S d D) (k : Keep K S' H H') (n : ∀ b ∈ S, b ∉ S') : DkAt K H' S d D := by
  obtain ⟨L, ln, rfl, x⟩ := x
  exact ⟨L, ln, rfl, x.keep k n⟩
theorem DkAt.keep0 (x : DkAt K H S d D) (k : Keep K [] H H') : DkAt K H' S d D := x.keep k fun _ _ => List.not_mem_nil
/-- what is a list or a tuple is none of it -/
theorem DkAt.apart (x : DkAt K H S d D) {p : Addr} {o : HO} (e : H p = some o) (h : (∀ C dx fs, o ≠ .ins C dx fs) ∧ ∀ kvs, o ≠ .dK kvs) : p ∉ S := by
  obtain ⟨L, ln, rfl, x⟩ := x
  intro z
  rcases List.mem_cons.mp z with z | z
  · obtain ⟨dx, q⟩ := x.desk
    rw [z, q] at e
    exact h.1 _ _ _ (Option.some.inj e).symm
  · rcases List.mem_cons.mp z with z | z
    · have q := x.line
      rw [z, q] at e
      exact h.2 _ (Option.some.inj e).symm
    · obtain ⟨y, hy, z⟩ := List.mem_map.mp z
      obtain ⟨dx, q⟩ := x.crs y hy
      rw [← z, q] at e
      exact h.1 _ _ _ (Option.some.inj e).symm
theorem DkAt.lst (x : DkAt K H S d D) {p : Addr} {xs : List V} (e : H p = some (.lst xs)) : p ∉ S := x.apart e ⟨fun _ _ _ h => (nomatch h), fun _ h => (nomatch h)⟩
theorem DkAt.tup (x : DkAt K H S d D) {p : Addr} {xs : List V} (e : H p = some (.tup xs)) : p ∉ S := x.apart e ⟨fun _ _ _ h => (nomatch h), fun _ h => (nomatch h)⟩
theorem DkAt.frz (x : DkAt K H S d D) {p : Addr} {o : Obj} {u : HO} (e : H p = some (.frz o u)) : p ∉ S := x.apart e ⟨fun _ _ _ h => (nomatch h), fun _ h => (nomatch h)⟩
theorem DkAt.sq (x : DkAt K H S d D) {p : Addr} {xs : List V} (e : SqL K H p xs) : ∀ o, H p = some o → SqL K H p xs → (∃ ys, o = .lst ys) ∨ (∃ ob u, o = .frz ob u) → p ∉ S := by
  rintro o ho _ (⟨ys, rfl⟩ | ⟨ob, u, rfl⟩)
  · exact x.lst ho
  · exact x.frz ho
end
/-- S' is of S or new -/
def Sub (H : Hp) (S S' : List Addr) : Prop := ∀ b ∈ S', b ∈ S ∨ H b = none
theorem Sub.refl {H : Hp} {S : List Addr} : Sub H S S := fun _ h => .inl h
end Rr
namespace Rr
open PySem PySem.Spec PyProof.Rows L2
theorem fitN {a b : Str} {k : Nat} (n m : Nat) (ha : a.length ≤ n) (hb : b.length ≤ m) (h : n + m ≤ k := by decide) : (a ++ b).length ≤ k := by
  rw [Str.length_append]
  omega
/-- a text put behind another one -/
theorem fit {a b : Str} (n m : Nat) (ha : a.length ≤ n) (hb : b.length ≤ m) (h : n + m ≤ 16777216 := by decide) : (a ++ b).length ≤ sizeLine := by
  rw [sizeLine_eq]
  exact fitN n m ha hb h
theorem len0 : (Str.empty).length ≤ 0 := Nat.le_refl 0
theorem line_of {a : Str} {n : Nat} (ha : a.length ≤ n) (h : n ≤ 16777216 := by decide) : a.length ≤ sizeLine := by
  rw [sizeLine_eq]
  omega
/-- a whole number that is no monster -/
def Mod (i : Int) : Prop := -18446744073709551616 < i ∧ i < 18446744073709551616
theorem Mod.log {i : Int} (h : Mod i) : i.natAbs.log2 < 1920 := by
  unfold Mod at h
  by_cases z : i.natAbs = 0
  · rw [z]
    decide
  · have h1 : i.natAbs < 2 ^ 64 := by
      rw [show (2 : Nat) ^ 64 = 18446744073709551616 by decide]
      omega
    exact Nat.lt_trans ((Nat.log2_lt z).mpr h1) (by decide)
theorem Mod.len {i : Int} (h : Mod i) : (Str.ofString (toString i)).length ≤ 1921 := int_text_len_1921 h.log
section
variable {X : Cx} {e a b c : Expr} {t t' : TT} {ta tb tc : TE} {pos : Pos}
theorem PT.imp (h : PT X e t) (k : ∀ σ H Q, t' σ H Q → t σ H Q) : PT X e t' := ⟨fun pins s σ H Q I q => h.run pins s σ H Q I (k σ H Q q)⟩
theorem PE.imp {t t' : TE} (h : PE X e t) (k : ∀ σ H Q, t' σ H Q → t σ H Q) : PE X e t' := ⟨fun pins s σ H Q I q => h.run pins s σ H Q I (k σ H Q q)⟩
/-- a <= b <= c of three plain values -/
def tRng (ta tb tc : TE) : TT := fun σ H Q => ∃ i j k : Int, (∀ R : VK, R (.int i) H → ta σ H R) ∧ (∀ R : VK, R (.int j) H → tb σ H R) ∧ (∀ R : VK, R (.int k) H → tc σ H R) ∧ Q (decide (i ≤ j ∧ j ≤ k)) H
theorem pt_rng (ha : PE X a ta) (hb : PE X b tb) (hc : PE X c tc) (hm : lastMarks [CmpOp.LtE, CmpOp.LtE] [b, c] = false := by rfl) : PT X (.Compare a [.LtE, .LtE] [b, c] pos) (tRng ta tb tc) := by
  refine PT.imp (pt_chain op_le op_le ha hb hc (hm := hm)) ?_
  rintro σ H Q ⟨i, j, k, h1, h2, h3, q⟩
  refine h1 _ (h2 _ ⟨i, j, rfl, rfl, _, rfl, ite2 (fun h => h3 _ ⟨j, k, rfl, rfl, _, rfl, ?_⟩) (fun h => ⟨_, rfl, ?_⟩)⟩)
  · have e : decide (j ≤ k) = decide (i ≤ j ∧ j ≤ k) := by
      have := of_decide_eq_true h
      by_cases z : j ≤ k <;> simp [this, z]
    rw [e]
    exact q
  · have e : false = decide (i ≤ j ∧ j ≤ k) := by
      have : ¬ i ≤ j := fun z => h (decide_eq_true z)
      simp [this]
    rw [e]
    exact q
end
end Rr
namespace Rr
open PySem PySem.Spec PyProof.Rows L2
theorem putF_len (f : Str) (v : V) : ∀ fs : List (Str × V), (putF f v fs).length ≤ fs.length + 1
  | [] => Nat.le_refl _
  | (g, x) :: r => by
    unfold putF
    split
    · simp
    · have := putF_len f v r
      simp only [List.length_cons]
      omega
theorem putF_le {f : Str} {v : V} {fs : List (Str × V)} {n : Nat} (h : fs.length ≤ n) : (putF f v fs).length ≤ n + 1 := Nat.le_trans (putF_len f v fs) (by omega)
theorem few {fs : List (Str × V)} {n : Nat} (h : fs.length ≤ n) (k : n < 1000 := by decide) : fs.length < 1000 := by omega
end Rr
namespace Rr
open PySem PySem.Spec PyProof.Rows L2
open GxR (TabG Tabbed)
/-! ### the line as a dict -/
theorem kvs_find (n : Str) : ∀ ln : Ln, valV (kvsOf ln) (Sum.inr n : Key) = (ln.find? fun p => decide (p.2.name = n)).map fun p => V.ref p.1
  | [] => rfl
  | p :: r => by
    show valV ((Sum.inr p.2.name, V.ref p.1) :: kvsOf r) (Sum.inr n : Key) = _
    by_cases e : p.2.name = n
    · rw [valV_pos (congrArg Sum.inr e), List.find?_cons, decide_eq_true e]
      rfl
    · rw [valV_neg (fun z => e (Sum.inr.inj z)), List.find?_cons, decide_eq_false e]
      exact kvs_find n r
theorem kvs_drop (n : Str) : ∀ ln : Ln, dropK (kvsOf ln) (Sum.inr n : Key) = kvsOf (ln.filter fun p => decide (p.2.name ≠ n))
  | [] => rfl
  | p :: r => by
    show dropK ((Sum.inr p.2.name, V.ref p.1) :: kvsOf r) (Sum.inr n : Key) = _
    by_cases e : p.2.name = n
    · rw [dropK_pos (congrArg Sum.inr e), List.filter_cons, if_neg (by simp [e])]
      exact kvs_drop n r
    · rw [dropK_neg (fun z => e (Sum.inr.inj z)), List.filter_cons, if_pos (by simp [e])]
      exact congrArg (List.cons _) (kvs_drop n r)
theorem kvs_keys (ln : Ln) : (kvsOf ln).map (fun kv => kV kv.1) = (namesL (ln.map (·.2))).map V.str := by
  unfold kvsOf namesL
  rw [List.map_map, List.map_map, List.map_map]
  rfl
theorem kvs_len (ln : Ln) : (kvsOf ln).length = ln.length := List.length_map ..
theorem find_none {n : Str} {ln : Ln} (h : n ∉ namesL (ln.map (·.2))) : (ln.find? fun p => decide (p.2.name = n)) = none := by
  refine List.find?_eq_none.mpr fun p hp z => h ?_
  have e : p.2.name = n := of_decide_eq_true z
  rw [← e]
  exact List.mem_map_of_mem (List.mem_map_of_mem hp)
theorem find_some {n : Str} {ln : Ln} (h : n ∈ namesL (ln.map (·.2))) : ∃ p, (ln.find? fun p => decide (p.2.name = n)) = some p ∧ p ∈ ln ∧ p.2.name = n := by
  cases e : ln.find? fun p => decide (p.2.name = n) with
  | none =>
    obtain ⟨c, hc, rfl⟩ := List.mem_map.mp h
    obtain ⟨p, hp, rfl⟩ := List.mem_map.mp hc
    exact absurd (List.find?_eq_none.mp e p hp) (by simp)
  | some p => exact ⟨p, rfl, List.mem_of_find?_eq_some e, of_decide_eq_true (List.find?_some (p := fun p : Addr × Cr => decide (p.2.name = n)) e)⟩
section
variable {K : PySem.W.Frag} {H H' : Hp} {S S' : List Addr} {d L : Addr} {ln : Ln} {D : Dk}
theorem DkIn.dne (x : DkIn K H d L ln D) : d ≠ L := by
  obtain ⟨dx, e⟩ := x.desk
  exact ne_of e x.line (by intro z; cases z)
theorem DkIn.lne (x : DkIn K H d L ln D) {a : Addr} (h : a ∈ ln.map (·.1)) : a ≠ L := by
  obtain ⟨p, hp, rfl⟩ := List.mem_map.mp h
  obtain ⟨dx, e⟩ := x.crs p hp
  exact ne_of e x.line (by intro z; cases z)
theorem DkIn.cne (x : DkIn K H d L ln D) {a : Addr} (h : a ∈ ln.map (·.1)) : a ≠ d := by
  obtain ⟨p, hp, rfl⟩ := List.mem_map.mp h
  obtain ⟨dx, e⟩ := x.crs p hp
  obtain ⟨dy, e2⟩ := x.desk
  refine ne_of e e2 fun z => ?_
  injection z with _ _ z
  exact absurd (congrArg List.length z) (show ¬ (6 = 4) by decide)
/-- a caller more -/
theorem DkIn.add (x : DkIn K H d L ln D) {a : Addr} {c : Cr} (ha : H a = none) {o : HO} {b : Addr} (hb : H b = none) (hba : b ≠ a) {dx : Addr} (hc : c.name ∉ namesL D.line) (hl : D.line.length < 60) (hn : isName c.name = true) :
    DkIn K (upd (upd (upd H b o) a (.ins (He.ga K "Caller") dx c.fs)) L (.dK (putK (kvsOf ln) (Sum.inr c.name) (.ref a)))) d L (ln ++ [(a, c)]) { D with line := D.line ++ [c] } := by
  have nL : ∀ q v, H q = some v → q ≠ b ∧ q ≠ a := fun q v e => ⟨ne_of_none e hb, ne_of_none e ha⟩
  have ndL := nL _ _ x.line
  have new : valV (kvsOf ln) (Sum.inr c.name : Key) = none := by
    rw [kvs_find, find_none (by rw [x.eq]; exact hc)]
    rfl
  refine ⟨?_, ?_, fun p hp => ?_, ?_, ?_, ?_, ?_, fun y hy => ?_, x.pr⟩
  · obtain ⟨dy, e⟩ := x.desk
    obtain ⟨z1, z2⟩ := nL _ _ e
    exact ⟨dy, by rw [upd_ne x.dne, upd_ne z2, upd_ne z1]; exact e⟩
  · rw [upd_same, putK_new _ new]
    unfold kvsOf
    rw [List.map_append]
    rfl
  · rcases List.mem_append.mp hp with hp | hp
    · obtain ⟨dy, e⟩ := x.crs p hp
      obtain ⟨z1, z2⟩ := nL _ _ e
      exact ⟨dy, by rw [upd_ne (x.lne (List.mem_map_of_mem hp)), upd_ne z2, upd_ne z1]; exact e⟩
    · rw [List.mem_singleton.mp hp]
      exact ⟨dx, by rw [upd_ne (fun z => ndL.2 z.symm), upd_same]⟩
  · rw [List.map_append, x.eq]
    rfl
  · rw [List.map_append]
    refine nd_snoc x.nd fun z => ?_
    obtain ⟨p, hp, e⟩ := List.mem_map.mp z
    obtain ⟨dy, e2⟩ := x.crs p hp
    rw [e, ha] at e2
    cases e2
  · show (namesL (D.line ++ [c])).Nodup
    unfold namesL
    rw [List.map_append]
    exact nd_snoc x.nm hc
  · show (D.line ++ [c]).length ≤ 60
    rw [List.length_append]
    simp
    omega
  · rcases List.mem_append.mp hy with h | h
    · exact x.ok y h
    · rw [List.mem_singleton.mp h]
      exact hn
end
end Rr
namespace Rr
open PySem PySem.Spec PyProof.Rows L2
theorem atZ {α : Type} {xs : List α} {z : Int} (h0 : 0 ≤ z) (h : z.toNat < xs.length) : atI xs z = some xs[z.toNat] := by
  have e : atI xs ((z.toNat : Nat) : Int) = xs[z.toNat]? := by
    cases q : xs[z.toNat]? with
    | none => exact absurd (List.getElem?_eq_none_iff.mp q) (by omega)
    | some x => exact atI_nat q
  rw [Int.toNat_of_nonneg h0] at e
  rw [e, List.getElem?_eq_getElem h]
end Rr
namespace Rr
open PySem PySem.Spec PyProof.Rows L2
/-- what is new, or is of S, is written -/
theorem Keep.set {K : PySem.W.Frag} {S : List Addr} {H H1 : Hp} {p : Addr} {o u : HO} (k : Keep K S H H1) (h0 : H p = none ∨ p ∈ S) (e : H1 p = some u) (nt : NoT u) : Keep K S H (L2.upd H1 p o) :=
  k.trans' (S' := [p]) (Keep.upd e (List.mem_singleton.mpr rfl) nt) fun x hx => by
    rw [List.mem_singleton.mp hx]
    exact h0.symm
end Rr

set_option maxRecDepth 100000
set_option maxHeartbeats 4000000
/-! what a desk does, over plain lists; the same in the heap -/
namespace Rr
open PySem PySem.Spec PyProof.Rows L2
open GxR (TabG Tabbed)
/-! ### over lists -/
/-- the caller of c's name becomes c, in its place -/
def setC (c : Cr) (l : List Cr) : List Cr := l.map fun x => if x.name = c.name then c else x
/-- the caller named n goes to the end -/
def lastC (n : Str) (l : List Cr) : List Cr := (l.filter fun x => decide (x.name ≠ n)) ++ l.filter fun x => decide (x.name = n)
def dropC (n : Str) (l : List Cr) : List Cr := l.filter fun x => decide (x.name ≠ n)
def setLn (c : Cr) (l : Ln) : Ln := l.map fun p => if p.2.name = c.name then (p.1, c) else p
def lastLn (n : Str) (l : Ln) : Ln := (l.filter fun p => decide (p.2.name ≠ n)) ++ l.filter fun p => decide (p.2.name = n)
def dropLn (n : Str) (l : Ln) : Ln := l.filter fun p => decide (p.2.name ≠ n)
theorem setLn_snd (c : Cr) (l : Ln) : (setLn c l).map (·.2) = setC c (l.map (·.2)) := by
  unfold setLn setC
  rw [List.map_map, List.map_map]
  refine List.map_congr_left fun p _ => ?_
  show (if p.2.name = c.name then (p.1, c) else p).2 = if p.2.name = c.name then c else p.2
  split <;> rfl
theorem setLn_fst (c : Cr) (l : Ln) : (setLn c l).map (·.1) = l.map (·.1) := by
  unfold setLn
  rw [List.map_map]
  refine List.map_congr_left fun p _ => ?_
  show (if p.2.name = c.name then (p.1, c) else p).1 = p.1
  split <;> rfl
theorem filter_snd (q : Cr → Bool) (l : Ln) : (l.filter fun p => q p.2).map (·.2) = (l.map (·.2)).filter q := by
  induction l with
  | nil => rfl
  | cons p r ih =>
    rw [List.filter_cons, List.map_cons, List.filter_cons]
    split
    · rw [List.map_cons, ih]
    · exact ih
theorem lastLn_snd (n : Str) (l : Ln) : (lastLn n l).map (·.2) = lastC n (l.map (·.2)) := by
  unfold lastLn lastC
  rw [List.map_append, filter_snd (fun c => decide (c.name ≠ n)), filter_snd (fun c => decide (c.name = n))]
theorem dropLn_snd (n : Str) (l : Ln) : (dropLn n l).map (·.2) = dropC n (l.map (·.2)) := filter_snd (fun c => decide (c.name ≠ n)) l
theorem parts_perm {α : Type} (q : α → Bool) : ∀ l : List α, ((l.filter fun x => !q x) ++ l.filter q).Perm l
  | [] => .nil
  | x :: r => by
    rw [List.filter_cons, List.filter_cons]
    cases e : q x with
    | true => exact List.perm_middle.trans ((parts_perm q r).cons x)
    | false => exact (parts_perm q r).cons x
theorem lastC_perm (n : Str) (l : List Cr) : (lastC n l).Perm l := by
  have h := parts_perm (fun x : Cr => decide (x.name = n)) l
  unfold lastC
  have e : (fun x : Cr => decide (x.name ≠ n)) = fun x => !decide (x.name = n) := funext fun x => by simp
  rw [e]
  exact h
theorem lastLn_perm (n : Str) (l : Ln) : (lastLn n l).Perm l := by
  have h := parts_perm (fun x : Addr × Cr => decide (x.2.name = n)) l
  unfold lastLn
  have e : (fun x : Addr × Cr => decide (x.2.name ≠ n)) = fun x => !decide (x.2.name = n) := funext fun x => by simp
  rw [e]
  exact h
theorem setC_names (c : Cr) (l : List Cr) : namesL (setC c l) = namesL l := by
  unfold namesL setC
  rw [List.map_map]
  refine List.map_congr_left fun x _ => ?_
  show (if x.name = c.name then c else x).name = x.name
  split
  · rename_i h
    exact h.symm
  · rfl
theorem setC_len (c : Cr) (l : List Cr) : (setC c l).length = l.length := List.length_map ..
/-- of one name there is one -/
theorem name_one : ∀ {l : List Cr}, (namesL l).Nodup → ∀ {x y : Cr}, x ∈ l → y ∈ l → x.name = y.name → x = y
  | [], _, _, _, h, _, _ => nomatch h
  | c :: r, nd, x, y, hx, hy, e => by
    obtain ⟨n1, n2⟩ := List.nodup_cons.mp (show (c.name :: namesL r).Nodup from nd)
    rcases List.mem_cons.mp hx with a | a
    · rcases List.mem_cons.mp hy with b | b
      · rw [a, b]
      · exact absurd (by rw [← a, e]; exact List.mem_map_of_mem b) n1
    · rcases List.mem_cons.mp hy with b | b
      · exact absurd (by rw [← b, ← e]; exact List.mem_map_of_mem a) n1
      · exact name_one n2 a b e
theorem only_name {l : List Cr} (nd : (namesL l).Nodup) {c : Cr} (h : c ∈ l) : (l.filter fun x => decide (x.name = c.name)) = [c] := by
  induction l with
  | nil => exact nomatch h
  | cons x r ih =>
    obtain ⟨n1, n2⟩ := List.nodup_cons.mp (show (x.name :: namesL r).Nodup from nd)
    rw [List.filter_cons]
    rcases List.mem_cons.mp h with a | a
    · subst a
      rw [if_pos (decide_eq_true rfl)]
      congr 1
      exact List.filter_eq_nil_iff.mpr fun y hy z => n1 (by rw [← of_decide_eq_true z]; exact List.mem_map_of_mem hy)
    · have ne : x.name ≠ c.name := fun z => n1 (by rw [z]; exact List.mem_map_of_mem a)
      rw [if_neg (by simp [ne])]
      exact ih n2 a
/-- changed, then last: the others in their order, then the one -/
theorem last_set {l : List Cr} (nd : (namesL l).Nodup) {c c' : Cr} (h : c ∈ l) (hn : c'.name = c.name) : lastC c'.name (setC c' l) = dropC c'.name l ++ [c'] := by
  unfold lastC dropC
  have h1 : ((setC c' l).filter fun x => decide (x.name ≠ c'.name)) = l.filter fun x => decide (x.name ≠ c'.name) := by
    unfold setC
    rw [List.filter_map]
    have e : ((fun x : Cr => decide (x.name ≠ c'.name)) ∘ fun x => if x.name = c'.name then c' else x) = fun x => decide (x.name ≠ c'.name) := by
      funext x
      show decide ((if x.name = c'.name then c' else x).name ≠ c'.name) = _
      split
      · rename_i q
        simp [q]
      · rfl
    rw [e]
    have e2 : ∀ x ∈ l.filter fun x => decide (x.name ≠ c'.name), (if x.name = c'.name then c' else x) = x := fun x hx => if_neg (of_decide_eq_true (List.mem_filter.mp hx).2)
    rw [List.map_congr_left e2, List.map_id']
  have h2 : ((setC c' l).filter fun x => decide (x.name = c'.name)) = [c'] := only_name (by rw [setC_names]; exact nd) (List.mem_map.mpr ⟨c, h, if_pos hn.symm⟩)
  rw [h1, h2]

/-! ### in the heap -/
section
variable {K : PySem.W.Frag} {H H' : Hp} {S S' : List Addr} {d L a : Addr} {ln : Ln} {D : Dk} {c c' : Cr}
theorem DkIn.one (x : DkIn K H d L ln D) {p q : Addr × Cr} (hp : p ∈ ln) (hq : q ∈ ln) (e : p.2.name = q.2.name) : p = q := by
  have h1 : p.2 = q.2 := name_one x.nm (by rw [← x.eq]; exact List.mem_map_of_mem hp) (by rw [← x.eq]; exact List.mem_map_of_mem hq) e
  have key : ∀ {l : Ln}, (namesL (l.map (·.2))).Nodup → p ∈ l → q ∈ l → p = q := by
    intro l
    induction l with
    | nil => intro _ h; exact nomatch h
    | cons y r ih =>
      intro nd hp hq
      obtain ⟨n1, n2⟩ := List.nodup_cons.mp (show (y.2.name :: namesL (r.map (·.2))).Nodup from nd)
      rcases List.mem_cons.mp hp with a | a
      · rcases List.mem_cons.mp hq with b | b
        · rw [a, b]
        · exact absurd (by rw [← a, e]; exact List.mem_map_of_mem (List.mem_map_of_mem b)) n1
      · rcases List.mem_cons.mp hq with b | b
        · exact absurd (by rw [← b, ← e]; exact List.mem_map_of_mem (List.mem_map_of_mem a)) n1
        · exact ih n2 a b
  exact key (by rw [x.eq]; exact x.nm) hp hq
theorem DkIn.dL (x : DkIn K H d L ln D) (h : a ∈ ln.map (·.1)) : a ≠ d ∧ a ≠ L := ⟨x.cne h, x.lne h⟩
/-- a caller is changed in its place -/
theorem DkIn.set (x : DkIn K H d L ln D) (hp : (a, c) ∈ ln) (hn : c'.name = c.name) {dx : Addr} : DkIn K (upd H a (.ins (He.ga K "Caller") dx c'.fs)) d L (setLn c' ln) { D with line := setC c' D.line } := by
  have ha : a ∈ ln.map (·.1) := List.mem_map_of_mem hp
  obtain ⟨nd, nL⟩ := x.dL ha
  refine ⟨?_, (upd_ne nL.symm).trans (x.line.trans ?_), fun p hp' => ?_, ?_, ?_, ?_, ?_, fun y hy => ?_, x.pr⟩
  · obtain ⟨dy, e⟩ := x.desk
    exact ⟨dy, (upd_ne nd.symm).trans e⟩
  · have e : kvsOf (setLn c' ln) = kvsOf ln := by
      unfold kvsOf setLn
      rw [List.map_map]
      refine List.map_congr_left fun p _ => ?_
      show ((Sum.inr (if p.2.name = c'.name then (p.1, c') else p).2.name : Key), V.ref (if p.2.name = c'.name then (p.1, c') else p).1) = _
      split
      · rename_i q
        rw [q]
      · rfl
    rw [e]
  · obtain ⟨q, hq, rfl⟩ := List.mem_map.mp hp'
    by_cases e : q.2.name = c'.name
    · have eq : q = (a, c) := x.one hq hp (e.trans hn)
      rw [if_pos e, eq]
      exact ⟨dx, upd_same⟩
    · rw [if_neg e]
      obtain ⟨dy, e2⟩ := x.crs q hq
      refine ⟨dy, (upd_ne fun z => ?_).trans e2⟩
      have z1 : q = (a, c) := by
        have key : ∀ {l : Ln}, (l.map (·.1)).Nodup → q ∈ l → (a, c) ∈ l → q = (a, c) := by
          intro l
          induction l with
          | nil => intro _ h; exact nomatch h
          | cons y r ih =>
            intro nd hp hq
            obtain ⟨n1, n2⟩ := List.nodup_cons.mp (show (y.1 :: r.map (·.1)).Nodup from nd)
            rcases List.mem_cons.mp hp with s | s
            · rcases List.mem_cons.mp hq with t | t
              · rw [s, t]
              · exact absurd (by rw [← s, z]; exact List.mem_map_of_mem (f := (·.1)) t) n1
            · rcases List.mem_cons.mp hq with t | t
              · exact absurd (by rw [← t]; show a ∈ _; rw [← z]; exact List.mem_map_of_mem (f := (·.1)) s) n1
              · exact ih n2 s t
        exact key x.nd hq hp
      rw [z1] at e
      exact e hn.symm
  · rw [setLn_snd, x.eq]
  · rw [setLn_fst]
    exact x.nd
  · show (namesL (setC c' D.line)).Nodup
    rw [setC_names]
    exact x.nm
  · show (setC c' D.line).length ≤ 60
    rw [setC_len]
    exact x.len
  · obtain ⟨z, hz, rfl⟩ := List.mem_map.mp (show y ∈ D.line.map _ from hy)
    split
    · rw [hn]
      exact x.ok c (by rw [← x.eq]; exact List.mem_map_of_mem hp)
    · exact x.ok z hz
theorem kvs_last (n : Str) (h : ∃ p ∈ ln, p.2 = c ∧ p.1 = a) (hn : c.name = n) (nd : (namesL (ln.map (·.2))).Nodup) : putK (dropK (kvsOf ln) (Sum.inr n)) (Sum.inr n) (V.ref a) = kvsOf (lastLn n ln) := by
  obtain ⟨p, hp, rfl, rfl⟩ := h
  rw [kvs_drop, putK_new]
  · unfold lastLn
    have e : (ln.filter fun p => decide (p.2.name = n)) = [p] := by
      have key : ∀ {l : Ln}, (namesL (l.map (·.2))).Nodup → p ∈ l → (l.filter fun p => decide (p.2.name = n)) = [p] := by
        intro l
        induction l with
        | nil => intro _ h; exact nomatch h
        | cons y r ih =>
          intro nd hp
          obtain ⟨n1, n2⟩ := List.nodup_cons.mp (show (y.2.name :: namesL (r.map (·.2))).Nodup from nd)
          rw [List.filter_cons]
          rcases List.mem_cons.mp hp with s | s
          · subst s
            rw [if_pos (decide_eq_true hn)]
            congr 1
            exact List.filter_eq_nil_iff.mpr fun z hz q => n1 (by rw [hn, ← of_decide_eq_true q]; exact List.mem_map_of_mem (List.mem_map_of_mem hz))
          · have ne : y.2.name ≠ n := fun z => n1 (by rw [z, ← hn]; exact List.mem_map_of_mem (List.mem_map_of_mem s))
            rw [if_neg (by simp [ne])]
            exact ih n2 s
      exact key nd hp
    rw [e]
    unfold kvsOf
    rw [List.map_append, List.map_cons, List.map_nil, hn]
  · rw [kvs_find, List.find?_eq_none.mpr]
    · rfl
    · intro q hq z
      have := (List.mem_filter.mp hq).2
      simp at this z
      exact this z
/-- a caller goes to the end -/
theorem DkIn.last (x : DkIn K H d L ln D) (hp : (a, c) ∈ ln) : DkIn K (upd (upd H L (.dK (dropK (kvsOf ln) (Sum.inr c.name)))) L (.dK (putK (dropK (kvsOf ln) (Sum.inr c.name)) (Sum.inr c.name) (.ref a)))) d L (lastLn c.name ln) { D with line := lastC c.name D.line } := by
  rw [upd_upd, kvs_last c.name ⟨_, hp, rfl, rfl⟩ rfl (by rw [x.eq]; exact x.nm)]
  refine ⟨?_, upd_same, fun p hp' => ?_, ?_, ?_, ?_, ?_, fun y hy => x.ok y ((lastC_perm _ _).mem_iff.mp hy), x.pr⟩
  · obtain ⟨dy, e⟩ := x.desk
    exact ⟨dy, (upd_ne x.dne).trans e⟩
  · have hp2 : p ∈ ln := (lastLn_perm _ _).mem_iff.mp hp'
    obtain ⟨dy, e2⟩ := x.crs p hp2
    exact ⟨dy, (upd_ne (x.lne (List.mem_map_of_mem hp2))).trans e2⟩
  · rw [lastLn_snd, x.eq]
  · exact ((lastLn_perm _ _).map _).nodup_iff.mpr x.nd
  · exact ((lastC_perm _ _).map _).nodup_iff.mpr x.nm
  · exact Nat.le_trans (Nat.le_of_eq (lastC_perm _ _).length_eq) x.len
/-- a caller leaves -/
theorem DkIn.drop (x : DkIn K H d L ln D) (n : Str) : DkIn K (upd H L (.dK (dropK (kvsOf ln) (Sum.inr n)))) d L (dropLn n ln) { D with line := dropC n D.line } := by
  rw [kvs_drop]
  refine ⟨?_, upd_same, fun p hp' => ?_, ?_, ?_, ?_, ?_, fun y hy => x.ok y (List.mem_filter.mp hy).1, x.pr⟩
  · obtain ⟨dy, e⟩ := x.desk
    exact ⟨dy, (upd_ne x.dne).trans e⟩
  · have hp2 : p ∈ ln := (List.mem_filter.mp hp').1
    obtain ⟨dy, e2⟩ := x.crs p hp2
    exact ⟨dy, (upd_ne (x.lne (List.mem_map_of_mem hp2))).trans e2⟩
  · rw [dropLn_snd, x.eq]
  · exact x.nd.sublist (List.filter_sublist.map _)
  · exact x.nm.sublist (List.filter_sublist.map _)
  · exact Nat.le_trans (List.length_filter_le _ _) x.len
/-- the time is set -/
theorem DkIn.time (x : DkIn K H d L ln D) {n : Int} {dx : Addr} : DkIn K (upd H d (.ins (He.ga K "Desk") dx (dFs D.pace D.room n L))) d L ln { D with now := n } := by
  refine ⟨⟨dx, upd_same⟩, (upd_ne x.dne.symm).trans x.line, fun p hp => ?_, x.eq, x.nd, x.nm, x.len, x.ok, x.pr⟩
  obtain ⟨dy, e2⟩ := x.crs p hp
  exact ⟨dy, (upd_ne (x.cne (List.mem_map_of_mem hp))).trans e2⟩
end
end Rr
namespace Rr
open PySem PySem.Spec PyProof.Rows L2
open GxR (TabG Tabbed)
/-! ### the first of the greatest -/
def pkS {α : Type} (f : α → Int) (s : Nat × Option (Nat × α)) (x : α) : Nat × Option (Nat × α) :=
  (s.1 + 1, match s.2 with
    | none => some (s.1, x)
    | some y => if f y.2 < f x then some (s.1, x) else some y)
def pickI {α : Type} (f : α → Int) (l : List α) : Option (Nat × α) := (l.foldl (pkS f) (0, none)).2
/-- the first of those with the greatest f -/
def pick {α : Type} (f : α → Int) (l : List α) : Option α := (pickI f l).map (·.2)
theorem pk_fst {α : Type} (f : α → Int) : ∀ (l : List α) (s : Nat × Option (Nat × α)), (l.foldl (pkS f) s).1 = s.1 + l.length
  | [], _ => rfl
  | x :: r, s => by
    rw [List.foldl_cons, pk_fst f r, List.length_cons]
    show s.1 + 1 + r.length = _
    omega
theorem pickI_snoc {α : Type} (f : α → Int) (l : List α) (x : α) : pickI f (l ++ [x]) = match pickI f l with
    | none => some (l.length, x)
    | some y => if f y.2 < f x then some (l.length, x) else some y := by
  unfold pickI
  rw [List.foldl_append]
  have h := pk_fst f l (0, none)
  show (match (l.foldl (pkS f) (0, none)).2 with
    | none => some ((l.foldl (pkS f) (0, none)).1, x)
    | some y => if f y.2 < f x then some ((l.foldl (pkS f) (0, none)).1, x) else some y) = _
  rw [h]
  simp
theorem pickI_at {α : Type} (f : α → Int) : ∀ (n : Nat) (l : List α), l.length = n → ∀ {j : Nat} {x : α}, pickI f l = some (j, x) → l[j]? = some x
  | 0, l, hl, j, x, h => by
    rw [List.length_eq_zero_iff.mp hl] at h
    cases h
  | n + 1, l, hl, j, x, h => by
    obtain ⟨r, y, rfl⟩ : ∃ r y, l = r ++ [y] := by
      cases l with
      | nil => cases hl
      | cons a b => exact ⟨_, _, (List.dropLast_concat_getLast (List.cons_ne_nil a b)).symm⟩
    have hr : r.length = n := by simpa using hl
    rw [pickI_snoc] at h
    have new : some (r.length, y) = some (j, x) → (r ++ [y])[j]? = some x := fun e => by
      cases e
      simp
    have old : ∀ {z : Nat × α}, pickI f r = some z → some z = some (j, x) → (r ++ [y])[j]? = some x := fun {z} e1 e2 => by
      rw [Option.some.inj e2] at e1
      have q := pickI_at f n r hr e1
      rw [List.getElem?_append_left (List.getElem?_eq_some_iff.mp q).1]
      exact q
    cases e : pickI f r with
    | none =>
      rw [e] at h
      exact new h
    | some z =>
      rw [e] at h
      have h' : (if f z.2 < f y then some (r.length, y) else some z) = some (j, x) := h
      split at h'
      · exact new h'
      · exact old e h'
theorem pickI_map {α β : Type} (f : β → Int) (g : α → β) : ∀ (n : Nat) (l : List α), l.length = n → pickI f (l.map g) = (pickI (fun x => f (g x)) l).map fun y => (y.1, g y.2)
  | 0, l, hl => by
    rw [List.length_eq_zero_iff.mp hl]
    rfl
  | n + 1, l, hl => by
    obtain ⟨r, y, rfl⟩ : ∃ r y, l = r ++ [y] := by
      cases l with
      | nil => cases hl
      | cons a b => exact ⟨_, _, (List.dropLast_concat_getLast (List.cons_ne_nil a b)).symm⟩
    have hr : r.length = n := by simpa using hl
    rw [List.map_append, List.map_cons, List.map_nil, pickI_snoc, pickI_snoc, pickI_map f g n r hr, List.length_map]
    cases pickI (fun x => f (g x)) r with
    | none => rfl
    | some z =>
      show (if f (g z.2) < f (g y) then some (r.length, g y) else some (z.1, g z.2)) = Option.map _ (if f (g z.2) < f (g y) then some (r.length, y) else some z)
      split <;> rfl
theorem pickI_none {α : Type} {f : α → Int} {l : List α} (h : pickI f l = none) : l = [] := by
  cases l with
  | nil => rfl
  | cons a b =>
    obtain ⟨r, y, e⟩ : ∃ r y, a :: b = r ++ [y] := ⟨_, _, (List.dropLast_concat_getLast (List.cons_ne_nil a b)).symm⟩
    rw [e, pickI_snoc] at h
    cases q : pickI f r with
    | none =>
      rw [q] at h
      cases h
    | some z =>
      rw [q] at h
      have h' : (if f z.2 < f y then some (r.length, y) else some z) = none := h
      split at h' <;> cases h'

/-! ### the desk's deeds -/
def Stt.isRdy : Stt → Bool
  | .rdy _ => true
  | _ => false
/-- since when it is ready -/
def Stt.since : Stt → Int
  | .rdy s => s
  | _ => 0
def readies (l : List Cr) : List Cr := l.filter (·.st.isRdy)
def readyLn (l : Ln) : Ln := l.filter (·.2.st.isRdy)
def agedC (p now : Int) (c : Cr) : Int := c.rank + (now - c.st.since) / p
def Dk.pick (D : Dk) : Option Cr := Rr.pick (agedC D.pace D.now) (readies D.line)
/-- it becomes so, and goes to the end -/
def Dk.move (D : Dk) (c : Cr) : Dk := { D with line := lastC c.name (setC c D.line) }
def Cr.as (c : Cr) (s : Stt) : Cr := { c with st := s }
def Dk.wakeAll (D : Dk) (cs : List Cr) : Dk := cs.foldl (fun D c => D.move (c.as (.rdy D.now))) D
def Dk.leave (D : Dk) (n : Str) : Dk := { D with line := dropC n D.line }
def Dk.ring (D : Dk) (b : Str) : Dk := D.wakeAll (D.line.filter fun c => decide (c.st = .wtg b))
def Dk.setR (D : Dk) (c : Cr) : Dk := { D with line := setC c D.line }
/-- the time grows; whose time to wake has come is ready -/
def Dk.tick (D : Dk) : Dk := ({ D with now := D.now + 1 } : Dk).wakeAll (D.line.filter fun c => decide (c.st = .slp (D.now + 1)))
def Dk.turn (D : Dk) : Dk := match D.pick with
  | none => D.tick
  | some c => D.tick.move (c.as (.rdy (D.now + 1)))
def nmV : Option Cr → V
  | none => .non
  | some c => .str c.name
theorem readyLn_snd (l : Ln) : (readyLn l).map (·.2) = readies (l.map (·.2)) := filter_snd (fun c => c.st.isRdy) l
/-- a dict comprehension over a walk -/
theorem dc_it {J : It} {n : Nat} {G : Hp → Prop} {Y : Nat → Hp → V → Hp → Prop} (w : Walk J n G Y) {g : TG} {tt : TT} {tk tv : TE} {vs : List Nat} {σ : L2.St} {H1 : Hp} {D : Addr} {Qd : Hp → Prop} (Pv : Nat → Hp → Prop) (h0 : Pv 0 (upd H1 D (.dK []))) (hG : ∀ i H, i ≤ n → Pv i H → G H)
    (hs : ∀ i x H H', i < n → Pv i H → Y i H x H' → g x (wipe σ vs) H' fun σ2 H2 => wipe σ2 vs = wipe σ vs ∧ tt σ2 H2 fun b H3 => if b = true then tk σ2 H3 fun y H4 => tv σ2 H4 fun z H5 => ∃ kvs k, y = kV k ∧ H5 D = some (.dK kvs) ∧ kvs.length < sizeLine ∧ Pv (i + 1) (upd H5 D (.dK (putK kvs k z))) else Pv (i + 1) H3)
    (hd : ∀ H, Pv n H → Qd H) :
    ∃ W : Nat → Nat → Hp → Prop, (∃ m, W 0 m (upd H1 D (.dK []))) ∧ ∀ i m H, W i m H → (J.stop i H ∧ Qd H) ∨ (J.go i H ∧ ∃ Nx : Hp → Prop, (∀ H', Nx H' → ∃ m', m' < m ∧ W (i + 1) m' H') ∧
      ∀ x H', J.yld i H x H' → g x (wipe σ vs) H' fun σ2 H2 => wipe σ2 vs = wipe σ vs ∧ tt σ2 H2 fun b H3 => if b = true then tk σ2 H3 fun y H4 => tv σ2 H4 fun z H5 => ∃ kvs k, y = kV k ∧ H5 D = some (.dK kvs) ∧ kvs.length < sizeLine ∧ Nx (upd H5 D (.dK (putK kvs k z))) else Nx H3) := by
  refine ⟨fun i m H => m = n - i ∧ i ≤ n ∧ Pv i H, ⟨n, (Nat.sub_zero n).symm, Nat.zero_le _, h0⟩, ?_⟩
  rintro i m H ⟨rfl, hi, p⟩
  rcases Nat.lt_or_ge i n with hlt | hge
  · exact .inr ⟨w.goes i H hlt (hG i H hi p), Pv (i + 1), fun H' p' => ⟨n - (i + 1), Nat.sub_succ_lt_self n i hlt, rfl, hlt, p'⟩, fun x H' y => hs i x H H' hlt p (w.yields i H x H' hlt (hG i H hi p) y)⟩
  · have e : i = n := Nat.le_antisymm hi hge
    rw [e] at p ⊢
    exact .inl ⟨w.stops H (hG n H (Nat.le_refl _) p), hd H p⟩
end Rr

set_option maxRecDepth 100000
set_option maxHeartbeats 2000000
/-! a list walked while an exception is handled -/
namespace HotX
open PySem PySem.Spec PyProof.Rows
section
variable {prog : Program} {w : World} {A : Around} {E : Value → Shared → Prop} {s : Shared}
theorem pyNext_list_end_hot {it l x1 : Addr} {i : Nat} {items : Array Value} {Q : Option Value → Shared → Prop} (hot : HotAt A x1 s.heap) (hne : x1 ≠ it)
    (hit : s.heap.IsListIter it l i) (hl : s.heap.IsList l items) (hx : items[i]? = none)
    (hQ : ∀ h', Heap.ExtBut it s.heap h' → Q none { s with heap := h' }) : wpAny (model prog w) A (pyNext (.ref it)) Q E s := by
  obtain ⟨hh, o1, vs1, h1, d1, c1⟩ := hot
  obtain ⟨o, ho, hc, hd⟩ := id hit
  obtain ⟨ol, hol, _, nl, hdl⟩ := hl
  unfold pyNext
  refine wpAny_bind (wpAny_attempt (wpAny_callSpecial?_slot (name := Str.ofString "__next__") hit.typeIs slot_listiter_next
    (wpAny_call_entry slot_listiter_next hit.typeIs entry_listiter_next ?_ (args_listiter_next _))))
  show wpAny _ _ (field (.ref it) 0 >>= _) _ _ s
  refine wpAny_bind (wpAny_field ho hd (x := .ref l) rfl ?_)
  show wpAny _ _ (if (Value.ref l == Value.none) = true then _ else _) _ _ s
  rw [if_neg (show ¬ ((Value.ref l == Value.none) = true) from Bool.false_ne_true)]
  show wpAny _ _ (field (.ref it) 1 >>= _) _ _ s
  refine wpAny_bind (wpAny_field ho hd (x := .int i 0) rfl ?_)
  show wpAny _ _ (seqItems? (.ref l) >>= _) _ _ s
  refine wpAny_bind (wpAny_seqItems hol hdl ?_)
  simp only [Int.toNat_natCast, hx]
  refine wpAny_bind (wpAny_rule (wpAny_bind (wpAny_setField ho hd (by simp) ?_)))
  show wpAny _ _ (newExc (.type "StopIteration") [] >>= _) _ _ _
  refine wpAny_bind ?_
  simp only [newExc, newTuple]
  refine wpAny_bind (wpAny_newObj_type ?_ (by size_fits))
  refine wpAny_bind (m := firstArgMember _ _) (wpAny_of_eq (a := Value.none) (by first | rfl | (simp only [firstArgMember]; rfl)) ?_)
  refine wpAny_newObj_type ?_ (by size_fits)
  have h1' := (Heap.get?_update_other s.heap (Obj.mapFields fun xs => xs.setIfInBounds 0 Value.none) hne.symm).trans h1
  refine raiseNew_hot (x1 := x1) ⟨hh, o1, vs1, Heap.get?_push_of_some _ (Heap.get?_push_of_some _ ?h1), d1, c1⟩ (Nat.ne_of_lt (Heap.lt_size (Heap.get?_push_of_some _ ?h1))) (Heap.get?_push_size _ rfl) rfl (by first | (simp; done) | (simp; omega) | (simp only [Array.size_append]; simp; omega)) ?_
  case h1 => exact h1'
  refine wpAny_bind (wpAny_isInstance (T := "StopIteration") (b := true) ⟨_, Heap.get?_update_self _ (Heap.get?_push_size _ rfl) rfl, rfl⟩ isSubtype_stop ?_)
  refine wpAny_pure (hQ _ fun b o hb e => ?_)
  have e1 := (Heap.get?_update_other s.heap (Obj.mapFields fun xs => xs.setIfInBounds 0 Value.none) (Ne.symm hb)).trans e
  rw [Heap.get?_update_other _ _ (Nat.ne_of_gt (Heap.lt_size (Heap.get?_push_of_some _ e1)))]
  exact Heap.get?_push_of_some _ (Heap.get?_push_of_some _ e1)
end
theorem walks_listHot {prog : Program} {w : World} {A : Around} {I ax x1 : Addr} {o1 : Obj} {vs1 : Array Value} (hh : A.handled = some (.ref x1)) (d1 : o1.data = .fields vs1) (c1 : vs1[2]? = some .none) (hne : ax ≠ I) (hx : x1 ≠ I) (items : Array Value) :
    Walks prog w A I [I, ax, x1] [I] items.size (fun i v => items[i]? = some v) (fun i h => h.IsListIter I ax i ∧ h.IsList ax items ∧ h.get? x1 = some o1) where
  sub := fun b hb => by simp at hb; simp [hb]
  frame := fun _ _ _ st hk => ⟨st.1.at fun o e => hk I (by simp) o e, st.2.1.at fun o e => hk ax (by simp) o e, hk x1 (by simp) o1 st.2.2⟩
  item := fun i s Q E hi st hQ => by
    refine wpAny_pyNext_list_item st.1 st.2.1 (x := items[i]) (by simp [hi]) fun h' hit' hs' => ?_
    exact hQ _ h' s.toks (by simp [hi]) ⟨hit', st.2.1.extBut hs'.extBut hne, hs'.extBut x1 o1 hx st.2.2⟩ fun b o hb e => hs'.extBut b o (fun h => hb (by simp [h])) e
  done := fun s Q E st hQ => pyNext_list_end_hot ⟨hh, o1, vs1, st.2.2, d1, c1⟩ hx st.1 st.2.1 (by simp) fun h' he' => hQ h' s.toks fun b o hb e => he' b o (fun h => hb (by simp [h])) e
  self := fun _ _ _ _ st hQ => wpAny_pyIter_listiter st.1 hQ
section
variable {prog : Program} {w : World} {A : Around} {E : Value → Shared → Prop} {s : Shared} {l x1 : Addr} {its : List Value} {ns : List Int} {Q : Value → Shared → Prop}
theorem sum_intListHot {xs : Array (Int × Tok)} (hot : HotAt A x1 s.heap) (hl : s.heap.IsList l (intItems xs))
    (h : ∀ h' tk t', (∀ b o, s.heap.get? b = some o → h'.get? b = some o) → Q (.int (preSum (numAt xs) xs.size) t') { s with heap := h', toks := tk }) :
    wpAny (model prog w) A (call (.builtin "sum") [.ref l]) Q E s := by
  obtain ⟨hh, o1, vs1, h1, d1, c1⟩ := hot
  have lx : x1 < s.heap.objs.size := Heap.lt_size h1
  refine call_sum_walkG (iter_intList hl fun s₂ e st hfp hlI => ?_)
  subst e
  refine ⟨_, _, _, _, _, _, numAt xs, rfl, walks_listHot (A := A.in1) hh d1 c1 hlI (Nat.ne_of_lt lx) (intItems xs), ⟨st.1, st.2, Heap.get?_push_of_some _ h1⟩, fun b hb => ?_, (fun _ _ => intItems_at), fun h' tk t' hk => ?_⟩
  · rcases List.mem_cons.mp hb with rfl | hb
    · exact hfp _ (by simp)
    · rcases List.mem_cons.mp hb with rfl | hb
      · exact hfp _ (by simp)
      · rw [List.mem_singleton.mp hb, Heap.size_push]
        exact Nat.lt_succ_of_lt lx
  · have := h h' tk t' (old_kept hk)
    simpa [intItems] using this
end
end HotX
namespace L2
open PySem PySem.Spec PyProof.Rows HotX
section
variable {prog : Program} {w : World} {A : Around} {E : Value → Shared → Prop} {s : Shared} {l x1 : Addr} {its : List Value} {ns : List Int} {Q : Value → Shared → Prop}
theorem sum_rawHot (hot : HotAt A x1 s.heap) (hl : s.heap.IsList l its.toArray) (hi : IntsAre its ns)
    (h : ∀ h' tk t', (∀ b o, s.heap.get? b = some o → h'.get? b = some o) → Q (.int ns.sum t') { s with heap := h', toks := tk }) : wpAny (model prog w) A (call (.builtin "sum") [.ref l]) Q E s := by
  obtain ⟨xs, e⟩ := hi.allInts.items
  have hn : numsOf (intItems xs).toList = ns := by rw [← e]; exact hi.numsOf
  rw [nums_intItems] at hn
  rw [e] at hl
  refine sum_intListHot hot hl fun h' tk t' hk => ?_
  have := h h' tk t' hk
  rw [preSum_eq, List.take_of_length_le (by simp), hn]; exact this
end
end L2

set_option maxRecDepth 100000
set_option maxHeartbeats 2000000
/-! a def that is called within an except suite, its promise knowing the exception that is handled -/
namespace L2H
open PySem PySem.Spec PyProof.Rows L2
abbrev SpP := Addr × Obj → Sp
structure FnP (P : Program) (w : World) (K : PySem.W.Frag) (mg : Str → Option Value) (base : Heap) (CX : CXT) (k : Nat) (f : Addr) (fd : FuncData) (ps : List Str) (sp : SpP) : Prop where
  len : ∀ p vs H Q E, sp p vs H Q E → vs.length = ps.length
  run : ∀ (A : Around) (outer : List Env) (s : Shared) (H : Hp) (args : Args) (us : List Value) (vs : List V) (Q : VK) (E : XK) (p : Addr × Obj), RoomH k A → Hot1 A p → PinOk outer H s p → Env0 P w K mg base A outer s H → BindsTo s fd args (ps.zip us) → Vals vs us → sp p vs H Q E →
    codeAny (model P w) A (.call (.ref f) args) (CR CX outer P w H s Q E) s
theorem fn_ofP {CX : CXT} {P : Program} {w : World} {K : PySem.W.Frag} {mg : Str → Option Value} {base : Heap} {k : Nat} {f : Addr} {name qual : Str} {params : Arguments} {body : List Stmt} {scope : Scope} {dV kV doc pm cdv ct oc : Value} {an od : Option Addr}
    {osl : Array (Option Value)} {N ps : List Str} {sp : SpP} (lk : K.lookup f = some ⟨oc, od, .func (PySem.W.fnOf name qual params body scope dV kV doc pm an cdv ct), osl⟩) (hcd : PySem.W.codeIn K cdv qual = true) (S : FnScope N ps scope)
    (len : ∀ p vs H Q E, sp p vs H Q E → vs.length = ps.length)
    (hbody : ∀ (A : Around) (outer : List Env) (s : Shared) (H : Hp) (vs : List V) (Q : VK) (E : XK) (p : Addr × Obj), Hot1 A p → RoomH k (A.deeper (envOfC qual scope s.heap.objs.size f cdv)) → sp p vs H Q E →
      ∃ t, PSs (cxH CX P w K mg base N qual scope f cdv A outer s H E p) body t ∧ t { nx := fun _ H' => Q .non H', rt := Q } (L2.start N vs) H) :
    FnP P w K mg base CX (k + 1) f (PySem.W.fnOf name qual params body scope dV kV doc pm an cdv ct) ps sp where
  len := len
  run := by
    intro A outer s H args us vs Q E p hr hot hpin e0 hb r hsp
    have KX : K.In s.heap := e0.mod.kin.keeps fun b o e => (e0.bs b o e).1
    have lim : s.heap.NoLimit := e0.mod.nolimit.keeps fun b o e => (e0.bs b o e).1
    refine codeAny_call_function hr.depth (KX _ _ lk) rfl S.co S.gen rfl (PySem.W.codeRec_of KX hcd) (hb _ _ _ _ (wpAny_newFunctionEnv_cells S.kind (fun y hy => ?_) fun env he s1 x => ?_))
    · rcases S.par y.1 (List.of_mem_zip (show (y.1, y.2) ∈ ps.zip us from hy)).1 with q | q
      · exact .inl q
      · exact .inr ⟨q, PySem.W.cellsFrom_some _ _ _ (.inl q)⟩
    subst he
    obtain ⟨t, ht, hq⟩ := hbody A outer s H vs Q E p hot (hr.deeper _) hsp
    refine ⟨lim.keeps x.toInCall.keep, codeAny_func (wpAny_mono (ht.run [] s1 (L2.start N vs) H _ (inv_startH S hpin e0 (len _ _ _ _ _ hsp) r x) hq) (fun fl s' hs => ?_) fun _ _ z => z)⟩
    cases fl with
    | ret u =>
      obtain ⟨v, σ', H', J, rv, q⟩ := hs
      exact ⟨v, H', J.os, J.bare, J.base, J.hok, rv, q⟩
    | next =>
      obtain ⟨σ', H', J, q⟩ := hs
      exact ⟨V.non, H', J.os, J.bare, J.base, J.hok, rfl, q⟩
    | brk => exact False.elim hs.choose_spec.choose_spec.2
    | cont => exact False.elim hs.choose_spec.choose_spec.2
section
variable {X : Cx} {CX : CXT} {k : Nat} {f : Addr} {fd : FuncData} {ps : List Str} {sp : SpP} {E : St → XK} {x : Str} {q pos : Pos} {e : Expr} {es : List Expr} {t : TA}
theorem run_fnP {pins : List (Addr × Obj)} {σ : St} {H : Hp} {s : Shared} {Q : VK} {us : List Value} {vs : List V} {p : Addr × Obj} (F : FnP X.prog X.w X.K X.mg X.base CX k f fd ps sp) (hr : RoomH k X.A) (hot : Hot1 X.A p) (hp : p ∈ X.pn) (hb : Binds X.K fd ps []) (hx : PassesAt CX X σ (E σ))
    (I : Inv X pins σ H s) (r : Vals vs us) (h : sp p vs H Q (E σ)) : wpAny (model X.prog X.w) X.A (call (.ref f) us) (EP X pins σ Q) X.xe s := by
  have b := hb s us I.kIn (by rw [List.append_nil, ← r.length]; exact F.len _ _ _ _ _ h)
  rw [List.append_nil] at b
  obtain ⟨g, fr, nl, nf, nc⟩ := I.pin p (List.mem_append_left _ hp)
  refine wpAny_call (codeAny_mono (F.run X.A X.stack s H ⟨us, []⟩ us vs Q (E σ) p hr hot ⟨g, fr, fun hm => (List.mem_cons.mp (I.stkSub p.1 hm)).elim nl nf, nc⟩ I.env0 b r h) fun r s' hq => ?_)
  cases r with
  | error e => exact hx pins H s e s' I hq
  | ok fl =>
    cases fl with
    | ret u => exact I.after hq
    | next => exact False.elim hq
    | brk => exact False.elim hq
    | cont => exact False.elim hq
theorem pe_callP {p : Addr × Obj} (F : FnP X.prog X.w X.K X.mg X.base CX k f fd ps sp) (hr : RoomH k X.A) (hot : Hot1 X.A p) (hp : p ∈ X.pn) (hg : Gl X x) (hm : X.mg x = some (.ref f)) (hk : PySem.W.keepIn X.K (.ref f) = true) (hb : Binds X.K fd ps []) (hx : ∀ σ, PassesAt CX X σ (E σ))
    (ha : PA X (e :: es) t) (hdb : (x == ("__debug__" : Str)) = false := by decide) (he : starEach (e :: es) X.env = (false, eval e X.env) :: starEach es X.env := by rfl) (hpl : (backTo pos (starEach es X.env)).any (·.1) = false := by rfl) :
    PE X (.Call (.Name x q) (e :: es) [] pos) (tCallS (sp p) E t) where
  run := by
    intro pins s σ H Q I h
    exact wpAny_Call_Name_kw (ld_glob I hg hm (PySem.W.callWith_K (h₀ := X.base) I.ok.mod.kin hk (thn (ha.run pos pins s σ H _ I h) fun us s1 ⟨vs, H1, I1, r, q⟩ => ⟨I1.kIn, run_fnP F hr hot hp hb (hx σ) I1 r q⟩) he hpl) hdb)
end
end L2H

set_option maxRecDepth 100000
set_option maxHeartbeats 2000000
/-! isinstance of the exception that is handled, wherever it is pinned -/
namespace L2H
open PySem PySem.Spec PyProof.Rows L2
theorem call_isP {X : Cx} {a D : Addr} {oe : Obj} (C : ExcC X.K D) (hz : Zc (.ref D) none oe) (hf : ∃ vs, oe.data = .fields vs) (hp : (a, oe) ∈ X.pn) : CallR X (.builtin "isinstance") (rIsE X.K D a) := by
  rintro pins s σ H xs us Q I r ⟨c, cv, b, rfl, hcv, e, q⟩
  obtain ⟨oc, od, oda, osl⟩ := oe
  obtain ⟨vs, hv⟩ := hf
  obtain ⟨h1, h2⟩ := hz
  dsimp only at h1 h2 hv
  subst h1 h2 hv
  have hget := (I.pin _ (List.mem_append_left _ hp)).1
  match us, r with
  | [_, _], .cons rx (.cons rt .nil) =>
    cases rx
    obtain rfl := hcv _ rt
    exact PySem.W.kia_one (PySem.W.handS_kitx_exc C.hg C.hk C.hs C.hd C.ha C.hn C.ht C.hm) I.kIn (show PySem.W.InstAt s.heap a _ D none from ⟨hget, rfl, rfl, trivial⟩) e (fun z => nomatch z) fun tk => ⟨.bl b, H, I.kept (t' := tk) fun _ _ z => z, rfl, q⟩
theorem HotAt_of {X : Cx} {pins : List (Addr × Obj)} {σ : St} {H : Hp} {s : Shared} {p : Addr × Obj} (hot : Hot1 X.A p) (hp : p ∈ X.pn) (I : Inv X pins σ H s) : HotX.HotAt X.A p.1 s.heap := by
  obtain ⟨hh, v1, e1, c1⟩ := hot
  exact ⟨hh, p.2, v1, (I.pin p (List.mem_append_left _ hp)).1, e1, c1⟩
/-- sum(xs), xs a list of ints -/
theorem call_sumP {X : Cx} {p : Addr × Obj} (hot : Hot1 X.A p) (hp : p ∈ X.pn) : CallR X (.builtin "sum") (fun xs H Q => ∃ (a : Addr) (ns : List Int), xs = [.ref a] ∧ H a = some (.lst (ns.map V.int)) ∧ Q (.int ns.sum) H) := by
  rintro pins s σ H xs us Q I r ⟨a, ns, rfl, ha, q⟩
  match us, r with
  | [_], .cons rx .nil =>
    cases rx
    obtain ⟨its, rv, pl, hz⟩ := I.list (.inl (.inl ha))
    refine sum_rawHot (HotAt_of hot hp I) pl.isList (ns := ns) (Vals.ints rv) fun h' tk t' hk => ⟨.int ns.sum, H, I.kept (t' := tk) hk, ⟨t', rfl⟩, q⟩
end L2H

set_option maxRecDepth 100000
set_option maxHeartbeats 2000000
/-! [int(x) for x in y] while an exception is handled: y a list of true and false -/
namespace L2H
open PySem PySem.Spec PyProof.Rows L2
theorem bls_at {bs : List Bool} {its : List Value} (r : Vals (bs.map V.bl) its) {i : Nat} {v : Value} (h : its[i]? = some v) : ∃ b, bs[i]? = some b ∧ v = .bool b := by
  have hl := r.length
  rw [List.length_map] at hl
  have hi : i < bs.length := by
    have := (List.getElem?_eq_some_iff.mp h).1
    omega
  obtain ⟨u, hu, ru⟩ := r.get (i := i) (x := V.bl bs[i]) (by rw [List.getElem?_map, List.getElem?_eq_getElem hi]; rfl)
  rw [h] at hu
  cases hu
  exact ⟨bs[i], List.getElem?_eq_getElem hi, ru⟩
theorem ints_of {vs ys : List Value} (h : Paired (fun v y => ∃ (b : Bool) (t : Tok), v = .bool b ∧ y = .int (if b then 1 else 0) t) vs ys) : ∀ {bs : List Bool}, vs.length = bs.length → (∀ (j : Nat) (v : Value), vs[j]? = some v → ∃ b, bs[j]? = some b ∧ v = .bool b) → Vals (bs.map fun b => V.int (if b then 1 else 0)) ys := by
  induction h with
  | nil =>
    intro bs hl _
    cases bs with
    | nil => exact .nil
    | cons _ _ => cases hl
  | cons hd _ ih =>
    intro bs hl hv
    cases bs with
    | nil => cases hl
    | cons b r =>
      obtain ⟨b1, t, e1, e2⟩ := hd
      obtain ⟨b2, e3, e4⟩ := hv 0 _ rfl
      cases e3
      rw [e1] at e4
      cases e4
      exact .cons ⟨t, e2⟩ (ih (Nat.succ.inj hl) fun j v hj => hv (j + 1) v hj)
def tInts (te : TE) : TE := fun σ H Q => te σ H fun v H1 => ∃ (a : Addr) (bs : List Bool), v = .ref a ∧ H1 a = some (.lst (bs.map V.bl)) ∧ bs.length ≤ sizeLine ∧ ∀ b, H1 b = none → Q (.ref b) (upd H1 b (.lst (bs.map fun b => V.int (if b then 1 else 0))))
theorem pe_intsP {X : Cx} {p : Addr × Obj} {iter : Expr} {te : TE} {x : Str} {p1 p2 p3 px pos : Pos} {scope : Scope} (hot : Hot1 X.A p) (hp : p ∈ X.pn) (hi : PE X iter te) (hint : X.mg "int" = none)
    (hk : scope.kind = .function) (hnm : ∀ y ∈ scope.names, scope.names.lookup y.1 = some y.2) (hnf : ∀ y ∈ scope.names, y.2 ≠ .free) (hpc : ∀ h, pushCells h scope.names = h) (hx : scope.names.lookup x = some .local)
    (hg : scope.names.lookup ("int" : Str) = some NameKind.globalImplicit) (hdb : (x == ("__debug__" : Str)) = false := by decide) (hs : ∀ x, foldedSetIterable iter X.env x = pure x := by intro _; rfl) :
    PE X (.ListComp (.Call (.Name "int" p1) [.Name x p2] [] p3) [⟨.Name x px, iter, [], 0⟩] scope pos) (tInts te) where
  run := by
    intro pins s σ H Q I h
    rw [eval_ListComp]
    refine wpAny_comprehension_free (use := none) rfl hs (closure_ok fun y hy e => absurd e (hnf y hy)) hk (fun y hy e => by rw [hnm y hy, e]) (thn (hi.run pins s σ H _ I h) fun u s1 ⟨v, H1, I1, rv, a, bs, ev, ha, hl, q⟩ => ?_)
    subst ev
    cases rv
    obtain ⟨its, rv, pl, hz⟩ := I1.list (.inl (.inl ha))
    have L1 := pl.isList
    refine wpAny_pyIter_list L1 ?_
    refine wpAny_newObj_type (newEnv_comp ?_) (by show 0 ≤ sizeLine; decide)
    obtain ⟨g1, fr1, nl1, nf1, nc1⟩ := I1.pin p (List.mem_append_left _ hp)
    obtain ⟨hh, vs1, d1, c1⟩ := hot
    have la : a < s1.heap.objs.size := by obtain ⟨o, ho, _⟩ := L1; exact Heap.lt_size ho
    have lx : p.1 < s1.heap.objs.size := Heap.lt_size g1
    rw [hpc]
    dsimp only
    generalize e1 : s1.heap.push { cls := .type "list_iterator", data := .fields #[.ref a, .int 0 0] } = h1
    have sz1 : h1.objs.size = s1.heap.objs.size + 1 := by rw [← e1]; exact Heap.size_push ..
    have gi : h1.get? s1.heap.objs.size = some { cls := .type "list_iterator", data := .fields #[.ref a, .int 0 0] } := by rw [← e1]; exact Heap.get?_push_size _ rfl
    have k1 : ∀ b o, s1.heap.get? b = some o → h1.get? b = some o := fun b o e => by rw [← e1]; exact Heap.get?_push_of_some _ e
    generalize e2 : h1.push { cls := .type "list", data := .seq ([] : List Value).toArray } = h2
    have sz2 : h2.objs.size = h1.objs.size + 1 := by rw [← e2]; exact Heap.size_push ..
    have gd : h2.get? h1.objs.size = some { cls := .type "list", data := .seq ([] : List Value).toArray } := by rw [← e2]; exact Heap.get?_push_size _ rfl
    have k2 : ∀ b o, h1.get? b = some o → h2.get? b = some o := fun b o e => by rw [← e2]; exact Heap.get?_push_of_some _ e
    generalize e3 : h2.push { cls := .type "dict", data := .dict #[] } = h3
    have gc : h3.get? h2.objs.size = some { cls := .type "dict", data := .dict #[] } := by rw [← e3]; exact Heap.get?_push_size _ rfl
    have k3 : ∀ b o, h2.get? b = some o → h3.get? b = some o := fun b o e => by rw [← e3]; exact Heap.get?_push_of_some _ e
    have k13 : ∀ b o, s1.heap.get? b = some o → h3.get? b = some o := fun b o e => k3 b o (k2 b o (k1 b o e))
    show codeAny _ _ (.compStart _ 0 (.ref s1.heap.objs.size) (.ref h1.objs.size) (compEnvC scope (cellsFrom (h2.objs.size + 1) scope.names (cloFrom X.env.cells scope.names [])) h2.objs.size X.env)) (compPost _ _ _ none _ _ h2.objs.size) { s1 with heap := h3 }
    generalize hce : compEnvC scope (cellsFrom (h2.objs.size + 1) scope.names (cloFrom X.env.cells scope.names [])) h2.objs.size X.env = cenv
    have hloc : cenv.locals = h2.objs.size := by rw [← hce]; rfl
    have hkd : cenv.scope.kind = .function := by rw [← hce]; exact hk
    have hkx : cenv.kindOf x = some .local := by rw [← hce]; exact lookup_relabel_local (env := X.env) hx
    have hki : cenv.kindOf ("int" : Str) = some .globalImplicit := by rw [← hce]; exact lookup_relS_keep (sc := X.env.scope) (by decide) hg
    have hgl : cenv.globals = X.env.globals := by rw [← hce]; rfl
    have hbl : cenv.builtins = X.env.builtins := by rw [← hce]; rfl
    have st0 : h3.IsListIter s1.heap.objs.size a 0 ∧ h3.IsList a its.toArray ∧ h3.get? p.1 = some p.2 := ⟨⟨_, k3 _ _ (k2 _ _ gi), rfl, rfl⟩, L1.at fun o e => k13 _ o e, k13 _ _ g1⟩
    have W := HotX.walks_listHot (prog := X.prog) (w := X.w) (A := X.A) hh d1 c1 (Nat.ne_of_lt la) (Nat.ne_of_lt lx) its.toArray
    have aux : ∀ {b : Nat}, b < s1.heap.objs.size → b ≠ h2.objs.size ∧ b ≠ s1.heap.objs.size ∧ b ≠ h1.objs.size := fun {b} lb => by omega
    have n12 : h1.objs.size ≠ h2.objs.size := by omega
    have n01 : h1.objs.size ≠ s1.heap.objs.size := by omega
    have n02 : h2.objs.size ≠ s1.heap.objs.size := by omega
    have le1 : s1.heap.objs.size ≤ h1.objs.size := by omega
    refine codeAny_compStart_list ?loop (wpAny_pyIter_listiter st0.1 ?loop)
    have old : ∀ {h' : Heap}, (∀ b o, b ≠ cenv.locals → b ∉ [s1.heap.objs.size] → b ≠ h1.objs.size → h3.get? b = some o → h'.get? b = some o) → ∀ b o, s1.heap.get? b = some o → h'.get? b = some o := fun {h'} hk b o e => by
      have lb := Heap.lt_size e
      exact hk b o (by rw [hloc]; exact (aux lb).1) (fun z => (aux lb).2.1 (List.mem_singleton.mp z)) (aux lb).2.2 (k13 b o e)
    refine codeAny_compLoop_walk W (fun _ => true) (fun v y => ∃ (b : Bool) (t : Tok), v = .bool b ∧ y = .int (if b then 1 else 0) t) hkx (by rw [hkd]; rfl) (by rw [hloc]; exact n12) (fun z => ?_) (fun z => ?_) st0 ⟨_, k3 _ _ gd⟩ (m := fun _ => none) ?ns (fun i v s₂ m₂ hv hns hm hkp ht => ?_) (fun i v s₂ m₂ hv _ hns hm hkp ht => ?_) (fun h' tk m' ys vs hns hil hpl hln hpv hpr hkp => ?_) (by have := hz; rw [rv.length] at this; simpa using this)
    case ns =>
      rw [hloc]
      refine ⟨_, _, _, gc, rfl, ?_, fun name => rfl⟩
      simp [StrKeys]
    · rcases List.mem_cons.mp z with z | z
      · exact n01 z
      · rcases List.mem_cons.mp z with z | z
        · exact (aux la).2.2 z.symm
        · exact (aux lx).2.2 (List.mem_singleton.mp z).symm
    · rw [hloc] at z
      rcases List.mem_cons.mp z with z | z
      · exact n02 z
      · rcases List.mem_cons.mp z with z | z
        · exact (aux la).1 z.symm
        · exact (aux lx).1 (List.mem_singleton.mp z).symm
    · rw [List.forIn_nil]
      exact wpAny_pure ⟨rfl, _, _, rfl, fun _ _ e => e⟩
    · obtain ⟨b, _, rfl⟩ := bls_at rv (by simpa using hv)
      obtain ⟨mb, b1, b2⟩ := I1.mod.blt
      refine wpAny_Call_Name_kw (Calls.Name_function_global hkd hki (Calls.loadGlobal_builtin (by rw [hgl, I1.ok.glob]; exact (I1.mod.glob.keeps I1.bk).keeps (old hkp)) hint (by rw [hbl, I1.ok.blt]; exact (b1.keeps I1.bk).keeps (old hkp)) ((b2 _ (by decide)).trans boot_int) ?_))
      refine PyProof.Rows.callWith_type1 (Calls.spliced_cons (wpAny_Name (wpAny_loadName_local hkd hkx hns hm (Calls.spliced_nil (call_int_bool ⟨⟨b, _, rfl, rfl⟩, _, _, rfl, fun _ _ e => e⟩))) hdb)) rfl rfl
    · have hl2 := rv.length
      rw [List.length_map] at hl2
      refine ⟨m', hloc ▸ hns, fun h'' sb => ⟨.ref h1.objs.size, _, I1.laid (a := h1.objs.size) (o := .lst (bs.map fun b => V.int (if b then 1 else 0))) (t' := tk) (fun b o e => ?_) le1 ⟨?_, ys.toList, ?_⟩, rfl, q _ (I1.hok.fresh le1)⟩⟩
      · have lb := Heap.lt_size e
        exact (sb.2 b (aux lb).1).trans (old hkp b o e)
      · rw [List.length_map]
        exact hl
      · obtain ⟨n, en⟩ := hpl
        rw [show vs.filter (fun _ => true) = vs from List.filter_eq_self.mpr fun _ _ => rfl] at hpr
        refine ⟨n, ints_of hpr (hln.trans (by simpa using hl2.symm)) (fun j v hj => bls_at rv (by simpa using hpv j v hj)), ?_⟩
        rw [Array.toArray_toList]
        exact (sb.2 _ n12).trans en
end L2H

set_option maxRecDepth 100000
set_option maxHeartbeats 2000000
/-! the nine errors of the desk: which class each is, for isinstance -/
namespace Rr
open PySem PySem.Spec PyProof.Rows L2
def errs9 : List Str := ["NoName", "NoRank", "NoSpan", "NoDesk", "Known", "Unknown", "Full", "NotReady", "IsReady"]
def words9 : List Str := ["name", "rank", "span", "desk", "known", "unknown", "full", "awake", "ready"]
def excCB (K : PySem.W.Frag) (D : Addr) : Bool :=
  He.eqO (PySem.W.findIn K (.ref D) "__getattribute__") (some (some (.builtin "BaseException.__getattribute__"))) && (He.eqO (PySem.W.findIn K (.ref D) "__getattr__") (some none) && (decide (PySem.W.subIn K (.ref D) (.type "BaseException") = some true) && (PySem.W.hasDictIn K D &&
  (He.eqO (PySem.W.findIn K (.ref D) "__class__") (some (some (.builtin "object.__class__"))) && (He.eqO (PySem.W.specialIn K (.builtin "object.__class__") "__get__") (some (some (.builtin "getset_descriptor.__get__"))) &&
  (decide (PySem.W.takesIn K (.builtin "object.__class__") = some true) && decide (PySem.W.mroIn K D (.type "object") = some true)))))))
theorem excCB_ok {K : PySem.W.Frag} {D : Addr} (h : excCB K D = true) : ExcC K D := by
  unfold excCB at h
  simp only [Bool.and_eq_true, decide_eq_true_eq] at h
  obtain ⟨h1, h2, h3, h4, h5, h6, h7, h8⟩ := h
  exact ⟨He.eqO_ok h1, He.eqO_ok h2, h3, h4, He.eqO_ok h5, He.eqO_ok h6, h7, h8⟩
def exOk (K : PySem.W.Frag) : Bool := errs9.all fun d => excCB K (He.ga K d) && (decide (PySem.W.kitOne K (.ref (He.ga K d)) (.type "ValueError") = some true) && errs9.all fun c => decide (PySem.W.kitOne K (.ref (He.ga K d)) (.ref (He.ga K c)) = some (decide (d = c))))
structure Ex9 (K : PySem.W.Frag) (d : Str) : Prop where
  c : ExcC K (He.ga K d)
  v : PySem.W.kitOne K (.ref (He.ga K d)) (.type "ValueError") = some true
  is : ∀ c ∈ errs9, PySem.W.kitOne K (.ref (He.ga K d)) (.ref (He.ga K c)) = some (decide (d = c))
theorem ex9 {K : PySem.W.Frag} (h : exOk K = true) : ∀ d ∈ errs9, Ex9 K d := fun d hd => by
  have h := List.all_eq_true.mp h d hd
  simp only [Bool.and_eq_true, decide_eq_true_eq] at h
  obtain ⟨h1, h2, h3⟩ := h
  exact ⟨excCB_ok h1, h2, fun c hc => of_decide_eq_true (List.all_eq_true.mp h3 c hc)⟩
end Rr

set_option maxRecDepth 100000
set_option maxHeartbeats 2000000
/-! exceptions of which more is known than class and dict: a kind D says by a letter i what is known of the object, and what stands on the ground beside it -/
namespace GE
open PySem PySem.Spec PyProof.Rows L2
structure Kd where
  ι : Type
  Z : ι → Value → Option Addr → Obj → Prop
  G : ι → Heap → Prop
  A : ι → List Addr
  st : ∀ i c d, PXN.Steady1 (Z i c d)
  zc : ∀ i c d o, Z i c d o → Zc c d o
/-- in the air of X, but for what X's own names are -/
def AirW (D : Kd) (X : Cx) (W : WX) (u : Value) (s' : Shared) : Prop :=
  ∃ (i : D.ι) (a : Addr) (B : Heap) (sI : Shared) (pins : List (Addr × Obj)) (σ : L2.St) (H : Hp) (c : Value) (d : Option Addr),
    (u = .ref a ∧ D.G i B ∧ (∀ b ∈ a :: D.A i, H b = none) ∧ W c d σ H) ∧ Inv X pins σ H sI ∧ (∀ b o, sI.heap.get? b = some o → b ∉ frs X.stack → B.get? b = some o) ∧
      (∀ b o, sI.heap.get? b = some o → b ≠ X.env.locals → (∀ vs, o.data ≠ .fields vs) → ∃ sl, s'.heap.get? b = some { o with slots := sl }) ∧ Sky B X.stack a (D.Z i c d) X.env.locals s'.heap ∧ s'.os = sI.os ∧ AllBare s'.gens
def Air (D : Kd) (X : Cx) (W : WX) (u : Value) (s' : Shared) : Prop :=
  ∃ (i : D.ι) (a : Addr) (B : Heap) (sI : Shared) (pins : List (Addr × Obj)) (σ : L2.St) (H : Hp) (c : Value) (d : Option Addr),
    (u = .ref a ∧ D.G i B ∧ (∀ b ∈ a :: D.A i, H b = none) ∧ W c d σ H) ∧ Inv X pins σ H sI ∧ (∀ b o, sI.heap.get? b = some o → b ∉ frs X.stack → B.get? b = some o) ∧
      sI.heap.UpToSlots s'.heap ∧ Sky B X.stack a (D.Z i c d) X.env.locals s'.heap ∧ s'.os = sI.os ∧ AllBare s'.gens
theorem Air.weak {D : Kd} {X : Cx} {W : WX} {u : Value} {s' : Shared} (x : Air D X W u s') : AirW D X W u s' := by
  obtain ⟨i, a, B, sI, pins, σ, H, c, d, x1, I, nb, up, r⟩ := x
  exact ⟨i, a, B, sI, pins, σ, H, c, d, x1, I, nb, fun b o e _ n => up b o e n, r⟩
def Takes (D : Kd) (X : Cx) (W : WX) : Prop := ∀ u s', Air D X W u s' → X.xe u s'
/-- behind a call that let one out -/
def Out (D : Kd) (P : Program) (w : World) : CXT := fun outer H s E u s' =>
  ∃ (i : D.ι) (a : Addr) (B : Heap) (H' : Hp) (c : Value) (d : Option Addr),
    (u = .ref a ∧ D.G i B ∧ (∀ b ∈ a :: D.A i, H' b = none) ∧ E c d H') ∧ HandSPX.FlyingZ B outer a (D.Z i c d) s'.heap ∧ HOk P w H' B ∧ UB (frs outer) H H' s.heap B s'.heap ∧ s'.os = s.os ∧ AllBare s'.gens
section
variable {D : Kd} {X : Cx} {pins : List (Addr × Obj)} {σ : L2.St} {H : Hp} {sI s s' : Shared} {W : WX} {E : XK}
theorem Air.of_call (I : Inv X pins σ H s) (hW : ∀ c d H', E c d H' → W c d σ H') {u : Value} (x : Out D X.prog X.w X.stack H s E u s') : Air D X W u s' := by
  obtain ⟨i, a, B, H', c, d, ⟨eu, g, na, hE⟩, fl, hok, ub, os, ag⟩ := x
  have sB := fl.1
  -- the ground and the frames, as they stand behind the call
  obtain ⟨G, g1, g2⟩ := restrict s'.heap fun b => decide (b ∈ frs X.stack) || (B.get? b).isSome
  have onB : ∀ {b o}, B.get? b = some o → G.get? b = some o := fun {b o} e => (g1 b (by rw [e]; simp)).trans (sB b o e)
  have onF : ∀ {b}, b ∈ frs X.stack → G.get? b = s'.heap.get? b := fun {b} h => g1 b (by simp [h])
  have back : ∀ {b o}, G.get? b = some o → s'.heap.get? b = some o ∧ (b ∈ frs X.stack ∨ ∃ o', B.get? b = some o') := fun {b o} e => by
    by_cases h : (decide (b ∈ frs X.stack) || (B.get? b).isSome) = true
    · refine ⟨(g1 b h).symm.trans e, ?_⟩
      rcases (Bool.or_eq_true _ _).mp h with h | h
      · exact .inl (of_decide_eq_true h)
      · exact .inr (Option.isSome_iff_exists.mp h)
    · rw [g2 b (by simpa using h)] at e
      cases e
  have J : Inv X pins σ H' { s with heap := G, gens := s'.gens, drawn := s'.drawn, toks := s'.toks } := by
    refine I.call (ch := []) ⟨fun b o e n h _ => onB (ub.keep b o e n h), fun b o e _ h _ => ?_, fun b o e n _ => ub.free b o e n, fun b o e _ => ?_, ub.tups, ub.frzs, ub.tbls⟩ (hok.kept fun b o e => onB e) ag (fun _ z => nomatch z)
    · obtain ⟨sl, q⟩ := ub.slot b o e h
      exact ⟨sl, (onF h).trans q⟩
    · by_cases h : b ∈ frs X.stack
      · obtain ⟨sl, q⟩ := ub.slot b o e h
        exact ⟨_, (onF h).trans q⟩
      · obtain ⟨o', q⟩ := ub.there b o e h
        exact ⟨o', onB q⟩
  refine ⟨i, a, B, _, pins, σ, H', c, d, ⟨eu, g, na, hW c d H' hE⟩, J, fun b o e h => ?_, Heap.UpToSlots.of_keeps fun b o e => (back e).1, .inr (.inl fl), os, ag⟩
  obtain ⟨e1, h1⟩ := back e
  rcases h1 with h1 | ⟨o', q⟩
  · exact absurd h1 h
  · have z := (sB b o' q).symm.trans e1
    cases z
    exact q
/-- it leaves the def -/
theorem AirW.leave (hs : X.stack = X.env :: X.outer) (hf : X.env.frame = some X.env.locals) (hex : X.ex = []) {E₁ : Value → Shared → Prop} (hW : ∀ c d σ H, W c d σ H → E c d H) {u : Value} (x : AirW D X W u s') :
    wpAny (model X.prog X.w) X.A (leaving X.env u) (fun _ t => Out D X.prog X.w X.outer X.H_0 X.s_0 E u t) E₁ s' := by
  obtain ⟨i, a, B, sI, pins, σ, H, c, d, ⟨rfl, g, na, hw⟩, I, nb, up, sky, os, ag⟩ := x
  have fr : X.A.frames = some (X.env :: X.outer) := I.ok.frames.trans (congrArg some hs)
  have ne : ∀ {b : Addr}, b ∉ X.ex := fun {b} h => by
    rw [hex] at h
    cases h
  have lo : ∀ {b : Addr} {o : Obj}, X.s_0.heap.get? b = some o → b ≠ X.env.locals := fun {b o} e => Nat.ne_of_lt (Nat.lt_of_lt_of_le (Heap.lt_size e) I.ok.above)
  have off : ∀ {b : Addr} {o : Obj}, X.s_0.heap.get? b = some o → b ∉ X.fs → b ∉ frs X.stack := fun {b o} e h m => (List.mem_cons.mp (I.stkSub b m)).elim (lo e) h
  have fin : ∀ h', HandSPX.FlyingZ B X.outer a (D.Z i c d) h' → s'.heap.UpToSlots h' → Out D X.prog X.w X.outer X.H_0 X.s_0 E (.ref a) { s' with heap := h' } := fun h' fl up' => by
    have ub : UB (frs X.outer) X.H_0 H X.s_0.heap B h' :=
      { keep := fun b o e n h => nb b o (I.base.keep b o e n h ne) (off e h)
        slot := fun b o e h => by
          obtain ⟨_, o1, e1, hn⟩ := I.ok.funs.mem h
          cases e.symm.trans e1
          obtain ⟨sl, q⟩ := I.base.slot b o e (I.ok.frf b h) h ne
          obtain ⟨sl2, q2⟩ := up b _ q (lo e) hn
          obtain ⟨sl3, q3⟩ := up' b _ q2 hn
          exact ⟨sl3, q3⟩
        free := fun b o e n => I.base.free b o e n ne
        there := fun b o e h => by
          obtain ⟨o', q⟩ := I.base.there b o e ne
          exact ⟨o', nb b o' q (off e h)⟩
        tups := I.base.tups
        frzs := I.base.frzs
        tbls := I.base.tbls }
    exact ⟨i, a, B, H, c, d, ⟨rfl, g, na, hW c d σ H hw⟩, fl, I.inGround nb, ub, os.trans I.os, ag⟩
  rw [hs] at sky
  match sky with
  | .inl ⟨b1, b2, b3, oe, vs, e1, z1, d1, n1⟩ => exact PXN.leaving_firstZ (D.st i c d) fr b3 hf e1 b1 b2 d1 n1 z1 fin
  | .inr (.inl fl) => exact PXN.leaves_onZ (D.st i c d) fr hf fl fin
  | .inr (.inr he) => exact HandSPX.leaves_heldZ hf he fin
theorem takesW_of (hs : X.stack = X.env :: X.outer) (hf : X.env.frame = some X.env.locals) (hex : X.ex = []) {E₁ : Value → Shared → Prop}
    (hx : X.xe = fun e t => wpAny (model X.prog X.w) X.A (leaving X.env e) (fun _ t' => Out D X.prog X.w X.outer X.H_0 X.s_0 E e t') E₁ t) : ∀ u s', AirW D X (fun c d _ H => E c d H) u s' → X.xe u s' := by
  rw [hx]
  exact fun u t x => AirW.leave (W := fun c d _ H => E c d H) (E := E) hs hf hex (fun _ _ _ _ h => h) x
theorem takes_of (hs : X.stack = X.env :: X.outer) (hf : X.env.frame = some X.env.locals) (hex : X.ex = []) {E₁ : Value → Shared → Prop}
    (hx : X.xe = fun e t => wpAny (model X.prog X.w) X.A (leaving X.env e) (fun _ t' => Out D X.prog X.w X.outer X.H_0 X.s_0 E e t') E₁ t) : Takes D X (fun c d _ H => E c d H) := fun u t x => takesW_of hs hf hex hx u t x.weak
theorem passAt (tk : Takes D X W) (σ : L2.St) : PassesAt (Out D X.prog X.w) X σ (WE W σ) := fun _ _ _ e t I c => tk e t (Air.of_call I (fun _ _ _ h => h) c)
theorem passes_call (tk : Takes D X W) (hW : ∀ c d σ H, E c d H → W c d σ H) : Passes (Out D X.prog X.w) X E := fun _ σ _ _ e t I c => tk e t (Air.of_call I (fun c d H' h => hW c d σ H' h) c)
/-- a new one -/
theorem Air.new {i : D.ι} {a : Addr} {oe : Obj} {vs : Array Value} {c : Value} {d : Option Addr} (I : Inv X pins σ H sI) (k : ∀ b o, sI.heap.get? b = some o → s'.heap.get? b = some o) (hn : sI.heap.get? a = none) (he : s'.heap.get? a = some oe)
    (hz : D.Z i c d oe) (hd : oe.data = .fields vs) (h1 : vs[1]? = some .none) (na : ∀ b ∈ a :: D.A i, H b = none) (g : D.G i (PySem.W.hideAll s'.heap (a :: frs X.stack))) (os : s'.os = sI.os) (ag : AllBare s'.gens) (w : W c d σ H) : Air D X W (.ref a) s' := by
  have z : ∀ {b : Addr}, b ∈ a :: frs X.stack → (PySem.W.hideAll s'.heap (a :: frs X.stack)).get? b = none := fun {b} h => PySem.W.hideAll_none _ h
  refine ⟨i, a, PySem.W.hideAll s'.heap (a :: frs X.stack), sI, pins, σ, H, c, d, ⟨rfl, g, na, w⟩, I, fun b o e h => PySem.W.hideAll_get _ (k b o e) fun m => ?_, Heap.UpToSlots.of_keeps k, ?_, os, ag⟩
  · rcases List.mem_cons.mp m with rfl | m
    · rw [hn] at e
      cases e
    · exact h m
  · exact .inl ⟨fun b o e => PySem.W.of_hideAll _ e, z List.mem_cons_self, Heap.FunFrames.of_keeps (fun b o e _ => ⟨o, k b o e, rfl⟩) (funFrames_none I.stack fun b h => z (List.mem_cons_of_mem _ h)), oe, vs, he, hz, hd, h1⟩
end
/-- an expression that makes one -/
def MkD (D : Kd) (X : Cx) (pins : List (Addr × Obj)) (σ : L2.St) (Q : XK) (u : Value) (s' : Shared) : Prop :=
  ∃ (i : D.ι) (a : Addr) (oe : Obj) (vs : Array Value) (sI : Shared) (H : Hp) (c : Value) (d : Option Addr), (u = .ref a ∧ (∀ b ∈ a :: D.A i, H b = none) ∧ Q c d H) ∧ Inv X pins σ H sI ∧ (∀ b o, sI.heap.get? b = some o → s'.heap.get? b = some o) ∧ sI.heap.get? a = none ∧ s'.heap.get? a = some oe ∧
    D.Z i c d oe ∧ oe.data = .fields vs ∧ vs[1]? = some .none ∧ D.G i (PySem.W.hideAll s'.heap (a :: frs X.stack)) ∧ s'.os = sI.os ∧ AllBare s'.gens ∧ Raises X c
def PMkD (D : Kd) (X : Cx) (e : Expr) (t : L2.St → Hp → XK → Prop) : Prop :=
  ∀ (pins : List (Addr × Obj)) (s : Shared) (σ : L2.St) (H : Hp) (Q : XK), Inv X pins σ H s → t σ H Q → wpAny (model X.prog X.w) X.A (eval e X.env) (MkD D X pins σ Q) X.xe s
theorem ps_raise {D : Kd} {X : Cx} {W : WX} {e : Expr} {t : L2.St → Hp → XK → Prop} {pos : Pos} (hc : X.calm = true) (tk : Takes D X W) (he : PMkD D X e t) : PS X (.Raise (some e) none pos) (fun _ σ H => t σ H fun c d H' => W c d σ H') := by
  refine ⟨fun pins s σ H R I h => ?_⟩
  show wpAny _ _ (do standAt pos; raiseStmt X.env (some (do let v ← eval e X.env; standAt pos; pure v)) none) _ _ _
  refine wpAny_bind (wpAny_standAt (raise_made (I.ok.hd hc) (wpAny_bind (wpAny_mono (he pins s σ H _ I h) (fun u t1 hu => wpAny_bind (wpAny_standAt (wpAny_pure ?_))) fun _ _ x => x))))
  obtain ⟨i, a, oe, vs, sI, H1, c, d, ⟨rfl, na, q⟩, J, k, hn, ha, hz, hd, h1, g, os, ag, r⟩ := hu
  obtain ⟨r1, r2⟩ := r (model X.prog X.w) t1.heap (J.kIn.keeps k)
  exact ⟨a, oe, vs, c, rfl, ha, (D.zc i c d oe hz).1, hd, h1, r1, r2, tk _ _ (Air.new J k hn ha hz hd h1 na g os ag q)⟩
/-! ### the kind: made with one text -/
theorem set1_at {vs : Array Value} {j : Nat} {x v : Value} (hj : j ≠ 1) (h : vs[j]? = some x) : (vs.setIfInBounds 1 v)[j]? = some x := by
  rw [Array.getElem?_setIfInBounds, if_neg (Ne.symm hj)]
  exact h
theorem steady_at {j : Nat} (hj : j ≠ 1) (x : Value) : PXN.Steady1 fun o => ∀ vs : Array Value, o.data = .fields vs → vs[j]? = some x := fun o v h => by
  obtain ⟨c, d, dt, sl⟩ := o
  cases dt with
  | fields vs0 =>
    intro vs e
    obtain rfl : vs0.setIfInBounds 1 v = vs := Data.fields.inj e
    exact set1_at hj (h vs0 rfl)
  | _ =>
    intro vs e
    first
    | exact Data.noConfusion e
    | cases e
def AK : Kd where
  ι := Addr × Str × Tok
  Z := fun i c d o => L2N.Zn c d o ∧ ∀ vs : Array Value, o.data = .fields vs → vs[0]? = some (.ref i.1)
  G := fun i B => B.get? i.1 = some { cls := .type "tuple", data := .seq [Value.str i.2.1 i.2.2].toArray }
  A := fun i => [i.1]
  st := fun i c d o v h => ⟨L2N.Zn.steady o v h.1, steady_at (by decide) _ o v h.2⟩
  zc := fun i c d o h => h.1.zc
/-- .. its context another one whose context is None, or None -/
def RK : Kd where
  ι := Option (Addr × Obj)
  Z := fun i c d o => Zc c d o ∧ ∀ vs : Array Value, o.data = .fields vs → vs[2]? = some (match i with
    | none => .none
    | some p => .ref p.1)
  G := fun i B => match i with
    | none => True
    | some p => B.get? p.1 = some p.2 ∧ ∃ v : Array Value, p.2.data = .fields v ∧ v[2]? = some .none
  A := fun i => match i with
    | none => []
    | some p => [p.1]
  st := fun i c d o v h => ⟨⟨PXN.steady_cls o v h.1.1, PXN.steady_dict o v h.1.2⟩, steady_at (by decide) _ o v h.2⟩
  zc := fun i c d o h => h.1
section
variable {X : Cx} {C : Addr} {x : Str} {p pos : Pos} {e : Expr}
theorem mkA_of {pins : List (Addr × Obj)} {σ : L2.St} {H : Hp} {Q : XK} {s : Shared} {h' : Heap} {a : Addr} {c : Value} {m : Str} {tk : Tok} (I : Inv X pins σ H s) (hx : Heap.MadeExcOf s.heap h' a c [.str m tk]) (r : Raises X c) (q : Q c none H) : MkD AK X pins σ Q (.ref a) { s with heap := h' } := by
  obtain ⟨t, he, n1, ht⟩ := hx.there
  refine ⟨(t, m, tk), a, _, _, s, H, c, none, ⟨rfl, fun b hb => ?_, q⟩, I, hx.keeps, hx.new, he, ⟨⟨rfl, rfl, fun vs e => by cases e; rfl⟩, fun vs e => by cases e; rfl⟩, rfl, rfl, PySem.W.hideAll_get _ ht fun hm => ?_, rfl, I.bare, r⟩
  · rcases List.mem_cons.mp hb with rfl | hb
    · exact I.hok.gone hx.new
    · rw [List.mem_singleton.mp hb]
      exact I.hok.gone n1
  · rcases List.mem_cons.mp hm with h | hm
    · have h : t = a := h
      rw [h, he] at ht
      cases ht
    · obtain ⟨_, o, e1, _⟩ := I.stack.mem hm
      rw [n1] at e1
      cases e1
/-- an expression whose value is a text -/
def PES (X : Cx) (e : Expr) (t : L2.St → Hp → (Str → Hp → Prop) → Prop) : Prop :=
  ∀ (pins : List (Addr × Obj)) (s : Shared) (σ : L2.St) (H : Hp) (k : Str → Hp → Prop), Inv X pins σ H s → t σ H k → wpAny (model X.prog X.w) X.A (eval e X.env) (fun u s1 => ∃ (m : Str) (tk : Tok) (H1 : Hp), u = .str m tk ∧ Inv X pins σ H1 s1 ∧ k m H1) X.xe s
theorem pe_joinedS {v1 v2 : Expr} {rest : List Expr} {ts : List TE} (h : PJ X (v1 :: v2 :: rest) ts) : PES X (.JoinedStr (v1 :: v2 :: rest) pos) (fun σ H k => tJs ts Str.empty σ H k) :=
  fun pins s σ H k I q => wpAny_JoinedStr (pj_run h Str.empty s H k _ (Nat.zero_le _) I q fun out s1 H1 hz I1 q1 => ⟨hz, out, _, H1, rfl, I1.tok _, q1⟩)
/-- an own exception of one text -/
theorem pmk1 {t : L2.St → Hp → (Str → Hp → Prop) → Prop} {bmB : List Value} {B newId initId : String} (F : ExcBaseFacts B newId initId bmB) (q : PySem.W.excIn X.K C bmB newId = true) (gC : X.mg x = some (.ref C)) (kC : PySem.W.keepIn X.K (.ref C) = true) (r : Raises X (.ref C)) (hg : Gl X x)
    (he : PES X e t) (hs : starEach [e] X.env = (false, eval e X.env) :: starEach [] X.env := by rfl) (hdb : (x == ("__debug__" : Str)) = false := by decide) :
    PMkD AK X (.Call (.Name x p) [e] [] pos) (fun σ H Q => t σ H fun _ H1 => Q (.ref C) none H1) := by
  intro pins s σ H Q I h
  refine wpAny_Call_Name_kw (ld_glob I hg gC (PySem.W.callWith_K (h₀ := X.base) I.ok.mod.kin kC ?_ hs (by rfl)) hdb)
  rw [hs]
  refine Calls.spliced_cons (thn (he pins s σ H _ I h) ?_)
  rintro u s1 ⟨m, tk, H1, rfl, I1, q1⟩
  refine Calls.spliced_nil ⟨I1.kIn, ?_⟩
  obtain ⟨_, _, _, _, _, _, _, _, _, _, _, _, _, _, _, _, _, hC, hN, hni, T⟩ := exc_obj I1.kIn q
  exact wpAny_call_exc_subT F T hC hN hni (fun h' a hm => mkA_of I1 hm r q1) (by show 1 ≤ sizeLine; rw [sizeLine_eq]; omega)
end
end GE

set_option maxRecDepth 100000
set_option maxHeartbeats 2000000
/-! try: .., except X as n: a suite that raises -/
namespace GE
open PySem PySem.Spec PyProof.Rows L2
section
variable {M : Model} {A : Around} {E : Value → Shared → Prop} {s : Shared} {env : Env} {outer : List Env} {L a : Addr} {B : Heap} {Z : Obj → Prop} {Q : Unit → Shared → Prop}
theorem Sky.held (hZ : PXN.Steady1 Z) (hfr : A.frames = some (env :: outer)) (hf : env.frame = some L) (x : Sky B (env :: outer) a Z L s.heap)
    (hQ : ∀ h', HandSPX.HeldZ B (env :: outer) a Z L h' → s.heap.UpToSlots h' → Q () { s with heap := h' }) : wpAny M A (noteFrame (.ref a) env) Q E s :=
  match x with
  | .inl ⟨b1, b2, b3, oe, vs, e1, z1, d1, n1⟩ => PXN.look_newZ hZ hfr b3 hf e1 b1 b2 d1 n1 z1 hQ
  | .inr (.inl fl) => PXN.looks_onZ hZ hfr hf fl hQ
  | .inr (.inr he) => HandSPX.againZ hf he.2.2.2 (hQ s.heap he (Heap.UpToSlots.refl _))
theorem frames_but {h h' : Heap} {L : Addr} (sb : Heap.SameBut L h h') : ∀ {l : List Env}, h.FunFrames B l → L ∉ frs l → h'.FunFrames B l
  | [], _, _ => trivial
  | env :: r, ⟨hk, ⟨L1, o, hf, hn, ho, hd⟩, hr⟩, nm => by
    have e : frs (env :: r) = L1 :: frs r := List.filterMap_cons_some hf
    rw [e] at nm
    exact ⟨hk, ⟨L1, o, hf, hn, (sb.2 L1 fun z => nm (by rw [z]; exact List.mem_cons_self)).trans ho, hd⟩, frames_but sb hr fun m => nm (List.mem_cons_of_mem _ m)⟩
/-- the frame's own names change -/
theorem held_but {h h' : Heap} {m : Str → Option Value} {fl : Value} (hf : env.frame = some L) (he : B.StaysIn h ∧ B.get? a = none ∧ h.FunFrames B (env :: outer) ∧ HandSPX.TracedZ h B a Z fl) (sb : Heap.SameBut L h h') (hn : h'.Ns L m) (nL : L ∉ frs outer) :
    B.StaysIn h' ∧ B.get? a = none ∧ h'.FunFrames B (env :: outer) ∧ HandSPX.TracedZ h' B a Z fl := by
  obtain ⟨b1, b2, b3, oe, vs, t, ot, ts, e1, z1, d1, n1, t1, t2, t3, t4, t5⟩ := he
  obtain ⟨hk, ⟨L1, o, hf1, bn, ho, hd⟩, hr⟩ := b3
  cases hf.symm.trans hf1
  have ne : ∀ {b : Addr} {u : Obj} {ws : Array Value}, h.get? b = some u → u.data = .fields ws → b ≠ L := fun {b u ws} e q z => by
    rw [z, ho] at e
    cases e
    exact hd ws q
  obtain ⟨oL, es, ep, gL, dL, _⟩ := hn
  refine ⟨fun b u e => (sb.2 b fun z => ?_).trans (b1 b u e), b2, ⟨hk, ⟨L, oL, hf, bn, gL, fun ws q => ?_⟩, frames_but sb hr nL⟩, oe, vs, t, ot, ts, (sb.2 a (ne e1 d1)).trans e1, z1, d1, n1, t1, t2, (sb.2 t (ne t3 t4)).trans t3, t4, t5⟩
  · rw [z, bn] at e
    cases e
  · rw [dL] at q
    cases q
end
/-- no end but an exception -/
abbrev none4 : Ends := { nx := fun _ _ => False, rt := fun _ _ => False, bk := fun _ _ => False, ct := fun _ _ => False }
abbrev suiteY (X : Cx) (a : Addr) (pn : List (Addr × Obj)) (xe : Value → Shared → Prop) : Cx := { X with A := X.A.mark (some (.ref a)), calm := false, pn := pn, xe := xe }
def wFrom (K : PySem.W.Frag) (c : Value) (i : Nat) (ts : Addr → Value → Option Addr → TS) : WX := fun cls d σ H => PySem.W.exmOne K cls c = some true ∧ ∀ a, H a = none → ts a cls d none4 (σ.set i (some (.ref a))) H
section
variable {X : Cx} {x n : Str} {c : Value} {i : Nat} {body suite : List Stmt} {b₀ : Stmt} {np pos pos' : Pos} {tb : WX → TS} {ts : Addr → Value → Option Addr → TS} {Wout : WX}
theorem ps_try_from (hs : X.stack = X.env :: X.outer) (hf : X.env.frame = some X.env.locals) (hN : X.N.Nodup) (hi : X.N[i]? = some n) (hln : X.env.kindOf n = some .local) (hc : Names X x c) (tk : ∀ u s', AirW RK X Wout u s' → X.xe u s')
    (hb : ∀ (W : WX) (pn : List (Addr × Obj)) (xe : Value → Shared → Prop), Takes AK (X.tr pn xe) W → PassesOwn (model X.prog X.w) X.A X.env xe → PSs (X.tr pn xe) body (tb W))
    (hsu : ∀ (j : AK.ι) (a : Addr) (oe ot : Obj) (cls : Value) (d : Option Addr) (pn : List (Addr × Obj)) (xe : Value → Shared → Prop), AK.Z j cls d oe → (∃ vs, oe.data = .fields vs) → ot = { cls := .type "tuple", data := .seq [Value.str j.2.1 j.2.2].toArray } → (a, oe) ∈ pn → (j.1, ot) ∈ pn →
      Takes RK (suiteY X a pn xe) Wout → PSs (suiteY X a pn xe) (b₀ :: suite) (ts a cls d)) :
    PS X (.Try body [.ExceptHandler (some (.Name x np)) (some n) (b₀ :: suite) pos'] [] [] pos) (fun D σ H => tb (wFrom X.K c i ts) D σ H) := by
  refine ⟨fun pins s σ H D I h => ?_⟩
  have ok := I.ok
  have fr : X.A.frames = some (X.env :: X.outer) := ok.frames.trans (congrArg some hs)
  have hloc : Loc X.env.scope n := .inl hln
  refine wpAny_Try_except ?_
  refine wpAny_mono ((hb (wFrom X.K c i ts) (X.pn ++ pins) (fun e s₁ => wpAny (model X.prog X.w) X.A (noteFrame e X.env) (fun _ s₂ => wpAny (model X.prog X.w) X.A (setFlight e none) (fun _ s₃ =>
    wpAny (model X.prog X.w) X.A (handleBy e X.env [.ExceptHandler (some (.Name x np)) (some n) (b₀ :: suite) pos']) (SP X pins D) X.xe s₃) X.xe s₂) X.xe s₁) (fun u t air => ?_) PassesOwn.looking).run [] s σ H D (I.toTry _) h) (fun f s1 hsp => ?_) (fun e s1 he => he)
  · obtain ⟨j, a, B, sI, p1, σ1, H1, cls, d, ⟨rfl, g, na, hex, hts⟩, J0, nb, up, sky, os, ag⟩ := air
    have J : Inv X pins σ1 H1 sI := J0.ofTry ok
    have sky : Sky B (X.env :: X.outer) a (AK.Z j cls d) X.env.locals t.heap := by rw [← hs]; exact sky
    show wpAny (model X.prog X.w) X.A (noteFrame (.ref a) X.env) _ _ _
    refine L2N.Sky.land (AK.st j cls d) fr hf sky fun h3 fl3 up3 => ?_
    have nfr : ∀ {h : Heap}, HandSPX.FlyingZ B (X.env :: X.outer) a (AK.Z j cls d) h → ∀ {b : Addr} {o : Obj}, (B.get? b = some o ∨ b = a) → b ≠ X.env.locals ∧ b ∉ X.fs := fun {h} fl {b o} q => by
      have key : b ∉ frs (X.env :: X.outer) := fun m => by
        obtain ⟨e1, o1, e2, nf⟩ := fl.2.2.1.mem m
        rcases q with q | q
        · rw [e1] at q
          cases q
        · obtain ⟨oe, vs, he, _, hd⟩ := fl.there
          rw [q, he] at e2
          cases e2
          exact nf vs hd
      have e : frs (X.env :: X.outer) = X.env.locals :: frs X.outer := List.filterMap_cons_some hf
      rw [e] at key
      exact ⟨fun z => key (by rw [z]; exact List.mem_cons_self), fun m => key (List.mem_cons_of_mem _ m)⟩
    -- the text's tuple is pinned with the exception
    have at_ : ∀ {h : Heap} (fl : HandSPX.FlyingZ B (X.env :: X.outer) a (AK.Z j cls d) h) (u : t.heap.UpToSlots h), ∃ oe vs, h.get? a = some oe ∧ AK.Z j cls d oe ∧ oe.data = .fields vs ∧
        Inv (X.suite a ((a, oe) :: (X.pn ++ ((j.1, { cls := .type "tuple", data := .seq [Value.str j.2.1 j.2.2].toArray }) :: pins)))) [] σ1 H1 { t with heap := h } := fun {h} fl u => by
      have K := J.landed (s' := { t with heap := h }) nb fl.1 (up.trans u) os ag
      obtain ⟨oe, vs, he, hz, hd⟩ := fl.there
      have K2 : Inv X ((j.1, { cls := .type "tuple", data := .seq [Value.str j.2.1 j.2.2].toArray }) :: pins) σ1 H1 { t with heap := h } := K.pins_of fun q hq => by
        rcases List.mem_cons.mp hq with rfl | hq
        · exact ⟨fl.1 _ _ g, na _ (List.mem_cons_of_mem _ (List.mem_singleton.mpr rfl)), (nfr fl (.inl g)).1, (nfr fl (.inl g)).2, fun v z => nomatch z⟩
        · exact K.pin q (List.mem_append_right _ hq)
      exact ⟨oe, vs, he, hz, hd, K2.suite he hd (na a List.mem_cons_self) (nfr (o := oe) fl (.inr rfl)).1 (nfr (o := oe) fl (.inr rfl)).2⟩
    obtain ⟨oe3, vs3, he3, hz3, hd3, S3⟩ := at_ fl3 up3
    refine wpAny_handleBy_cons (codeAny_handlers_test ?_) (by intro q; cases q)
    have LT : PySem.W.Looks (model X.prog X.w) h3 (typeOf (.ref a)) cls := fun A Q E s k q => wpAny_typeOf_ref (k _ _ he3) (by rw [(AK.zc j cls d oe3 hz3).1]; exact q)
    have LM := PySem.W.exm_one (M := model X.prog X.w) S3.kIn LT hex
    have test : ∀ {Q : Value → Shared → Prop} {E : Value → Shared → Prop}, Q c { t with heap := h3 } → wpAny (model X.prog X.w) (X.A.mark (some (.ref a))) (eval (.Name x np) X.env) Q E { t with heap := h3 } := fun {Q E} q => by
      obtain ⟨hg, hdbg, hm | ⟨hm, hv, hnn⟩⟩ := hc
      · exact ld_glob S3 hg hm q hdbg
      · exact ld_blt S3 hg hm hv q hnn hdbg
    refine test (LM.here ?_)
    refine codeAny_handlers_suite_as ?_
    refine HandSPX.lands_againZ fl3 fun h4 fl4 up4 => ?_
    obtain ⟨oe4, vs4, he4, hz4, hd4, S4⟩ := at_ fl4 (up3.trans up4)
    refine store_ok (X := X.suite a ((a, oe4) :: (X.pn ++ ((j.1, { cls := .type "tuple", data := .seq [Value.str j.2.1 j.2.2].toArray }) :: pins)))) (v := .ref a) S4 hN hi hloc rfl (fun s5 S5 => ?_) (.inr hln)
    generalize hpn : (a, oe4) :: (X.pn ++ ((j.1, { cls := .type "tuple", data := .seq [Value.str j.2.1 j.2.2].toArray }) :: pins)) = pn at S5
    have run := (hsu j a oe4 _ cls d pn (Air RK (suiteY X a pn fun _ _ => False) Wout) hz4 ⟨_, hd4⟩ rfl (by rw [← hpn]; exact List.mem_cons_self) (by rw [← hpn]; exact List.mem_cons_of_mem _ (List.mem_append_right _ List.mem_cons_self)) (fun u2 t2 x2 => ?_)).run [] s5 _ H1 none4
      (Inv.wish (X := suiteY X a pn fun _ _ => False) S5 _) (hts a (na a List.mem_cons_self))
    · refine wpAny_mono run (fun f s6 hsp => ?_) (fun e6 s6 air6 => ?_)
      · cases f with
        | next => exact hsp.choose_spec.choose_spec.2.elim
        | brk => exact hsp.choose_spec.choose_spec.2.elim
        | cont => exact hsp.choose_spec.choose_spec.2.elim
        | ret u => exact hsp.choose_spec.choose_spec.choose_spec.2.2.elim
      obtain ⟨i2, a2, B2, sI2, p2, σ2, H2, c2, d2, ⟨rfl, g2, na2, w2⟩, I2, nb2, up2, sky2, os2, ag2⟩ := air6
      have sky2 : Sky B2 (X.env :: X.outer) a2 (RK.Z i2 c2 d2) X.env.locals s6.heap := by rw [← hs]; exact sky2
      have K2 : Inv X ((j.1, { cls := .type "tuple", data := .seq [Value.str j.2.1 j.2.2].toArray }) :: pins) σ2 H2 sI2 := by
        rw [← hpn] at I2
        exact Inv.unsuite (X := X) (a := a) I2 ok
      have fr6 : (X.A.mark (some (.ref a))).frames = some (X.env :: X.outer) := K2.ok.frames.trans (congrArg some hs)
      refine Sky.held (RK.st i2 c2 d2) fr6 hf sky2 fun h7 he7 up7 => ?_
      have K7 := K2.landed (s' := { s6 with heap := h7 }) nb2 he7.1 (up2.trans up7) os2 ag2
      obtain ⟨m7, ns7, _⟩ := K7.loc
      have hp : (X.env.scope.kind == .class || (X.env.scope.kind == .module && X.env.locals != X.env.globals)) = false := by
        rw [ok.kind]
        rfl
      refine wpAny_nameGoes hln ns7 hp fun h8 m8 ns8 sb8 => ?_
      have loF : X.env.locals ∉ frs X.outer := fun m => by
        obtain ⟨_, o, e, _⟩ := ok.funs.mem m
        exact absurd (Nat.lt_of_lt_of_le (Heap.lt_size e) ok.above) (Nat.lt_irrefl _)
      have he8 := held_but hf he7 sb8 ns8 loF
      obtain ⟨b1, b2, b3, oe, vs, T, oT, ts', e1, z1, d1, n1, t1, t2, t3, t4, t5⟩ := id he8
      unfold PySem.passOn
      refine wpAny_bind (wpAny_field e1 d1 n1 ?_)
      rw [if_neg (show ¬ ((Value.ref T == Value.none) = true) from by simp)]
      -- behind a further setting of the flight it is in X's air
      have flown : ∀ {s9 : Shared}, (∀ b o, h8.get? b = some o → (∀ vs, o.data ≠ .fields vs) → ∃ sl, s9.heap.get? b = some { o with slots := sl }) → s9.os = s6.os → AllBare s9.gens →
          (B2.StaysIn s9.heap ∧ B2.get? a2 = none ∧ s9.heap.FunFrames B2 (X.env :: X.outer) ∧ HandSPX.TracedZ s9.heap B2 a2 (RK.Z i2 c2 d2) (rawInt X.env.locals)) → AirW RK X Wout (.ref a2) s9 := fun {s9} up9 os9 ag9 he9 =>
        ⟨i2, a2, B2, sI2, _, σ2, H2, c2, d2, ⟨rfl, g2, na2, w2⟩, K2, nb2, fun b o e nl nv => by
          obtain ⟨sl6, q6⟩ := up2 b o e nv
          obtain ⟨sl7, q7⟩ := up7 b _ q6 nv
          obtain ⟨sl9, q9⟩ := up9 b _ ((sb8.2 b nl).trans q7) nv
          exact ⟨sl9, q9⟩, .inr (.inr (by rw [hs]; exact he9)), os9.trans os2, ag9⟩
      have back : ∀ {s9 : Shared}, (∀ b o, h8.get? b = some o → (∀ vs, o.data ≠ .fields vs) → ∃ sl, s9.heap.get? b = some { o with slots := sl }) → s9.os = s6.os → AllBare s9.gens →
          (B2.StaysIn s9.heap ∧ B2.get? a2 = none ∧ s9.heap.FunFrames B2 (X.env :: X.outer) ∧ HandSPX.TracedZ s9.heap B2 a2 (RK.Z i2 c2 d2) (rawInt X.env.locals)) →
          notedBy (model X.prog X.w) (X.A.mark (some (.ref a))) X.env (cameBackBy (model X.prog X.w) X.A X.env X.xe) (.ref a2) s9 := fun {s9} up9 os9 ag9 he9 => by
        refine HandSPX.againZ hf he9.2.2.2 ?_
        obtain ⟨k1, k2, k3, oe, vs, T, oT, ts', e1, z1, d1, n1, t1, t2, t3, t4, t5⟩ := id he9
        unfold cameBackBy
        refine wpAny_bind (wpAny_field e1 d1 n1 ?_)
        rw [if_neg (show ¬ ((Value.ref T == Value.none) = true) from by simp)]
        have last : wpAny (model X.prog X.w) X.A (setFlight (.ref a2) X.env.frame) (fun _ s'' => X.xe (.ref a2) s'') X.xe s9 := by
          rw [hf]
          exact HandSPX.setFlight_anyZ k1 k3 he9.2.2.2 fun h' q1 q2 q3 q4 => tk _ _ (flown (fun b o e nv => by
            obtain ⟨sl, q⟩ := up9 b o e nv
            obtain ⟨sl2, q2⟩ := q4 b _ q nv
            exact ⟨sl2, q2⟩) os9 ag9 ⟨q1, k2, q2, q3⟩)
        first
          | exact last
          | exact wpAny_bind (wpAny_pure last)
      have fin : wpAny (model X.prog X.w) (X.A.mark (some (.ref a))) (setFlight (.ref a2) X.env.frame) (fun _ s'' => wpAny (model X.prog X.w) (X.A.mark (some (.ref a))) (throw (.ref a2) : Sem Flow) (fun _ _ => False) (notedBy (model X.prog X.w) (X.A.mark (some (.ref a))) X.env (cameBackBy (model X.prog X.w) X.A X.env X.xe)) s'') (notedBy (model X.prog X.w) (X.A.mark (some (.ref a))) X.env (cameBackBy (model X.prog X.w) X.A X.env X.xe)) { s6 with heap := h8, toks := s6.toks + 1 } := by
        rw [hf]
        exact HandSPX.setFlight_anyZ b1 b3 he8.2.2.2 fun h' q1 q2 q3 q4 => wpAny_throw (back q4 rfl ag2 ⟨q1, b2, q2, q3⟩)
      first
        | exact wpAny_bind (wpAny_pure (wpAny_bind fin))
        | exact wpAny_bind fin
    · obtain ⟨i2, a2, B2, sI2, p2, σ2, H2, c2, d2, w2, I2, r2⟩ := x2
      exact ⟨i2, a2, B2, sI2, p2, σ2, H2, c2, d2, w2, Inv.unwish (X := suiteY X a pn fun _ _ => False) I2, r2⟩
  · cases f with
    | next =>
      obtain ⟨σ', H', J', q⟩ := hsp
      exact wpAny_execs_nil ⟨σ', H', J'.ofTry ok, q⟩
    | brk =>
      obtain ⟨σ', H', J', q⟩ := hsp
      exact ⟨σ', H', J'.ofTry ok, q⟩
    | cont =>
      obtain ⟨σ', H', J', q⟩ := hsp
      exact ⟨σ', H', J'.ofTry ok, q⟩
    | ret u =>
      obtain ⟨v, σ', H', J', r, q⟩ := hsp
      exact ⟨v, σ', H', J'.ofTry ok, r, q⟩
end
end GE

set_option maxRecDepth 100000
set_option maxHeartbeats 2000000
/-! in an except suite: str(e) of what was caught; raise X(..) from e -/
namespace GE
open PySem PySem.Spec PyProof.Rows L2 HotX
/-- str(e), e what was caught, made with one text -/
theorem call_strE {X : Cx} {K : PySem.W.Frag} (hK : X.K = K) {j : AK.ι} {a : Addr} {oe ot : Obj} {cls : Value} {d : Option Addr} (hu : X.A.units + 2 < cLine) (hz : AK.Z j cls d oe) (hf : ∃ vs, oe.data = .fields vs) (ho : ot = { cls := .type "tuple", data := .seq [Value.str j.2.1 j.2.2].toArray }) (p1 : (a, oe) ∈ X.pn) (p2 : (j.1, ot) ∈ X.pn) :
    CallR X (.type "str") (fun xs H Q => xs = [.ref a] ∧ (∃ C : Addr, cls = .ref C ∧ PySem.W.findIn K (.ref C) "__str__" = some (some (.builtin "BaseException.__str__")) ∧ PySem.W.subIn K (.ref C) (.type "BaseException") = some true) ∧ ∀ m : Str, Q (.str m) H) := by
  subst hK
  rintro pins s σ H xs us Q I r ⟨rfl, ⟨C, ec, h1, h2⟩, q⟩
  obtain ⟨vs, hd⟩ := hf
  match us, r with
  | [_], .cons rx .nil =>
    cases rx
    exact PySem.P.str_of_C_one hu ⟨I.kIn, oe, vs, (I.pin _ (List.mem_append_left _ p1)).1, (AK.zc j cls d oe hz).1.trans ec, hd, hz.2 vs hd⟩ ⟨ot, _, (I.pin _ (List.mem_append_left _ p2)).1, by rw [ho], by rw [ho]⟩ h1 h2 ⟨.str _, H, I, ⟨_, rfl⟩, q _⟩
/-- the heap behind «from x1» -/
def fromAt (h : Heap) (a x1 : Addr) : Heap := (h.update a (Obj.mapFields (·.setIfInBounds 3 (.ref x1)))).update a (Obj.mapFields (·.setIfInBounds 4 (.bool true)))
theorem fromAt_at {h : Heap} {a x1 : Addr} {oe : Obj} {vs : Array Value} (ha : h.get? a = some oe) (hd : oe.data = .fields vs) :
    (fromAt h a x1).get? a = some ((oe.mapFields (·.setIfInBounds 3 (.ref x1))).mapFields (·.setIfInBounds 4 (.bool true))) ∧ ((oe.mapFields (·.setIfInBounds 3 (.ref x1))).mapFields (·.setIfInBounds 4 (.bool true))).data = .fields ((vs.setIfInBounds 3 (.ref x1)).setIfInBounds 4 (.bool true)) := by
  have q3 := Obj.data_mapFields hd (·.setIfInBounds 3 (.ref x1))
  have q4 := Obj.data_mapFields q3 (·.setIfInBounds 4 (.bool true))
  exact ⟨Heap.get?_update_self _ (Heap.get?_update_self _ ha (Obj.isFreed_of_fields q3)) (Obj.isFreed_of_fields q4), q4⟩
theorem fromAt_ne {h : Heap} {a b x1 : Addr} (n : a ≠ b) : (fromAt h a x1).get? b = h.get? b := (Heap.get?_update_other _ _ n).trans (Heap.get?_update_other _ _ n)
theorem raise_from_hot {prog : Program} {w : World} {A : Around} {E : Value → Shared → Prop} {env : Env} {s : Shared} {x c : Sem Value} {Q : Flow → Shared → Prop} {x1 : Addr}
    (h : wpAny (model prog w) A x (fun v t => ∃ (a : Addr) (oe : Obj) (vs : Array Value) (cls : Value), v = .ref a ∧ (∀ Q' : Value → Shared → Prop, Q' (.ref x1) t → wpAny (model prog w) A c Q' E t) ∧ t.heap.get? a = some oe ∧ oe.cls = cls ∧ oe.data = .fields vs ∧ vs[1]? = some .none ∧ 4 < vs.size ∧ x1 ≠ a ∧ HotAt A x1 t.heap ∧
      PySem.W.Looks (model prog w) t.heap (isSubtype cls (.type "BaseException")) true ∧ PySem.W.Looks (model prog w) (fromAt t.heap a x1) (typeOf cls) (.type "type") ∧ PySem.W.Looks (model prog w) t.heap (isInstance (.ref x1) (.type "BaseException")) true ∧
      E (.ref a) { t with heap := (fromAt t.heap a x1).update a (Obj.mapFields (·.setIfInBounds 2 (.ref x1))) }) E s) :
    wpAny (model prog w) A (raiseStmt env (some x) (some c)) Q E s := by
  unfold raiseStmt
  dsimp only
  refine wpAny_bind (wpAny_mono h (fun v t ht => ?_) fun _ _ z => z)
  obtain ⟨a, oe, vs, cls, rfl, hcv, ha, hcls, hd, n1, hi, ne, hot, L1, L2, L3, hE⟩ := ht
  have LT : PySem.W.Looks (model prog w) t.heap (typeOf (.ref a)) cls := fun A Q E s k q => wpAny_typeOf_ref (k _ _ ha) (by rw [hcls]; exact q)
  have LI : PySem.W.Looks (model prog w) t.heap (isInstance (.ref a) (.type "BaseException")) true := LT.andThen L1
  have nt : ∀ {b : Addr} {o : Obj} {ws : Array Value} {u : Shared} {Q' : Bool → Shared → Prop}, u.heap.get? b = some o → o.data = .fields ws → Q' false u → wpAny (model prog w) A (isType (.ref b)) Q' E u := fun {b o ws u Q'} e q k => by
    simp only [isType, loadHead]
    refine wpAny_bind (wpAny_loadPart e ?_)
    rw [q]
    exact wpAny_pure k
  obtain ⟨hh, o1, v1, g1, d1, c1⟩ := id hot
  have q3 := Obj.data_mapFields hd (·.setIfInBounds 3 (.ref x1))
  have a3 := Heap.get?_update_self (Obj.mapFields (·.setIfInBounds 3 (.ref x1))) ha (Obj.isFreed_of_fields q3)
  obtain ⟨a4, q4⟩ := fromAt_at (x1 := x1) ha hd
  have s3 : 3 < vs.size := by omega
  have s4 : 4 < (vs.setIfInBounds 3 (Value.ref x1)).size := by simpa using hi
  have s2 : 2 < ((vs.setIfInBounds 3 (Value.ref x1)).setIfInBounds 4 (Value.bool true)).size := by simp; omega
  have n4 : ((vs.setIfInBounds 3 (Value.ref x1)).setIfInBounds 4 (Value.bool true))[1]? = some Value.none := set_other (by decide) (set_other (by decide) n1)
  have cls4 : ((oe.mapFields (·.setIfInBounds 3 (.ref x1))).mapFields (·.setIfInBounds 4 (.bool true))).cls = cls := by rw [Obj.cls_mapFields, Obj.cls_mapFields]; exact hcls
  have LT4 : PySem.W.Looks (model prog w) (fromAt t.heap a x1) (typeOf (.ref a)) cls := fun A Q E s k q => wpAny_typeOf_ref (k _ _ a4) (by rw [cls4]; exact q)
  have hot4 : HotAt A x1 (fromAt t.heap a x1) := ⟨hh, o1, v1, (fromAt_ne (Ne.symm ne)).trans g1, d1, c1⟩
  have rest : wpAny (model prog w) A (do
      let b ← isType (.ref a)
      if b = true then do
        let e ← holding [.ref a] (raisedFor (.ref a) (.ref a))
        setFlight e none
        raiseNew e
      else do
        let e ← raisedInstance (.ref a)
        setFlight e none
        raiseNew e : Sem Flow) Q E { t with heap := fromAt t.heap a x1 } := by
    refine wpAny_bind (nt (u := { t with heap := fromAt t.heap a x1 }) a4 q4 ?_)
    simp only [Bool.false_eq_true, if_false]
    unfold raisedInstance
    refine wpAny_bind (wpAny_bind (LT4.here (wpAny_bind (L2.here ?_))))
    rw [if_pos (beq_self_eq_true _)]
    refine wpAny_pure ?_
    unfold setFlight
    refine wpAny_bind (wpAny_bind (wpAny_field a4 q4 n4 ?_))
    rw [if_neg (by decide)]
    refine wpAny_pure ?_
    exact raiseNew_hot hot4 ne a4 q4 s2 hE
  refine wpAny_bind (wpAny_holding (hcv _ (wpAny_bind (wpAny_pure ?_))))
  dsimp only
  refine wpAny_bind (wpAny_holding ?_)
  unfold excFromValue isExcClass
  refine wpAny_bind (wpAny_bind (nt ha hd ?_))
  simp only [Bool.false_eq_true, if_false]
  refine wpAny_pure ?_
  simp only [Bool.false_eq_true, if_false]
  refine wpAny_bind (LI.here ?_)
  simp only [if_true]
  refine wpAny_pure ?_
  have nn : ¬ ((Value.ref x1 == Value.none) = true) := by simp
  rw [if_neg nn]
  refine wpAny_bind (wpAny_holding ?_)
  refine wpAny_bind (wpAny_bind (nt g1 d1 ?_))
  simp only [Bool.false_eq_true, if_false]
  refine wpAny_pure ?_
  simp only [Bool.false_eq_true, if_false]
  refine wpAny_bind (L3.here ?_)
  simp only [if_true]
  refine wpAny_pure ?_
  refine wpAny_bind (wpAny_setField ha hd s3 ?_)
  refine wpAny_bind (wpAny_setField a3 q3 s4 ?_)
  exact rest
/-- an own exception of one value -/
theorem pmk5 {X : Cx} {C : Addr} {x : Str} {p pos : Pos} {e : Expr} {ta : TE} {bmB : List Value} {B newId initId : String} (F : ExcBaseFacts B newId initId bmB) (q : PySem.W.excIn X.K C bmB newId = true) (gC : X.mg x = some (.ref C)) (kC : PySem.W.keepIn X.K (.ref C) = true) (r : Raises X (.ref C)) (hg : Gl X x)
    (he : PE X e ta) (hs : starEach [e] X.env = (false, eval e X.env) :: starEach [] X.env := by rfl) (hdb : (x == ("__debug__" : Str)) = false := by decide) :
    L2H.PMk5 X (.Call (.Name x p) [e] [] pos) (fun σ H Q => ta σ H fun _ H1 => Q (.ref C) none H1) := by
  intro pins s σ H Q I h
  refine wpAny_Call_Name_kw (ld_glob I hg gC (PySem.W.callWith_K (h₀ := X.base) I.ok.mod.kin kC ?_ hs (by rfl)) hdb)
  rw [hs]
  refine Calls.spliced_cons (thn (he.run pins s σ H _ I h) ?_)
  rintro u s1 ⟨v, H1, I1, r1, q1⟩
  refine Calls.spliced_nil ⟨I1.kIn, ?_⟩
  obtain ⟨_, _, _, _, _, _, _, _, _, _, _, _, _, _, _, _, _, hC, hN, hni, T⟩ := exc_obj I1.kIn q
  exact wpAny_call_exc_subT F T hC hN hni (fun h' a hm => L2H.mk_of5 I1 hm r q1 (I1.hok.gone hm.new)) (by show 1 ≤ sizeLine; rw [sizeLine_eq]; omega)
/-- raise X(..) from n, n the exception that is handled -/
theorem ps_raise_from {X : Cx} {K : PySem.W.Frag} (hK : X.K = K) {W : WX} {e : Expr} {t : L2.St → Hp → XK → Prop} {n : Str} {i : Nat} {np pos : Pos} {a0 : Addr} {o0 : Obj} {c0 : Value} (hot : L2H.Hot1 X.A (a0, o0)) (hp : (a0, o0) ∈ X.pn) (hc0 : o0.cls = c0) (tk : Takes RK X W) (he : L2H.PMk5 X e t)
    (hi : X.N[i]? = some n) (hk : X.env.kindOf n = some .local) (hdb : (n == ("__debug__" : Str)) = false := by decide) :
    PS X (.Raise (some e) (some (.Name n np)) pos) (fun _ σ H => σ[i]? = some (some (.ref a0)) ∧ PySem.W.subIn K c0 (.type "BaseException") = some true ∧ t σ H fun c d H' => W c d σ H') := by
  subst hK
  obtain ⟨p, ep⟩ : ∃ p : Addr × Obj, p = (a0, o0) := ⟨_, rfl⟩
  have e1 : a0 = p.1 := by rw [ep]
  have hc0 : p.2.cls = c0 := by rw [ep]; exact hc0
  rw [← ep] at hot hp
  refine ⟨fun pins s σ H D I h => ?_⟩
  rw [e1] at h
  obtain ⟨hv, hsub, h⟩ := h
  obtain ⟨hh, v1, d1, c1⟩ := id hot
  show wpAny _ _ (do standAt pos; raiseStmt X.env (some (do let v ← eval e X.env; standAt pos; pure v)) (some (do let v ← eval (.Name n np) X.env; standAt pos; pure v))) _ _ _
  refine wpAny_bind (wpAny_standAt (raise_from_hot (x1 := p.1) (wpAny_bind (wpAny_mono (he pins s σ H _ I h) (fun u s1 hu => wpAny_bind (wpAny_standAt (wpAny_pure ?_))) fun _ _ x => x))))
  obtain ⟨⟨a, oe, vs, sI, H', cls, d, rfl, J, k, hne, ha, hz, hd, h1, na, os, ag, r, q⟩, h5⟩ := hu
  have hsz : 4 < vs.size := h5 a oe vs rfl ha hd
  have P0 := J.pin p (List.mem_append_left _ hp)
  have P1 := P0.1
  have nap : p.1 ≠ a := fun z => by
    rw [z, hne] at P1
    cases P1
  have k4 : ∀ b u, sI.heap.get? b = some u → (fromAt s1.heap a p.1).get? b = some u := fun b u z => by
    have nab : a ≠ b := fun y => by
      rw [← y, hne] at z
      cases z
    exact (fromAt_ne nab).trans (k b u z)
  obtain ⟨r1, _⟩ := r (model X.prog X.w) s1.heap (J.kIn.keeps k)
  obtain ⟨_, r2⟩ := r (model X.prog X.w) (fromAt s1.heap a p.1) (J.kIn.keeps k4)
  obtain ⟨ha4, hd4⟩ := fromAt_at (x1 := p.1) ha hd
  have h12 : (((vs.setIfInBounds 3 (Value.ref p.1)).setIfInBounds 4 (Value.bool true)).setIfInBounds 2 (Value.ref p.1))[1]? = some Value.none := set_other (by decide) (set_other (by decide) (set_other (by decide) h1))
  have LI : PySem.W.Looks (model X.prog X.w) s1.heap (isInstance (.ref p.1) (.type "BaseException")) true := by
    have LT : PySem.W.Looks (model X.prog X.w) s1.heap (typeOf (.ref p.1)) c0 := fun A Q E s k' q => wpAny_typeOf_ref (k' _ _ (k _ _ P1)) (by rw [hc0]; exact q)
    exact LT.andThen (PySem.W.looks_subIn (J.kIn.keeps k) hsub)
  have J1 : Inv X pins σ H' s1 := J.landed (B := sI.heap) (fun _ _ e _ => e) k (Heap.UpToSlots.of_keeps k) os ag
  refine ⟨a, oe, vs, cls, rfl, fun Q' q' => ?_, ha, hz.1, hd, h1, hsz, nap, ⟨hh, p.2, v1, k _ _ P1, d1, c1⟩, r1, r2, LI, tk _ _ ?_⟩
  · obtain ⟨m, hn, hl⟩ := J1.loc
    obtain ⟨u, ru, l⟩ := hl i n (.ref p.1) hi hv (.inl hk)
    cases ru
    rcases l with ⟨_, hm⟩ | ⟨hk2, _⟩
    · exact wpAny_bind (wpAny_Name (wpAny_loadName_local J1.ok.kind hk hn hm (wpAny_bind (wpAny_standAt (wpAny_pure q')))) hdb)
    · rw [hk] at hk2
      rcases hk2 with z | z <;> cases z
  · have h42 := Obj.data_mapFields hd4 (·.setIfInBounds 2 (.ref p.1))
    refine Air.new (D := RK) (i := some p) J (fun b u z => ?_) hne (Heap.get?_update_self _ ha4 (Obj.isFreed_of_fields h42)) ⟨⟨?_, ?_⟩, fun ws e => ?_⟩ h42 h12 (fun b hb => ?_) ⟨PySem.W.hideAll_get _ ?_ fun hm => ?_, v1, d1, c1⟩ os ag q
    · have nab : a ≠ b := fun y => by
        rw [← y, hne] at z
        cases z
      exact (Heap.get?_update_other _ _ nab).trans (k4 b u z)
    · rw [Obj.cls_mapFields, Obj.cls_mapFields, Obj.cls_mapFields]
      exact hz.1
    · rw [HandSPX.dict_mapFields, HandSPX.dict_mapFields, HandSPX.dict_mapFields]
      exact hz.2.1
    · rw [h42] at e
      obtain rfl := Data.fields.inj e
      show (((vs.setIfInBounds 3 (Value.ref p.1)).setIfInBounds 4 (Value.bool true)).setIfInBounds 2 (Value.ref p.1))[2]? = some (.ref p.1)
      rw [Array.getElem?_setIfInBounds, if_pos rfl, if_pos (by simp; omega)]
    · rcases List.mem_cons.mp hb with rfl | hb
      · exact na
      · rw [List.mem_singleton.mp hb]
        exact P0.2.1
    · exact (Heap.get?_update_other _ _ (Ne.symm nap)).trans (k4 _ _ P1)
    · rcases List.mem_cons.mp hm with z | hm
      · exact nap z
      · rcases List.mem_cons.mp (J.stkSub _ hm) with z | z
        · exact P0.2.2.1 z
        · exact P0.2.2.2.1 z
/-- where nothing is handled: the context is None -/
theorem pmkR {X : Cx} {C : Addr} {x : Str} {p pos : Pos} {e : Expr} {ta : TE} {bmB : List Value} {B newId initId : String} (F : ExcBaseFacts B newId initId bmB) (q : PySem.W.excIn X.K C bmB newId = true) (gC : X.mg x = some (.ref C)) (kC : PySem.W.keepIn X.K (.ref C) = true) (r : Raises X (.ref C)) (hg : Gl X x)
    (he : PE X e ta) (hs : starEach [e] X.env = (false, eval e X.env) :: starEach [] X.env := by rfl) (hdb : (x == ("__debug__" : Str)) = false := by decide) :
    PMkD RK X (.Call (.Name x p) [e] [] pos) (fun σ H Q => ta σ H fun _ H1 => Q (.ref C) none H1) := by
  intro pins s σ H Q I h
  refine wpAny_mono (pmk5 F q gC kC r hg he hs hdb pins s σ H Q I h) (fun u s1 hu => ?_) fun _ _ z => z
  obtain ⟨⟨a, oe, vs, sI, H', cls, d, rfl, J, k, hne, ha, hz, hd, h1, na, os, ag, r, q⟩, _⟩ := hu
  refine ⟨none, a, oe, vs, sI, H', cls, d, ⟨rfl, fun b hb => ?_, q⟩, J, k, hne, ha, ⟨⟨hz.1, hz.2.1⟩, hz.2.2⟩, hd, h1, trivial, os, ag, r⟩
  rw [List.mem_singleton.mp hb]
  exact na
end GE

set_option maxRecDepth 100000
set_option maxHeartbeats 2000000
/-! while an exception is handled whose context is another one (whose context is None), or None -/
namespace GE
open PySem PySem.Spec PyProof.Rows L2 HotX
def Chain (p : Addr × Obj) (rs : List (Addr × Obj)) : Prop := ∃ vs : Array Value, p.2.data = .fields vs ∧ (vs[2]? = some .none ∨ ∃ r ∈ rs, vs[2]? = some (.ref r.1) ∧ ∃ ws : Array Value, r.2.data = .fields ws ∧ ws[2]? = some .none)
def HotL (A : Around) (p : Addr × Obj) (rs : List (Addr × Obj)) (h : Heap) : Prop := A.handled = some (.ref p.1) ∧ Chain p rs ∧ ∀ q ∈ p :: rs, h.get? q.1 = some q.2
theorem HotL.at {A : Around} {p : Addr × Obj} {rs : List (Addr × Obj)} {h h' : Heap} (x : HotL A p rs h) (k : ∀ q ∈ p :: rs, h.get? q.1 = some q.2 → h'.get? q.1 = some q.2) : HotL A p rs h' := ⟨x.1, x.2.1, fun q hq => k q hq (x.2.2 q hq)⟩
section
variable {prog : Program} {w : World} {A : Around} {E : Value → Shared → Prop} {s : Shared} {p : Addr × Obj} {rs : List (Addr × Obj)} {a : Addr}
theorem unchainedL {Q : Value → Shared → Prop} (hot : HotL A p rs s.heap) (na : ∀ q ∈ p :: rs, q.1 ≠ a) (q : Q .none s) :
    wpAny (model prog w) A (holding [Value.ref a] (runValue (.builtin "proto.unchain" ⟨[.ref a, .ref p.1, .ref p.1, .bool false], []⟩))) Q E s := by
  obtain ⟨hh, ⟨vs, d1, c1⟩, hk⟩ := hot
  have h1 := hk p List.mem_cons_self
  rcases c1 with c1 | ⟨r, hr, c1, ws, d2, c2⟩
  · exact HotX.unchained h1 d1 c1 q
  · have h2 := hk r (List.mem_cons_of_mem _ hr)
    refine wpAny_holding (wpAny_runValue (codeAny_builtin HotX.entry_unchain ?_))
    show wpAny _ _ (field (.ref p.1) 2 >>= _) _ _ s
    refine wpAny_bind (wpAny_field h1 d1 c1 ?_)
    rw [if_neg (show ¬ ((Value.ref r.1 == Value.none) = true) from by simp)]
    have e1 : (Value.ref r.1 == Value.ref a) = false := by simpa using na r (List.mem_cons_of_mem _ hr)
    refine wpAny_bind (wpAny_pure ?_)
    show wpAny _ _ (if (Value.ref r.1 == Value.ref a) = true then _ else _) _ _ _
    rw [if_neg (by rw [e1]; simp)]
    refine wpAny_bind (wpAny_pure ?_)
    show wpAny _ _ (if (Value.ref r.1 == Value.ref p.1) = true then _ else _) _ _ _
    by_cases e2 : (Value.ref r.1 == Value.ref p.1) = true
    · rw [if_pos e2]
      exact wpAny_bind (wpAny_rule (wpAny_pure q))
    · rw [if_neg e2]
      refine wpAny_bind (wpAny_pure ?_)
      refine wpAny_bind (wpAny_pure ?_)
      refine wpAny_pure ⟨Code.quiet_builtin _ (by decide +kernel), codeAny_builtin HotX.entry_unchain ?_⟩
      show wpAny _ _ (field (.ref r.1) 2 >>= _) _ _ s
      refine wpAny_bind (wpAny_field h2 d2 c2 ?_)
      rw [if_pos (show (Value.none == Value.none) = true from rfl)]
      first
      | exact wpAny_bind (wpAny_pure (wpAny_pure q))
      | exact wpAny_pure q
theorem raiseNewL {α : Type} {oe : Obj} {vs : Array Value} {Q : α → Shared → Prop} (hot : HotL A p rs s.heap) (na : ∀ q ∈ p :: rs, q.1 ≠ a) (ha : s.heap.get? a = some oe) (da : oe.data = .fields vs) (hi : 2 < vs.size)
    (hE : E (.ref a) { s with heap := s.heap.update a (Obj.mapFields (·.setIfInBounds 2 (.ref p.1))) }) : wpAny (model prog w) A (raiseNew (.ref a) : Sem α) Q E s := by
  have hh := hot.1
  unfold raiseNew
  refine wpAny_bind (wpAny_handled ?_)
  rw [hh]
  have hb : (Value.ref p.1 != Value.ref a) = true := ref_bne (na p List.mem_cons_self)
  first
  | (show wpAny _ _ (if (Value.ref p.1 != Value.ref a) = true then _ else _) _ _ _
     rw [if_pos hb]
     first
     | exact wpAny_bind (unchainedL hot na (wpAny_bind (chained ha da hi (wpAny_throw hE))))
     | exact wpAny_bind (wpAny_bind (unchainedL hot na (chained ha da hi (wpAny_throw hE)))))
  | (refine wpAny_bind ?_
     show wpAny _ _ (if (Value.ref p.1 != Value.ref a) = true then _ else _) _ _ _
     rw [if_pos hb]
     exact wpAny_bind (unchainedL hot na (chained ha da hi (wpAny_throw hE))))
/-- the end of a list's walk -/
theorem next_endL {it l : Addr} {i : Nat} {items : Array Value} {Q : Option Value → Shared → Prop} (hot : HotL A p rs s.heap) (ne : ∀ q ∈ p :: rs, q.1 ≠ it)
    (hit : s.heap.IsListIter it l i) (hl : s.heap.IsList l items) (hx : items[i]? = none) (hQ : ∀ h', Heap.ExtBut it s.heap h' → Q none { s with heap := h' }) : wpAny (model prog w) A (pyNext (.ref it)) Q E s := by
  obtain ⟨o, ho, hc, hd⟩ := id hit
  obtain ⟨ol, hol, _, nl, hdl⟩ := hl
  unfold pyNext
  refine wpAny_bind (wpAny_attempt (wpAny_callSpecial?_slot (name := Str.ofString "__next__") hit.typeIs slot_listiter_next
    (wpAny_call_entry slot_listiter_next hit.typeIs entry_listiter_next ?_ (args_listiter_next _))))
  show wpAny _ _ (field (.ref it) 0 >>= _) _ _ s
  refine wpAny_bind (wpAny_field ho hd (x := .ref l) rfl ?_)
  show wpAny _ _ (if (Value.ref l == Value.none) = true then _ else _) _ _ s
  rw [if_neg (show ¬ ((Value.ref l == Value.none) = true) from Bool.false_ne_true)]
  show wpAny _ _ (field (.ref it) 1 >>= _) _ _ s
  refine wpAny_bind (wpAny_field ho hd (x := .int i 0) rfl ?_)
  show wpAny _ _ (seqItems? (.ref l) >>= _) _ _ s
  refine wpAny_bind (wpAny_seqItems hol hdl ?_)
  simp only [Int.toNat_natCast, hx]
  refine wpAny_bind (wpAny_rule (wpAny_bind (wpAny_setField ho hd (by simp) ?_)))
  show wpAny _ _ (newExc (.type "StopIteration") [] >>= _) _ _ _
  refine wpAny_bind ?_
  simp only [newExc, newTuple]
  refine wpAny_bind (wpAny_newObj_type ?_ (by size_fits))
  refine wpAny_bind (m := firstArgMember _ _) (wpAny_of_eq (a := Value.none) (by first | rfl | (simp only [firstArgMember]; rfl)) ?_)
  refine wpAny_newObj_type ?_ (by size_fits)
  have hot1 : HotL A p rs (s.heap.update it (Obj.mapFields fun xs => xs.setIfInBounds 0 Value.none)) := hot.at fun q hq e => (Heap.get?_update_other s.heap _ (Ne.symm (ne q hq))).trans e
  have hot2 := hot1.at fun q hq e => Heap.get?_push_of_some { cls := .type "tuple", data := .seq #[] } e
  refine raiseNewL (p := p) (rs := rs) (HotL.at hot1 fun q hq e => Heap.get?_push_of_some _ (Heap.get?_push_of_some _ e)) (fun q hq => Nat.ne_of_lt (Heap.lt_size (Heap.get?_push_of_some _ (hot1.2.2 q hq)))) (Heap.get?_push_size _ rfl) rfl (by first | (simp; done) | (simp; omega) | (simp only [Array.size_append]; simp; omega)) ?_
  refine wpAny_bind (wpAny_isInstance (T := "StopIteration") (b := true) ⟨_, Heap.get?_update_self _ (Heap.get?_push_size _ rfl) rfl, rfl⟩ isSubtype_stop ?_)
  refine wpAny_pure (hQ _ fun b o hb e => ?_)
  have e1 := (Heap.get?_update_other s.heap (Obj.mapFields fun xs => xs.setIfInBounds 0 Value.none) (Ne.symm hb)).trans e
  rw [Heap.get?_update_other _ _ (Nat.ne_of_gt (Heap.lt_size (Heap.get?_push_of_some _ e1)))]
  exact Heap.get?_push_of_some _ (Heap.get?_push_of_some _ e1)
end
theorem walksL {prog : Program} {w : World} {A : Around} {I ax : Addr} {p : Addr × Obj} {rs : List (Addr × Obj)} (hh : A.handled = some (.ref p.1)) (hc : Chain p rs) (hne : ax ≠ I) (hx : ∀ q ∈ p :: rs, q.1 ≠ I) (items : Array Value) :
    Walks prog w A I (I :: ax :: (p :: rs).map (·.1)) [I] items.size (fun i v => items[i]? = some v) (fun i h => h.IsListIter I ax i ∧ h.IsList ax items ∧ ∀ q ∈ p :: rs, h.get? q.1 = some q.2) where
  sub := fun b hb => by simp at hb; simp [hb]
  frame := fun _ _ _ st hk => ⟨st.1.at fun o e => hk I (by simp) o e, st.2.1.at fun o e => hk ax (by simp) o e, fun q hq => hk q.1 (List.mem_cons_of_mem _ (List.mem_cons_of_mem _ (List.mem_map_of_mem hq))) q.2 (st.2.2 q hq)⟩
  item := fun i s Q E hi st hQ => by
    refine wpAny_pyNext_list_item st.1 st.2.1 (x := items[i]) (by simp [hi]) fun h' hit' hs' => ?_
    exact hQ _ h' s.toks (by simp [hi]) ⟨hit', st.2.1.extBut hs'.extBut hne, fun q hq => hs'.extBut q.1 q.2 (hx q hq) (st.2.2 q hq)⟩ fun b o hb e => hs'.extBut b o (fun h => hb (by simp [h])) e
  done := fun s Q E st hQ => next_endL ⟨hh, hc, st.2.2⟩ hx st.1 st.2.1 (by simp) fun h' he' => hQ h' s.toks fun b o hb e => he' b o (fun h => hb (by simp [h])) e
  self := fun _ _ _ _ st hQ => wpAny_pyIter_listiter st.1 hQ
section
variable {prog : Program} {w : World} {A : Around} {E : Value → Shared → Prop} {s : Shared} {p : Addr × Obj} {rs : List (Addr × Obj)} {l : Addr} {its : List Value} {ns : List Int} {Q : Value → Shared → Prop}
theorem sumL {xs : Array (Int × Tok)} (hot : HotL A p rs s.heap) (hl : s.heap.IsList l (intItems xs))
    (h : ∀ h' tk t', (∀ b o, s.heap.get? b = some o → h'.get? b = some o) → Q (.int (preSum (numAt xs) xs.size) t') { s with heap := h', toks := tk }) : wpAny (model prog w) A (call (.builtin "sum") [.ref l]) Q E s := by
  have lx : ∀ q ∈ p :: rs, q.1 < s.heap.objs.size := fun q hq => Heap.lt_size (hot.2.2 q hq)
  refine call_sum_walkG (iter_intList hl fun s₂ e st hfp hlI => ?_)
  subst e
  refine ⟨_, _, _, _, _, _, numAt xs, rfl, walksL (A := A.in1) hot.1 hot.2.1 hlI (fun q hq => Nat.ne_of_lt (lx q hq)) (intItems xs), ⟨st.1, st.2, fun q hq => Heap.get?_push_of_some _ (hot.2.2 q hq)⟩, fun b hb => ?_, (fun _ _ => intItems_at), fun h' tk t' hk => ?_⟩
  · rcases List.mem_cons.mp hb with rfl | hb
    · exact hfp _ (by simp)
    · rcases List.mem_cons.mp hb with rfl | hb
      · exact hfp _ (by simp)
      · obtain ⟨q, hq, rfl⟩ := List.mem_map.mp hb
        rw [Heap.size_push]
        exact Nat.lt_succ_of_lt (lx q hq)
  · have := h h' tk t' (old_kept hk)
    simpa [intItems] using this
theorem sum_rawL (hot : HotL A p rs s.heap) (hl : s.heap.IsList l its.toArray) (hi : IntsAre its ns)
    (h : ∀ h' tk t', (∀ b o, s.heap.get? b = some o → h'.get? b = some o) → Q (.int ns.sum t') { s with heap := h', toks := tk }) : wpAny (model prog w) A (call (.builtin "sum") [.ref l]) Q E s := by
  obtain ⟨xs, e⟩ := hi.allInts.items
  have hn : numsOf (intItems xs).toList = ns := by rw [← e]; exact hi.numsOf
  rw [nums_intItems] at hn
  rw [e] at hl
  refine sumL hot hl fun h' tk t' hk => ?_
  have := h h' tk t' hk
  rw [preSum_eq, List.take_of_length_le (by simp), hn]
  exact this
end
end GE

set_option maxRecDepth 100000
set_option maxHeartbeats 2000000
/-! a def that is called within an except suite, as R's Cal and okF -/
namespace Rr
open PySem PySem.Spec PyProof.Rows L2 L2H
section
variable {P : Program} {w : World} {K : PySem.W.Frag} {mg : Str → Option Value} {base : Heap}
variable (P w K mg base) in
def CalP (k : Nat) (x : Str) (sp : SpP) : Prop := ∃ (f : Addr) (fd : FuncData) (ps : List Str), FnP P w K mg base (L2N.CX P w) k f fd ps sp ∧ mg x = some (.ref f) ∧ PySem.W.keepIn K (.ref f) = true ∧ Binds K fd ps []
variable {x qual : Str} {params : Arguments} {body : List Stmt} {scope : Scope} {dvs : List V} {kws : List (Str × V)} {at_ : Str × Option Str} {fd : FuncData}
theorem okP {N ps : List Str} {k : Nat} {sp : SpP} (F : FunD K x qual params body scope dvs kws (He.fAd K at_) fd) (S : FnScope N ps scope) (len : ∀ p vs H Q E, sp p vs H Q E → vs.length = ps.length)
    (hbody : ∀ (A : Around) (outer : List Env) (s : Shared) (H : Hp) (vs : List V) (Q : VK) (E : XK) (p : Addr × Obj), Hot1 A p → RoomH k (A.deeper (envOfC qual scope s.heap.objs.size (He.fAd K at_) (.ref (He.codeOf K at_)))) → sp p vs H Q E →
      ∃ t, PSs (cxH (L2N.CX P w) P w K mg base N qual scope (He.fAd K at_) (.ref (He.codeOf K at_)) A outer s H E p) body t ∧ t { nx := fun _ H' => Q .non H', rt := Q } (L2.start N vs) H) : FnP P w K mg base (L2N.CX P w) (k + 1) (He.fAd K at_) fd ps sp := by
  obtain ⟨oc, od, dV, kV, doc, pm, an, cdv, ct, osl, rfl, lk, hcd, _, _⟩ := F.ex
  obtain ⟨c, rfl⟩ := He.codeIn_ref hcd
  obtain rfl := He.codeOf_eq lk rfl
  exact fn_ofP lk hcd S len hbody
end
section
variable {X : Cx} {k j : Nat} {x : Str} {sp : SpP} {E : L2.St → XK} {q pos : Pos} {e : Expr} {es : List Expr} {t : TA}
theorem pfP {p : Addr × Obj} (c : CalP X.prog X.w X.K X.mg X.base k x sp) (hr : RoomH j X.A) (hk : k ≤ j) (hot : Hot1 X.A p) (hp : p ∈ X.pn) (hg : Gl X x) (hx : ∀ σ, PassesAt (L2N.CX X.prog X.w) X σ (E σ)) (ha : PA X (e :: es) t)
    (hdb : (x == ("__debug__" : Str)) = false := by decide) (he : starEach (e :: es) X.env = (false, eval e X.env) :: starEach es X.env := by rfl) (hpl : (backTo pos (starEach es X.env)).any (·.1) = false := by rfl) :
    PE X (.Call (.Name x q) (e :: es) [] pos) (tCallS (sp p) E t) := by
  obtain ⟨f, fd, ps, F, hm, kp, b⟩ := c
  exact pe_callP F (hr.mono hk) hot hp hg hm kp b hx ha hdb he hpl
end
end Rr

set_option maxRecDepth 100000
set_option maxHeartbeats 2000000
/-! within an except suite: a def called that is handed what was caught -/
namespace Rr
open PySem PySem.Spec PyProof.Rows L2 L2H
section
variable {X : Cx} {k j : Nat} {x : Str} {sp : SpP} {q pos : Pos} {e : Expr} {es : List Expr} {t : TA}
/-- the reading says nothing of the object but its class -/
def tCallA (sp : SpP) (a : Addr) (cls : Value) (d : Option Addr) (t : TA) : TE := fun σ H Q => t σ H fun vs H1 => ∀ oe : Obj, Zc cls d oe → (∃ vs, oe.data = .fields vs) → sp (a, oe) vs H1 Q E0
theorem pfS {a : Addr} {oe : Obj} {cls : Value} {d : Option Addr} {pn : List (Addr × Obj)} (c : CalP X.prog X.w X.K X.mg X.base k x sp) (hr : Room j X.A) (hk : k ≤ j) (hz : L2N.Zn cls d oe) (hf : ∃ vs, oe.data = .fields vs) (hg : Gl X x)
    (ha : PA (X.suite a ((a, oe) :: pn)) (e :: es) t)
    (hdb : (x == ("__debug__" : Str)) = false := by decide) (he : starEach (e :: es) X.env = (false, eval e X.env) :: starEach es X.env := by rfl) (hpl : (backTo pos (starEach es X.env)).any (·.1) = false := by rfl) :
    PE (X.suite a ((a, oe) :: pn)) (.Call (.Name x q) (e :: es) [] pos) (tCallA sp a cls d t) := by
  obtain ⟨vs, hd⟩ := id hf
  obtain ⟨f, fd, ps, F, hm, kp, b⟩ := c
  refine ⟨fun pins s σ H Q I h => ?_⟩
  exact wpAny_Call_Name_kw (ld_glob (X := X.suite a ((a, oe) :: pn)) I hg hm (PySem.W.callWith_K (h₀ := X.base) I.ok.mod.kin kp (thn (ha.run pos pins s σ H _ I h) fun us s1 ⟨vs1, H1, I1, r, q⟩ => ⟨I1.kIn, run_fnP (X := X.suite a ((a, oe) :: pn)) (p := (a, oe)) (E := fun _ => E0) F (RoomH.mono ⟨hr.dp, hr.un⟩ hk) ⟨rfl, vs, hd, hz.2.2 vs hd⟩ List.mem_cons_self b (p0 σ) I1 r (q oe hz.zc hf)⟩) he hpl) hdb)
end
end Rr

set_option maxRecDepth 100000
set_option maxHeartbeats 2000000
/-! a def that is called within an except suite: the handled exception may have a context -/
namespace GE
open PySem PySem.Spec PyProof.Rows L2
open L2H (SpP RoomH PinOk cxH inv_startH)
structure FnQ (P : Program) (w : World) (K : PySem.W.Frag) (mg : Str → Option Value) (base : Heap) (CX : CXT) (k : Nat) (f : Addr) (fd : FuncData) (ps : List Str) (sp : SpP) : Prop where
  len : ∀ p vs H Q E, sp p vs H Q E → vs.length = ps.length
  run : ∀ (A : Around) (outer : List Env) (s : Shared) (H : Hp) (args : Args) (us : List Value) (vs : List V) (Q : VK) (E : XK) (p : Addr × Obj) (rs : List (Addr × Obj)), RoomH k A → A.handled = some (.ref p.1) → Chain p rs → (∀ q ∈ p :: rs, PinOk outer H s q) → Env0 P w K mg base A outer s H → BindsTo s fd args (ps.zip us) → Vals vs us → sp p vs H Q E →
    codeAny (model P w) A (.call (.ref f) args) (CR CX outer P w H s Q E) s
def cxQ (CX : CXT) (P : Program) (w : World) (K : PySem.W.Frag) (mg : Str → Option Value) (base : Heap) (N : List Str) (qual : Str) (scope : Scope) (f : Addr) (cd : Value) (A : Around) (outer : List Env) (s : Shared) (H : Hp) (E : XK) (p : Addr × Obj) (rs : List (Addr × Obj)) : Cx :=
  { cxOf CX P w K mg base N qual scope f cd A outer s H E with calm := false, pn := p :: rs }
theorem inv_startQ {CX : CXT} {P : Program} {w : World} {K : PySem.W.Frag} {mg : Str → Option Value} {base : Heap} {N ps : List Str} {qual : Str} {scope : Scope} {f : Addr} {cd : Value} {A : Around} {outer : List Env} {s s1 : Shared} {H : Hp} {E : XK} {us : List Value} {vs : List V}
    (S : FnScope N ps scope) {p : Addr × Obj} {rs : List (Addr × Obj)} (hpin : ∀ q ∈ p :: rs, PinOk outer H s q) (e0 : Env0 P w K mg base A outer s H) (hl : vs.length = ps.length) (r : Vals vs us)
    (x : InCallC s s.heap.objs.size (bindL (envOfC qual scope s.heap.objs.size f cd).kindOf (ps.zip us) fun _ => none) (cellsFrom (s.heap.objs.size + 1) scope.names []) (bindC (envOfC qual scope s.heap.objs.size f cd).kindOf (ps.zip us) fun _ => none) s1) :
    Inv (cxQ CX P w K mg base N qual scope f cd A outer s H E p rs) [] (L2.start N vs) H s1 := by
  have J : Inv (cxH CX P w K mg base N qual scope f cd A outer s H E p) [] (L2.start N vs) H s1 := inv_startH S (hpin p List.mem_cons_self) e0 hl r x
  obtain ⟨h1, tk, e1, hk⟩ := id x.done
  have J2 : Inv (cxH CX P w K mg base N qual scope f cd A outer s H E p) rs (L2.start N vs) H s1 := J.pins_of fun q hq => by
    have z := hpin q (List.mem_cons_of_mem _ hq)
    refine ⟨?_, z.free, Nat.ne_of_lt (Heap.lt_size z.get), z.nofs, z.nocell⟩
    rw [e1]
    exact hk q.1 q.2 z.get
  exact J2.toTry _
theorem fn_ofQ {CX : CXT} {P : Program} {w : World} {K : PySem.W.Frag} {mg : Str → Option Value} {base : Heap} {k : Nat} {f : Addr} {name qual : Str} {params : Arguments} {body : List Stmt} {scope : Scope} {dV kV doc pm cdv ct oc : Value} {an od : Option Addr}
    {osl : Array (Option Value)} {N ps : List Str} {sp : SpP} (lk : K.lookup f = some ⟨oc, od, .func (PySem.W.fnOf name qual params body scope dV kV doc pm an cdv ct), osl⟩) (hcd : PySem.W.codeIn K cdv qual = true) (S : FnScope N ps scope)
    (len : ∀ p vs H Q E, sp p vs H Q E → vs.length = ps.length)
    (hbody : ∀ (A : Around) (outer : List Env) (s : Shared) (H : Hp) (vs : List V) (Q : VK) (E : XK) (p : Addr × Obj) (rs : List (Addr × Obj)), A.handled = some (.ref p.1) → Chain p rs → RoomH k (A.deeper (envOfC qual scope s.heap.objs.size f cdv)) → sp p vs H Q E →
      ∃ t, PSs (cxQ CX P w K mg base N qual scope f cdv A outer s H E p rs) body t ∧ t { nx := fun _ H' => Q .non H', rt := Q } (L2.start N vs) H) :
    FnQ P w K mg base CX (k + 1) f (PySem.W.fnOf name qual params body scope dV kV doc pm an cdv ct) ps sp where
  len := len
  run := by
    intro A outer s H args us vs Q E p rs hr hot hc hpin e0 hb r hsp
    have KX : K.In s.heap := e0.mod.kin.keeps fun b o e => (e0.bs b o e).1
    have lim : s.heap.NoLimit := e0.mod.nolimit.keeps fun b o e => (e0.bs b o e).1
    refine codeAny_call_function hr.depth (KX _ _ lk) rfl S.co S.gen rfl (PySem.W.codeRec_of KX hcd) (hb _ _ _ _ (wpAny_newFunctionEnv_cells S.kind (fun y hy => ?_) fun env he s1 x => ?_))
    · rcases S.par y.1 (List.of_mem_zip (show (y.1, y.2) ∈ ps.zip us from hy)).1 with q | q
      · exact .inl q
      · exact .inr ⟨q, PySem.W.cellsFrom_some _ _ _ (.inl q)⟩
    subst he
    obtain ⟨t, ht, hq⟩ := hbody A outer s H vs Q E p rs hot hc (hr.deeper _) hsp
    refine ⟨lim.keeps x.toInCall.keep, codeAny_func (wpAny_mono (ht.run [] s1 (L2.start N vs) H _ (inv_startQ S hpin e0 (len _ _ _ _ _ hsp) r x) hq) (fun fl s' hs => ?_) fun _ _ z => z)⟩
    cases fl with
    | ret u =>
      obtain ⟨v, σ', H', J, rv, q⟩ := hs
      exact ⟨v, H', J.os, J.bare, J.base, J.hok, rv, q⟩
    | next =>
      obtain ⟨σ', H', J, q⟩ := hs
      exact ⟨V.non, H', J.os, J.bare, J.base, J.hok, rfl, q⟩
    | brk => exact False.elim hs.choose_spec.choose_spec.2
    | cont => exact False.elim hs.choose_spec.choose_spec.2
section
variable {X : Cx} {CX : CXT} {k : Nat} {f : Addr} {fd : FuncData} {ps : List Str} {sp : SpP} {E : L2.St → XK} {x : Str} {q pos : Pos} {e : Expr} {es : List Expr} {t : TA}
theorem run_fnQ {pins : List (Addr × Obj)} {σ : L2.St} {H : Hp} {s : Shared} {Q : VK} {us : List Value} {vs : List V} {p : Addr × Obj} {rs : List (Addr × Obj)} (F : FnQ X.prog X.w X.K X.mg X.base CX k f fd ps sp) (hr : RoomH k X.A) (hot : X.A.handled = some (.ref p.1)) (hc : Chain p rs) (hp : ∀ q ∈ p :: rs, q ∈ X.pn) (hb : Binds X.K fd ps []) (hx : PassesAt CX X σ (E σ))
    (I : Inv X pins σ H s) (r : Vals vs us) (h : sp p vs H Q (E σ)) : wpAny (model X.prog X.w) X.A (call (.ref f) us) (EP X pins σ Q) X.xe s := by
  have b := hb s us I.kIn (by rw [List.append_nil, ← r.length]; exact F.len _ _ _ _ _ h)
  rw [List.append_nil] at b
  have pin : ∀ q ∈ p :: rs, PinOk X.stack H s q := fun q hq => by
    obtain ⟨g, fr, nl, nf, nc⟩ := I.pin q (List.mem_append_left _ (hp q hq))
    exact ⟨g, fr, fun hm => (List.mem_cons.mp (I.stkSub q.1 hm)).elim nl nf, nc⟩
  refine wpAny_call (codeAny_mono (F.run X.A X.stack s H ⟨us, []⟩ us vs Q (E σ) p rs hr hot hc pin I.env0 b r h) fun r s' hq => ?_)
  cases r with
  | error e => exact hx pins H s e s' I hq
  | ok fl =>
    cases fl with
    | ret u => exact I.after hq
    | next => exact False.elim hq
    | brk => exact False.elim hq
    | cont => exact False.elim hq
theorem pe_callQ {p : Addr × Obj} {rs : List (Addr × Obj)} (F : FnQ X.prog X.w X.K X.mg X.base CX k f fd ps sp) (hr : RoomH k X.A) (hot : X.A.handled = some (.ref p.1)) (hc : Chain p rs) (hp : ∀ q ∈ p :: rs, q ∈ X.pn) (hg : Gl X x) (hm : X.mg x = some (.ref f)) (hk : PySem.W.keepIn X.K (.ref f) = true) (hb : Binds X.K fd ps []) (hx : ∀ σ, PassesAt CX X σ (E σ))
    (ha : PA X (e :: es) t) (hdb : (x == ("__debug__" : Str)) = false := by decide) (he : starEach (e :: es) X.env = (false, eval e X.env) :: starEach es X.env := by rfl) (hpl : (backTo pos (starEach es X.env)).any (·.1) = false := by rfl) :
    PE X (.Call (.Name x q) (e :: es) [] pos) (tCallS (sp p) E t) where
  run := by
    intro pins s σ H Q I h
    exact wpAny_Call_Name_kw (ld_glob I hg hm (PySem.W.callWith_K (h₀ := X.base) I.ok.mod.kin hk (thn (ha.run pos pins s σ H _ I h) fun us s1 ⟨vs, H1, I1, r, q⟩ => ⟨I1.kIn, run_fnQ F hr hot hc hp hb (hx σ) I1 r q⟩) he hpl) hdb)
end
theorem hotL_of {X : Cx} {pins : List (Addr × Obj)} {σ : L2.St} {H : Hp} {s : Shared} {p : Addr × Obj} {rs : List (Addr × Obj)} (hot : X.A.handled = some (.ref p.1)) (hc : Chain p rs) (hp : ∀ q ∈ p :: rs, q ∈ X.pn) (I : Inv X pins σ H s) : HotL X.A p rs s.heap :=
  ⟨hot, hc, fun q hq => (I.pin q (List.mem_append_left _ (hp q hq))).1⟩
theorem call_sumQ {X : Cx} {p : Addr × Obj} {rs : List (Addr × Obj)} (hot : X.A.handled = some (.ref p.1)) (hc : Chain p rs) (hp : ∀ q ∈ p :: rs, q ∈ X.pn) : CallR X (.builtin "sum") (fun xs H Q => ∃ (a : Addr) (ns : List Int), xs = [.ref a] ∧ H a = some (.lst (ns.map V.int)) ∧ Q (.int ns.sum) H) := by
  rintro pins s σ H xs us Q I r ⟨a, ns, rfl, ha, q⟩
  match us, r with
  | [_], .cons rx .nil =>
    cases rx
    obtain ⟨its, rv, pl, hz⟩ := I.list (.inl (.inl ha))
    refine sum_rawL (hotL_of hot hc hp I) pl.isList (ns := ns) (Vals.ints rv) fun h' tk t' hk => ⟨.int ns.sum, H, I.kept (t' := tk) hk, ⟨t', rfl⟩, q⟩
theorem pe_intsQ {X : Cx} {p : Addr × Obj} {rs : List (Addr × Obj)} {iter : Expr} {te : TE} {x : Str} {p1 p2 p3 px pos : Pos} {scope : Scope} (hot : X.A.handled = some (.ref p.1)) (hc : Chain p rs) (hp : ∀ q ∈ p :: rs, q ∈ X.pn) (hi : PE X iter te) (hint : X.mg "int" = none)
    (hk : scope.kind = .function) (hnm : ∀ y ∈ scope.names, scope.names.lookup y.1 = some y.2) (hnf : ∀ y ∈ scope.names, y.2 ≠ .free) (hpc : ∀ h, pushCells h scope.names = h) (hx : scope.names.lookup x = some .local)
    (hg : scope.names.lookup ("int" : Str) = some NameKind.globalImplicit) (hdb : (x == ("__debug__" : Str)) = false := by decide) (hs : ∀ x, foldedSetIterable iter X.env x = pure x := by intro _; rfl) :
    PE X (.ListComp (.Call (.Name "int" p1) [.Name x p2] [] p3) [⟨.Name x px, iter, [], 0⟩] scope pos) (L2H.tInts te) where
  run := by
    intro pins s σ H Q I h
    rw [eval_ListComp]
    refine wpAny_comprehension_free (use := none) rfl hs (closure_ok fun y hy e => absurd e (hnf y hy)) hk (fun y hy e => by rw [hnm y hy, e]) (thn (hi.run pins s σ H _ I h) fun u s1 ⟨v, H1, I1, rv, a, bs, ev, ha, hl, q⟩ => ?_)
    subst ev
    cases rv
    obtain ⟨its, rv, pl, hz⟩ := I1.list (.inl (.inl ha))
    have L1 := pl.isList
    refine wpAny_pyIter_list L1 ?_
    refine wpAny_newObj_type (newEnv_comp ?_) (by show 0 ≤ sizeLine; decide)
    have g1 : ∀ q ∈ p :: rs, s1.heap.get? q.1 = some q.2 := fun q hq => (I1.pin q (List.mem_append_left _ (hp q hq))).1
    have la : a < s1.heap.objs.size := by obtain ⟨o, ho, _⟩ := L1; exact Heap.lt_size ho
    have lx : ∀ q ∈ p :: rs, q.1 < s1.heap.objs.size := fun q hq => Heap.lt_size (g1 q hq)
    rw [hpc]
    dsimp only
    generalize e1 : s1.heap.push { cls := .type "list_iterator", data := .fields #[.ref a, .int 0 0] } = h1
    have sz1 : h1.objs.size = s1.heap.objs.size + 1 := by rw [← e1]; exact Heap.size_push ..
    have gi : h1.get? s1.heap.objs.size = some { cls := .type "list_iterator", data := .fields #[.ref a, .int 0 0] } := by rw [← e1]; exact Heap.get?_push_size _ rfl
    have k1 : ∀ b o, s1.heap.get? b = some o → h1.get? b = some o := fun b o e => by rw [← e1]; exact Heap.get?_push_of_some _ e
    generalize e2 : h1.push { cls := .type "list", data := .seq ([] : List Value).toArray } = h2
    have sz2 : h2.objs.size = h1.objs.size + 1 := by rw [← e2]; exact Heap.size_push ..
    have gd : h2.get? h1.objs.size = some { cls := .type "list", data := .seq ([] : List Value).toArray } := by rw [← e2]; exact Heap.get?_push_size _ rfl
    have k2 : ∀ b o, h1.get? b = some o → h2.get? b = some o := fun b o e => by rw [← e2]; exact Heap.get?_push_of_some _ e
    generalize e3 : h2.push { cls := .type "dict", data := .dict #[] } = h3
    have gc : h3.get? h2.objs.size = some { cls := .type "dict", data := .dict #[] } := by rw [← e3]; exact Heap.get?_push_size _ rfl
    have k3 : ∀ b o, h2.get? b = some o → h3.get? b = some o := fun b o e => by rw [← e3]; exact Heap.get?_push_of_some _ e
    have k13 : ∀ b o, s1.heap.get? b = some o → h3.get? b = some o := fun b o e => k3 b o (k2 b o (k1 b o e))
    show codeAny _ _ (.compStart _ 0 (.ref s1.heap.objs.size) (.ref h1.objs.size) (compEnvC scope (cellsFrom (h2.objs.size + 1) scope.names (cloFrom X.env.cells scope.names [])) h2.objs.size X.env)) (compPost _ _ _ none _ _ h2.objs.size) { s1 with heap := h3 }
    generalize hce : compEnvC scope (cellsFrom (h2.objs.size + 1) scope.names (cloFrom X.env.cells scope.names [])) h2.objs.size X.env = cenv
    have hloc : cenv.locals = h2.objs.size := by rw [← hce]; rfl
    have hkd : cenv.scope.kind = .function := by rw [← hce]; exact hk
    have hkx : cenv.kindOf x = some .local := by rw [← hce]; exact lookup_relabel_local (env := X.env) hx
    have hki : cenv.kindOf ("int" : Str) = some .globalImplicit := by rw [← hce]; exact lookup_relS_keep (sc := X.env.scope) (by decide) hg
    have hgl : cenv.globals = X.env.globals := by rw [← hce]; rfl
    have hbl : cenv.builtins = X.env.builtins := by rw [← hce]; rfl
    have st0 : h3.IsListIter s1.heap.objs.size a 0 ∧ h3.IsList a its.toArray ∧ ∀ q ∈ p :: rs, h3.get? q.1 = some q.2 := ⟨⟨_, k3 _ _ (k2 _ _ gi), rfl, rfl⟩, L1.at fun o e => k13 _ o e, fun q hq => k13 _ _ (g1 q hq)⟩
    have W := walksL (prog := X.prog) (w := X.w) (A := X.A) hot hc (Nat.ne_of_lt la) (fun q hq => Nat.ne_of_lt (lx q hq)) its.toArray
    have aux : ∀ {b : Nat}, b < s1.heap.objs.size → b ≠ h2.objs.size ∧ b ≠ s1.heap.objs.size ∧ b ≠ h1.objs.size := fun {b} lb => by omega
    have n12 : h1.objs.size ≠ h2.objs.size := by omega
    have n01 : h1.objs.size ≠ s1.heap.objs.size := by omega
    have n02 : h2.objs.size ≠ s1.heap.objs.size := by omega
    have le1 : s1.heap.objs.size ≤ h1.objs.size := by omega
    refine codeAny_compStart_list ?loop (wpAny_pyIter_listiter st0.1 ?loop)
    have old : ∀ {h' : Heap}, (∀ b o, b ≠ cenv.locals → b ∉ [s1.heap.objs.size] → b ≠ h1.objs.size → h3.get? b = some o → h'.get? b = some o) → ∀ b o, s1.heap.get? b = some o → h'.get? b = some o := fun {h'} hk b o e => by
      have lb := Heap.lt_size e
      exact hk b o (by rw [hloc]; exact (aux lb).1) (fun z => (aux lb).2.1 (List.mem_singleton.mp z)) (aux lb).2.2 (k13 b o e)
    refine codeAny_compLoop_walk W (fun _ => true) (fun v y => ∃ (b : Bool) (t : Tok), v = .bool b ∧ y = .int (if b then 1 else 0) t) hkx (by rw [hkd]; rfl) (by rw [hloc]; exact n12) (fun z => ?_) (fun z => ?_) st0 ⟨_, k3 _ _ gd⟩ (m := fun _ => none) ?ns (fun i v s₂ m₂ hv hns hm hkp ht => ?_) (fun i v s₂ m₂ hv _ hns hm hkp ht => ?_) (fun h' tk m' ys vs hns hil hpl hln hpv hpr hkp => ?_) (by have := hz; rw [rv.length] at this; simpa using this)
    case ns =>
      rw [hloc]
      refine ⟨_, _, _, gc, rfl, ?_, fun name => rfl⟩
      simp [StrKeys]
    · rcases List.mem_cons.mp z with z | z
      · exact n01 z
      · rcases List.mem_cons.mp z with z | z
        · exact (aux la).2.2 z.symm
        · obtain ⟨q, hq, ez⟩ := List.mem_map.mp z
          exact (aux (lx q hq)).2.2 ez
    · rw [hloc] at z
      rcases List.mem_cons.mp z with z | z
      · exact n02 z
      · rcases List.mem_cons.mp z with z | z
        · exact (aux la).1 z.symm
        · obtain ⟨q, hq, ez⟩ := List.mem_map.mp z
          exact (aux (lx q hq)).1 ez
    · rw [List.forIn_nil]
      exact wpAny_pure ⟨rfl, _, _, rfl, fun _ _ e => e⟩
    · obtain ⟨b, _, rfl⟩ := L2H.bls_at rv (by simpa using hv)
      obtain ⟨mb, b1, b2⟩ := I1.mod.blt
      refine wpAny_Call_Name_kw (Calls.Name_function_global hkd hki (Calls.loadGlobal_builtin (by rw [hgl, I1.ok.glob]; exact (I1.mod.glob.keeps I1.bk).keeps (old hkp)) hint (by rw [hbl, I1.ok.blt]; exact (b1.keeps I1.bk).keeps (old hkp)) ((b2 _ (by decide)).trans boot_int) ?_))
      refine PyProof.Rows.callWith_type1 (Calls.spliced_cons (wpAny_Name (wpAny_loadName_local hkd hkx hns hm (Calls.spliced_nil (call_int_bool ⟨⟨b, _, rfl, rfl⟩, _, _, rfl, fun _ _ e => e⟩))) hdb)) rfl rfl
    · have hl2 := rv.length
      rw [List.length_map] at hl2
      refine ⟨m', hloc ▸ hns, fun h'' sb => ⟨.ref h1.objs.size, _, I1.laid (a := h1.objs.size) (o := .lst (bs.map fun b => V.int (if b then 1 else 0))) (t' := tk) (fun b o e => ?_) le1 ⟨?_, ys.toList, ?_⟩, rfl, q _ (I1.hok.fresh le1)⟩⟩
      · have lb := Heap.lt_size e
        exact (sb.2 b (aux lb).1).trans (old hkp b o e)
      · rw [List.length_map]
        exact hl
      · obtain ⟨n, en⟩ := hpl
        rw [show vs.filter (fun _ => true) = vs from List.filter_eq_self.mpr fun _ _ => rfl] at hpr
        refine ⟨n, L2H.ints_of hpr (hln.trans (by simpa using hl2.symm)) (fun j v hj => L2H.bls_at rv (by simpa using hpv j v hj)), ?_⟩
        rw [Array.toArray_toList]
        exact (sb.2 _ n12).trans en
end GE
namespace Rr
open PySem PySem.Spec PyProof.Rows L2 L2H GE
section
variable {P : Program} {w : World} {K : PySem.W.Frag} {mg : Str → Option Value} {base : Heap}
variable (P w K mg base) in
def CalQ (k : Nat) (x : Str) (sp : SpP) : Prop := ∃ (f : Addr) (fd : FuncData) (ps : List Str), FnQ P w K mg base (L2N.CX P w) k f fd ps sp ∧ mg x = some (.ref f) ∧ PySem.W.keepIn K (.ref f) = true ∧ Binds K fd ps []
variable {x qual : Str} {params : Arguments} {body : List Stmt} {scope : Scope} {dvs : List V} {kws : List (Str × V)} {at_ : Str × Option Str} {fd : FuncData}
theorem okQ {N ps : List Str} {k : Nat} {sp : SpP} (F : FunD K x qual params body scope dvs kws (He.fAd K at_) fd) (S : FnScope N ps scope) (len : ∀ p vs H Q E, sp p vs H Q E → vs.length = ps.length)
    (hbody : ∀ (A : Around) (outer : List Env) (s : Shared) (H : Hp) (vs : List V) (Q : VK) (E : XK) (p : Addr × Obj) (rs : List (Addr × Obj)), A.handled = some (.ref p.1) → Chain p rs → RoomH k (A.deeper (envOfC qual scope s.heap.objs.size (He.fAd K at_) (.ref (He.codeOf K at_)))) → sp p vs H Q E →
      ∃ t, PSs (cxQ (L2N.CX P w) P w K mg base N qual scope (He.fAd K at_) (.ref (He.codeOf K at_)) A outer s H E p rs) body t ∧ t { nx := fun _ H' => Q .non H', rt := Q } (L2.start N vs) H) : FnQ P w K mg base (L2N.CX P w) (k + 1) (He.fAd K at_) fd ps sp := by
  obtain ⟨oc, od, dV, kV, doc, pm, an, cdv, ct, osl, rfl, lk, hcd, _, _⟩ := F.ex
  obtain ⟨c, rfl⟩ := He.codeIn_ref hcd
  obtain rfl := He.codeOf_eq lk rfl
  exact fn_ofQ lk hcd S len hbody
end
end Rr

set_option maxRecDepth 100000
set_option maxHeartbeats 2000000
/-! try: .., except X as n: a suite that ends; what is caught may have a context -/
namespace GE
open PySem PySem.Spec PyProof.Rows L2
def wAsR (K : PySem.W.Frag) (c : Value) (i : Nat) (ts : Addr → Value → Option Addr → TS) (D : Ends) : WX := fun cls d σ H => PySem.W.exmOne K cls c = some true ∧ ∀ a, H a = none →
  ts a cls d { nx := fun σ' H' => D.nx (σ'.set i none) H', rt := D.rt, bk := fun σ' H' => D.bk (σ'.set i none) H', ct := fun σ' H' => D.ct (σ'.set i none) H' } (σ.set i (some (.ref a))) H
def rsOf : RK.ι → List (Addr × Obj)
  | none => []
  | some p => [p]
theorem rs_chain {j : RK.ι} {B : Heap} {c : Value} {d : Option Addr} {a : Addr} {oe : Obj} {vs : Array Value} (g : RK.G j B) (hz : RK.Z j c d oe) (hd : oe.data = .fields vs) : Chain (a, oe) (rsOf j) := by
  refine ⟨vs, hd, ?_⟩
  have h := hz.2 vs hd
  cases j with
  | none => exact .inl h
  | some p =>
    obtain ⟨_, ws, e1, e2⟩ := g
    exact .inr ⟨p, List.mem_singleton.mpr rfl, h, ws, e1, e2⟩
section
variable {X : Cx} {x n : Str} {c : Value} {i : Nat} {body suite : List Stmt} {b₀ : Stmt} {np pos pos' : Pos} {tb : WX → TS} {ts : Addr → Value → Option Addr → TS}
theorem ps_try_asR (hs : X.stack = X.env :: X.outer) (hf : X.env.frame = some X.env.locals) (hN : X.N.Nodup) (hi : X.N[i]? = some n) (hln : X.env.kindOf n = some .local) (hc : Names X x c)
    (hb : ∀ (W : WX) (pn : List (Addr × Obj)) (xe : Value → Shared → Prop), Takes RK (X.tr pn xe) W → PassesOwn (model X.prog X.w) X.A X.env xe → PSs (X.tr pn xe) body (tb W))
    (hsu : ∀ (a : Addr) (oe : Obj) (cls : Value) (d : Option Addr) (rs pn : List (Addr × Obj)), Zc cls d oe → (∃ vs, oe.data = .fields vs) → Chain (a, oe) rs → (∀ q ∈ (a, oe) :: rs, q ∈ pn) → PSs (X.suite a pn) (b₀ :: suite) (ts a cls d)) :
    PS X (.Try body [.ExceptHandler (some (.Name x np)) (some n) (b₀ :: suite) pos'] [] [] pos) (fun D σ H => tb (wAsR X.K c i ts D) D σ H) := by
  refine ⟨fun pins s σ H D I h => ?_⟩
  have ok := I.ok
  have fr : X.A.frames = some (X.env :: X.outer) := ok.frames.trans (congrArg some hs)
  have hloc : Loc X.env.scope n := .inl hln
  refine wpAny_Try_except ?_
  refine wpAny_mono ((hb (wAsR X.K c i ts D) (X.pn ++ pins) (fun e s₁ => wpAny (model X.prog X.w) X.A (noteFrame e X.env) (fun _ s₂ => wpAny (model X.prog X.w) X.A (setFlight e none) (fun _ s₃ =>
    wpAny (model X.prog X.w) X.A (handleBy e X.env [.ExceptHandler (some (.Name x np)) (some n) (b₀ :: suite) pos']) (SP X pins D) X.xe s₃) X.xe s₂) X.xe s₁) (fun u t air => ?_) PassesOwn.looking).run [] s σ H D (I.toTry _) h) (fun f s1 hsp => ?_) (fun e s1 he => he)
  · obtain ⟨j, a, B, sI, p1, σ1, H1, cls, d, ⟨rfl, g, na, hex, hts⟩, J0, nb, up, sky, os, ag⟩ := air
    have J : Inv X pins σ1 H1 sI := J0.ofTry ok
    have sky : Sky B (X.env :: X.outer) a (RK.Z j cls d) X.env.locals t.heap := by rw [← hs]; exact sky
    show wpAny (model X.prog X.w) X.A (noteFrame (.ref a) X.env) _ _ _
    refine L2N.Sky.land (RK.st j cls d) fr hf sky fun h3 fl3 up3 => ?_
    have nfr : ∀ {h : Heap}, HandSPX.FlyingZ B (X.env :: X.outer) a (RK.Z j cls d) h → ∀ {b : Addr} {o : Obj}, (B.get? b = some o ∨ b = a) → b ≠ X.env.locals ∧ b ∉ X.fs := fun {h} fl {b o} q => by
      have key : b ∉ frs (X.env :: X.outer) := fun m => by
        obtain ⟨e1, o1, e2, nf⟩ := fl.2.2.1.mem m
        rcases q with q | q
        · rw [e1] at q
          cases q
        · obtain ⟨oe, vs, he, _, hd⟩ := fl.there
          rw [q, he] at e2
          cases e2
          exact nf vs hd
      have e : frs (X.env :: X.outer) = X.env.locals :: frs X.outer := List.filterMap_cons_some hf
      rw [e] at key
      exact ⟨fun z => key (by rw [z]; exact List.mem_cons_self), fun m => key (List.mem_cons_of_mem _ m)⟩
    have at_ : ∀ {h : Heap} (fl : HandSPX.FlyingZ B (X.env :: X.outer) a (RK.Z j cls d) h) (u : t.heap.UpToSlots h), ∃ oe vs, h.get? a = some oe ∧ RK.Z j cls d oe ∧ oe.data = .fields vs ∧
        Inv (X.suite a ((a, oe) :: (X.pn ++ (rsOf j ++ pins)))) [] σ1 H1 { t with heap := h } := fun {h} fl u => by
      have K := J.landed (s' := { t with heap := h }) nb fl.1 (up.trans u) os ag
      obtain ⟨oe, vs, he, hz, hd⟩ := fl.there
      have K2 : Inv X (rsOf j ++ pins) σ1 H1 { t with heap := h } := K.pins_of fun q hq => by
        rcases List.mem_append.mp hq with hq | hq
        · cases j with
          | none => exact absurd hq List.not_mem_nil
          | some p =>
            obtain rfl : q = p := List.mem_singleton.mp hq
            obtain ⟨g1, ws, g2, _⟩ := g
            exact ⟨fl.1 _ _ g1, na _ (List.mem_cons_of_mem _ (List.mem_singleton.mpr rfl)), (nfr fl (.inl g1)).1, (nfr fl (.inl g1)).2, fun v z => by rw [g2] at z; cases z⟩
        · exact K.pin q (List.mem_append_right _ hq)
      exact ⟨oe, vs, he, hz, hd, K2.suite he hd (na a List.mem_cons_self) (nfr (o := oe) fl (.inr rfl)).1 (nfr (o := oe) fl (.inr rfl)).2⟩
    obtain ⟨oe3, vs3, he3, hz3, hd3, S3⟩ := at_ fl3 up3
    refine wpAny_handleBy_cons (codeAny_handlers_test ?_) (by intro q; cases q)
    have LT : PySem.W.Looks (model X.prog X.w) h3 (typeOf (.ref a)) cls := fun A Q E s k q => wpAny_typeOf_ref (k _ _ he3) (by rw [(RK.zc j cls d oe3 hz3).1]; exact q)
    have LM := PySem.W.exm_one (M := model X.prog X.w) S3.kIn LT hex
    have test : ∀ {Q : Value → Shared → Prop} {E : Value → Shared → Prop}, Q c { t with heap := h3 } → wpAny (model X.prog X.w) (X.A.mark (some (.ref a))) (eval (.Name x np) X.env) Q E { t with heap := h3 } := fun {Q E} q => by
      obtain ⟨hg, hdbg, hm | ⟨hm, hv, hnn⟩⟩ := hc
      · exact ld_glob S3 hg hm q hdbg
      · exact ld_blt S3 hg hm hv q hnn hdbg
    refine test (LM.here ?_)
    refine codeAny_handlers_suite_as ?_
    refine HandSPX.lands_againZ fl3 fun h4 fl4 up4 => ?_
    obtain ⟨oe4, vs4, he4, hz4, hd4, S4⟩ := at_ fl4 (up3.trans up4)
    refine store_ok (X := X.suite a ((a, oe4) :: (X.pn ++ (rsOf j ++ pins)))) (v := .ref a) S4 hN hi hloc rfl (fun s5 S5 => ?_) (.inr hln)
    have inn : ∀ q ∈ (a, oe4) :: rsOf j, q ∈ (a, oe4) :: (X.pn ++ (rsOf j ++ pins)) := fun q hq => by
      rcases List.mem_cons.mp hq with rfl | hq
      · exact List.mem_cons_self
      · exact List.mem_cons_of_mem _ (List.mem_append_right _ (List.mem_append_left _ hq))
    refine wpAny_mono ((hsu a oe4 cls d (rsOf j) _ (RK.zc j cls d oe4 hz4) ⟨_, hd4⟩ (rs_chain g hz4 hd4) inn).run [] s5 _ H1 _ S5 (hts a (na a List.mem_cons_self))) (fun f s6 hsp => ?_) (fun _ _ z => False.elim z)
    have end_ : ∀ {σ6 : L2.St} {H6 : Hp} {Q : Shared → Prop}, Inv (X.suite a ((a, oe4) :: (X.pn ++ (rsOf j ++ pins)))) [] σ6 H6 s6 → (∀ s7, Inv X (rsOf j ++ pins) (σ6.set i none) H6 s7 → Q s7) →
        wpAny (model X.prog X.w) X.A (do bindName X.env n .none; unbindBehindTheSuite X.env n pos') (fun _ s7 => Q s7) X.xe s6 := fun {σ6 H6 Q} S6 hq => gone_ok (S6.unsuite ok) hN hi hln hq
    have drop : ∀ {σ7 : L2.St} {H7 : Hp} {s7 : Shared}, Inv X (rsOf j ++ pins) σ7 H7 s7 → Inv X pins σ7 H7 s7 := fun {σ7 H7 s7} K => K.pins_of fun q hq => K.pin q (List.mem_append_right _ (List.mem_append_right _ hq))
    cases f with
    | next =>
      obtain ⟨σ6, H6, S6, q6⟩ := hsp
      exact end_ S6 fun s7 J7 => ⟨_, _, drop J7, q6⟩
    | brk =>
      obtain ⟨σ6, H6, S6, q6⟩ := hsp
      exact end_ S6 fun s7 J7 => ⟨_, _, drop J7, q6⟩
    | cont =>
      obtain ⟨σ6, H6, S6, q6⟩ := hsp
      exact end_ S6 fun s7 J7 => ⟨_, _, drop J7, q6⟩
    | ret u =>
      obtain ⟨v6, σ6, H6, S6, r6, q6⟩ := hsp
      exact end_ S6 fun s7 J7 => ⟨_, _, _, drop J7, r6, q6⟩
  · cases f with
    | next =>
      obtain ⟨σ', H', J', q⟩ := hsp
      exact wpAny_execs_nil ⟨σ', H', J'.ofTry ok, q⟩
    | brk =>
      obtain ⟨σ', H', J', q⟩ := hsp
      exact ⟨σ', H', J'.ofTry ok, q⟩
    | cont =>
      obtain ⟨σ', H', J', q⟩ := hsp
      exact ⟨σ', H', J'.ofTry ok, q⟩
    | ret u =>
      obtain ⟨v, σ', H', J', r, q⟩ := hsp
      exact ⟨v, σ', H', J'.ofTry ok, r, q⟩
end
end GE
namespace Rr
open PySem PySem.Spec PyProof.Rows L2 L2H GE
section
variable {X : Cx} {k j : Nat} {x : Str} {sp : SpP} {q pos : Pos} {e : Expr} {es : List Expr} {t : TA}
/-- within an except suite: a def called that is handed what was caught -/
theorem pfQ {a : Addr} {oe : Obj} {cls : Value} {d : Option Addr} {rs pn : List (Addr × Obj)} (c : CalQ X.prog X.w X.K X.mg X.base k x sp) (hr : Room j X.A) (hk : k ≤ j) (hz : Zc cls d oe) (hf : ∃ vs, oe.data = .fields vs) (hc : Chain (a, oe) rs) (hp : ∀ q ∈ (a, oe) :: rs, q ∈ pn) (hg : Gl X x)
    (ha : PA (X.suite a pn) (e :: es) t)
    (hdb : (x == ("__debug__" : Str)) = false := by decide) (he : starEach (e :: es) X.env = (false, eval e X.env) :: starEach es X.env := by rfl) (hpl : (backTo pos (starEach es X.env)).any (·.1) = false := by rfl) :
    PE (X.suite a pn) (.Call (.Name x q) (e :: es) [] pos) (tCallA sp a cls d t) := by
  obtain ⟨f, fd, ps, F, hm, kp, b⟩ := c
  refine ⟨fun pins s σ H Q I h => ?_⟩
  exact wpAny_Call_Name_kw (ld_glob (X := X.suite a pn) I hg hm (PySem.W.callWith_K (h₀ := X.base) I.ok.mod.kin kp (thn (ha.run pos pins s σ H _ I h) fun us s1 ⟨vs1, H1, I1, r, q⟩ => ⟨I1.kIn, run_fnQ (X := X.suite a pn) (p := (a, oe)) (E := fun _ => E0) F (RoomH.mono ⟨hr.dp, hr.un⟩ hk) rfl hc hp b (p0 σ) I1 r (q oe hz hf)⟩) he hpl) hdb)
end
end Rr

set_option maxRecDepth 100000
set_option maxHeartbeats 4000000
/-! R's calls, for defs whose exceptions tell their text -/
namespace Rr
open PySem PySem.Spec PyProof.Rows L2
/-- str of the nine errors is that of all exceptions -/
def strOk (K : PySem.W.Frag) : Bool := errs9.all fun d => He.eqO (PySem.W.findIn K (.ref (He.ga K d)) "__str__") (some (some (.builtin "BaseException.__str__")))
theorem str9 {K : PySem.W.Frag} (h : strOk K = true) : ∀ d ∈ errs9, PySem.W.findIn K (.ref (He.ga K d)) "__str__" = some (some (.builtin "BaseException.__str__")) := fun d hd => He.eqO_ok (List.all_eq_true.mp h d hd)
end Rr
namespace Rr.K
open PySem PySem.Spec PyProof.Rows L2 GE
/-! ### what leaves a def -/
theorem passN {X : Cx} : Passes (Out AK X.prog X.w) X E0 := by
  intro _ _ _ _ _ _ _ h
  obtain ⟨_, _, _, _, _, _, ⟨_, _, _, z⟩, _⟩ := h
  exact z.elim
/-- nothing is let out, at any slots -/
theorem p0 {X : Cx} (σ : L2.St) : PassesAt (Out AK X.prog X.w) X σ ((fun _ => E0 : L2.St → XK) σ) := fun pins H s e s' I c => passN pins σ H s e s' I c
/-- what a callee lets out is let out -/
theorem pU {X : Cx} {E : XK} (tk : Takes AK X (fun cls d _ H => E cls d H)) (σ : L2.St) : PassesAt (Out AK X.prog X.w) X σ ((fun _ => E : L2.St → XK) σ) := fun pins H s e s' I c =>
  GE.passes_call tk (fun _ _ _ _ h => h) pins σ H s e s' I c
/-! ### calls: by a def's name, of a method, of a class -/
section
variable (P : Program) (w : World) (K : PySem.W.Frag) (mg : Str → Option Value) (base : Heap)
/-- a def's promise, to be called by its name -/
def Cal (k : Nat) (x : Str) (sp : Sp) : Prop := ∃ (f : Addr) (fd : FuncData) (ps : List Str), FnOk P w K mg base (Out AK P w) k f fd ps sp ∧ mg x = some (.ref f) ∧ PySem.W.keepIn K (.ref f) = true ∧ Binds K fd ps []
/-- a method's promise -/
def Met (k : Nat) (C : Addr) (m : Str) (sp : Sp) : Prop := ∃ (f : Addr) (fd : FuncData) (ps : List Str), Cls K C ∧ Meth K C m f ∧ FnOk P w K mg base (Out AK P w) k f fd ps sp ∧ Binds K fd ps []
/-- a class that is called; sp: its __init__ -/
def Mak (k : Nat) (x : Str) (C : Addr) (sp : Sp) : Prop := ∃ (f : Addr) (fd : FuncData) (ps : List Str), Mk K C f ∧ FnOk P w K mg base (Out AK P w) k f fd ps sp ∧ mg x = some (.ref C) ∧ Binds K fd ps []
/-- a method called with keywords: n values (self too), the names ks -/
def MetK (k : Nat) (C : Addr) (m : Str) (sp : Sp) (n : Nat) (ks : List Str) (gV : List V → List V → List V) : Prop := ∃ (f : Addr) (fd : FuncData) (ps : List Str) (g : List Value → List Value → List Value),
  Cls K C ∧ Meth K C m f ∧ FnOk P w K mg base (Out AK P w) k f fd ps sp ∧ KBn K fd ps n ks g gV
end
section
variable {X : Cx} {k j : Nat} {C : Addr} {x m : Str} {sp : Sp} {E : L2.St → XK} {p pos apos : Pos} {e o : Expr} {es : List Expr} {ta : TE} {t tk : TA}
/-- f(e, ..) -/
theorem pf (c : Cal X.prog X.w X.K X.mg X.base k x sp) (hr : Room j X.A) (hk : k ≤ j) (hg : Gl X x) (hx : ∀ σ, PassesAt (Out AK X.prog X.w) X σ (E σ)) (ha : PA X (e :: es) t)
    (hdb : (x == ("__debug__" : Str)) = false := by decide) (he : starEach (e :: es) X.env = (false, eval e X.env) :: starEach es X.env := by rfl) (hpl : (backTo pos (starEach es X.env)).any (·.1) = false := by rfl) :
    PE X (.Call (.Name x p) (e :: es) [] pos) (tcF sp E t) := by
  obtain ⟨f, fd, ps, F, hm, kp, b⟩ := c
  exact pe_callS F (hr.mono hk) hg hm kp b hx ha hdb he hpl
/-- o.m(e, ..) -/
theorem pm {pl : Sem Bool} (c : Met X.prog X.w X.K X.mg X.base k C m sp) (hr : Room j X.A) (hk : k ≤ j) (hx : ∀ σ, PassesAt (Out AK X.prog X.w) X σ (E σ)) (ho : PE X o ta) (ha : PA X (e :: es) t)
    (hst : starEach (e :: es) X.env = (false, eval e X.env) :: starEach es X.env := by rfl) (hpl : (backTo pos (starEach es X.env)).any (·.1) = false := by rfl)
    (ht : eval (.Call (.Attribute o m apos) (e :: es) [] pos) X.env = (do
      let r ← eval o X.env
      standAt apos.atName
      let (g, ys) ← holding [r] (getMethod r m pl)
      callWith pos g ys (backTo pos (starEach (e :: es) X.env)) (backToKw pos (keywordEach [] X.env))) := by rfl) :
    PE X (.Call (.Attribute o m apos) (e :: es) [] pos) (tcM sp E C m ta t) := by
  obtain ⟨f, fd, ps, hc, hm, F, b⟩ := c
  refine ⟨fun pins s σ H Q I h => PySem.W.methodCall_KW (pl := pl) (thn (ho.run pins s σ H _ I h) ?_) ht⟩
  rintro u s1 ⟨y, H1, I1, ry, a, dx, fs, rfl, ea, l, q⟩
  obtain rfl : u = Value.ref a := ry
  refine getmeth_ok I1 ea hc hm l (PySem.W.callWith_K (first := [.ref a]) (h₀ := X.base) I.ok.mod.kin hm.kp (thn (ha.run pos pins s1 σ H1 _ I1 q) ?_) hst hpl)
  rintro us s2 ⟨vs, H2, I2, r, q2⟩
  exact ⟨I2.kIn, run_fnS (us := .ref a :: us) (vs := .ref a :: vs) F (hr.mono hk) b (hx σ) I2 (.cons rfl r) q2⟩
/-- o.m() -/
theorem pm0 {pl : Sem Bool} (c : Met X.prog X.w X.K X.mg X.base k C m sp) (hr : Room j X.A) (hk : k ≤ j) (hx : ∀ σ, PassesAt (Out AK X.prog X.w) X σ (E σ)) (ho : PE X o ta)
    (ht : eval (.Call (.Attribute o m apos) [] [] pos) X.env = (do
      let r ← eval o X.env
      standAt apos.atName
      let (g, ys) ← holding [r] (getMethod r m pl)
      callWith pos g ys (backTo pos (starEach [] X.env)) (backToKw pos (keywordEach [] X.env))) := by rfl) :
    PE X (.Call (.Attribute o m apos) [] [] pos) (tcM sp E C m ta tNil) := by
  obtain ⟨f, fd, ps, hc, hm, F, b⟩ := c
  refine ⟨fun pins s σ H Q I h => PySem.W.methodCall_KW (pl := pl) (thn (ho.run pins s σ H _ I h) ?_) ht⟩
  rintro u s1 ⟨y, H1, I1, ry, a, dx, fs, rfl, ea, l, q⟩
  obtain rfl : u = Value.ref a := ry
  exact getmeth_ok I1 ea hc hm l (PySem.W.callWith_K0 (first := [.ref a]) I1.kIn hm.kp (run_fnS (us := [.ref a]) (vs := [.ref a]) F (hr.mono hk) b (hx σ) I1 (.cons rfl .nil) q))
/-- o.m(e, .., k = v, ..) -/
theorem pmk {pl : Sem Bool} {kws : List Keyword} {ks : List Str} {n : Nat} {gV : List V → List V → List V} (c : MetK X.prog X.w X.K X.mg X.base k C m sp n ks gV) (hr : Room j X.A) (hk : k ≤ j) (hx : Passes (Out AK X.prog X.w) X E0) (ho : PE X o ta) (ha : PA X (e :: es) t) (hkw : PK X kws tk)
    (hall : (backToKw pos (keywordEach kws X.env)).all (·.1.isSome) = true := by rfl) (hks : (backToKw pos (keywordEach kws X.env)).filterMap (·.1) = ks := by rfl)
    (hst : starEach (e :: es) X.env = (false, eval e X.env) :: starEach es X.env := by rfl)
    (hpl : ((backTo pos (starEach (e :: es) X.env)).any (·.1) || (backToKw pos (keywordEach kws X.env)).any (·.1.isNone)) = false := by rfl)
    (ht : eval (.Call (.Attribute o m apos) (e :: es) kws pos) X.env = (do
      let r ← eval o X.env
      standAt apos.atName
      let (g, ys) ← holding [r] (getMethod r m pl)
      callWith pos g ys (backTo pos (starEach (e :: es) X.env)) (backToKw pos (keywordEach kws X.env))) := by rfl) :
    PE X (.Call (.Attribute o m apos) (e :: es) kws pos) (tcMK sp (fun _ => E0) C m n ks.length gV ta t tk) := by
  obtain ⟨f, fd, ps, g, hc, hm, F, b⟩ := c
  refine ⟨fun pins s σ H Q I h => PySem.W.methodCall_KW (pl := pl) (thn (ho.run pins s σ H _ I h) ?_) ht⟩
  rintro u s1 ⟨y, H1, I1, ry, a, dx, fs, rfl, ea, l, q⟩
  obtain rfl : u = Value.ref a := ry
  refine getmeth_ok I1 ea hc hm l (PySem.W.callWith_KW (first := [.ref a]) (h₀ := X.base) I.ok.mod.kin hm.kp hall (thn (ha.run pos pins s1 σ H1 _ I1 q) ?_) hpl hst)
  rintro us s2 ⟨vs, H2, I2, r, q2⟩
  refine thn (hkw.run pos pins s2 σ H2 _ I2 q2) ?_
  rintro ws s3 ⟨zs, H3, I3, rz, l1, l2, q3⟩
  refine ⟨I3.kIn, ?_⟩
  rw [hks]
  exact run_fnN (us := .ref a :: us) (vs := .ref a :: vs) F (hr.mono hk) b hx I3 (.cons rfl r) rz l1 l2 q3
/-- C(e, ..) -/
theorem pc (c : Mak X.prog X.w X.K X.mg X.base k x C sp) (hr : Room j X.A) (hk : k + 1 ≤ j) (hg : Gl X x) {E : XK} (hx : Passes (Out AK X.prog X.w) X E) (ha : PA X (e :: es) t)
    (hdb : (x == ("__debug__" : Str)) = false := by decide) (he : starEach (e :: es) X.env = (false, eval e X.env) :: starEach es X.env := by rfl) (hpl : (backTo pos (starEach es X.env)).any (·.1) = false := by rfl) :
    PE X (.Call (.Name x p) (e :: es) [] pos) (tcC sp C (fun _ => E) t) := by
  obtain ⟨f, fd, ps, M, F, hm, b⟩ := c
  refine ⟨fun pins s σ H Q I h => (pe_make M F (hr.mono hk) hg hm b .nil hx ha hdb he hpl).run pins s σ H Q I ?_⟩
  unfold tMake
  unfold tcC at h
  simp only [List.append_nil]
  exact h
end
/-! ### a def with its code object known -/
section
variable {P : Program} {w : World} {K : PySem.W.Frag} {mg : Str → Option Value} {base : Heap} {x qual : Str} {params : Arguments} {body : List Stmt} {scope : Scope} {dvs : List V} {kws : List (Str × V)} {fd : FuncData} {at_ : Str × Option Str}
theorem okX (CX : CXT) {N ps : List Str} {k : Nat} {sp : Sp} (F : FunD K x qual params body scope dvs kws (He.fAd K at_) fd) (S : FnScope N ps scope) (len : ∀ vs H Q E, sp vs H Q E → vs.length = ps.length)
    (hbody : ∀ (A : Around) (outer : List Env) (s : Shared) (H : Hp) (vs : List V) (Q : VK) (E : XK), Room k (A.deeper (envOfC qual scope s.heap.objs.size (He.fAd K at_) (.ref (He.codeOf K at_)))) → sp vs H Q E →
      ∃ t, PSs (cxOf (CX) P w K mg base N qual scope (He.fAd K at_) (.ref (He.codeOf K at_)) A outer s H E) body t ∧ t { nx := fun _ H' => Q .non H', rt := Q } (start N vs) H) : FnOk P w K mg base (CX) (k + 1) (He.fAd K at_) fd ps sp := by
  obtain ⟨oc, od, dV, kV, doc, pm, an, cdv, ct, osl, rfl, lk, hcd, _, _⟩ := F.ex
  obtain ⟨c, rfl⟩ := He.codeIn_ref hcd
  have ec : He.codeOf K at_ = c := He.codeOf_eq lk rfl
  subst ec
  exact fn_of lk hcd S len hbody
theorem okF {N ps : List Str} {k : Nat} {sp : Sp} (F : FunD K x qual params body scope dvs kws (He.fAd K at_) fd) (S : FnScope N ps scope) (len : ∀ vs H Q E, sp vs H Q E → vs.length = ps.length)
    (hbody : ∀ (A : Around) (outer : List Env) (s : Shared) (H : Hp) (vs : List V) (Q : VK) (E : XK), Room k (A.deeper (envOfC qual scope s.heap.objs.size (He.fAd K at_) (.ref (He.codeOf K at_)))) → sp vs H Q E →
      ∃ t, PSs (cxOf (Out AK P w) P w K mg base N qual scope (He.fAd K at_) (.ref (He.codeOf K at_)) A outer s H E) body t ∧ t { nx := fun _ H' => Q .non H', rt := Q } (start N vs) H) : FnOk P w K mg base (Out AK P w) (k + 1) (He.fAd K at_) fd ps sp :=
  okX (Out AK P w) F S len hbody
end
section
variable (P : Program) (w : World) (K : PySem.W.Frag) (mg : Str → Option Value) (base : Heap)
/-- a def whose exceptions may have a context -/
def CalR (k : Nat) (x : Str) (sp : Sp) : Prop := ∃ (f : Addr) (fd : FuncData) (ps : List Str), FnOk P w K mg base (Out RK P w) k f fd ps sp ∧ mg x = some (.ref f) ∧ PySem.W.keepIn K (.ref f) = true ∧ Binds K fd ps []
end
section
variable {X : Cx} {k j : Nat} {x : Str} {sp : Sp} {E : L2.St → XK} {p pos : Pos} {e : Expr} {es : List Expr} {t : TA}
theorem pfR (c : CalR X.prog X.w X.K X.mg X.base k x sp) (hr : Room j X.A) (hk : k ≤ j) (hg : Gl X x) (hx : ∀ σ, PassesAt (Out RK X.prog X.w) X σ (E σ)) (ha : PA X (e :: es) t)
    (hdb : (x == ("__debug__" : Str)) = false := by decide) (he : starEach (e :: es) X.env = (false, eval e X.env) :: starEach es X.env := by rfl) (hpl : (backTo pos (starEach es X.env)).any (·.1) = false := by rfl) :
    PE X (.Call (.Name x p) (e :: es) [] pos) (tcF sp E t) := by
  obtain ⟨f, fd, ps, F, hm, kp, b⟩ := c
  exact pe_callS F (hr.mono hk) hg hm kp b hx ha hdb he hpl
theorem p0R (σ : L2.St) : PassesAt (Out RK X.prog X.w) X σ ((fun _ => E0 : L2.St → XK) σ) := by
  intro _ _ _ _ _ _ h
  obtain ⟨_, _, _, _, _, _, ⟨_, _, _, z⟩, _⟩ := h
  exact z.elim
/-- what is handled, as it was caught -/
theorem hot_of {A : Around} {j : AK.ι} {a : Addr} {oe : Obj} {c : Value} {d : Option Addr} (hz : AK.Z j c d oe) (hf : ∃ vs, oe.data = .fields vs) : L2H.Hot1 (A.mark (some (.ref a))) (a, oe) := by
  obtain ⟨vs, e⟩ := hf
  exact ⟨rfl, vs, e, hz.1.2.2 vs e⟩
end
end Rr.K

set_option maxRecDepth 100000
set_option maxHeartbeats 4000000
namespace Rr
open PySem PySem.Spec PyProof.Rows L2
/-! ### the text -/
def top (i : Nat) : Stmt := PySem.Challenge.pw_rrdesk_k11_read.main.body.getD i (.Pass ⟨0, 0, 0, 0⟩)
abbrev s_Caller___init__ : Stmt := inClass (top 5) 0
abbrev N_Caller___init__ : List Str := ["self", "name", "rank", "since"]
theorem sc_Caller___init__ : FnScope N_Caller___init__ ["self", "name", "rank", "since"] (defScope s_Caller___init__) := ⟨rfl, rfl, rfl, by decide +kernel, rfl, by decide +kernel, by decide +kernel⟩
abbrev s_Caller_become : Stmt := inClass (top 5) 1
abbrev N_Caller_become : List Str := ["self", "state", "since", "due", "bell"]
theorem sc_Caller_become : FnScope N_Caller_become ["self", "state", "since", "due", "bell"] (defScope s_Caller_become) := ⟨rfl, rfl, rfl, by decide +kernel, rfl, by decide +kernel, by decide +kernel⟩
abbrev s_is_name : Stmt := top 20
abbrev N_is_name : List Str := ["text"]
theorem sc_is_name : FnScope N_is_name ["text"] (defScope s_is_name) := ⟨rfl, rfl, rfl, by decide +kernel, rfl, by decide +kernel, by decide +kernel⟩
abbrev s_aged : Stmt := top 23
abbrev N_aged : List Str := ["rank", "waited", "pace"]
theorem sc_aged : FnScope N_aged ["rank", "waited", "pace"] (defScope s_aged) := ⟨rfl, rfl, rfl, by decide +kernel, rfl, by decide +kernel, by decide +kernel⟩
abbrev s_first : Stmt := top 24
abbrev N_first : List Str := ["rows", "pace", "place", "best", "at", "rank", "waited", "reached"]
theorem sc_first : FnScope N_first ["rows", "pace"] (defScope s_first) := ⟨rfl, rfl, rfl, by decide +kernel, rfl, by decide +kernel, by decide +kernel⟩
abbrev s_check_name : Stmt := top 29
abbrev N_check_name : List Str := ["text"]
theorem sc_check_name : FnScope N_check_name ["text"] (defScope s_check_name) := ⟨rfl, rfl, rfl, by decide +kernel, rfl, by decide +kernel, by decide +kernel⟩
abbrev s_check_rank : Stmt := top 30
abbrev N_check_rank : List Str := ["rank"]
theorem sc_check_rank : FnScope N_check_rank ["rank"] (defScope s_check_rank) := ⟨rfl, rfl, rfl, by decide +kernel, rfl, by decide +kernel, by decide +kernel⟩
abbrev s_check_span : Stmt := top 31
abbrev N_check_span : List Str := ["many", "least"]
theorem sc_check_span : FnScope N_check_span ["many", "least"] (defScope s_check_span) := ⟨rfl, rfl, rfl, by decide +kernel, rfl, by decide +kernel, by decide +kernel⟩
abbrev s_check_ready : Stmt := top 32
abbrev N_check_ready : List Str := ["caller"]
theorem sc_check_ready : FnScope N_check_ready ["caller"] (defScope s_check_ready) := ⟨rfl, rfl, rfl, by decide +kernel, rfl, by decide +kernel, by decide +kernel⟩
abbrev s_check_not_ready : Stmt := top 33
abbrev N_check_not_ready : List Str := ["caller"]
theorem sc_check_not_ready : FnScope N_check_not_ready ["caller"] (defScope s_check_not_ready) := ⟨rfl, rfl, rfl, by decide +kernel, rfl, by decide +kernel, by decide +kernel⟩
abbrev s_Desk___init__ : Stmt := inClass (top 34) 0
abbrev N_Desk___init__ : List Str := ["self", "pace", "room"]
theorem sc_Desk___init__ : FnScope N_Desk___init__ ["self", "pace", "room"] (defScope s_Desk___init__) := ⟨rfl, rfl, rfl, by decide +kernel, rfl, by decide +kernel, by decide +kernel⟩
abbrev s_Desk_enter : Stmt := inClass (top 34) 1
abbrev N_Desk_enter : List Str := ["self", "name", "rank"]
theorem sc_Desk_enter : FnScope N_Desk_enter ["self", "name", "rank"] (defScope s_Desk_enter) := ⟨rfl, rfl, rfl, by decide +kernel, rfl, by decide +kernel, by decide +kernel⟩
abbrev s_Desk_sleep : Stmt := inClass (top 34) 3
abbrev N_Desk_sleep : List Str := ["self", "name", "many", "caller"]
theorem sc_Desk_sleep : FnScope N_Desk_sleep ["self", "name", "many"] (defScope s_Desk_sleep) := ⟨rfl, rfl, rfl, by decide +kernel, rfl, by decide +kernel, by decide +kernel⟩
abbrev s_Desk_wait : Stmt := inClass (top 34) 4
abbrev N_Desk_wait : List Str := ["self", "name", "bell", "caller"]
theorem sc_Desk_wait : FnScope N_Desk_wait ["self", "name", "bell"] (defScope s_Desk_wait) := ⟨rfl, rfl, rfl, by decide +kernel, rfl, by decide +kernel, by decide +kernel⟩
abbrev s_Desk_wake : Stmt := inClass (top 34) 5
abbrev N_Desk_wake : List Str := ["self", "name", "caller"]
theorem sc_Desk_wake : FnScope N_Desk_wake ["self", "name"] (defScope s_Desk_wake) := ⟨rfl, rfl, rfl, by decide +kernel, rfl, by decide +kernel, by decide +kernel⟩
abbrev s_Desk_turn : Stmt := inClass (top 34) 8
abbrev N_Desk_turn : List Str := ["self", "ran", "caller"]
theorem sc_Desk_turn : FnScope N_Desk_turn ["self"] (defScope s_Desk_turn) := ⟨rfl, rfl, rfl, by decide +kernel, rfl, by decide +kernel, by decide +kernel⟩
abbrev s_Desk_names : Stmt := inClass (top 34) 11
abbrev N_Desk_names : List Str := ["self"]
theorem sc_Desk_names : FnScope N_Desk_names ["self"] (defScope s_Desk_names) := ⟨rfl, rfl, rfl, by decide +kernel, rfl, by decide +kernel, by decide +kernel⟩
abbrev s_Desk_ready : Stmt := inClass (top 34) 12
abbrev N_Desk_ready : List Str := ["self", "callers", "chosen", "caller"]
theorem sc_Desk_ready : FnScope N_Desk_ready ["self"] (defScope s_Desk_ready) := ⟨rfl, rfl, rfl, by decide +kernel, rfl, by decide +kernel, by decide +kernel⟩
abbrev s_Desk_state : Stmt := inClass (top 34) 13
abbrev N_Desk_state : List Str := ["self", "name"]
theorem sc_Desk_state : FnScope N_Desk_state ["self", "name"] (defScope s_Desk_state) := ⟨rfl, rfl, rfl, by decide +kernel, rfl, by decide +kernel, by decide +kernel⟩
abbrev s_Desk_rank : Stmt := inClass (top 34) 14
abbrev N_Desk_rank : List Str := ["self", "name"]
theorem sc_Desk_rank : FnScope N_Desk_rank ["self", "name"] (defScope s_Desk_rank) := ⟨rfl, rfl, rfl, by decide +kernel, rfl, by decide +kernel, by decide +kernel⟩
abbrev s_Desk_waited : Stmt := inClass (top 34) 15
abbrev N_Desk_waited : List Str := ["self", "name", "caller"]
theorem sc_Desk_waited : FnScope N_Desk_waited ["self", "name"] (defScope s_Desk_waited) := ⟨rfl, rfl, rfl, by decide +kernel, rfl, by decide +kernel, by decide +kernel⟩
abbrev s_Desk_left : Stmt := inClass (top 34) 17
abbrev N_Desk_left : List Str := ["self", "name", "caller"]
theorem sc_Desk_left : FnScope N_Desk_left ["self", "name"] (defScope s_Desk_left) := ⟨rfl, rfl, rfl, by decide +kernel, rfl, by decide +kernel, by decide +kernel⟩
abbrev s_Desk_bell : Stmt := inClass (top 34) 18
abbrev N_Desk_bell : List Str := ["self", "name"]
theorem sc_Desk_bell : FnScope N_Desk_bell ["self", "name"] (defScope s_Desk_bell) := ⟨rfl, rfl, rfl, by decide +kernel, rfl, by decide +kernel, by decide +kernel⟩
abbrev s_Desk__known : Stmt := inClass (top 34) 20
abbrev N_Desk__known : List Str := ["self", "name", "caller"]
theorem sc_Desk__known : FnScope N_Desk__known ["self", "name"] (defScope s_Desk__known) := ⟨rfl, rfl, rfl, by decide +kernel, rfl, by decide +kernel, by decide +kernel⟩
abbrev s_Desk__waited : Stmt := inClass (top 34) 21
abbrev N_Desk__waited : List Str := ["self", "caller"]
theorem sc_Desk__waited : FnScope N_Desk__waited ["self", "caller"] (defScope s_Desk__waited) := ⟨rfl, rfl, rfl, by decide +kernel, rfl, by decide +kernel, by decide +kernel⟩
abbrev s_Desk__ready_callers : Stmt := inClass (top 34) 22
abbrev N_Desk__ready_callers : List Str := ["self", "caller"]
theorem sc_Desk__ready_callers : FnScope N_Desk__ready_callers ["self"] (defScope s_Desk__ready_callers) := ⟨rfl, rfl, rfl, by decide +kernel, rfl, by decide +kernel, by decide +kernel⟩
abbrev s_Desk__chosen : Stmt := inClass (top 34) 23
abbrev N_Desk__chosen : List Str := ["self", "callers", "place", "caller"]
theorem sc_Desk__chosen : FnScope N_Desk__chosen ["self"] (defScope s_Desk__chosen) := ⟨rfl, rfl, rfl, by decide +kernel, rfl, by decide +kernel, by decide +kernel⟩
abbrev s_Desk__make_ready : Stmt := inClass (top 34) 24
abbrev N_Desk__make_ready : List Str := ["self", "callers", "caller"]
theorem sc_Desk__make_ready : FnScope N_Desk__make_ready ["self", "callers"] (defScope s_Desk__make_ready) := ⟨rfl, rfl, rfl, by decide +kernel, rfl, by decide +kernel, by decide +kernel⟩
abbrev s_Desk__go_last : Stmt := inClass (top 34) 25
abbrev N_Desk__go_last : List Str := ["self", "caller"]
theorem sc_Desk__go_last : FnScope N_Desk__go_last ["self", "caller"] (defScope s_Desk__go_last) := ⟨rfl, rfl, rfl, by decide +kernel, rfl, by decide +kernel, by decide +kernel⟩
abbrev s_shown : Stmt := top 40
abbrev N_shown : List Str := ["desk", "rows", "name"]
theorem sc_shown : FnScope N_shown ["desk"] (defScope s_shown) := ⟨rfl, rfl, rfl, by decide +kernel, rfl, by decide +kernel, by decide +kernel⟩
abbrev s_doing : Stmt := top 41
abbrev N_doing : List Str := ["desk", "name", "state"]
theorem sc_doing : FnScope N_doing ["desk", "name"] (defScope s_doing) := ⟨rfl, rfl, rfl, by decide +kernel, rfl, by decide +kernel, by decide +kernel⟩
abbrev s_read : Stmt := top 42
abbrev N_read : List Str := ["text", "rows", "desk", "row", "refusal"]
theorem sc_read : FnScope N_read ["text"] (defScope s_read) := ⟨rfl, rfl, rfl, by decide +kernel, rfl, by decide +kernel, by decide +kernel⟩
abbrev s_begun : Stmt := top 43
abbrev N_begun : List Str := ["words", "head", "pace", "room", "time", "desk"]
theorem sc_begun : FnScope N_begun ["words"] (defScope s_begun) := ⟨rfl, rfl, rfl, by decide +kernel, rfl, by decide +kernel, by decide +kernel⟩
abbrev s_seat : Stmt := top 44
abbrev N_seat : List Str := ["desk", "words", "name", "rank", "state", "told"]
theorem sc_seat : FnScope N_seat ["desk", "words"] (defScope s_seat) := ⟨rfl, rfl, rfl, by decide +kernel, rfl, by decide +kernel, by decide +kernel⟩
abbrev s_seat_ready : Stmt := top 45
abbrev N_seat_ready : List Str := ["desk", "name", "rank", "waited"]
theorem sc_seat_ready : FnScope N_seat_ready ["desk", "name", "rank", "waited"] (defScope s_seat_ready) := ⟨rfl, rfl, rfl, by decide +kernel, rfl, by decide +kernel, by decide +kernel⟩
abbrev s_words_of : Stmt := top 46
abbrev N_words_of : List Str := ["row", "words"]
theorem sc_words_of : FnScope N_words_of ["row"] (defScope s_words_of) := ⟨rfl, rfl, rfl, by decide +kernel, rfl, by decide +kernel, by decide +kernel⟩
abbrev s_number : Stmt := top 47
abbrev N_number : List Str := ["word"]
theorem sc_number : FnScope N_number ["word"] (defScope s_number) := ⟨rfl, rfl, rfl, by decide +kernel, rfl, by decide +kernel, by decide +kernel⟩
abbrev s__law_whole : Stmt := top 49
abbrev N__law_whole : List Str := ["_law_found"]
theorem sc__law_whole : FnScope N__law_whole ["_law_found"] (defScope s__law_whole) := ⟨rfl, rfl, rfl, by decide +kernel, rfl, by decide +kernel, by decide +kernel⟩
abbrev s__law_cell_at : Stmt := top 50
abbrev N__law_cell_at : List Str := ["_law_script", "_law_k"]
theorem sc__law_cell_at : FnScope N__law_cell_at ["_law_script", "_law_k"] (defScope s__law_cell_at) := ⟨rfl, rfl, rfl, by decide +kernel, rfl, by decide +kernel, by decide +kernel⟩
abbrev s__law_mix : Stmt := top 51
abbrev N__law_mix : List Str := ["_law_cell", "_law_prime", "_law_many"]
theorem sc__law_mix : FnScope N__law_mix ["_law_cell", "_law_prime", "_law_many"] (defScope s__law_mix) := ⟨rfl, rfl, rfl, by decide +kernel, rfl, by decide +kernel, by decide +kernel⟩
abbrev s__law_name_by : Stmt := top 52
abbrev N__law_name_by : List Str := ["_law_k", "_law_cell", "_law_some", "_law_many", "_law_near", "_law_tell", "_law_size", "_law_at", "_law_j", "_law_text_here"]
theorem sc__law_name_by : FnScope N__law_name_by ["_law_k", "_law_cell"] (defScope s__law_name_by) := ⟨rfl, rfl, rfl, by decide +kernel, rfl, by decide +kernel, by decide +kernel⟩
abbrev s__law_texts : Stmt := top 53
abbrev N__law_texts : List Str := ["_law_found", "_law_due", "_law_k"]
theorem sc__law_texts : FnScope N__law_texts ["_law_found", "_law_due"] (defScope s__law_texts) := ⟨rfl, rfl, rfl, by decide +kernel, rfl, by decide +kernel, by decide +kernel⟩
abbrev s__law_word : Stmt := top 54
abbrev N__law_word : List Str := ["_law_e", "_law_found", "_law_one"]
theorem sc__law_word : FnScope N__law_word ["_law_e"] (defScope s__law_word) := ⟨rfl, rfl, rfl, by decide +kernel, rfl, by decide +kernel, by decide +kernel⟩
abbrev s__law_caller : Stmt := top 55
abbrev N__law_caller : List Str := ["_law_script", "_law_k", "_law_now", "_law_cell", "_law_words", "_law_way"]
theorem sc__law_caller : FnScope N__law_caller ["_law_script", "_law_k", "_law_now"] (defScope s__law_caller) := ⟨rfl, rfl, rfl, by decide +kernel, rfl, by decide +kernel, by decide +kernel⟩
abbrev s__law_head : Stmt := top 56
abbrev N__law_head : List Str := ["_law_head_here", "_law_way", "_law_pace", "_law_room", "_law_now", "_law_some"]
theorem sc__law_head : FnScope N__law_head ["_law_head_here", "_law_way"] (defScope s__law_head) := ⟨rfl, rfl, rfl, by decide +kernel, rfl, by decide +kernel, by decide +kernel⟩
abbrev s__law_row : Stmt := top 57
abbrev N__law_row : List Str := ["_law_row_here", "_law_way", "_law_now", "_law_name", "_law_rank", "_law_state", "_law_last", "_law_some"]
theorem sc__law_row : FnScope N__law_row ["_law_row_here", "_law_way", "_law_now"] (defScope s__law_row) := ⟨rfl, rfl, rfl, by decide +kernel, rfl, by decide +kernel, by decide +kernel⟩
abbrev s__law_spoilt : Stmt := top 58
abbrev N__law_spoilt : List Str := ["_law_rows", "_law_way", "_law_at", "_law_now", "_law_k"]
theorem sc__law_spoilt : FnScope N__law_spoilt ["_law_rows", "_law_way", "_law_at", "_law_now"] (defScope s__law_spoilt) := ⟨rfl, rfl, rfl, by decide +kernel, rfl, by decide +kernel, by decide +kernel⟩
abbrev s__law_text : Stmt := top 59
abbrev N__law_text : List Str := ["_law_rows", "_law_row_here"]
theorem sc__law_text : FnScope N__law_text ["_law_rows"] (defScope s__law_text) := ⟨rfl, rfl, rfl, by decide +kernel, rfl, by decide +kernel, by decide +kernel⟩
abbrev s__law_refused : Stmt := top 60
abbrev N__law_refused : List Str := ["_law_text_here", "_law_e"]
theorem sc__law_refused : FnScope N__law_refused ["_law_text_here"] (defScope s__law_refused) := ⟨rfl, rfl, rfl, by decide +kernel, rfl, by decide +kernel, by decide +kernel⟩
abbrev s__law_number : Stmt := top 61
abbrev N__law_number : List Str := ["_law_row_here", "_law_state"]
theorem sc__law_number : FnScope N__law_number ["_law_row_here", "_law_state"] (defScope s__law_number) := ⟨rfl, rfl, rfl, by decide +kernel, rfl, by decide +kernel, by decide +kernel⟩
abbrev s__law_stands : Stmt := top 62
abbrev N__law_stands : List Str := ["_law_desk", "_law_rows", "_law_found", "_law_due", "_law_row_here", "_law_bell"]
theorem sc__law_stands : FnScope N__law_stands ["_law_desk", "_law_rows"] (defScope s__law_stands) := ⟨rfl, rfl, rfl, by decide +kernel, rfl, by decide +kernel, by decide +kernel⟩
abbrev s_law : Stmt := top 63
abbrev N_law : List Str := ["_law_script", "_law_far", "_law_now", "_law_room", "_law_many", "_law_rows", "_law_k", "_law_way", "_law_text_here", "_law_desk"]
theorem sc_law : FnScope N_law ["_law_script"] (defScope s_law) := ⟨rfl, rfl, rfl, by decide +kernel, rfl, by decide +kernel, by decide +kernel⟩
/-! ### what the top has written -/
structure Tx (K : PySem.W.Frag) (mg : Str → Option Value) (base : Heap) : Prop where
  m_all : mg "all" = none
  m_len : mg "len" = none
  m_enumerate : mg "enumerate" = none
  m_list : mg "list" = none
  m_str : mg "str" = none
  m_any : mg "any" = none
  m_int : mg "int" = none
  m_bool : mg "bool" = none
  m_isinstance : mg "isinstance" = none
  m_range : mg "range" = none
  m_ValueError : mg "ValueError" = none
  m_sum : mg "sum" = none
  m_min : mg "min" = none
  h_READY : ∃ t, mg "READY" = some (.str "ready" t)
  h_MOST_SIGNS : ∃ t, mg "MOST_SIGNS" = some (.int 12 t)
  h_SIGNS : ∃ t, mg "SIGNS" = some (.str "abcdefghijklmnopqrstuvwxyz0123456789" t)
  h_TOP : ∃ t, mg "TOP" = some (.int 99 t)
  h_MOST_TURNS : ∃ t, mg "MOST_TURNS" = some (.int 1000 t)
  h_MOST_PACE : ∃ t, mg "MOST_PACE" = some (.int 1000 t)
  h_MOST_ROOM : ∃ t, mg "MOST_ROOM" = some (.int 60 t)
  h_ASLEEP : ∃ t, mg "ASLEEP" = some (.str "asleep" t)
  h_WAITING : ∃ t, mg "WAITING" = some (.str "waiting" t)
  h_HEAD : ∃ t, mg "HEAD" = some (.str "desk" t)
  h_WORDS : ∃ t, mg "WORDS" = some (.int 4 t)
  h_FIGURES : ∃ t, mg "FIGURES" = some (.str "0123456789" t)
  h_MOST_FIGURES : ∃ t, mg "MOST_FIGURES" = some (.int 12 t)
  r_Caller : mg "Caller" = some (.ref (He.ga K "Caller"))
  r_DeskError : mg "DeskError" = some (.ref (He.ga K "DeskError"))
  r_NoName : mg "NoName" = some (.ref (He.ga K "NoName"))
  r_NoRank : mg "NoRank" = some (.ref (He.ga K "NoRank"))
  r_NoSpan : mg "NoSpan" = some (.ref (He.ga K "NoSpan"))
  r_NoDesk : mg "NoDesk" = some (.ref (He.ga K "NoDesk"))
  r_Known : mg "Known" = some (.ref (He.ga K "Known"))
  r_Unknown : mg "Unknown" = some (.ref (He.ga K "Unknown"))
  r_Full : mg "Full" = some (.ref (He.ga K "Full"))
  r_NotReady : mg "NotReady" = some (.ref (He.ga K "NotReady"))
  r_IsReady : mg "IsReady" = some (.ref (He.ga K "IsReady"))
  r_Desk : mg "Desk" = some (.ref (He.ga K "Desk"))
  e_DeskError : PySem.W.excIn K (He.ga K "DeskError") He.veBase "ValueError.__new__" = true ∧ PySem.W.keepIn K (.ref (He.ga K "DeskError")) = true ∧ PySem.W.subIn K (.ref (He.ga K "DeskError")) (.type "BaseException") = some true ∧ PySem.W.typeIn K (.ref (He.ga K "DeskError")) = some (.type "type")
  e_NoName : PySem.W.excIn K (He.ga K "NoName") He.veBase "ValueError.__new__" = true ∧ PySem.W.keepIn K (.ref (He.ga K "NoName")) = true ∧ PySem.W.subIn K (.ref (He.ga K "NoName")) (.type "BaseException") = some true ∧ PySem.W.typeIn K (.ref (He.ga K "NoName")) = some (.type "type")
  e_NoRank : PySem.W.excIn K (He.ga K "NoRank") He.veBase "ValueError.__new__" = true ∧ PySem.W.keepIn K (.ref (He.ga K "NoRank")) = true ∧ PySem.W.subIn K (.ref (He.ga K "NoRank")) (.type "BaseException") = some true ∧ PySem.W.typeIn K (.ref (He.ga K "NoRank")) = some (.type "type")
  e_NoSpan : PySem.W.excIn K (He.ga K "NoSpan") He.veBase "ValueError.__new__" = true ∧ PySem.W.keepIn K (.ref (He.ga K "NoSpan")) = true ∧ PySem.W.subIn K (.ref (He.ga K "NoSpan")) (.type "BaseException") = some true ∧ PySem.W.typeIn K (.ref (He.ga K "NoSpan")) = some (.type "type")
  e_NoDesk : PySem.W.excIn K (He.ga K "NoDesk") He.veBase "ValueError.__new__" = true ∧ PySem.W.keepIn K (.ref (He.ga K "NoDesk")) = true ∧ PySem.W.subIn K (.ref (He.ga K "NoDesk")) (.type "BaseException") = some true ∧ PySem.W.typeIn K (.ref (He.ga K "NoDesk")) = some (.type "type")
  e_Known : PySem.W.excIn K (He.ga K "Known") He.veBase "ValueError.__new__" = true ∧ PySem.W.keepIn K (.ref (He.ga K "Known")) = true ∧ PySem.W.subIn K (.ref (He.ga K "Known")) (.type "BaseException") = some true ∧ PySem.W.typeIn K (.ref (He.ga K "Known")) = some (.type "type")
  e_Unknown : PySem.W.excIn K (He.ga K "Unknown") He.veBase "ValueError.__new__" = true ∧ PySem.W.keepIn K (.ref (He.ga K "Unknown")) = true ∧ PySem.W.subIn K (.ref (He.ga K "Unknown")) (.type "BaseException") = some true ∧ PySem.W.typeIn K (.ref (He.ga K "Unknown")) = some (.type "type")
  e_Full : PySem.W.excIn K (He.ga K "Full") He.veBase "ValueError.__new__" = true ∧ PySem.W.keepIn K (.ref (He.ga K "Full")) = true ∧ PySem.W.subIn K (.ref (He.ga K "Full")) (.type "BaseException") = some true ∧ PySem.W.typeIn K (.ref (He.ga K "Full")) = some (.type "type")
  e_NotReady : PySem.W.excIn K (He.ga K "NotReady") He.veBase "ValueError.__new__" = true ∧ PySem.W.keepIn K (.ref (He.ga K "NotReady")) = true ∧ PySem.W.subIn K (.ref (He.ga K "NotReady")) (.type "BaseException") = some true ∧ PySem.W.typeIn K (.ref (He.ga K "NotReady")) = some (.type "type")
  e_IsReady : PySem.W.excIn K (He.ga K "IsReady") He.veBase "ValueError.__new__" = true ∧ PySem.W.keepIn K (.ref (He.ga K "IsReady")) = true ∧ PySem.W.subIn K (.ref (He.ga K "IsReady")) (.type "BaseException") = some true ∧ PySem.W.typeIn K (.ref (He.ga K "IsReady")) = some (.type "type")
  x_NoName_DeskError : PySem.W.exmOne K (.ref (He.ga K "NoName")) (.ref (He.ga K "DeskError")) = some true
  x_NoRank_DeskError : PySem.W.exmOne K (.ref (He.ga K "NoRank")) (.ref (He.ga K "DeskError")) = some true
  x_NoSpan_DeskError : PySem.W.exmOne K (.ref (He.ga K "NoSpan")) (.ref (He.ga K "DeskError")) = some true
  x_NoDesk_DeskError : PySem.W.exmOne K (.ref (He.ga K "NoDesk")) (.ref (He.ga K "DeskError")) = some true
  x_Known_DeskError : PySem.W.exmOne K (.ref (He.ga K "Known")) (.ref (He.ga K "DeskError")) = some true
  x_Unknown_DeskError : PySem.W.exmOne K (.ref (He.ga K "Unknown")) (.ref (He.ga K "DeskError")) = some true
  x_Full_DeskError : PySem.W.exmOne K (.ref (He.ga K "Full")) (.ref (He.ga K "DeskError")) = some true
  x_NotReady_DeskError : PySem.W.exmOne K (.ref (He.ga K "NotReady")) (.ref (He.ga K "DeskError")) = some true
  x_IsReady_DeskError : PySem.W.exmOne K (.ref (He.ga K "IsReady")) (.ref (He.ga K "DeskError")) = some true
  cl_Caller : Cls K (He.ga K "Caller")
  mk_Caller : Mk K (He.ga K "Caller") (He.fAd K ("Caller", some "__init__"))
  na_Caller_bell : NoAttr K (He.ga K "Caller") "bell"
  na_Caller_due : NoAttr K (He.ga K "Caller") "due"
  na_Caller_name : NoAttr K (He.ga K "Caller") "name"
  na_Caller_rank : NoAttr K (He.ga K "Caller") "rank"
  na_Caller_since : NoAttr K (He.ga K "Caller") "since"
  na_Caller_state : NoAttr K (He.ga K "Caller") "state"
  cl_Desk : Cls K (He.ga K "Desk")
  mk_Desk : Mk K (He.ga K "Desk") (He.fAd K ("Desk", some "__init__"))
  na_Desk__line : NoAttr K (He.ga K "Desk") "_line"
  na_Desk_now : NoAttr K (He.ga K "Desk") "now"
  na_Desk_pace : NoAttr K (He.ga K "Desk") "pace"
  na_Desk_room : NoAttr K (He.ga K "Desk") "room"
  me_Caller_become : Meth K (He.ga K "Caller") "become" (He.fAd K ("Caller", some "become"))
  r_is_name : mg "is_name" = some (.ref (He.ga K "is_name"))
  r_aged : mg "aged" = some (.ref (He.ga K "aged"))
  r_first : mg "first" = some (.ref (He.ga K "first"))
  r_check_name : mg "check_name" = some (.ref (He.ga K "check_name"))
  r_check_rank : mg "check_rank" = some (.ref (He.ga K "check_rank"))
  r_check_span : mg "check_span" = some (.ref (He.ga K "check_span"))
  r_check_ready : mg "check_ready" = some (.ref (He.ga K "check_ready"))
  r_check_not_ready : mg "check_not_ready" = some (.ref (He.ga K "check_not_ready"))
  me_Desk_enter : Meth K (He.ga K "Desk") "enter" (He.fAd K ("Desk", some "enter"))
  me_Desk_sleep : Meth K (He.ga K "Desk") "sleep" (He.fAd K ("Desk", some "sleep"))
  me_Desk_wait : Meth K (He.ga K "Desk") "wait" (He.fAd K ("Desk", some "wait"))
  me_Desk_wake : Meth K (He.ga K "Desk") "wake" (He.fAd K ("Desk", some "wake"))
  me_Desk_turn : Meth K (He.ga K "Desk") "turn" (He.fAd K ("Desk", some "turn"))
  me_Desk_names : Meth K (He.ga K "Desk") "names" (He.fAd K ("Desk", some "names"))
  me_Desk_ready : Meth K (He.ga K "Desk") "ready" (He.fAd K ("Desk", some "ready"))
  me_Desk_state : Meth K (He.ga K "Desk") "state" (He.fAd K ("Desk", some "state"))
  me_Desk_rank : Meth K (He.ga K "Desk") "rank" (He.fAd K ("Desk", some "rank"))
  me_Desk_waited : Meth K (He.ga K "Desk") "waited" (He.fAd K ("Desk", some "waited"))
  me_Desk_left : Meth K (He.ga K "Desk") "left" (He.fAd K ("Desk", some "left"))
  me_Desk_bell : Meth K (He.ga K "Desk") "bell" (He.fAd K ("Desk", some "bell"))
  me_Desk__known : Meth K (He.ga K "Desk") "_known" (He.fAd K ("Desk", some "_known"))
  me_Desk__waited : Meth K (He.ga K "Desk") "_waited" (He.fAd K ("Desk", some "_waited"))
  me_Desk__ready_callers : Meth K (He.ga K "Desk") "_ready_callers" (He.fAd K ("Desk", some "_ready_callers"))
  me_Desk__chosen : Meth K (He.ga K "Desk") "_chosen" (He.fAd K ("Desk", some "_chosen"))
  me_Desk__make_ready : Meth K (He.ga K "Desk") "_make_ready" (He.fAd K ("Desk", some "_make_ready"))
  me_Desk__go_last : Meth K (He.ga K "Desk") "_go_last" (He.fAd K ("Desk", some "_go_last"))
  r_shown : mg "shown" = some (.ref (He.ga K "shown"))
  r_doing : mg "doing" = some (.ref (He.ga K "doing"))
  r_read : mg "read" = some (.ref (He.ga K "read"))
  r_begun : mg "begun" = some (.ref (He.ga K "begun"))
  r_seat : mg "seat" = some (.ref (He.ga K "seat"))
  r_seat_ready : mg "seat_ready" = some (.ref (He.ga K "seat_ready"))
  r_words_of : mg "words_of" = some (.ref (He.ga K "words_of"))
  r_number : mg "number" = some (.ref (He.ga K "number"))
  r__law_whole : mg "_law_whole" = some (.ref (He.ga K "_law_whole"))
  r__law_cell_at : mg "_law_cell_at" = some (.ref (He.ga K "_law_cell_at"))
  r__law_mix : mg "_law_mix" = some (.ref (He.ga K "_law_mix"))
  r__law_name_by : mg "_law_name_by" = some (.ref (He.ga K "_law_name_by"))
  r__law_texts : mg "_law_texts" = some (.ref (He.ga K "_law_texts"))
  r__law_word : mg "_law_word" = some (.ref (He.ga K "_law_word"))
  r__law_caller : mg "_law_caller" = some (.ref (He.ga K "_law_caller"))
  r__law_head : mg "_law_head" = some (.ref (He.ga K "_law_head"))
  r__law_row : mg "_law_row" = some (.ref (He.ga K "_law_row"))
  r__law_spoilt : mg "_law_spoilt" = some (.ref (He.ga K "_law_spoilt"))
  r__law_text : mg "_law_text" = some (.ref (He.ga K "_law_text"))
  r__law_refused : mg "_law_refused" = some (.ref (He.ga K "_law_refused"))
  r__law_number : mg "_law_number" = some (.ref (He.ga K "_law_number"))
  r__law_stands : mg "_law_stands" = some (.ref (He.ga K "_law_stands"))
  r_law : mg "law" = some (.ref (He.ga K "law"))
  d_Caller___init__ : ∃ fd, FunD K "__init__" "Caller.__init__" (defArgs s_Caller___init__) (defBody s_Caller___init__) (defScope s_Caller___init__) [] [] (He.fAd K ("Caller", some "__init__")) fd
  d_Caller_become : ∃ fd, FunD K "become" "Caller.become" (defArgs s_Caller_become) (defBody s_Caller_become) (defScope s_Caller_become) [.non, .non, .non] [] (He.fAd K ("Caller", some "become")) fd
  d_is_name : ∃ fd, FunD K "is_name" "is_name" (defArgs s_is_name) (defBody s_is_name) (defScope s_is_name) [] [] (He.fAd K ("is_name", none)) fd
  d_aged : ∃ fd, FunD K "aged" "aged" (defArgs s_aged) (defBody s_aged) (defScope s_aged) [] [] (He.fAd K ("aged", none)) fd
  d_first : ∃ fd, FunD K "first" "first" (defArgs s_first) (defBody s_first) (defScope s_first) [] [] (He.fAd K ("first", none)) fd
  d_check_name : ∃ fd, FunD K "check_name" "check_name" (defArgs s_check_name) (defBody s_check_name) (defScope s_check_name) [] [] (He.fAd K ("check_name", none)) fd
  d_check_rank : ∃ fd, FunD K "check_rank" "check_rank" (defArgs s_check_rank) (defBody s_check_rank) (defScope s_check_rank) [] [] (He.fAd K ("check_rank", none)) fd
  d_check_span : ∃ fd, FunD K "check_span" "check_span" (defArgs s_check_span) (defBody s_check_span) (defScope s_check_span) [] [] (He.fAd K ("check_span", none)) fd
  d_check_ready : ∃ fd, FunD K "check_ready" "check_ready" (defArgs s_check_ready) (defBody s_check_ready) (defScope s_check_ready) [] [] (He.fAd K ("check_ready", none)) fd
  d_check_not_ready : ∃ fd, FunD K "check_not_ready" "check_not_ready" (defArgs s_check_not_ready) (defBody s_check_not_ready) (defScope s_check_not_ready) [] [] (He.fAd K ("check_not_ready", none)) fd
  d_Desk___init__ : ∃ fd, FunD K "__init__" "Desk.__init__" (defArgs s_Desk___init__) (defBody s_Desk___init__) (defScope s_Desk___init__) [] [] (He.fAd K ("Desk", some "__init__")) fd
  d_Desk_enter : ∃ fd, FunD K "enter" "Desk.enter" (defArgs s_Desk_enter) (defBody s_Desk_enter) (defScope s_Desk_enter) [] [] (He.fAd K ("Desk", some "enter")) fd
  d_Desk_sleep : ∃ fd, FunD K "sleep" "Desk.sleep" (defArgs s_Desk_sleep) (defBody s_Desk_sleep) (defScope s_Desk_sleep) [] [] (He.fAd K ("Desk", some "sleep")) fd
  d_Desk_wait : ∃ fd, FunD K "wait" "Desk.wait" (defArgs s_Desk_wait) (defBody s_Desk_wait) (defScope s_Desk_wait) [] [] (He.fAd K ("Desk", some "wait")) fd
  d_Desk_wake : ∃ fd, FunD K "wake" "Desk.wake" (defArgs s_Desk_wake) (defBody s_Desk_wake) (defScope s_Desk_wake) [] [] (He.fAd K ("Desk", some "wake")) fd
  d_Desk_turn : ∃ fd, FunD K "turn" "Desk.turn" (defArgs s_Desk_turn) (defBody s_Desk_turn) (defScope s_Desk_turn) [] [] (He.fAd K ("Desk", some "turn")) fd
  d_Desk_names : ∃ fd, FunD K "names" "Desk.names" (defArgs s_Desk_names) (defBody s_Desk_names) (defScope s_Desk_names) [] [] (He.fAd K ("Desk", some "names")) fd
  d_Desk_ready : ∃ fd, FunD K "ready" "Desk.ready" (defArgs s_Desk_ready) (defBody s_Desk_ready) (defScope s_Desk_ready) [] [] (He.fAd K ("Desk", some "ready")) fd
  d_Desk_state : ∃ fd, FunD K "state" "Desk.state" (defArgs s_Desk_state) (defBody s_Desk_state) (defScope s_Desk_state) [] [] (He.fAd K ("Desk", some "state")) fd
  d_Desk_rank : ∃ fd, FunD K "rank" "Desk.rank" (defArgs s_Desk_rank) (defBody s_Desk_rank) (defScope s_Desk_rank) [] [] (He.fAd K ("Desk", some "rank")) fd
  d_Desk_waited : ∃ fd, FunD K "waited" "Desk.waited" (defArgs s_Desk_waited) (defBody s_Desk_waited) (defScope s_Desk_waited) [] [] (He.fAd K ("Desk", some "waited")) fd
  d_Desk_left : ∃ fd, FunD K "left" "Desk.left" (defArgs s_Desk_left) (defBody s_Desk_left) (defScope s_Desk_left) [] [] (He.fAd K ("Desk", some "left")) fd
  d_Desk_bell : ∃ fd, FunD K "bell" "Desk.bell" (defArgs s_Desk_bell) (defBody s_Desk_bell) (defScope s_Desk_bell) [] [] (He.fAd K ("Desk", some "bell")) fd
  d_Desk__known : ∃ fd, FunD K "_known" "Desk._known" (defArgs s_Desk__known) (defBody s_Desk__known) (defScope s_Desk__known) [] [] (He.fAd K ("Desk", some "_known")) fd
  d_Desk__waited : ∃ fd, FunD K "_waited" "Desk._waited" (defArgs s_Desk__waited) (defBody s_Desk__waited) (defScope s_Desk__waited) [] [] (He.fAd K ("Desk", some "_waited")) fd
  d_Desk__ready_callers : ∃ fd, FunD K "_ready_callers" "Desk._ready_callers" (defArgs s_Desk__ready_callers) (defBody s_Desk__ready_callers) (defScope s_Desk__ready_callers) [] [] (He.fAd K ("Desk", some "_ready_callers")) fd
  d_Desk__chosen : ∃ fd, FunD K "_chosen" "Desk._chosen" (defArgs s_Desk__chosen) (defBody s_Desk__chosen) (defScope s_Desk__chosen) [] [] (He.fAd K ("Desk", some "_chosen")) fd
  d_Desk__make_ready : ∃ fd, FunD K "_make_ready" "Desk._make_ready" (defArgs s_Desk__make_ready) (defBody s_Desk__make_ready) (defScope s_Desk__make_ready) [] [] (He.fAd K ("Desk", some "_make_ready")) fd
  d_Desk__go_last : ∃ fd, FunD K "_go_last" "Desk._go_last" (defArgs s_Desk__go_last) (defBody s_Desk__go_last) (defScope s_Desk__go_last) [] [] (He.fAd K ("Desk", some "_go_last")) fd
  d_shown : ∃ fd, FunD K "shown" "shown" (defArgs s_shown) (defBody s_shown) (defScope s_shown) [] [] (He.fAd K ("shown", none)) fd
  d_doing : ∃ fd, FunD K "doing" "doing" (defArgs s_doing) (defBody s_doing) (defScope s_doing) [] [] (He.fAd K ("doing", none)) fd
  d_read : ∃ fd, FunD K "read" "read" (defArgs s_read) (defBody s_read) (defScope s_read) [] [] (He.fAd K ("read", none)) fd
  d_begun : ∃ fd, FunD K "begun" "begun" (defArgs s_begun) (defBody s_begun) (defScope s_begun) [] [] (He.fAd K ("begun", none)) fd
  d_seat : ∃ fd, FunD K "seat" "seat" (defArgs s_seat) (defBody s_seat) (defScope s_seat) [] [] (He.fAd K ("seat", none)) fd
  d_seat_ready : ∃ fd, FunD K "seat_ready" "seat_ready" (defArgs s_seat_ready) (defBody s_seat_ready) (defScope s_seat_ready) [] [] (He.fAd K ("seat_ready", none)) fd
  d_words_of : ∃ fd, FunD K "words_of" "words_of" (defArgs s_words_of) (defBody s_words_of) (defScope s_words_of) [] [] (He.fAd K ("words_of", none)) fd
  d_number : ∃ fd, FunD K "number" "number" (defArgs s_number) (defBody s_number) (defScope s_number) [] [] (He.fAd K ("number", none)) fd
  d__law_whole : ∃ fd, FunD K "_law_whole" "_law_whole" (defArgs s__law_whole) (defBody s__law_whole) (defScope s__law_whole) [] [] (He.fAd K ("_law_whole", none)) fd
  d__law_cell_at : ∃ fd, FunD K "_law_cell_at" "_law_cell_at" (defArgs s__law_cell_at) (defBody s__law_cell_at) (defScope s__law_cell_at) [] [] (He.fAd K ("_law_cell_at", none)) fd
  d__law_mix : ∃ fd, FunD K "_law_mix" "_law_mix" (defArgs s__law_mix) (defBody s__law_mix) (defScope s__law_mix) [] [] (He.fAd K ("_law_mix", none)) fd
  d__law_name_by : ∃ fd, FunD K "_law_name_by" "_law_name_by" (defArgs s__law_name_by) (defBody s__law_name_by) (defScope s__law_name_by) [] [] (He.fAd K ("_law_name_by", none)) fd
  d__law_texts : ∃ fd, FunD K "_law_texts" "_law_texts" (defArgs s__law_texts) (defBody s__law_texts) (defScope s__law_texts) [] [] (He.fAd K ("_law_texts", none)) fd
  d__law_word : ∃ fd, FunD K "_law_word" "_law_word" (defArgs s__law_word) (defBody s__law_word) (defScope s__law_word) [] [] (He.fAd K ("_law_word", none)) fd
  d__law_caller : ∃ fd, FunD K "_law_caller" "_law_caller" (defArgs s__law_caller) (defBody s__law_caller) (defScope s__law_caller) [] [] (He.fAd K ("_law_caller", none)) fd
  d__law_head : ∃ fd, FunD K "_law_head" "_law_head" (defArgs s__law_head) (defBody s__law_head) (defScope s__law_head) [] [] (He.fAd K ("_law_head", none)) fd
  d__law_row : ∃ fd, FunD K "_law_row" "_law_row" (defArgs s__law_row) (defBody s__law_row) (defScope s__law_row) [] [] (He.fAd K ("_law_row", none)) fd
  d__law_spoilt : ∃ fd, FunD K "_law_spoilt" "_law_spoilt" (defArgs s__law_spoilt) (defBody s__law_spoilt) (defScope s__law_spoilt) [] [] (He.fAd K ("_law_spoilt", none)) fd
  d__law_text : ∃ fd, FunD K "_law_text" "_law_text" (defArgs s__law_text) (defBody s__law_text) (defScope s__law_text) [] [] (He.fAd K ("_law_text", none)) fd
  d__law_refused : ∃ fd, FunD K "_law_refused" "_law_refused" (defArgs s__law_refused) (defBody s__law_refused) (defScope s__law_refused) [] [] (He.fAd K ("_law_refused", none)) fd
  d__law_number : ∃ fd, FunD K "_law_number" "_law_number" (defArgs s__law_number) (defBody s__law_number) (defScope s__law_number) [] [] (He.fAd K ("_law_number", none)) fd
  d__law_stands : ∃ fd, FunD K "_law_stands" "_law_stands" (defArgs s__law_stands) (defBody s__law_stands) (defScope s__law_stands) [] [] (He.fAd K ("_law_stands", none)) fd
  d_law : ∃ fd, FunD K "law" "law" (defArgs s_law) (defBody s_law) (defScope s_law) [] [] (He.fAd K ("law", none)) fd
  tb_is_name : GxR.TabB base mg (He.codeOf K ("is_name", none)) (He.tabOf K (He.codeOf K ("is_name", none)))
  tb_number : GxR.TabB base mg (He.codeOf K ("number", none)) (He.tabOf K (He.codeOf K ("number", none)))
  x9 : exOk K = true
  y9 : strOk K = true
  nr_is_name : He.tabOf K (He.codeOf K ("is_name", none)) ≠ He.tabOf K (He.codeOf K ("Desk", some "ready"))
  nr_number : He.tabOf K (He.codeOf K ("number", none)) ≠ He.tabOf K (He.codeOf K ("Desk", some "ready"))
def fa : List He.Fa := [.free "all", .free "len", .free "enumerate", .free "list", .free "str", .free "any", .free "int", .free "bool", .free "isinstance", .free "range", .free "ValueError", .free "sum", .free "min", .str "READY" "ready", .int "MOST_SIGNS" 12, .str "SIGNS" "abcdefghijklmnopqrstuvwxyz0123456789", .int "TOP" 99, .int "MOST_TURNS" 1000, .int "MOST_PACE" 1000, .int "MOST_ROOM" 60, .str "ASLEEP" "asleep", .str "WAITING" "waiting", .str "HEAD" "desk", .int "WORDS" 4, .str "FIGURES" "0123456789", .int "MOST_FIGURES" 12, .glo "Caller", .glo "DeskError", .glo "NoName", .glo "NoRank", .glo "NoSpan", .glo "NoDesk", .glo "Known", .glo "Unknown", .glo "Full", .glo "NotReady", .glo "IsReady", .glo "Desk", .exc "DeskError", .exc "NoName", .exc "NoRank", .exc "NoSpan", .exc "NoDesk", .exc "Known", .exc "Unknown", .exc "Full", .exc "NotReady", .exc "IsReady", .exm "NoName" "DeskError" true, .exm "NoRank" "DeskError" true, .exm "NoSpan" "DeskError" true, .exm "NoDesk" "DeskError" true, .exm "Known" "DeskError" true, .exm "Unknown" "DeskError" true, .exm "Full" "DeskError" true, .exm "NotReady" "DeskError" true, .exm "IsReady" "DeskError" true, .cls "Caller", .mkr "Caller", .noat "Caller" "bell", .noat "Caller" "due", .noat "Caller" "name", .noat "Caller" "rank", .noat "Caller" "since", .noat "Caller" "state", .cls "Desk", .mkr "Desk", .noat "Desk" "_line", .noat "Desk" "now", .noat "Desk" "pace", .noat "Desk" "room", .meth "Caller" "become", .glo "is_name", .glo "aged", .glo "first", .glo "check_name", .glo "check_rank", .glo "check_span", .glo "check_ready", .glo "check_not_ready", .meth "Desk" "enter", .meth "Desk" "sleep", .meth "Desk" "wait", .meth "Desk" "wake", .meth "Desk" "turn", .meth "Desk" "names", .meth "Desk" "ready", .meth "Desk" "state", .meth "Desk" "rank", .meth "Desk" "waited", .meth "Desk" "left", .meth "Desk" "bell", .meth "Desk" "_known", .meth "Desk" "_waited", .meth "Desk" "_ready_callers", .meth "Desk" "_chosen", .meth "Desk" "_make_ready", .meth "Desk" "_go_last", .glo "shown", .glo "doing", .glo "read", .glo "begun", .glo "seat", .glo "seat_ready", .glo "words_of", .glo "number", .glo "_law_whole", .glo "_law_cell_at", .glo "_law_mix", .glo "_law_name_by", .glo "_law_texts", .glo "_law_word", .glo "_law_caller", .glo "_law_head", .glo "_law_row", .glo "_law_spoilt", .glo "_law_text", .glo "_law_refused", .glo "_law_number", .glo "_law_stands", .glo "law"]
def fn : List He.DefD := [⟨("Caller", some "__init__"), "__init__", "Caller.__init__", defArgs s_Caller___init__, defBody s_Caller___init__, defScope s_Caller___init__, [], []⟩,
  ⟨("Caller", some "become"), "become", "Caller.become", defArgs s_Caller_become, defBody s_Caller_become, defScope s_Caller_become, [.non, .non, .non], []⟩,
  ⟨("is_name", none), "is_name", "is_name", defArgs s_is_name, defBody s_is_name, defScope s_is_name, [], []⟩,
  ⟨("aged", none), "aged", "aged", defArgs s_aged, defBody s_aged, defScope s_aged, [], []⟩,
  ⟨("first", none), "first", "first", defArgs s_first, defBody s_first, defScope s_first, [], []⟩,
  ⟨("check_name", none), "check_name", "check_name", defArgs s_check_name, defBody s_check_name, defScope s_check_name, [], []⟩,
  ⟨("check_rank", none), "check_rank", "check_rank", defArgs s_check_rank, defBody s_check_rank, defScope s_check_rank, [], []⟩,
  ⟨("check_span", none), "check_span", "check_span", defArgs s_check_span, defBody s_check_span, defScope s_check_span, [], []⟩,
  ⟨("check_ready", none), "check_ready", "check_ready", defArgs s_check_ready, defBody s_check_ready, defScope s_check_ready, [], []⟩,
  ⟨("check_not_ready", none), "check_not_ready", "check_not_ready", defArgs s_check_not_ready, defBody s_check_not_ready, defScope s_check_not_ready, [], []⟩,
  ⟨("Desk", some "__init__"), "__init__", "Desk.__init__", defArgs s_Desk___init__, defBody s_Desk___init__, defScope s_Desk___init__, [], []⟩,
  ⟨("Desk", some "enter"), "enter", "Desk.enter", defArgs s_Desk_enter, defBody s_Desk_enter, defScope s_Desk_enter, [], []⟩,
  ⟨("Desk", some "sleep"), "sleep", "Desk.sleep", defArgs s_Desk_sleep, defBody s_Desk_sleep, defScope s_Desk_sleep, [], []⟩,
  ⟨("Desk", some "wait"), "wait", "Desk.wait", defArgs s_Desk_wait, defBody s_Desk_wait, defScope s_Desk_wait, [], []⟩,
  ⟨("Desk", some "wake"), "wake", "Desk.wake", defArgs s_Desk_wake, defBody s_Desk_wake, defScope s_Desk_wake, [], []⟩,
  ⟨("Desk", some "turn"), "turn", "Desk.turn", defArgs s_Desk_turn, defBody s_Desk_turn, defScope s_Desk_turn, [], []⟩,
  ⟨("Desk", some "names"), "names", "Desk.names", defArgs s_Desk_names, defBody s_Desk_names, defScope s_Desk_names, [], []⟩,
  ⟨("Desk", some "ready"), "ready", "Desk.ready", defArgs s_Desk_ready, defBody s_Desk_ready, defScope s_Desk_ready, [], []⟩,
  ⟨("Desk", some "state"), "state", "Desk.state", defArgs s_Desk_state, defBody s_Desk_state, defScope s_Desk_state, [], []⟩,
  ⟨("Desk", some "rank"), "rank", "Desk.rank", defArgs s_Desk_rank, defBody s_Desk_rank, defScope s_Desk_rank, [], []⟩,
  ⟨("Desk", some "waited"), "waited", "Desk.waited", defArgs s_Desk_waited, defBody s_Desk_waited, defScope s_Desk_waited, [], []⟩,
  ⟨("Desk", some "left"), "left", "Desk.left", defArgs s_Desk_left, defBody s_Desk_left, defScope s_Desk_left, [], []⟩,
  ⟨("Desk", some "bell"), "bell", "Desk.bell", defArgs s_Desk_bell, defBody s_Desk_bell, defScope s_Desk_bell, [], []⟩,
  ⟨("Desk", some "_known"), "_known", "Desk._known", defArgs s_Desk__known, defBody s_Desk__known, defScope s_Desk__known, [], []⟩,
  ⟨("Desk", some "_waited"), "_waited", "Desk._waited", defArgs s_Desk__waited, defBody s_Desk__waited, defScope s_Desk__waited, [], []⟩,
  ⟨("Desk", some "_ready_callers"), "_ready_callers", "Desk._ready_callers", defArgs s_Desk__ready_callers, defBody s_Desk__ready_callers, defScope s_Desk__ready_callers, [], []⟩,
  ⟨("Desk", some "_chosen"), "_chosen", "Desk._chosen", defArgs s_Desk__chosen, defBody s_Desk__chosen, defScope s_Desk__chosen, [], []⟩,
  ⟨("Desk", some "_make_ready"), "_make_ready", "Desk._make_ready", defArgs s_Desk__make_ready, defBody s_Desk__make_ready, defScope s_Desk__make_ready, [], []⟩,
  ⟨("Desk", some "_go_last"), "_go_last", "Desk._go_last", defArgs s_Desk__go_last, defBody s_Desk__go_last, defScope s_Desk__go_last, [], []⟩,
  ⟨("shown", none), "shown", "shown", defArgs s_shown, defBody s_shown, defScope s_shown, [], []⟩,
  ⟨("doing", none), "doing", "doing", defArgs s_doing, defBody s_doing, defScope s_doing, [], []⟩,
  ⟨("read", none), "read", "read", defArgs s_read, defBody s_read, defScope s_read, [], []⟩,
  ⟨("begun", none), "begun", "begun", defArgs s_begun, defBody s_begun, defScope s_begun, [], []⟩,
  ⟨("seat", none), "seat", "seat", defArgs s_seat, defBody s_seat, defScope s_seat, [], []⟩,
  ⟨("seat_ready", none), "seat_ready", "seat_ready", defArgs s_seat_ready, defBody s_seat_ready, defScope s_seat_ready, [], []⟩,
  ⟨("words_of", none), "words_of", "words_of", defArgs s_words_of, defBody s_words_of, defScope s_words_of, [], []⟩,
  ⟨("number", none), "number", "number", defArgs s_number, defBody s_number, defScope s_number, [], []⟩,
  ⟨("_law_whole", none), "_law_whole", "_law_whole", defArgs s__law_whole, defBody s__law_whole, defScope s__law_whole, [], []⟩,
  ⟨("_law_cell_at", none), "_law_cell_at", "_law_cell_at", defArgs s__law_cell_at, defBody s__law_cell_at, defScope s__law_cell_at, [], []⟩,
  ⟨("_law_mix", none), "_law_mix", "_law_mix", defArgs s__law_mix, defBody s__law_mix, defScope s__law_mix, [], []⟩,
  ⟨("_law_name_by", none), "_law_name_by", "_law_name_by", defArgs s__law_name_by, defBody s__law_name_by, defScope s__law_name_by, [], []⟩,
  ⟨("_law_texts", none), "_law_texts", "_law_texts", defArgs s__law_texts, defBody s__law_texts, defScope s__law_texts, [], []⟩,
  ⟨("_law_word", none), "_law_word", "_law_word", defArgs s__law_word, defBody s__law_word, defScope s__law_word, [], []⟩,
  ⟨("_law_caller", none), "_law_caller", "_law_caller", defArgs s__law_caller, defBody s__law_caller, defScope s__law_caller, [], []⟩,
  ⟨("_law_head", none), "_law_head", "_law_head", defArgs s__law_head, defBody s__law_head, defScope s__law_head, [], []⟩,
  ⟨("_law_row", none), "_law_row", "_law_row", defArgs s__law_row, defBody s__law_row, defScope s__law_row, [], []⟩,
  ⟨("_law_spoilt", none), "_law_spoilt", "_law_spoilt", defArgs s__law_spoilt, defBody s__law_spoilt, defScope s__law_spoilt, [], []⟩,
  ⟨("_law_text", none), "_law_text", "_law_text", defArgs s__law_text, defBody s__law_text, defScope s__law_text, [], []⟩,
  ⟨("_law_refused", none), "_law_refused", "_law_refused", defArgs s__law_refused, defBody s__law_refused, defScope s__law_refused, [], []⟩,
  ⟨("_law_number", none), "_law_number", "_law_number", defArgs s__law_number, defBody s__law_number, defScope s__law_number, [], []⟩,
  ⟨("_law_stands", none), "_law_stands", "_law_stands", defArgs s__law_stands, defBody s__law_stands, defScope s__law_stands, [], []⟩,
  ⟨("law", none), "law", "law", defArgs s_law, defBody s_law, defScope s_law, [], []⟩]
def tf : List He.Defn := [("is_name", none), ("number", none)]
def ex (K : PySem.W.Frag) : Bool := (exOk K) && (strOk K) && (decide (He.tabOf K (He.codeOf K ("is_name", none)) ≠ He.tabOf K (He.codeOf K ("Desk", some "ready")))) && (decide (He.tabOf K (He.codeOf K ("number", none)) ≠ He.tabOf K (He.codeOf K ("Desk", some "ready"))))
end Rr

set_option maxRecDepth 100000
set_option maxHeartbeats 4000000
namespace Rr.K
open PySem PySem.Spec PyProof.Rows L2
open GxR (TabG Tabbed)
section
variable {P : Program} {w : World} {K : PySem.W.Frag} {mg : Str → Option Value} {base : Heap}
abbrev tabN (K : PySem.W.Frag) : Addr := He.tabOf K (He.codeOf K ("is_name", none))
abbrev xc (K : PySem.W.Frag) (x : Str) : Value := .ref (He.ga K x)
def sp_is_name (K : PySem.W.Frag) : Sp := fun vs H Q _ => ∃ x : Str, vs = [.str x] ∧ x.length ≤ sizeLine ∧ TabG H (tabN K) ∧ ∀ H', Keep K [] H H' → Q (.bl (isName x)) H'
theorem isName_of {x : Str} (h1 : 1 ≤ (x.length : Int)) (h2 : (x.length : Int) ≤ 12) : isName x = x.cps.toList.all isSign := by
  unfold isName
  rw [decide_eq_true (show 1 ≤ x.length ∧ x.length ≤ 12 by omega), Bool.true_and]
theorem isName_no {x : Str} (h : ¬ (1 ≤ (x.length : Int) ∧ (x.length : Int) ≤ 12)) : isName x = false := by
  unfold isName
  rw [decide_eq_false (show ¬ (1 ≤ x.length ∧ x.length ≤ 12) by omega), Bool.false_and]
theorem c_is_name (T : Tx K mg base) : Cal P w K mg base 1 "is_name" (sp_is_name K) := by
  obtain ⟨fd, F⟩ := T.d_is_name
  refine ⟨_, fd, ["text"], okF (k := 0) F sc_is_name (fun vs H Q E h => ?_) (fun A outer s H vs Q E hr h => ?_), T.r_is_name, F.kp, F.bindsN fun _ _ _ _ _ _ us hl => match us, hl with | [_], _ => rfl⟩
  · obtain ⟨x, rfl, _⟩ := h
    rfl
  · have nd := sc_is_name.nd
    obtain ⟨x, rfl, hx, hT, q⟩ := h
    refine ⟨_, (pss_cons (ps_if (pt_not (pt_rng pe_int (pe_callB call_len_str (by rfl) T.m_len boot_len (pa_cons (pv 0) pa_nil)) (pgI (by rfl) T.h_MOST_SIGNS)))
  (pss_one (ps_ret pe_bl))
  pss_nil)
  (pss_one (ps_ret (pe_all hr (by rfl) T.m_all T.tb_is_name rfl (gs_of (by decide +kernel)) (pv 0) (elt_in rfl rfl rfl T.h_SIGNS) (fun _ => rfl))))), ?_⟩
    refine ⟨1, _, 12, fun _ z => z, fun _ z => ⟨_, rfl, _, rfl, hx, z⟩, fun _ z => z, ?_⟩
    by_cases e : 1 ≤ (x.length : Int) ∧ (x.length : Int) ≤ 12
    · rw [decide_eq_true e]
      refine iteF ⟨_, rfl, x, rfl, hT, fun H2 t => ?_⟩
      have e2 := q H2 (Keep.tabbed t hT T.nr_is_name)
      rw [isName_of e.1 e.2] at e2
      exact e2
    · rw [decide_eq_false e]
      have e2 := q H (Keep.refl _ _)
      rw [isName_no e] at e2
      exact iteT e2
def sp_check_name (K : PySem.W.Frag) : Sp := fun vs H Q E => ∃ x : Str, vs = [.str x] ∧ Small x ∧ TabG H (tabN K) ∧ ∀ H', Keep K [] H H' → (isName x = false → E (xc K "NoName") none H') ∧ (isName x = true → Q .non H')
theorem c_check_name (T : Tx K mg base) : Cal P w K mg base 2 "check_name" (sp_check_name K) := by
  have c_is_name : Cal P w K mg base 1 "is_name" (sp_is_name K) := c_is_name T
  obtain ⟨fd, F⟩ := T.d_check_name
  refine ⟨_, fd, ["text"], okF (k := 1) F sc_check_name (fun vs H Q E h => ?_) (fun A outer s H vs Q E hr h => ?_), T.r_check_name, F.kp, F.bindsN fun _ _ _ _ _ _ us hl => match us, hl with | [_], _ => rfl⟩
  · obtain ⟨x, rfl, _⟩ := h
    rfl
  · have nd := sc_check_name.nd
    obtain ⟨x, rfl, hx, hT, q⟩ := h
    refine ⟨_, (pss_one (ps_if (pt_not (pt_val (pf c_is_name hr (by decide) (by rfl) p0 (pa_cons (pv 0) pa_nil))))
  (pss_one (GE.ps_raise rfl (GE.takes_of rfl rfl rfl rfl) (GE.pmk1 PySem.F.excBase_ValueError T.e_NoName.1 T.r_NoName T.e_NoName.2.1 (raises_own T.e_NoName.2.2.1 T.e_NoName.2.2.2) rfl (GE.pe_joinedS (.cons (pe_fmtR (pv 0)) (.cons pe_str .nil))))))
  pss_nil)), ?_⟩
    refine ⟨_, rfl, x, rfl, hx.line, hT, fun H2 k2 => ⟨_, rfl, ?_⟩⟩
    cases e : isName x with
    | true => exact iteF ((q H2 k2).2 e)
    | false =>
      have h1 := fitN (k := 1000002) 0 1000002 len0 hx.repr
      exact iteT ⟨_, rfl, .inl ⟨_, rfl, line_of hx.repr, _, rfl, line_of h1, _, rfl, fit 1000002 20 h1 (by decide), (q H2 k2).1 e⟩⟩
def sp_check_rank (K : PySem.W.Frag) : Sp := fun vs H Q E => ∃ r : Int, vs = [.int r] ∧ Mod r ∧ (¬ (0 ≤ r ∧ r ≤ 99) → E (xc K "NoRank") none H) ∧ (0 ≤ r ∧ r ≤ 99 → Q .non H)
theorem c_check_rank (T : Tx K mg base) : Cal P w K mg base 1 "check_rank" (sp_check_rank K) := by
  obtain ⟨fd, F⟩ := T.d_check_rank
  refine ⟨_, fd, ["rank"], okF (k := 0) F sc_check_rank (fun vs H Q E h => ?_) (fun A outer s H vs Q E hr h => ?_), T.r_check_rank, F.kp, F.bindsN fun _ _ _ _ _ _ us hl => match us, hl with | [_], _ => rfl⟩
  · obtain ⟨x, rfl, _⟩ := h
    rfl
  · have nd := sc_check_rank.nd
    obtain ⟨r, rfl, hr9, q1, q2⟩ := h
    refine ⟨_, (pss_one (ps_if (pt_not (pt_rng pe_int (pv 0) (pgI (by rfl) T.h_TOP)))
  (pss_one (GE.ps_raise rfl (GE.takes_of rfl rfl rfl rfl) (GE.pmk1 PySem.F.excBase_ValueError T.e_NoRank.1 T.r_NoRank T.e_NoRank.2.1 (raises_own T.e_NoRank.2.2.1 T.e_NoRank.2.2.2) rfl (GE.pe_joinedS (.cons pe_str (.cons (pe_fmt (pgI (by rfl) T.h_TOP)) (.cons pe_str (.cons (pe_fmt (pv 0)) .nil))))))))
  pss_nil)), ?_⟩
    refine ⟨0, r, 99, fun _ z => z, fun _ z => ⟨_, rfl, z⟩, fun _ z => z, ?_⟩
    by_cases e : 0 ≤ r ∧ r ≤ 99
    · rw [decide_eq_true e]
      exact iteF (q2 e)
    · rw [decide_eq_false e]
      refine iteT ⟨_, rfl, by decide, .inr ⟨99, rfl, by decide, _, rfl, fit 24 4 (by decide) (by decide), _, rfl, fit 28 10 (by decide) (by decide), _, rfl, .inr ⟨r, rfl, hr9.log, _, rfl, fit 40 1921 (by decide) hr9.len, q1 e⟩⟩⟩
/-! ### the makers -/
abbrev rawC (n : Str) (r : Int) (a b c d : V) : List (Str × V) := [("name", .str n), ("rank", .int r), ("state", a), ("since", b), ("due", c), ("bell", d)]
def sp_Caller (K : PySem.W.Frag) : Sp := fun vs H Q _ => ∃ (x dx : Addr) (n : Str) (r : Int) (s : V), vs = [.ref x, .str n, .int r, s] ∧ H x = some (.ins (He.ga K "Caller") dx []) ∧ Q .non (upd H x (.ins (He.ga K "Caller") dx (rawC n r (.str "ready") s .non .non)))
theorem c_Caller (T : Tx K mg base) : Mak P w K mg base 1 "Caller" (He.ga K "Caller") (sp_Caller K) := by
  obtain ⟨fd, F⟩ := T.d_Caller___init__
  refine ⟨_, fd, ["self", "name", "rank", "since"], T.mk_Caller, okF (k := 0) F sc_Caller___init__ (fun vs H Q E h => ?_) (fun A outer s H vs Q E hr h => ?_), T.r_Caller, F.bindsN fun _ _ _ _ _ _ us hl => match us, hl with | [_, _, _, _], _ => rfl⟩
  · obtain ⟨x, dx, n, r, s, rfl, _⟩ := h
    rfl
  · have nd := sc_Caller___init__.nd
    obtain ⟨x, dx, n, r, s, rfl, h0, q⟩ := h
    refine ⟨_, (pss_cons (ps_fld (pv 0) (pv 1) rfl)
  (pss_cons (ps_fld (pv 0) (pv 2) rfl)
  (pss_cons (ps_fld (pv 0) (pgS (by rfl) T.h_READY) rfl)
  (pss_cons (ps_fld (pv 0) (pv 3) rfl)
  (pss_cons (ps_fld (pv 0) pe_non rfl)
  (pss_one (ps_fld (pv 0) pe_non rfl))))))), ?_⟩
    have l0 : ([] : List (Str × V)).length ≤ 0 := Nat.le_refl 0
    refine ⟨_, rfl, _, rfl, x, _, dx, _, rfl, h0, T.cl_Caller, T.na_Caller_name, few l0, ?_⟩
    refine ⟨_, rfl, _, rfl, x, _, dx, _, rfl, upd_same, T.cl_Caller, T.na_Caller_rank, few (putF_le l0), ?_⟩
    refine ⟨_, rfl, x, _, dx, _, rfl, upd_same, T.cl_Caller, T.na_Caller_state, few (putF_le (putF_le l0)), ?_⟩
    refine ⟨_, rfl, _, rfl, x, _, dx, _, rfl, upd_same, T.cl_Caller, T.na_Caller_since, few (putF_le (putF_le (putF_le l0))), ?_⟩
    refine ⟨_, rfl, x, _, dx, _, rfl, upd_same, T.cl_Caller, T.na_Caller_due, few (putF_le (putF_le (putF_le (putF_le l0)))), ?_⟩
    refine ⟨_, rfl, x, _, dx, _, rfl, upd_same, T.cl_Caller, T.na_Caller_bell, few (putF_le (putF_le (putF_le (putF_le (putF_le l0))))), ?_⟩
    simp only [upd_upd]
    exact q
def sp_Desk (K : PySem.W.Frag) : Sp := fun vs H Q E => ∃ (d dx : Addr) (p r : Int), vs = [.ref d, .int p, .int r] ∧ Mod p ∧ Mod r ∧ H d = some (.ins (He.ga K "Desk") dx []) ∧ (¬ ((1 ≤ p ∧ p ≤ 1000) ∧ 1 ≤ r ∧ r ≤ 60) → E (xc K "NoDesk") none H) ∧
  (((1 ≤ p ∧ p ≤ 1000) ∧ 1 ≤ r ∧ r ≤ 60) → ∀ L H', H L = none → Keep K [d] H H' → DkAt K H' [d, L] d ⟨p, r, 0, []⟩ → Q .non H')
theorem c_Desk (T : Tx K mg base) : Mak P w K mg base 1 "Desk" (He.ga K "Desk") (sp_Desk K) := by
  obtain ⟨fd, F⟩ := T.d_Desk___init__
  refine ⟨_, fd, ["self", "pace", "room"], T.mk_Desk, okF (k := 0) F sc_Desk___init__ (fun vs H Q E h => ?_) (fun A outer s H vs Q E hr h => ?_), T.r_Desk, F.bindsN fun _ _ _ _ _ _ us hl => match us, hl with | [_, _, _], _ => rfl⟩
  · obtain ⟨d, dx, p, r, rfl, _⟩ := h
    rfl
  · have nd := sc_Desk___init__.nd
    obtain ⟨d, dx, p, r, rfl, hp9, hr9, h0, q1, q2⟩ := h
    refine ⟨_, (pss_cons (ps_if (pt_not (pt_rng pe_int (pv 1) (pgI (by rfl) T.h_MOST_PACE)))
  (pss_one (GE.ps_raise rfl (GE.takes_of rfl rfl rfl rfl) (GE.pmk1 PySem.F.excBase_ValueError T.e_NoDesk.1 T.r_NoDesk T.e_NoDesk.2.1 (raises_own T.e_NoDesk.2.2.1 T.e_NoDesk.2.2.2) rfl (GE.pe_joinedS (.cons pe_str (.cons (pe_fmt (pgI (by rfl) T.h_MOST_PACE)) (.cons pe_str (.cons (pe_fmt (pv 1)) .nil))))))))
  pss_nil)
  (pss_cons (ps_if (pt_not (pt_rng pe_int (pv 2) (pgI (by rfl) T.h_MOST_ROOM)))
  (pss_one (GE.ps_raise rfl (GE.takes_of rfl rfl rfl rfl) (GE.pmk1 PySem.F.excBase_ValueError T.e_NoDesk.1 T.r_NoDesk T.e_NoDesk.2.1 (raises_own T.e_NoDesk.2.2.1 T.e_NoDesk.2.2.2) rfl (GE.pe_joinedS (.cons pe_str (.cons (pe_fmt (pgI (by rfl) T.h_MOST_ROOM)) (.cons pe_str (.cons (pe_fmt (pv 2)) .nil))))))))
  pss_nil)
  (pss_cons (ps_fld (pv 0) (pv 1) rfl)
  (pss_cons (ps_fld (pv 0) (pv 2) rfl)
  (pss_cons (ps_fld (pv 0) pe_int rfl)
  (pss_one (ps_fld (pv 0) pe_dnewK rfl))))))), ?_⟩
    refine ⟨1, p, 1000, fun _ z => z, fun _ z => ⟨_, rfl, z⟩, fun _ z => z, ?_⟩
    by_cases e1 : 1 ≤ p ∧ p ≤ 1000
    case neg =>
      rw [decide_eq_false e1]
      refine iteT ⟨_, rfl, by decide, .inr ⟨1000, rfl, by decide, _, rfl, fit 24 4 (by decide) (by decide), _, rfl, fit 28 10 (by decide) (by decide), _, rfl, .inr ⟨p, rfl, hp9.log, _, rfl, fit 40 1921 (by decide) hp9.len, q1 fun z => e1 z.1⟩⟩⟩
    rw [decide_eq_true e1]
    refine iteF ⟨1, r, 60, fun _ z => z, fun _ z => ⟨_, rfl, z⟩, fun _ z => z, ?_⟩
    by_cases e2 : 1 ≤ r ∧ r ≤ 60
    case neg =>
      rw [decide_eq_false e2]
      refine iteT ⟨_, rfl, by decide, .inr ⟨60, rfl, by decide, _, rfl, fit 24 4 (by decide) (by decide), _, rfl, fit 28 10 (by decide) (by decide), _, rfl, .inr ⟨r, rfl, hr9.log, _, rfl, fit 40 1921 (by decide) hr9.len, q1 fun z => e2 z.2⟩⟩⟩
    rw [decide_eq_true e2]
    have l0 : ([] : List (Str × V)).length ≤ 0 := Nat.le_refl 0
    refine iteF ⟨_, rfl, _, rfl, d, _, dx, _, rfl, h0, T.cl_Desk, T.na_Desk_pace, few l0, ?_⟩
    refine ⟨_, rfl, _, rfl, d, _, dx, _, rfl, upd_same, T.cl_Desk, T.na_Desk_room, few (putF_le l0), ?_⟩
    refine ⟨_, rfl, d, _, dx, _, rfl, upd_same, T.cl_Desk, T.na_Desk_now, few (putF_le (putF_le l0)), ?_⟩
    simp only [upd_upd]
    intro L hL
    have hL0 : H L = none := (Keep.upd (K := K) (S := [d]) h0 (List.mem_singleton.mpr rfl) nt_ins).gone L hL
    have dL : d ≠ L := ne_of_none h0 hL0
    refine ⟨_, rfl, d, _, dx, _, rfl, (upd_ne dL).trans upd_same, T.cl_Desk, T.na_Desk__line, few (putF_le (putF_le (putF_le l0))), ?_⟩
    refine q2 ⟨e1, e2⟩ L _ hL0 (((Keep.upd h0 (List.mem_singleton.mpr rfl) nt_ins).trans (Keep.new hL)).trans (Keep.upd ((upd_ne dL).trans upd_same) (List.mem_singleton.mpr rfl) nt_ins)) ⟨L, [], rfl, ⟨dx, upd_same⟩, (upd_ne dL.symm).trans upd_same, fun p hp => (nomatch hp), rfl, List.nodup_nil, List.nodup_nil, Nat.zero_le _, fun c hc => (nomatch hc), ⟨e1, e2⟩⟩
/-- a new desk -/
theorem made_desk {H : Hp} {p r : Int} {Q : VK} {E : XK} {x dx : Addr} (ok : (1 ≤ p ∧ p ≤ 1000) ∧ 1 ≤ r ∧ r ≤ 60) (q : ∀ S H', Keep K [] H H' → DkAt K H' S x ⟨p, r, 0, []⟩ → (∀ b ∈ S, H b = none) → Q .non H') (nx : H x = none) (ndx : H dx = none) (ne : dx ≠ x) :
    sp_Desk K [.ref x, .int p, .int r] (upd (upd H dx (.own x)) x (.ins (He.ga K "Desk") dx [])) Q E := by
  have k1 : Keep K [] H (upd (upd H dx (.own x)) x (.ins (He.ga K "Desk") dx [])) := (Keep.new ndx).trans (Keep.new ((upd_ne ne.symm).trans nx))
  refine ⟨x, dx, p, r, rfl, ⟨by omega, by omega⟩, ⟨by omega, by omega⟩, upd_same, fun z => absurd ok z, fun _ L H' hL k hD => q [x, L] H' (k1.trans' k fun b hb => .inr (by rw [List.mem_singleton.mp hb]; exact nx)) hD fun b hb => ?_⟩
  rcases List.mem_cons.mp hb with z | z
  · rw [z]
    exact nx
  · rw [List.mem_singleton.mp z]
    exact k1.gone L hL
/-- who enters -/
def _root_.Rr.Dk.enter (D : Dk) (n : Str) (r : Int) : Dk := { D with line := D.line ++ [⟨n, r, .rdy D.now⟩] }
def sp_enter (K : PySem.W.Frag) : Sp := fun vs H Q E => ∃ (d : Addr) (S : List Addr) (D : Dk) (n : Str) (r : Int), vs = [.ref d, .str n, .int r] ∧ Small n ∧ Mod r ∧ TabG H (tabN K) ∧ DkAt K H S d D ∧ D.room ≤ 60 ∧ 0 ≤ D.room ∧ ∀ H',
  (Keep K [] H H' → isName n = false → E (xc K "NoName") none H') ∧ (Keep K [] H H' → isName n = true → ¬ (0 ≤ r ∧ r ≤ 99) → E (xc K "NoRank") none H') ∧
  (Keep K [] H H' → isName n = true → (0 ≤ r ∧ r ≤ 99) → n ∈ namesL D.line → E (xc K "Known") none H') ∧ (Keep K [] H H' → isName n = true → (0 ≤ r ∧ r ≤ 99) → n ∉ namesL D.line → D.room ≤ D.line.length → E (xc K "Full") none H') ∧
  (isName n = true → (0 ≤ r ∧ r ≤ 99) → n ∉ namesL D.line → ¬ D.room ≤ D.line.length → ∀ S', Keep K S H H' → Sub H S S' → DkAt K H' S' d (D.enter n r) → Q .non H')
theorem c_Desk_enter (T : Tx K mg base) : Met P w K mg base 3 (He.ga K "Desk") "enter" (sp_enter K) := by
  have c_check_name : Cal P w K mg base 2 "check_name" (sp_check_name K) := c_check_name T
  have c_check_rank : Cal P w K mg base 1 "check_rank" (sp_check_rank K) := c_check_rank T
  have c_Caller : Mak P w K mg base 1 "Caller" (He.ga K "Caller") (sp_Caller K) := c_Caller T
  obtain ⟨fd, F⟩ := T.d_Desk_enter
  refine ⟨_, fd, ["self", "name", "rank"], T.cl_Desk, T.me_Desk_enter, okF (k := 2) F sc_Desk_enter (fun vs H Q E h => ?_) (fun A outer s H vs Q E hr h => ?_), F.bindsN fun _ _ _ _ _ _ us hl => match us, hl with | [_, _, _], _ => rfl⟩
  · obtain ⟨d, S, D, n, r, rfl, _⟩ := h
    rfl
  · have nd := sc_Desk_enter.nd
    obtain ⟨d, S, D, n, r, rfl, hn9, hr9, hT, hD, hr60, hr0, q⟩ := h
    refine ⟨_, (pss_cons (ps_expr (pf c_check_name hr (by decide) (by rfl) (pU (GE.takes_of rfl rfl rfl rfl)) (pa_cons (pv 1) pa_nil)))
  (pss_cons (ps_expr (pf c_check_rank hr (by decide) (by rfl) (pU (GE.takes_of rfl rfl rfl rfl)) (pa_cons (pv 2) pa_nil)))
  (pss_cons (ps_if (pt_cmp (pc_din (hu_of hr) (pv 1) (pe_fld (pv 0) rfl)))
  (pss_one (GE.ps_raise rfl (GE.takes_of rfl rfl rfl rfl) (GE.pmk1 PySem.F.excBase_ValueError T.e_Known.1 T.r_Known T.e_Known.2.1 (raises_own T.e_Known.2.2.1 T.e_Known.2.2.2) rfl (GE.pe_joinedS (.cons pe_str (.cons (pe_fmt (pv 1)) (.cons pe_str .nil)))))))
  pss_nil)
  (pss_cons (ps_if (pt_cmpR op_ge (pe_callB call_lenD (by rfl) T.m_len boot_len (pa_cons (pe_fld (pv 0) rfl) pa_nil)) (pe_fld (pv 0) rfl) (nomark _))
  (pss_one (GE.ps_raise rfl (GE.takes_of rfl rfl rfl rfl) (GE.pmk1 PySem.F.excBase_ValueError T.e_Full.1 T.r_Full T.e_Full.2.1 (raises_own T.e_Full.2.2.1 T.e_Full.2.2.2) rfl (GE.pe_joinedS (.cons pe_str (.cons (pe_fmt (pe_fld (pv 0) rfl)) (.cons pe_str .nil)))))))
  pss_nil)
  (pss_one (ps_dput (hu_of hr) (pe_fld (pv 0) rfl) (pv 1) (pc c_Caller hr (by decide) (by rfl) passN (pa_cons (pv 1) (pa_cons (pv 2) (pa_cons (pe_fld (pv 0) rfl) pa_nil)))) rfl)))))), ?_⟩
    refine ⟨_, rfl, n, rfl, hn9, hT, fun H1 k1 => ⟨fun e => (q H1).1 k1 e, fun en => ?_⟩⟩
    refine ⟨_, rfl, r, rfl, hr9, fun e => (q H1).2.1 k1 en e, fun er => ?_⟩
    obtain ⟨L, ln, rfl, x0⟩ := hD
    have x := x0.keep k1 fun _ _ => List.not_mem_nil
    obtain ⟨dx, hd⟩ := id x.desk
    refine ⟨_, rfl, _, rfl, d, _, dx, _, _, rfl, hd, T.cl_Desk, T.na_Desk__line, rfl, L, _, rfl, DGet.k (k := Sum.inr n) x.line, _, rfl, ?_⟩
    by_cases em : n ∈ namesL D.line
    · obtain ⟨p, e1, _⟩ := find_some (ln := ln) (by rw [x.eq]; exact em)
      rw [kvs_find, e1]
      refine iteT ⟨_, rfl, by decide, _, rfl, .inl ⟨n, rfl, hn9.line, _, rfl, fit 30 100000 (by decide) hn9.1, _, rfl, fit 100030 30 (fitN 30 100000 (by decide) hn9.1) (by decide), (q H1).2.2.1 k1 en er em⟩⟩
    · rw [kvs_find, find_none (by rw [x.eq]; exact em)]
      refine iteF ⟨_, rfl, d, _, dx, _, _, rfl, hd, T.cl_Desk, T.na_Desk__line, rfl, L, _, rfl, x.line, _, rfl, d, _, dx, _, _, rfl, hd, T.cl_Desk, T.na_Desk_room, rfl, _, _, rfl, rfl, _, rfl, ?_⟩
      rw [kvs_len]
      have el : ln.length = D.line.length := by rw [← x.eq, List.length_map]
      rw [el]
      by_cases ef : D.room ≤ (D.line.length : Int)
      · rw [decide_eq_true ef]
        have mr : Mod D.room := ⟨by omega, by omega⟩
        refine iteT ⟨_, rfl, by decide, _, rfl, d, _, dx, _, _, rfl, hd, T.cl_Desk, T.na_Desk_room, rfl, .inr ⟨_, rfl, mr.log, _, rfl, fit 30 1921 (by decide) mr.len, _, rfl, fit 2000 30 (fitN 30 1921 (by decide) mr.len) (by decide), (q H1).2.2.2.1 k1 en er em ef⟩⟩
      · rw [decide_eq_false ef]
        refine iteF ⟨_, rfl, _, rfl, _, rfl, d, _, dx, _, _, rfl, hd, T.cl_Desk, T.na_Desk_now, rfl, fun a da na nda ne => ?_⟩
        have nda' : ∀ b o, H1 b = some o → b ≠ da ∧ b ≠ a := fun b o e => ⟨ne_of_none e nda, ne_of_none e na⟩
        refine ⟨a, da, n, r, .int D.now, rfl, upd_same, rfl, ?_⟩
        rw [upd_upd]
        obtain ⟨z1, z2⟩ := nda' _ _ hd
        obtain ⟨y1, y2⟩ := nda' _ _ x.line
        refine ⟨_, rfl, d, _, dx, _, _, rfl, (upd_ne z2).trans ((upd_ne z1).trans hd), T.cl_Desk, T.na_Desk__line, rfl, _, rfl, _, _, rfl, DPut.k (k := Sum.inr n) ((upd_ne y2).trans ((upd_ne y1).trans x.line)) ?_, ?_⟩
        · rw [kvs_len, el]
          exact small1000 (Nat.le_trans x.len (by decide))
        · refine (q _).2.2.2.2 en er em ef (d :: L :: (ln ++ [(a, (⟨n, r, .rdy D.now⟩ : Cr))]).map (·.1)) ?_ ?_ ⟨L, _, rfl, x.add (c := ⟨n, r, .rdy D.now⟩) na nda ne em (by omega) en⟩
          · exact (((k1.any.trans (Keep.new nda)).trans (Keep.new ((upd_ne ne.symm).trans na))).trans (Keep.upd ((upd_ne y2).trans ((upd_ne y1).trans x.line)) (by simp) nt_dK))
          · intro b hb
            rw [List.map_append] at hb
            rcases List.mem_cons.mp hb with z | z
            · exact .inl (by rw [z]; simp)
            · rcases List.mem_cons.mp z with z | z
              · exact .inl (by rw [z]; simp)
              · rcases List.mem_append.mp z with z | z
                · exact .inl (by simp [z])
                · have : b = a := by simpa using z
                  rw [this]
                  exact .inr (k1.gone _ na)
def sp_names (K : PySem.W.Frag) : Sp := fun vs H Q _ => ∃ (d : Addr) (S : List Addr) (D : Dk), vs = [.ref d] ∧ DkAt K H S d D ∧ ∀ p, H p = none → Q (.ref p) (upd H p (.lst ((namesL D.line).map V.str)))
theorem c_Desk_names (T : Tx K mg base) : Met P w K mg base 1 (He.ga K "Desk") "names" (sp_names K) := by
  obtain ⟨fd, F⟩ := T.d_Desk_names
  refine ⟨_, fd, ["self"], T.cl_Desk, T.me_Desk_names, okF (k := 0) F sc_Desk_names (fun vs H Q E h => ?_) (fun A outer s H vs Q E hr h => ?_), F.bindsN fun _ _ _ _ _ _ us hl => match us, hl with | [_], _ => rfl⟩
  · obtain ⟨d, S, D, rfl, _⟩ := h
    rfl
  · have nd := sc_Desk_names.nd
    obtain ⟨d, S, D, rfl, ⟨L, ln, rfl, x⟩, q⟩ := h
    obtain ⟨dx, hd⟩ := id x.desk
    refine ⟨_, (pss_one (ps_ret (pe_callTy (call_listD rfl) (by rfl) T.m_list (by decide +kernel) (pa_cons (pe_fld (pv 0) rfl) pa_nil)))), ?_⟩
    refine ⟨_, rfl, d, _, dx, _, _, rfl, hd, T.cl_Desk, T.na_Desk__line, rfl, L, _, rfl, .inl x.line, ?_⟩
    rw [kvs_keys, x.eq]
    exact q
end
end Rr.K

set_option maxRecDepth 100000
set_option maxHeartbeats 4000000
/-! the numbers and names that the laws draw -/
namespace Rr
open PySem PySem.Spec PyProof.Rows L2
def cell (ns : List Int) (k : Int) : Int := ns.getD k.toNat 0
def mix (c p m : Int) : Int := c * 48271 % p % m
theorem mix_nn {c p m : Int} (hm : 0 < m) : 0 ≤ mix c p m ∧ mix c p m < m := ⟨Int.emod_nonneg _ (by omega), Int.emod_lt_of_pos _ hm⟩
/-! names -/
abbrev FIGL : List Nat := ("0123456789" : Str).cps.toList
def someL (c : Int) : List Nat := if mix c 10259 5 = 0 then FIGL else SIGNSL
def manyL (c : Int) : Int := if mix c 10259 5 = 0 then 10 else 36
theorem manyL_of (c : Int) : ((someL c).length : Int) = manyL c := by
  unfold someL manyL
  split <;> decide +kernel
theorem manyL_c (c : Int) : manyL c = 10 ∨ manyL c = 36 := by
  unfold manyL
  split
  · exact .inl rfl
  · exact .inr rfl
/-- the sign at a place, gone round -/
def sgn (c i : Int) : Nat := (someL c).getD i.toNat 48
theorem sgn_at {c i : Int} (h0 : 0 ≤ i) (h1 : i < manyL c) : atI (someL c) i = some (sgn c i) := by
  have hl : i.toNat < (someL c).length := by have := manyL_of c; omega
  rw [atZ h0 hl]
  unfold sgn
  rw [List.getD_eq_getElem?_getD, List.getElem?_eq_getElem hl]
  rfl
theorem sgn_sign {c i : Int} : isSign (sgn c i) = true := by
  have h1 : ∀ z ∈ FIGL, isSign z = true := by decide +kernel
  have h2 : ∀ z ∈ SIGNSL, isSign z = true := by decide +kernel
  have h3 : isSign 48 = true := by decide +kernel
  unfold sgn
  rw [List.getD_eq_getElem?_getD]
  cases e : (someL c)[i.toNat]? with
  | none => exact h3
  | some z =>
    have hz := List.mem_of_getElem? e
    unfold someL at hz
    split at hz
    · exact h1 z hz
    · exact h2 z hz
theorem sgn_inj {c i j : Int} (hi : 0 ≤ i ∧ i < manyL c) (hj : 0 ≤ j ∧ j < manyL c) (h : sgn c i = sgn c j) : i = j := by
  have nd1 : FIGL.Nodup := by decide +kernel
  have nd2 : SIGNSL.Nodup := by decide +kernel
  have nd : (someL c).Nodup := by
    unfold someL
    split
    · exact nd1
    · exact nd2
  have li : i.toNat < (someL c).length := by have := manyL_of c; omega
  have lj : j.toNat < (someL c).length := by have := manyL_of c; omega
  unfold sgn at h
  rw [List.getD_eq_getElem?_getD, List.getD_eq_getElem?_getD, List.getElem?_eq_getElem li, List.getElem?_eq_getElem lj] at h
  have h : (someL c)[i.toNat] = (someL c)[j.toNat] := h
  rcases Nat.lt_trichotomy i.toNat j.toNat with z | z | z
  · exact absurd h (List.pairwise_iff_getElem.mp nd _ _ li lj z)
  · omega
  · exact absurd h.symm (List.pairwise_iff_getElem.mp nd _ _ lj li z)
def nearI (k c : Int) : Int := (k + c % manyL c) / manyL c
def tellI (k c : Int) : Int := (k + c) % manyL c
def baseL (c : Int) : List Nat := (List.range (2 + mix c 10313 11).toNat).map fun (j : Nat) => sgn c ((c / 72 + 7 * (0 + (j : Int))) % manyL c)
def moreL (k c : Int) (n : Nat) : List Nat := (List.range n).map fun (j : Nat) => sgn c ((c / 72 + 7 * (0 + (j : Int)) + k * (0 + (j : Int))) % manyL c)
def atN (c : Int) : Nat := (mix c 10321 (2 + mix c 10313 11 - 1)).toNat
def pairL (k c : Int) : List Nat := [sgn c (nearI k c), sgn c (tellI k c)]
def longL (k c : Int) : List Nat := pairL k c ++ moreL k c (mix (c + k) 10007 11).toNat
def nameL (k c : Int) : List Nat :=
  if mix c 10303 2 = 0 then (baseL c).take (atN c) ++ pairL k c ++ (baseL c).drop (atN c + 2)
  else if k < manyL c ∧ mix (c + 3 * k) 10253 8 = 0 then [sgn c (tellI k c)]
  else if c / 36 % 2 = 1 then (longL k c).reverse else longL k c
def nameBy (k c : Int) : Str := SX.S (nameL k c)
theorem near_ok {k c : Int} (h0 : 0 ≤ k) (h1 : k < 80) : 0 ≤ nearI k c ∧ nearI k c < manyL c := by
  unfold nearI
  rcases manyL_c c with e | e <;> rw [e] <;> omega
theorem tell_ok {k c : Int} : 0 ≤ tellI k c ∧ tellI k c < manyL c := by
  unfold tellI
  rcases manyL_c c with e | e <;> rw [e] <;> omega
theorem base_len (c : Int) : (baseL c).length = (2 + mix c 10313 11).toNat := by
  unfold baseL
  rw [List.length_map, List.length_range]
theorem at_ok (c : Int) : atN c + 2 ≤ (baseL c).length := by
  rw [base_len]
  have h1 := mix_nn (c := c) (p := 10313) (m := 11) (by decide)
  have h2 := mix_nn (c := c) (p := 10321) (m := 2 + mix c 10313 11 - 1) (by omega)
  unfold atN
  omega
theorem take2 {a b : List Nat} {l : List Nat} (h : a = b) : a ++ l = b ++ l := by rw [h]
theorem name_ok {k c : Int} (h0 : 0 ≤ k) (h1 : k < 80) : isName (nameBy k c) = true := by
  have key : ∀ l : List Nat, 1 ≤ l.length → l.length ≤ 12 → (∀ z ∈ l, isSign z = true) → isName (SX.S l) = true := by
    intro l a b h
    unfold isName
    rw [Bool.and_eq_true]
    exact ⟨decide_eq_true (by rw [SX.S_len]; exact ⟨a, b⟩), List.all_eq_true.mpr h⟩
  have hp : ∀ z ∈ pairL k c, isSign z = true := by
    intro z hz
    rcases List.mem_cons.mp hz with rfl | hz
    · exact sgn_sign
    · rw [List.mem_singleton.mp hz]
      exact sgn_sign
  have hb : ∀ z ∈ baseL c, isSign z = true := by
    intro z hz
    obtain ⟨j, _, rfl⟩ := List.mem_map.mp hz
    exact sgn_sign
  have hm : ∀ n, ∀ z ∈ moreL k c n, isSign z = true := by
    intro n z hz
    obtain ⟨j, _, rfl⟩ := List.mem_map.mp hz
    exact sgn_sign
  unfold nameBy nameL
  have m1 := mix_nn (c := c) (p := 10313) (m := 11) (by decide)
  have m2 := mix_nn (c := c + k) (p := 10007) (m := 11) (by decide)
  have ha := at_ok c
  have hbl := base_len c
  split
  · refine key _ ?_ ?_ ?_
    · simp [pairL]
      omega
    · simp [pairL]
      omega
    · intro z hz
      rcases List.mem_append.mp hz with h | h
      · rcases List.mem_append.mp h with h | h
        · exact hb z (List.mem_of_mem_take h)
        · exact hp z h
      · exact hb z (List.mem_of_mem_drop h)
  · have hlong : 1 ≤ (longL k c).length ∧ (longL k c).length ≤ 12 ∧ ∀ z ∈ longL k c, isSign z = true := by
      refine ⟨?_, ?_, ?_⟩
      · simp [longL, pairL]
      · simp [longL, pairL, moreL]
        omega
      · intro z hz
        rcases List.mem_append.mp hz with h | h
        · exact hp z h
        · exact hm _ z h
    split
    · exact key _ (by simp) (by simp) fun z hz => by rw [List.mem_singleton.mp hz]; exact sgn_sign
    · split
      · exact key _ (by rw [List.length_reverse]; exact hlong.1) (by rw [List.length_reverse]; exact hlong.2.1) fun z hz => hlong.2.2 z (List.mem_reverse.mp hz)
      · exact key _ hlong.1 hlong.2.1 hlong.2.2
theorem pair_inj {i k c : Int} (hi : 0 ≤ i ∧ i < 80) (hk : 0 ≤ k ∧ k < 80) (h : pairL i c = pairL k c) : i = k := by
  unfold pairL at h
  injection h with h1 h2
  injection h2 with h2 _
  have e1 := sgn_inj (near_ok hi.1 hi.2) (near_ok hk.1 hk.2) h1
  have e2 := sgn_inj tell_ok tell_ok h2
  unfold nearI at e1
  unfold tellI at e2
  rcases manyL_c c with e | e <;> rw [e] at e1 e2 <;> omega
theorem name_inj {i k c : Int} (hi : 0 ≤ i ∧ i < 80) (hk : 0 ≤ k ∧ k < 80) (h : nameBy i c = nameBy k c) : i = k := by
  have h := SX.S_inj h
  unfold nameL at h
  split at h
  · have h2 := List.append_inj_left' h rfl
    exact pair_inj hi hk (List.append_inj_right h2 rfl)
  · have l2 : ∀ z : Int, 2 ≤ (longL z c).length := fun z => by simp [longL, pairL]
    have ll : longL i c = longL k c → i = k := fun h => by
      unfold longL at h
      have := congrArg (List.take 2) h
      simp [pairL] at this
      exact pair_inj hi hk (by unfold pairL; rw [this.1, this.2])
    have lr : (longL i c).reverse = (longL k c).reverse → i = k := fun h => ll (List.reverse_inj.mp h)
    have lt : ∀ z : Int, (if c / 36 % 2 = 1 then (longL z c).reverse else longL z c).length ≠ 1 := fun z => by
      have := l2 z
      split
      · rw [List.length_reverse]
        omega
      · omega
    by_cases a : i < manyL c ∧ mix (c + 3 * i) 10253 8 = 0
    · rw [if_pos a] at h
      by_cases b : k < manyL c ∧ mix (c + 3 * k) 10253 8 = 0
      · rw [if_pos b] at h
        injection h with h _
        have e2 := sgn_inj tell_ok tell_ok h
        have a1 := a.1
        have b1 := b.1
        unfold tellI at e2
        rcases manyL_c c with e | e <;> rw [e] at e2 a1 b1 <;> omega
      · rw [if_neg b] at h
        exact absurd (congrArg List.length h).symm (lt k)
    · rw [if_neg a] at h
      by_cases b : k < manyL c ∧ mix (c + 3 * k) 10253 8 = 0
      · rw [if_pos b] at h
        exact absurd (congrArg List.length h) (lt i)
      · rw [if_neg b] at h
        split at h
        · exact lr h
        · exact ll h
end Rr

set_option maxRecDepth 100000
set_option maxHeartbeats 4000000
namespace Rr.K
open PySem PySem.Spec PyProof.Rows L2
open GxR (TabG Tabbed)
open Evl (pss_cut)
open TL (tl tl_append len_tl)
/-! the laws' words: cells, numbers, names -/
def paceBy (c : Int) : Int := ([1, 2, 3, 1 + mix c 10067 1000] : List Int).getD (mix c 10069 4).toNat 1
theorem pace_ok (c : Int) : 1 ≤ paceBy c ∧ paceBy c ≤ 1000 := by
  have h := mix_nn (c := c) (p := 10069) (m := 4) (by decide)
  have h2 := mix_nn (c := c) (p := 10067) (m := 1000) (by decide)
  have h3 : (mix c 10069 4).toNat = 0 ∨ (mix c 10069 4).toNat = 1 ∨ (mix c 10069 4).toNat = 2 ∨ (mix c 10069 4).toNat = 3 := by omega
  unfold paceBy
  rcases h3 with e | e | e | e <;> rw [e] <;> simp <;> omega
section
variable {P : Program} {w : World} {K : PySem.W.Frag} {mg : Str → Option Value} {base : Heap}
def sp_cell (K : PySem.W.Frag) : Sp := fun vs H Q _ => ∃ (a : Addr) (ns : List Int) (k : Int), vs = [.ref a, .int k] ∧ SqL K H a (ns.map V.int) ∧ 0 ≤ k ∧ Q (.int (cell ns k)) H
theorem c__law_cell_at (T : Tx K mg base) : Cal P w K mg base 1 "_law_cell_at" (sp_cell K) := by
  obtain ⟨fd, F⟩ := T.d__law_cell_at
  refine ⟨_, fd, ["_law_script", "_law_k"], okF (k := 0) F sc__law_cell_at (fun vs H Q E h => ?_) (fun A outer s H vs Q E hr h => ?_), T.r__law_cell_at, F.kp, F.bindsN fun _ _ _ _ _ _ us hl => match us, hl with | [_, _], _ => rfl⟩
  · obtain ⟨a, ns, k, rfl, _⟩ := h
    rfl
  · have nd := sc__law_cell_at.nd
    obtain ⟨a, ns, z, rfl, hS, hz, q⟩ := h
    obtain ⟨k, rfl⟩ : ∃ k : Nat, z = k := ⟨z.toNat, by omega⟩
    refine ⟨_, (pss_cons (ps_if (pt_cmpR op_lt (pv 1) (pe_callB call_len_seq (by rfl) T.m_len boot_len (pa_cons (pv 0) pa_nil)) (nomark _))
  (pss_one (ps_ret (pe_ix ix_list (pv 0) (pv 1) (fun _ _ => rfl))))
  pss_nil)
  (pss_one (ps_ret pe_int))), ?_⟩
    refine ⟨_, rfl, _, rfl, a, _, rfl, .inl hS, _, _, rfl, rfl, _, rfl, ite2 (fun e => ?_) (fun e => ?_)⟩
    · have e0 : (k : Int) < ((ns.map V.int).length : Int) := of_decide_eq_true e
      rw [List.length_map] at e0
      have hk : k < ns.length := by omega
      refine ⟨_, rfl, _, rfl, a, _, _, _, rfl, rfl, hS, atI_nat (j := k) (by rw [List.getElem?_map, List.getElem?_eq_getElem hk]; rfl), ?_⟩
      have e1 : cell ns k = ns[k] := by
        unfold cell
        rw [Int.toNat_natCast, List.getD_eq_getElem?_getD, List.getElem?_eq_getElem hk]
        rfl
      rw [e1] at q
      exact q
    · have e0 : ¬ (k : Int) < ((ns.map V.int).length : Int) := fun z => e (decide_eq_true z)
      rw [List.length_map] at e0
      have e1 : cell ns k = 0 := by
        unfold cell
        rw [Int.toNat_natCast, List.getD_eq_getElem?_getD, List.getElem?_eq_none (by omega)]
        rfl
      rw [e1] at q
      exact q
def sp_mix : Sp := fun vs H Q _ => ∃ c p m : Int, vs = [.int c, .int p, .int m] ∧ 0 < p ∧ 0 < m ∧ Q (.int (mix c p m)) H
theorem c__law_mix (T : Tx K mg base) : Cal P w K mg base 1 "_law_mix" sp_mix := by
  obtain ⟨fd, F⟩ := T.d__law_mix
  refine ⟨_, fd, ["_law_cell", "_law_prime", "_law_many"], okF (k := 0) F sc__law_mix (fun vs H Q E h => ?_) (fun A outer s H vs Q E hr h => ?_), T.r__law_mix, F.kp, F.bindsN fun _ _ _ _ _ _ us hl => match us, hl with | [_, _, _], _ => rfl⟩
  · obtain ⟨c, p, m, rfl, _⟩ := h
    rfl
  · have nd := sc__law_mix.nd
    obtain ⟨c, p, m, rfl, hp, hm, q⟩ := h
    refine ⟨_, (pss_one (ps_ret (pe_op op_mod (pe_op op_mod (pe_op op_mul (pv 0) pe_int) (pv 1)) (pv 2)))), ?_⟩
    exact ⟨_, rfl, _, _, rfl, rfl, .inr ⟨by decide, by decide⟩, _, rfl, _, _, rfl, rfl, hp, _, rfl, _, _, rfl, rfl, hm, q⟩
def sp_name_by (K : PySem.W.Frag) : Sp := fun vs H Q _ => ∃ k c : Int, vs = [.int k, .int c] ∧ 0 ≤ k ∧ k < 80 ∧ ∀ H', Keep K [] H H' → Q (.str (nameBy k c)) H'
theorem S_some (c : Int) : (if mix c 10259 5 = 0 then ("0123456789" : Str) else "abcdefghijklmnopqrstuvwxyz0123456789") = SX.S (someL c) := by
  unfold someL
  split <;> exact (SX.S_tl _).symm
theorem some_len (c : Int) : (SX.S (someL c)).length ≤ 36 := by
  rw [SX.S_len]
  have := manyL_of c
  rcases manyL_c c with e | e <;> omega
theorem join_ones (xs : List Nat) : Txt.join Str.empty (xs.map fun c => SX.S [c]) = SX.S xs := by
  have e : xs.map (fun c => SX.S [c]) = (xs.map fun c => [c]).map SX.S := by
    rw [List.map_map]
    rfl
  rw [e]
  show Txt.join (SX.S []) _ = _
  rw [SX.join_S]
  congr 1
  induction xs with
  | nil => rfl
  | cons c r ih =>
    cases r with
    | nil => rfl
    | cons c2 r2 =>
      show [c] ++ ([] ++ TL.joinL [] ((c2 :: r2).map fun c => [c])) = _
      rw [ih (by rw [List.map_map]; rfl)]
      rfl
theorem cut_to {l : List Nat} {a : Nat} (h : a ≤ l.length) : cutS (SX.S l) none (some (a : Int)) = SX.S (l.take a) := by
  have hs : HT.sIx (SX.S l).length (SX.S l).length (some (a : Int)) = a := by
    rw [SX.S_len]
    unfold HT.sIx
    simp
    rw [if_neg (by omega)]
    omega
  refine TL.ext_tl ?_
  show (l.drop 0).take (HT.sIx _ _ (some (a : Int)) - 0) = l.take a
  rw [hs, List.drop_zero, Nat.sub_zero]
theorem cut_from {l : List Nat} {a : Nat} (h : a ≤ l.length) : cutS (SX.S l) (some (a : Int)) none = SX.S (l.drop a) := by
  have hs : HT.sIx (SX.S l).length 0 (some (a : Int)) = a := by
    rw [SX.S_len]
    unfold HT.sIx
    simp
    rw [if_neg (by omega)]
    omega
  refine TL.ext_tl ?_
  show (l.drop (HT.sIx _ 0 (some (a : Int)))).take ((SX.S l).length - HT.sIx _ 0 (some (a : Int))) = l.drop a
  rw [hs, SX.S_len, List.take_of_length_le (by rw [List.length_drop]; exact Nat.le_refl _)]
theorem c__law_name_by (T : Tx K mg base) : Cal P w K mg base 2 "_law_name_by" (sp_name_by K) := by
  have c__law_mix : Cal P w K mg base 1 "_law_mix" sp_mix := c__law_mix T
  obtain ⟨fd, F⟩ := T.d__law_name_by
  refine ⟨_, fd, ["_law_k", "_law_cell"], okF (k := 1) F sc__law_name_by (fun vs H Q E h => ?_) (fun A outer s H vs Q E hr h => ?_), T.r__law_name_by, F.kp, F.bindsN fun _ _ _ _ _ _ us hl => match us, hl with | [_, _], _ => rfl⟩
  · obtain ⟨k, c, rfl, _⟩ := h
    rfl
  · have nd := sc__law_name_by.nd
    obtain ⟨k, c, rfl, h0, h1, q⟩ := h
    refine ⟨_, (pss_cons (ps_set (i := 2) nd rfl (Or.inr rfl) pe_str)
  (pss_cut (ps_if (pt_cmpR op_eq (pf c__law_mix hr (by decide) (by rfl) p0 (pa_cons (pv 1) (pa_cons pe_int (pa_cons pe_int pa_nil)))) pe_int (nomark _))
  (pss_one (ps_set (i := 2) nd rfl (Or.inr rfl) pe_str))
  pss_nil)
  (pss_cons (ps_set (i := 3) nd rfl (Or.inr rfl) (pe_callB call_len_str (by rfl) T.m_len boot_len (pa_cons (pv 2) pa_nil)))
  (pss_cons (ps_set (i := 4) nd rfl (Or.inl rfl) (pe_ix ix_str (pv 2) (pe_op op_fdiv (pe_op op_add (pv 0) (pe_op op_mod (pv 1) (pv 3))) (pv 3)) (fun _ _ => rfl)))
  (pss_cons (ps_set (i := 5) nd rfl (Or.inl rfl) (pe_ix ix_str (pv 2) (pe_op op_mod (pe_op op_add (pv 0) (pv 1)) (pv 3)) (fun _ _ => rfl)))
  (pss_cons (ps_if (pt_cmpR op_eq (pf c__law_mix hr (by decide) (by rfl) p0 (pa_cons (pv 1) (pa_cons pe_int (pa_cons pe_int pa_nil)))) pe_int (nomark _))
  (pss_cons (ps_set (i := 6) nd rfl (Or.inl rfl) (pe_op op_add pe_int (pf c__law_mix hr (by decide) (by rfl) p0 (pa_cons (pv 1) (pa_cons pe_int (pa_cons pe_int pa_nil))))))
  (pss_cons (ps_set (i := 7) nd rfl (Or.inl rfl) (pf c__law_mix hr (by decide) (by rfl) p0 (pa_cons (pv 1) (pa_cons pe_int (pa_cons (pe_op op_sub (pv 6) pe_int) pa_nil)))))
  (pss_cons (ps_set (i := 9) nd rfl (Or.inl rfl) (pe_join pe_str (pe_lc (own := [("_law_j", 8)]) (g := gName 8) (tt := tYes) rfl nd (pi_range1 (by rfl) T.m_range (pa_cons (pv 6) pa_nil)) (blkOk_by (N := N__law_name_by) (sc := defScope s__law_name_by) (by decide +kernel)) (fun _ _ _ _ _ => (pg_name (i := 8) nd rfl (Or.inl rfl))) (fun _ _ _ _ _ => pts_nil) (fun _ _ _ _ _ => (pe_ix ix_str (pv 2) (pe_op op_mod (pe_op op_add (pe_op op_fdiv (pv 1) pe_int) (pe_op op_mul pe_int (pv 8))) (pv 3)) (fun _ _ => rfl))))))
  (pss_one (ps_ret (pe_op op_add_str (pe_op op_add_str (pe_op op_add_str (pe_slice sl_str (pv 9) po_none (po_some (pv 7))) (pv 4)) (pv 5)) (pe_slice sl_str (pv 9) (po_some (pe_op op_add (pv 7) pe_int)) po_none)))))))
  pss_nil)
  (pss_cut (ps_if (PW.pt (pw_and (pt_cmpR op_lt (pv 0) (pv 3) (nomark _)) (pw_and1 (pt_cmpR op_eq (pf c__law_mix hr (by decide) (by rfl) p0 (pa_cons (pe_op op_add (pv 1) (pe_op op_mul pe_int (pv 0))) (pa_cons pe_int (pa_cons pe_int pa_nil)))) pe_int (nomark _)))))
  (pss_one (ps_ret (pv 5)))
  pss_nil)
  (pss_cons (ps_set (i := 9) nd rfl (Or.inl rfl) (pe_op op_add_str (pv 4) (pv 5)))
  (pss_cons (ps_for (passes_of rfl) rfl (pi_range1 (by rfl) T.m_range (pa_cons (pf c__law_mix hr (by decide) (by rfl) p0 (pa_cons (pe_op op_add (pv 1) (pv 0)) (pa_cons pe_int (pa_cons pe_int pa_nil)))) pa_nil)) (pg_name (i := 8) nd rfl (Or.inl rfl))
  (pss_cons (ps_set (i := 7) nd rfl (Or.inl rfl) (pe_op op_add (pe_op op_add (pe_op op_fdiv (pv 1) pe_int) (pe_op op_mul pe_int (pv 8))) (pe_op op_mul (pv 0) (pv 8))))
  (pss_one (ps_set (i := 9) nd rfl (Or.inl rfl) (pe_op op_add_str (pv 9) (pe_ix ix_str (pv 2) (pe_op op_mod (pv 7) (pv 3)) (fun _ _ => rfl)))))))
  (pss_cons (ps_if (pt_cmpR op_eq (pe_op op_mod (pe_op op_fdiv (pv 1) pe_int) pe_int) pe_int (nomark _))
  (pss_one (ps_ret (pe_revS (pv 9))))
  pss_nil)
  (pss_one (ps_ret (pv 9))))))))))))), ?_⟩
    refine ⟨fun σ' H1 => H = H1 ∧ σ' = [some (.int k), some (.int c), some (.str (SX.S (someL c))), none, none, none, none, none, none, none], ?_, ?_⟩
    · refine ⟨_, rfl, c, 10259, 5, rfl, by decide, by decide, rfl, _, rfl, ?_⟩
      have e := S_some c
      by_cases z : mix c 10259 5 = 0
      · rw [if_pos z] at e
        rw [decide_eq_true (show V.int (mix c 10259 5) = V.int 0 by rw [z])]
        refine iteT ⟨rfl, ?_⟩
        rw [← e]
        rfl
      · rw [if_neg z] at e
        rw [decide_eq_false (show ¬ V.int (mix c 10259 5) = V.int 0 from fun y => z (V.int.inj y))]
        refine iteF ⟨rfl, ?_⟩
        rw [← e]
        rfl
    rintro σ' _ ⟨rfl, rfl⟩
    have hl : ((SX.S (someL c)).length : Int) = manyL c := by rw [SX.S_len]; exact manyL_of c
    have hm := manyL_c c
    have sl : (SX.S (someL c)).length ≤ sizeLine := line_of (some_len c)
    refine ⟨_, rfl, _, rfl, sl, ?_⟩
    rw [hl]
    have m0 : 0 < manyL c := by omega
    have m1 : manyL c < 1073741824 := by omega
    refine ⟨_, rfl, _, rfl, _, rfl, _, rfl, _, _, rfl, rfl, m0, _, _, rfl, rfl, _, rfl, _, _, rfl, rfl, ⟨m0, m1⟩, _, _, sgn c (nearI k c), rfl, rfl, sl, sgn_at (near_ok h0 h1).1 (near_ok h0 h1).2, ?_⟩
    refine ⟨_, rfl, _, rfl, _, rfl, _, _, rfl, rfl, _, rfl, _, _, rfl, rfl, m0, _, _, sgn c (tellI k c), rfl, rfl, sl, sgn_at tell_ok.1 tell_ok.2, ?_⟩
    refine ⟨_, rfl, c, 10303, 2, rfl, by decide, by decide, rfl, _, rfl, ?_⟩
    have n1 : ∀ z : Nat, (SX.S [z]).length = 1 := fun z => SX.S_len _
    by_cases z : mix c 10303 2 = 0
    · rw [decide_eq_true (show V.int (mix c 10303 2) = V.int 0 by rw [z])]
      have b1 := mix_nn (c := c) (p := 10313) (m := 11) (by decide)
      have b2 := mix_nn (c := c) (p := 10321) (m := 2 + mix c 10313 11 - 1) (by omega)
      have eat : mix c 10321 (2 + mix c 10313 11 - 1) = ((atN c : Nat) : Int) := by unfold atN; omega
      refine iteT ⟨_, rfl, c, 10313, 11, rfl, by decide, by decide, _, _, rfl, rfl, ?_⟩
      refine ⟨_, rfl, _, rfl, _, _, rfl, rfl, c, 10321, _, rfl, by decide, by omega, ?_⟩
      refine ⟨⟨_, rfl⟩, _, rfl, 2 + mix c 10313 11, rfl, by omega, by omega, fun D hD => ?_⟩
      refine lc_it walk_range (Pv := fun i H' => Keep K [] H H' ∧ H' D = some (.lst ((((List.range i).map fun (j : Nat) => sgn c ((c / 72 + 7 * (0 + (j : Int))) % manyL c)).map fun c => SX.S [c]).map V.str))) ⟨Keep.new hD, upd_same⟩ (fun _ _ _ _ => trivial) ?_ ?_
      · rintro i x H1 H2 hi ⟨k1, hd⟩ ⟨rfl, rfl⟩
        have hi' : i < (2 + mix c 10313 11).toNat := hi
        refine ⟨rfl, ?_⟩
        have hr0 : 0 ≤ (c / 72 + 7 * (0 + (i : Int))) % manyL c := Int.emod_nonneg _ (by omega)
        have hr1 : (c / 72 + 7 * (0 + (i : Int))) % manyL c < manyL c := Int.emod_lt_of_pos _ m0
        refine ⟨_, rfl, _, rfl, _, _, rfl, rfl, ⟨by decide, by decide⟩, _, rfl, _, _, rfl, rfl, .inl ⟨by decide, by decide⟩, _, _, rfl, rfl, _, rfl, _, _, rfl, rfl, m0, _, _, sgn c ((c / 72 + 7 * (0 + (i : Int))) % manyL c), rfl, rfl, sl, sgn_at hr0 hr1, _, hd, ?_, k1.set (.inl hD) hd nt_lst, ?_⟩
        · rw [List.length_map, List.length_map, List.length_map, List.length_range]
          exact small1000 (by omega)
        · rw [upd_same, List.range_succ, List.map_append, List.map_append, List.map_append]
          rfl
      · rintro H1 ⟨k1, hd⟩
        have eb : ((List.range (2 + mix c 10313 11).toNat).map fun (j : Nat) => sgn c ((c / 72 + 7 * (0 + (j : Int))) % manyL c)) = baseL c := rfl
        rw [eb] at hd
        have bl := base_len c
        refine ⟨_, D, _, rfl, rfl, .inl (.inl (.inl hd)), ?_, ?_⟩
        · have : ((baseL c).map fun c => SX.S [c]).map (·.length) = (baseL c).map fun _ => 1 := by
            rw [List.map_map]
            exact List.map_congr_left fun z _ => n1 z
          rw [this, List.length_map, List.map_const', List.sum_replicate_nat]
          show (baseL c).length * 1 + (baseL c).length * 0 ≤ _
          omega
        have ej : Txt.join ("" : Str) ((baseL c).map fun c => SX.S [c]) = SX.S (baseL c) := join_ones _
        rw [ej]
        have l20 : ∀ l : List Nat, l.length ≤ 20 → (SX.S l).length ≤ 20 := fun l h => by rw [SX.S_len]; exact h
        have hb20 : (baseL c).length ≤ 20 := by omega
        have at2 := at_ok c
        rw [eat]
        refine ⟨_, rfl, _, rfl, _, rfl, _, rfl, line_of (l20 _ hb20), ?_⟩
        rw [cut_to (show atN c ≤ (baseL c).length by omega)]
        have ht20 : (SX.S ((baseL c).take (atN c))).length ≤ 20 := l20 _ (by rw [List.length_take]; omega)
        refine ⟨_, rfl, _, _, rfl, rfl, ?_, _, rfl, _, _, rfl, rfl, ?_, ?_⟩
        · have := n1 (sgn c (nearI k c))
          rw [sizeLine_eq]
          show (SX.S ((baseL c).take (atN c))).length + (SX.S [sgn c (nearI k c)]).length ≤ _
          omega
        · have e1 := n1 (sgn c (nearI k c))
          have e2 := n1 (sgn c (tellI k c))
          rw [sizeLine_eq]
          show (SX.S ((baseL c).take (atN c)) ++ SX.S [sgn c (nearI k c)]).length + (SX.S [sgn c (tellI k c)]).length ≤ _
          rw [Str.length_append]
          omega
        refine ⟨_, rfl, _, rfl, _, _, rfl, rfl, _, rfl, _, rfl, line_of (l20 _ hb20), ?_⟩
        have ea2 : ((atN c : Nat) : Int) + 2 = ((atN c + 2 : Nat) : Int) := by omega
        rw [ea2, cut_from at2]
        refine ⟨_, _, rfl, rfl, ?_, ?_⟩
        · have e1 := n1 (sgn c (nearI k c))
          have e2 := n1 (sgn c (tellI k c))
          have e3 : (SX.S ((baseL c).drop (atN c + 2))).length ≤ 20 := l20 _ (by rw [List.length_drop]; omega)
          rw [sizeLine_eq]
          show (SX.S ((baseL c).take (atN c)) ++ SX.S [sgn c (nearI k c)] ++ SX.S [sgn c (tellI k c)]).length + _ ≤ _
          rw [Str.length_append, Str.length_append]
          omega
        · have e := q H1 k1
          unfold nameBy nameL at e
          rw [if_pos z] at e
          have e2 : SX.S ((baseL c).take (atN c)) ++ SX.S [sgn c (nearI k c)] ++ SX.S [sgn c (tellI k c)] ++ SX.S ((baseL c).drop (atN c + 2)) = SX.S ((baseL c).take (atN c) ++ pairL k c ++ (baseL c).drop (atN c + 2)) := by
            rw [SX.S_cat, SX.S_cat, SX.S_cat]
            unfold pairL
            simp
          rw [← e2] at e
          exact e
    · rw [decide_eq_false (show ¬ V.int (mix c 10303 2) = V.int 0 from fun y => z (V.int.inj y))]
      refine iteF ⟨fun σ' H1 => H = H1 ∧ ¬ (k < manyL c ∧ mix (c + 3 * k) 10253 8 = 0) ∧ σ' = [some (.int k), some (.int c), some (.str (SX.S (someL c))), some (.int (manyL c)), some (.str (SX.S [sgn c (nearI k c)])), some (.str (SX.S [sgn c (tellI k c)])), none, none, none, none], ?_, ?_⟩
      · refine ⟨_, rfl, _, rfl, _, _, rfl, rfl, _, rfl, ite2 (fun a => ?_) (fun a => iteF ⟨rfl, fun y => a (decide_eq_true y.1), rfl⟩)⟩
        have a1 : k < manyL c := of_decide_eq_true a
        refine ⟨_, rfl, _, rfl, _, _, rfl, rfl, .inl ⟨by decide, by decide⟩, _, _, rfl, rfl, c + 3 * k, 10253, 8, rfl, by decide, by decide, rfl, _, rfl, ?_⟩
        by_cases y : mix (c + 3 * k) 10253 8 = 0
        · rw [decide_eq_true (show V.int (mix (c + 3 * k) 10253 8) = V.int 0 by rw [y])]
          refine iteT ⟨_, rfl, ?_⟩
          have e := q H (Keep.refl _ _)
          unfold nameBy nameL at e
          rw [if_neg z, if_pos ⟨a1, y⟩] at e
          exact e
        · rw [decide_eq_false (show ¬ V.int (mix (c + 3 * k) 10253 8) = V.int 0 from fun x => y (V.int.inj x))]
          exact iteF ⟨rfl, fun x => y x.2, rfl⟩
      rintro σ' _ ⟨rfl, nn, rfl⟩
      have b2 := mix_nn (c := c + k) (p := 10007) (m := 11) (by decide)
      refine ⟨_, rfl, _, rfl, _, _, rfl, rfl, ?_, ?_⟩
      · rw [n1, n1]
        decide
      refine ⟨_, rfl, _, rfl, _, _, rfl, rfl, c + k, 10007, 11, rfl, by decide, by decide, mix (c + k) 10007 11, rfl, by omega, by omega, ?_⟩
      refine for_it walk_range (fun i σ H' => H = H' ∧ ∃ v7 v8, σ = [some (.int k), some (.int c), some (.str (SX.S (someL c))), some (.int (manyL c)), some (.str (SX.S [sgn c (nearI k c)])), some (.str (SX.S [sgn c (tellI k c)])), none, v7, v8, some (.str (SX.S (pairL k c ++ moreL k c i)))]) ⟨rfl, none, none, ?_⟩ (fun _ _ _ _ _ => trivial) ?_ ?_
      · have e1 : SX.S [sgn c (nearI k c)] ++ SX.S [sgn c (tellI k c)] = SX.S (pairL k c ++ moreL k c 0) := by
          rw [SX.S_cat]
          rfl
        rw [← e1]
        rfl
      · rintro i x σ _ H2 hi ⟨rfl, v7, v8, rfl⟩ ⟨rfl, rfl⟩
        have hi' : i < (mix (c + k) 10007 11).toNat := hi
        have hr0 : 0 ≤ (c / 72 + 7 * (0 + (i : Int)) + k * (0 + (i : Int))) % manyL c := Int.emod_nonneg _ (by omega)
        have hr1 : (c / 72 + 7 * (0 + (i : Int)) + k * (0 + (i : Int))) % manyL c < manyL c := Int.emod_lt_of_pos _ m0
        refine ⟨_, rfl, _, _, rfl, rfl, ⟨by decide, by decide⟩, _, rfl, _, _, rfl, rfl, .inl ⟨by decide, by decide⟩, _, _, rfl, rfl, _, rfl, _, rfl, _, _, rfl, rfl, .inl ⟨by omega, by omega⟩, _, _, rfl, rfl, ?_⟩
        refine ⟨_, rfl, _, rfl, _, rfl, _, rfl, _, _, rfl, rfl, m0, _, _, sgn c ((c / 72 + 7 * (0 + (i : Int)) + k * (0 + (i : Int))) % manyL c), rfl, rfl, sl, sgn_at hr0 hr1, _, _, rfl, rfl, ?_, rfl, ?_⟩
        · have e1 := n1 (sgn c ((c / 72 + 7 * (0 + (i : Int)) + k * (0 + (i : Int))) % manyL c))
          have e2 : (SX.S (pairL k c ++ moreL k c i)).length ≤ 20 := by
            rw [SX.S_len]
            simp [pairL, moreL]
            omega
          rw [sizeLine_eq]
          show (SX.S (pairL k c ++ moreL k c i)).length + (SX.S [_]).length ≤ _
          omega
        · have e1 : SX.S (pairL k c ++ moreL k c i) ++ SX.S [sgn c ((c / 72 + 7 * (0 + (i : Int)) + k * (0 + (i : Int))) % manyL c)] = SX.S (pairL k c ++ moreL k c (i + 1)) := by
            rw [SX.S_cat]
            unfold moreL
            rw [List.range_succ, List.map_append, List.append_assoc]
            rfl
          rw [← e1]
          exact ⟨_, _, rfl⟩
      · rintro σ _ ⟨rfl, v7, v8, rfl⟩
        have e := q H (Keep.refl _ _)
        unfold nameBy nameL at e
        rw [if_neg z, if_neg nn] at e
        have el : pairL k c ++ moreL k c (mix (c + k) 10007 11).toNat = longL k c := rfl
        rw [el]
        have l20 : (SX.S (longL k c)).length ≤ 20 := by
          rw [SX.S_len]
          simp [longL, pairL, moreL]
          omega
        refine ⟨_, rfl, _, _, rfl, rfl, ⟨by decide, by decide⟩, _, _, rfl, rfl, (show (0 : Int) < 2 by decide), rfl, _, rfl, ?_⟩
        by_cases y : c / 36 % 2 = 1
        · rw [if_pos y] at e
          rw [decide_eq_true (show V.int (c / 36 % 2) = V.int 1 by rw [y])]
          exact iteT ⟨_, rfl, _, rfl, line_of l20, e⟩
        · rw [if_neg y] at e
          rw [decide_eq_false (show ¬ V.int (c / 36 % 2) = V.int 1 from fun x => y (V.int.inj x))]
          exact iteF ⟨_, rfl, e⟩
end
end Rr.K

set_option maxRecDepth 100000
set_option maxHeartbeats 4000000
namespace Rr.K
open PySem PySem.Spec PyProof.Rows L2
open GxR (TabG Tabbed)
section
variable {P : Program} {w : World} {K : PySem.W.Frag} {mg : Str → Option Value} {base : Heap}
/-! ### callers -/
def sp_become (K : PySem.W.Frag) : Sp := fun vs H Q _ => ∃ (x dx : Addr) (n : Str) (r : Int) (v1 v2 v3 v4 : V) (st : Stt), vs = [.ref x, .str st.word, st.sinceV, st.dueV, st.bellV] ∧ H x = some (.ins (He.ga K "Caller") dx (rawC n r v1 v2 v3 v4)) ∧ Q .non (upd H x (.ins (He.ga K "Caller") dx (Cr.fs ⟨n, r, st⟩)))
theorem f_become (T : Tx K mg base) {fd : FuncData} (F : FunD K "become" "Caller.become" (defArgs s_Caller_become) (defBody s_Caller_become) (defScope s_Caller_become) [.non, .non, .non] [] (He.fAd K ("Caller", some "become")) fd) :
    FnOk P w K mg base (GE.Out GE.AK P w) 1 (He.fAd K ("Caller", some "become")) fd ["self", "state", "since", "due", "bell"] (sp_become K) := by
  refine okF (k := 0) F sc_Caller_become (fun vs H Q E h => ?_) (fun A outer s H vs Q E hr h => ?_)
  · obtain ⟨x, dx, n, r, v1, v2, v3, v4, st, rfl, _⟩ := h
    rfl
  · have nd := sc_Caller_become.nd
    obtain ⟨x, dx, n, r, v1, v2, v3, v4, st, rfl, h0, q⟩ := h
    refine ⟨_, (pss_cons (ps_fld (pv 0) (pv 1) rfl)
  (pss_cons (ps_fld (pv 0) (pv 2) rfl)
  (pss_cons (ps_fld (pv 0) (pv 3) rfl)
  (pss_one (ps_fld (pv 0) (pv 4) rfl))))), ?_⟩
    have l6 : (rawC n r v1 v2 v3 v4).length < 1000 := show 6 < 1000 by decide
    refine ⟨_, rfl, _, rfl, x, _, dx, _, rfl, h0, T.cl_Caller, T.na_Caller_state, l6, ?_⟩
    refine ⟨_, rfl, _, rfl, x, _, dx, _, rfl, upd_same, T.cl_Caller, T.na_Caller_since, (show 6 < 1000 by decide), ?_⟩
    refine ⟨_, rfl, _, rfl, x, _, dx, _, rfl, upd_same, T.cl_Caller, T.na_Caller_due, (show 6 < 1000 by decide), ?_⟩
    refine ⟨_, rfl, _, rfl, x, _, dx, _, rfl, upd_same, T.cl_Caller, T.na_Caller_bell, (show 6 < 1000 by decide), ?_⟩
    simp only [upd_upd]
    exact q
theorem c_Caller_become (T : Tx K mg base) : Met P w K mg base 1 (He.ga K "Caller") "become" (sp_become K) := by
  obtain ⟨fd, F⟩ := T.d_Caller_become
  obtain ⟨ds, rd, b⟩ := F.binds1 (ps := ["self", "state", "since", "due", "bell"]) 5 3 (by simp) rfl fun T kV doc pm an cdv ct us its hl hi => match us, its, hl, hi with | [_, _, _, _, _], [_, _, _], _, _ => ⟨_, rfl, rfl⟩
  cases rd
  exact ⟨_, fd, _, T.cl_Caller, T.me_Caller_become, f_become T F, b⟩
theorem c_Caller_become_since (T : Tx K mg base) : MetK P w K mg base 1 (He.ga K "Caller") "become" (sp_become K) 2 ["since"] (fun vs zs => vs ++ (zs ++ [.non, .non])) := by
  obtain ⟨fd, F⟩ := T.d_Caller_become
  obtain ⟨its, b⟩ := F.kbindsD (ps := ["self", "state", "since", "due", "bell"]) 2 ["since"] (fun us ds zs => us ++ (zs ++ ds.drop 1)) (by simp) (fun r1 r2 r3 => r1.append (r3.append (r2.drop 1)))
    fun T kV doc pm an cdv ct us its ws h1 h2 h3 => match us, its, ws, h1, h2, h3 with | [_, _], [_, _, _], [_], _, _, _ => ⟨_, rfl, rfl⟩
  exact ⟨_, fd, _, _, T.cl_Caller, T.me_Caller_become, f_become T F, b⟩
theorem c_Caller_become_due (T : Tx K mg base) : MetK P w K mg base 1 (He.ga K "Caller") "become" (sp_become K) 2 ["due"] (fun vs zs => vs ++ ([.non] ++ (zs ++ [.non]))) := by
  obtain ⟨fd, F⟩ := T.d_Caller_become
  obtain ⟨its, b⟩ := F.kbindsD (ps := ["self", "state", "since", "due", "bell"]) 2 ["due"] (fun us ds zs => us ++ (ds.take 1 ++ (zs ++ ds.drop 2))) (by simp) (fun r1 r2 r3 => r1.append ((r2.take 1).append (r3.append (r2.drop 2))))
    fun T kV doc pm an cdv ct us its ws h1 h2 h3 => match us, its, ws, h1, h2, h3 with | [_, _], [_, _, _], [_], _, _, _ => ⟨_, rfl, rfl⟩
  exact ⟨_, fd, _, _, T.cl_Caller, T.me_Caller_become, f_become T F, b⟩
theorem c_Caller_become_bell (T : Tx K mg base) : MetK P w K mg base 1 (He.ga K "Caller") "become" (sp_become K) 2 ["bell"] (fun vs zs => vs ++ ([.non, .non] ++ zs)) := by
  obtain ⟨fd, F⟩ := T.d_Caller_become
  obtain ⟨its, b⟩ := F.kbindsD (ps := ["self", "state", "since", "due", "bell"]) 2 ["bell"] (fun us ds zs => us ++ (ds.take 2 ++ zs)) (by simp) (fun r1 r2 r3 => r1.append ((r2.take 2).append r3))
    fun T kV doc pm an cdv ct us its ws h1 h2 h3 => match us, its, ws, h1, h2, h3 with | [_, _], [_, _, _], [_], _, _, _ => ⟨_, rfl, rfl⟩
  exact ⟨_, fd, _, _, T.cl_Caller, T.me_Caller_become, f_become T F, b⟩
/-! ### a desk's own -/
def sp_known (K : PySem.W.Frag) : Sp := fun vs H Q E => ∃ (d L : Addr) (ln : Ln) (D : Dk) (n : Str), vs = [.ref d, .str n] ∧ Small n ∧ DkIn K H d L ln D ∧ (n ∉ namesL D.line → E (xc K "Unknown") none H) ∧ ∀ p ∈ ln, p.2.name = n → Q (.ref p.1) H
theorem c_Desk__known (T : Tx K mg base) : Met P w K mg base 1 (He.ga K "Desk") "_known" (sp_known K) := by
  obtain ⟨fd, F⟩ := T.d_Desk__known
  refine ⟨_, fd, ["self", "name"], T.cl_Desk, T.me_Desk__known, okF (k := 0) F sc_Desk__known (fun vs H Q E h => ?_) (fun A outer s H vs Q E hr h => ?_), F.bindsN fun _ _ _ _ _ _ us hl => match us, hl with | [_, _], _ => rfl⟩
  · obtain ⟨d, L, ln, D, n, rfl, _⟩ := h
    rfl
  · have nd := sc_Desk__known.nd
    obtain ⟨d, L, ln, D, n, rfl, hn, x, q1, q2⟩ := h
    obtain ⟨dx, hd⟩ := id x.desk
    refine ⟨_, (pss_cons (ps_set (i := 2) nd rfl (Or.inl rfl) (pe_dget1 (hu_of hr) (pe_fld (pv 0) rfl) (pv 1) ⟨by rfl, by rfl, by rfl, by rfl⟩))
  (pss_cons (ps_if (pt_cmpR op_isN (pv 2) pe_non (nomark _))
  (pss_one (GE.ps_raise rfl (GE.takes_of rfl rfl rfl rfl) (GE.pmk1 PySem.F.excBase_ValueError T.e_Unknown.1 T.r_Unknown T.e_Unknown.2.1 (raises_own T.e_Unknown.2.2.1 T.e_Unknown.2.2.2) rfl (GE.pe_joinedS (.cons pe_str (.cons (pe_fmtR (pv 1)) .nil))))))
  pss_nil)
  (pss_one (ps_ret (pv 2))))), ?_⟩
    refine ⟨_, rfl, d, _, _, _, _, rfl, hd, T.cl_Desk, T.na_Desk__line, rfl, L, rfl, .inl ⟨_, .inl x.line⟩, _, rfl, _, DGet.k (k := Sum.inr n) x.line, ?_⟩
    rw [kvs_find]
    by_cases em : n ∈ namesL D.line
    · obtain ⟨p, e1, hp, e2⟩ := find_some (ln := ln) (by rw [x.eq]; exact em)
      rw [e1]
      exact ⟨_, rfl, rfl, _, rfl, iteF ⟨_, rfl, q2 p hp e2⟩⟩
    · rw [find_none (by rw [x.eq]; exact em)]
      have h1 := fitN (k := 1000100) 0 1000002 len0 hn.repr
      refine ⟨_, rfl, rfl, _, rfl, iteT ⟨_, rfl, by decide, _, rfl, .inl ⟨_, rfl, line_of hn.repr, _, rfl, fit 100 1000002 (by decide) hn.repr, q1 em⟩⟩⟩
def sp_waitedC (K : PySem.W.Frag) : Sp := fun vs H Q _ => ∃ (d L : Addr) (ln : Ln) (D : Dk) (p : Addr × Cr), vs = [.ref d, .ref p.1] ∧ DkIn K H d L ln D ∧ p ∈ ln ∧ p.2.st.isRdy = true ∧ Q (.int (D.now - p.2.st.since)) H
theorem c_Desk__waited (T : Tx K mg base) : Met P w K mg base 1 (He.ga K "Desk") "_waited" (sp_waitedC K) := by
  obtain ⟨fd, F⟩ := T.d_Desk__waited
  refine ⟨_, fd, ["self", "caller"], T.cl_Desk, T.me_Desk__waited, okF (k := 0) F sc_Desk__waited (fun vs H Q E h => ?_) (fun A outer s H vs Q E hr h => ?_), F.bindsN fun _ _ _ _ _ _ us hl => match us, hl with | [_, _], _ => rfl⟩
  · obtain ⟨d, L, ln, D, p, rfl, _⟩ := h
    rfl
  · have nd := sc_Desk__waited.nd
    obtain ⟨d, L, ln, D, ⟨a, n, r, st⟩, rfl, x, hp, hr1, q⟩ := h
    obtain ⟨dx, hd⟩ := id x.desk
    obtain ⟨dy, hc⟩ := id (x.crs _ hp)
    refine ⟨_, (pss_one (ps_ret (pe_op op_sub (pe_fld (pv 0) rfl) (pe_fld (pv 1) rfl)))), ?_⟩
    cases st with
    | rdy s =>
      exact ⟨_, rfl, d, _, _, _, _, rfl, hd, T.cl_Desk, T.na_Desk_now, rfl, _, rfl, a, _, _, _, _, rfl, hc, T.cl_Caller, T.na_Caller_since, rfl, _, _, rfl, rfl, q⟩
    | slp _ => cases hr1
    | wtg _ => cases hr1
end
end Rr.K

set_option maxRecDepth 100000
set_option maxHeartbeats 4000000
namespace Rr.K
open PySem PySem.Spec PyProof.Rows L2
open GxR (TabG Tabbed)
theorem word_rdy (st : Stt) : decide (V.str st.word = V.str "ready") = st.isRdy := by
  cases st
  · exact decide_eq_true rfl
  · exact decide_eq_false fun h => absurd (V.str.inj h) (show ¬ ("asleep" : Str) = "ready" by decide +kernel)
  · exact decide_eq_false fun h => absurd (V.str.inj h) (show ¬ ("waiting" : Str) = "ready" by decide +kernel)
theorem word_len : ∀ st : Stt, st.word.length ≤ 7
  | .rdy _ => show ("ready" : Str).length ≤ 7 by decide +kernel
  | .slp _ => show ("asleep" : Str).length ≤ 7 by decide +kernel
  | .wtg _ => show ("waiting" : Str).length ≤ 7 by decide +kernel
theorem setC_mem {c : Cr} {l : List Cr} (h : c.name ∈ namesL l) : c ∈ setC c l := by
  obtain ⟨x, hx, e⟩ := List.mem_map.mp h
  exact List.mem_map.mpr ⟨x, hx, if_pos e⟩
theorem setLn_mem {a : Addr} {c c' : Cr} {l : Ln} (h : (a, c) ∈ l) (e : c'.name = c.name) : (a, c') ∈ setLn c' l := List.mem_map.mpr ⟨(a, c), h, by rw [if_pos e.symm]⟩
theorem in_names {K : PySem.W.Frag} {H : Hp} {d L : Addr} {ln : Ln} {D : Dk} (x : DkIn K H d L ln D) {p : Addr × Cr} (h : p ∈ ln) : p.2 ∈ D.line ∧ p.2.name ∈ namesL D.line := by
  have : p.2 ∈ D.line := by rw [← x.eq]; exact List.mem_map_of_mem h
  exact ⟨this, List.mem_map_of_mem this⟩
section
variable {P : Program} {w : World} {K : PySem.W.Frag} {mg : Str → Option Value} {base : Heap}
def sp_check_span (K : PySem.W.Frag) : Sp := fun vs H Q E => ∃ m l : Int, vs = [.int m, .int l] ∧ Mod m ∧ Mod l ∧ (¬ (l ≤ m ∧ m ≤ 1000) → E (xc K "NoSpan") none H) ∧ (l ≤ m ∧ m ≤ 1000 → Q .non H)
theorem c_check_span (T : Tx K mg base) : Cal P w K mg base 1 "check_span" (sp_check_span K) := by
  obtain ⟨fd, F⟩ := T.d_check_span
  refine ⟨_, fd, ["many", "least"], okF (k := 0) F sc_check_span (fun vs H Q E h => ?_) (fun A outer s H vs Q E hr h => ?_), T.r_check_span, F.kp, F.bindsN fun _ _ _ _ _ _ us hl => match us, hl with | [_, _], _ => rfl⟩
  · obtain ⟨m, l, rfl, _⟩ := h
    rfl
  · have nd := sc_check_span.nd
    obtain ⟨m, l, rfl, hm, hl, q1, q2⟩ := h
    refine ⟨_, (pss_one (ps_if (pt_not (pt_rng (pv 1) (pv 0) (pgI (by rfl) T.h_MOST_TURNS)))
  (pss_one (GE.ps_raise rfl (GE.takes_of rfl rfl rfl rfl) (GE.pmk1 PySem.F.excBase_ValueError T.e_NoSpan.1 T.r_NoSpan T.e_NoSpan.2.1 (raises_own T.e_NoSpan.2.2.1 T.e_NoSpan.2.2.2) rfl (GE.pe_joinedS (.cons pe_str (.cons (pe_fmt (pv 1)) (.cons pe_str (.cons (pe_fmt (pgI (by rfl) T.h_MOST_TURNS)) (.cons pe_str (.cons (pe_fmt (pv 0)) .nil))))))))))
  pss_nil)), ?_⟩
    refine ⟨l, m, 1000, fun _ z => ⟨_, rfl, z⟩, fun _ z => ⟨_, rfl, z⟩, fun _ z => z, ?_⟩
    by_cases e : l ≤ m ∧ m ≤ 1000
    · rw [decide_eq_true e]
      exact iteF (q2 e)
    · rw [decide_eq_false e]
      refine iteT ⟨_, rfl, by decide, _, rfl, .inr ⟨l, rfl, hl.log, _, rfl, fit 24 1921 (by decide) hl.len, _, rfl, fit 2000 10 (fitN 24 1921 (by decide) hl.len) (by decide), .inr ⟨1000, rfl, by decide, _, rfl, fit 2100 10 (fitN 2000 10 (fitN 24 1921 (by decide) hl.len) (by decide)) (by decide), _, rfl, fit 2200 10 (fitN 2100 10 (fitN 2000 10 (fitN 24 1921 (by decide) hl.len) (by decide)) (by decide)) (by decide), _, rfl, .inr ⟨m, rfl, hm.log, _, rfl, fit 2300 1921 (fitN 2200 10 (fitN 2100 10 (fitN 2000 10 (fitN 24 1921 (by decide) hl.len) (by decide)) (by decide)) (by decide)) hm.len, q1 e⟩⟩⟩⟩
def sp_check_ready (K : PySem.W.Frag) : Sp := fun vs H Q E => ∃ (a : Addr) (c : Cr), vs = [.ref a] ∧ CrAt K H a c ∧ isName c.name = true ∧ (c.st.isRdy = false → E (xc K "NotReady") none H) ∧ (c.st.isRdy = true → Q .non H)
theorem c_check_ready (T : Tx K mg base) : Cal P w K mg base 1 "check_ready" (sp_check_ready K) := by
  obtain ⟨fd, F⟩ := T.d_check_ready
  refine ⟨_, fd, ["caller"], okF (k := 0) F sc_check_ready (fun vs H Q E h => ?_) (fun A outer s H vs Q E hr h => ?_), T.r_check_ready, F.kp, F.bindsN fun _ _ _ _ _ _ us hl => match us, hl with | [_], _ => rfl⟩
  · obtain ⟨a, c, rfl, _⟩ := h
    rfl
  · have nd := sc_check_ready.nd
    obtain ⟨a, c, rfl, ⟨dy, hc⟩, hn, q1, q2⟩ := h
    refine ⟨_, (pss_one (ps_if (pt_cmpR op_ne (pe_fld (pv 0) rfl) (pgS (by rfl) T.h_READY) (nomark _))
  (pss_one (GE.ps_raise rfl (GE.takes_of rfl rfl rfl rfl) (GE.pmk1 PySem.F.excBase_ValueError T.e_NotReady.1 T.r_NotReady T.e_NotReady.2.1 (raises_own T.e_NotReady.2.2.1 T.e_NotReady.2.2.2) rfl (GE.pe_joinedS (.cons (pe_fmt (pe_fld (pv 0) rfl)) (.cons pe_str (.cons (pe_fmt (pe_fld (pv 0) rfl)) .nil)))))))
  pss_nil)), ?_⟩
    refine ⟨_, rfl, a, _, _, _, _, rfl, hc, T.cl_Caller, T.na_Caller_state, rfl, rfl, _, rfl, ?_⟩
    rw [word_rdy]
    have n12 := (isName_len hn).2
    cases e : c.st.isRdy with
    | true => exact iteF (q2 e)
    | false => exact iteT ⟨_, rfl, a, _, _, _, _, rfl, hc, T.cl_Caller, T.na_Caller_name, rfl, .inl ⟨_, rfl, line_of n12, _, rfl, fit 0 12 len0 n12, _, rfl, fit 12 10 (fitN 0 12 len0 n12) (by decide), _, rfl, a, _, _, _, _, rfl, hc, T.cl_Caller, T.na_Caller_state, rfl, .inl ⟨_, rfl, line_of (word_len _), _, rfl, fit 22 7 (fitN 12 10 (fitN 0 12 len0 n12) (by decide)) (word_len _), q1 e⟩⟩⟩
def sp_check_not_ready (K : PySem.W.Frag) : Sp := fun vs H Q E => ∃ (a : Addr) (c : Cr), vs = [.ref a] ∧ CrAt K H a c ∧ isName c.name = true ∧ (c.st.isRdy = true → E (xc K "IsReady") none H) ∧ (c.st.isRdy = false → Q .non H)
theorem c_check_not_ready (T : Tx K mg base) : Cal P w K mg base 1 "check_not_ready" (sp_check_not_ready K) := by
  obtain ⟨fd, F⟩ := T.d_check_not_ready
  refine ⟨_, fd, ["caller"], okF (k := 0) F sc_check_not_ready (fun vs H Q E h => ?_) (fun A outer s H vs Q E hr h => ?_), T.r_check_not_ready, F.kp, F.bindsN fun _ _ _ _ _ _ us hl => match us, hl with | [_], _ => rfl⟩
  · obtain ⟨a, c, rfl, _⟩ := h
    rfl
  · have nd := sc_check_not_ready.nd
    obtain ⟨a, c, rfl, ⟨dy, hc⟩, hn, q1, q2⟩ := h
    refine ⟨_, (pss_one (ps_if (pt_cmpR op_eq (pe_fld (pv 0) rfl) (pgS (by rfl) T.h_READY) (nomark _))
  (pss_one (GE.ps_raise rfl (GE.takes_of rfl rfl rfl rfl) (GE.pmk1 PySem.F.excBase_ValueError T.e_IsReady.1 T.r_IsReady T.e_IsReady.2.1 (raises_own T.e_IsReady.2.2.1 T.e_IsReady.2.2.2) rfl (GE.pe_joinedS (.cons (pe_fmt (pe_fld (pv 0) rfl)) (.cons pe_str .nil))))))
  pss_nil)), ?_⟩
    refine ⟨_, rfl, a, _, _, _, _, rfl, hc, T.cl_Caller, T.na_Caller_state, rfl, rfl, _, rfl, ?_⟩
    rw [word_rdy]
    have n12 := (isName_len hn).2
    cases e : c.st.isRdy with
    | false => exact iteF (q2 e)
    | true => exact iteT ⟨_, rfl, a, _, _, _, _, rfl, hc, T.cl_Caller, T.na_Caller_name, rfl, .inl ⟨_, rfl, line_of n12, _, rfl, fit 0 12 len0 n12, _, rfl, fit 12 10 (fitN 0 12 len0 n12) (by decide), q1 e⟩⟩
/-! ### to the end of the line; ready -/
def sp_go_last (K : PySem.W.Frag) : Sp := fun vs H Q _ => ∃ (d L : Addr) (ln : Ln) (D : Dk) (a : Addr) (c : Cr), vs = [.ref d, .ref a] ∧ DkIn K H d L ln D ∧ (a, c) ∈ ln ∧
  ∀ H', Keep K [L] H H' → DkIn K H' d L (lastLn c.name ln) { D with line := lastC c.name D.line } → Q .non H'
theorem c_Desk__go_last (T : Tx K mg base) : Met P w K mg base 1 (He.ga K "Desk") "_go_last" (sp_go_last K) := by
  obtain ⟨fd, F⟩ := T.d_Desk__go_last
  refine ⟨_, fd, ["self", "caller"], T.cl_Desk, T.me_Desk__go_last, okF (k := 0) F sc_Desk__go_last (fun vs H Q E h => ?_) (fun A outer s H vs Q E hr h => ?_), F.bindsN fun _ _ _ _ _ _ us hl => match us, hl with | [_, _], _ => rfl⟩
  · obtain ⟨d, L, ln, D, a, c, rfl, _⟩ := h
    rfl
  · have nd := sc_Desk__go_last.nd
    obtain ⟨d, L, ln, D, a, c, rfl, x, hp, q⟩ := h
    obtain ⟨dx, hd⟩ := id x.desk
    obtain ⟨dy, hc⟩ := id (x.crs _ hp)
    have dL := x.dL (List.mem_map_of_mem (f := (·.1)) hp)
    refine ⟨_, (pss_cons (ps_ddel (pe_fld (pv 0) rfl) (pe_fld (pv 1) rfl))
  (pss_one (ps_dput (hu_of hr) (pe_fld (pv 0) rfl) (pe_fld (pv 1) rfl) (pv 1) rfl))), ?_⟩
    refine ⟨_, rfl, d, _, _, _, _, rfl, hd, T.cl_Desk, T.na_Desk__line, rfl, _, rfl, a, _, _, _, _, rfl, hc, T.cl_Caller, T.na_Caller_name, rfl, L, _, Sum.inr c.name, rfl, x.line, rfl, ?_, ?_⟩
    · rw [kvs_find]
      obtain ⟨p, e1, _⟩ := find_some (n := c.name) (ln := ln) (by rw [x.eq]; exact (in_names x hp).2)
      rw [e1]
      rfl
    · refine ⟨_, rfl, _, rfl, d, _, _, _, _, rfl, (upd_ne x.dne).trans hd, T.cl_Desk, T.na_Desk__line, rfl, _, rfl, a, _, _, _, _, rfl, (upd_ne dL.2).trans hc, T.cl_Caller, T.na_Caller_name, rfl, _, _, rfl, DPut.k (k := Sum.inr c.name) upd_same ?_, q _ ?_ (x.last hp)⟩
      · rw [kvs_drop, kvs_len]
        refine small1000 (Nat.le_trans (List.length_filter_le _ _) ?_)
        have : ln.length = D.line.length := by rw [← x.eq, List.length_map]
        have := x.len
        omega
      · exact (Keep.upd x.line (by simp) nt_dK).trans (Keep.upd upd_same (by simp) nt_dK)
/-- what becomes of the callers: they stay where they stand, with their names and ranks -/
def Same (ln ln' : Ln) : Prop := (ln'.map (·.1)).Perm (ln.map (·.1)) ∧ ∀ p ∈ ln, ∃ st, (p.1, p.2.as st) ∈ ln'
theorem Same.refl (ln : Ln) : Same ln ln := ⟨.refl _, fun p hp => ⟨p.2.st, hp⟩⟩
theorem Same.trans {l1 l2 l3 : Ln} (h : Same l1 l2) (k : Same l2 l3) : Same l1 l3 := by
  refine ⟨k.1.trans h.1, fun p hp => ?_⟩
  obtain ⟨s1, e1⟩ := h.2 p hp
  obtain ⟨s2, e2⟩ := k.2 _ e1
  exact ⟨s2, e2⟩
theorem Same.own {l l' : Ln} (h : Same l l') {d L b : Addr} : b ∈ d :: L :: l'.map (·.1) ↔ b ∈ d :: L :: l.map (·.1) := by
  simp only [List.mem_cons, h.1.mem_iff]
/-- one is changed and goes to the end -/
def moveLn (c : Cr) (ln : Ln) : Ln := lastLn c.name (setLn c ln)
theorem Same.move {K : PySem.W.Frag} {H : Hp} {d L : Addr} {ln : Ln} {D : Dk} (x : DkIn K H d L ln D) {a : Addr} {c : Cr} {st : Stt} (hp : (a, c) ∈ ln) : Same ln (moveLn (c.as st) ln) := by
  refine ⟨?_, fun p hp' => ?_⟩
  · have := (lastLn_perm (c.as st).name (setLn (c.as st) ln)).map (·.1)
    rw [setLn_fst] at this
    exact this
  · by_cases e : p.2.name = c.name
    · obtain rfl := x.one hp' hp e
      exact ⟨st, (lastLn_perm _ _).mem_iff.mpr (setLn_mem hp' rfl)⟩
    · exact ⟨p.2.st, (lastLn_perm _ _).mem_iff.mpr (List.mem_map.mpr ⟨p, hp', if_neg e⟩)⟩
/-- the same, behind both deeds -/
theorem _root_.Rr.Keep.moved {S : List Addr} {K : PySem.W.Frag} {H H' : Hp} {d L : Addr} {ln : Ln} {D : Dk} (x : DkIn K H d L ln D) {a : Addr} {c : Cr} {o : HO} (hp : (a, c) ∈ ln) (k : Keep K [L] (L2.upd H a o) H') (hS : ∀ b ∈ d :: L :: ln.map (·.1), b ∈ S) : Keep K S H H' := by
  obtain ⟨dy, hc⟩ := x.crs _ hp
  exact (Keep.upd hc (hS _ (List.mem_cons_of_mem _ (List.mem_cons_of_mem _ (List.mem_map_of_mem (f := (·.1)) hp)))) nt_ins).trans (k.mono fun b hb => hS _ (by rw [List.mem_singleton.mp hb]; simp))
def sp_make_ready (K : PySem.W.Frag) : Sp := fun vs H Q _ => ∃ (d L : Addr) (ln : Ln) (D : Dk) (b : Addr) (ps : List (Addr × Cr)), vs = [.ref d, .ref b] ∧ DkIn K H d L ln D ∧ H b = some (.lst (ps.map fun p => V.ref p.1)) ∧ (∀ p ∈ ps, ∃ st, (p.1, p.2.as st) ∈ ln) ∧
  ∀ H' ln', Keep K (d :: L :: ln.map (·.1)) H H' → Same ln ln' → DkIn K H' d L ln' (D.wakeAll (ps.map (·.2))) → Q .non H'
theorem wakeAll_snoc (D : Dk) (cs : List Cr) (c : Cr) : D.wakeAll (cs ++ [c]) = (D.wakeAll cs).move (c.as (.rdy (D.wakeAll cs).now)) := by
  unfold Dk.wakeAll
  rw [List.foldl_append]
  rfl
theorem wakeAll_now : ∀ (cs : List Cr) (D : Dk), (D.wakeAll cs).now = D.now
  | [], _ => rfl
  | c :: r, D => wakeAll_now r (D.move (c.as (.rdy D.now)))
theorem c_Desk__make_ready (T : Tx K mg base) : Met P w K mg base 2 (He.ga K "Desk") "_make_ready" (sp_make_ready K) := by
  have c_Caller_become_since : MetK P w K mg base 1 (He.ga K "Caller") "become" (sp_become K) 2 ["since"] (fun vs zs => vs ++ (zs ++ [.non, .non])) := c_Caller_become_since T
  have c_Desk__go_last : Met P w K mg base 1 (He.ga K "Desk") "_go_last" (sp_go_last K) := c_Desk__go_last T
  obtain ⟨fd, F⟩ := T.d_Desk__make_ready
  refine ⟨_, fd, ["self", "callers"], T.cl_Desk, T.me_Desk__make_ready, okF (k := 1) F sc_Desk__make_ready (fun vs H Q E h => ?_) (fun A outer s H vs Q E hr h => ?_), F.bindsN fun _ _ _ _ _ _ us hl => match us, hl with | [_, _], _ => rfl⟩
  · obtain ⟨d, L, ln, D, b, ps, rfl, _⟩ := h
    rfl
  · have nd := sc_Desk__make_ready.nd
    obtain ⟨d, L, ln, D, b, ps, rfl, x, hb, hps, q⟩ := h
    have bS : b ∉ d :: L :: ln.map (·.1) := (show DkAt K H (d :: L :: ln.map (·.1)) d D from ⟨L, ln, rfl, x⟩).lst hb
    refine ⟨_, (pss_one (ps_for (passes_of rfl) rfl (pi_list (pv 1)) (pg_name (i := 2) nd rfl (Or.inl rfl))
  (pss_cons (ps_expr (pmk c_Caller_become_since hr (by decide) passN (pv 2) (pa_cons (pgS (by rfl) T.h_READY) pa_nil) (pk_cons (pe_fld (pv 0) rfl) pk_nil)))
  (pss_one (ps_expr (pm c_Desk__go_last hr (by decide) p0 (pv 0) (pa_cons (pv 2) pa_nil))))))), ?_⟩
    refine ⟨_, rfl, b, rfl, ⟨_, .inl (.inl hb)⟩, ?_⟩
    refine for_it (walk_list (xs := ps.map fun p => V.ref p.1)) (fun i σ H' => ∃ v ln', σ = [some (.ref d), some (.ref b), v] ∧ Keep K (d :: L :: ln.map (·.1)) H H' ∧ Same ln ln' ∧ DkIn K H' d L ln' (D.wakeAll ((ps.take i).map (·.2)))) ⟨none, ln, rfl, Keep.refl _ _, Same.refl _, x⟩ ?_ ?_ ?_
    · rintro i σ H' _ ⟨v, ln', rfl, k, _⟩
      exact .inl (.inl (k.lst hb bS))
    · rintro i v σ H1 H2 hi ⟨v0, ln1, rfl, k1, s1, x1⟩ ⟨rfl, hv⟩
      have hi' : i < ps.length := by rw [List.length_map] at hi; exact hi
      obtain ⟨p, hpi⟩ : ∃ p, ps[i]? = some p := ⟨_, List.getElem?_eq_getElem hi'⟩
      rw [List.getElem?_map, hpi] at hv
      obtain rfl : V.ref p.1 = v := Option.some.inj hv
      obtain ⟨st0, hp0⟩ := hps p (List.mem_of_getElem? hpi)
      obtain ⟨st1, hp1⟩ := s1.2 _ hp0
      obtain ⟨dx, hd⟩ := id x1.desk
      obtain ⟨dy, hc⟩ := id (x1.crs _ hp1)
      have e1 : D.wakeAll ((ps.take (i + 1)).map (·.2)) = (D.wakeAll ((ps.take i).map (·.2))).move (p.2.as (.rdy D.now)) := by
        rw [List.take_add_one, hpi, List.map_append]
        show D.wakeAll (_ ++ [p.2]) = _
        rw [wakeAll_snoc, wakeAll_now]
      have en : (D.wakeAll ((ps.take i).map (·.2))).now = D.now := wakeAll_now _ _
      refine ⟨_, rfl, p.1, dy, _, rfl, hc, rfl, _, rfl, d, _, _, _, _, rfl, hd, T.cl_Desk, T.na_Desk_now, rfl, rfl, rfl, p.1, dy, _, _, _, _, _, _, .rdy D.now, ?_, hc, ?_⟩
      · rw [en]
        rfl
      have x2 := x1.set (c' := p.2.as (.rdy D.now)) (dx := dy) hp1 rfl
      obtain ⟨dx2, hd2⟩ := id x2.desk
      refine ⟨_, rfl, d, dx2, _, rfl, hd2, rfl, _, rfl, d, L, _, _, p.1, p.2.as (.rdy D.now), rfl, x2, setLn_mem hp1 rfl, fun H3 k3 x3 => ?_⟩
      refine ⟨_, _, rfl, k1.trans (Keep.moved x1 hp1 k3 fun b hb => s1.own.mp hb), s1.trans (Same.move x1 (st := .rdy D.now) hp1), ?_⟩
      rw [e1]
      exact x3
    · rintro σ H' ⟨v, ln', rfl, k, s, x'⟩
      rw [List.length_map, List.take_of_length_le (Nat.le_refl _)] at x'
      exact q _ _ k s x'
end
end Rr.K

set_option maxRecDepth 100000
set_option maxHeartbeats 4000000
namespace Rr.K
open PySem PySem.Spec PyProof.Rows L2
open GxR (TabG Tabbed)
section
variable {P : Program} {w : World} {K : PySem.W.Frag} {mg : Str → Option Value} {base : Heap}
/-- the walked dict's callers, those that a test takes -/
theorem take_filter {α : Type} {l : List α} {i : Nat} {c : α} (h : l[i]? = some c) (f : α → Bool) : (l.take (i + 1)).filter f = (l.take i).filter f ++ if f c then [c] else [] := by
  rw [List.take_add_one, h, List.filter_append]
  show _ ++ List.filter f [c] = _
  rw [List.filter_cons]
  rfl
theorem kvs_at {ln : Ln} {i : Nat} {k : Key} {v : V} (h : (kvsOf ln)[i]? = some (k, v)) : ∃ p, ln[i]? = some p ∧ p ∈ ln ∧ v = .ref p.1 := by
  unfold kvsOf at h
  rw [List.getElem?_map] at h
  cases e : ln[i]? with
  | none =>
    rw [e] at h
    cases h
  | some p =>
    rw [e] at h
    cases h
    exact ⟨p, rfl, List.mem_of_getElem? e, rfl⟩
theorem ln_len {K : PySem.W.Frag} {H : Hp} {d L : Addr} {ln : Ln} {D : Dk} (x : DkIn K H d L ln D) : ln.length = D.line.length := by rw [← x.eq, List.length_map]
def sp_ready_callers (K : PySem.W.Frag) : Sp := fun vs H Q _ => ∃ (d L : Addr) (ln : Ln) (D : Dk), vs = [.ref d] ∧ DkIn K H d L ln D ∧ ∀ b H', Keep K [] H H' → H b = none → H' b = some (.lst ((readyLn ln).map fun p => V.ref p.1)) → Q (.ref b) H'
theorem c_Desk__ready_callers (T : Tx K mg base) : Met P w K mg base 1 (He.ga K "Desk") "_ready_callers" (sp_ready_callers K) := by
  obtain ⟨fd, F⟩ := T.d_Desk__ready_callers
  refine ⟨_, fd, ["self"], T.cl_Desk, T.me_Desk__ready_callers, okF (k := 0) F sc_Desk__ready_callers (fun vs H Q E h => ?_) (fun A outer s H vs Q E hr h => ?_), F.bindsN fun _ _ _ _ _ _ us hl => match us, hl with | [_], _ => rfl⟩
  · obtain ⟨d, L, ln, D, rfl, _⟩ := h
    rfl
  · have nd := sc_Desk__ready_callers.nd
    obtain ⟨d, L, ln, D, rfl, x, q⟩ := h
    obtain ⟨dx, hd⟩ := id x.desk
    refine ⟨_, (pss_one (ps_ret (pe_lock (pe_lc (own := [("caller", 1)]) (g := gName 1) rfl nd (pi_values (pe_fldK (K := K) rfl (pv 0) rfl)) (blkOk_by (N := N_Desk__ready_callers) (sc := defScope s_Desk__ready_callers) (by decide +kernel)) (fun _ _ _ _ _ => (pg_name (i := 1) nd rfl (Or.inl rfl))) (fun _ _ _ _ _ => (pts_one (pt_cmpR op_eq (pe_fldK (K := K) rfl (pv 1) rfl) (pgS (by rfl) T.h_READY) (nomark _)))) (fun _ _ _ _ _ => (pv 1)))))), ?_⟩
    refine ⟨L, _, x.line, trivial, fun od => ?_⟩
    refine ⟨_, rfl, d, _, _, _, _, rfl, (upd_ne x.dne).trans hd, T.cl_Desk, T.na_Desk__line, rfl, L, od, _, rfl, upd_same, fun b nb => ?_⟩
    have bL : b ≠ L := fun z => by rw [z, upd_same] at nb; cases nb
    refine lc_it walk_values (Pv := fun i H' => Keep K [] (upd H L (.frz od (.dK (kvsOf ln)))) H' ∧ H' b = some (.lst (((ln.take i).filter fun p => p.2.st.isRdy).map fun p => V.ref p.1))) ⟨Keep.new nb, upd_same⟩ (fun i H' _ p => p.1.old _ _ upd_same List.not_mem_nil nt_frz) ?_ ?_
    · rintro i v H1 H2 hi ⟨k1, hb1⟩ ⟨rfl, k, hk⟩
      obtain ⟨p, hpi, hp, rfl⟩ := kvs_at hk
      obtain ⟨dy, hc⟩ := id (x.crs _ hp)
      have hc1 := k1.old p.1 _ ((upd_ne (x.lne (List.mem_map_of_mem (f := (·.1)) hp))).trans hc) List.not_mem_nil nt_ins
      refine ⟨rfl, ?_⟩
      refine ⟨_, rfl, p.1, _, _, _, _, rfl, hc1, T.cl_Caller, T.na_Caller_state, rfl, rfl, _, rfl, ?_⟩
      rw [word_rdy, take_filter hpi]
      cases e : p.2.st.isRdy with
      | false =>
        refine iteF ⟨k1, ?_⟩
        rw [if_neg (by simp), List.append_nil]
        exact hb1
      | true =>
        refine iteT ⟨_, rfl, _, hb1, ?_, k1.set (.inl nb) hb1 nt_lst, ?_⟩
        · rw [List.length_map]
          have h1 := List.length_filter_le (fun p : Addr × Cr => p.2.st.isRdy) (ln.take i)
          rw [List.length_take, ln_len x] at h1
          have h2 := x.len
          exact small1000 (by omega)
        · rw [upd_same, if_pos rfl, List.map_append]
          rfl
    · rintro H' ⟨k1, hb1⟩
      have hL := k1.old _ _ upd_same List.not_mem_nil nt_frz
      refine ⟨hL, q _ _ (Keep.back x.line nt_dK k1 nt_frz List.not_mem_nil) ((upd_ne bL).symm.trans nb) ?_⟩
      rw [upd_ne bL, hb1]
      unfold kvsOf
      rw [List.length_map, List.take_of_length_le (Nat.le_refl _)]
      rfl
def sp_aged : Sp := fun vs H Q _ => ∃ r t p : Int, vs = [.int r, .int t, .int p] ∧ 1 ≤ p ∧ p ≤ 1000 ∧ Q (.int (r + t / p)) H
theorem c_aged (T : Tx K mg base) : Cal P w K mg base 1 "aged" sp_aged := by
  obtain ⟨fd, F⟩ := T.d_aged
  refine ⟨_, fd, ["rank", "waited", "pace"], okF (k := 0) F sc_aged (fun vs H Q E h => ?_) (fun A outer s H vs Q E hr h => ?_), T.r_aged, F.kp, F.bindsN fun _ _ _ _ _ _ us hl => match us, hl with | [_, _, _], _ => rfl⟩
  · obtain ⟨r, t, p, rfl, _⟩ := h
    rfl
  · have nd := sc_aged.nd
    obtain ⟨r, t, p, rfl, hp, hp2, q⟩ := h
    refine ⟨_, (pss_cons (ps_if (pt_cmpR op_eq (pv 2) pe_int (nomark _))
  (pss_one (ps_ret (pv 0)))
  pss_nil)
  (pss_one (ps_ret (pe_op op_add (pv 0) (pe_op op_fdiv (pv 1) (pv 2)))))), ?_⟩
    refine ⟨_, rfl, rfl, _, rfl, ?_⟩
    rw [decide_eq_false (show ¬ V.int p = V.int 0 from fun z => by have h := V.int.inj z; rw [h] at hp; exact absurd hp (by decide))]
    exact iteF ⟨_, rfl, _, rfl, _, rfl, _, _, rfl, rfl, ⟨by omega, by omega⟩, _, _, rfl, rfl, q⟩
def placeV {α : Type} : Option (Nat × α) → V
  | none => .non
  | some y => .int y.1
def ageP (p : Int) (x : Int × Int) : Int := x.1 + x.2 / p
def sp_first (K : PySem.W.Frag) : Sp := fun vs H Q _ => ∃ (a : Addr) (ts : List Addr) (rows : List (Int × Int)) (p : Int), vs = [.ref a, .int p] ∧ SqL K H a (ts.map V.ref) ∧ ts.length = rows.length ∧ (∀ (i : Nat) (t : Addr) (x : Int × Int), ts[i]? = some t → rows[i]? = some x → H t = some (.tup [.int x.1, .int x.2])) ∧ 1 ≤ p ∧ p ≤ 1000 ∧
  ∀ H', Keep K [] H H' → Q (placeV (pickI (ageP p) rows)) H'
theorem c_first (T : Tx K mg base) : Cal P w K mg base 2 "first" (sp_first K) := by
  have c_aged : Cal P w K mg base 1 "aged" sp_aged := c_aged T
  obtain ⟨fd, F⟩ := T.d_first
  refine ⟨_, fd, ["rows", "pace"], okF (k := 1) F sc_first (fun vs H Q E h => ?_) (fun A outer s H vs Q E hr h => ?_), T.r_first, F.kp, F.bindsN fun _ _ _ _ _ _ us hl => match us, hl with | [_, _], _ => rfl⟩
  · obtain ⟨a, ts, rows, p, rfl, _⟩ := h
    rfl
  · have nd := sc_first.nd
    obtain ⟨a, ts, rows, p, rfl, hS, hl, hts, hp, hp2, q⟩ := h
    refine ⟨_, (pss_cons (ps_set (i := 2) nd rfl (Or.inl rfl) pe_non)
  (pss_cons (ps_set (i := 3) nd rfl (Or.inl rfl) pe_int)
  (pss_cons (ps_for (passes_of rfl) rfl (pi_enum (by rfl) T.m_enumerate (pa_cons (pv 0) pa_nil)) (pg_tup rfl (pgs_cons (pg_name (i := 4) nd rfl (Or.inl rfl)) (pgs_cons (pg_tup rfl (pgs_cons (pg_name (i := 5) nd rfl (Or.inl rfl)) (pgs_cons (pg_name (i := 6) nd rfl (Or.inl rfl)) pgs_nil))) pgs_nil)))
  (pss_cons (ps_set (i := 7) nd rfl (Or.inl rfl) (pf c_aged hr (by decide) (by rfl) p0 (pa_cons (pv 5) (pa_cons (pv 6) (pa_cons (pv 1) pa_nil)))))
  (pss_one (ps_if (PW.pt (pw_or (pt_cmpR op_isN (pv 2) pe_non (nomark _)) (pw_or1 (pt_cmpR op_gt (pv 7) (pv 3) (nomark _)))))
  (pss_cons (ps_set (i := 2) nd rfl (Or.inl rfl) (pv 4))
  (pss_one (ps_set (i := 3) nd rfl (Or.inl rfl) (pv 7))))
  pss_nil))))
  (pss_one (ps_ret (pv 2)))))), ?_⟩
    refine ⟨_, rfl, a, _, rfl, hS, ?_⟩
    refine for_it (walk_enum (K := K) (a := a) (xs := ts.map V.ref)) (fun i σ H' => Keep K [] H H' ∧ ∃ v4 v5 v6 v7 : Option V, ∃ pl : V, ∃ b : Int, σ = [some (.ref a), some (.int p), some pl, some (.int b), v4, v5, v6, v7] ∧
      match pickI (ageP p) (rows.take i) with
      | none => pl = .non ∧ b = 0
      | some y => pl = .int y.1 ∧ b = ageP p y.2) ⟨Keep.refl _ _, none, none, none, none, .non, 0, rfl, rfl, rfl⟩ ?_ ?_ ?_
    · rintro i σ H' _ ⟨k, _⟩
      exact k.seq hS fun _ _ => List.not_mem_nil
    · rintro i x σ H1 H2 hi ⟨k1, v4, v5, v6, v7, pl, b, rfl, hI⟩ ⟨T2, x1, x2, rfl, hT, rfl, hx1, hx2⟩
      have hir : i < rows.length := by rw [← hl]; rw [List.length_map] at hi; exact hi
      obtain ⟨⟨r, wt⟩, hrw⟩ : ∃ y, rows[i]? = some y := ⟨_, List.getElem?_eq_getElem hir⟩
      obtain ⟨t, ht⟩ : ∃ t, ts[i]? = some t := ⟨_, List.getElem?_eq_getElem (by omega)⟩
      obtain rfl : V.ref t = x2 := Option.some.inj (by rw [← hx2]; show _ = (ts.map V.ref)[i]?; rw [List.getElem?_map, ht]; rfl)
      obtain rfl : V.int i = x1 := Option.some.inj hx1
      have k2 : Keep K [] H (upd H1 T2 (.tup [.int i, .ref t])) := k1.trans (Keep.new hT)
      refine ⟨T2, _, rfl, .inl (.inl upd_same), rfl, _, _, rfl, _, _, rfl, ⟨t, _, rfl, .inl (.inl (k2.tup (hts i t _ ht hrw) List.not_mem_nil)), rfl, _, _, rfl, _, _, rfl, rfl, ?_⟩⟩
      refine ⟨rfl, ?_⟩
      refine ⟨_, rfl, _, rfl, _, rfl, r, wt, p, rfl, hp, hp2, ?_⟩
      have eT : rows.take (i + 1) = rows.take i ++ [(r, wt)] := by rw [List.take_add_one, hrw]; rfl
      have eL : (rows.take i).length = i := by rw [List.length_take]; omega
      refine ⟨_, rfl, rfl, _, rfl, ?_⟩
      cases ep : pickI (ageP p) (rows.take i) with
      | none =>
        rw [ep] at hI
        obtain ⟨rfl, rfl⟩ := hI
        refine iteT (iteT ⟨_, rfl, _, rfl, k2, _, _, _, _, .int i, _, rfl, ?_⟩)
        rw [eT, pickI_snoc, ep, eL]
        exact ⟨rfl, rfl⟩
      | some y =>
        rw [ep] at hI
        obtain ⟨rfl, rfl⟩ := hI
        refine iteF ⟨_, rfl, _, rfl, _, _, rfl, rfl, _, rfl, ite2 (fun c => ?_) (fun c => ?_)⟩
        · have hlt : ageP p y.2 < ageP p (r, wt) := of_decide_eq_true c
          refine ⟨_, rfl, _, rfl, k2, _, _, _, _, .int i, _, rfl, ?_⟩
          rw [eT, pickI_snoc, ep, eL]
          show match (if ageP p y.2 < ageP p (r, wt) then some (i, (r, wt)) else some y) with
            | none => _
            | some y => _
          rw [if_pos hlt]
          exact ⟨rfl, rfl⟩
        · have hge : ¬ ageP p y.2 < ageP p (r, wt) := fun z => c (decide_eq_true z)
          refine ⟨k2, _, _, _, _, .int y.1, _, rfl, ?_⟩
          rw [eT, pickI_snoc, ep, eL]
          show match (if ageP p y.2 < ageP p (r, wt) then some (i, (r, wt)) else some y) with
            | none => _
            | some y => _
          rw [if_neg hge]
          exact ⟨rfl, rfl⟩
    · rintro σ H' ⟨k, v4, v5, v6, v7, pl, b, rfl, hI⟩
      rw [List.length_map, List.take_of_length_le (by omega)] at hI
      have := q _ k
      cases ep : pickI (ageP p) rows with
      | none =>
        rw [ep] at hI this
        obtain ⟨rfl, rfl⟩ := hI
        exact ⟨_, rfl, this⟩
      | some y =>
        rw [ep] at hI this
        obtain ⟨rfl, rfl⟩ := hI
        exact ⟨_, rfl, this⟩
def sp_chosen (K : PySem.W.Frag) : Sp := fun vs H Q _ => ∃ (d L : Addr) (ln : Ln) (D : Dk), vs = [.ref d] ∧ DkIn K H d L ln D ∧ ∀ H', Keep K [] H H' → (D.pick = none → Q .non H') ∧ ∀ p ∈ ln, p.2.st.isRdy = true → D.pick = some p.2 → Q (.ref p.1) H'
theorem c_Desk__chosen (T : Tx K mg base) : Met P w K mg base 3 (He.ga K "Desk") "_chosen" (sp_chosen K) := by
  have c_first : Cal P w K mg base 2 "first" (sp_first K) := c_first T
  have c_Desk__ready_callers : Met P w K mg base 1 (He.ga K "Desk") "_ready_callers" (sp_ready_callers K) := c_Desk__ready_callers T
  have c_Desk__waited : Met P w K mg base 1 (He.ga K "Desk") "_waited" (sp_waitedC K) := c_Desk__waited T
  obtain ⟨fd, F⟩ := T.d_Desk__chosen
  refine ⟨_, fd, ["self"], T.cl_Desk, T.me_Desk__chosen, okF (k := 2) F sc_Desk__chosen (fun vs H Q E h => ?_) (fun A outer s H vs Q E hr h => ?_), F.bindsN fun _ _ _ _ _ _ us hl => match us, hl with | [_], _ => rfl⟩
  · obtain ⟨d, L, ln, D, rfl, _⟩ := h
    rfl
  · have nd := sc_Desk__chosen.nd
    obtain ⟨d, L, ln, D, rfl, x, q⟩ := h
    obtain ⟨dx, hd⟩ := id x.desk
    refine ⟨_, (pss_cons (ps_set (i := 1) nd rfl (Or.inl rfl) (pm0 c_Desk__ready_callers hr (by decide) p0 (pv 0)))
  (pss_cons (ps_set (i := 2) nd rfl (Or.inl rfl) (pf c_first hr (by decide) (by rfl) p0 (pa_cons (pe_lc (own := [("caller", 3)]) (g := gName 3) (tt := tYes) rfl nd (pi_listK (K := K) rfl (pv 1)) (blkOk_by (N := N_Desk__chosen) (sc := defScope s_Desk__chosen) (by decide +kernel)) (fun _ _ _ _ _ => (pg_name (i := 3) nd rfl (Or.inl rfl))) (fun _ _ _ _ _ => pts_nil) (fun _ _ _ _ _ => (pe_tup (pa_cons (pe_fldK (K := K) rfl (pv 3) rfl) (pa_cons (pm c_Desk__waited hr (by decide) p0 (pv 0) (pa_cons (pv 3) pa_nil)) pa_nil))))) (pa_cons (pe_fld (pv 0) rfl) pa_nil))))
  (pss_cons (ps_if (pt_cmpR op_isN (pv 2) pe_non (nomark _))
  (pss_one (ps_ret pe_non))
  pss_nil)
  (pss_one (ps_ret (pe_ix ix_list (pv 1) (pv 2) (fun _ _ => rfl))))))), ?_⟩
    refine ⟨_, rfl, d, _, _, rfl, hd, rfl, d, L, ln, D, rfl, x, fun b H1 k1 nb hb => ?_⟩
    have x1 := x.keep k1 fun _ _ => List.not_mem_nil
    have rl : (readyLn ln).length ≤ 60 := Nat.le_trans (List.length_filter_le _ _) (by rw [ln_len x]; exact x.len)
    refine ⟨_, rfl, b, rfl, ⟨_, .inl (.inl hb)⟩, fun b2 nb2 => ?_⟩
    refine lc_it (walk_list (K := K) (xs := (readyLn ln).map fun p => V.ref p.1)) (Pv := fun i H' => Keep K [] H1 H' ∧ ∃ ts : List Addr, ts.length = i ∧ H' b2 = some (.lst (ts.map V.ref)) ∧ ∀ (j : Nat) (t : Addr) (p : Addr × Cr), ts[j]? = some t → (readyLn ln)[j]? = some p → H' t = some (.tup [.int p.2.rank, .int (D.now - p.2.st.since)]))
      ⟨Keep.new nb2, [], rfl, upd_same, fun j t p h => (nomatch h)⟩ (fun i H' _ p => .inl (.inl (p.1.lst hb List.not_mem_nil))) ?_ ?_
    · rintro i v H2 H3 hi ⟨k2, ts, hl, hb2, hts⟩ ⟨rfl, hv⟩
      rw [List.getElem?_map] at hv
      cases ep : (readyLn ln)[i]? with
      | none =>
        rw [ep] at hv
        cases hv
      | some p =>
        rw [ep] at hv
        obtain rfl : V.ref p.1 = v := Option.some.inj hv
        obtain ⟨hp, hr1⟩ := List.mem_filter.mp (List.mem_of_getElem? ep)
        have x2 := x1.keep k2 fun _ _ => List.not_mem_nil
        obtain ⟨dx2, hd2⟩ := id x2.desk
        obtain ⟨dy, hc⟩ := id (x2.crs _ hp)
        refine ⟨rfl, ?_⟩
        refine ⟨_, rfl, p.1, _, _, _, _, rfl, hc, T.cl_Caller, T.na_Caller_rank, rfl, _, rfl, d, _, _, rfl, hd2, rfl, _, rfl, d, L, ln, D, p, rfl, x2, hp, hr1, (show 2 ≤ sizeLine by decide), fun t nt => ?_⟩
        have b2t : b2 ≠ t := fun z => by rw [← z, hb2] at nt; cases nt
        refine ⟨_, (upd_ne b2t).trans hb2, ?_, ?_, ts ++ [t], ?_, ?_, ?_⟩
        · rw [List.length_map, hl]
          have : i < (readyLn ln).length := (List.getElem?_eq_some_iff.mp ep).1
          exact small1000 (by omega)
        · exact (k2.trans (Keep.new nt)).set (.inl nb2) ((upd_ne b2t).trans hb2) nt_lst
        · rw [List.length_append, hl]
          rfl
        · rw [upd_same, List.map_append]
          rfl
        · intro j t' p' h1 h2
          rcases Nat.lt_or_ge j ts.length with hj | hj
          · rw [List.getElem?_append_left hj] at h1
            have e1 := hts j t' p' h1 h2
            have n1 : t' ≠ b2 := fun z => by rw [z, hb2] at e1; cases e1
            have n2 : t' ≠ t := fun z => by rw [z, nt] at e1; cases e1
            rw [upd_ne n1, upd_ne n2]
            exact e1
          · have hj2 : j = i := by
              have := (List.getElem?_eq_some_iff.mp h1).1
              rw [List.length_append] at this
              simp at this
              omega
            rw [hj2, ← hl, List.getElem?_append_right (Nat.le_refl _), Nat.sub_self] at h1
            obtain rfl : t = t' := Option.some.inj h1
            rw [hj2, ep] at h2
            obtain rfl : p = p' := Option.some.inj h2
            rw [upd_ne (fun z => b2t z.symm), upd_same]
    · rintro H2 ⟨k2, ts, hl, hb2, hts⟩
      rw [List.length_map] at hl
      have x2 := x1.keep k2 fun _ _ => List.not_mem_nil
      obtain ⟨dx2, hd2⟩ := id x2.desk
      refine ⟨_, rfl, d, _, _, _, _, rfl, hd2, T.cl_Desk, T.na_Desk_pace, rfl, b2, ts, (readyLn ln).map (fun p => (p.2.rank, D.now - p.2.st.since)), D.pace, rfl, .inl (.inl hb2), by rw [List.length_map, hl], fun j t y h1 h2 => ?_, x.pr.1.1, x.pr.1.2, fun H3 k3 => ?_⟩
      · rw [List.getElem?_map] at h2
        cases ep : (readyLn ln)[j]? with
        | none =>
          rw [ep] at h2
          cases h2
        | some p =>
          rw [ep] at h2
          cases h2
          exact hts j t p h1 ep
      · have eP : pickI (ageP D.pace) ((readyLn ln).map fun p => (p.2.rank, D.now - p.2.st.since)) = (pickI (fun p : Addr × Cr => agedC D.pace D.now p.2) (readyLn ln)).map fun y => (y.1, (y.2.2.rank, D.now - y.2.2.st.since)) := pickI_map _ _ _ _ rfl
        have eD : D.pick = (pickI (fun p : Addr × Cr => agedC D.pace D.now p.2) (readyLn ln)).map fun y => y.2.2 := by
          unfold Dk.pick Rr.pick
          rw [← x.eq, ← readyLn_snd, pickI_map (agedC D.pace D.now) (fun p : Addr × Cr => p.2) _ _ rfl, Option.map_map]
          rfl
        obtain ⟨q1, q2⟩ := q H3 ((k1.trans k2).trans k3)
        rw [eP]
        cases e : pickI (fun p : Addr × Cr => agedC D.pace D.now p.2) (readyLn ln) with
        | none =>
          rw [e] at eD
          exact ⟨_, rfl, rfl, _, rfl, iteT (q1 eD)⟩
        | some y =>
          rw [e] at eD
          have hy := pickI_at _ _ _ rfl (j := y.1) (x := y.2) e
          obtain ⟨hp, hr1⟩ := List.mem_filter.mp (List.mem_of_getElem? hy)
          refine ⟨_, rfl, rfl, _, rfl, iteF ⟨_, rfl, _, rfl, b, _, _, _, rfl, rfl, .inl (.inl ((k2.trans k3).lst hb List.not_mem_nil)), atI_nat (j := y.1) (by rw [List.getElem?_map, hy]; rfl), q2 y.2 hp hr1 eD⟩⟩
end
end Rr.K

set_option maxRecDepth 100000
set_option maxHeartbeats 4000000
namespace Rr.K
open PySem PySem.Spec PyProof.Rows L2
open GxR (TabG Tabbed)
/-! ### what a desk does and tells, by a caller's name -/
section
variable {P : Program} {w : World} {K : PySem.W.Frag} {mg : Str → Option Value} {base : Heap}
theorem of_line {H : Hp} {d L : Addr} {ln : Ln} {D : Dk} (x : DkIn K H d L ln D) {p : Addr × Cr} (hp : p ∈ ln) : p.2 ∈ D.line := (in_names x hp).1
theorem at_line {H : Hp} {d L : Addr} {ln : Ln} {D : Dk} (x : DkIn K H d L ln D) {p : Addr × Cr} (hp : p ∈ ln) : CrAt K H p.1 p.2 ∧ isName p.2.name = true := ⟨x.crs p hp, x.ok _ (of_line x hp)⟩
theorem sub_same {H : Hp} {d L : Addr} {ln ln' : Ln} (s : Same ln ln') : Sub H (d :: L :: ln.map (·.1)) (d :: L :: ln'.map (·.1)) := fun b hb => .inl (s.own.mp hb)
/-- what a desk's method by a caller's name wants of the name and the desk, and what it asks of an unknown one -/
def ByN (K : PySem.W.Frag) (H : Hp) (E : XK) (d : Addr) (S : List Addr) (D : Dk) (n : Str) (q : Cr → Prop) : Prop := Small n ∧ DkAt K H S d D ∧ (n ∉ namesL D.line → E (xc K "Unknown") none H) ∧ ∀ c ∈ D.line, c.name = n → q c
/-- the desk has become D' -/
def Now (K : PySem.W.Frag) (H : Hp) (S : List Addr) (d : Addr) (D' : Dk) (q : Hp → Prop) : Prop := ∀ H' S', Keep K S H H' → Sub H S S' → DkAt K H' S' d D' → q H'
def sp_state (K : PySem.W.Frag) : Sp := fun vs H Q E => ∃ (d : Addr) (S : List Addr) (D : Dk) (n : Str), vs = [.ref d, .str n] ∧ ByN K H E d S D n fun c => Q (.str c.st.word) H
theorem c_Desk_state (T : Tx K mg base) : Met P w K mg base 2 (He.ga K "Desk") "state" (sp_state K) := by
  have c_Desk__known : Met P w K mg base 1 (He.ga K "Desk") "_known" (sp_known K) := c_Desk__known T
  obtain ⟨fd, F⟩ := T.d_Desk_state
  refine ⟨_, fd, ["self", "name"], T.cl_Desk, T.me_Desk_state, okF (k := 1) F sc_Desk_state (fun vs H Q E h => ?_) (fun A outer s H vs Q E hr h => ?_), F.bindsN fun _ _ _ _ _ _ us hl => match us, hl with | [_, _], _ => rfl⟩
  · obtain ⟨d, S, D, n, rfl, _⟩ := h
    rfl
  · have nd := sc_Desk_state.nd
    obtain ⟨d, S, D, n, rfl, hn, ⟨L, ln, rfl, x⟩, q1, q2⟩ := h
    obtain ⟨dx, hd⟩ := id x.desk
    refine ⟨_, (pss_one (ps_ret (pe_fld (pm c_Desk__known hr (by decide) (pU (GE.takes_of rfl rfl rfl rfl)) (pv 0) (pa_cons (pv 1) pa_nil)) rfl))), ?_⟩
    refine ⟨_, rfl, d, dx, _, rfl, hd, rfl, _, rfl, d, L, ln, D, n, rfl, hn, x, q1, fun p hp en => ?_⟩
    obtain ⟨dy, hc⟩ := id (x.crs _ hp)
    exact ⟨p.1, _, _, _, _, rfl, hc, T.cl_Caller, T.na_Caller_state, rfl, q2 p.2 (of_line x hp) en⟩
def sp_rank (K : PySem.W.Frag) : Sp := fun vs H Q E => ∃ (d : Addr) (S : List Addr) (D : Dk) (n : Str), vs = [.ref d, .str n] ∧ ByN K H E d S D n fun c => Q (.int c.rank) H
theorem c_Desk_rank (T : Tx K mg base) : Met P w K mg base 2 (He.ga K "Desk") "rank" (sp_rank K) := by
  have c_Desk__known : Met P w K mg base 1 (He.ga K "Desk") "_known" (sp_known K) := c_Desk__known T
  obtain ⟨fd, F⟩ := T.d_Desk_rank
  refine ⟨_, fd, ["self", "name"], T.cl_Desk, T.me_Desk_rank, okF (k := 1) F sc_Desk_rank (fun vs H Q E h => ?_) (fun A outer s H vs Q E hr h => ?_), F.bindsN fun _ _ _ _ _ _ us hl => match us, hl with | [_, _], _ => rfl⟩
  · obtain ⟨d, S, D, n, rfl, _⟩ := h
    rfl
  · have nd := sc_Desk_rank.nd
    obtain ⟨d, S, D, n, rfl, hn, ⟨L, ln, rfl, x⟩, q1, q2⟩ := h
    obtain ⟨dx, hd⟩ := id x.desk
    refine ⟨_, (pss_one (ps_ret (pe_fld (pm c_Desk__known hr (by decide) (pU (GE.takes_of rfl rfl rfl rfl)) (pv 0) (pa_cons (pv 1) pa_nil)) rfl))), ?_⟩
    refine ⟨_, rfl, d, dx, _, rfl, hd, rfl, _, rfl, d, L, ln, D, n, rfl, hn, x, q1, fun p hp en => ?_⟩
    obtain ⟨dy, hc⟩ := id (x.crs _ hp)
    exact ⟨p.1, _, _, _, _, rfl, hc, T.cl_Caller, T.na_Caller_rank, rfl, q2 p.2 (of_line x hp) en⟩
def sp_bell (K : PySem.W.Frag) : Sp := fun vs H Q E => ∃ (d : Addr) (S : List Addr) (D : Dk) (n : Str), vs = [.ref d, .str n] ∧ ByN K H E d S D n fun c => Q c.st.bellV H
theorem c_Desk_bell (T : Tx K mg base) : Met P w K mg base 2 (He.ga K "Desk") "bell" (sp_bell K) := by
  have c_Desk__known : Met P w K mg base 1 (He.ga K "Desk") "_known" (sp_known K) := c_Desk__known T
  obtain ⟨fd, F⟩ := T.d_Desk_bell
  refine ⟨_, fd, ["self", "name"], T.cl_Desk, T.me_Desk_bell, okF (k := 1) F sc_Desk_bell (fun vs H Q E h => ?_) (fun A outer s H vs Q E hr h => ?_), F.bindsN fun _ _ _ _ _ _ us hl => match us, hl with | [_, _], _ => rfl⟩
  · obtain ⟨d, S, D, n, rfl, _⟩ := h
    rfl
  · have nd := sc_Desk_bell.nd
    obtain ⟨d, S, D, n, rfl, hn, ⟨L, ln, rfl, x⟩, q1, q2⟩ := h
    obtain ⟨dx, hd⟩ := id x.desk
    refine ⟨_, (pss_one (ps_ret (pe_fld (pm c_Desk__known hr (by decide) (pU (GE.takes_of rfl rfl rfl rfl)) (pv 0) (pa_cons (pv 1) pa_nil)) rfl))), ?_⟩
    refine ⟨_, rfl, d, dx, _, rfl, hd, rfl, _, rfl, d, L, ln, D, n, rfl, hn, x, q1, fun p hp en => ?_⟩
    obtain ⟨dy, hc⟩ := id (x.crs _ hp)
    exact ⟨p.1, _, _, _, _, rfl, hc, T.cl_Caller, T.na_Caller_bell, rfl, q2 p.2 (of_line x hp) en⟩
def sp_waited (K : PySem.W.Frag) : Sp := fun vs H Q E => ∃ (d : Addr) (S : List Addr) (D : Dk) (n : Str), vs = [.ref d, .str n] ∧ ByN K H E d S D n fun c => (c.st.isRdy = false → E (xc K "NotReady") none H) ∧ (c.st.isRdy = true → Q (.int (D.now - c.st.since)) H)
theorem c_Desk_waited (T : Tx K mg base) : Met P w K mg base 2 (He.ga K "Desk") "waited" (sp_waited K) := by
  have c_Desk__known : Met P w K mg base 1 (He.ga K "Desk") "_known" (sp_known K) := c_Desk__known T
  have c_Desk__waited : Met P w K mg base 1 (He.ga K "Desk") "_waited" (sp_waitedC K) := c_Desk__waited T
  have c_check_ready : Cal P w K mg base 1 "check_ready" (sp_check_ready K) := c_check_ready T
  obtain ⟨fd, F⟩ := T.d_Desk_waited
  refine ⟨_, fd, ["self", "name"], T.cl_Desk, T.me_Desk_waited, okF (k := 1) F sc_Desk_waited (fun vs H Q E h => ?_) (fun A outer s H vs Q E hr h => ?_), F.bindsN fun _ _ _ _ _ _ us hl => match us, hl with | [_, _], _ => rfl⟩
  · obtain ⟨d, S, D, n, rfl, _⟩ := h
    rfl
  · have nd := sc_Desk_waited.nd
    obtain ⟨d, S, D, n, rfl, hn, ⟨L, ln, rfl, x⟩, q1, q2⟩ := h
    obtain ⟨dx, hd⟩ := id x.desk
    refine ⟨_, (pss_cons (ps_set (i := 2) nd rfl (Or.inl rfl) (pm c_Desk__known hr (by decide) (pU (GE.takes_of rfl rfl rfl rfl)) (pv 0) (pa_cons (pv 1) pa_nil)))
  (pss_cons (ps_expr (pf c_check_ready hr (by decide) (by rfl) (pU (GE.takes_of rfl rfl rfl rfl)) (pa_cons (pv 2) pa_nil)))
  (pss_one (ps_ret (pm c_Desk__waited hr (by decide) p0 (pv 0) (pa_cons (pv 2) pa_nil)))))), ?_⟩
    refine ⟨_, rfl, d, dx, _, rfl, hd, rfl, _, rfl, d, L, ln, D, n, rfl, hn, x, q1, fun p hp en => ?_⟩
    obtain ⟨r1, r2⟩ := q2 p.2 (of_line x hp) en
    refine ⟨_, rfl, p.1, p.2, rfl, (at_line x hp).1, (at_line x hp).2, r1, fun er => ?_⟩
    exact ⟨_, rfl, d, dx, _, rfl, hd, rfl, _, rfl, d, L, ln, D, p, rfl, x, hp, er, r2 er⟩
def _root_.Rr.Stt.leftV (s : Stt) (now : Int) : V := match s with
  | .slp u => .int (u - now)
  | _ => .non
def sp_left (K : PySem.W.Frag) : Sp := fun vs H Q E => ∃ (d : Addr) (S : List Addr) (D : Dk) (n : Str), vs = [.ref d, .str n] ∧ ByN K H E d S D n fun c => Q (c.st.leftV D.now) H
theorem c_Desk_left (T : Tx K mg base) : Met P w K mg base 2 (He.ga K "Desk") "left" (sp_left K) := by
  have c_Desk__known : Met P w K mg base 1 (He.ga K "Desk") "_known" (sp_known K) := c_Desk__known T
  obtain ⟨fd, F⟩ := T.d_Desk_left
  refine ⟨_, fd, ["self", "name"], T.cl_Desk, T.me_Desk_left, okF (k := 1) F sc_Desk_left (fun vs H Q E h => ?_) (fun A outer s H vs Q E hr h => ?_), F.bindsN fun _ _ _ _ _ _ us hl => match us, hl with | [_, _], _ => rfl⟩
  · obtain ⟨d, S, D, n, rfl, _⟩ := h
    rfl
  · have nd := sc_Desk_left.nd
    obtain ⟨d, S, D, n, rfl, hn, ⟨L, ln, rfl, x⟩, q1, q2⟩ := h
    obtain ⟨dx, hd⟩ := id x.desk
    refine ⟨_, (pss_cons (ps_set (i := 2) nd rfl (Or.inl rfl) (pm c_Desk__known hr (by decide) (pU (GE.takes_of rfl rfl rfl rfl)) (pv 0) (pa_cons (pv 1) pa_nil)))
  (pss_cons (ps_if (pt_cmpR op_isN (pe_fld (pv 2) rfl) pe_non (nomark _))
  (pss_one (ps_ret pe_non))
  pss_nil)
  (pss_one (ps_ret (pe_op op_sub (pe_fld (pv 2) rfl) (pe_fld (pv 0) rfl)))))), ?_⟩
    refine ⟨_, rfl, d, dx, _, rfl, hd, rfl, _, rfl, d, L, ln, D, n, rfl, hn, x, q1, fun p hp en => ?_⟩
    have q3 := q2 p.2 (of_line x hp) en
    obtain ⟨a, m, r, st⟩ := p
    obtain ⟨dy, hc⟩ := id (x.crs _ hp)
    refine ⟨_, rfl, a, _, _, _, _, rfl, hc, T.cl_Caller, T.na_Caller_due, rfl, rfl, _, rfl, ?_⟩
    cases st with
    | slp u => exact iteF ⟨_, rfl, a, _, _, _, _, rfl, hc, T.cl_Caller, T.na_Caller_due, rfl, _, rfl, d, _, _, _, _, rfl, hd, T.cl_Desk, T.na_Desk_now, rfl, _, _, rfl, rfl, q3⟩
    | rdy _ => exact iteT q3
    | wtg _ => exact iteT q3
/-- a caller has become so and has gone to the end -/
theorem moved {H H1 : Hp} {d L : Addr} {ln : Ln} {D : Dk} {a : Addr} {c : Cr} {st : Stt} {o : HO} (x : DkIn K H d L ln D) (hp : (a, c) ∈ ln) (k : Keep K [L] (L2.upd H a o) H1) (x1 : DkIn K H1 d L (moveLn (c.as st) ln) (D.move (c.as st))) {q : Hp → Prop}
    (h : Now K H (d :: L :: ln.map (·.1)) d (D.move (c.as st)) q) : q H1 :=
  h _ _ (Keep.moved x hp k fun _ z => z) (sub_same (Same.move x hp)) ⟨L, _, rfl, x1⟩
def sp_sleep (K : PySem.W.Frag) : Sp := fun vs H Q E => ∃ (d : Addr) (S : List Addr) (D : Dk) (n : Str) (m : Int), vs = [.ref d, .str n, .int m] ∧ Mod m ∧ ByN K H E d S D n fun c => (¬ (1 ≤ m ∧ m ≤ 1000) → E (xc K "NoSpan") none H) ∧ (1 ≤ m ∧ m ≤ 1000 →
  (c.st.isRdy = false → E (xc K "NotReady") none H) ∧ (c.st.isRdy = true → Now K H S d (D.move (c.as (.slp (D.now + m)))) (Q .non)))
theorem c_Desk_sleep (T : Tx K mg base) : Met P w K mg base 2 (He.ga K "Desk") "sleep" (sp_sleep K) := by
  have c_Desk__known : Met P w K mg base 1 (He.ga K "Desk") "_known" (sp_known K) := c_Desk__known T
  have c_check_span : Cal P w K mg base 1 "check_span" (sp_check_span K) := c_check_span T
  have c_check_ready : Cal P w K mg base 1 "check_ready" (sp_check_ready K) := c_check_ready T
  have c_Caller_become_due : MetK P w K mg base 1 (He.ga K "Caller") "become" (sp_become K) 2 ["due"] (fun vs zs => vs ++ ([.non] ++ (zs ++ [.non]))) := c_Caller_become_due T
  have c_Desk__go_last : Met P w K mg base 1 (He.ga K "Desk") "_go_last" (sp_go_last K) := c_Desk__go_last T
  obtain ⟨fd, F⟩ := T.d_Desk_sleep
  refine ⟨_, fd, ["self", "name", "many"], T.cl_Desk, T.me_Desk_sleep, okF (k := 1) F sc_Desk_sleep (fun vs H Q E h => ?_) (fun A outer s H vs Q E hr h => ?_), F.bindsN fun _ _ _ _ _ _ us hl => match us, hl with | [_, _, _], _ => rfl⟩
  · obtain ⟨d, S, D, n, m, rfl, _⟩ := h
    rfl
  · have nd := sc_Desk_sleep.nd
    obtain ⟨d, S, D, n, m, rfl, hm, hn, ⟨L, ln, rfl, x⟩, q1, q2⟩ := h
    obtain ⟨dx, hd⟩ := id x.desk
    refine ⟨_, (pss_cons (ps_set (i := 3) nd rfl (Or.inl rfl) (pm c_Desk__known hr (by decide) (pU (GE.takes_of rfl rfl rfl rfl)) (pv 0) (pa_cons (pv 1) pa_nil)))
  (pss_cons (ps_expr (pf c_check_span hr (by decide) (by rfl) (pU (GE.takes_of rfl rfl rfl rfl)) (pa_cons (pv 2) (pa_cons pe_int pa_nil))))
  (pss_cons (ps_expr (pf c_check_ready hr (by decide) (by rfl) (pU (GE.takes_of rfl rfl rfl rfl)) (pa_cons (pv 3) pa_nil)))
  (pss_cons (ps_expr (pmk c_Caller_become_due hr (by decide) passN (pv 3) (pa_cons (pgS (by rfl) T.h_ASLEEP) pa_nil) (pk_cons (pe_op op_add (pe_fld (pv 0) rfl) (pv 2)) pk_nil)))
  (pss_one (ps_expr (pm c_Desk__go_last hr (by decide) p0 (pv 0) (pa_cons (pv 3) pa_nil)))))))), ?_⟩
    refine ⟨_, rfl, d, dx, _, rfl, hd, rfl, _, rfl, d, L, ln, D, n, rfl, hn, x, q1, fun p hp en => ?_⟩
    obtain ⟨r1, r2⟩ := q2 p.2 (of_line x hp) en
    refine ⟨_, rfl, m, 1, rfl, hm, ⟨by decide, by decide⟩, r1, fun e1 => ?_⟩
    obtain ⟨r3, r4⟩ := r2 e1
    refine ⟨_, rfl, p.1, p.2, rfl, (at_line x hp).1, (at_line x hp).2, r3, fun er => ?_⟩
    obtain ⟨dy, hc⟩ := id (x.crs _ hp)
    refine ⟨_, rfl, p.1, dy, _, rfl, hc, rfl, _, rfl, d, _, _, _, _, rfl, hd, T.cl_Desk, T.na_Desk_now, rfl, _, rfl, _, _, rfl, rfl, rfl, rfl, p.1, dy, _, _, _, _, _, _, .slp (D.now + m), rfl, hc, ?_⟩
    have x2 := x.set (c' := p.2.as (.slp (D.now + m))) (dx := dy) hp rfl
    obtain ⟨dx2, hd2⟩ := id x2.desk
    exact ⟨_, rfl, d, dx2, _, rfl, hd2, rfl, _, rfl, d, L, _, _, p.1, p.2.as (.slp (D.now + m)), rfl, x2, setLn_mem hp rfl, fun H3 k3 x3 => moved x hp k3 x3 (r4 er)⟩
def sp_wait (K : PySem.W.Frag) : Sp := fun vs H Q E => ∃ (d : Addr) (S : List Addr) (D : Dk) (n b : Str), vs = [.ref d, .str n, .str b] ∧ Small b ∧ TabG H (tabN K) ∧ ByN K H E d S D n fun c => (isName b = false → ∀ H', Keep K [] H H' → E (xc K "NoName") none H') ∧ (isName b = true →
  (c.st.isRdy = false → ∀ H', Keep K [] H H' → E (xc K "NotReady") none H') ∧ (c.st.isRdy = true → Now K H S d (D.move (c.as (.wtg b))) (Q .non)))
theorem c_Desk_wait (T : Tx K mg base) : Met P w K mg base 3 (He.ga K "Desk") "wait" (sp_wait K) := by
  have c_Desk__known : Met P w K mg base 1 (He.ga K "Desk") "_known" (sp_known K) := c_Desk__known T
  have c_check_name : Cal P w K mg base 2 "check_name" (sp_check_name K) := c_check_name T
  have c_check_ready : Cal P w K mg base 1 "check_ready" (sp_check_ready K) := c_check_ready T
  have c_Caller_become_bell : MetK P w K mg base 1 (He.ga K "Caller") "become" (sp_become K) 2 ["bell"] (fun vs zs => vs ++ ([.non, .non] ++ zs)) := c_Caller_become_bell T
  have c_Desk__go_last : Met P w K mg base 1 (He.ga K "Desk") "_go_last" (sp_go_last K) := c_Desk__go_last T
  obtain ⟨fd, F⟩ := T.d_Desk_wait
  refine ⟨_, fd, ["self", "name", "bell"], T.cl_Desk, T.me_Desk_wait, okF (k := 2) F sc_Desk_wait (fun vs H Q E h => ?_) (fun A outer s H vs Q E hr h => ?_), F.bindsN fun _ _ _ _ _ _ us hl => match us, hl with | [_, _, _], _ => rfl⟩
  · obtain ⟨d, S, D, n, b, rfl, _⟩ := h
    rfl
  · have nd := sc_Desk_wait.nd
    obtain ⟨d, S, D, n, b, rfl, hb, hT, hn, ⟨L, ln, rfl, x⟩, q1, q2⟩ := h
    obtain ⟨dx, hd⟩ := id x.desk
    refine ⟨_, (pss_cons (ps_set (i := 3) nd rfl (Or.inl rfl) (pm c_Desk__known hr (by decide) (pU (GE.takes_of rfl rfl rfl rfl)) (pv 0) (pa_cons (pv 1) pa_nil)))
  (pss_cons (ps_expr (pf c_check_name hr (by decide) (by rfl) (pU (GE.takes_of rfl rfl rfl rfl)) (pa_cons (pv 2) pa_nil)))
  (pss_cons (ps_expr (pf c_check_ready hr (by decide) (by rfl) (pU (GE.takes_of rfl rfl rfl rfl)) (pa_cons (pv 3) pa_nil)))
  (pss_cons (ps_expr (pmk c_Caller_become_bell hr (by decide) passN (pv 3) (pa_cons (pgS (by rfl) T.h_WAITING) pa_nil) (pk_cons (pv 2) pk_nil)))
  (pss_one (ps_expr (pm c_Desk__go_last hr (by decide) p0 (pv 0) (pa_cons (pv 3) pa_nil)))))))), ?_⟩
    refine ⟨_, rfl, d, dx, _, rfl, hd, rfl, _, rfl, d, L, ln, D, n, rfl, hn, x, q1, fun p hp en => ?_⟩
    obtain ⟨r1, r2⟩ := q2 p.2 (of_line x hp) en
    refine ⟨_, rfl, b, rfl, hb, hT, fun H1 k1 => ⟨fun e => r1 e H1 k1, fun e1 => ?_⟩⟩
    obtain ⟨r3, r4⟩ := r2 e1
    have x1 := x.keep k1 fun _ _ => List.not_mem_nil
    refine ⟨_, rfl, p.1, p.2, rfl, (at_line x1 hp).1, (at_line x1 hp).2, fun e => r3 e H1 k1, fun er => ?_⟩
    obtain ⟨dy, hc⟩ := id (x1.crs _ hp)
    refine ⟨_, rfl, p.1, dy, _, rfl, hc, rfl, _, rfl, rfl, rfl, p.1, dy, _, _, _, _, _, _, .wtg b, rfl, hc, ?_⟩
    have x2 := x1.set (c' := p.2.as (.wtg b)) (dx := dy) hp rfl
    obtain ⟨dx2, hd2⟩ := id x2.desk
    exact ⟨_, rfl, d, dx2, _, rfl, hd2, rfl, _, rfl, d, L, _, _, p.1, p.2.as (.wtg b), rfl, x2, setLn_mem hp rfl, fun H3 k3 x3 => moved x1 hp k3 x3 fun H' S' k s y => r4 er H' S' (k1.any.trans k) (fun z hz => (s z hz).imp_right (k1.gone z)) y⟩
def sp_wake (K : PySem.W.Frag) : Sp := fun vs H Q E => ∃ (d : Addr) (S : List Addr) (D : Dk) (n : Str), vs = [.ref d, .str n] ∧ ByN K H E d S D n fun c => (c.st.isRdy = true → E (xc K "IsReady") none H) ∧ (c.st.isRdy = false → Now K H S d (D.move (c.as (.rdy D.now))) (Q .non))
theorem c_Desk_wake (T : Tx K mg base) : Met P w K mg base 3 (He.ga K "Desk") "wake" (sp_wake K) := by
  have c_Desk__known : Met P w K mg base 1 (He.ga K "Desk") "_known" (sp_known K) := c_Desk__known T
  have c_check_not_ready : Cal P w K mg base 1 "check_not_ready" (sp_check_not_ready K) := c_check_not_ready T
  have c_Desk__make_ready : Met P w K mg base 2 (He.ga K "Desk") "_make_ready" (sp_make_ready K) := c_Desk__make_ready T
  obtain ⟨fd, F⟩ := T.d_Desk_wake
  refine ⟨_, fd, ["self", "name"], T.cl_Desk, T.me_Desk_wake, okF (k := 2) F sc_Desk_wake (fun vs H Q E h => ?_) (fun A outer s H vs Q E hr h => ?_), F.bindsN fun _ _ _ _ _ _ us hl => match us, hl with | [_, _], _ => rfl⟩
  · obtain ⟨d, S, D, n, rfl, _⟩ := h
    rfl
  · have nd := sc_Desk_wake.nd
    obtain ⟨d, S, D, n, rfl, hn, ⟨L, ln, rfl, x⟩, q1, q2⟩ := h
    obtain ⟨dx, hd⟩ := id x.desk
    refine ⟨_, (pss_cons (ps_set (i := 2) nd rfl (Or.inl rfl) (pm c_Desk__known hr (by decide) (pU (GE.takes_of rfl rfl rfl rfl)) (pv 0) (pa_cons (pv 1) pa_nil)))
  (pss_cons (ps_expr (pf c_check_not_ready hr (by decide) (by rfl) (pU (GE.takes_of rfl rfl rfl rfl)) (pa_cons (pv 2) pa_nil)))
  (pss_one (ps_expr (pm c_Desk__make_ready hr (by decide) p0 (pv 0) (pa_cons (pe_lst (pa_cons (pv 2) pa_nil)) pa_nil)))))), ?_⟩
    refine ⟨_, rfl, d, dx, _, rfl, hd, rfl, _, rfl, d, L, ln, D, n, rfl, hn, x, q1, fun p hp en => ?_⟩
    obtain ⟨r1, r2⟩ := q2 p.2 (of_line x hp) en
    refine ⟨_, rfl, p.1, p.2, rfl, (at_line x hp).1, (at_line x hp).2, r1, fun er => ?_⟩
    refine ⟨_, rfl, d, dx, _, rfl, hd, rfl, _, rfl, (show 1 ≤ sizeLine by decide), fun b nb => ?_⟩
    have k1 : Keep K [] H (L2.upd H b (.lst [.ref p.1])) := Keep.new nb
    have x1 := x.keep k1 fun _ _ => List.not_mem_nil
    exact ⟨d, L, ln, D, b, [p], rfl, x1, upd_same, fun p' h' => ⟨p'.2.st, by rw [List.mem_singleton.mp h']; exact hp⟩, fun H' ln' k s y => r2 er H' _ (k1.any.trans k) (sub_same s) ⟨L, ln', rfl, y⟩⟩
end
end Rr.K

set_option maxRecDepth 100000
set_option maxHeartbeats 4000000
namespace Rr.K
open PySem PySem.Spec PyProof.Rows L2
open GxR (TabG Tabbed)
open Evl (pss_cut)
/-! ### turns, a twin -/
theorem due_eq (st : Stt) (n : Int) : decide (st.dueV = V.int n) = decide (st = .slp n) := by
  cases st with
  | rdy _ => rfl
  | wtg _ => rfl
  | slp c =>
    by_cases e : c = n
    · rw [e]
      exact (decide_eq_true rfl).trans (decide_eq_true rfl).symm
    · exact (decide_eq_false fun z => e (V.int.inj z)).trans (decide_eq_false fun z => e (Stt.slp.inj z)).symm
theorem pick_mem {D : Dk} {c : Cr} (h : D.pick = some c) : c ∈ D.line ∧ c.st.isRdy = true := by
  unfold Dk.pick pick at h
  cases e : pickI (agedC D.pace D.now) (readies D.line) with
  | none =>
    rw [e] at h
    cases h
  | some y =>
    rw [e] at h
    cases h
    exact List.mem_filter.mp (List.mem_of_getElem? (pickI_at _ _ _ rfl (j := y.1) (x := y.2) e))
/-- the desk behind n turns; what they tell -/
def _root_.Rr.Dk.after (D : Dk) : Nat → Dk
  | 0 => D
  | n + 1 => (D.after n).turn
def _root_.Rr.Dk.told (D : Dk) (n : Nat) : List V := (List.range n).map fun i => nmV (D.after i).pick
theorem told_snoc (D : Dk) (n : Nat) : D.told (n + 1) = D.told n ++ [nmV (D.after n).pick] := by
  unfold Dk.told
  rw [List.range_succ, List.map_append]
  rfl
theorem told_len (D : Dk) (n : Nat) : (D.told n).length = n := by
  unfold Dk.told
  rw [List.length_map, List.length_range]
section
variable {P : Program} {w : World} {K : PySem.W.Frag} {mg : Str → Option Value} {base : Heap}
def sp_turn (K : PySem.W.Frag) : Sp := fun vs H Q _ => ∃ (d : Addr) (S : List Addr) (D : Dk), vs = [.ref d] ∧ DkAt K H S d D ∧ Now K H S d D.turn (Q (nmV D.pick))
theorem c_Desk_turn (T : Tx K mg base) : Met P w K mg base 4 (He.ga K "Desk") "turn" (sp_turn K) := by
  have c_Desk__chosen : Met P w K mg base 3 (He.ga K "Desk") "_chosen" (sp_chosen K) := c_Desk__chosen T
  have c_Desk__make_ready : Met P w K mg base 2 (He.ga K "Desk") "_make_ready" (sp_make_ready K) := c_Desk__make_ready T
  obtain ⟨fd, F⟩ := T.d_Desk_turn
  refine ⟨_, fd, ["self"], T.cl_Desk, T.me_Desk_turn, okF (k := 3) F sc_Desk_turn (fun vs H Q E h => ?_) (fun A outer s H vs Q E hr h => ?_), F.bindsN fun _ _ _ _ _ _ us hl => match us, hl with | [_], _ => rfl⟩
  · obtain ⟨d, S, D, rfl, _⟩ := h
    rfl
  · have nd := sc_Desk_turn.nd
    obtain ⟨d, S, D, rfl, ⟨L, ln, rfl, x0⟩, q⟩ := h
    obtain ⟨dx0, hd0⟩ := id x0.desk
    refine ⟨_, (pss_cut (ps_set (i := 1) nd rfl (Or.inl rfl) (pm0 c_Desk__chosen hr (by decide) p0 (pv 0)))
  (pss_cons (ps_fldaug (pv 0) pe_int in_add)
  (pss_cons (ps_expr (pm c_Desk__make_ready hr (by decide) p0 (pv 0) (pa_cons (pe_lock (pe_lc (own := [("caller", 2)]) (g := gName 2) rfl nd (pi_values (pe_fldK (K := K) rfl (pv 0) rfl)) (blkOk_by (N := N_Desk_turn) (sc := defScope s_Desk_turn) (by decide +kernel)) (fun _ _ _ _ _ => (pg_name (i := 2) nd rfl (Or.inl rfl))) (fun _ _ _ _ _ => (pts_one (pt_cmpR op_eq (pe_fldK (K := K) rfl (pv 2) rfl) (pe_fldK (K := K) rfl (pv 0) rfl) (nomark _)))) (fun _ _ _ _ _ => (pv 2)))) pa_nil)))
  (pss_cut (ps_if (pt_cmpR op_isN (pv 1) pe_non (nomark _))
  (pss_one (ps_ret pe_non))
  pss_nil)
  (pss_cons (ps_expr (pm c_Desk__make_ready hr (by decide) p0 (pv 0) (pa_cons (pe_lst (pa_cons (pv 1) pa_nil)) pa_nil)))
  (pss_one (ps_ret (pe_fld (pv 1) rfl)))))))), ?_⟩
    refine ⟨fun σ' H1 => Keep K [] H H1 ∧ ∃ v, σ' = [some (.ref d), some v, none] ∧ ((D.pick = none ∧ v = .non) ∨ ∃ p ∈ ln, D.pick = some p.2 ∧ v = .ref p.1), ?_, ?_⟩
    · refine ⟨_, rfl, d, dx0, _, rfl, hd0, rfl, d, L, ln, D, rfl, x0, fun H1 k1 => ⟨fun e => ⟨k1, _, rfl, .inl ⟨e, rfl⟩⟩, fun p hp _ e => ⟨k1, _, rfl, .inr ⟨p, hp, e, rfl⟩⟩⟩⟩
    rintro σ' H1 ⟨k1, v, rfl, hv⟩
    have x := x0.keep k1 fun _ _ => List.not_mem_nil
    obtain ⟨dx, hd⟩ := id x.desk
    refine ⟨_, rfl, d, _, _, _, _, rfl, hd, T.cl_Desk, T.na_Desk_now, rfl, _, _, rfl, rfl, _, _, hd, (show 4 < 1000 by decide), ?_⟩
    have k2 : Keep K (d :: L :: ln.map (·.1)) H1 (L2.upd H1 d (.ins (He.ga K "Desk") dx (putF "now" (.int (D.now + 1)) (dFs D.pace D.room D.now L)))) := Keep.upd hd (by simp) nt_ins
    have x2 : DkIn K (L2.upd H1 d (.ins (He.ga K "Desk") dx (putF "now" (.int (D.now + 1)) (dFs D.pace D.room D.now L)))) d L ln { D with now := D.now + 1 } := x.time (n := D.now + 1) (dx := dx)
    obtain ⟨dx2, hd2⟩ := id x2.desk
    refine ⟨_, rfl, d, dx2, _, rfl, hd2, rfl, ?_⟩
    refine ⟨L, _, x2.line, trivial, fun od => ?_⟩
    refine ⟨_, rfl, d, _, _, _, _, rfl, (upd_ne x2.dne).trans hd2, T.cl_Desk, T.na_Desk__line, rfl, L, od, _, rfl, upd_same, fun c nc => ?_⟩
    have cL : c ≠ L := fun z => by rw [z, upd_same] at nc; cases nc
    generalize hH2 : L2.upd H1 d (.ins (He.ga K "Desk") dx (putF "now" (.int (D.now + 1)) (dFs D.pace D.room D.now L))) = H2 at *
    have nc2 : H2 c = none := (upd_ne cL).symm.trans nc
    refine lc_it walk_values (Pv := fun i H' => Keep K [] (upd H2 L (.frz od (.dK (kvsOf ln)))) H' ∧ H' c = some (.lst (((ln.take i).filter fun p => decide (p.2.st = .slp (D.now + 1))).map fun p => V.ref p.1))) ⟨Keep.new nc, upd_same⟩ (fun i H' _ p => p.1.old _ _ upd_same List.not_mem_nil nt_frz) ?_ ?_
    · rintro i v H3 H4 hi ⟨k3, hb3⟩ ⟨rfl, k, hk⟩
      obtain ⟨p, hpi, hp, rfl⟩ := kvs_at hk
      obtain ⟨dy, hc⟩ := id (x2.crs _ hp)
      have hc3 := k3.old p.1 _ ((upd_ne (x2.lne (List.mem_map_of_mem (f := (·.1)) hp))).trans hc) List.not_mem_nil nt_ins
      have hd3 := k3.old d _ ((upd_ne x2.dne).trans hd2) List.not_mem_nil nt_ins
      refine ⟨rfl, ?_⟩
      refine ⟨_, rfl, p.1, _, _, _, _, rfl, hc3, T.cl_Caller, T.na_Caller_due, rfl, _, rfl, d, _, _, _, _, rfl, hd3, T.cl_Desk, T.na_Desk_now, rfl, (by cases p.2.st <;> rfl), _, rfl, ?_⟩
      rw [due_eq, take_filter hpi]
      cases e : decide (p.2.st = .slp (D.now + 1)) with
      | false =>
        refine iteF ⟨k3, ?_⟩
        rw [if_neg (by simp), List.append_nil]
        exact hb3
      | true =>
        refine iteT ⟨_, rfl, _, hb3, ?_, k3.set (.inl nc) hb3 nt_lst, ?_⟩
        · rw [List.length_map]
          have h1 := List.length_filter_le (fun p : Addr × Cr => decide (p.2.st = .slp (D.now + 1))) (ln.take i)
          rw [List.length_take, ln_len x] at h1
          have h2 := x.len
          exact small1000 (by omega)
        · rw [upd_same, if_pos rfl, List.map_append]
          rfl
    rintro H3 ⟨k3, hc3⟩
    have hL := k3.old _ _ upd_same List.not_mem_nil nt_frz
    rw [show (kvsOf ln).length = ln.length from kvs_len ln, List.take_of_length_le (Nat.le_refl _)] at hc3
    have k4 : Keep K [] H2 (upd H3 L (.dK (kvsOf ln))) := Keep.back x2.line nt_dK k3 nt_frz List.not_mem_nil
    refine ⟨hL, ?_⟩
    have x4 := x2.keep k4 fun _ _ => List.not_mem_nil
    have hc4 : (upd H3 L (.dK (kvsOf ln))) c = some (.lst ((ln.filter fun p => decide (p.2.st = .slp (D.now + 1))).map fun p => V.ref p.1)) := (upd_ne cL).trans hc3
    refine ⟨d, L, ln, _, c, _, rfl, x4, hc4, fun p hp => ⟨p.2.st, (List.mem_filter.mp hp).1⟩, fun H5 ln5 k5 s5 x5 => ?_⟩
    have eT : (ln.filter fun p => decide (p.2.st = .slp (D.now + 1))).map (·.2) = D.line.filter fun c => decide (c.st = .slp (D.now + 1)) := by
      rw [filter_snd (fun c => decide (c.st = .slp (D.now + 1))), x.eq]
    rw [eT] at x5
    have x5 : DkIn K H5 d L ln5 D.tick := x5
    have kA : Keep K (d :: L :: ln.map (·.1)) H H5 := ((k1.any.trans k2).trans k4.any).trans k5
    have eN : D.tick.now = D.now + 1 := wakeAll_now _ _
    refine ⟨fun σ' H6 => H5 = H6 ∧ ∃ p ∈ ln, σ' = [some (.ref d), some (.ref p.1), none] ∧ D.pick = some p.2, ?_, ?_⟩
    · rcases hv with ⟨e, rfl⟩ | ⟨p, hp, e, rfl⟩
      · refine ⟨_, rfl, rfl, _, rfl, iteT ?_⟩
        have q1 := q H5 (d :: L :: ln5.map (·.1)) kA (sub_same s5) ⟨L, ln5, rfl, by unfold Dk.turn; rw [e]; exact x5⟩
        rw [e] at q1
        exact q1
      · exact ⟨_, rfl, rfl, _, rfl, iteF ⟨rfl, p, hp, rfl, e⟩⟩
    rintro σ' _ ⟨rfl, p, hp, rfl, e⟩
    obtain ⟨st5, hp5⟩ := s5.2 p hp
    obtain ⟨dx5, hd5⟩ := id x5.desk
    refine ⟨_, rfl, d, dx5, _, rfl, hd5, rfl, _, rfl, (show 1 ≤ sizeLine by decide), fun b nb => ?_⟩
    have k6 : Keep K [] H5 (L2.upd H5 b (.lst [.ref p.1])) := Keep.new nb
    have x6 := x5.keep k6 fun _ _ => List.not_mem_nil
    refine ⟨d, L, ln5, D.tick, b, [p], rfl, x6, upd_same, fun p' h' => ⟨st5, by rw [List.mem_singleton.mp h']; exact hp5⟩, fun H7 ln7 k7 s7 x7 => ?_⟩
    obtain ⟨st7, hp7⟩ := (s5.trans s7).2 p hp
    obtain ⟨dy, hc⟩ := id (x7.crs _ hp7)
    refine ⟨_, rfl, p.1, _, _, _, _, rfl, hc, T.cl_Caller, T.na_Caller_name, rfl, ?_⟩
    have q1 := q H7 (d :: L :: ln7.map (·.1)) ((kA.trans k6.any).trans (k7.mono fun z hz => s5.own.mp hz)) (sub_same (s5.trans s7)) ⟨L, ln7, rfl, by
      unfold Dk.turn
      rw [e]
      show DkIn K H7 d L ln7 (D.tick.move (p.2.as (.rdy (D.now + 1))))
      rw [← eN]
      exact x7⟩
    rw [e] at q1
    exact q1
end
end Rr.K

set_option maxRecDepth 100000
set_option maxHeartbeats 4000000
/-! a line as a list of rows; what deeds and turns leave -/
namespace Rr
open PySem PySem.Spec PyProof.Rows L2
def Stt.markV : Stt → V
  | .rdy s => .int s
  | .slp u => .int u
  | .wtg b => .str b
abbrev rowV (c : Cr) : List V := [.str c.name, .int c.rank, .str c.st.word, c.st.markV]
def RowAt (H : Hp) (t : Addr) (c : Cr) : Prop := H t = some (.tup (rowV c))
/-- the list at a holds a row for each of l -/
def LnAt (H : Hp) (a : Addr) (l : List Cr) : Prop := ∃ ps : List (Addr × Cr), l = ps.map (·.2) ∧ H a = some (.lst (ps.map fun p => V.ref p.1)) ∧ ∀ p ∈ ps, RowAt H p.1 p.2
section
variable {K : PySem.W.Frag} {H H' : Hp} {S : List Addr} {a d : Addr} {l : List Cr} {D : Dk}
theorem LnAt.keep (x : LnAt H a l) (k : Keep K S H H') (n : ∀ b o, H b = some o → (∃ xs, o = .lst xs) ∨ (∃ xs, o = .tup xs) → b ∉ S) : LnAt H' a l := by
  obtain ⟨ps, rfl, h, hr⟩ := x
  exact ⟨ps, rfl, k.lst h (n _ _ h (.inl ⟨_, rfl⟩)), fun p hp => k.tup (hr p hp) (n _ _ (hr p hp) (.inr ⟨_, rfl⟩))⟩
theorem LnAt.keep0 (x : LnAt H a l) (k : Keep K [] H H') : LnAt H' a l := x.keep k fun _ _ _ _ => List.not_mem_nil
theorem LnAt.keepD (x : LnAt H a l) (hD : DkAt K H S d D) (k : Keep K S H H') : LnAt H' a l := x.keep k fun b o h q => by
  rcases q with ⟨xs, rfl⟩ | ⟨xs, rfl⟩
  · exact hD.lst h
  · exact hD.tup h
theorem RowAt.keepD {t : Addr} {c : Cr} (x : RowAt H t c) (hD : DkAt K H S d D) (k : Keep K S H H') : RowAt H' t c := k.tup x (hD.tup x)
theorem RowAt.keep0 {t : Addr} {c : Cr} (x : RowAt H t c) (k : Keep K [] H H') : RowAt H' t c := k.tup x List.not_mem_nil
end
/-! ### members -/
theorem mem_last {n : Str} {l : List Cr} {x : Cr} : x ∈ lastC n l ↔ x ∈ l := (lastC_perm n l).mem_iff
theorem mem_setC {c x : Cr} {l : List Cr} (h : x ∈ setC c l) : x = c ∨ (x ∈ l ∧ x.name ≠ c.name) := by
  obtain ⟨y, hy, rfl⟩ := List.mem_map.mp h
  by_cases e : y.name = c.name
  · rw [if_pos e]
    exact .inl rfl
  · rw [if_neg e]
    exact .inr ⟨hy, e⟩
theorem mem_move {D : Dk} {c x : Cr} (h : x ∈ (D.move c).line) : x = c ∨ (x ∈ D.line ∧ x.name ≠ c.name) := mem_setC (mem_last.mp h)
theorem names_move (D : Dk) (c : Cr) : (namesL (D.move c).line).Perm (namesL D.line) := by
  have h := (lastC_perm c.name (setC c D.line)).map (·.name)
  have e : (setC c D.line).map (·.name) = namesL D.line := setC_names c D.line
  rw [e] at h
  exact h
theorem len_move (D : Dk) (c : Cr) : (D.move c).line.length = D.line.length := by
  have := (names_move D c).length_eq
  unfold namesL at this
  rw [List.length_map, List.length_map] at this
  exact this
def moveC (c : Cr) (l : List Cr) : List Cr := dropC c.name l ++ [c]
theorem move_eq {D : Dk} {c : Cr} (nm : (namesL D.line).Nodup) (h : c.name ∈ namesL D.line) : D.move c = { D with line := moveC c D.line } := by
  obtain ⟨c0, h0, e0⟩ := List.mem_map.mp h
  show ({ D with line := lastC c.name (setC c D.line) } : Dk) = _
  rw [last_set nm h0 e0.symm]
  rfl
theorem wakeAll_cons (D : Dk) (c : Cr) (cs : List Cr) : D.wakeAll (c :: cs) = (D.move (c.as (.rdy D.now))).wakeAll cs := rfl
theorem names_wakeAll : ∀ (cs : List Cr) (D : Dk), (namesL (D.wakeAll cs).line).Perm (namesL D.line)
  | [], _ => .refl _
  | c :: r, D => (names_wakeAll r (D.move (c.as (.rdy D.now)))).trans (names_move D _)
theorem mem_wakeAll : ∀ (cs : List Cr) (D : Dk) {x : Cr}, x ∈ (D.wakeAll cs).line → (∃ c ∈ cs, x = c.as (.rdy D.now)) ∨ (x ∈ D.line ∧ ∀ c ∈ cs, x.name ≠ c.name)
  | [], _, _, h => .inr ⟨h, fun c hc => (nomatch hc)⟩
  | c :: r, D, x, h => by
    rcases mem_wakeAll r (D.move (c.as (.rdy D.now))) h with ⟨y, hy, e⟩ | ⟨h1, h2⟩
    · exact .inl ⟨y, List.mem_cons_of_mem _ hy, e⟩
    · rcases mem_move h1 with e | ⟨h3, h4⟩
      · exact .inl ⟨c, List.mem_cons_self, e⟩
      · exact .inr ⟨h3, fun z hz => by
          rcases List.mem_cons.mp hz with rfl | hz
          · exact h4
          · exact h2 z hz⟩
theorem wakeAll_pr : ∀ (cs : List Cr) (D : Dk), (D.wakeAll cs).pace = D.pace ∧ (D.wakeAll cs).room = D.room ∧ (D.wakeAll cs).now = D.now
  | [], _ => ⟨rfl, rfl, rfl⟩
  | c :: r, D => wakeAll_pr r (D.move (c.as (.rdy D.now)))
theorem len_names {l m : List Cr} (h : (namesL l).Perm (namesL m)) : l.length = m.length := by
  have := h.length_eq
  unfold namesL at this
  rw [List.length_map, List.length_map] at this
  exact this
/-! ### what holds of each desk that the laws make -/
def SoundS (now : Int) : Stt → Prop
  | .rdy s => 0 ≤ s ∧ s ≤ now
  | .slp u => now < u ∧ u ≤ now + 1000
  | .wtg b => isName b = true
structure Sound (D : Dk) : Prop where
  pr : (1 ≤ D.pace ∧ D.pace ≤ 1000) ∧ 1 ≤ D.room ∧ D.room ≤ 60
  t0 : 0 ≤ D.now
  len : (D.line.length : Int) ≤ D.room
  nm : (namesL D.line).Nodup
  ok : ∀ c ∈ D.line, isName c.name = true
  rk : ∀ c ∈ D.line, 0 ≤ c.rank ∧ c.rank ≤ 99
  st : ∀ c ∈ D.line, SoundS D.now c.st
theorem Sound.len60 {D : Dk} (x : Sound D) : D.line.length ≤ 60 := by
  have := x.len
  have := x.pr.2.2
  omega
theorem Sound.move {D : Dk} (x : Sound D) {c : Cr} {s : Stt} (hc : c ∈ D.line) (hs : SoundS D.now s) : Sound (D.move (c.as s)) := by
  refine ⟨x.pr, x.t0, ?_, (names_move D _).nodup_iff.mpr x.nm, fun y hy => ?_, fun y hy => ?_, fun y hy => ?_⟩
  · rw [len_move]
    exact x.len
  · rcases mem_move hy with rfl | h
    · exact x.ok c hc
    · exact x.ok y h.1
  · rcases mem_move hy with rfl | h
    · exact x.rk c hc
    · exact x.rk y h.1
  · rcases mem_move hy with rfl | h
    · exact hs
    · exact x.st y h.1
theorem name_in {l : List Cr} {c : Cr} (h : c ∈ l) : c.name ∈ namesL l := List.mem_map_of_mem h
/-- time goes on -/
theorem Sound.tick {D : Dk} (x : Sound D) : Sound D.tick := by
  obtain ⟨p1, p2, p3⟩ := wakeAll_pr (D.line.filter fun c => decide (c.st = .slp (D.now + 1))) { D with now := D.now + 1 }
  have np := names_wakeAll (D.line.filter fun c => decide (c.st = .slp (D.now + 1))) { D with now := D.now + 1 }
  have t0 := x.t0
  have mem : ∀ y ∈ D.tick.line, (∃ c ∈ D.line, y = c.as (.rdy (D.now + 1))) ∨ (y ∈ D.line ∧ y.st ≠ .slp (D.now + 1)) := fun y hy => by
    rcases mem_wakeAll _ _ hy with ⟨c, hc, e⟩ | ⟨h1, h2⟩
    · exact .inl ⟨c, (List.mem_filter.mp hc).1, e⟩
    · exact .inr ⟨h1, fun z => h2 y (List.mem_filter.mpr ⟨h1, decide_eq_true z⟩) rfl⟩
  refine ⟨by rw [show D.tick.pace = D.pace from p1, show D.tick.room = D.room from p2]; exact x.pr, ?_, ?_, np.nodup_iff.mpr x.nm, fun y hy => ?_, fun y hy => ?_, fun y hy => ?_⟩
  · rw [show D.tick.now = D.now + 1 from p3]
    omega
  · rw [show D.tick.room = D.room from p2, show D.tick.line.length = D.line.length from len_names np]
    exact x.len
  · rcases mem y hy with ⟨c, hc, rfl⟩ | ⟨h, _⟩
    · exact x.ok c hc
    · exact x.ok y h
  · rcases mem y hy with ⟨c, hc, rfl⟩ | ⟨h, _⟩
    · exact x.rk c hc
    · exact x.rk y h
  · rw [show D.tick.now = D.now + 1 from p3]
    rcases mem y hy with ⟨c, hc, rfl⟩ | ⟨h, hn⟩
    · exact ⟨by omega, Int.le_refl _⟩
    · have := x.st y h
      obtain ⟨n, r, s⟩ := y
      cases s with
      | rdy s => exact ⟨this.1, by have := this.2; omega⟩
      | slp u =>
        have h1 : D.now < u ∧ u ≤ D.now + 1000 := this
        refine ⟨?_, by omega⟩
        by_cases e : u = D.now + 1
        · exact absurd (by rw [e]) hn
        · omega
      | wtg b => exact this
theorem tick_now (D : Dk) : D.tick.now = D.now + 1 := (wakeAll_pr _ _).2.2
theorem tick_names (D : Dk) : (namesL D.tick.line).Perm (namesL D.line) := names_wakeAll _ _
theorem turn_names (D : Dk) : (namesL D.turn.line).Perm (namesL D.line) := by
  unfold Dk.turn
  split
  · exact tick_names D
  · exact (names_move _ _).trans (tick_names D)
theorem turn_now (D : Dk) : D.turn.now = D.now + 1 := by
  unfold Dk.turn
  split
  · exact tick_now D
  · exact tick_now D
theorem turn_pr (D : Dk) : D.turn.pace = D.pace ∧ D.turn.room = D.room := by
  have h := wakeAll_pr (D.line.filter fun c => decide (c.st = .slp (D.now + 1))) { D with now := D.now + 1 }
  unfold Dk.turn
  split
  · exact ⟨h.1, h.2.1⟩
  · exact ⟨h.1, h.2.1⟩
theorem pickD_mem {D : Dk} {c : Cr} (h : D.pick = some c) : c ∈ D.line ∧ c.st.isRdy = true := by
  unfold Dk.pick pick at h
  cases e : pickI (agedC D.pace D.now) (readies D.line) with
  | none =>
    rw [e] at h
    cases h
  | some y =>
    rw [e] at h
    cases h
    exact List.mem_filter.mp (List.mem_of_getElem? (pickI_at _ _ _ rfl (j := y.1) (x := y.2) e))
/-- who has that name behind the tick -/
theorem tick_at {D : Dk} {c : Cr} (h : c ∈ D.line) : c.name ∈ namesL D.tick.line := (tick_names D).mem_iff.mpr (name_in h)
/-- a ready one stands there behind the tick as it was -/
theorem mem_wakeAll_of : ∀ (cs : List Cr) (D : Dk) {x : Cr}, x ∈ D.line → (∀ c ∈ cs, x.name ≠ c.name) → x ∈ (D.wakeAll cs).line
  | [], _, _, h, _ => h
  | c :: r, D, x, h, n => mem_wakeAll_of r _ (mem_last.mpr (List.mem_map.mpr ⟨x, h, if_neg (n c List.mem_cons_self)⟩)) fun z hz => n z (List.mem_cons_of_mem _ hz)
theorem tick_rdy {D : Dk} (nm : (namesL D.line).Nodup) {c : Cr} (h : c ∈ D.line) (hn : c.st ≠ .slp (D.now + 1)) : c ∈ D.tick.line := by
  refine mem_wakeAll_of _ _ h fun z hz e => ?_
  obtain ⟨h1, h2⟩ := List.mem_filter.mp hz
  rw [name_one nm h h1 e] at hn
  exact hn (of_decide_eq_true h2)
theorem Sound.turn {D : Dk} (x : Sound D) : Sound D.turn := by
  unfold Dk.turn
  split
  · exact x.tick
  · rename_i c e
    obtain ⟨h1, h2⟩ := pickD_mem e
    have t0 := x.t0
    refine x.tick.move (tick_rdy x.nm h1 fun z => by rw [z] at h2; cases h2) ?_
    rw [tick_now]
    exact ⟨by omega, Int.le_refl _⟩
/-! ### deeds -/
/-- the name of twelve z, which no law gives -/
def ZZ : Str := SX.S (List.replicate 12 122)
inductive Deed : Dk → Dk → Prop where
  | refl (D : Dk) : Deed D D
  | trans {D E F : Dk} : Deed D E → Deed E F → Deed D F
  | enter (D : Dk) (n : Str) (r : Int) : isName n = true → 0 ≤ r ∧ r ≤ 99 → n ∉ namesL D.line → (D.line.length : Int) < D.room → n ≠ ZZ → Deed D { D with line := D.line ++ [⟨n, r, .rdy D.now⟩] }
  | leave (D : Dk) (c : Cr) : c ∈ D.line → Deed D (D.leave c.name)
  | sleep (D : Dk) (c : Cr) (m : Int) : c ∈ D.line → c.st.isRdy = true → 1 ≤ m ∧ m ≤ 1000 → Deed D (D.move (c.as (.slp (D.now + m))))
  | wait (D : Dk) (c : Cr) (b : Str) : c ∈ D.line → c.st.isRdy = true → isName b = true → Deed D (D.move (c.as (.wtg b)))
  | wake (D : Dk) (c : Cr) : c ∈ D.line → c.st.isRdy = false → Deed D (D.move (c.as (.rdy D.now)))
  | rerank (D : Dk) (c : Cr) (r : Int) : c ∈ D.line → c.st.isRdy = false → 0 ≤ r ∧ r ≤ 99 → Deed D (D.setR { c with rank := r })
theorem Deed.pr {D E : Dk} (h : Deed D E) : E.pace = D.pace ∧ E.room = D.room ∧ E.now = D.now := by
  induction h with
  | refl _ => exact ⟨rfl, rfl, rfl⟩
  | trans _ _ a b => exact ⟨b.1.trans a.1, b.2.1.trans a.2.1, b.2.2.trans a.2.2⟩
  | _ => exact ⟨rfl, rfl, rfl⟩
theorem Deed.sound {D E : Dk} (h : Deed D E) (x : Sound D) : Sound E := by
  induction h with
  | refl _ => exact x
  | trans _ _ a b => exact b (a x)
  | enter D n r hn hr nn hl hz =>
    refine ⟨x.pr, x.t0, ?_, ?_, fun y hy => ?_, fun y hy => ?_, fun y hy => ?_⟩
    · show ((D.line ++ [_]).length : Int) ≤ D.room
      rw [List.length_append]
      simp
      omega
    · show (namesL (D.line ++ [⟨n, r, .rdy D.now⟩])).Nodup
      unfold namesL
      rw [List.map_append]
      exact nd_snoc x.nm nn
    · rcases List.mem_append.mp hy with h | h
      · exact x.ok y h
      · rw [List.mem_singleton.mp h]
        exact hn
    · rcases List.mem_append.mp hy with h | h
      · exact x.rk y h
      · rw [List.mem_singleton.mp h]
        exact hr
    · rcases List.mem_append.mp hy with h | h
      · exact x.st y h
      · rw [List.mem_singleton.mp h]
        exact ⟨x.t0, Int.le_refl _⟩
  | leave D c hc =>
    refine ⟨x.pr, x.t0, ?_, x.nm.sublist (List.filter_sublist.map _), fun y hy => x.ok y (List.mem_filter.mp hy).1, fun y hy => x.rk y (List.mem_filter.mp hy).1, fun y hy => x.st y (List.mem_filter.mp hy).1⟩
    have h1 := List.length_filter_le (fun y : Cr => decide (y.name ≠ c.name)) D.line
    have h2 := x.len
    show ((D.line.filter fun y => decide (y.name ≠ c.name)).length : Int) ≤ D.room
    omega
  | sleep D c m hc hr hm => exact x.move hc ⟨by omega, by omega⟩
  | wait D c b hc hr hb => exact x.move hc hb
  | wake D c hc hr => exact x.move hc ⟨x.t0, Int.le_refl _⟩
  | rerank D c r hc hr hr9 =>
    refine ⟨x.pr, x.t0, ?_, ?_, fun y hy => ?_, fun y hy => ?_, fun y hy => ?_⟩
    · show ((setC _ D.line).length : Int) ≤ D.room
      rw [setC_len]
      exact x.len
    · show (namesL (setC _ D.line)).Nodup
      rw [setC_names]
      exact x.nm
    · rcases mem_setC hy with rfl | h
      · exact x.ok c hc
      · exact x.ok y h.1
    · rcases mem_setC hy with rfl | h
      · exact hr9
      · exact x.rk y h.1
    · rcases mem_setC hy with rfl | h
      · exact x.st c hc
      · exact x.st y h.1
/-- some that are not ready are made so, one behind the other -/
theorem Deed.wakes : ∀ (cs : List Cr) (D : Dk), (∀ c ∈ cs, c ∈ D.line ∧ c.st.isRdy = false) → (namesL D.line).Nodup → (namesL cs).Nodup → Deed D (D.wakeAll cs)
  | [], D, _, _, _ => .refl D
  | c :: r, D, h, nm, nc => by
    obtain ⟨h1, h2⟩ := h c List.mem_cons_self
    obtain ⟨n1, n2⟩ := List.nodup_cons.mp (show (c.name :: namesL r).Nodup from nc)
    refine .trans (.wake D c h1 h2) (Deed.wakes r (D.move (c.as (.rdy D.now))) (fun z hz => ?_) ((names_move D _).nodup_iff.mpr nm) n2)
    obtain ⟨h3, h4⟩ := h z (List.mem_cons_of_mem _ hz)
    exact ⟨mem_last.mpr (List.mem_map.mpr ⟨z, h3, if_neg fun e => n1 (by rw [show c.name = z.name from e.symm]; exact name_in hz)⟩), h4⟩
theorem Deed.ring (D : Dk) (b : Str) (nm : (namesL D.line).Nodup) : Deed D (D.ring b) :=
  Deed.wakes _ D (fun c hc => ⟨(List.mem_filter.mp hc).1, by rw [of_decide_eq_true (List.mem_filter.mp hc).2]; rfl⟩) nm (nm.sublist (List.filter_sublist.map _))
end Rr

set_option maxRecDepth 100000
set_option maxHeartbeats 4000000
/-! a line as data; names looked up in a list -/
namespace Rr
open PySem PySem.Spec PyProof.Rows L2
def Stt.markD : Stt → PyData
  | .rdy s => .int s
  | .slp u => .int u
  | .wtg b => .str b
def rowP (c : Cr) : PyData := .tuple [.str c.name, .int c.rank, .str c.st.word, c.st.markD]
theorem name_strOk {x : Str} (h : isName x = true) : PyData.strOk x = true := by
  unfold isName at h
  rw [Bool.and_eq_true] at h
  unfold PyData.strOk
  rw [← Array.all_toList]
  exact List.all_eq_true.mpr fun c hc => decide_eq_true (Nat.lt_trans (isSign_lt (List.all_eq_true.mp h.2 c hc)) (by decide))
theorem word_strOk : ∀ s : Stt, PyData.strOk s.word = true
  | .rdy _ => show PyData.strOk "ready" = true by decide +kernel
  | .slp _ => show PyData.strOk "asleep" = true by decide +kernel
  | .wtg _ => show PyData.strOk "waiting" = true by decide +kernel
theorem mark_lay {now : Int} {s : Stt} (h : SoundS now s) : s.markD.canLay0 = true ∧ s.markD.depth = 0 := by
  cases s with
  | rdy s => exact ⟨rfl, rfl⟩
  | slp s => exact ⟨rfl, rfl⟩
  | wtg b => exact ⟨name_strOk h, rfl⟩
theorem row_lay {now : Int} {c : Cr} (hn : isName c.name = true) (hs : SoundS now c.st) : (rowP c).canLay0 = true ∧ (rowP c).depth = 1 := by
  obtain ⟨h1, h2⟩ := mark_lay hs
  unfold rowP
  simp [PyData.canLay0, PyData.canLayAll0, PyData.depth, PyData.depthAll, name_strOk hn, word_strOk, h1, h2]
theorem rows_lay {now : Int} : ∀ {l : List Cr}, (∀ c ∈ l, isName c.name = true ∧ SoundS now c.st) → PyData.canLayAll0 (l.map rowP) = true ∧ PyData.depthAll (l.map rowP) ≤ 1
  | [], _ => ⟨rfl, Nat.zero_le _⟩
  | c :: r, h => by
    obtain ⟨h1, h2⟩ := row_lay (h c List.mem_cons_self).1 (h c List.mem_cons_self).2
    obtain ⟨h3, h4⟩ := rows_lay (l := r) fun z hz => h z (List.mem_cons_of_mem _ hz)
    simp only [List.map_cons, PyData.canLayAll0, PyData.depthAll, h1, h2, h3]
    exact ⟨rfl, by omega⟩
theorem rows_shaped {now : Int} {l : List Cr} (h : ∀ c ∈ l, isName c.name = true ∧ SoundS now c.st) : SeqAt.shaped (.list (l.map rowP)) = true := by
  obtain ⟨h1, h2⟩ := rows_lay h
  unfold SeqAt.shaped
  rw [Bool.and_eq_true]
  refine ⟨h1, decide_eq_true ?_⟩
  show PyData.depthAll (l.map rowP) + 1 ≤ 64
  omega
section
variable {K : PySem.W.Frag} {H : Hp} {a : Addr}
theorem mark_dp (s : Stt) : Dp K H s.markV s.markD := by
  cases s
  · exact .int _
  · exact .int _
  · exact .str _
theorem rows_dp : ∀ {ps : List (Addr × Cr)}, (∀ p ∈ ps, RowAt H p.1 p.2) → DpAll K H (ps.map fun p => V.ref p.1) ((ps.map (·.2)).map rowP)
  | [], _ => .nil
  | p :: r, h => .cons (.tup (.inl (.inl (h p List.mem_cons_self))) (.cons (.str _) (.cons (.int _) (.cons (.str _) (.cons (mark_dp _) .nil))))) (rows_dp fun z hz => h z (List.mem_cons_of_mem _ hz))
theorem LnAt.dp {l : List Cr} (x : LnAt H a l) : Dp K H (.ref a) (.list (l.map rowP)) := by
  obtain ⟨ps, rfl, h, hp⟩ := x
  exact .lst (.inl (.inl h)) (rows_dp hp)
end
theorem eqv_empty (l : List Cr) : PyData.eqv (.list (l.map rowP)) (.list []) = decide (l = []) := by
  cases l with
  | nil => rfl
  | cons c r => rfl
theorem all_str (l : List Str) : (l.map V.str).all flatV = true := by
  rw [List.all_map]
  exact List.all_eq_true.mpr fun _ _ => rfl
theorem str_beq (a b : Str) : (a == b) = decide (a = b) := by
  by_cases e : a = b
  · rw [decide_eq_true e, e]
    exact beq_self_eq_true b
  · rw [decide_eq_false e]
    exact beq_eq_false_iff_ne.mpr e
theorem inV_str (x : Str) (l : List Str) : inV (.str x) (l.map V.str) = decide (x ∈ l) := by
  unfold inV
  rw [List.any_map]
  induction l with
  | nil => rfl
  | cons y r ih =>
    rw [List.any_cons, ih]
    show ((y == x) || decide (x ∈ r)) = _
    rw [str_beq]
    by_cases e : y = x
    · rw [decide_eq_true e, e]
      simp
    · rw [decide_eq_false e, Bool.false_or]
      have : (x ∈ y :: r) ↔ x ∈ r := by simp [Ne.symm e]
      simp [this]
end Rr

set_option maxRecDepth 100000
set_option maxHeartbeats 4000000
/-! desks as texts -/
namespace Rr
open PySem PySem.Spec PyProof.Rows L2
open TL (tl tl_append len_tl tl_join joinL numL numL_len numL_ne numL_digits numL_lt numL_step tl_num)
abbrev numT (i : Int) : Str := Str.ofString (toString i)
def Stt.told (now : Int) : Stt → Str
  | .rdy s => numT (now - s)
  | .slp u => numT (u - now)
  | .wtg b => b
def wordsC (now : Int) (c : Cr) : List Str := [c.name, numT c.rank, c.st.word, c.st.told now]
def headD (D : Dk) : List Str := ["desk", numT D.pace, numT D.room, numT D.now]
def rowsD (D : Dk) : List Str := Str.join " " (headD D) :: D.line.map fun c => Str.join " " (wordsC D.now c)
def textD (D : Dk) : Str := Str.join "\n" (rowsD D) ++ "\n"
def GoodSt (now : Int) : Stt → Prop
  | .rdy s => 0 ≤ s ∧ s ≤ now
  | .slp u => 1 ≤ u - now ∧ u - now ≤ 1000
  | .wtg b => isName b = true
structure GoodD (D : Dk) : Prop where
  pr : (1 ≤ D.pace ∧ D.pace ≤ 1000) ∧ 1 ≤ D.room ∧ D.room ≤ 60
  t0 : 0 ≤ D.now
  t1 : D.now < 1000000000000
  len : (D.line.length : Int) ≤ D.room
  nm : (namesL D.line).Nodup
  ok : ∀ c ∈ D.line, isName c.name = true
  rk : ∀ c ∈ D.line, 0 ≤ c.rank ∧ c.rank ≤ 99
  st : ∀ c ∈ D.line, GoodSt D.now c.st
/-- a word: no blank, no line end, short -/
def WordOk (w : Str) : Prop := w.length ≤ 12 ∧ ∀ c ∈ tl w, 33 ≤ c ∧ c < 128
theorem joinL_mem {S : List Nat} {c : Nat} : ∀ {l : List (List Nat)}, c ∈ joinL S l → c ∈ S ∨ ∃ p ∈ l, c ∈ p
  | [], h => nomatch h
  | [p], h => .inr ⟨p, List.mem_singleton.mpr rfl, h⟩
  | p :: q :: r, h => by
    rcases List.mem_append.mp (show c ∈ p ++ (S ++ joinL S (q :: r)) from h) with h | h
    · exact .inr ⟨p, List.mem_cons_self, h⟩
    · rcases List.mem_append.mp h with h | h
      · exact .inl h
      · rcases joinL_mem h with h | ⟨z, hz, h⟩
        · exact .inl h
        · exact .inr ⟨z, List.mem_cons_of_mem _ hz, h⟩
theorem joinL_len {S : List Nat} {m : Nat} : ∀ {l : List (List Nat)}, (∀ p ∈ l, p.length ≤ m) → (joinL S l).length ≤ l.length * (m + S.length)
  | [], _ => Nat.zero_le _
  | [p], h => by
    show p.length ≤ 1 * (m + S.length)
    have := h p (List.mem_singleton.mpr rfl)
    omega
  | p :: q :: r, h => by
    show (p ++ (S ++ joinL S (q :: r))).length ≤ ((q :: r).length + 1) * (m + S.length)
    rw [List.length_append, List.length_append, Nat.add_mul, Nat.one_mul]
    have h1 := h p List.mem_cons_self
    have h2 := joinL_len (S := S) (l := q :: r) fun z hz => h z (List.mem_cons_of_mem _ hz)
    omega
theorem join_len_le {y : Str} {m : Nat} {ws : List Str} (h : ∀ w ∈ ws, w.length ≤ m) : (Str.join y ws).length ≤ ws.length * (m + y.length) := by
  rw [len_tl, tl_join]
  have := joinL_len (S := tl y) (m := m) (l := ws.map tl) fun p hp => by
    obtain ⟨w, hw, rfl⟩ := List.mem_map.mp hp
    rw [← len_tl]
    exact h w hw
  rw [List.length_map, ← len_tl] at this
  exact this
theorem split_word {ws : List Str} (hne : ws ≠ []) (h : ∀ w ∈ ws, WordOk w) : Txt.split (Str.join " " ws) " " = ws := by
  have e := TL.split_join (y := " ") (s := 32) (S := []) (by decide +kernel) (by decide +kernel) hne (parts := ws) fun p hp z => absurd (((h p hp).2 32 z).1) (by decide)
  rw [TL.join_eq] at e
  exact e
theorem row_signs {ws : List Str} (h : ∀ w ∈ ws, WordOk w) : ∀ c ∈ tl (Str.join " " ws), 32 ≤ c ∧ c < 128 := by
  intro c hc
  rw [tl_join] at hc
  rcases joinL_mem hc with z | ⟨p, hp, z⟩
  · have : c = 32 := by simpa using (show c ∈ [32] from z)
    omega
  · obtain ⟨w, hw, rfl⟩ := List.mem_map.mp hp
    have := (h w hw).2 c z
    omega
theorem num_ok {i : Int} (h0 : 0 ≤ i) (h1 : i < 1000000000000) : WordOk (numT i) ∧ 1 ≤ (numT i).length ∧ (∀ c ∈ tl (numT i), 48 ≤ c ∧ c ≤ 57) ∧ intText? (numT i) = some i := by
  obtain ⟨n, rfl⟩ := Int.eq_ofNat_of_zero_le h0
  have e := tl_num n
  have hl : (numL n).length ≤ 12 := numL_len (by decide) (by omega)
  have hd : ∀ c ∈ tl (numT (n : Int)), 48 ≤ c ∧ c ≤ 57 := fun c hc => by
    rw [e] at hc
    exact numL_digits n c hc
  refine ⟨⟨?_, fun c hc => ?_⟩, ?_, hd, TL.int_num (by omega)⟩
  · rw [len_tl, e]
    exact hl
  · have := hd c hc
    omega
  · rw [len_tl, e]
    exact List.length_pos_iff.mpr (numL_ne n)
theorem numL_head : ∀ (k n : Nat), n ≤ k → 1 ≤ n → ∃ c r, numL n = c :: r ∧ 49 ≤ c
  | 0, n, h, h1 => absurd h1 (by omega)
  | k + 1, n, h, h1 => by
    by_cases hn : n < 10
    · exact ⟨_, _, numL_lt hn, by omega⟩
    · obtain ⟨c, r, e, hc⟩ := numL_head k (n / 10) (by omega) (by omega)
      exact ⟨c, r ++ [48 + n % 10], by rw [numL_step (by omega), e]; rfl, hc⟩
theorem num_first {i : Int} (h0 : 0 ≤ i) {c : Nat} {r : List Nat} (e : tl (numT i) = c :: r) (h : c = 48) : numT i = "0" := by
  obtain ⟨n, rfl⟩ := Int.eq_ofNat_of_zero_le h0
  rw [tl_num n] at e
  by_cases hn : n = 0
  · rw [hn]
    decide +kernel
  · obtain ⟨c', r', e', hc⟩ := numL_head n n (Nat.le_refl _) (by omega)
    rw [e'] at e
    injection e with e1 _
    omega
theorem name_word {x : Str} (h : isName x = true) : WordOk x := by
  refine ⟨(isName_len h).2, fun c hc => ?_⟩
  unfold isName at h
  rw [Bool.and_eq_true] at h
  have h1 : ∀ c ∈ SIGNSL, 33 ≤ c ∧ c < 128 := by decide +kernel
  exact h1 c (of_decide_eq_true (List.all_eq_true.mp h.2 c hc))
theorem word_ok : ∀ s : Stt, WordOk s.word
  | .rdy _ => show WordOk "ready" from ⟨by decide +kernel, by decide +kernel⟩
  | .slp _ => show WordOk "asleep" from ⟨by decide +kernel, by decide +kernel⟩
  | .wtg _ => show WordOk "waiting" from ⟨by decide +kernel, by decide +kernel⟩
theorem told_ok {now : Int} {s : Stt} (t1 : now < 1000000000000) (h : GoodSt now s) : WordOk (s.told now) := by
  cases s with
  | rdy s => exact (num_ok (show 0 ≤ now - s by have := h.2; omega) (by have := h.1; omega)).1
  | slp u => exact (num_ok (show 0 ≤ u - now by have := h.1; omega) (by have := h.2; omega)).1
  | wtg b => exact name_word h
theorem wordsC_ok {now : Int} {c : Cr} (t1 : now < 1000000000000) (hn : isName c.name = true) (hr : 0 ≤ c.rank ∧ c.rank ≤ 99) (hs : GoodSt now c.st) : ∀ w ∈ wordsC now c, WordOk w := by
  intro w hw
  rcases List.mem_cons.mp hw with rfl | hw
  · exact name_word hn
  rcases List.mem_cons.mp hw with rfl | hw
  · exact (num_ok hr.1 (by omega)).1
  rcases List.mem_cons.mp hw with rfl | hw
  · exact word_ok _
  rw [List.mem_singleton.mp hw]
  exact told_ok t1 hs
theorem headD_ok {D : Dk} (g : GoodD D) : ∀ w ∈ headD D, WordOk w := by
  obtain ⟨⟨p1, p2⟩, r1, r2⟩ := g.pr
  have t0 := g.t0
  have t1 := g.t1
  intro w hw
  rcases List.mem_cons.mp hw with rfl | hw
  · exact ⟨by decide +kernel, by decide +kernel⟩
  rcases List.mem_cons.mp hw with rfl | hw
  · exact (num_ok (by omega) (by omega)).1
  rcases List.mem_cons.mp hw with rfl | hw
  · exact (num_ok (by omega) (by omega)).1
  rw [List.mem_singleton.mp hw]
  exact (num_ok t0 t1).1
theorem row_of {D : Dk} (g : GoodD D) {r : Str} (h : r ∈ rowsD D) : (∀ c ∈ tl r, 32 ≤ c ∧ c < 128) ∧ r.length ≤ 52 := by
  have key : ∀ ws : List Str, (∀ w ∈ ws, WordOk w) → ws.length = 4 → (∀ c ∈ tl (Str.join " " ws), 32 ≤ c ∧ c < 128) ∧ (Str.join " " ws).length ≤ 52 := fun ws hw hl => by
    refine ⟨row_signs hw, ?_⟩
    have := join_len_le (y := " ") (m := 12) fun w h => (hw w h).1
    rw [hl] at this
    exact this
  rcases List.mem_cons.mp h with rfl | h
  · exact key _ (headD_ok g) rfl
  · obtain ⟨c, hc, rfl⟩ := List.mem_map.mp h
    exact key _ (wordsC_ok g.t1 (g.ok c hc) (g.rk c hc) (g.st c hc)) rfl
theorem rows_len {D : Dk} (g : GoodD D) : (Str.join "\n" (rowsD D)).length ≤ 3233 := by
  have h := join_len_le (y := "\n") (m := 52) (ws := rowsD D) fun r hr => (row_of g hr).2
  have hl : (rowsD D).length ≤ 61 := by
    show (_ :: D.line.map _).length ≤ 61
    rw [List.length_cons, List.length_map]
    have := g.len
    have := g.pr.2.2
    omega
  exact Nat.le_trans h (Nat.le_trans (Nat.mul_le_mul_right _ hl) (by decide))
theorem split_rows {D : Dk} (g : GoodD D) : Txt.split (Str.join "\n" (rowsD D)) "\n" = rowsD D := by
  have e := TL.split_join (y := "\n") (s := 10) (S := []) (by decide +kernel) (by decide +kernel) (parts := rowsD D) (by simp [rowsD]) fun p hp z => absurd (((row_of g hp).1 10 z).1) (by decide)
  rw [TL.join_eq] at e
  exact e
theorem cut_last (a : Str) : cutS (a ++ "\n") none (some (-1)) = a := by
  refine TL.ext_tl ?_
  have hl : (a ++ "\n" : Str).length = a.length + 1 := Str.length_append _ _
  have hs : HT.sIx (a ++ "\n" : Str).length (a ++ "\n" : Str).length (some (-1)) = a.length := by
    rw [hl]
    unfold HT.sIx
    simp
    omega
  show ((tl (a ++ "\n")).drop (HT.sIx _ 0 none)).take (HT.sIx _ _ (some (-1)) - HT.sIx _ 0 none) = tl a
  rw [hs]
  show ((tl (a ++ "\n")).drop 0).take (a.length - 0) = tl a
  rw [List.drop_zero, Nat.sub_zero, tl_append, len_tl, List.take_left]
theorem ends_nl (a : Str) : Txt.endswith (a ++ "\n") "\n" = true := by
  unfold Txt.endswith
  have hl : (a ++ "\n" : Str).length = a.length + 1 := Str.length_append _ _
  have h1 : ("\n" : Str).length = 1 := by decide +kernel
  rw [hl, h1, Bool.and_eq_true]
  refine ⟨decide_eq_true (by omega), ?_⟩
  rw [PySem.StrLaws.subAt_eq]
  show (((tl (a ++ "\n")).drop (a.length + 1 - 1)).take _ == _) = true
  rw [Nat.add_sub_cancel, tl_append, show a.length = (tl a).length from len_tl a, List.drop_left]
  decide +kernel
end Rr

set_option maxRecDepth 100000
set_option maxHeartbeats 4000000
/-! texts of rows of words: which make no desk -/
namespace Rr
open PySem PySem.Spec PyProof.Rows L2
open TL (tl tl_append len_tl tl_join joinL)
/-- a word: no blank, no line end -/
def Wd (w : Str) : Prop := w.length ≤ 40 ∧ ∀ c ∈ tl w, c ≠ 32 ∧ c ≠ 10 ∧ c < 128
theorem WordOk.wd {w : Str} (h : WordOk w) : Wd w := ⟨Nat.le_trans h.1 (by decide), fun c hc => by have := h.2 c hc; omega⟩
theorem Wd.small {w : Str} (h : Wd w) : Small w := ⟨Nat.le_trans h.1 (by decide), fun c hc => Nat.lt_trans (h.2 c hc).2.2 (by decide)⟩
def RowW (ws : List Str) : Prop := ws ≠ [] ∧ ws.length ≤ 5 ∧ ∀ w ∈ ws, Wd w
def textW (wss : List (List Str)) : Str := Str.join "\n" (wss.map (Str.join " ")) ++ "\n"
def TextOk (wss : List (List Str)) : Prop := wss ≠ [] ∧ wss.length ≤ 70 ∧ ∀ ws ∈ wss, RowW ws
theorem split_wd {ws : List Str} (h : RowW ws) : Txt.split (Str.join " " ws) " " = ws := by
  have e := TL.split_join (y := " ") (s := 32) (S := []) (by decide +kernel) (by decide +kernel) h.1 (parts := ws) fun p hp z => ((h.2.2 p hp).2 32 z).1 rfl
  rw [TL.join_eq] at e
  exact e
theorem row_len {ws : List Str} (h : RowW ws) : (Str.join " " ws).length ≤ 205 := by
  have h1 := join_len_le (y := " ") (m := 40) fun w hw => (h.2.2 w hw).1
  have h2 : (" " : Str).length = 1 := by decide +kernel
  rw [h2] at h1
  exact Nat.le_trans h1 (Nat.mul_le_mul_right _ h.2.1)
theorem row_sgn {ws : List Str} (h : RowW ws) : ∀ c ∈ tl (Str.join " " ws), c ≠ 10 ∧ c < 128 := fun c hc => by
  rw [tl_join] at hc
  rcases joinL_mem hc with z | ⟨p, hp, z⟩
  · have : c = 32 := by simpa using (show c ∈ [32] from z)
    omega
  · obtain ⟨w, hw, rfl⟩ := List.mem_map.mp hp
    have := (h.2.2 w hw).2 c z
    exact ⟨this.2.1, this.2.2⟩
theorem row_small {ws : List Str} (h : RowW ws) : Small (Str.join " " ws) := ⟨Nat.le_trans (row_len h) (by decide), fun c hc => Nat.lt_trans (row_sgn h c hc).2 (by decide)⟩
theorem text_len {wss : List (List Str)} (h : TextOk wss) : (Str.join "\n" (wss.map (Str.join " "))).length ≤ 14420 := by
  have h1 := join_len_le (y := "\n") (m := 205) (ws := wss.map (Str.join " ")) fun w hw => by
    obtain ⟨ws, hs, rfl⟩ := List.mem_map.mp hw
    exact row_len (h.2.2 ws hs)
  have h2 : ("\n" : Str).length = 1 := by decide +kernel
  rw [h2, List.length_map] at h1
  exact Nat.le_trans h1 (Nat.mul_le_mul_right _ h.2.1)
theorem split_text {wss : List (List Str)} (h : TextOk wss) : Txt.split (Str.join "\n" (wss.map (Str.join " "))) "\n" = wss.map (Str.join " ") := by
  have e := TL.split_join (y := "\n") (s := 10) (S := []) (by decide +kernel) (by decide +kernel) (parts := wss.map (Str.join " ")) (fun z => h.1 (List.map_eq_nil_iff.mp z)) fun p hp z => by
    obtain ⟨ws, hs, rfl⟩ := List.mem_map.mp hp
    exact (row_sgn (h.2.2 ws hs) 10 z).1 rfl
  rw [TL.join_eq] at e
  exact e
/-! ### numbers -/
def NumBad (w : Str) : Prop := ¬ (1 ≤ w.length ∧ w.length ≤ 12) ∨ (∃ c ∈ tl w, ¬ (48 ≤ c ∧ c ≤ 57)) ∨ ((tl w)[0]? = some 48 ∧ w ≠ "0")
def NumGood (w : Str) (i : Int) : Prop := w = numT i ∧ 0 ≤ i ∧ i < 1000000000000
theorem fig_in (c : Nat) : decide (c ∈ ("0123456789" : Str).cps.toList) = decide (48 ≤ c ∧ c ≤ 57) := by
  have h : ∀ c ∈ ("0123456789" : Str).cps.toList, 48 ≤ c ∧ c ≤ 57 := by decide +kernel
  by_cases e : 48 ≤ c ∧ c ≤ 57
  · rw [decide_eq_true e]
    have : c = 48 ∨ c = 49 ∨ c = 50 ∨ c = 51 ∨ c = 52 ∨ c = 53 ∨ c = 54 ∨ c = 55 ∨ c = 56 ∨ c = 57 := by omega
    rcases this with rfl | rfl | rfl | rfl | rfl | rfl | rfl | rfl | rfl | rfl <;> decide +kernel
  · rw [decide_eq_false e, decide_eq_false fun z => e (h c z)]
/-! ### rows -/
def EnterOk (D : Dk) (n : Str) (i : Int) : Prop := isName n = true ∧ (0 ≤ i ∧ i ≤ 99) ∧ n ∉ namesL D.line ∧ (D.line.length : Int) < D.room
def TailBad (s t : Str) : Prop := (s = "asleep" ∧ (NumBad t ∨ ∃ j, NumGood t j ∧ ¬ (1 ≤ j ∧ j ≤ 1000))) ∨ (s = "waiting" ∧ isName t = false) ∨ (s ≠ "asleep" ∧ s ≠ "waiting")
def SeatBad4 (D : Dk) (n r s t : Str) : Prop := NumBad r ∨ ∃ i, NumGood r i ∧ ((s = "ready" ∧ (NumBad t ∨ ∃ j, NumGood t j ∧ (D.now < j ∨ ¬ EnterOk D n i))) ∨ (s ≠ "ready" ∧ (EnterOk D n i → TailBad s t)))
def SeatBad (D : Dk) (ws : List Str) : Prop := ws.length ≠ 4 ∨ ∃ n r s t, ws = [n, r, s, t] ∧ SeatBad4 D n r s t
def HeadBad4 (h p r n : Str) : Prop := h ≠ "desk" ∨ NumBad p ∨ ∃ i, NumGood p i ∧ (NumBad r ∨ ∃ j, NumGood r j ∧ (¬ ((1 ≤ i ∧ i ≤ 1000) ∧ 1 ≤ j ∧ j ≤ 60) ∨ NumBad n))
def HeadBad (ws : List Str) : Prop := ws.length ≠ 4 ∨ ∃ h p r n, ws = [h, p, r, n] ∧ HeadBad4 h p r n
def wssD (D : Dk) : List (List Str) := headD D :: D.line.map (wordsC D.now)
def ReadBad (wss : List (List Str)) : Prop := (∃ ws more, wss = ws :: more ∧ HeadBad ws) ∨ ∃ (D : Dk) (ws : List Str) (more : List (List Str)), GoodD D ∧ wss = wssD D ++ ws :: more ∧ SeatBad D ws
theorem textW_D (D : Dk) : textW (wssD D) = textD D := by
  unfold textW textD rowsD wssD
  rw [List.map_cons, List.map_map]
  rfl
theorem wordsC_row {D : Dk} (g : GoodD D) {c : Cr} (hc : c ∈ D.line) : RowW (wordsC D.now c) := ⟨by unfold wordsC; simp, by show 4 ≤ 5; decide, fun w hw => (wordsC_ok g.t1 (g.ok c hc) (g.rk c hc) (g.st c hc) w hw).wd⟩
theorem headD_row {D : Dk} (g : GoodD D) : RowW (headD D) := ⟨by unfold headD; simp, by show 4 ≤ 5; decide, fun w hw => (headD_ok g w hw).wd⟩
theorem wssD_ok {D : Dk} (g : GoodD D) : TextOk (wssD D) := by
  refine ⟨by unfold wssD; simp, ?_, fun ws hw => ?_⟩
  · unfold wssD
    rw [List.length_cons, List.length_map]
    have := g.len
    have := g.pr.2.2
    omega
  · rcases List.mem_cons.mp hw with rfl | hw
    · exact headD_row g
    · obtain ⟨c, hc, rfl⟩ := List.mem_map.mp hw
      exact wordsC_row g hc
end Rr

set_option maxRecDepth 100000
set_option maxHeartbeats 4000000
namespace Rr.K
open PySem PySem.Spec PyProof.Rows L2
open GxR (TabG Tabbed)
open Evl (pss_cut)
open TL (tl tl_append len_tl)
section
variable {P : Program} {w : World} {K : PySem.W.Frag} {mg : Str → Option Value} {base : Heap}
abbrev tabM (K : PySem.W.Frag) : Addr := He.tabOf K (He.codeOf K ("number", none))
def sp_number (K : PySem.W.Frag) : Sp := fun vs H Q E => ∃ x : Str, vs = [.str x] ∧ Small x ∧ TabG H (tabM K) ∧ ((∃ i, NumGood x i ∧ ∀ H', Keep K [] H H' → Q (.int i) H') ∨ (NumBad x ∧ ∀ H', Keep K [] H H' → E (xc K "NoDesk") none H'))
theorem c_number (T : Tx K mg base) : Cal P w K mg base 1 "number" (sp_number K) := by
  obtain ⟨fd, F⟩ := T.d_number
  refine ⟨_, fd, ["word"], okF (k := 0) F sc_number (fun vs H Q E h => ?_) (fun A outer s H vs Q E hr h => ?_), T.r_number, F.kp, F.bindsN fun _ _ _ _ _ _ us hl => match us, hl with | [_], _ => rfl⟩
  · obtain ⟨x, rfl, _⟩ := h
    rfl
  · have nd := sc_number.nd
    obtain ⟨x, rfl, sx, hT, q⟩ := h
    have lr := sx.repr
    have l1 := fitN (k := 1000002) 0 1000002 len0 lr
    have good : ∀ i, NumGood x i → (1 ≤ x.length ∧ x.length ≤ 12) ∧ (∀ c ∈ tl x, 48 ≤ c ∧ c ≤ 57) ∧ intText? x = some i ∧ ¬ ((tl x)[0]? = some 48 ∧ x ≠ "0") := fun i ⟨e, h0, h1⟩ => by
      obtain ⟨⟨l12, _⟩, l1, hd, hi⟩ := num_ok h0 h1
      rw [e]
      refine ⟨⟨l1, l12⟩, hd, hi, fun z => ?_⟩
      cases ec : tl (numT i) with
      | nil =>
        rw [ec] at z
        cases z.1
      | cons c r =>
        rw [ec] at z
        exact z.2 (num_first h0 ec (Option.some.inj z.1))
    refine ⟨_, (pss_cons (ps_if (pt_not (pt_rng pe_int (pe_callB call_len_str (by rfl) T.m_len boot_len (pa_cons (pv 0) pa_nil)) (pgI (by rfl) T.h_MOST_FIGURES)))
  (pss_one (GE.ps_raise rfl (GE.takes_of rfl rfl rfl rfl) (GE.pmk1 PySem.F.excBase_ValueError T.e_NoDesk.1 T.r_NoDesk T.e_NoDesk.2.1 (raises_own T.e_NoDesk.2.2.1 T.e_NoDesk.2.2.2) rfl (GE.pe_joinedS (.cons pe_str (.cons (pe_fmt (pgI (by rfl) T.h_MOST_FIGURES)) (.cons pe_str (.cons (pe_fmtR (pv 0)) .nil))))))))
  pss_nil)
  (pss_cons (ps_if (pt_val (pe_any hr (by rfl) T.m_any T.tb_number rfl (gs_of (by decide +kernel)) (pv 0) (elt_notIn rfl rfl rfl T.h_FIGURES) (fun _ => rfl)))
  (pss_one (GE.ps_raise rfl (GE.takes_of rfl rfl rfl rfl) (GE.pmk1 PySem.F.excBase_ValueError T.e_NoDesk.1 T.r_NoDesk T.e_NoDesk.2.1 (raises_own T.e_NoDesk.2.2.1 T.e_NoDesk.2.2.2) rfl (GE.pe_joinedS (.cons (pe_fmtR (pv 0)) (.cons pe_str .nil))))))
  pss_nil)
  (pss_cons (ps_if (PW.pt (pw_and (pt_cmpR op_eq (pe_ix ix_str (pv 0) pe_int (fun _ _ => rfl)) pe_str (nomark _)) (pw_and1 (pt_cmpR op_ne (pv 0) pe_str (nomark _)))))
  (pss_one (GE.ps_raise rfl (GE.takes_of rfl rfl rfl rfl) (GE.pmk1 PySem.F.excBase_ValueError T.e_NoDesk.1 T.r_NoDesk T.e_NoDesk.2.1 (raises_own T.e_NoDesk.2.2.1 T.e_NoDesk.2.2.2) rfl (GE.pe_joinedS (.cons (pe_fmtR (pv 0)) (.cons pe_str .nil))))))
  pss_nil)
  (pss_one (ps_ret (pe_callTy call_int_str (by rfl) T.m_int (by decide +kernel) (pa_cons (pv 0) pa_nil))))))), ?_⟩
    refine ⟨1, _, 12, fun _ z => z, fun _ z => ⟨_, rfl, _, rfl, sx.line, z⟩, fun _ z => z, ?_⟩
    by_cases hl : 1 ≤ (x.length : Int) ∧ (x.length : Int) ≤ 12
    case neg =>
      rw [decide_eq_false hl]
      rcases q with ⟨i, g, _⟩ | ⟨_, qE⟩
      · have := (good i g).1
        exact absurd (show 1 ≤ (x.length : Int) ∧ (x.length : Int) ≤ 12 by omega) hl
      · exact iteT ⟨_, rfl, by decide, .inr ⟨12, rfl, by decide, _, rfl, fit 24 4 (by decide) (by decide), _, rfl, fit 28 20 (by decide) (by decide), _, rfl, .inl ⟨_, rfl, line_of lr, _, rfl, fit 60 1000002 (by decide) lr, qE H (Keep.refl _ _)⟩⟩⟩
    rw [decide_eq_true hl]
    refine iteF ⟨_, rfl, x, rfl, hT, fun H2 t => ?_⟩
    have k2 : Keep K [] H H2 := Keep.tabbed t hT T.nr_number
    refine ⟨_, rfl, ?_⟩
    by_cases hf : ∀ c ∈ tl x, 48 ≤ c ∧ c ≤ 57
    case neg =>
      have hany : (x.cps.toList.any fun c => !decide (c ∈ ("0123456789" : Str).cps.toList)) = true := by
        cases e : (x.cps.toList.any fun c => !decide (c ∈ ("0123456789" : Str).cps.toList)) with
        | true => rfl
        | false =>
          refine absurd (fun c hc => ?_) hf
          have := List.any_eq_false.mp e c hc
          rw [fig_in] at this
          by_cases z : 48 ≤ c ∧ c ≤ 57
          · exact z
          · rw [decide_eq_false z] at this
            exact absurd rfl this
      rw [hany]
      rcases q with ⟨i, g, _⟩ | ⟨_, qE⟩
      · exact absurd (good i g).2.1 hf
      · exact iteT ⟨_, rfl, .inl ⟨_, rfl, line_of lr, _, rfl, line_of l1, _, rfl, fit 1000002 20 l1 (by decide), qE H2 k2⟩⟩
    have hany : (x.cps.toList.any fun c => !decide (c ∈ ("0123456789" : Str).cps.toList)) = false := by
      refine List.any_eq_false.mpr fun c hc z => ?_
      rw [fig_in, decide_eq_true (hf c hc)] at z
      cases z
    rw [hany]
    obtain ⟨c, r, ec⟩ : ∃ c r, tl x = c :: r := by
      cases e : tl x with
      | nil =>
        have h1 := hl.1
        rw [len_tl, e] at h1
        exact absurd h1 (by decide)
      | cons c r => exact ⟨c, r, rfl⟩
    have hat : atI x.cps.toList (0 : Int) = some c := atI_nat (j := 0) (by show (tl x)[0]? = _; rw [ec]; rfl)
    have h0 : (tl x)[0]? = some c := by rw [ec]; rfl
    have last : ¬ ((tl x)[0]? = some 48 ∧ x ≠ "0") → ∃ a n, [V.str x] = [V.str a] ∧ intText? a = some n ∧ a.length ≤ 640 ∧ Q (V.int n) H2 := fun nb => by
      rcases q with ⟨i, g, qQ⟩ | ⟨b, _⟩
      · exact ⟨x, i, rfl, (good i g).2.2.1, by omega, qQ H2 k2⟩
      · rcases b with b | ⟨c, hc, b⟩ | b
        · exact absurd (by omega) b
        · exact absurd (hf c hc) b
        · exact absurd b nb
    refine iteF ⟨_, rfl, x, _, c, rfl, rfl, sx.line, hat, rfl, _, rfl, ite2 (fun e => ?_) (fun e => iteF ⟨_, rfl, last fun z => e (decide_eq_true ?_)⟩)⟩
    · have e1 : c = 48 := by
        have e2 := V.str.inj (of_decide_eq_true e)
        have e4 : [c] = [48] := congrArg (fun z : Str => z.cps.toList) e2
        exact List.head_eq_of_cons_eq e4
      refine ⟨_, rfl, rfl, _, rfl, ?_⟩
      by_cases e2 : x = "0"
      · rw [decide_eq_true (show V.str x = V.str "0" by rw [e2])]
        exact iteF ⟨_, rfl, last fun z => z.2 e2⟩
      · rw [decide_eq_false (show ¬ V.str x = V.str "0" from fun z => e2 (V.str.inj z))]
        rcases q with ⟨i, g, _⟩ | ⟨_, qE⟩
        · exact absurd ⟨by rw [h0, e1], e2⟩ (good i g).2.2.2
        · exact iteT ⟨_, rfl, .inl ⟨_, rfl, line_of lr, _, rfl, line_of l1, _, rfl, fit 1000002 20 l1 (by decide), qE H2 k2⟩⟩
    · rw [h0] at z
      rw [Option.some.inj z.1]
      rfl
def sp_words_of (K : PySem.W.Frag) : Sp := fun vs H Q E => ∃ ws : List Str, vs = [.str (Str.join " " ws)] ∧ RowW ws ∧ (ws.length ≠ 4 → ∀ H', Keep K [] H H' → E (xc K "NoDesk") none H') ∧ (ws.length = 4 → ∀ p, H p = none → Q (.ref p) (upd H p (.lst (ws.map V.str))))
theorem c_words_of (T : Tx K mg base) : Cal P w K mg base 1 "words_of" (sp_words_of K) := by
  obtain ⟨fd, F⟩ := T.d_words_of
  refine ⟨_, fd, ["row"], okF (k := 0) F sc_words_of (fun vs H Q E h => ?_) (fun A outer s H vs Q E hr h => ?_), T.r_words_of, F.kp, F.bindsN fun _ _ _ _ _ _ us hl => match us, hl with | [_], _ => rfl⟩
  · obtain ⟨ws, rfl, _⟩ := h
    rfl
  · have nd := sc_words_of.nd
    obtain ⟨ws, rfl, hr1, qE, q⟩ := h
    refine ⟨_, (pss_cons (ps_set (i := 1) nd rfl (Or.inl rfl) (pe_split (pv 0) pe_str))
  (pss_cons (ps_if (pt_cmpR op_ne (pe_callB call_len_seq (by rfl) T.m_len boot_len (pa_cons (pv 1) pa_nil)) (pgI (by rfl) T.h_WORDS) (nomark _))
  (pss_one (GE.ps_raise rfl (GE.takes_of rfl rfl rfl rfl) (GE.pmk1 PySem.F.excBase_ValueError T.e_NoDesk.1 T.r_NoDesk T.e_NoDesk.2.1 (raises_own T.e_NoDesk.2.2.1 T.e_NoDesk.2.2.2) rfl (GE.pe_joinedS (.cons pe_str (.cons (pe_fmt (pgI (by rfl) T.h_WORDS)) (.cons pe_str (.cons (pe_fmtR (pv 0)) .nil))))))))
  pss_nil)
  (pss_one (ps_ret (pv 1))))), ?_⟩
    have hlen := row_len hr1
    have lr := (row_small hr1).repr
    refine ⟨_, rfl, ⟨_, rfl⟩, _, _, rfl, rfl, (by decide +kernel), ?_, fun p np => ?_⟩
    · rw [sizeLine_eq]
      omega
    rw [split_wd hr1]
    refine ⟨_, rfl, p, _, rfl, .inl (.inl (.inl upd_same)), rfl, _, rfl, ?_⟩
    rw [List.length_map]
    by_cases hl : ws.length = 4
    · rw [hl]
      exact iteF ⟨_, rfl, q hl p np⟩
    · rw [decide_eq_false (show ¬ V.int (ws.length : Int) = V.int 4 from fun z => hl (by have := V.int.inj z; omega))]
      refine iteT ⟨_, rfl, by decide, .inr ⟨4, rfl, by decide, _, rfl, fit 24 4 (by decide) (by decide), _, rfl, fit 28 60 (by decide) (by decide), _, rfl, .inl ⟨_, rfl, line_of lr, _, rfl, fit 100 1000002 (by decide) lr, qE hl _ (Keep.new np)⟩⟩⟩
def sp_begun (K : PySem.W.Frag) : Sp := fun vs H Q E => ∃ (a : Addr) (h p r n : Str), vs = [.ref a] ∧ SqL K H a [.str h, .str p, .str r, .str n] ∧ (∀ x ∈ [h, p, r, n], Small x) ∧ TabG H (tabM K) ∧
  ((HeadBad4 h p r n ∧ ∀ H', Keep K [] H H' → E (xc K "NoDesk") none H') ∨ (∃ i j m, h = "desk" ∧ NumGood p i ∧ NumGood r j ∧ NumGood n m ∧ ((1 ≤ i ∧ i ≤ 1000) ∧ 1 ≤ j ∧ j ≤ 60) ∧ ∀ d S' H', Keep K [] H H' → (∀ b ∈ S', H b = none) → DkAt K H' S' d ⟨i, j, m, []⟩ → Q (.ref d) H'))
theorem num_both {x : Str} {i : Int} (g : NumGood x i) (b : NumBad x) : False := by
  obtain ⟨e, h0, h1⟩ := g
  obtain ⟨⟨l12, _⟩, l1, hd, hi⟩ := num_ok h0 h1
  rw [e] at b
  rcases b with b | ⟨c, hc, b⟩ | ⟨b1, b2⟩
  · exact b ⟨l1, l12⟩
  · exact b (hd c hc)
  · cases ec : tl (numT i) with
    | nil =>
      rw [ec] at b1
      cases b1
    | cons c r =>
      rw [ec] at b1
      exact b2 (num_first h0 ec (Option.some.inj b1))
theorem c_begun (T : Tx K mg base) : Cal P w K mg base 3 "begun" (sp_begun K) := by
  have c_number : Cal P w K mg base 1 "number" (sp_number K) := c_number T
  have c_Desk : Mak P w K mg base 1 "Desk" (He.ga K "Desk") (sp_Desk K) := c_Desk T
  obtain ⟨fd, F⟩ := T.d_begun
  refine ⟨_, fd, ["words"], okF (k := 2) F sc_begun (fun vs H Q E h => ?_) (fun A outer s H vs Q E hr h => ?_), T.r_begun, F.kp, F.bindsN fun _ _ _ _ _ _ us hl => match us, hl with | [_], _ => rfl⟩
  · obtain ⟨a, _, p, r, n, rfl, _⟩ := h
    rfl
  · have nd := sc_begun.nd
    obtain ⟨a, h0, p, r, n, rfl, hS, sm, hT, q⟩ := h
    have sh := sm h0 (by simp)
    have sp := sm p (by simp)
    have sr := sm r (by simp)
    have sn := sm n (by simp)
    refine ⟨_, (pss_cons (ps_asg (pv 0) (pg_lst rfl (pgs_cons (pg_name (i := 1) nd rfl (Or.inl rfl)) (pgs_cons (pg_name (i := 2) nd rfl (Or.inl rfl)) (pgs_cons (pg_name (i := 3) nd rfl (Or.inl rfl)) (pgs_cons (pg_name (i := 4) nd rfl (Or.inl rfl)) pgs_nil))))))
  (pss_cons (ps_if (pt_cmpR op_ne (pv 1) (pgS (by rfl) T.h_HEAD) (nomark _))
  (pss_one (GE.ps_raise rfl (GE.takes_of rfl rfl rfl rfl) (GE.pmk1 PySem.F.excBase_ValueError T.e_NoDesk.1 T.r_NoDesk T.e_NoDesk.2.1 (raises_own T.e_NoDesk.2.2.1 T.e_NoDesk.2.2.2) rfl (GE.pe_joinedS (.cons pe_str (.cons (pe_fmtR (pv 1)) .nil))))))
  pss_nil)
  (pss_cons (ps_set (i := 5) nd rfl (Or.inl rfl) (pc c_Desk hr (by decide) (by rfl) (GE.passes_call (GE.takes_of rfl rfl rfl rfl) fun _ _ _ _ h => h) (pa_cons (pf c_number hr (by decide) (by rfl) (pU (GE.takes_of rfl rfl rfl rfl)) (pa_cons (pv 2) pa_nil)) (pa_cons (pf c_number hr (by decide) (by rfl) (pU (GE.takes_of rfl rfl rfl rfl)) (pa_cons (pv 3) pa_nil)) pa_nil))))
  (pss_cons (ps_fld (pv 5) (pf c_number hr (by decide) (by rfl) (pU (GE.takes_of rfl rfl rfl rfl)) (pa_cons (pv 4) pa_nil)) rfl)
  (pss_one (ps_ret (pv 5))))))), ?_⟩
    refine ⟨_, rfl, a, _, rfl, hS, rfl, _, _, rfl, _, _, rfl, _, _, rfl, _, _, rfl, rfl, ?_⟩
    refine ⟨_, rfl, rfl, _, rfl, ?_⟩
    rcases q with ⟨b, qE⟩ | ⟨i, j, m, rfl, gi, gj, gm, hpr, q⟩
    · have desk : ∀ {H1 : Hp} {i j : Int} {Q' : VK}, Keep K [] H H1 → Mod i → Mod j → ¬ ((1 ≤ i ∧ i ≤ 1000) ∧ 1 ≤ j ∧ j ≤ 60) → ∀ x dx, H1 x = none → H1 dx = none → dx ≠ x → sp_Desk K [.ref x, .int i, .int j] (upd (upd H1 dx (.own x)) x (.ins (He.ga K "Desk") dx [])) Q' E := fun {H1 i j Q'} k mi mj nb x dx nx ndx ne =>
        ⟨x, dx, i, j, rfl, mi, mj, upd_same, fun _ => qE _ (k.trans ((Keep.new ndx).trans (Keep.new ((upd_ne ne.symm).trans nx)))), fun z => absurd z nb⟩
      by_cases eh : h0 = "desk"
      case neg =>
        rw [decide_eq_false (show ¬ V.str h0 = V.str "desk" from fun z => eh (V.str.inj z))]
        exact iteT ⟨_, rfl, by decide, _, rfl, .inl ⟨_, rfl, line_of sh.repr, _, rfl, fit 40 1000002 (by decide) sh.repr, qE H (Keep.refl _ _)⟩⟩
      rw [decide_eq_true (show V.str h0 = V.str "desk" by rw [eh])]
      refine iteF ?_
      rcases b with b | b | ⟨i, gi, b⟩
      · exact absurd eh b
      · exact ⟨_, rfl, p, rfl, sp, hT, .inr ⟨b, qE⟩⟩
      refine ⟨_, rfl, p, rfl, sp, hT, .inl ⟨i, gi, fun H1 k1 => ?_⟩⟩
      have mi : Mod i := ⟨by have := gi.2.1; omega, by have := gi.2.2; omega⟩
      rcases b with b | ⟨j, gj, b⟩
      · exact ⟨_, rfl, r, rfl, sr, k1.tab _ hT, .inr ⟨b, fun H' k => qE H' (k1.trans k)⟩⟩
      refine ⟨_, rfl, r, rfl, sr, k1.tab _ hT, .inl ⟨j, gj, fun H2 k2 => ?_⟩⟩
      have mj : Mod j := ⟨by have := gj.2.1; omega, by have := gj.2.2; omega⟩
      by_cases hb : (1 ≤ i ∧ i ≤ 1000) ∧ 1 ≤ j ∧ j ≤ 60
      case neg =>
        intro x dx nx ndx ne
        exact desk (k1.trans k2) mi mj hb x dx nx ndx ne
      rcases b with b | b
      · exact absurd hb b
      intro d dx nd0 ndx ne
      refine made_desk (p := i) (r := j) hb (fun S H3 k3 hD hF => ⟨rfl, ?_⟩) nd0 ndx ne
      have k13 := (k1.trans k2).trans k3
      exact ⟨_, rfl, n, rfl, sn, k13.tab _ hT, .inr ⟨b, fun H' k => qE H' (k13.trans k)⟩⟩
    · refine iteF ⟨_, rfl, p, rfl, sp, hT, .inl ⟨i, gi, fun H1 k1 => ⟨_, rfl, r, rfl, sr, k1.tab _ hT, .inl ⟨j, gj, fun H2 k2 => ?_⟩⟩⟩⟩
      intro d dx nd0 ndx ne
      refine made_desk (p := i) (r := j) hpr (fun S H3 k3 hD hF => ⟨rfl, ?_⟩) nd0 ndx ne
      have k13 := (k1.trans k2).trans k3
      refine ⟨_, rfl, n, rfl, sn, k13.tab _ hT, .inl ⟨m, gm, fun H4 k4 => ?_⟩⟩
      obtain ⟨L, ln, rfl, x⟩ := hD.keep0 k4
      obtain ⟨dy, hd⟩ := id x.desk
      refine ⟨_, rfl, d, _, dy, _, rfl, hd, T.cl_Desk, T.na_Desk_now, (show 4 < 1000 by decide), _, rfl, ?_⟩
      have hF2 : ∀ b ∈ d :: L :: ln.map (·.1), H b = none := fun b hb => (k1.trans k2).gone b (hF b hb)
      exact q d _ _ ((k13.trans k4).set (.inl (hF2 d (by simp))) hd nt_ins) hF2 ⟨L, ln, rfl, x.time (n := m) (dx := dy)⟩
theorem enter_move (D : Dk) {n : Str} (r : Int) (s : Stt) (h : n ∉ namesL D.line) (nm : (namesL D.line).Nodup) : (D.enter n r).move ((⟨n, r, .rdy D.now⟩ : Cr).as s) = { D with line := D.line ++ [⟨n, r, s⟩] } := by
  show ({ D with line := lastC n (setC ⟨n, r, s⟩ (D.line ++ [⟨n, r, .rdy D.now⟩])) } : Dk) = _
  congr 1
  have nd : (namesL (D.line ++ [⟨n, r, .rdy D.now⟩])).Nodup := by
    unfold namesL
    rw [List.map_append]
    exact nd_snoc nm h
  have e := last_set (l := D.line ++ [⟨n, r, .rdy D.now⟩]) nd (c := ⟨n, r, .rdy D.now⟩) (c' := ⟨n, r, s⟩) (by simp) rfl
  rw [show lastC n (setC ⟨n, r, s⟩ (D.line ++ [⟨n, r, .rdy D.now⟩])) = dropC n (D.line ++ [⟨n, r, .rdy D.now⟩]) ++ [⟨n, r, s⟩] from e]
  congr 1
  unfold dropC
  rw [List.filter_append, List.filter_cons, if_neg (by simp), List.filter_nil, List.append_nil]
  refine List.filter_eq_self.mpr fun c hc => decide_eq_true fun z => h ?_
  rw [← z]
  exact List.mem_map_of_mem hc
/-- whatever becomes of entering -/
theorem enter5 {H H1 : Hp} {R : Prop} {E : XK} {d : Addr} {S : List Addr} {D : Dk} {n : Str} {i : Int} (hE : ¬ EnterOk D n i → ∀ c ∈ errs9, ∀ H', Keep K [] H H' → E (xc K c) none H') (q : EnterOk D n i → ∀ S', Keep K S H H1 → Sub H S S' → DkAt K H1 S' d (D.enter n i) → R) :
    (Keep K [] H H1 → isName n = false → E (xc K "NoName") none H1) ∧ (Keep K [] H H1 → isName n = true → ¬ (0 ≤ i ∧ i ≤ 99) → E (xc K "NoRank") none H1) ∧
    (Keep K [] H H1 → isName n = true → (0 ≤ i ∧ i ≤ 99) → n ∈ namesL D.line → E (xc K "Known") none H1) ∧ (Keep K [] H H1 → isName n = true → (0 ≤ i ∧ i ≤ 99) → n ∉ namesL D.line → D.room ≤ D.line.length → E (xc K "Full") none H1) ∧
    (isName n = true → (0 ≤ i ∧ i ≤ 99) → n ∉ namesL D.line → ¬ D.room ≤ D.line.length → ∀ S', Keep K S H H1 → Sub H S S' → DkAt K H1 S' d (D.enter n i) → R) := by
  refine ⟨fun k e => ?_, fun k _ e => ?_, fun k _ _ e => ?_, fun k _ _ _ e => ?_, fun e1 e2 e3 e4 S' k s hD' => q ⟨e1, e2, e3, by omega⟩ S' k s hD'⟩
  · exact hE (fun z => by have z1 := z.1; rw [e] at z1; cases z1) _ (by decide +kernel) H1 k
  · exact hE (fun z => e z.2.1) _ (by decide +kernel) H1 k
  · exact hE (fun z => z.2.2.1 e) _ (by decide +kernel) H1 k
  · exact hE (fun z => by have := z.2.2.2; omega) _ (by decide +kernel) H1 k
def sp_seat_ready (K : PySem.W.Frag) : Sp := fun vs H Q E => ∃ (d : Addr) (S : List Addr) (D : Dk) (n : Str) (r w : Int), vs = [.ref d, .str n, .int r, .int w] ∧ DkAt K H S d D ∧ TabG H (tabN K) ∧ Small n ∧ Mod r ∧
  (¬ (w ≤ D.now ∧ EnterOk D n r) → ∀ c ∈ errs9, ∀ H', Keep K S H H' → E (xc K c) none H') ∧ (w ≤ D.now → EnterOk D n r → Now K H S d { D with line := D.line ++ [⟨n, r, .rdy (D.now - w)⟩] } (Q .non))
theorem c_seat_ready (T : Tx K mg base) : Cal P w K mg base 4 "seat_ready" (sp_seat_ready K) := by
  have c_Desk_enter : Met P w K mg base 3 (He.ga K "Desk") "enter" (sp_enter K) := c_Desk_enter T
  obtain ⟨fd, F⟩ := T.d_seat_ready
  refine ⟨_, fd, ["desk", "name", "rank", "waited"], okF (k := 3) F sc_seat_ready (fun vs H Q E h => ?_) (fun A outer s H vs Q E hr h => ?_), T.r_seat_ready, F.kp, F.bindsN fun _ _ _ _ _ _ us hl => match us, hl with | [_, _, _, _], _ => rfl⟩
  · obtain ⟨d, S, D, n, r, w, rfl, _⟩ := h
    rfl
  · have nd := sc_seat_ready.nd
    obtain ⟨d, S, D, n, r, w, rfl, ⟨L, ln, rfl, x⟩, hT, sn, mr, qE, q⟩ := h
    obtain ⟨dx, hd⟩ := id x.desk
    refine ⟨_, (pss_cons (ps_if (pt_cmpR op_gt (pv 3) (pe_fld (pv 0) rfl) (nomark _))
  (pss_one (GE.ps_raise rfl (GE.takes_of rfl rfl rfl rfl) (GE.pmk1 PySem.F.excBase_ValueError T.e_NoDesk.1 T.r_NoDesk T.e_NoDesk.2.1 (raises_own T.e_NoDesk.2.2.1 T.e_NoDesk.2.2.2) rfl (GE.pe_joinedS (.cons (pe_fmtR (pv 1)) (.cons pe_str .nil))))))
  pss_nil)
  (pss_cons (ps_fldaug (pv 0) (pv 3) in_sub)
  (pss_cons (ps_expr (pm c_Desk_enter hr (by decide) (pU (GE.takes_of rfl rfl rfl rfl)) (pv 0) (pa_cons (pv 1) (pa_cons (pv 2) pa_nil))))
  (pss_one (ps_fldaug (pv 0) (pv 3) in_add))))), ?_⟩
    refine ⟨_, rfl, _, rfl, d, _, _, _, _, rfl, hd, T.cl_Desk, T.na_Desk_now, rfl, _, _, rfl, rfl, _, rfl, ?_⟩
    by_cases hw : w ≤ D.now
    case neg =>
      rw [decide_eq_true (show D.now < w by omega)]
      have lr := sn.repr
      have l1 := fitN (k := 1000002) 0 1000002 len0 lr
      exact iteT ⟨_, rfl, .inl ⟨_, rfl, line_of lr, _, rfl, line_of l1, _, rfl, fit 1000002 60 l1 (by decide), qE (fun z => hw z.1) _ (by decide +kernel) H (Keep.refl _ _)⟩⟩
    rw [decide_eq_false (show ¬ D.now < w by omega)]
    refine iteF ⟨_, rfl, d, _, _, _, _, rfl, hd, T.cl_Desk, T.na_Desk_now, rfl, _, rfl, _, _, rfl, rfl, _, _, hd, (show 4 < 1000 by decide), ?_⟩
    have k1 : Keep K (d :: L :: ln.map (·.1)) H (L2.upd H d (.ins (He.ga K "Desk") dx (putF "now" (.int (D.now - w)) (dFs D.pace D.room D.now L)))) := Keep.upd hd (by simp) nt_ins
    have x1 : DkIn K (L2.upd H d (.ins (He.ga K "Desk") dx (putF "now" (.int (D.now - w)) (dFs D.pace D.room D.now L)))) d L ln { D with now := D.now - w } := x.time (n := D.now - w) (dx := dx)
    obtain ⟨dx1, hd1⟩ := id x1.desk
    generalize hH1 : L2.upd H d (.ins (He.ga K "Desk") dx (putF "now" (.int (D.now - w)) (dFs D.pace D.room D.now L))) = H1 at *
    refine ⟨_, rfl, d, dx1, _, rfl, hd1, rfl, _, rfl, _, rfl, d, _, { D with now := D.now - w }, n, r, rfl, sn, mr, k1.tab _ hT, ⟨L, ln, rfl, x1⟩, x.pr.2.2, (by have := x.pr.2.1; show 0 ≤ D.room; omega), fun H2 => enter5 (fun e c hc H' k => qE (fun z => e z.2) c hc H' (k1.trans k.any)) fun e S2 k2 s2 hD2 => ?_⟩
    obtain ⟨L2', ln2, rfl, x2⟩ := hD2
    obtain ⟨dx2, hd2⟩ := id x2.desk
    refine ⟨_, rfl, d, _, _, _, _, rfl, hd2, T.cl_Desk, T.na_Desk_now, rfl, _, rfl, _, _, rfl, rfl, _, _, hd2, (show 4 < 1000 by decide), ?_⟩
    have e9 : D.now - w + w = D.now := by omega
    have x3 := x2.time (n := D.now - w + w) (dx := dx2)
    rw [e9] at x3
    refine q hw e _ (d :: L2' :: ln2.map (·.1)) ((k1.trans k2).set (.inr (by simp)) hd2 nt_ins) (fun b hb => (s2 b hb).imp_right (k1.gone b)) ⟨L2', ln2, rfl, ?_⟩
    show DkIn K (L2.upd H2 d (.ins (He.ga K "Desk") dx2 (dFs D.pace D.room (D.now - w + w) L2'))) d L2' ln2 _
    rw [e9]
    exact x3
def sp_seat (K : PySem.W.Frag) : Sp := fun vs H Q E => ∃ (d : Addr) (S : List Addr) (D : Dk) (a : Addr) (n r s t : Str), vs = [.ref d, .ref a] ∧ DkAt K H S d D ∧ SqL K H a [.str n, .str r, .str s, .str t] ∧ (∀ x ∈ [n, r, s, t], Small x) ∧ (0 ≤ D.now ∧ D.now < 1000000000000) ∧ TabG H (tabN K) ∧ TabG H (tabM K) ∧
  ((SeatBad4 D n r s t ∧ ∀ c ∈ errs9, ∀ H', Keep K S H H' → E (xc K c) none H') ∨ (∃ c : Cr, [n, r, s, t] = wordsC D.now c ∧ isName c.name = true ∧ (0 ≤ c.rank ∧ c.rank ≤ 99) ∧ GoodSt D.now c.st ∧ c.name ∉ namesL D.line ∧ (D.line.length : Int) < D.room ∧ Now K H S d { D with line := D.line ++ [c] } (Q .non)))
theorem c_seat (T : Tx K mg base) : Cal P w K mg base 5 "seat" (sp_seat K) := by
  have c_number : Cal P w K mg base 1 "number" (sp_number K) := c_number T
  have c_seat_ready : Cal P w K mg base 4 "seat_ready" (sp_seat_ready K) := c_seat_ready T
  have c_Desk_enter : Met P w K mg base 3 (He.ga K "Desk") "enter" (sp_enter K) := c_Desk_enter T
  have c_Desk_sleep : Met P w K mg base 2 (He.ga K "Desk") "sleep" (sp_sleep K) := c_Desk_sleep T
  have c_Desk_wait : Met P w K mg base 3 (He.ga K "Desk") "wait" (sp_wait K) := c_Desk_wait T
  obtain ⟨fd, F⟩ := T.d_seat
  refine ⟨_, fd, ["desk", "words"], okF (k := 4) F sc_seat (fun vs H Q E h => ?_) (fun A outer s H vs Q E hr h => ?_), T.r_seat, F.kp, F.bindsN fun _ _ _ _ _ _ us hl => match us, hl with | [_, _], _ => rfl⟩
  · obtain ⟨d, S, D, a, n, r, s, t, rfl, _⟩ := h
    rfl
  · have nd := sc_seat.nd
    obtain ⟨d, S, D, a, n, r, s, t, rfl, hD, hS, sm, ⟨t0, t1⟩, hT, hM, q⟩ := h
    obtain ⟨L, ln, eS, x⟩ := id hD
    obtain ⟨dx, hd⟩ := id x.desk
    have sn := sm n (by simp)
    have sr := sm r (by simp)
    have ss := sm s (by simp)
    have st := sm t (by simp)
    have mn : ∀ {i : Int}, 0 ≤ i → i < 1000000000000 → Mod i := fun h1 h2 => ⟨by omega, by omega⟩
    refine ⟨_, (pss_cons (ps_asg (pv 1) (pg_lst rfl (pgs_cons (pg_name (i := 2) nd rfl (Or.inl rfl)) (pgs_cons (pg_name (i := 3) nd rfl (Or.inl rfl)) (pgs_cons (pg_name (i := 4) nd rfl (Or.inl rfl)) (pgs_cons (pg_name (i := 5) nd rfl (Or.inl rfl)) pgs_nil))))))
  (pss_cons (ps_if (pt_cmpR op_eq (pv 4) (pgS (by rfl) T.h_READY) (nomark _))
  (pss_cons (ps_expr (pf c_seat_ready hr (by decide) (by rfl) (pU (GE.takes_of rfl rfl rfl rfl)) (pa_cons (pv 0) (pa_cons (pv 2) (pa_cons (pf c_number hr (by decide) (by rfl) (pU (GE.takes_of rfl rfl rfl rfl)) (pa_cons (pv 3) pa_nil)) (pa_cons (pf c_number hr (by decide) (by rfl) (pU (GE.takes_of rfl rfl rfl rfl)) (pa_cons (pv 5) pa_nil)) pa_nil))))))
  (pss_one ps_retN))
  pss_nil)
  (pss_cons (ps_expr (pm c_Desk_enter hr (by decide) (pU (GE.takes_of rfl rfl rfl rfl)) (pv 0) (pa_cons (pv 2) (pa_cons (pf c_number hr (by decide) (by rfl) (pU (GE.takes_of rfl rfl rfl rfl)) (pa_cons (pv 3) pa_nil)) pa_nil))))
  (pss_one (ps_if (pt_cmpR op_eq (pv 4) (pgS (by rfl) T.h_ASLEEP) (nomark _))
  (pss_one (ps_expr (pm c_Desk_sleep hr (by decide) (pU (GE.takes_of rfl rfl rfl rfl)) (pv 0) (pa_cons (pv 2) (pa_cons (pf c_number hr (by decide) (by rfl) (pU (GE.takes_of rfl rfl rfl rfl)) (pa_cons (pv 5) pa_nil)) pa_nil)))))
  (pss_one (ps_if (pt_cmpR op_eq (pv 4) (pgS (by rfl) T.h_WAITING) (nomark _))
  (pss_one (ps_expr (pm c_Desk_wait hr (by decide) (pU (GE.takes_of rfl rfl rfl rfl)) (pv 0) (pa_cons (pv 2) (pa_cons (pv 5) pa_nil)))))
  (pss_one (GE.ps_raise rfl (GE.takes_of rfl rfl rfl rfl) (GE.pmk1 PySem.F.excBase_ValueError T.e_NoDesk.1 T.r_NoDesk T.e_NoDesk.2.1 (raises_own T.e_NoDesk.2.2.1 T.e_NoDesk.2.2.2) rfl (GE.pe_joinedS (.cons (pe_fmtR (pv 4)) (.cons pe_str .nil))))))))))))), ?_⟩
    refine ⟨_, rfl, a, _, rfl, hS, rfl, _, _, rfl, _, _, rfl, _, _, rfl, _, _, rfl, rfl, ?_⟩
    refine ⟨_, rfl, rfl, _, rfl, ?_⟩
    rcases q with ⟨b, qE⟩ | ⟨c, ew, hn, hr9, hs, nn, hl, q⟩
    · have nE : ∀ {H1 : Hp}, Keep K [] H H1 → ∀ H', Keep K [] H1 H' → E (xc K "NoDesk") none H' := fun {H1} k1 H' k => qE _ (by decide +kernel) H' (k1.any.trans k.any)
      by_cases e : s = "ready"
      · rw [decide_eq_true (show V.str s = V.str "ready" by rw [e])]
        refine iteT ?_
        rcases b with b | ⟨i, gi, b⟩
        · exact ⟨_, rfl, _, rfl, _, rfl, r, rfl, sr, hM, .inr ⟨b, nE (Keep.refl _ _)⟩⟩
        refine ⟨_, rfl, _, rfl, _, rfl, r, rfl, sr, hM, .inl ⟨i, gi, fun H1 k1 => ?_⟩⟩
        rcases b with ⟨_, b⟩ | ⟨b, _⟩
        · rcases b with b | ⟨j, gj, b⟩
          · exact ⟨_, rfl, t, rfl, st, k1.tab _ hM, .inr ⟨b, nE k1⟩⟩
          · refine ⟨_, rfl, t, rfl, st, k1.tab _ hM, .inl ⟨j, gj, fun H2 k2 => ?_⟩⟩
            have k12 := k1.trans k2
            exact ⟨d, S, D, n, i, j, rfl, hD.keep0 k12, k12.tab _ hT, sn, mn gi.2.1 gi.2.2, fun _ c hc H' k => qE c hc H' (k12.any.trans k), fun z1 z2 => absurd z2 (b.elim (fun y => absurd z1 (by omega)) id)⟩
        · exact absurd e b
      · rw [decide_eq_false (show ¬ V.str s = V.str "ready" from fun z => e (V.str.inj z))]
        refine iteF ?_
        rcases b with b | ⟨i, gi, b⟩
        · exact ⟨_, rfl, d, dx, _, rfl, hd, rfl, _, rfl, _, rfl, r, rfl, sr, hM, .inr ⟨b, nE (Keep.refl _ _)⟩⟩
        refine ⟨_, rfl, d, dx, _, rfl, hd, rfl, _, rfl, _, rfl, r, rfl, sr, hM, .inl ⟨i, gi, fun H1 k1 => ?_⟩⟩
        rcases b with ⟨b, _⟩ | ⟨_, b⟩
        · exact absurd b e
        refine ⟨d, S, D, n, i, rfl, sn, mn gi.2.1 gi.2.2, k1.tab _ hT, hD.keep0 k1, x.pr.2.2, (by have := x.pr.2.1; omega), fun H2 => enter5 (fun _ c hc H' k => qE c hc H' (k1.any.trans k.any)) fun eo S2 k2' s2' hD2 => ?_⟩
        have b := b eo
        have k2 : Keep K S H H2 := k1.any.trans k2'
        have s2 : Sub H S S2 := fun b hb => (s2' b hb).imp_right (k1.gone b)
        obtain ⟨L2', ln2, eS2, x2⟩ := id hD2
        obtain ⟨dx2, hd2⟩ := id x2.desk
        have inn : n ∈ namesL (D.enter n i).line := by
          unfold namesL Dk.enter
          rw [List.map_append]
          exact List.mem_append_right _ (List.mem_singleton.mpr rfl)
        have qE2 : ∀ c ∈ errs9, ∀ H', Keep K S2 H2 H' → E (xc K c) none H' := fun c hc H' k => qE c hc H' (k2.trans' k s2)
        refine ⟨_, rfl, rfl, _, rfl, ?_⟩
        rcases b with ⟨e1, b⟩ | ⟨e1, b⟩ | ⟨e1, e2⟩
        · rw [decide_eq_true (show V.str s = V.str "asleep" by rw [e1])]
          refine iteT ?_
          rcases b with b | ⟨j, gj, b⟩
          · exact ⟨_, rfl, d, dx2, _, rfl, hd2, rfl, _, rfl, _, rfl, t, rfl, st, k2.tab _ hM, .inr ⟨b, fun H' k => qE2 _ (by decide +kernel) H' k.any⟩⟩
          · refine ⟨_, rfl, d, dx2, _, rfl, hd2, rfl, _, rfl, _, rfl, t, rfl, st, k2.tab _ hM, .inl ⟨j, gj, fun H3 k3 => ?_⟩⟩
            exact ⟨d, S2, D.enter n i, n, j, rfl, mn gj.2.1 gj.2.2, sn, hD2.keep0 k3, fun z => absurd inn z, fun c hc ec => ⟨fun _ => qE2 _ (by decide +kernel) H3 k3.any, fun z => absurd z b⟩⟩
        · rw [decide_eq_false (show ¬ V.str s = V.str "asleep" from fun z => absurd (e1.symm.trans (V.str.inj z)) (show ¬ ("waiting" : Str) = "asleep" by decide +kernel))]
          refine iteF ⟨_, rfl, rfl, _, rfl, ?_⟩
          rw [decide_eq_true (show V.str s = V.str "waiting" by rw [e1])]
          refine iteT ⟨_, rfl, d, dx2, _, rfl, hd2, rfl, _, rfl, _, rfl, d, S2, D.enter n i, n, t, rfl, st, k2.tab _ hT, sn, hD2, fun z => absurd inn z, fun c hc ec => ⟨fun _ H' k => qE2 _ (by decide +kernel) H' k.any, fun z => absurd z (by rw [b]; decide)⟩⟩
        · rw [decide_eq_false (show ¬ V.str s = V.str "asleep" from fun z => e1 (V.str.inj z))]
          refine iteF ⟨_, rfl, rfl, _, rfl, ?_⟩
          rw [decide_eq_false (show ¬ V.str s = V.str "waiting" from fun z => e2 (V.str.inj z))]
          have lr := ss.repr
          have l1 := fitN (k := 1000002) 0 1000002 len0 lr
          exact iteF ⟨_, rfl, .inl ⟨_, rfl, line_of lr, _, rfl, line_of l1, _, rfl, fit 1000002 20 l1 (by decide), qE2 _ (by decide +kernel) H2 (Keep.refl _ _)⟩⟩
    · obtain ⟨n1, r1, st1⟩ := c
      obtain ⟨e1, ew⟩ := List.cons.inj ew
      obtain ⟨e2, ew⟩ := List.cons.inj ew
      obtain ⟨e3, ew⟩ := List.cons.inj ew
      obtain ⟨e4, _⟩ := List.cons.inj ew
      have e1 : n = n1 := e1
      have e2 : r = numT r1 := e2
      have e3 : s = st1.word := e3
      have e4 : t = st1.told D.now := e4
      subst e1
      have hr10 : 0 ≤ r1 ∧ r1 ≤ 99 := hr9
      have gr : NumGood r r1 := ⟨e2, hr10.1, by omega⟩
      have eo : EnterOk D n r1 := ⟨hn, hr10, nn, hl⟩
      rw [e3, word_rdy]
      cases st1 with
      | rdy u =>
        obtain ⟨g1, g2⟩ : 0 ≤ u ∧ u ≤ D.now := hs
        refine iteT ⟨_, rfl, _, rfl, _, rfl, r, rfl, sr, hM, .inl ⟨r1, gr, fun H1 k1 => ⟨_, rfl, t, rfl, st, k1.tab _ hM, .inl ⟨D.now - u, ⟨e4, by omega, by omega⟩, fun H2 k2 => ?_⟩⟩⟩⟩
        have k12 := k1.trans k2
        refine ⟨d, S, D, n, r1, D.now - u, rfl, hD.keep0 k12, k12.tab _ hT, sn, mn gr.2.1 gr.2.2, fun z => absurd ⟨by omega, eo⟩ z, fun _ _ H3 S3 k3 s3 hD3 => ?_⟩
        refine q H3 S3 (k12.any.trans k3) (fun b hb => (s3 b hb).imp_right (k12.gone b)) ?_
        rw [show D.now - (D.now - u) = u by omega] at hD3
        exact hD3
      | slp u =>
        obtain ⟨g1, g2⟩ : 1 ≤ u - D.now ∧ u - D.now ≤ 1000 := hs
        refine iteF ⟨_, rfl, d, dx, _, rfl, hd, rfl, _, rfl, _, rfl, r, rfl, sr, hM, .inl ⟨r1, gr, fun H1 k1 => ?_⟩⟩
        refine ⟨d, S, D, n, r1, rfl, sn, mn gr.2.1 gr.2.2, k1.tab _ hT, hD.keep0 k1, x.pr.2.2, (by have := x.pr.2.1; omega), fun H2 => enter5 (fun z => absurd eo z) fun _ S2 k2' s2' hD2 => ?_⟩
        have k2 : Keep K S H H2 := k1.any.trans k2'
        have s2 : Sub H S S2 := fun b hb => (s2' b hb).imp_right (k1.gone b)
        obtain ⟨L2', ln2, eS2, x2⟩ := id hD2
        obtain ⟨dx2, hd2⟩ := id x2.desk
        refine ⟨_, rfl, rfl, _, rfl, ?_⟩
        rw [decide_eq_true (show V.str ((Cr.st ⟨n, r1, .slp u⟩).word) = V.str "asleep" from rfl)]
        refine iteT ⟨_, rfl, d, dx2, _, rfl, hd2, rfl, _, rfl, _, rfl, t, rfl, st, k2.tab _ hM, .inl ⟨u - D.now, ⟨e4, by omega, by omega⟩, fun H3 k3 => ?_⟩⟩
        refine ⟨d, S2, D.enter n r1, n, u - D.now, rfl, ⟨by omega, by omega⟩, sn, hD2.keep0 k3, fun z => absurd (show n ∈ namesL (D.enter n r1).line by unfold namesL Dk.enter; rw [List.map_append]; exact List.mem_append_right _ (List.mem_singleton.mpr rfl)) z, fun c hc ec => ⟨fun z => absurd ⟨g1, g2⟩ z, fun _ => ?_⟩⟩
        obtain rfl : c = ⟨n, r1, .rdy D.now⟩ := name_one x2.nm hc (by show _ ∈ D.line ++ [_]; simp) ec
        refine ⟨fun z => (nomatch z), fun _ H4 S4 k4 s4 hD4 => ?_⟩
        refine q H4 S4 ((k2.trans k3.any).trans' k4 s2) (fun b hb => (s4 b hb).elim (s2 b) fun z => .inr (k2.gone b (k3.gone b z))) ?_
        have e := enter_move D r1 (.slp (D.now + (u - D.now))) nn x.nm
        rw [show D.now + (u - D.now) = u by omega] at e
        have e2 : DkAt K H4 S4 d ((D.enter n r1).move ((⟨n, r1, .rdy D.now⟩ : Cr).as (.slp (D.now + (u - D.now))))) := hD4
        rw [show D.now + (u - D.now) = u by omega, e] at e2
        exact e2
      | wtg b =>
        have hb : isName b = true := hs
        have e4 : t = b := e4
        subst e4
        refine iteF ⟨_, rfl, d, dx, _, rfl, hd, rfl, _, rfl, _, rfl, r, rfl, sr, hM, .inl ⟨r1, gr, fun H1 k1 => ?_⟩⟩
        refine ⟨d, S, D, n, r1, rfl, sn, mn gr.2.1 gr.2.2, k1.tab _ hT, hD.keep0 k1, x.pr.2.2, (by have := x.pr.2.1; omega), fun H2 => enter5 (fun z => absurd eo z) fun _ S2 k2' s2' hD2 => ?_⟩
        have k2 : Keep K S H H2 := k1.any.trans k2'
        have s2 : Sub H S S2 := fun b hb => (s2' b hb).imp_right (k1.gone b)
        obtain ⟨L2', ln2, eS2, x2⟩ := id hD2
        obtain ⟨dx2, hd2⟩ := id x2.desk
        refine ⟨_, rfl, rfl, _, rfl, ?_⟩
        rw [decide_eq_false (show ¬ V.str ((Cr.st ⟨n, r1, .wtg t⟩).word) = V.str "asleep" from fun z => absurd (V.str.inj z) (show ¬ ("waiting" : Str) = "asleep" by decide +kernel))]
        refine iteF ⟨_, rfl, rfl, _, rfl, ?_⟩
        rw [decide_eq_true (show V.str ((Cr.st ⟨n, r1, .wtg t⟩).word) = V.str "waiting" from rfl)]
        refine iteT ⟨_, rfl, d, dx2, _, rfl, hd2, rfl, _, rfl, _, rfl, d, S2, D.enter n r1, n, t, rfl, st, k2.tab _ hT, sn, hD2, fun z => absurd (show n ∈ namesL (D.enter n r1).line by unfold namesL Dk.enter; rw [List.map_append]; exact List.mem_append_right _ (List.mem_singleton.mpr rfl)) z, fun c hc ec => ⟨fun z => absurd hb (by rw [z]; decide), fun _ => ?_⟩⟩
        obtain rfl : c = ⟨n, r1, .rdy D.now⟩ := name_one x2.nm hc (by show _ ∈ D.line ++ [_]; simp) ec
        refine ⟨fun z => (nomatch z), fun _ H4 S4 k4 s4 hD4 => ?_⟩
        refine q H4 S4 (k2.trans' k4 s2) (fun b hb => (s4 b hb).elim (s2 b) fun z => .inr (k2.gone b z)) ?_
        have e2 : DkAt K H4 S4 d ((D.enter n r1).move ((⟨n, r1, .rdy D.now⟩ : Cr).as (.wtg t))) := hD4
        rw [enter_move D r1 (.wtg t) nn x.nm] at e2
        exact e2
end
end Rr.K

set_option maxRecDepth 100000
set_option maxHeartbeats 4000000
namespace Rr.K
open PySem PySem.Spec PyProof.Rows L2
open GxR (TabG Tabbed)
open Evl (pss_cut)
open TL (tl tl_append len_tl)
section
variable {P : Program} {w : World} {K : PySem.W.Frag} {mg : Str → Option Value} {base : Heap}
/-- the desk that the first i callers make -/
def _root_.Rr.Dk.cut (D : Dk) (i : Nat) : Dk := { D with line := D.line.take i }
def sp_read (K : PySem.W.Frag) : Sp := fun vs H Q E => ∃ x : Str, vs = [.str x] ∧ TabG H (tabN K) ∧ TabG H (tabM K) ∧ ((Txt.endswith x "\n" = false ∧ ∀ H', Keep K [] H H' → E (xc K "NoDesk") none H') ∨
  ∃ wss, x = textW wss ∧ TextOk wss ∧ ((ReadBad wss ∧ ∀ H', Keep K [] H H' → E (xc K "NoDesk") none H') ∨ ∃ D, GoodD D ∧ wss = wssD D ∧ ∀ d S' H', Keep K [] H H' → (∀ b ∈ S', H b = none) → DkAt K H' S' d D → Q (.ref d) H'))
theorem cut1 (x : V) (l : List V) : cutV (x :: l) (some 1) none = l := by
  unfold cutV
  simp [HT.sIx]
theorem four {ws : List Str} (h : ws.length = 4) : ∃ a b c d, ws = [a, b, c, d] := by
  match ws, h with
  | [a, b, c, d], _ => exact ⟨a, b, c, d, rfl⟩
theorem exmD (T : Tx K mg base) : ∀ c ∈ errs9, PySem.W.exmOne K (.ref (He.ga K c)) (.ref (He.ga K "DeskError")) = some true := fun c hc => by
  rcases List.mem_cons.mp hc with rfl | hc
  · exact T.x_NoName_DeskError
  rcases List.mem_cons.mp hc with rfl | hc
  · exact T.x_NoRank_DeskError
  rcases List.mem_cons.mp hc with rfl | hc
  · exact T.x_NoSpan_DeskError
  rcases List.mem_cons.mp hc with rfl | hc
  · exact T.x_NoDesk_DeskError
  rcases List.mem_cons.mp hc with rfl | hc
  · exact T.x_Known_DeskError
  rcases List.mem_cons.mp hc with rfl | hc
  · exact T.x_Unknown_DeskError
  rcases List.mem_cons.mp hc with rfl | hc
  · exact T.x_Full_DeskError
  rcases List.mem_cons.mp hc with rfl | hc
  · exact T.x_NotReady_DeskError
  rw [List.mem_singleton.mp hc]
  exact T.x_IsReady_DeskError
theorem subD (T : Tx K mg base) : ∀ c ∈ errs9, PySem.W.subIn K (.ref (He.ga K c)) (.type "BaseException") = some true := fun c hc => (ex9 T.x9 c hc).c.hs
theorem nd9 : ("NoDesk" : Str) ∈ errs9 := by decide +kernel
theorem c_read (T : Tx K mg base) : CalR P w K mg base 6 "read" (sp_read K) := by
  have c_words_of : Cal P w K mg base 1 "words_of" (sp_words_of K) := c_words_of T
  have c_begun : Cal P w K mg base 3 "begun" (sp_begun K) := c_begun T
  have c_seat : Cal P w K mg base 5 "seat" (sp_seat K) := c_seat T
  obtain ⟨fd, F⟩ := T.d_read
  refine ⟨_, fd, ["text"], okX (GE.Out GE.RK P w) (k := 5) F sc_read (fun vs H Q E h => ?_) (fun A outer s H vs Q E hr h => ?_), T.r_read, F.kp, F.bindsN fun _ _ _ _ _ _ us hl => match us, hl with | [_], _ => rfl⟩
  · obtain ⟨x, rfl, _⟩ := h
    rfl
  · have nd := sc_read.nd
    obtain ⟨x, rfl, hT, hM, q⟩ := h
    have hu : (A.deeper (envOfC "read" (defScope s_read) s.heap.objs.size (He.fAd K ("read", none)) (.ref (He.codeOf K ("read", none))))).units + 2 < cLine := by
      have := hr.un
      omega
    refine ⟨_, (pss_cons (ps_if (pt_not (pt_val (pe_m1 PySem.F.slot_str_endswith PySem.F.type_str_endswith mt_endswith (pv 0) pe_str)))
  (pss_one (GE.ps_raise rfl (GE.takes_of rfl rfl rfl rfl) (GE.pmkR PySem.F.excBase_ValueError T.e_NoDesk.1 T.r_NoDesk T.e_NoDesk.2.1 (raises_own T.e_NoDesk.2.2.1 T.e_NoDesk.2.2.2) rfl pe_str)))
  pss_nil)
  (pss_cons (ps_set (i := 1) nd rfl (Or.inl rfl) (pe_split (pe_slice sl_str (pv 0) po_none (po_some (pe_un un_neg pe_int))) pe_str))
  (pss_cut (GE.ps_try_from (i := 4) rfl rfl nd rfl rfl ⟨rfl, by decide, .inl T.r_DeskError⟩ (GE.takesW_of rfl rfl rfl rfl) (fun W pn xe tk hp => (pss_cons (ps_set (i := 2) nd rfl (Or.inl rfl) (pf c_begun hr (by decide) (by rfl) (GE.passAt tk) (pa_cons (pf c_words_of hr (by decide) (by rfl) (GE.passAt tk) (pa_cons (pe_ix (ix_listK (K := K) rfl) (pv 1) pe_int (fun _ _ => rfl)) pa_nil)) pa_nil)))
  (pss_one (ps_for hp rfl (pi_listK (K := K) rfl (pe_slice (sl_listK (K := K) rfl) (pv 1) (po_some pe_int) po_none)) (pg_name (i := 3) nd rfl (Or.inl rfl))
  (pss_one (ps_expr (pf c_seat hr (by decide) (by rfl) (GE.passAt tk) (pa_cons (pv 2) (pa_cons (pf c_words_of hr (by decide) (by rfl) (GE.passAt tk) (pa_cons (pv 3) pa_nil)) pa_nil)))))))))
  (fun j a oe ot cls d pn xe hz hf ho p1 p2 tk => (pss_one (GE.ps_raise_from (n := "refusal") (i := 4) (K := K) rfl (hot_of hz hf) p1 (GE.AK.zc _ _ _ _ hz).1 tk (GE.pmk5 PySem.F.excBase_ValueError T.e_NoDesk.1 T.r_NoDesk T.e_NoDesk.2.1 (raises_own T.e_NoDesk.2.2.1 T.e_NoDesk.2.2.2) rfl (pe_callTy (GE.call_strE (K := K) rfl hu hz hf ho p1 p2) (by rfl) T.m_str (by decide +kernel) (pa_cons (pv 4) pa_nil))) rfl rfl))))
  (pss_one (ps_ret (pv 2)))))), ?_⟩
    refine ⟨_, rfl, ⟨_, rfl⟩, _, _, rfl, rfl, _, rfl, ?_⟩
    rcases q with ⟨ee, qE⟩ | ⟨wss, rfl, tx, q⟩
    · rw [ee]
      exact iteT (qE H (Keep.refl _ _))
    have rl := text_len tx
    have tl1 : (textW wss).length ≤ 14421 := by
      unfold textW
      rw [Str.length_append]
      have : ("\n" : Str).length = 1 := by decide +kernel
      omega
    rw [show Txt.endswith (textW wss) "\n" = true from ends_nl _]
    refine iteF ⟨_, rfl, _, rfl, _, rfl, _, rfl, line_of tl1, ⟨_, rfl⟩, _, _, rfl, rfl, (by decide +kernel), ?_, fun p np => ?_⟩
    · refine Nat.le_trans (Nat.add_le_add_right (cutS_length _ _ _) 2) ?_
      rw [sizeLine_eq]
      omega
    have ec0 : cutS (textW wss) none (some (-(1 : Int))) = Str.join "\n" (wss.map (Str.join " ")) := cut_last _
    rw [ec0, split_text tx]
    have kp : Keep K [] H (L2.upd H p (.lst ((wss.map (Str.join " ")).map V.str))) := Keep.new np
    rcases (show (∃ ws more, (wss = ws :: more ∧ HeadBad ws) ∧ ∀ H', Keep K [] H H' → E (xc K "NoDesk") none H') ∨ ∃ (D : Dk) (rest : List (List Str)), GoodD D ∧ wss = wssD D ++ rest ∧ ((rest = [] ∧ ∀ d S' H', Keep K [] H H' → (∀ b ∈ S', H b = none) → DkAt K H' S' d D → Q (.ref d) H') ∨ ∃ ws more, rest = ws :: more ∧ SeatBad D ws ∧ ∀ H', Keep K [] H H' → E (xc K "NoDesk") none H') from by
      rcases q with ⟨⟨ws, more, e, hb⟩ | ⟨D, ws, more, g, e, hb⟩, qE⟩ | ⟨D, g, e, q⟩
      · exact .inl ⟨ws, more, ⟨e, hb⟩, qE⟩
      · exact .inr ⟨D, ws :: more, g, e, .inr ⟨ws, more, rfl, hb, qE⟩⟩
      · exact .inr ⟨D, [], g, by rw [e, List.append_nil], .inl ⟨rfl, q⟩⟩) with ⟨ws, more, ⟨rfl, hb⟩, qE⟩ | ⟨D, rest, g, ew, qq⟩
    · -- the head
      refine ⟨fun _ _ => False, ?_, fun _ _ z => z.elim⟩
      have r0 := tx.2.2 ws List.mem_cons_self
      refine ⟨_, rfl, p, _, _, _, rfl, rfl, .inl (.inl upd_same), atI_nat (j := 0) rfl, ws, rfl, r0, fun _ H' k => ⟨exmD T _ nd9, fun a na => ⟨rfl, subD T _ nd9, _, rfl, rfl, ⟨_, rfl, str9 T.y9 _ nd9, subD T _ nd9⟩, fun m => qE _ (kp.trans k)⟩⟩, fun h4 p2 np2 => ?_⟩
      obtain ⟨a1, b1, c1, d1, rfl⟩ := four h4
      rcases hb with hb | ⟨h0, p0, r1, n0, e, hb⟩
      · exact absurd h4 hb
      cases e
      have k2 := kp.trans (Keep.new (o := .lst (([a1, b1, c1, d1] : List Str).map V.str)) np2)
      exact ⟨p2, a1, b1, c1, d1, rfl, .inl (.inl upd_same), fun x hx => (r0.2.2 x hx).small, k2.tab _ hM, .inl ⟨hb, fun H' k => ⟨exmD T _ nd9, fun a na => ⟨rfl, subD T _ nd9, _, rfl, rfl, ⟨_, rfl, str9 T.y9 _ nd9, subD T _ nd9⟩, fun m => qE _ (k2.trans k)⟩⟩⟩⟩
    · clear q
      subst ew
      refine ⟨fun σ' H' => rest = [] ∧ ∃ d S' v, σ' = [some (.str (textW (wssD D ++ rest))), some (.ref p), some (.ref d), v, none] ∧ Keep K [] H H' ∧ (∀ b ∈ S', H b = none) ∧ DkAt K H' S' d D, ?_, ?_⟩
      · have r0 := tx.2.2 (headD D) (by unfold wssD; simp)
        refine ⟨_, rfl, p, _, _, _, rfl, rfl, .inl (.inl upd_same), atI_nat (j := 0) rfl, headD D, rfl, r0, fun z => absurd rfl z, fun _ p2 np2 => ?_⟩
        have k2 := kp.trans (Keep.new (o := .lst ((headD D).map V.str)) np2)
        have t0 := g.t0
        have t1 := g.t1
        obtain ⟨⟨pa0, pa1⟩, ro0, ro1⟩ := id g.pr
        refine ⟨p2, "desk", numT D.pace, numT D.room, numT D.now, rfl, .inl (.inl upd_same), fun x hx => (r0.2.2 x hx).small, k2.tab _ hM, .inr ⟨D.pace, D.room, D.now, rfl, ⟨rfl, by omega, by omega⟩, ⟨rfl, by omega, by omega⟩, ⟨rfl, t0, t1⟩, g.pr, fun d S1 H1 k1 f1 hD1 => ?_⟩⟩
        have pp2 : p ≠ p2 := fun z => by rw [← z, upd_same] at np2; cases np2
        have hp1 : H1 p = some (.lst (((wssD D ++ rest).map (Str.join " ")).map V.str)) := k1.lst ((upd_ne pp2).trans upd_same) List.not_mem_nil
        refine ⟨_, rfl, _, rfl, p, _, rfl, .inl (.inl hp1), fun p3 np3 => ?_⟩
        have ec : cutV (((wssD D ++ rest).map (Str.join " ")).map V.str) (some 1) none = (D.line.map (wordsC D.now) ++ rest).map fun ws => V.str (Str.join " " ws) := by
          rw [show ((wssD D ++ rest).map (Str.join " ")).map V.str = V.str (Str.join " " (headD D)) :: (D.line.map (wordsC D.now) ++ rest).map (fun ws => V.str (Str.join " " ws)) from by rw [List.map_map]; rfl]
          exact cut1 _ _
        rw [ec]
        refine ⟨p3, rfl, ⟨_, .inl (.inl upd_same)⟩, ?_⟩
        have k3 : Keep K [] H (L2.upd H1 p3 (.lst ((D.line.map (wordsC D.now) ++ rest).map fun ws => V.str (Str.join " " ws)))) := (k2.trans k1).trans (Keep.new np3)
        refine for_it (walk_list (xs := (D.line.map (wordsC D.now) ++ rest).map fun ws => V.str (Str.join " " ws))) (fun i σ H' => i ≤ D.line.length ∧ ∃ v S', σ = [some (.str (textW (wssD D ++ rest))), some (.ref p), some (.ref d), v, none] ∧ Keep K [] H H' ∧ (∀ b ∈ S', H b = none) ∧ DkAt K H' S' d (D.cut i) ∧ H' p3 = some (.lst ((D.line.map (wordsC D.now) ++ rest).map fun ws => V.str (Str.join " " ws))))
          ⟨Nat.zero_le _, none, S1, rfl, k3, fun b hb => k2.gone b (f1 b hb), hD1.keep0 (Keep.new np3), upd_same⟩ ?_ ?_ ?_
        · rintro i σ H' _ ⟨_, v, S', rfl, _, _, _, h⟩
          exact .inl (.inl h)
        · rintro i v σ H4 H5 hi ⟨hi', v0, S4, rfl, k4, f4, hD4, hp4⟩ ⟨rfl, hv⟩
          obtain ⟨ws, hws, rfl⟩ : ∃ ws, (D.line.map (wordsC D.now) ++ rest)[i]? = some ws ∧ V.str (Str.join " " ws) = v := by
            rw [List.getElem?_map] at hv
            cases e : (D.line.map (wordsC D.now) ++ rest)[i]? with
            | none =>
              rw [e] at hv
              cases hv
            | some ws =>
              rw [e] at hv
              exact ⟨ws, rfl, Option.some.inj hv⟩
          have rw0 : RowW ws := tx.2.2 ws (by unfold wssD; exact List.mem_cons_of_mem _ (List.mem_of_getElem? hws))
          have take_lt : ((D.cut i).line.length : Int) ≤ D.line.length := by
            show ((D.line.take i).length : Int) ≤ _
            rw [List.length_take]
            omega
          rcases Nat.lt_or_ge i D.line.length with hlt | hge
          · obtain ⟨c, hc⟩ : ∃ c, D.line[i]? = some c := ⟨_, List.getElem?_eq_getElem hlt⟩
            rw [List.getElem?_append_left (by rw [List.length_map]; exact hlt), List.getElem?_map, hc] at hws
            obtain rfl : wordsC D.now c = ws := Option.some.inj hws
            have hm := List.mem_of_getElem? hc
            have e3 : D.line = D.line.take i ++ (c :: D.line.drop (i + 1)) := by
              have e4 := (List.take_append_drop i D.line).symm
              rw [List.drop_eq_getElem_cons hlt, (List.getElem?_eq_some_iff.mp hc).2] at e4
              exact e4
            refine ⟨_, rfl, _, rfl, wordsC D.now c, rfl, rw0, fun z => absurd rfl z, fun _ a na => ?_⟩
            have k5 := k4.trans (Keep.new (o := .lst ((wordsC D.now c).map V.str)) na)
            refine ⟨d, S4, D.cut i, a, c.name, numT c.rank, c.st.word, c.st.told D.now, rfl, hD4.keep0 (Keep.new na), .inl (.inl upd_same), fun x hx => (rw0.2.2 x hx).small, ⟨g.t0, g.t1⟩, k5.tab _ hT, k5.tab _ hM, .inr ⟨c, rfl, g.ok c hm, g.rk c hm, g.st c hm, ?_, ?_, fun H6 S6 k6 s6 hD6 => ?_⟩⟩
            · intro z
              have nm := g.nm
              rw [e3] at nm
              unfold namesL at nm
              rw [List.map_append] at nm
              exact (List.nodup_append.mp nm).2.2 _ z _ (by simp) rfl
            · show ((D.line.take i).length : Int) < D.room
              have := g.len
              rw [List.length_take]
              omega
            · have hp5 : (L2.upd H5 a (.lst ((wordsC D.now c).map V.str))) p3 = some (.lst ((D.line.map (wordsC D.now) ++ rest).map fun ws => V.str (Str.join " " ws))) := (upd_ne (ne_of_none hp4 na)).trans hp4
              refine ⟨hlt, _, S6, rfl, k5.trans' k6 fun b hb => .inr (f4 b hb), fun b hb => (s6 b hb).elim (f4 b) fun z => k5.gone b z, ?_, k6.lst hp5 ((hD4.keep0 (Keep.new na)).lst hp5)⟩
              have e5 : D.cut (i + 1) = { D.cut i with line := (D.cut i).line ++ [c] } := by
                show ({ D with line := D.line.take (i + 1) } : Dk) = { D with line := D.line.take i ++ [c] }
                rw [List.take_add_one, hc]
                rfl
              rw [e5]
              exact hD6
          · obtain rfl : i = D.line.length := Nat.le_antisymm hi' hge
            rw [List.getElem?_append_right (by rw [List.length_map]; exact Nat.le_refl _), List.length_map, Nat.sub_self] at hws
            rcases qq with ⟨rfl, _⟩ | ⟨ws', more, rfl, hb, qE⟩
            · cases hws
            obtain rfl : ws' = ws := Option.some.inj hws
            have ecut : D.cut D.line.length = D := by
              show ({ D with line := D.line.take D.line.length } : Dk) = D
              rw [List.take_of_length_le (Nat.le_refl _)]
            rw [ecut] at hD4
            refine ⟨_, rfl, _, rfl, ws', rfl, rw0, fun _ H' k => ⟨exmD T _ nd9, fun a na => ⟨rfl, subD T _ nd9, _, rfl, rfl, ⟨_, rfl, str9 T.y9 _ nd9, subD T _ nd9⟩, fun m => qE _ (k4.trans k)⟩⟩, fun h4 a na => ?_⟩
            obtain ⟨a1, b1, c1, d1, rfl⟩ := four h4
            rcases hb with hb | ⟨n0, r1, s1, t1', e, hb⟩
            · exact absurd h4 hb
            cases e
            have k5 := k4.trans (Keep.new (o := .lst (([a1, b1, c1, d1] : List Str).map V.str)) na)
            exact ⟨d, S4, D, a, a1, b1, c1, d1, rfl, hD4.keep0 (Keep.new na), .inl (.inl upd_same), fun x hx => (rw0.2.2 x hx).small, ⟨g.t0, g.t1⟩, k5.tab _ hT, k5.tab _ hM, .inl ⟨hb, fun c hc H' k => ⟨exmD T _ hc, fun a na => ⟨rfl, subD T _ hc, _, rfl, rfl, ⟨_, rfl, str9 T.y9 _ hc, subD T _ hc⟩, fun m => qE _ (k5.trans' k fun b hb => .inr (f4 b hb))⟩⟩⟩⟩
        · rintro σ H4 ⟨hi', v0, S4, rfl, k4, f4, hD4, hp4⟩
          rw [List.length_map, List.length_append, List.length_map] at hi' hD4
          have er : rest = [] := List.length_eq_zero_iff.mp (by omega)
          refine ⟨er, d, S4, _, rfl, k4, f4, ?_⟩
          rw [er] at hD4
          have ecut : D.cut (D.line.length + ([] : List (List Str)).length) = D := by
            show ({ D with line := D.line.take D.line.length } : Dk) = D
            rw [List.take_of_length_le (Nat.le_refl _)]
          rw [ecut] at hD4
          exact hD4
      · rintro σ' H' ⟨er, d, S', v, rfl, k, f, hD⟩
        rcases qq with ⟨_, q⟩ | ⟨ws, more, e, _⟩
        · exact ⟨_, rfl, q d S' H' k f hD⟩
        · rw [er] at e
          cases e
end
end Rr.K

set_option maxRecDepth 100000
set_option maxHeartbeats 4000000
/-! a desk's text -/
namespace Rr.K
open PySem PySem.Spec PyProof.Rows L2
open TL (tl tl_append len_tl tl_join joinL)
theorem byG {K : PySem.W.Frag} {H : Hp} {E : XK} {d : Addr} {S : List Addr} {D : Dk} {c : Cr} {q : Cr → Prop} (g : GoodD D) (hD : DkAt K H S d D) (hc : c ∈ D.line) (h : q c) : ByN K H E d S D c.name q :=
  ⟨isName_small (g.ok c hc), hD, fun z => absurd (name_in hc) z, fun c' hc' e => by rw [name_one g.nm hc' hc e]; exact h⟩
theorem sum_le {m : Nat} : ∀ {l : List Str}, (∀ r ∈ l, r.length ≤ m) → (l.map (·.length)).sum ≤ l.length * m
  | [], _ => Nat.zero_le _
  | x :: r, h => by
    rw [List.map_cons, List.sum_cons, List.length_cons, Nat.add_mul, Nat.one_mul]
    have h1 := h x List.mem_cons_self
    have h2 := sum_le (l := r) fun z hz => h z (List.mem_cons_of_mem _ hz)
    omega
/-- four words, put together -/
theorem four_words (a b c d : Str) : Str.empty ++ a ++ " " ++ b ++ " " ++ (Str.empty ++ c ++ " " ++ d) = Str.join " " [a, b, c, d] := by
  refine TL.ext_tl ?_
  rw [tl_join]
  simp only [tl_append]
  show ([] ++ tl a ++ tl " " ++ tl b ++ tl " " ++ ([] ++ tl c ++ tl " " ++ tl d) : List Nat) = tl a ++ (tl " " ++ (tl b ++ (tl " " ++ (tl c ++ (tl " " ++ tl d)))))
  simp
theorem four_words2 (a b c d : Str) : Str.empty ++ a ++ " " ++ b ++ " " ++ c ++ " " ++ d = Str.join " " [a, b, c, d] := by
  refine TL.ext_tl ?_
  rw [tl_join]
  simp only [tl_append]
  show ([] ++ tl a ++ tl " " ++ tl b ++ tl " " ++ tl c ++ tl " " ++ tl d : List Nat) = tl a ++ (tl " " ++ (tl b ++ (tl " " ++ (tl c ++ (tl " " ++ tl d)))))
  simp
theorem le1 : (" " : Str).length ≤ 1 := by decide +kernel
section
variable {P : Program} {w : World} {K : PySem.W.Frag} {mg : Str → Option Value} {base : Heap}
def sp_doing (K : PySem.W.Frag) : Sp := fun vs H Q _ => ∃ (d : Addr) (S : List Addr) (D : Dk) (c : Cr), vs = [.ref d, .str c.name] ∧ DkAt K H S d D ∧ GoodD D ∧ c ∈ D.line ∧ Q (.str (Str.empty ++ c.st.word ++ " " ++ c.st.told D.now)) H
theorem c_doing (T : Tx K mg base) : Cal P w K mg base 3 "doing" (sp_doing K) := by
  have c_Desk_left : Met P w K mg base 2 (He.ga K "Desk") "left" (sp_left K) := c_Desk_left T
  have c_Desk_bell : Met P w K mg base 2 (He.ga K "Desk") "bell" (sp_bell K) := c_Desk_bell T
  have c_Desk_state : Met P w K mg base 2 (He.ga K "Desk") "state" (sp_state K) := c_Desk_state T
  have c_Desk_waited : Met P w K mg base 2 (He.ga K "Desk") "waited" (sp_waited K) := c_Desk_waited T
  obtain ⟨fd, F⟩ := T.d_doing
  refine ⟨_, fd, ["desk", "name"], okF (k := 2) F sc_doing (fun vs H Q E h => ?_) (fun A outer s H vs Q E hr h => ?_), T.r_doing, F.kp, F.bindsN fun _ _ _ _ _ _ us hl => match us, hl with | [_, _], _ => rfl⟩
  · obtain ⟨d, S, D, c, rfl, _⟩ := h
    rfl
  · have nd := sc_doing.nd
    obtain ⟨d, S, D, c, rfl, hD, g, hc, q⟩ := h
    obtain ⟨L, ln, eS, x⟩ := id hD
    obtain ⟨dx, hd⟩ := id x.desk
    have w1 : c.st.word.length ≤ 12 := (word_ok c.st).1
    have w2 : (c.st.told D.now).length ≤ 12 := (told_ok g.t1 (g.st c hc)).1
    have a1 := fitN (k := 12) 0 12 len0 w1
    have a2 := fitN (k := 13) 12 1 a1 le1
    have a3 := fitN (k := 25) 13 12 a2 w2
    refine ⟨_, (pss_cons (ps_set (i := 2) nd rfl (Or.inl rfl) (pm c_Desk_state hr (by decide) (pU (GE.takes_of rfl rfl rfl rfl)) (pv 0) (pa_cons (pv 1) pa_nil)))
  (pss_cons (ps_if (pt_cmpR op_eq (pv 2) (pgS (by rfl) T.h_READY) (nomark _))
  (pss_one (ps_ret (pe_joined (.cons (pe_fmt (pv 2)) (.cons pe_str (.cons (pe_fmt (pm c_Desk_waited hr (by decide) (pU (GE.takes_of rfl rfl rfl rfl)) (pv 0) (pa_cons (pv 1) pa_nil))) .nil))))))
  pss_nil)
  (pss_cons (ps_if (pt_cmpR op_eq (pv 2) (pgS (by rfl) T.h_ASLEEP) (nomark _))
  (pss_one (ps_ret (pe_joined (.cons (pe_fmt (pv 2)) (.cons pe_str (.cons (pe_fmt (pm c_Desk_left hr (by decide) (pU (GE.takes_of rfl rfl rfl rfl)) (pv 0) (pa_cons (pv 1) pa_nil))) .nil))))))
  pss_nil)
  (pss_one (ps_ret (pe_joined (.cons (pe_fmt (pv 2)) (.cons pe_str (.cons (pe_fmt (pm c_Desk_bell hr (by decide) (pU (GE.takes_of rfl rfl rfl rfl)) (pv 0) (pa_cons (pv 1) pa_nil))) .nil))))))))), ?_⟩
    refine ⟨_, rfl, d, dx, _, rfl, hd, rfl, _, rfl, d, S, D, c.name, rfl, byG g hD hc ?_⟩
    refine ⟨_, rfl, rfl, _, rfl, ?_⟩
    rw [word_rdy]
    have gs := g.st c hc
    have t0 := g.t0
    have t1 := g.t1
    obtain ⟨n, r, st⟩ := c
    cases st with
    | rdy s =>
      refine iteT ⟨_, rfl, .inl ⟨_, rfl, line_of w1, _, rfl, line_of a1, _, rfl, line_of a2, _, rfl, d, dx, _, rfl, hd, rfl, _, rfl, d, S, D, n, rfl, byG (c := ⟨n, r, .rdy s⟩) g hD hc ⟨fun z => (nomatch z), fun _ => .inr ⟨_, rfl, ?_, _, rfl, line_of a3, q⟩⟩⟩⟩
      exact Mod.log (i := D.now - s) ⟨by have := gs.2; omega, by have := gs.1; omega⟩
    | slp u =>
      refine iteF ⟨_, rfl, rfl, _, rfl, iteT ⟨_, rfl, .inl ⟨_, rfl, line_of w1, _, rfl, line_of a1, _, rfl, line_of a2, _, rfl, d, dx, _, rfl, hd, rfl, _, rfl, d, S, D, n, rfl, byG (c := ⟨n, r, .slp u⟩) g hD hc (.inr ⟨_, rfl, ?_, _, rfl, line_of a3, q⟩)⟩⟩⟩
      exact Mod.log (i := u - D.now) ⟨by have := gs.1; omega, by have := gs.2; omega⟩
    | wtg b =>
      exact iteF ⟨_, rfl, rfl, _, rfl, iteF ⟨_, rfl, .inl ⟨_, rfl, line_of w1, _, rfl, line_of a1, _, rfl, line_of a2, _, rfl, d, dx, _, rfl, hd, rfl, _, rfl, d, S, D, n, rfl, byG (c := ⟨n, r, .wtg b⟩) g hD hc (.inl ⟨_, rfl, line_of w2, _, rfl, line_of a3, q⟩)⟩⟩⟩
def sp_shown (K : PySem.W.Frag) : Sp := fun vs H Q _ => ∃ (d : Addr) (S : List Addr) (D : Dk), vs = [.ref d] ∧ DkAt K H S d D ∧ GoodD D ∧ ∀ H', Keep K [] H H' → Q (.str (textD D)) H'
theorem c_shown (T : Tx K mg base) : Cal P w K mg base 4 "shown" (sp_shown K) := by
  have c_doing : Cal P w K mg base 3 "doing" (sp_doing K) := c_doing T
  have c_Desk_names : Met P w K mg base 1 (He.ga K "Desk") "names" (sp_names K) := c_Desk_names T
  have c_Desk_rank : Met P w K mg base 2 (He.ga K "Desk") "rank" (sp_rank K) := c_Desk_rank T
  obtain ⟨fd, F⟩ := T.d_shown
  refine ⟨_, fd, ["desk"], okF (k := 3) F sc_shown (fun vs H Q E h => ?_) (fun A outer s H vs Q E hr h => ?_), T.r_shown, F.kp, F.bindsN fun _ _ _ _ _ _ us hl => match us, hl with | [_], _ => rfl⟩
  · obtain ⟨d, S, D, rfl, _⟩ := h
    rfl
  · have nd := sc_shown.nd
    obtain ⟨d, S, D, rfl, hD, g, q⟩ := h
    obtain ⟨L, ln, eS, x⟩ := id hD
    obtain ⟨dx, hd⟩ := id x.desk
    obtain ⟨⟨p1, p2⟩, r1, r2⟩ := g.pr
    have t0 := g.t0
    have t1 := g.t1
    have hk := headD_ok g
    have w0 : ("desk" : Str).length ≤ 12 := (hk "desk" (by simp [headD])).1
    have w1 : (numT D.pace).length ≤ 12 := (hk (numT D.pace) (by simp [headD])).1
    have w2 : (numT D.room).length ≤ 12 := (hk (numT D.room) (by simp [headD])).1
    have w3 : (numT D.now).length ≤ 12 := (hk (numT D.now) (by simp [headD])).1
    have a0 := fitN (k := 12) 0 12 len0 w0
    have a1 := fitN (k := 13) 12 1 a0 le1
    have a2 := fitN (k := 25) 13 12 a1 w1
    have a3 := fitN (k := 26) 25 1 a2 le1
    have a4 := fitN (k := 38) 26 12 a3 w2
    have a5 := fitN (k := 39) 38 1 a4 le1
    have a6 := fitN (k := 51) 39 12 a5 w3
    refine ⟨_, (pss_cons (ps_set (i := 1) nd rfl (Or.inl rfl) (pe_lst (pa_cons (pe_joined (.cons (pe_fmt (pgS (by rfl) T.h_HEAD)) (.cons pe_str (.cons (pe_fmt (pe_fld (pv 0) rfl)) (.cons pe_str (.cons (pe_fmt (pe_fld (pv 0) rfl)) (.cons pe_str (.cons (pe_fmt (pe_fld (pv 0) rfl)) .nil)))))))) pa_nil)))
  (pss_cons (ps_for (passes_of rfl) rfl (pi_list (pm0 c_Desk_names hr (by decide) p0 (pv 0))) (pg_name (i := 2) nd rfl (Or.inl rfl))
  (pss_one (ps_expr (pe_bm PySem.F.plainAttrs_list PySem.F.slot_list_append PySem.F.type_list_append mt_append (pv 1) (pa_cons (pe_joined (.cons (pe_fmt (pv 2)) (.cons pe_str (.cons (pe_fmt (pm c_Desk_rank hr (by decide) (pU (GE.takes_of rfl rfl rfl rfl)) (pv 0) (pa_cons (pv 2) pa_nil))) (.cons pe_str (.cons (pe_fmt (pf c_doing hr (by decide) (by rfl) p0 (pa_cons (pv 0) (pa_cons (pv 2) pa_nil)))) .nil)))))) pa_nil)))))
  (pss_one (ps_ret (pe_op op_add_str (pe_join pe_str (pv 1)) pe_str))))), ?_⟩
    refine .inl ⟨_, rfl, line_of w0, _, rfl, line_of a0, _, rfl, line_of a1, _, rfl, d, _, _, _, _, rfl, hd, T.cl_Desk, T.na_Desk_pace, rfl, .inr ⟨_, rfl, Mod.log (i := D.pace) ⟨by omega, by omega⟩, _, rfl, line_of a2, _, rfl, line_of a3, _, rfl, d, _, _, _, _, rfl, hd, T.cl_Desk, T.na_Desk_room, rfl, .inr ⟨_, rfl, Mod.log (i := D.room) ⟨by omega, by omega⟩, _, rfl, line_of a4, _, rfl, line_of a5, _, rfl, d, _, _, _, _, rfl, hd, T.cl_Desk, T.na_Desk_now, rfl, .inr ⟨_, rfl, Mod.log (i := D.now) ⟨by omega, by omega⟩, _, rfl, line_of a6, (show 1 ≤ sizeLine by decide), fun b nb => ?_⟩⟩⟩⟩
    have e0 : Str.empty ++ "desk" ++ " " ++ Str.ofString (toString D.pace) ++ " " ++ Str.ofString (toString D.room) ++ " " ++ Str.ofString (toString D.now) = Str.join " " (headD D) := four_words2 _ _ _ _
    rw [e0]
    have kb : Keep K [] H (L2.upd H b (.lst [V.str (Str.join " " (headD D))])) := Keep.new nb
    have hb0 : (L2.upd H b (.lst [V.str (Str.join " " (headD D))])) b = some (.lst ([Str.join " " (headD D)].map V.str)) := upd_same
    generalize L2.upd H b (.lst [V.str (Str.join " " (headD D))]) = H1 at kb hb0 ⊢
    have hD1 := hD.keep0 kb
    obtain ⟨L1, ln1, eS1, x1⟩ := id hD1
    obtain ⟨dx1, hd1⟩ := id x1.desk
    refine ⟨_, rfl, d, dx1, _, rfl, hd1, rfl, d, S, D, rfl, hD1, fun p np => ⟨p, rfl, ⟨_, .inl (.inl upd_same)⟩, ?_⟩⟩
    have kp : Keep K [] H1 (L2.upd H1 p (.lst ((namesL D.line).map V.str))) := Keep.new np
    have hp0 : (L2.upd H1 p (.lst ((namesL D.line).map V.str))) p = some (.lst ((namesL D.line).map V.str)) := upd_same
    have hb1 := kp.lst hb0 List.not_mem_nil
    generalize L2.upd H1 p (.lst ((namesL D.line).map V.str)) = H2 at kp hp0 hb1 ⊢
    have k02 := kb.trans kp
    have bp : b ≠ p := fun z => by
      rw [z, np] at hb0
      cases hb0
    have l60 : D.line.length ≤ 60 := by have := g.len; omega
    refine for_it (walk_list (xs := (namesL D.line).map V.str)) (fun i σ H' => ∃ v, σ = [some (.ref d), some (.ref b), v] ∧ Keep K [] H H' ∧ H' p = some (.lst ((namesL D.line).map V.str)) ∧ H' b = some (.lst ((Str.join " " (headD D) :: (D.line.take i).map fun c => Str.join " " (wordsC D.now c)).map V.str)))
      ⟨none, rfl, k02, hp0, hb1⟩ ?_ ?_ ?_
    · rintro i σ H' _ ⟨v, rfl, _, h, _⟩
      exact .inl (.inl h)
    · rintro i v σ H3 H4 hi ⟨v0, rfl, k3, hp3, hb3⟩ ⟨rfl, hv⟩
      unfold namesL at hv
      rw [List.map_map, List.getElem?_map] at hv
      cases ec : D.line[i]? with
      | none =>
        rw [ec] at hv
        cases hv
      | some c =>
        rw [ec] at hv
        obtain rfl : V.str c.name = v := Option.some.inj hv
        have hc := List.mem_of_getElem? ec
        have hD3 := hD.keep0 k3
        obtain ⟨L3, ln3, eS3, x3⟩ := id hD3
        obtain ⟨dx3, hd3⟩ := id x3.desk
        have wk := wordsC_ok t1 (g.ok c hc) (g.rk c hc) (g.st c hc)
        have v1 : c.name.length ≤ 12 := (wk c.name (by simp [wordsC])).1
        have v2 : (numT c.rank).length ≤ 12 := (wk (numT c.rank) (by simp [wordsC])).1
        have v3 : c.st.word.length ≤ 12 := (wk c.st.word (by simp [wordsC])).1
        have v4 : (c.st.told D.now).length ≤ 12 := (wk (c.st.told D.now) (by simp [wordsC])).1
        have b0 := fitN (k := 12) 0 12 len0 v1
        have b1 := fitN (k := 13) 12 1 b0 le1
        have b2 := fitN (k := 25) 13 12 b1 v2
        have b3 := fitN (k := 26) 25 1 b2 le1
        have c0 := fitN (k := 12) 0 12 len0 v3
        have c1 := fitN (k := 13) 12 1 c0 le1
        have c2 := fitN (k := 25) 13 12 c1 v4
        have b4 := fitN (k := 51) 26 25 b3 c2
        have rk := g.rk c hc
        refine ⟨_, rfl, .inl ⟨rfl, _, .inl (.inl hb3)⟩, _, rfl, .inl ⟨_, rfl, line_of v1, _, rfl, line_of b0, _, rfl, line_of b1, _, rfl, d, dx3, _, rfl, hd3, rfl, _, rfl, d, S, D, c.name, rfl, byG g hD3 hc ?_⟩⟩
        refine .inr ⟨_, rfl, Mod.log (i := c.rank) ⟨by omega, by omega⟩, _, rfl, line_of b2, _, rfl, line_of b3, _, rfl, _, rfl, d, S, D, c, rfl, hD3, g, hc, .inl ⟨_, rfl, line_of c2, _, rfl, line_of b4, ?_⟩⟩
        have er : Str.empty ++ c.name ++ " " ++ Str.ofString (toString c.rank) ++ " " ++ (Str.empty ++ c.st.word ++ " " ++ c.st.told D.now) = Str.join " " (wordsC D.now c) := four_words _ _ _ _
        rw [er]
        refine ⟨b, _, _, rfl, rfl, hb3, ?_, _, rfl, k3.set (.inl nb) hb3 nt_lst, ?_, ?_⟩
        · rw [List.length_map, List.length_cons, List.length_map, List.length_take]
          exact small1000 (by omega)
        · exact (upd_ne bp.symm).trans hp3
        · rw [upd_same, List.take_add_one, ec, List.map_cons, List.map_cons, List.map_append, List.map_append]
          rfl
    · rintro σ H3 ⟨v, rfl, k3, hp3, hb3⟩
      have eT : (D.line.take ((namesL D.line).map V.str).length) = D.line := by
        unfold namesL
        rw [List.length_map, List.length_map, List.take_of_length_le (Nat.le_refl _)]
      rw [eT] at hb3
      have hb3 : H3 b = some (.lst ((rowsD D).map V.str)) := hb3
      have rl : (rowsD D).length ≤ 61 := by
        show (_ :: D.line.map _).length ≤ 61
        rw [List.length_cons, List.length_map]
        omega
      have sm := sum_le (m := 52) (l := rowsD D) fun r hr => (row_of g hr).2
      refine ⟨⟨_, rfl⟩, _, rfl, _, b, rowsD D, rfl, rfl, .inl (.inl (.inl hb3)), ?_, ?_⟩
      · have : ("\n" : Str).length = 1 := by decide +kernel
        rw [this]
        have := Nat.mul_le_mul_right 52 rl
        omega
      · rw [TL.join_eq]
        have := rows_len g
        have nl : ("\n" : Str).length = 1 := by decide +kernel
        refine ⟨_, _, rfl, rfl, ?_, q H3 k3⟩
        rw [nl, sizeLine_eq]
        omega
end
end Rr.K

set_option maxRecDepth 100000
set_option maxHeartbeats 4000000
namespace Rr.K
open PySem PySem.Spec PyProof.Rows L2
open GxR (TabG Tabbed)
open Evl (pss_cut)
section
variable {P : Program} {w : World} {K : PySem.W.Frag} {mg : Str → Option Value} {base : Heap}
theorem byN {H : Hp} {E : XK} {d : Addr} {S : List Addr} {D : Dk} {c : Cr} {q : Cr → Prop} (sD : Sound D) (hD : DkAt K H S d D) (hc : c ∈ D.line) (h : q c) : ByN K H E d S D c.name q :=
  ⟨isName_small (sD.ok c hc), hD, fun z => absurd (name_in hc) z, fun c' hc' e => by rw [name_one sD.nm hc' hc e]; exact h⟩
theorem _root_.Rr.Sound.after {D : Dk} (x : Sound D) : ∀ n, Sound (D.after n)
  | 0 => x
  | n + 1 => (x.after n).turn
theorem after_now (D : Dk) : ∀ n : Nat, (D.after n).now = D.now + n
  | 0 => by show D.now = _; simp
  | n + 1 => by
    show (D.after n).turn.now = _
    rw [turn_now, after_now D n]
    omega
theorem after_pr (D : Dk) : ∀ n : Nat, (D.after n).pace = D.pace ∧ (D.after n).room = D.room
  | 0 => ⟨rfl, rfl⟩
  | n + 1 => ⟨(turn_pr _).1.trans (after_pr D n).1, (turn_pr _).2.trans (after_pr D n).2⟩
def sp_whole : Sp := fun vs H Q _ => ∃ i : Int, vs = [.int i] ∧ Q (.bl true) H
theorem c__law_whole (T : Tx K mg base) : Cal P w K mg base 1 "_law_whole" sp_whole := by
  obtain ⟨fd, F⟩ := T.d__law_whole
  refine ⟨_, fd, ["_law_found"], okF (k := 0) F sc__law_whole (fun vs H Q E h => ?_) (fun A outer s H vs Q E hr h => ?_), T.r__law_whole, F.kp, F.bindsN fun _ _ _ _ _ _ us hl => match us, hl with | [_], _ => rfl⟩
  · obtain ⟨i, rfl, _⟩ := h
    rfl
  · have nd := sc__law_whole.nd
    obtain ⟨i, rfl, q⟩ := h
    refine ⟨_, (pss_one (ps_ret (pe_and (pe_callB call_isi (by rfl) T.m_isinstance (by decide +kernel) (pa_cons (pv 0) (pa_cons (pe_bltn (v := .ty "int") (by rfl) T.m_int (by decide +kernel) rfl) pa_nil))) (pe_one (pe_not (pe_callB call_isi (by rfl) T.m_isinstance (by decide +kernel) (pa_cons (pv 0) (pa_cons (pe_bltn (v := .ty "bool") (by rfl) T.m_bool (by decide +kernel) rfl) pa_nil)))))))), ?_⟩
    refine ⟨_, rfl, _, _, _, _, true, rfl, .ty "int", .base (.int i), kit_ty (by decide +kernel), true, rfl, iteT ?_⟩
    exact ⟨_, rfl, _, _, _, _, false, rfl, .ty "bool", .base (.int i), kit_ty (by decide +kernel), false, rfl, q⟩
def sp_texts (K : PySem.W.Frag) : Sp := fun vs H Q _ => ∃ (a b : Addr) (l : List (Option Str)), vs = [.ref a, .ref b] ∧ H a = some (.lst (l.map fun x => x.elim .non V.str)) ∧ H b = some (.lst (l.map fun x => x.elim .non V.str)) ∧ l.length ≤ 1000 ∧ Q (.bl true) H
theorem c__law_texts (T : Tx K mg base) : Cal P w K mg base 1 "_law_texts" (sp_texts K) := by
  obtain ⟨fd, F⟩ := T.d__law_texts
  refine ⟨_, fd, ["_law_found", "_law_due"], okF (k := 0) F sc__law_texts (fun vs H Q E h => ?_) (fun A outer s H vs Q E hr h => ?_), T.r__law_texts, F.kp, F.bindsN fun _ _ _ _ _ _ us hl => match us, hl with | [_, _], _ => rfl⟩
  · obtain ⟨a, b, l, rfl, _⟩ := h
    rfl
  · have nd := sc__law_texts.nd
    obtain ⟨a, b, l, rfl, ha, hb, hl, q⟩ := h
    refine ⟨_, (pss_cons (ps_if (PW.pt (pw_or (pt_not (pt_val (pe_callB call_isi (by rfl) T.m_isinstance (by decide +kernel) (pa_cons (pv 0) (pa_cons (pe_bltn (v := .ty "list") (by rfl) T.m_list (by decide +kernel) rfl) pa_nil))))) (pw_or1 (pt_cmpR op_ne (pe_callB call_len_seq (by rfl) T.m_len boot_len (pa_cons (pv 0) pa_nil)) (pe_callB call_len_seq (by rfl) T.m_len boot_len (pa_cons (pv 1) pa_nil)) (nomark _)))))
  (pss_one (ps_ret pe_bl))
  pss_nil)
  (pss_cons (ps_for (passes_of rfl) rfl (pi_range1 (by rfl) T.m_range (pa_cons (pe_callB call_len_seq (by rfl) T.m_len boot_len (pa_cons (pv 1) pa_nil)) pa_nil)) (pg_name (i := 2) nd rfl (Or.inl rfl))
  (pss_one (ps_if (pt_cmpR op_isN (pe_ix ix_list (pv 1) (pv 2) (fun _ _ => rfl)) pe_non (nomark _))
  (pss_one (ps_if (pt_cmpR op_notN (pe_ix ix_list (pv 0) (pv 2) (fun _ _ => rfl)) pe_non (nomark _))
  (pss_one (ps_ret pe_bl))
  pss_nil))
  (pss_one (ps_if (PW.pt (pw_or (pt_not (pt_val (pe_callB call_isi (by rfl) T.m_isinstance (by decide +kernel) (pa_cons (pe_ix ix_list (pv 0) (pv 2) (fun _ _ => rfl)) (pa_cons (pe_bltn (v := .ty "str") (by rfl) T.m_str (by decide +kernel) rfl) pa_nil))))) (pw_or1 (pt_cmpR op_ne (pe_ix ix_list (pv 0) (pv 2) (fun _ _ => rfl)) (pe_ix ix_list (pv 1) (pv 2) (fun _ _ => rfl)) (nomark _)))))
  (pss_one (ps_ret pe_bl))
  pss_nil)))))
  (pss_one (ps_ret pe_bl)))), ?_⟩
    refine ⟨_, rfl, _, _, _, _, true, rfl, .ty "list", .base (.lst ha), kit_ty (by decide +kernel), true, rfl, iteF ?_⟩
    refine ⟨_, rfl, a, _, rfl, .inl (.inl (.inl ha)), _, rfl, b, _, rfl, .inl (.inl (.inl hb)), rfl, _, rfl, ?_⟩
    rw [decide_eq_true (show V.int ((l.map fun x => x.elim V.non V.str).length : Int) = V.int ((l.map fun x => x.elim V.non V.str).length : Int) from rfl)]
    refine iteF ⟨_, rfl, b, _, rfl, .inl (.inl (.inl hb)), _, rfl, (by omega), (by rw [List.length_map]; omega), ?_⟩
    rw [List.length_map]
    refine for_it walk_range (fun i σ H' => H = H' ∧ ∃ v, σ = [some (.ref a), some (.ref b), v]) ⟨rfl, none, rfl⟩ (fun _ _ _ _ _ => trivial) ?_ ?_
    · rintro i v σ _ H2 hi ⟨rfl, v0, rfl⟩ ⟨rfl, rfl⟩
      have hi' : i < l.length := by
        have : i < ((l.length : Nat) : Int).toNat := by simpa using hi
        omega
      obtain ⟨x, hx⟩ : ∃ x, l[i]? = some x := ⟨_, List.getElem?_eq_getElem hi'⟩
      have hat : atI (l.map fun x => x.elim V.non V.str) (0 + (i : Int)) = some (x.elim V.non V.str) := by
        rw [Int.zero_add]
        exact atI_nat (by rw [List.getElem?_map, hx]; rfl)
      refine ⟨_, rfl, _, rfl, b, _, _, _, rfl, rfl, .inl (.inl hb), hat, rfl, _, rfl, ?_⟩
      cases x with
      | none => exact iteT ⟨_, rfl, _, rfl, a, _, _, _, rfl, rfl, .inl (.inl ha), hat, rfl, _, rfl, iteF ⟨rfl, _, rfl⟩⟩
      | some x =>
        refine iteF ⟨_, rfl, _, rfl, a, _, _, _, rfl, rfl, .inl (.inl ha), hat, _, _, _, _, true, rfl, .ty "str", .base (.str x), kit_ty (by decide +kernel), true, rfl, iteF ?_⟩
        refine ⟨_, rfl, _, rfl, a, _, _, _, rfl, rfl, .inl (.inl ha), hat, _, rfl, _, rfl, b, _, _, _, rfl, rfl, .inl (.inl hb), hat, rfl, _, rfl, ?_⟩
        rw [decide_eq_true (show (some x).elim V.non V.str = (some x).elim V.non V.str from rfl)]
        exact iteF ⟨rfl, _, rfl⟩
    · rintro σ _ ⟨rfl, v0, rfl⟩
      exact q
end
end Rr.K

set_option maxRecDepth 100000
set_option maxHeartbeats 4000000
namespace Rr.K
open PySem PySem.Spec PyProof.Rows L2
open L2H (SpP RoomH call_isP)
open GE (call_sumQ pe_intsQ)
open Evl (pss_cut)
section
variable {P : Program} {w : World} {K : PySem.W.Frag} {mg : Str → Option Value} {base : Heap}
def sp_word (K : PySem.W.Frag) : SpP := fun p vs H Q _ => ∃ (d : Str) (i : Nat), errs9[i]? = some d ∧ vs = [.ref p.1] ∧ Zc (.ref (He.ga K d)) none p.2 ∧ (∃ vs, p.2.data = .fields vs) ∧ ∀ (w : Str) H', words9[i]? = some w → Keep K [] H H' → Q (.str w) H'
theorem at5 {H : Hp} {a b c : Addr} {o o1 o2 : HO} (n1 : (L2.upd H a o) b = none) (n2 : (L2.upd (L2.upd H a o) b o1) c = none) : (L2.upd (L2.upd (L2.upd H a o) b o1) c o2) a = some o :=
  (upd_ne (ne_of_none ((upd_ne (ne_of_none upd_same n1)).trans upd_same) n2)).trans ((upd_ne (ne_of_none upd_same n1)).trans upd_same)
theorem c__law_word (T : Tx K mg base) : CalQ P w K mg base 1 "_law_word" (sp_word K) := by
  obtain ⟨fd, F⟩ := T.d__law_word
  refine ⟨_, fd, ["_law_e"], okQ (k := 0) F sc__law_word (fun p vs H Q E h => ?_) (fun A outer s H vs Q E p rs hot hc hr h => ?_), T.r__law_word, F.kp, F.bindsN fun _ _ _ _ _ _ us hl => match us, hl with | [_], _ => rfl⟩
  · obtain ⟨d, i, h1, rfl, _⟩ := h
    rfl
  · have nd := sc__law_word.nd
    obtain ⟨d, i, hd, rfl, hz, hf, q⟩ := h
    have e9 := ex9 T.x9 d (List.mem_of_getElem? hd)
    refine ⟨_, (pss_cons (ps_set (i := 1) nd rfl (Or.inl rfl) (pe_lst (pa_cons (pe_callB (call_isP e9.c hz hf List.mem_cons_self) (by rfl) T.m_isinstance (by decide +kernel) (pa_cons (pv 0) (pa_cons (pe_glob (v := .ref (He.ga K "NoName")) rfl T.r_NoName rfl) pa_nil))) (pa_cons (pe_callB (call_isP e9.c hz hf List.mem_cons_self) (by rfl) T.m_isinstance (by decide +kernel) (pa_cons (pv 0) (pa_cons (pe_glob (v := .ref (He.ga K "NoRank")) rfl T.r_NoRank rfl) pa_nil))) (pa_cons (pe_callB (call_isP e9.c hz hf List.mem_cons_self) (by rfl) T.m_isinstance (by decide +kernel) (pa_cons (pv 0) (pa_cons (pe_glob (v := .ref (He.ga K "NoSpan")) rfl T.r_NoSpan rfl) pa_nil))) (pa_cons (pe_callB (call_isP e9.c hz hf List.mem_cons_self) (by rfl) T.m_isinstance (by decide +kernel) (pa_cons (pv 0) (pa_cons (pe_glob (v := .ref (He.ga K "NoDesk")) rfl T.r_NoDesk rfl) pa_nil))) pa_nil))))))
  (pss_cons (ps_set (i := 1) nd rfl (Or.inl rfl) (pe_op op_cat (pv 1) (pe_lst (pa_cons (pe_callB (call_isP e9.c hz hf List.mem_cons_self) (by rfl) T.m_isinstance (by decide +kernel) (pa_cons (pv 0) (pa_cons (pe_glob (v := .ref (He.ga K "Known")) rfl T.r_Known rfl) pa_nil))) (pa_cons (pe_callB (call_isP e9.c hz hf List.mem_cons_self) (by rfl) T.m_isinstance (by decide +kernel) (pa_cons (pv 0) (pa_cons (pe_glob (v := .ref (He.ga K "Unknown")) rfl T.r_Unknown rfl) pa_nil))) (pa_cons (pe_callB (call_isP e9.c hz hf List.mem_cons_self) (by rfl) T.m_isinstance (by decide +kernel) (pa_cons (pv 0) (pa_cons (pe_glob (v := .ref (He.ga K "Full")) rfl T.r_Full rfl) pa_nil))) (pa_cons (pe_callB (call_isP e9.c hz hf List.mem_cons_self) (by rfl) T.m_isinstance (by decide +kernel) (pa_cons (pv 0) (pa_cons (pe_glob (v := .ref (He.ga K "NotReady")) rfl T.r_NotReady rfl) pa_nil))) pa_nil)))))))
  (pss_cons (ps_set (i := 1) nd rfl (Or.inl rfl) (pe_op op_cat (pv 1) (pe_lst (pa_cons (pe_callB (call_isP e9.c hz hf List.mem_cons_self) (by rfl) T.m_isinstance (by decide +kernel) (pa_cons (pv 0) (pa_cons (pe_glob (v := .ref (He.ga K "IsReady")) rfl T.r_IsReady rfl) pa_nil))) pa_nil))))
  (pss_cons (ps_if (PW.pt (pw_or (pt_not (pt_val (pe_callB (call_isP e9.c hz hf List.mem_cons_self) (by rfl) T.m_isinstance (by decide +kernel) (pa_cons (pv 0) (pa_cons (pe_bltn (v := .ty "ValueError") (by rfl) T.m_ValueError (by decide +kernel) rfl) pa_nil))))) (pw_or1 (pt_cmpR op_ne (pe_callB (call_sumQ hot hc (fun q hq => hq)) (by rfl) T.m_sum (by decide +kernel) (pa_cons (pe_intsQ hot hc (fun q hq => hq) (pv 1) T.m_int rfl (by decide +kernel) (by decide +kernel) (fun _ => rfl) rfl rfl) pa_nil)) pe_int (nomark _)))))
  (pss_one (ps_ret pe_str))
  pss_nil)
  (pss_one (ps_ret (pe_ix ix_list (pe_lst (pa_cons pe_str (pa_cons pe_str (pa_cons pe_str (pa_cons pe_str (pa_cons pe_str (pa_cons pe_str (pa_cons pe_str (pa_cons pe_str (pa_cons pe_str pa_nil)))))))))) (pe_bm PySem.F.plainAttrs_list PySem.F.slot_list_index PySem.F.type_list_index mt_index (pv 1) (pa_cons pe_bl pa_nil)) (fun _ _ => rfl)))))))), ?_⟩
    refine ⟨_, rfl, .ref (He.ga K "NoName"), .ref (He.ga K "NoName"), _, rfl, fun u h => h, e9.is "NoName" (by decide +kernel), _, rfl, .ref (He.ga K "NoRank"), .ref (He.ga K "NoRank"), _, rfl, fun u h => h, e9.is "NoRank" (by decide +kernel), _, rfl, .ref (He.ga K "NoSpan"), .ref (He.ga K "NoSpan"), _, rfl, fun u h => h, e9.is "NoSpan" (by decide +kernel), _, rfl, .ref (He.ga K "NoDesk"), .ref (He.ga K "NoDesk"), _, rfl, fun u h => h, e9.is "NoDesk" (by decide +kernel), (show 4 ≤ sizeLine by decide), fun g1 n1 => ?_⟩
    refine ⟨_, rfl, _, rfl, .ref (He.ga K "Known"), .ref (He.ga K "Known"), _, rfl, fun u h => h, e9.is "Known" (by decide +kernel), _, rfl, .ref (He.ga K "Unknown"), .ref (He.ga K "Unknown"), _, rfl, fun u h => h, e9.is "Unknown" (by decide +kernel), _, rfl, .ref (He.ga K "Full"), .ref (He.ga K "Full"), _, rfl, fun u h => h, e9.is "Full" (by decide +kernel), _, rfl, .ref (He.ga K "NotReady"), .ref (He.ga K "NotReady"), _, rfl, fun u h => h, e9.is "NotReady" (by decide +kernel), (show 4 ≤ sizeLine by decide), fun g2 n2 => ?_⟩
    refine ⟨g1, g2, _, _, rfl, rfl, (upd_ne (ne_of_none upd_same n2)).trans upd_same, upd_same, (show 4 + 4 ≤ sizeLine by decide), fun g3 n3 => ?_⟩
    refine ⟨_, rfl, _, rfl, .ref (He.ga K "IsReady"), .ref (He.ga K "IsReady"), _, rfl, fun u h => h, e9.is "IsReady" (by decide +kernel), (show 1 ≤ sizeLine by decide), fun g4 n4 => ?_⟩
    refine ⟨g3, g4, _, _, rfl, rfl, (upd_ne (ne_of_none upd_same n4)).trans upd_same, upd_same, (show 8 + 1 ≤ sizeLine by decide), fun g5 n5 => ?_⟩
    refine ⟨_, rfl, .ty "ValueError", .type "ValueError", true, rfl, fun u h => h, e9.v, _, rfl, iteF ⟨_, rfl, g5, [decide (d = ("NoName" : Str)), decide (d = ("NoRank" : Str)), decide (d = ("NoSpan" : Str)), decide (d = ("NoDesk" : Str)), decide (d = ("Known" : Str)), decide (d = ("Unknown" : Str)), decide (d = ("Full" : Str)), decide (d = ("NotReady" : Str)), decide (d = ("IsReady" : Str))], rfl, upd_same, (show 9 ≤ sizeLine by decide), fun g6 n6 => ⟨g6, ([decide (d = ("NoName" : Str)), decide (d = ("NoRank" : Str)), decide (d = ("NoSpan" : Str)), decide (d = ("NoDesk" : Str)), decide (d = ("Known" : Str)), decide (d = ("Unknown" : Str)), decide (d = ("Full" : Str)), decide (d = ("NotReady" : Str)), decide (d = ("IsReady" : Str))]).map (fun b => if b then 1 else 0), rfl, upd_same, ?_⟩⟩⟩
    have hs : (([decide (d = ("NoName" : Str)), decide (d = ("NoRank" : Str)), decide (d = ("NoSpan" : Str)), decide (d = ("NoDesk" : Str)), decide (d = ("Known" : Str)), decide (d = ("Unknown" : Str)), decide (d = ("Full" : Str)), decide (d = ("NotReady" : Str)), decide (d = ("IsReady" : Str))]).map (fun b => if b then (1 : Int) else 0)).sum = 1 ∧ ([decide (d = ("NoName" : Str)), decide (d = ("NoRank" : Str)), decide (d = ("NoSpan" : Str)), decide (d = ("NoDesk" : Str)), decide (d = ("Known" : Str)), decide (d = ("Unknown" : Str)), decide (d = ("Full" : Str)), decide (d = ("NotReady" : Str)), decide (d = ("IsReady" : Str))])[i]? = some true ∧ (∀ m, m < i → ([decide (d = ("NoName" : Str)), decide (d = ("NoRank" : Str)), decide (d = ("NoSpan" : Str)), decide (d = ("NoDesk" : Str)), decide (d = ("Known" : Str)), decide (d = ("Unknown" : Str)), decide (d = ("Full" : Str)), decide (d = ("NotReady" : Str)), decide (d = ("IsReady" : Str))])[m]? ≠ some true) ∧ ∃ w, words9[i]? = some w := by
      have hi : i < 9 := (List.getElem?_eq_some_iff.mp hd).1
      have h9 : i = 0 ∨ i = 1 ∨ i = 2 ∨ i = 3 ∨ i = 4 ∨ i = 5 ∨ i = 6 ∨ i = 7 ∨ i = 8 := by omega
      rcases h9 with rfl | rfl | rfl | rfl | rfl | rfl | rfl | rfl | rfl <;> (cases hd; refine ⟨by decide +kernel, by decide +kernel, fun m hm => ?_, _, rfl⟩; revert m; decide +kernel)
    obtain ⟨h1, h2, h3, w9, h4⟩ := hs
    refine ⟨rfl, _, rfl, ?_⟩
    rw [decide_eq_true (by exact congrArg V.int h1)]
    refine iteF ⟨(show 9 ≤ sizeLine by decide), fun g7 n7 => ?_⟩
    refine ⟨_, rfl, ?_⟩
    refine ⟨.inl ⟨rfl, _, .inl (.inl (at5 n6 n7))⟩, g5, ([decide (d = ("NoName" : Str)), decide (d = ("NoRank" : Str)), decide (d = ("NoSpan" : Str)), decide (d = ("NoDesk" : Str)), decide (d = ("Known" : Str)), decide (d = ("Unknown" : Str)), decide (d = ("Full" : Str)), decide (d = ("NotReady" : Str)), decide (d = ("IsReady" : Str))]).map V.bl, .bl true, i, .bl true, rfl, rfl, .inl (.inl (at5 n6 n7)), rfl, rfl, ?_, by decide +kernel, ?_, ?_⟩
    · rw [List.getElem?_map, h2]
      rfl
    · intro m z' hm e
      rw [List.getElem?_map] at e
      cases e1 : ([decide (d = ("NoName" : Str)), decide (d = ("NoRank" : Str)), decide (d = ("NoSpan" : Str)), decide (d = ("NoDesk" : Str)), decide (d = ("Known" : Str)), decide (d = ("Unknown" : Str)), decide (d = ("Full" : Str)), decide (d = ("NotReady" : Str)), decide (d = ("IsReady" : Str))])[m]? with
      | none =>
        rw [e1] at e
        cases e
      | some b =>
        rw [e1] at e
        cases e
        cases b with
        | true => exact absurd e1 (h3 m hm)
        | false => decide +kernel
    · refine ⟨g7, words9.map V.str, (i : Int), .str w9, rfl, rfl, .inl (.inl upd_same), atI_nat (by rw [List.getElem?_map, h4]; rfl), q w9 _ h4 ?_⟩
      exact ((((((Keep.new n1).trans (Keep.new n2)).trans (Keep.new n3)).trans (Keep.new n4)).trans (Keep.new n5)).trans (Keep.new n6)).trans (Keep.new n7)
end
end Rr.K

set_option maxRecDepth 100000
set_option maxHeartbeats 4000000
/-! a text times a whole number -/
namespace Rr
open PySem PySem.Spec PyProof.Rows L2
theorem op_mul_str {X : Cx} : OpR X (binaryOp .Mult) (fun x y H Q => ∃ (z : Str) (i : Int), x = .str z ∧ y = .int i ∧ MulOk z i ∧ Q (.str (Txt.mul z i)) H) := by
  intro pins s σ H x y v u Q I rx ry h
  obtain ⟨z, i, rfl, rfl, ok, q⟩ := h
  obtain ⟨t, rfl⟩ := rx
  obtain ⟨t', rfl⟩ := ry
  exact SB.mul ok fun t'' k => ⟨.str _, H, I.tok k, ⟨t'', rfl⟩, q⟩
theorem mulOk_z : MulOk "z" 12 := by
  unfold MulOk
  decide +kernel
theorem mul_z : Txt.mul "z" 12 = SX.S (List.replicate 12 122) := by decide +kernel
theorem mulOk_b : MulOk "b" 13 := by
  unfold MulOk
  decide +kernel
theorem mul_b : Txt.mul "b" 13 = SX.S (List.replicate 13 98) := by decide +kernel
theorem mulOk_x : MulOk "x" 13 := by
  unfold MulOk
  decide +kernel
theorem mul_x : Txt.mul "x" 13 = SX.S (List.replicate 13 120) := by decide +kernel
end Rr

set_option maxRecDepth 100000
set_option maxHeartbeats 4000000
/-! k11: rows that are put wrong -/
namespace Rr
open PySem PySem.Spec PyProof.Rows L2
def heads (p r n : Str) : List (List Str) := [
  [("desk" : Str), ("0" : Str), r, n],
  [("desk" : Str), ("1001" : Str), r, n],
  [("desk" : Str), p, ("0" : Str), n],
  [("desk" : Str), p, ("61" : Str), n],
  [("desk" : Str), p, r, (("0" : Str) ++ n)],
  [("desk" : Str), p, r, ("-1" : Str)],
  [("desk" : Str), p, r, (("1" : Str) ++ (Txt.mul "0" 12))],
  [("desk" : Str), (("+" : Str) ++ p), r, n],
  [("Desk" : Str), p, r, n],
  [("desk" : Str), p, r],
  [("desk" : Str), p, r, n, ("0" : Str)],
  [("" : Str), p, r, n],
  [("desk" : Str), ("" : Str), p, r, n],
  [("desk" : Str), p, r, n, ("" : Str)],
  [("desk" : Str), p, (r ++ ("_0" : Str)), n],
  [("desk" : Str), (("0" : Str) ++ p), r, n],
  [("desk" : Str), p, (("0" : Str) ++ r), n],
  [(("desk\t" : Str) ++ p), r, n],
  [("desk" : Str), p, r, (n ++ ("\t" : Str))],
  [("desk" : Str), (("-" : Str) ++ p), r, n],
  [("desk" : Str), p, r, (("+" : Str) ++ n)],
  [("desk" : Str), p, r, (n ++ ("_0" : Str))]]
def rowsB (n r s t : Str) (now : Int) : List (List Str) := [
  [n, ("100" : Str), s, t],
  [n, (("0" : Str) ++ r), s, t],
  [n, ("" : Str), s, t],
  [(n ++ ("-" : Str)), r, s, t],
  [n, r, ("Ready" : Str), t],
  [n, r, ("ready" : Str), numT (now + 1)],
  [n, r, ("asleep" : Str), ("0" : Str)],
  [n, r, ("asleep" : Str), ("1001" : Str)],
  [n, r, ("waiting" : Str), ("A" : Str)],
  [n, r, s],
  [n, r, s, t, t],
  [("" : Str), n, r, s, t],
  [("" : Str)],
  [n, r, s, t, ("" : Str)],
  [n, ("" : Str), r, s, t],
  [n, (("+" : Str) ++ r), s, t],
  [n, r, ("ready" : Str), ("00" : Str)],
  [n, r, ("asleep" : Str), ("01" : Str)],
  [n, r, ("ready" : Str), ("-0" : Str)],
  [n, r, ("" : Str), t],
  [n, r, ("asleep" : Str), ("5 " : Str)],
  [n, ("1_1" : Str), s, t],
  [((n ++ ("\t" : Str)) ++ r), s, t],
  [n, r, s, (t ++ ("\t" : Str))],
  [n, (("-" : Str) ++ r), s, t],
  [n, r, ("waiting" : Str), ("" : Str)],
  [n, r, (s ++ ("\t" : Str)), t],
  [n, r, ("asleep" : Str), ("-5" : Str)],
  [n, r, ("ready" : Str), ("+0" : Str)],
  [n, r, ("asleep" : Str), ("+5" : Str)],
  [n, r, ("asleep" : Str), ("1_0" : Str)],
  [n, r, ("ready" : Str), ("0_0" : Str)],
  [n, r, ("asleep" : Str), (("1" : Str) ++ (Txt.mul "0" 12))],
  [(Txt.mul "b" 13), r, s, t],
  [n, r, ("waiting" : Str), (Txt.mul "b" 13)],
  [n, r, ("waiting" : Str), ("b-" : Str)]]
/-- lists of words, each in its own place -/
def LsA (H : Hp) (ps : List (Addr × List Str)) : Prop := ∀ p ∈ ps, H p.1 = some (.lst (p.2.map V.str))
theorem LsA.nil {H : Hp} : LsA H [] := fun p hp => (nomatch hp)
theorem upd_at {H : Hp} {g : Addr} {o : HO} (_ : H g = none) : (L2.upd H g o) g = some o := upd_same
theorem LsA.new {H : Hp} {ps : List (Addr × List Str)} {g : Addr} {o : HO} (a : LsA H ps) (n : H g = none) : LsA (L2.upd H g o) ps := fun p hp => (upd_ne (ne_of_none (a p hp) n)).trans (a p hp)
theorem LsA.add {H : Hp} {ps : List (Addr × List Str)} {g : Addr} {ws : List Str} (a : LsA H ps) (n : H g = none) : LsA (L2.upd H g (.lst (ws.map V.str))) (ps ++ [(g, ws)]) := fun p hp => by
  rcases List.mem_append.mp hp with h | h
  · exact a.new n p h
  · rw [List.mem_singleton.mp h]
    exact upd_same
theorem ls_at {ps : List (Addr × List Str)} {z : Int} (h0 : 0 ≤ z) (h : z < ps.length) : ∃ p, ps[z.toNat]? = some p ∧ p ∈ ps ∧ atI (ps.map fun p => V.ref p.1) z = some (.ref p.1) := by
  have hl : z.toNat < ps.length := by omega
  refine ⟨ps[z.toNat], List.getElem?_eq_getElem hl, List.getElem_mem hl, ?_⟩
  have e := atI_nat (xs := ps.map fun p => V.ref p.1) (j := z.toNat) (v := .ref ps[z.toNat].1) (by rw [List.getElem?_map, List.getElem?_eq_getElem hl]; rfl)
  rw [Int.toNat_of_nonneg h0] at e
  exact e
theorem mulOk_o12 : MulOk "0" 12 := by
  unfold MulOk
  decide +kernel
theorem mulOk_b13 : MulOk "b" 13 := mulOk_b
theorem fit2 {a b : Str} (n m : Nat) (ha : a.length ≤ n) (hb : b.length ≤ m) (h : n + m ≤ 16777216 := by decide) : a.length + b.length ≤ sizeLine := by
  rw [sizeLine_eq]
  omega
end Rr

set_option maxRecDepth 100000
set_option maxHeartbeats 4000000
/-! k11: what is put wrong makes no desk -/
namespace Rr
open PySem PySem.Spec PyProof.Rows L2
open TL (tl tl_append len_tl tl_join joinL)
theorem Wd.app {a b : Str} (ha : Wd a) (hb : Wd b) (h : a.length + b.length ≤ 40) : Wd (a ++ b) := by
  refine ⟨by rw [Str.length_append]; exact h, fun c hc => ?_⟩
  rw [tl_append] at hc
  rcases List.mem_append.mp hc with h | h
  · exact ha.2 c h
  · exact hb.2 c h
theorem wd_const {a : Str} (h : (decide (a.length ≤ 40) && (tl a).all (fun c => decide (c ≠ 32 ∧ c ≠ 10 ∧ c < 128))) = true) : Wd a := by
  rw [Bool.and_eq_true] at h
  exact ⟨of_decide_eq_true h.1, fun c hc => of_decide_eq_true (List.all_eq_true.mp h.2 c hc)⟩
theorem nb_l {a b : Str} {c : Nat} (h : c ∈ tl a) (n : ¬ (48 ≤ c ∧ c ≤ 57)) : NumBad (a ++ b) := .inr (.inl ⟨c, by rw [tl_append]; exact List.mem_append_left _ h, n⟩)
theorem nb_r {a b : Str} {c : Nat} (h : c ∈ tl b) (n : ¬ (48 ≤ c ∧ c ≤ 57)) : NumBad (a ++ b) := .inr (.inl ⟨c, by rw [tl_append]; exact List.mem_append_right _ h, n⟩)
theorem nb_0 {b : Str} (h : 1 ≤ b.length) : NumBad ("0" ++ b) := by
  refine .inr (.inr ⟨by rw [tl_append]; rfl, fun e => ?_⟩)
  have := congrArg Str.length e
  rw [Str.length_append] at this
  have h1 : ("0" : Str).length = 1 := by decide +kernel
  omega
theorem nb_c {a : Str} (h : (!(decide (1 ≤ a.length ∧ a.length ≤ 12) && (tl a).all (fun c => decide (48 ≤ c ∧ c ≤ 57))) || (decide ((tl a)[0]? = some 48) && decide (a ≠ "0"))) = true) : NumBad a := by
  rcases (Bool.or_eq_true _ _).mp h with h | h
  · have h : (decide (1 ≤ a.length ∧ a.length ≤ 12) && (tl a).all (fun c => decide (48 ≤ c ∧ c ≤ 57))) = false := by
      cases e : (decide (1 ≤ a.length ∧ a.length ≤ 12) && (tl a).all (fun c => decide (48 ≤ c ∧ c ≤ 57))) with
      | false => rfl
      | true =>
        rw [e] at h
        cases h
    rcases (Bool.and_eq_false_iff).mp h with h | h
    · exact .inl (of_decide_eq_false h)
    · refine .inr (.inl ?_)
      obtain ⟨c, hc, e⟩ := List.all_eq_false.mp h
      exact ⟨c, hc, fun z => e (decide_eq_true z)⟩
  · rw [Bool.and_eq_true] at h
    exact .inr (.inr ⟨of_decide_eq_true h.1, of_decide_eq_true h.2⟩)
theorem ng {i : Int} (h0 : 0 ≤ i) (h1 : i < 1000000000000) : NumGood (numT i) i := ⟨rfl, h0, h1⟩
theorem ng_c {a : Str} {i : Int} (e : a = numT i) (h0 : 0 ≤ i) (h1 : i < 1000000000000) : NumGood a i := ⟨e, h0, h1⟩
theorem name_app_r {a b : Str} {c : Nat} (h : c ∈ tl b) (n : isSign c = false) : isName (a ++ b) = false := by
  cases e : isName (a ++ b) with
  | false => rfl
  | true =>
    unfold isName at e
    rw [Bool.and_eq_true] at e
    have := List.all_eq_true.mp e.2 c (by show c ∈ tl (a ++ b); rw [tl_append]; exact List.mem_append_right _ h)
    rw [n] at this
    cases this
/-! ### the head -/
theorem heads_bad {P R N : Int} (hP : 1 ≤ P ∧ P ≤ 1000) (hR : 1 ≤ R ∧ R ≤ 60) (hN : 0 ≤ N ∧ N < 1000000000000) : ∀ ws ∈ heads (numT P) (numT R) (numT N), RowW ws ∧ HeadBad ws := by
  obtain ⟨wp, lp, dp, _⟩ := num_ok (i := P) (by omega) (by omega)
  obtain ⟨wr, lr, dr, _⟩ := num_ok (i := R) (by omega) (by omega)
  obtain ⟨wn, ln, dn, _⟩ := num_ok hN.1 hN.2
  have gp : NumGood (numT P) P := ng (by omega) (by omega)
  have gr : NumGood (numT R) R := ng (by omega) (by omega)
  have gn : NumGood (numT N) N := ng hN.1 hN.2
  have bp := wp.1
  have br := wr.1
  have bn := wn.1
  have wp := wp.wd
  have wr := wr.wd
  have wn := wn.wd
  generalize numT P = p at *
  generalize numT R = r at *
  generalize numT N = n at *
  have D : Wd "desk" := wd_const (by decide +kernel)
  have E : Wd "" := wd_const (by decide +kernel)
  have lD : ("desk" : Str).length = 4 := by decide +kernel
  have l1 : ∀ {a : Str} {k : Nat}, a.length = k → k ≤ 5 → ∀ {b : Str}, b.length ≤ 12 → a.length + b.length ≤ 40 := fun h1 h2 {b} h3 => by omega
  have row : ∀ {ws : List Str}, ws ≠ [] → ws.length ≤ 5 → (∀ w ∈ ws, Wd w) → RowW ws := fun a b c => ⟨a, b, c⟩
  have all4 : ∀ {a b c d : Str}, Wd a → Wd b → Wd c → Wd d → RowW [a, b, c, d] := fun {a b c d} h1 h2 h3 h4 => ⟨by simp, by simp, fun w hw => by
    rcases List.mem_cons.mp hw with rfl | hw
    · exact h1
    rcases List.mem_cons.mp hw with rfl | hw
    · exact h2
    rcases List.mem_cons.mp hw with rfl | hw
    · exact h3
    rw [List.mem_singleton.mp hw]
    exact h4⟩
  have all3 : ∀ {a b c : Str}, Wd a → Wd b → Wd c → RowW [a, b, c] := fun {a b c} h1 h2 h3 => ⟨by simp, by simp, fun w hw => by
    rcases List.mem_cons.mp hw with rfl | hw
    · exact h1
    rcases List.mem_cons.mp hw with rfl | hw
    · exact h2
    rw [List.mem_singleton.mp hw]
    exact h3⟩
  have all5 : ∀ {a b c d e : Str}, Wd a → Wd b → Wd c → Wd d → Wd e → RowW [a, b, c, d, e] := fun {a b c d e} h1 h2 h3 h4 h5 => ⟨by simp, by simp, fun w hw => by
    rcases List.mem_cons.mp hw with rfl | hw
    · exact h1
    rcases List.mem_cons.mp hw with rfl | hw
    · exact h2
    rcases List.mem_cons.mp hw with rfl | hw
    · exact h3
    rcases List.mem_cons.mp hw with rfl | hw
    · exact h4
    rw [List.mem_singleton.mp hw]
    exact h5⟩
  have four : ∀ {a b c d : Str}, HeadBad4 a b c d → HeadBad [a, b, c, d] := fun h => .inr ⟨_, _, _, _, rfl, h⟩
  have cl : ∀ {a b : Str} {k : Nat}, Wd a → a.length = k → k ≤ 5 → Wd b → b.length ≤ 12 → Wd (a ++ b) := fun h1 h2 h3 h4 h5 => h1.app h4 (by omega)
  have cr : ∀ {a b : Str} {k : Nat}, Wd b → b.length = k → k ≤ 5 → Wd a → a.length ≤ 12 → Wd (a ++ b) := fun h1 h2 h3 h4 h5 => h4.app h1 (by omega)
  unfold heads
  refine List.forall_mem_cons.mpr ⟨⟨all4 D (wd_const (by decide +kernel)) wr wn, four (.inr (.inr ⟨0, ng_c (by decide +kernel) (by decide) (by decide), .inr ⟨R, gr, .inl fun z => by omega⟩⟩))⟩, ?_⟩
  refine List.forall_mem_cons.mpr ⟨⟨all4 D (wd_const (by decide +kernel)) wr wn, four (.inr (.inr ⟨1001, ng_c (by decide +kernel) (by decide) (by decide), .inr ⟨R, gr, .inl fun z => by omega⟩⟩))⟩, ?_⟩
  refine List.forall_mem_cons.mpr ⟨⟨all4 D wp (wd_const (by decide +kernel)) wn, four (.inr (.inr ⟨P, gp, .inr ⟨0, ng_c (by decide +kernel) (by decide) (by decide), .inl fun z => by omega⟩⟩))⟩, ?_⟩
  refine List.forall_mem_cons.mpr ⟨⟨all4 D wp (wd_const (by decide +kernel)) wn, four (.inr (.inr ⟨P, gp, .inr ⟨61, ng_c (by decide +kernel) (by decide) (by decide), .inl fun z => by omega⟩⟩))⟩, ?_⟩
  refine List.forall_mem_cons.mpr ⟨⟨all4 D wp wr (cl (a := "0") (k := 1) (wd_const (by decide +kernel)) (by decide +kernel) (by decide) wn bn), four (.inr (.inr ⟨P, gp, .inr ⟨R, gr, .inr (nb_0 ln)⟩⟩))⟩, ?_⟩
  refine List.forall_mem_cons.mpr ⟨⟨all4 D wp wr (wd_const (by decide +kernel)), four (.inr (.inr ⟨P, gp, .inr ⟨R, gr, .inr (nb_c (by decide +kernel))⟩⟩))⟩, ?_⟩
  refine List.forall_mem_cons.mpr ⟨⟨all4 D wp wr (wd_const (by decide +kernel)), four (.inr (.inr ⟨P, gp, .inr ⟨R, gr, .inr (nb_c (by decide +kernel))⟩⟩))⟩, ?_⟩
  refine List.forall_mem_cons.mpr ⟨⟨all4 D (cl (a := "+") (k := 1) (wd_const (by decide +kernel)) (by decide +kernel) (by decide) wp bp) wr wn, four (.inr (.inl (nb_l (c := 43) (by decide +kernel) (by decide))))⟩, ?_⟩
  refine List.forall_mem_cons.mpr ⟨⟨all4 (wd_const (by decide +kernel)) wp wr wn, four (.inl (by decide +kernel))⟩, ?_⟩
  refine List.forall_mem_cons.mpr ⟨⟨all3 D wp wr, .inl (by simp)⟩, ?_⟩
  refine List.forall_mem_cons.mpr ⟨⟨all5 D wp wr wn (wd_const (by decide +kernel)), .inl (by simp)⟩, ?_⟩
  refine List.forall_mem_cons.mpr ⟨⟨all4 E wp wr wn, four (.inl (by decide +kernel))⟩, ?_⟩
  refine List.forall_mem_cons.mpr ⟨⟨all5 D E wp wr wn, .inl (by simp)⟩, ?_⟩
  refine List.forall_mem_cons.mpr ⟨⟨all5 D wp wr wn E, .inl (by simp)⟩, ?_⟩
  refine List.forall_mem_cons.mpr ⟨⟨all4 D wp (cr (b := "_0") (k := 2) (wd_const (by decide +kernel)) (by decide +kernel) (by decide) wr br) wn, four (.inr (.inr ⟨P, gp, .inl (nb_r (c := 95) (by decide +kernel) (by decide))⟩))⟩, ?_⟩
  refine List.forall_mem_cons.mpr ⟨⟨all4 D (cl (a := "0") (k := 1) (wd_const (by decide +kernel)) (by decide +kernel) (by decide) wp bp) wr wn, four (.inr (.inl (nb_0 lp)))⟩, ?_⟩
  refine List.forall_mem_cons.mpr ⟨⟨all4 D wp (cl (a := "0") (k := 1) (wd_const (by decide +kernel)) (by decide +kernel) (by decide) wr br) wn, four (.inr (.inr ⟨P, gp, .inl (nb_0 lr)⟩))⟩, ?_⟩
  refine List.forall_mem_cons.mpr ⟨⟨all3 (cl (a := "desk\t") (k := 5) (wd_const (by decide +kernel)) (by decide +kernel) (by decide) wp bp) wr wn, .inl (by simp)⟩, ?_⟩
  refine List.forall_mem_cons.mpr ⟨⟨all4 D wp wr (cr (b := "\t") (k := 1) (wd_const (by decide +kernel)) (by decide +kernel) (by decide) wn bn), four (.inr (.inr ⟨P, gp, .inr ⟨R, gr, .inr (nb_r (c := 9) (by decide +kernel) (by decide))⟩⟩))⟩, ?_⟩
  refine List.forall_mem_cons.mpr ⟨⟨all4 D (cl (a := "-") (k := 1) (wd_const (by decide +kernel)) (by decide +kernel) (by decide) wp bp) wr wn, four (.inr (.inl (nb_l (c := 45) (by decide +kernel) (by decide))))⟩, ?_⟩
  refine List.forall_mem_cons.mpr ⟨⟨all4 D wp wr (cl (a := "+") (k := 1) (wd_const (by decide +kernel)) (by decide +kernel) (by decide) wn bn), four (.inr (.inr ⟨P, gp, .inr ⟨R, gr, .inr (nb_l (c := 43) (by decide +kernel) (by decide))⟩⟩))⟩, ?_⟩
  refine List.forall_mem_cons.mpr ⟨⟨all4 D wp wr (cr (b := "_0") (k := 2) (wd_const (by decide +kernel)) (by decide +kernel) (by decide) wn bn), four (.inr (.inr ⟨P, gp, .inr ⟨R, gr, .inr (nb_r (c := 95) (by decide +kernel) (by decide))⟩⟩))⟩, ?_⟩
  exact fun ws h => (nomatch h)
end Rr

set_option maxRecDepth 100000
set_option maxHeartbeats 4000000
namespace Rr
open PySem PySem.Spec PyProof.Rows L2
open TL (tl tl_append len_tl tl_join joinL)
def WsLen (ws : List Str) : Prop := ws.length ≤ 5 ∧ ∀ w ∈ ws, w.length ≤ 40
theorem RowW.len {ws : List Str} (h : RowW ws) : WsLen ws := ⟨h.2.1, fun w hw => (h.2.2 w hw).1⟩
theorem tabS (st : Stt) : st.word ++ "\t" ≠ "ready" ∧ st.word ++ "\t" ≠ "asleep" ∧ st.word ++ "\t" ≠ "waiting" := by
  cases st with
  | rdy s => exact (show ("ready" : Str) ++ "\t" ≠ "ready" ∧ ("ready" : Str) ++ "\t" ≠ "asleep" ∧ ("ready" : Str) ++ "\t" ≠ "waiting" by decide +kernel)
  | slp s => exact (show ("asleep" : Str) ++ "\t" ≠ "ready" ∧ ("asleep" : Str) ++ "\t" ≠ "asleep" ∧ ("asleep" : Str) ++ "\t" ≠ "waiting" by decide +kernel)
  | wtg b => exact (show ("waiting" : Str) ++ "\t" ≠ "ready" ∧ ("waiting" : Str) ++ "\t" ≠ "asleep" ∧ ("waiting" : Str) ++ "\t" ≠ "waiting" by decide +kernel)
/-- one more blank -/
theorem join_blank (a b c : Str) : Str.join " " [a, b, c, "5 "] = Str.join " " [a, b, c, "5", ""] := by
  refine TL.ext_tl ?_
  simp only [tl_join, List.map_cons, List.map_nil, joinL]
  have e1 : tl ("5 " : Str) = tl ("5" : Str) ++ (tl (" " : Str) ++ tl ("" : Str)) := by decide +kernel
  rw [e1]
theorem rows_bad {D : Dk} {c : Cr} (h0 : 0 ≤ D.now) (h1 : D.now < 1000000000000) (hn : isName c.name = true) (hr9 : 0 ≤ c.rank ∧ c.rank ≤ 99) (hs : GoodSt D.now c.st) :
    ∀ ws ∈ rowsB c.name (numT c.rank) c.st.word (c.st.told D.now) D.now, ∃ ws', WsLen ws ∧ Str.join " " ws = Str.join " " ws' ∧ RowW ws' ∧ SeatBad D ws' := by
  obtain ⟨wr, lr, dr, _⟩ := num_ok hr9.1 (show c.rank < 1000000000000 by omega)
  have gr : NumGood (numT c.rank) c.rank := ng hr9.1 (by omega)
  have wn := name_word hn
  have ws := word_ok c.st
  have wt := told_ok h1 hs
  have bn := wn.1
  have br := wr.1
  have bs := ws.1
  have bt := wt.1
  have wn := wn.wd
  have wr := wr.wd
  have ws := ws.wd
  have wt := wt.wd
  have E : Wd "" := wd_const (by decide +kernel)
  have tg : c.st.word = "ready" → ∃ j, NumGood (c.st.told D.now) j := fun e => by
    obtain ⟨n, r, st⟩ := c
    cases st with
    | rdy s =>
      obtain ⟨g1, g2⟩ : 0 ≤ s ∧ s ≤ D.now := hs
      exact ⟨D.now - s, rfl, by omega, by omega⟩
    | slp s => exact absurd e (show ¬ ("asleep" : Str) = "ready" by decide +kernel)
    | wtg b => exact absurd e (show ¬ ("waiting" : Str) = "ready" by decide +kernel)
  have enterBad : ∀ {n r : Str} {i : Int}, NumGood r i → ¬ EnterOk D n i → SeatBad4 D n r c.st.word (c.st.told D.now) := fun {n r i} gi ne => by
    by_cases e : c.st.word = "ready"
    · obtain ⟨j, gj⟩ := tg e
      exact .inr ⟨i, gi, .inl ⟨e, .inr ⟨j, gj, .inr ne⟩⟩⟩
    · exact .inr ⟨i, gi, .inr ⟨e, fun z => absurd z ne⟩⟩
  have tail : ∀ {s t : Str}, s ≠ "ready" → TailBad s t → SeatBad4 D c.name (numT c.rank) s t := fun {s t} h b => .inr ⟨c.rank, gr, .inr ⟨h, fun _ => b⟩⟩
  have rdyB : ∀ {t : Str}, NumBad t → SeatBad4 D c.name (numT c.rank) "ready" t := fun {t} b => .inr ⟨c.rank, gr, .inl ⟨rfl, .inl b⟩⟩
  have now1 : SeatBad4 D c.name (numT c.rank) "ready" (numT (D.now + 1)) := by
    by_cases e : D.now + 1 < 1000000000000
    · exact .inr ⟨c.rank, gr, .inl ⟨rfl, .inr ⟨D.now + 1, ng (by omega) e, .inl (by omega)⟩⟩⟩
    · have e : D.now + 1 = 1000000000000 := by omega
      rw [e]
      exact rdyB (nb_c (by decide +kernel))
  have tab22 : (c.name ++ ("\t" : Str)).length + (numT c.rank).length ≤ 40 := by
    rw [Str.length_append]
    have : ("\t" : Str).length = 1 := by decide +kernel
    omega
  have wnow : Wd (numT (D.now + 1)) := by
    by_cases e : D.now + 1 < 1000000000000
    · exact (num_ok (by omega) e).1.wd
    · have e : D.now + 1 = 1000000000000 := by omega
      rw [e]
      exact wd_const (by decide +kernel)
  have tabT : SeatBad4 D c.name (numT c.rank) c.st.word (c.st.told D.now ++ "\t") := by
    obtain ⟨n, r, st⟩ := c
    cases st with
    | rdy s => exact rdyB (nb_r (c := 9) (by decide +kernel) (by decide))
    | slp s => exact tail (show ("asleep" : Str) ≠ "ready" by decide +kernel) (.inl ⟨rfl, .inl (nb_r (c := 9) (by decide +kernel) (by decide))⟩)
    | wtg b => exact tail (show ("waiting" : Str) ≠ "ready" by decide +kernel) (.inr (.inl ⟨rfl, name_app_r (c := 9) (by decide +kernel) (by decide +kernel)⟩))
  have all4 : ∀ {a b c d : Str}, Wd a → Wd b → Wd c → Wd d → RowW [a, b, c, d] := fun {a b c d} h1 h2 h3 h4 => ⟨by simp, by simp, fun w hw => by
    rcases List.mem_cons.mp hw with rfl | hw
    · exact h1
    rcases List.mem_cons.mp hw with rfl | hw
    · exact h2
    rcases List.mem_cons.mp hw with rfl | hw
    · exact h3
    rw [List.mem_singleton.mp hw]
    exact h4⟩
  have all3 : ∀ {a b c : Str}, Wd a → Wd b → Wd c → RowW [a, b, c] := fun {a b c} h1 h2 h3 => ⟨by simp, by simp, fun w hw => by
    rcases List.mem_cons.mp hw with rfl | hw
    · exact h1
    rcases List.mem_cons.mp hw with rfl | hw
    · exact h2
    rw [List.mem_singleton.mp hw]
    exact h3⟩
  have all5 : ∀ {a b c d e : Str}, Wd a → Wd b → Wd c → Wd d → Wd e → RowW [a, b, c, d, e] := fun {a b c d e} h1 h2 h3 h4 h5 => ⟨by simp, by simp, fun w hw => by
    rcases List.mem_cons.mp hw with rfl | hw
    · exact h1
    rcases List.mem_cons.mp hw with rfl | hw
    · exact h2
    rcases List.mem_cons.mp hw with rfl | hw
    · exact h3
    rcases List.mem_cons.mp hw with rfl | hw
    · exact h4
    rw [List.mem_singleton.mp hw]
    exact h5⟩
  have four : ∀ {a b d e : Str}, SeatBad4 D a b d e → SeatBad D [a, b, d, e] := fun h => .inr ⟨_, _, _, _, rfl, h⟩
  have cl : ∀ {a b : Str} {k : Nat}, Wd a → a.length = k → k ≤ 5 → Wd b → b.length ≤ 12 → Wd (a ++ b) := fun h1 h2 h3 h4 h5 => h1.app h4 (by omega)
  have cr : ∀ {a b : Str} {k : Nat}, Wd b → b.length = k → k ≤ 5 → Wd a → a.length ≤ 12 → Wd (a ++ b) := fun h1 h2 h3 h4 h5 => h4.app h1 (by omega)
  have one : ∀ {ws : List Str}, RowW ws → SeatBad D ws → ∃ ws', WsLen ws ∧ Str.join " " ws = Str.join " " ws' ∧ RowW ws' ∧ SeatBad D ws' := fun {ws} h b => ⟨ws, h.len, rfl, h, b⟩
  unfold rowsB
  refine List.forall_mem_cons.mpr ⟨one (all4 wn (wd_const (by decide +kernel)) ws wt) (four (enterBad (i := 100) (ng_c (by decide +kernel) (by decide) (by decide)) (fun z => by have := z.2.1; omega))), ?_⟩
  refine List.forall_mem_cons.mpr ⟨one (all4 wn (cl (a := "0") (k := 1) (wd_const (by decide +kernel)) (by decide +kernel) (by decide) wr br) ws wt) (four (.inl (nb_0 lr))), ?_⟩
  refine List.forall_mem_cons.mpr ⟨one (all4 wn (wd_const (by decide +kernel)) ws wt) (four (.inl (nb_c (by decide +kernel)))), ?_⟩
  refine List.forall_mem_cons.mpr ⟨one (all4 (cr (b := "-") (k := 1) (wd_const (by decide +kernel)) (by decide +kernel) (by decide) wn bn) wr ws wt) (four (enterBad (i := c.rank) gr (fun z => by have := z.1; rw [name_app_r (c := 45) (by decide +kernel) (by decide +kernel)] at this; cases this))), ?_⟩
  refine List.forall_mem_cons.mpr ⟨one (all4 wn wr (wd_const (by decide +kernel)) wt) (four (tail (by decide +kernel) (.inr (.inr ⟨(by decide +kernel), (by decide +kernel)⟩)))), ?_⟩
  refine List.forall_mem_cons.mpr ⟨one (all4 wn wr (wd_const (by decide +kernel)) wnow) (four now1), ?_⟩
  refine List.forall_mem_cons.mpr ⟨one (all4 wn wr (wd_const (by decide +kernel)) (wd_const (by decide +kernel))) (four (tail (by decide +kernel) (.inl ⟨rfl, .inr ⟨0, ng_c (by decide +kernel) (by decide) (by decide), by decide⟩⟩))), ?_⟩
  refine List.forall_mem_cons.mpr ⟨one (all4 wn wr (wd_const (by decide +kernel)) (wd_const (by decide +kernel))) (four (tail (by decide +kernel) (.inl ⟨rfl, .inr ⟨1001, ng_c (by decide +kernel) (by decide) (by decide), by decide⟩⟩))), ?_⟩
  refine List.forall_mem_cons.mpr ⟨one (all4 wn wr (wd_const (by decide +kernel)) (wd_const (by decide +kernel))) (four (tail (by decide +kernel) (.inr (.inl ⟨rfl, (by decide +kernel)⟩)))), ?_⟩
  refine List.forall_mem_cons.mpr ⟨one (all3 wn wr ws) (.inl (by simp)), ?_⟩
  refine List.forall_mem_cons.mpr ⟨one (all5 wn wr ws wt wt) (.inl (by simp)), ?_⟩
  refine List.forall_mem_cons.mpr ⟨one (all5 E wn wr ws wt) (.inl (by simp)), ?_⟩
  refine List.forall_mem_cons.mpr ⟨one (⟨by simp, by simp, fun w hw => by rw [List.mem_singleton.mp hw]; exact E⟩) (.inl (by simp)), ?_⟩
  refine List.forall_mem_cons.mpr ⟨one (all5 wn wr ws wt E) (.inl (by simp)), ?_⟩
  refine List.forall_mem_cons.mpr ⟨one (all5 wn E wr ws wt) (.inl (by simp)), ?_⟩
  refine List.forall_mem_cons.mpr ⟨one (all4 wn (cl (a := "+") (k := 1) (wd_const (by decide +kernel)) (by decide +kernel) (by decide) wr br) ws wt) (four (.inl (nb_l (c := 43) (by decide +kernel) (by decide)))), ?_⟩
  refine List.forall_mem_cons.mpr ⟨one (all4 wn wr (wd_const (by decide +kernel)) (wd_const (by decide +kernel))) (four (rdyB (nb_c (by decide +kernel)))), ?_⟩
  refine List.forall_mem_cons.mpr ⟨one (all4 wn wr (wd_const (by decide +kernel)) (wd_const (by decide +kernel))) (four (tail (by decide +kernel) (.inl ⟨rfl, .inl (nb_c (by decide +kernel))⟩))), ?_⟩
  refine List.forall_mem_cons.mpr ⟨one (all4 wn wr (wd_const (by decide +kernel)) (wd_const (by decide +kernel))) (four (rdyB (nb_c (by decide +kernel)))), ?_⟩
  refine List.forall_mem_cons.mpr ⟨one (all4 wn wr E wt) (four (tail (by decide +kernel) (.inr (.inr ⟨(by decide +kernel), (by decide +kernel)⟩)))), ?_⟩
  refine List.forall_mem_cons.mpr ⟨⟨[c.name, numT c.rank, "asleep", "5", ""], ⟨by simp, fun w hw => by
    rcases List.mem_cons.mp hw with rfl | hw
    · exact wn.1
    rcases List.mem_cons.mp hw with rfl | hw
    · exact wr.1
    rcases List.mem_cons.mp hw with rfl | hw
    · exact (show ("asleep" : Str).length ≤ 40 by decide +kernel)
    rw [List.mem_singleton.mp hw]
    exact (show ("5 " : Str).length ≤ 40 by decide +kernel)⟩, join_blank _ _ _, all5 wn wr (wd_const (by decide +kernel)) (wd_const (by decide +kernel)) E, .inl (by simp)⟩, ?_⟩
  refine List.forall_mem_cons.mpr ⟨one (all4 wn (wd_const (by decide +kernel)) ws wt) (four (.inl (nb_c (by decide +kernel)))), ?_⟩
  refine List.forall_mem_cons.mpr ⟨one (all3 (((cr (b := "\t") (k := 1) (wd_const (by decide +kernel)) (by decide +kernel) (by decide) wn bn)).app wr tab22) ws wt) (.inl (by simp)), ?_⟩
  refine List.forall_mem_cons.mpr ⟨one (all4 wn wr ws (cr (b := "\t") (k := 1) (wd_const (by decide +kernel)) (by decide +kernel) (by decide) wt bt)) (four tabT), ?_⟩
  refine List.forall_mem_cons.mpr ⟨one (all4 wn (cl (a := "-") (k := 1) (wd_const (by decide +kernel)) (by decide +kernel) (by decide) wr br) ws wt) (four (.inl (nb_l (c := 45) (by decide +kernel) (by decide)))), ?_⟩
  refine List.forall_mem_cons.mpr ⟨one (all4 wn wr (wd_const (by decide +kernel)) E) (four (tail (by decide +kernel) (.inr (.inl ⟨rfl, (by decide +kernel)⟩)))), ?_⟩
  refine List.forall_mem_cons.mpr ⟨one (all4 wn wr (cr (b := "\t") (k := 1) (wd_const (by decide +kernel)) (by decide +kernel) (by decide) ws bs) wt) (four (tail (tabS c.st).1 (.inr (.inr (tabS c.st).2)))), ?_⟩
  refine List.forall_mem_cons.mpr ⟨one (all4 wn wr (wd_const (by decide +kernel)) (wd_const (by decide +kernel))) (four (tail (by decide +kernel) (.inl ⟨rfl, .inl (nb_c (by decide +kernel))⟩))), ?_⟩
  refine List.forall_mem_cons.mpr ⟨one (all4 wn wr (wd_const (by decide +kernel)) (wd_const (by decide +kernel))) (four (rdyB (nb_c (by decide +kernel)))), ?_⟩
  refine List.forall_mem_cons.mpr ⟨one (all4 wn wr (wd_const (by decide +kernel)) (wd_const (by decide +kernel))) (four (tail (by decide +kernel) (.inl ⟨rfl, .inl (nb_c (by decide +kernel))⟩))), ?_⟩
  refine List.forall_mem_cons.mpr ⟨one (all4 wn wr (wd_const (by decide +kernel)) (wd_const (by decide +kernel))) (four (tail (by decide +kernel) (.inl ⟨rfl, .inl (nb_c (by decide +kernel))⟩))), ?_⟩
  refine List.forall_mem_cons.mpr ⟨one (all4 wn wr (wd_const (by decide +kernel)) (wd_const (by decide +kernel))) (four (rdyB (nb_c (by decide +kernel)))), ?_⟩
  refine List.forall_mem_cons.mpr ⟨one (all4 wn wr (wd_const (by decide +kernel)) (wd_const (by decide +kernel))) (four (tail (by decide +kernel) (.inl ⟨rfl, .inl (nb_c (by decide +kernel))⟩))), ?_⟩
  refine List.forall_mem_cons.mpr ⟨one (all4 (wd_const (by decide +kernel)) wr ws wt) (four (enterBad (i := c.rank) gr (fun z => by have := z.1; rw [show isName (Txt.mul "b" 13) = false by decide +kernel] at this; cases this))), ?_⟩
  refine List.forall_mem_cons.mpr ⟨one (all4 wn wr (wd_const (by decide +kernel)) (wd_const (by decide +kernel))) (four (tail (by decide +kernel) (.inr (.inl ⟨rfl, (by decide +kernel)⟩)))), ?_⟩
  refine List.forall_mem_cons.mpr ⟨one (all4 wn wr (wd_const (by decide +kernel)) (wd_const (by decide +kernel))) (four (tail (by decide +kernel) (.inr (.inl ⟨rfl, (by decide +kernel)⟩)))), ?_⟩
  exact fun ws h => (nomatch h)
end Rr

set_option maxRecDepth 100000
set_option maxHeartbeats 4000000
/-! k11: texts that are put wrong -/
namespace Rr
open PySem PySem.Spec PyProof.Rows L2
open TL (tl tl_append len_tl tl_join joinL)
def cutD (D : Dk) (j : Nat) : Dk := { D with line := D.line.take j }
def Spoilt (W : List (List Str)) : Prop := ∃ W', W.map (Str.join " ") = W'.map (Str.join " ") ∧ TextOk W' ∧ ReadBad W' ∧ (∀ ws ∈ W, WsLen ws) ∧ W.length ≤ 70
theorem cut_good {D : Dk} (g : GoodD D) (j : Nat) : GoodD (cutD D j) := by
  have sub : ∀ {c : Cr}, c ∈ (cutD D j).line → c ∈ D.line := fun h => List.mem_of_mem_take h
  refine ⟨g.pr, g.t0, g.t1, ?_, g.nm.sublist ((List.take_sublist j D.line).map _), fun c h => g.ok c (sub h), fun c h => g.rk c (sub h), fun c h => g.st c (sub h)⟩
  have := g.len
  show ((D.line.take j).length : Int) ≤ D.room
  rw [List.length_take]
  omega
theorem wssD_len (D : Dk) : (wssD D).length = D.line.length + 1 := by
  unfold wssD
  rw [List.length_cons, List.length_map]
theorem len61 {D : Dk} (g : GoodD D) : (wssD D).length ≤ 61 := by
  rw [wssD_len]
  have := g.len
  have := g.pr.2.2
  omega
theorem wssD_row {D : Dk} (g : GoodD D) : ∀ ws ∈ wssD D, RowW ws := (wssD_ok g).2.2
theorem wssD_cut (D : Dk) (j : Nat) : wssD (cutD D j) = (wssD D).take (j + 1) := by
  unfold wssD cutD
  rw [List.take_succ_cons, List.map_take]
  rfl
theorem bad_at {D : Dk} {ws ws' : List Str} {more : List (List Str)} (g : GoodD D) (b : SeatBad D ws') (r : RowW ws') (e : Str.join " " ws = Str.join " " ws') (l : WsLen ws) (m : ∀ x ∈ more, RowW x) (n : (wssD D).length + 1 + more.length ≤ 70) : Spoilt (wssD D ++ ws :: more) := by
  refine ⟨wssD D ++ ws' :: more, ?_, ⟨by simp [wssD], ?_, fun x hx => ?_⟩, .inr ⟨D, ws', more, g, rfl, b⟩, fun x hx => ?_, ?_⟩
  · rw [List.map_append, List.map_append, List.map_cons, List.map_cons, e]
  · rw [List.length_append, List.length_cons]
    omega
  · rcases List.mem_append.mp hx with h | h
    · exact wssD_row g x h
    · rcases List.mem_cons.mp h with rfl | h
      · exact r
      · exact m x h
  · rcases List.mem_append.mp hx with h | h
    · exact (wssD_row g x h).len
    · rcases List.mem_cons.mp h with rfl | h
      · exact l
      · exact (m x h).len
  · rw [List.length_append, List.length_cons]
    omega
theorem sp_head {D : Dk} (g : GoodD D) {ws : List Str} (h : RowW ws ∧ HeadBad ws) : Spoilt (ws :: (wssD D).tail) := by
  have t : ∀ x ∈ ws :: (wssD D).tail, RowW x := fun x hx => by
    rcases List.mem_cons.mp hx with rfl | hx
    · exact h.1
    · exact wssD_row g x (List.mem_of_mem_tail hx)
  have n : (ws :: (wssD D).tail).length ≤ 70 := by
    rw [List.length_cons, List.length_tail, wssD_len]
    have := g.len
    have := g.pr.2.2
    omega
  exact ⟨ws :: (wssD D).tail, rfl, ⟨by simp, n, t⟩, .inl ⟨ws, _, rfl, h.2⟩, fun x hx => (t x hx).len, n⟩
theorem all4w {a b c d : Str} (h1 : Wd a) (h2 : Wd b) (h3 : Wd c) (h4 : Wd d) : RowW [a, b, c, d] := ⟨by simp, by simp, fun w hw => by
  rcases List.mem_cons.mp hw with rfl | hw
  · exact h1
  rcases List.mem_cons.mp hw with rfl | hw
  · exact h2
  rcases List.mem_cons.mp hw with rfl | hw
  · exact h3
  rw [List.mem_singleton.mp hw]
  exact h4⟩
theorem sp_none {D : Dk} (g : GoodD D) : Spoilt (wssD D ++ [[("ab" : Str), "7", "asleep", "0"]]) := by
  have r : RowW [("ab" : Str), "7", "asleep", "0"] := all4w (wd_const (by decide +kernel)) (wd_const (by decide +kernel)) (wd_const (by decide +kernel)) (wd_const (by decide +kernel))
  refine bad_at g (.inr ⟨_, _, _, _, rfl, .inr ⟨7, ng_c (by decide +kernel) (by decide) (by decide), .inr ⟨by decide +kernel, fun _ => .inl ⟨rfl, .inr ⟨0, ng_c (by decide +kernel) (by decide) (by decide), by decide⟩⟩⟩⟩⟩) r rfl r.len (fun x h => (nomatch h)) ?_
  have := len61 g
  simp
  omega
theorem sp_row {D : Dk} (g : GoodD D) {j : Nat} {c : Cr} (hc : D.line[j]? = some c) {ws : List Str} (h : ws ∈ rowsB c.name (numT c.rank) c.st.word (c.st.told D.now) D.now) : Spoilt ((wssD D).take (j + 1) ++ ws :: (wssD D).drop (j + 2)) := by
  have hm := List.mem_of_getElem? hc
  obtain ⟨ws', l, e, r, b⟩ := rows_bad (D := cutD D j) g.t0 g.t1 (g.ok c hm) (g.rk c hm) (g.st c hm) ws h
  rw [← wssD_cut]
  refine bad_at (cut_good g j) b r e l (fun x hx => wssD_row g x (List.mem_of_mem_drop hx)) ?_
  have h1 := len61 g
  have h2 := len61 (cut_good g j)
  rw [wssD_len] at h1
  rw [wssD_cut, List.length_take, List.length_drop, wssD_len]
  omega
theorem sp_twice {D : Dk} (g : GoodD D) (j : Nat) : Spoilt ((wssD D).take (j + 1) ++ headD D :: (wssD D).drop (j + 1)) := by
  have r := headD_row g
  obtain ⟨⟨p0, p1⟩, r0, r1⟩ := id g.pr
  obtain ⟨_, l, d, _⟩ := num_ok (i := D.room) (by omega) (by omega)
  have ne : ∀ {a : Str}, (tl a).any (fun c => decide (57 < c)) = true → numT D.room ≠ a := fun {a} h e => by
    obtain ⟨c, hc, e2⟩ := List.any_eq_true.mp h
    have := (d c (by rw [e]; exact hc)).2
    have := of_decide_eq_true e2
    omega
  rw [← wssD_cut]
  refine bad_at (cut_good g j) (.inr ⟨_, _, _, _, rfl, .inr ⟨D.pace, ng (by omega) (by omega), .inr ⟨ne (by decide +kernel), fun _ => .inr (.inr ⟨ne (by decide +kernel), ne (by decide +kernel)⟩)⟩⟩⟩) r rfl r.len (fun x hx => wssD_row g x (List.mem_of_mem_drop hx)) ?_
  have h1 := len61 g
  rw [wssD_len] at h1
  rw [wssD_cut, List.length_take, List.length_drop, wssD_len]
  omega
theorem sp_again {D : Dk} (g : GoodD D) {c : Cr} (hc : c ∈ D.line) : Spoilt (wssD D ++ [wordsC D.now c]) := by
  have r := wordsC_row g hc
  have hs := g.st c hc
  have hr9 := g.rk c hc
  have ne : ¬ EnterOk D c.name c.rank := fun z => z.2.2.1 (List.mem_map_of_mem hc)
  refine bad_at g (.inr ⟨_, _, _, _, rfl, .inr ⟨c.rank, ng hr9.1 (by omega), ?_⟩⟩) r rfl r.len (fun x h => (nomatch h)) ?_
  · obtain ⟨n, rk, st⟩ := c
    have t1 := g.t1
    cases st with
    | rdy s =>
      obtain ⟨g1, g2⟩ : 0 ≤ s ∧ s ≤ D.now := hs
      exact .inl ⟨rfl, .inr ⟨D.now - s, ng (by omega) (by omega), .inr ne⟩⟩
    | slp s => exact .inr ⟨show ("asleep" : Str) ≠ "ready" by decide +kernel, fun z => absurd z ne⟩
    | wtg b => exact .inr ⟨show ("waiting" : Str) ≠ "ready" by decide +kernel, fun z => absurd z ne⟩
  · have := len61 g
    simp
    omega
theorem sp_less {D : Dk} (g : GoodD D) (h : D.line ≠ []) : Spoilt ([("desk" : Str), numT D.pace, numT ((D.line.length : Int) - 1), numT D.now] :: (wssD D).tail) := by
  obtain ⟨⟨p0, p1⟩, r0, r1⟩ := id g.pr
  have hl : 0 < D.line.length := by
    cases e : D.line with
    | nil => exact absurd e h
    | cons _ _ => simp
  have gl := g.len
  by_cases one : D.line.length = 1
  · refine sp_head g ⟨?_, .inr ⟨_, _, _, _, rfl, .inr (.inr ⟨D.pace, ng (by omega) (by omega), .inr ⟨(D.line.length : Int) - 1, ng (by omega) (by omega), .inl fun z => by omega⟩⟩)⟩⟩
    exact all4w (wd_const (by decide +kernel)) (num_ok (by omega) (by omega)).1.wd (num_ok (by omega) (by omega)).1.wd (num_ok g.t0 g.t1).1.wd
  · obtain ⟨c, hc⟩ : ∃ c, D.line[D.line.length - 1]? = some c := ⟨_, List.getElem?_eq_getElem (by omega)⟩
    have hm := List.mem_of_getElem? hc
    have eL : D.line = D.line.take (D.line.length - 1) ++ [c] := by
      have e4 := (List.take_append_drop (D.line.length - 1) D.line).symm
      rw [List.drop_eq_getElem_cons (by omega), (List.getElem?_eq_some_iff.mp hc).2, List.drop_eq_nil_of_le (by omega)] at e4
      exact e4
    have g2 := cut_good g (D.line.length - 1)
    have gD : GoodD { cutD D (D.line.length - 1) with room := (D.line.length : Int) - 1 } := by
      refine ⟨⟨⟨p0, p1⟩, by show 1 ≤ (D.line.length : Int) - 1; omega, by show (D.line.length : Int) - 1 ≤ 60; omega⟩, g2.t0, g2.t1, ?_, g2.nm, g2.ok, g2.rk, g2.st⟩
      show ((D.line.take (D.line.length - 1)).length : Int) ≤ (D.line.length : Int) - 1
      rw [List.length_take]
      omega
    have e : [("desk" : Str), numT D.pace, numT ((D.line.length : Int) - 1), numT D.now] :: (wssD D).tail = wssD { cutD D (D.line.length - 1) with room := (D.line.length : Int) - 1 } ++ [wordsC D.now c] := by
      show _ :: D.line.map (wordsC D.now) = _ :: ((D.line.take (D.line.length - 1)).map (wordsC D.now) ++ [wordsC D.now c])
      congr 1
      conv => lhs; rw [eL]
      rw [List.map_append]
      rfl
    rw [e]
    have r := wordsC_row g hm
    have hs := g.st c hm
    have hr9 := g.rk c hm
    have ne : ¬ EnterOk { cutD D (D.line.length - 1) with room := (D.line.length : Int) - 1 } c.name c.rank := fun z => by
      have z4 : ((D.line.take (D.line.length - 1)).length : Int) < (D.line.length : Int) - 1 := z.2.2.2
      rw [List.length_take] at z4
      omega
    refine bad_at gD (.inr ⟨_, _, _, _, rfl, .inr ⟨c.rank, ng hr9.1 (by omega), ?_⟩⟩) r rfl r.len (fun x h => (nomatch h)) ?_
    · obtain ⟨n, rk, st⟩ := c
      have t1 := g.t1
      cases st with
      | rdy s =>
        obtain ⟨g1, g2⟩ : 0 ≤ s ∧ s ≤ D.now := hs
        exact .inl ⟨rfl, .inr ⟨D.now - s, ng (by omega) (by omega), .inr ne⟩⟩
      | slp s => exact .inr ⟨show ("asleep" : Str) ≠ "ready" by decide +kernel, fun z => absurd z ne⟩
      | wtg b => exact .inr ⟨show ("waiting" : Str) ≠ "ready" by decide +kernel, fun z => absurd z ne⟩
    · exact Nat.le_trans (Nat.add_le_add_right (len61 gD) 1) (by decide)
/-! ### the text of rows -/
def textS (W : List (List Str)) : Str := Str.join "" (W.map fun ws => Str.join " " ws ++ "\n")
theorem joinL_nil : ∀ l : List (List Nat), joinL [] l = l.flatten
  | [] => rfl
  | [p] => by simp [joinL]
  | p :: q :: r => by
    show p ++ ([] ++ joinL [] (q :: r)) = _
    rw [joinL_nil (q :: r)]
    simp
theorem joinL_nl : ∀ (l : List (List Nat)), l ≠ [] → joinL [10] l ++ [10] = (l.map (· ++ [10])).flatten
  | [], h => absurd rfl h
  | [p], _ => by simp [joinL]
  | p :: q :: r, _ => by
    show (p ++ ([10] ++ joinL [10] (q :: r))) ++ [10] = _
    rw [List.append_assoc, List.append_assoc, joinL_nl (q :: r) (by simp)]
    simp
theorem textS_eq {W : List (List Str)} (h : W ≠ []) : textS W = textW W := by
  refine TL.ext_tl ?_
  unfold textS textW
  rw [tl_join, tl_append, tl_join]
  show joinL [] _ = joinL [10] _ ++ [10]
  rw [joinL_nil, joinL_nl _ (by simp [h]), List.map_map, List.map_map, List.map_map]
  congr 1
  refine List.map_congr_left fun ws _ => ?_
  show tl (Str.join " " ws ++ "\n") = tl (Str.join " " ws) ++ [10]
  rw [tl_append]
  rfl
theorem textS_map {W W' : List (List Str)} (h : W.map (Str.join " ") = W'.map (Str.join " ")) : textS W = textS W' := by
  unfold textS
  congr 1
  have := congrArg (List.map fun x : Str => x ++ "\n") h
  rw [List.map_map, List.map_map] at this
  exact this
end Rr

set_option maxRecDepth 100000
set_option maxHeartbeats 4000000
namespace Rr.K
open PySem PySem.Spec PyProof.Rows L2
open GxR (TabG Tabbed)
open Evl (pss_cut)
theorem pe_joinK {X : Cx} {K : PySem.W.Frag} {o e : Expr} {to te : TE} {apos pos : Pos} (hK : X.K = K) (ho : PE X o to) (he : PE X e te) (hs : starEach [e] X.env = [(false, eval e X.env)] := by rfl) (hbase : attributeBase o "join" X.env (eval o X.env) = eval o X.env := by rfl) (hline : (apos.endLine == pos.line) = true := by rfl) :
    PE X (.Call (.Attribute o "join" apos) [e] [] pos) (tM1 (fun x xs H Q => ∃ a p, ∃ ys : List Str, x = .str a ∧ xs = [.ref p] ∧ (SqL K H p (ys.map V.str) ∨ SqT K H p (ys.map V.str)) ∧ (ys.map (·.length)).sum + ys.length * a.length ≤ 16777216 ∧ Q (.str (Txt.join a ys)) H) to te) := by
  subst hK
  exact pe_join ho he hs hbase hline
/-- a list of rows of words -/
def RwAt (H : Hp) (a : Addr) (W : List (List Str)) : Prop := ∃ ps : List (Addr × List Str), W = ps.map (·.2) ∧ H a = some (.lst (ps.map fun p => V.ref p.1)) ∧ LsA H ps
section
variable {P : Program} {w : World} {K : PySem.W.Frag} {mg : Str → Option Value} {base : Heap}
theorem _root_.Rr.LsA.keep {H H' : Hp} {ps : List (Addr × List Str)} {S : List Addr} (a : LsA H ps) (k : Keep K S H H') (n : ∀ p ∈ ps, p.1 ∉ S) : LsA H' ps := fun p hp => k.lst (a p hp) (n p hp)
theorem RwAt.keep0 {H H' : Hp} {a : Addr} {W : List (List Str)} (x : RwAt H a W) (k : Keep K [] H H') : RwAt H' a W := by
  obtain ⟨ps, e, h, l⟩ := x
  exact ⟨ps, e, k.lst h List.not_mem_nil, fun p hp => k.lst (l p hp) List.not_mem_nil⟩
def sp_lcaller (K : PySem.W.Frag) : Sp := fun vs H Q _ => ∃ (a : Addr) (ns : List Int) (k now : Int), vs = [.ref a, .int k, .int now] ∧ SqL K H a (ns.map V.int) ∧ (0 ≤ k ∧ k < 60) ∧ (0 ≤ now ∧ now < 1000000000000) ∧
  ∀ (c : Cr) b H', Keep K [] H H' → c.name = nameBy k (cell ns 0) → (0 ≤ c.rank ∧ c.rank ≤ 99) → GoodSt now c.st → H' b = some (.lst ((wordsC now c).map V.str)) → Q (.ref b) H'
theorem c__law_caller (T : Tx K mg base) : Cal P w K mg base 3 "_law_caller" (sp_lcaller K) := by
  have c__law_cell_at : Cal P w K mg base 1 "_law_cell_at" (sp_cell K) := c__law_cell_at T
  have c__law_mix : Cal P w K mg base 1 "_law_mix" sp_mix := c__law_mix T
  have c__law_name_by : Cal P w K mg base 2 "_law_name_by" (sp_name_by K) := c__law_name_by T
  obtain ⟨fd, F⟩ := T.d__law_caller
  refine ⟨_, fd, ["_law_script", "_law_k", "_law_now"], okF (k := 2) F sc__law_caller (fun vs H Q E h => ?_) (fun A outer s H vs Q E hr h => ?_), T.r__law_caller, F.kp, F.bindsN fun _ _ _ _ _ _ us hl => match us, hl with | [_, _, _], _ => rfl⟩
  · obtain ⟨a, ns, k, now, rfl, _⟩ := h
    rfl
  · have nd := sc__law_caller.nd
    obtain ⟨a, ns, k, now, rfl, hS, hk, hnow, q⟩ := h
    refine ⟨_, (pss_cons (ps_set (i := 3) nd rfl (Or.inl rfl) (pe_op op_add (pf c__law_cell_at hr (by decide) (by rfl) p0 (pa_cons (pv 0) (pa_cons (pe_op op_add pe_int (pe_op op_mod (pv 1) pe_int)) pa_nil))) (pe_op op_mul pe_int (pv 1))))
  (pss_cons (ps_set (i := 4) nd rfl (Or.inl rfl) (pe_lst (pa_cons (pf c__law_name_by hr (by decide) (by rfl) p0 (pa_cons (pv 1) (pa_cons (pf c__law_cell_at hr (by decide) (by rfl) p0 (pa_cons (pv 0) (pa_cons pe_int pa_nil))) pa_nil))) (pa_cons (pe_callTy call_str_int (by rfl) T.m_str (by decide +kernel) (pa_cons (pf c__law_mix hr (by decide) (by rfl) p0 (pa_cons (pv 3) (pa_cons pe_int (pa_cons pe_int pa_nil)))) pa_nil)) pa_nil))))
  (pss_cons (ps_set (i := 5) nd rfl (Or.inl rfl) (pf c__law_mix hr (by decide) (by rfl) p0 (pa_cons (pv 3) (pa_cons pe_int (pa_cons pe_int pa_nil)))))
  (pss_cons (ps_if (pt_cmpR op_eq (pv 5) pe_int (nomark _))
  (pss_one (ps_ret (pe_op op_cat (pv 4) (pe_lst (pa_cons pe_str (pa_cons (pe_callTy call_str_int (by rfl) T.m_str (by decide +kernel) (pa_cons (pe_ix ix_list (pe_lst (pa_cons pe_int (pa_cons (pv 2) (pa_cons (pe_callB (call_min2 rfl) (by rfl) T.m_min (by decide +kernel) (pa_cons (pv 2) (pa_cons (pf c__law_mix hr (by decide) (by rfl) p0 (pa_cons (pv 3) (pa_cons pe_int (pa_cons pe_int pa_nil)))) pa_nil))) pa_nil)))) (pf c__law_mix hr (by decide) (by rfl) p0 (pa_cons (pv 3) (pa_cons pe_int (pa_cons pe_int pa_nil)))) (fun _ _ => rfl)) pa_nil)) pa_nil))))))
  pss_nil)
  (pss_cons (ps_if (pt_cmpR op_eq (pv 5) pe_int (nomark _))
  (pss_one (ps_ret (pe_op op_cat (pv 4) (pe_lst (pa_cons pe_str (pa_cons (pe_callTy call_str_int (by rfl) T.m_str (by decide +kernel) (pa_cons (pe_ix ix_list (pe_lst (pa_cons pe_int (pa_cons pe_int (pa_cons (pe_op op_add pe_int (pf c__law_mix hr (by decide) (by rfl) p0 (pa_cons (pv 3) (pa_cons pe_int (pa_cons pe_int pa_nil))))) pa_nil)))) (pf c__law_mix hr (by decide) (by rfl) p0 (pa_cons (pv 3) (pa_cons pe_int (pa_cons pe_int pa_nil)))) (fun _ _ => rfl)) pa_nil)) pa_nil))))))
  pss_nil)
  (pss_one (ps_ret (pe_op op_cat (pv 4) (pe_lst (pa_cons pe_str (pa_cons (pf c__law_name_by hr (by decide) (by rfl) p0 (pa_cons (pf c__law_mix hr (by decide) (by rfl) p0 (pa_cons (pv 3) (pa_cons pe_int (pa_cons pe_int pa_nil)))) (pa_cons (pf c__law_cell_at hr (by decide) (by rfl) p0 (pa_cons (pv 0) (pa_cons pe_int pa_nil))) pa_nil))) pa_nil))))))))))), ?_⟩
    refine ⟨_, rfl, _, rfl, _, _, rfl, rfl, (show (0 : Int) < 30 by decide), _, _, rfl, rfl, a, ns, _, rfl, hS, (show 0 ≤ 7 + k % 30 by omega), _, rfl, _, _, rfl, rfl, .inl ⟨by decide, by decide⟩, _, _, rfl, rfl, ?_⟩
    dsimp only
    generalize cell ns (7 + k % 30) + 17 * k = C
    have hm := mix_nn (c := C) (p := 10009) (m := 100) (by decide)
    have lm : Mod (mix C 10009 100) := ⟨by omega, by omega⟩
    refine ⟨_, rfl, _, rfl, a, ns, 0, rfl, hS, by decide, k, _, rfl, hk.1, by omega, fun H1 k1 => ⟨_, rfl, _, 10009, 100, rfl, by decide, by decide, _, rfl, lm.log, (show 2 ≤ sizeLine by decide), fun wd nw => ?_⟩⟩
    have kw : Keep K [] H1 (L2.upd H1 wd (.lst [.str (nameBy k (cell ns 0)), .str (numT (mix C 10009 100))])) := Keep.new nw
    have hw : (L2.upd H1 wd (.lst [.str (nameBy k (cell ns 0)), .str (numT (mix C 10009 100))])) wd = some (.lst [.str (nameBy k (cell ns 0)), .str (numT (mix C 10009 100))]) := upd_same
    generalize L2.upd H1 wd (.lst [.str (nameBy k (cell ns 0)), .str (numT (mix C 10009 100))]) = H2 at kw hw ⊢
    have k2 := k1.trans kw
    have hS2 := k2.seq hS fun _ _ => List.not_mem_nil
    have rk : 0 ≤ mix C 10009 100 ∧ mix C 10009 100 ≤ 99 := by omega
    generalize mix C 10009 100 = rkk at hw rk ⊢
    refine ⟨_, rfl, _, 10037, 3, rfl, by decide, by decide, ?_⟩
    refine ⟨_, rfl, rfl, _, rfl, ite2 (fun _ => ?_) (fun _ => ⟨_, rfl, rfl, _, rfl, ite2 (fun _ => ?_) (fun _ => ?_)⟩)⟩
    · have h3 := mix_nn (c := C) (p := 10061) (m := 3) (by decide)
      have h9 := mix_nn (c := C) (p := 10039) (m := 900) (by decide)
      refine ⟨_, rfl, _, rfl, _, rfl, _, rfl, _, 10039, 900, rfl, by decide, by decide, _, _, rfl, (show 3 ≤ sizeLine by decide), fun g ng => ?_⟩
      obtain ⟨v, hv, ev⟩ : ∃ v : Int, (0 ≤ v ∧ v ≤ now) ∧ atI [V.int 0, V.int now, V.int (if mix C 10039 900 < now then mix C 10039 900 else now)] (mix C 10061 3) = some (.int v) := by
        have h4 : mix C 10061 3 = 0 ∨ mix C 10061 3 = 1 ∨ mix C 10061 3 = 2 := by omega
        rcases h4 with e | e | e <;> rw [e]
        · exact ⟨0, by omega, rfl⟩
        · exact ⟨now, by omega, rfl⟩
        · exact ⟨_, by split <;> omega, rfl⟩
      have mv : Mod v := ⟨by omega, by omega⟩
      refine ⟨_, rfl, _, 10061, 3, rfl, by decide, by decide, g, _, _, .int v, rfl, rfl, .inl (.inl upd_same), ev, _, rfl, mv.log, (show 2 ≤ sizeLine by decide), fun h nh => ?_⟩
      have kg : Keep K [] H2 (L2.upd (L2.upd H2 g (.lst [V.int 0, V.int now, V.int (if mix C 10039 900 < now then mix C 10039 900 else now)])) h (.lst [.str "ready", .str (numT v)])) := (Keep.new ng).trans (Keep.new nh)
      refine ⟨wd, h, _, _, rfl, rfl, kg.lst hw List.not_mem_nil, upd_same, (show 2 + 2 ≤ sizeLine by decide), fun b nb => ?_⟩
      refine q ⟨nameBy k (cell ns 0), rkk, .rdy (now - v)⟩ b _ ((k2.trans kg).trans (Keep.new nb)) rfl rk ⟨by omega, by omega⟩ (upd_same.trans ?_)
      have e : wordsC now ⟨nameBy k (cell ns 0), rkk, .rdy (now - v)⟩ = [nameBy k (cell ns 0), numT rkk, "ready", numT v] := by
        show [nameBy k (cell ns 0), numT rkk, "ready", numT (now - (now - v))] = _
        rw [show now - (now - v) = v by omega]
      rw [e]
      rfl
    · have h3 := mix_nn (c := C) (p := 10061) (m := 3) (by decide)
      have h9 := mix_nn (c := C) (p := 10039) (m := 1000) (by decide)
      refine ⟨_, rfl, _, rfl, _, 10039, 1000, rfl, by decide, by decide, _, _, rfl, rfl, (show 3 ≤ sizeLine by decide), fun g ng => ?_⟩
      obtain ⟨v, hv, ev⟩ : ∃ v : Int, (1 ≤ v ∧ v ≤ 1000) ∧ atI [V.int 1, V.int 1000, V.int (1 + mix C 10039 1000)] (mix C 10061 3) = some (.int v) := by
        have h4 : mix C 10061 3 = 0 ∨ mix C 10061 3 = 1 ∨ mix C 10061 3 = 2 := by omega
        rcases h4 with e | e | e <;> rw [e]
        · exact ⟨1, by omega, rfl⟩
        · exact ⟨1000, by omega, rfl⟩
        · exact ⟨_, by omega, rfl⟩
      have mv : Mod v := ⟨by omega, by omega⟩
      refine ⟨_, rfl, _, 10061, 3, rfl, by decide, by decide, g, _, _, .int v, rfl, rfl, .inl (.inl upd_same), ev, _, rfl, mv.log, (show 2 ≤ sizeLine by decide), fun h nh => ?_⟩
      have kg : Keep K [] H2 (L2.upd (L2.upd H2 g (.lst [V.int 1, V.int 1000, V.int (1 + mix C 10039 1000)])) h (.lst [.str "asleep", .str (numT v)])) := (Keep.new ng).trans (Keep.new nh)
      refine ⟨wd, h, _, _, rfl, rfl, kg.lst hw List.not_mem_nil, upd_same, (show 2 + 2 ≤ sizeLine by decide), fun b nb => ?_⟩
      refine q ⟨nameBy k (cell ns 0), rkk, .slp (now + v)⟩ b _ ((k2.trans kg).trans (Keep.new nb)) rfl rk ⟨by omega, by omega⟩ (upd_same.trans ?_)
      have e : wordsC now ⟨nameBy k (cell ns 0), rkk, .slp (now + v)⟩ = [nameBy k (cell ns 0), numT rkk, "asleep", numT v] := by
        show [nameBy k (cell ns 0), numT rkk, "asleep", numT (now + v - now)] = _
        rw [show now + v - now = v by omega]
      rw [e]
      rfl
    · have h3 := mix_nn (c := C) (p := 10039) (m := 3) (by decide)
      refine ⟨_, rfl, _, rfl, _, 10039, 3, rfl, by decide, by decide, _, rfl, a, ns, 1, rfl, hS2, by decide, _, _, rfl, h3.1, by omega, fun H5 k5 => ⟨(show 2 ≤ sizeLine by decide), fun h nh => ?_⟩⟩
      have nb := name_ok (k := mix C 10039 3) (c := cell ns 1) h3.1 (by omega)
      generalize nameBy (mix C 10039 3) (cell ns 1) = bell at nb ⊢
      have kg : Keep K [] H2 (L2.upd H5 h (.lst [.str "waiting", .str bell])) := k5.trans (Keep.new nh)
      refine ⟨wd, h, _, _, rfl, rfl, kg.lst hw List.not_mem_nil, upd_same, (show 2 + 2 ≤ sizeLine by decide), fun b nb' => ?_⟩
      exact q ⟨nameBy k (cell ns 0), rkk, .wtg bell⟩ b _ ((k2.trans kg).trans (Keep.new nb')) rfl rk nb upd_same
def sp_ltext (K : PySem.W.Frag) : Sp := fun vs H Q _ => ∃ (a : Addr) (W : List (List Str)), vs = [.ref a] ∧ RwAt H a W ∧ (∀ ws ∈ W, WsLen ws) ∧ W.length ≤ 70 ∧ ∀ H', Keep K [] H H' → Q (.str (textS W)) H'
theorem wsl_len {ws : List Str} (h : WsLen ws) : (Str.join " " ws).length ≤ 205 := by
  have h1 := join_len_le (y := " ") (m := 40) fun w hw => h.2 w hw
  have h2 : (" " : Str).length = 1 := by decide +kernel
  rw [h2] at h1
  exact Nat.le_trans h1 (Nat.mul_le_mul_right _ h.1)
theorem c__law_text (T : Tx K mg base) : Cal P w K mg base 1 "_law_text" (sp_ltext K) := by
  obtain ⟨fd, F⟩ := T.d__law_text
  refine ⟨_, fd, ["_law_rows"], okF (k := 0) F sc__law_text (fun vs H Q E h => ?_) (fun A outer s H vs Q E hr h => ?_), T.r__law_text, F.kp, F.bindsN fun _ _ _ _ _ _ us hl => match us, hl with | [_], _ => rfl⟩
  · obtain ⟨a, W, rfl, _⟩ := h
    rfl
  · have nd := sc__law_text.nd
    obtain ⟨a, W, rfl, ⟨ps, eW, ha, hA⟩, hl, h70, q⟩ := h
    subst eW
    rw [List.length_map] at h70
    have hl : ∀ p ∈ ps, WsLen p.2 := fun p hp => hl _ (List.mem_map_of_mem hp)
    refine ⟨_, (pss_one (ps_ret (pe_join pe_str (pe_lc (own := [("_law_row_here", 1)]) (g := gName 1) (tt := tYes) rfl nd (pi_listK (K := K) rfl (pv 0)) (blkOk_by (N := N__law_text) (sc := defScope s__law_text) (by decide +kernel)) (fun _ _ _ _ _ => (pg_name (i := 1) nd rfl (Or.inl rfl))) (fun _ _ _ _ _ => pts_nil) (fun _ _ _ _ _ => (pe_op op_add_str (pe_joinK (K := K) rfl pe_str (pv 1)) pe_str)))))), ?_⟩
    refine ⟨⟨_, rfl⟩, _, rfl, a, rfl, ⟨_, .inl (.inl ha)⟩, fun g ng => ?_⟩
    refine lc_it (walk_list (K := K) (xs := ps.map fun p => V.ref p.1)) (Pv := fun i H' => Keep K [] H H' ∧ H' g = some (.lst (((ps.take i).map fun p => Str.join " " p.2 ++ "\n").map V.str))) ⟨Keep.new ng, upd_same⟩ (fun i H' _ p => .inl (.inl (p.1.lst ha List.not_mem_nil))) ?_ ?_
    · rintro i v H1 H2 hi ⟨k1, hg⟩ ⟨rfl, hv⟩
      rw [List.getElem?_map] at hv
      cases ep : ps[i]? with
      | none =>
        rw [ep] at hv
        cases hv
      | some q1 =>
        rw [ep] at hv
        obtain rfl : V.ref q1.1 = v := Option.some.inj hv
        have ht := k1.lst (hA q1 (List.mem_of_getElem? ep)) List.not_mem_nil
        have hw := hl q1 (List.mem_of_getElem? ep)
        have l1 := wsl_len hw
        have sm := sum_le (m := 40) (l := q1.2) hw.2
        have lsp : (" " : Str).length = 1 := by decide +kernel
        have lnl : ("\n" : Str).length = 1 := by decide +kernel
        have w5 := hw.1
        refine ⟨rfl, ⟨_, rfl⟩, _, rfl, _, q1.1, q1.2, rfl, rfl, .inl (.inl (.inl ht)), ?_, ?_⟩
        · have := Nat.mul_le_mul_right 40 w5
          rw [lsp]
          omega
        rw [TL.join_eq]
        refine ⟨_, _, rfl, rfl, ?_, _, hg, ?_, k1.set (.inl ng) hg nt_lst, ?_⟩
        · rw [lnl, sizeLine_eq]
          omega
        · rw [List.length_map, List.length_map, List.length_take]
          exact small1000 (by omega)
        · rw [upd_same, List.take_add_one, ep, List.map_append, List.map_append]
          rfl
    · rintro H1 ⟨k1, hg⟩
      rw [List.length_map, List.take_of_length_le (Nat.le_refl _)] at hg
      have lnl : ("\n" : Str).length = 1 := by decide +kernel
      have sm := sum_le (m := 206) (l := ps.map fun p => Str.join " " p.2 ++ "\n") fun r hr => by
        obtain ⟨p, hp, rfl⟩ := List.mem_map.mp hr
        have := wsl_len (hl p hp)
        show (_ ++ _ : Str).length ≤ 206
        rw [Str.length_append, lnl]
        omega
      have le : ("" : Str).length = 0 := by decide +kernel
      refine ⟨_, g, _, rfl, rfl, .inl (.inl (.inl hg)), ?_, ?_⟩
      · rw [List.length_map] at sm ⊢
        rw [le]
        have := Nat.mul_le_mul_right 206 h70
        omega
      · rw [TL.join_eq]
        have e : textS (ps.map (·.2)) = Str.join "" (ps.map fun p => Str.join " " p.2 ++ "\n") := by
          unfold textS
          rw [List.map_map]
          rfl
        rw [← e]
        exact q H1 k1
end
end Rr.K

set_option maxRecDepth 100000
set_option maxHeartbeats 4000000
namespace Rr.K
open PySem PySem.Spec PyProof.Rows L2
open GxR (TabG Tabbed)
open Evl (pss_cut)
section
variable {P : Program} {w : World} {K : PySem.W.Frag} {mg : Str → Option Value} {base : Heap}
def sp_lhead (K : PySem.W.Frag) : Sp := fun vs H Q _ => ∃ (a : Addr) (h p r n : Str) (way : Int), vs = [.ref a, .int way] ∧ H a = some (.lst (([h, p, r, n] : List Str).map V.str)) ∧ (0 ≤ way ∧ way < 22) ∧ (p.length ≤ 12 ∧ r.length ≤ 12 ∧ n.length ≤ 12) ∧ ∀ b ws H', Keep K [] H H' → (heads p r n)[way.toNat]? = some ws → H' b = some (.lst (ws.map V.str)) → Q (.ref b) H'
theorem c__law_head (T : Tx K mg base) : Cal P w K mg base 1 "_law_head" (sp_lhead K) := by
  obtain ⟨fd, F⟩ := T.d__law_head
  refine ⟨_, fd, ["_law_head_here", "_law_way"], okF (k := 0) F sc__law_head (fun vs H Q E h => ?_) (fun A outer s H vs Q E hr h => ?_), T.r__law_head, F.kp, F.bindsN fun _ _ _ _ _ _ us hl => match us, hl with | [_, _], _ => rfl⟩
  · obtain ⟨a, h, p, r, n, way, rfl, _⟩ := h
    rfl
  · have nd := sc__law_head.nd
    obtain ⟨a, h, p, r, n, way, rfl, ha, hw, ⟨hp, hr2, hn⟩, q⟩ := h
    have A0 : LsA H [] := .nil
    refine ⟨_, (pss_cons (ps_par3 (i := 2) (j := 3) (l := 4) (by rfl) nd rfl rfl rfl (by decide) (by decide) (by decide) rfl rfl rfl (pa_cons (pe_ix ix_list (pv 0) pe_int (fun _ _ => rfl)) (pa_cons (pe_ix ix_list (pv 0) pe_int (fun _ _ => rfl)) (pa_cons (pe_ix ix_list (pv 0) pe_int (fun _ _ => rfl)) pa_nil))) (by rfl))
  (pss_cut (ps_set (i := 5) nd rfl (Or.inl rfl) (pe_lst (pa_cons (pe_lst (pa_cons pe_str (pa_cons pe_str (pa_cons (pv 3) (pa_cons (pv 4) pa_nil))))) (pa_cons (pe_lst (pa_cons pe_str (pa_cons pe_str (pa_cons (pv 3) (pa_cons (pv 4) pa_nil))))) (pa_cons (pe_lst (pa_cons pe_str (pa_cons (pv 2) (pa_cons pe_str (pa_cons (pv 4) pa_nil))))) (pa_cons (pe_lst (pa_cons pe_str (pa_cons (pv 2) (pa_cons pe_str (pa_cons (pv 4) pa_nil))))) pa_nil))))))
  (pss_cut (ps_set (i := 5) nd rfl (Or.inl rfl) (pe_op op_cat (pv 5) (pe_lst (pa_cons (pe_lst (pa_cons pe_str (pa_cons (pv 2) (pa_cons (pv 3) (pa_cons (pe_op op_add_str pe_str (pv 4)) pa_nil))))) (pa_cons (pe_lst (pa_cons pe_str (pa_cons (pv 2) (pa_cons (pv 3) (pa_cons pe_str pa_nil))))) (pa_cons (pe_lst (pa_cons pe_str (pa_cons (pv 2) (pa_cons (pv 3) (pa_cons (pe_op op_add_str pe_str (pe_op op_mul_str pe_str pe_int)) pa_nil))))) pa_nil))))))
  (pss_cut (ps_set (i := 5) nd rfl (Or.inl rfl) (pe_op op_cat (pv 5) (pe_lst (pa_cons (pe_lst (pa_cons pe_str (pa_cons (pe_op op_add_str pe_str (pv 2)) (pa_cons (pv 3) (pa_cons (pv 4) pa_nil))))) (pa_cons (pe_lst (pa_cons pe_str (pa_cons (pv 2) (pa_cons (pv 3) (pa_cons (pv 4) pa_nil))))) (pa_cons (pe_lst (pa_cons pe_str (pa_cons (pv 2) (pa_cons (pv 3) pa_nil)))) pa_nil))))))
  (pss_cut (ps_set (i := 5) nd rfl (Or.inl rfl) (pe_op op_cat (pv 5) (pe_lst (pa_cons (pe_lst (pa_cons pe_str (pa_cons (pv 2) (pa_cons (pv 3) (pa_cons (pv 4) (pa_cons pe_str pa_nil)))))) (pa_cons (pe_lst (pa_cons pe_str (pa_cons (pv 2) (pa_cons (pv 3) (pa_cons (pv 4) pa_nil))))) (pa_cons (pe_lst (pa_cons pe_str (pa_cons pe_str (pa_cons (pv 2) (pa_cons (pv 3) (pa_cons (pv 4) pa_nil)))))) pa_nil))))))
  (pss_cut (ps_set (i := 5) nd rfl (Or.inl rfl) (pe_op op_cat (pv 5) (pe_lst (pa_cons (pe_lst (pa_cons pe_str (pa_cons (pv 2) (pa_cons (pv 3) (pa_cons (pv 4) (pa_cons pe_str pa_nil)))))) (pa_cons (pe_lst (pa_cons pe_str (pa_cons (pv 2) (pa_cons (pe_op op_add_str (pv 3) pe_str) (pa_cons (pv 4) pa_nil))))) (pa_cons (pe_lst (pa_cons pe_str (pa_cons (pe_op op_add_str pe_str (pv 2)) (pa_cons (pv 3) (pa_cons (pv 4) pa_nil))))) pa_nil))))))
  (pss_cut (ps_set (i := 5) nd rfl (Or.inl rfl) (pe_op op_cat (pv 5) (pe_lst (pa_cons (pe_lst (pa_cons pe_str (pa_cons (pv 2) (pa_cons (pe_op op_add_str pe_str (pv 3)) (pa_cons (pv 4) pa_nil))))) (pa_cons (pe_lst (pa_cons (pe_op op_add_str pe_str (pv 2)) (pa_cons (pv 3) (pa_cons (pv 4) pa_nil)))) (pa_cons (pe_lst (pa_cons pe_str (pa_cons (pv 2) (pa_cons (pv 3) (pa_cons (pe_op op_add_str (pv 4) pe_str) pa_nil))))) pa_nil))))))
  (pss_cut (ps_set (i := 5) nd rfl (Or.inl rfl) (pe_op op_cat (pv 5) (pe_lst (pa_cons (pe_lst (pa_cons pe_str (pa_cons (pe_op op_add_str pe_str (pv 2)) (pa_cons (pv 3) (pa_cons (pv 4) pa_nil))))) (pa_cons (pe_lst (pa_cons pe_str (pa_cons (pv 2) (pa_cons (pv 3) (pa_cons (pe_op op_add_str pe_str (pv 4)) pa_nil))))) (pa_cons (pe_lst (pa_cons pe_str (pa_cons (pv 2) (pa_cons (pv 3) (pa_cons (pe_op op_add_str (pv 4) pe_str) pa_nil))))) pa_nil))))))
  (pss_one (ps_ret (pe_ix ix_list (pv 5) (pv 1) (fun _ _ => rfl)))))))))))), ?_⟩
    refine ⟨_, rfl, a, _, _, .str p, rfl, rfl, .inl (.inl ha), rfl, _, rfl, a, _, _, .str r, rfl, rfl, .inl (.inl ha), rfl, _, rfl, a, _, _, .str n, rfl, rfl, .inl (.inl ha), rfl, _, _, _, rfl, ?_⟩
    refine ⟨fun σ' H' => ∃ (cur : Addr) (ps : List (Addr × List Str)), ps.map (·.2) = (heads p r n).take 4 ∧ σ' = [some (.ref a), some (.int way), some (.str p), some (.str r), some (.str n), some (.ref cur)] ∧ Keep K [] H H' ∧ LsA H' ps ∧ H' cur = some (.lst (ps.map fun p => V.ref p.1)), ?_, ?_⟩
    · refine ⟨_, rfl, _, rfl, (show 4 ≤ sizeLine by decide), fun g1 n1 => ?_⟩
      have A1 : LsA (L2.upd H g1 (.lst [V.str ("desk" : Str), V.str ("0" : Str), V.str r, V.str n])) ([] ++ [(g1, [("desk" : Str), ("0" : Str), r, n])]) := by have z := A0.add (ws := [("desk" : Str), ("0" : Str), r, n]) n1; exact z
      have k1 : Keep K [] H (L2.upd H g1 (.lst [V.str ("desk" : Str), V.str ("0" : Str), V.str r, V.str n])) := (Keep.refl (K := K) [] H).trans (Keep.new n1)
      generalize (L2.upd H g1 (.lst [V.str ("desk" : Str), V.str ("0" : Str), V.str r, V.str n])) = Y1 at A1 k1 ⊢
      refine ⟨_, rfl, _, rfl, (show 4 ≤ sizeLine by decide), fun g2 n2 => ?_⟩
      have A2 : LsA (L2.upd Y1 g2 (.lst [V.str ("desk" : Str), V.str ("1001" : Str), V.str r, V.str n])) ([] ++ [(g1, [("desk" : Str), ("0" : Str), r, n]), (g2, [("desk" : Str), ("1001" : Str), r, n])]) := by have z := A1.add (ws := [("desk" : Str), ("1001" : Str), r, n]) n2; rw [List.append_assoc] at z; exact z
      have k2 : Keep K [] H (L2.upd Y1 g2 (.lst [V.str ("desk" : Str), V.str ("1001" : Str), V.str r, V.str n])) := k1.trans (Keep.new n2)
      generalize (L2.upd Y1 g2 (.lst [V.str ("desk" : Str), V.str ("1001" : Str), V.str r, V.str n])) = Y2 at A2 k2 ⊢
      refine ⟨_, rfl, _, rfl, (show 4 ≤ sizeLine by decide), fun g3 n3 => ?_⟩
      have A3 : LsA (L2.upd Y2 g3 (.lst [V.str ("desk" : Str), V.str p, V.str ("0" : Str), V.str n])) ([] ++ [(g1, [("desk" : Str), ("0" : Str), r, n]), (g2, [("desk" : Str), ("1001" : Str), r, n]), (g3, [("desk" : Str), p, ("0" : Str), n])]) := by have z := A2.add (ws := [("desk" : Str), p, ("0" : Str), n]) n3; rw [List.append_assoc] at z; exact z
      have k3 : Keep K [] H (L2.upd Y2 g3 (.lst [V.str ("desk" : Str), V.str p, V.str ("0" : Str), V.str n])) := k2.trans (Keep.new n3)
      generalize (L2.upd Y2 g3 (.lst [V.str ("desk" : Str), V.str p, V.str ("0" : Str), V.str n])) = Y3 at A3 k3 ⊢
      refine ⟨_, rfl, _, rfl, (show 4 ≤ sizeLine by decide), fun g4 n4 => ?_⟩
      have A4 : LsA (L2.upd Y3 g4 (.lst [V.str ("desk" : Str), V.str p, V.str ("61" : Str), V.str n])) ([] ++ [(g1, [("desk" : Str), ("0" : Str), r, n]), (g2, [("desk" : Str), ("1001" : Str), r, n]), (g3, [("desk" : Str), p, ("0" : Str), n]), (g4, [("desk" : Str), p, ("61" : Str), n])]) := by have z := A3.add (ws := [("desk" : Str), p, ("61" : Str), n]) n4; rw [List.append_assoc] at z; exact z
      have k4 : Keep K [] H (L2.upd Y3 g4 (.lst [V.str ("desk" : Str), V.str p, V.str ("61" : Str), V.str n])) := k3.trans (Keep.new n4)
      generalize (L2.upd Y3 g4 (.lst [V.str ("desk" : Str), V.str p, V.str ("61" : Str), V.str n])) = Y4 at A4 k4 ⊢
      refine ⟨(show 4 ≤ sizeLine by decide), fun s1 m1 => ?_⟩
      have G1 : (L2.upd Y4 s1 (.lst [V.ref g1, V.ref g2, V.ref g3, V.ref g4])) s1 = some (.lst [V.ref g1, V.ref g2, V.ref g3, V.ref g4]) := upd_same
      have B1 : LsA (L2.upd Y4 s1 (.lst [V.ref g1, V.ref g2, V.ref g3, V.ref g4])) ([] ++ [(g1, [("desk" : Str), ("0" : Str), r, n]), (g2, [("desk" : Str), ("1001" : Str), r, n]), (g3, [("desk" : Str), p, ("0" : Str), n]), (g4, [("desk" : Str), p, ("61" : Str), n])]) := A4.new m1
      have j1 : Keep K [] H (L2.upd Y4 s1 (.lst [V.ref g1, V.ref g2, V.ref g3, V.ref g4])) := k4.trans (Keep.new m1)
      exact ⟨s1, [] ++ [(g1, [("desk" : Str), ("0" : Str), r, n]), (g2, [("desk" : Str), ("1001" : Str), r, n]), (g3, [("desk" : Str), p, ("0" : Str), n]), (g4, [("desk" : Str), p, ("61" : Str), n])], rfl, rfl, j1, B1, G1⟩
    rintro σ' X1 ⟨cur, ps, eps, rfl, k, A, F⟩
    have lps : ps.length = 4 := by have := congrArg List.length eps; rw [List.length_map] at this; exact this
    refine ⟨fun σ' H' => ∃ (cur : Addr) (ps : List (Addr × List Str)), ps.map (·.2) = (heads p r n).take 7 ∧ σ' = [some (.ref a), some (.int way), some (.str p), some (.str r), some (.str n), some (.ref cur)] ∧ Keep K [] H H' ∧ LsA H' ps ∧ H' cur = some (.lst (ps.map fun p => V.ref p.1)), ?_, ?_⟩
    · refine ⟨_, rfl, _, rfl, _, rfl, _, rfl, _, _, rfl, rfl, fit2 1 12 (show (("0" : Str)).length ≤ 1 by decide +kernel) hn, (show 4 ≤ sizeLine by decide), fun g1 n1 => ?_⟩
      have A1 : LsA (L2.upd X1 g1 (.lst [V.str ("desk" : Str), V.str p, V.str r, V.str (("0" : Str) ++ n)])) (ps ++ [(g1, [("desk" : Str), p, r, (("0" : Str) ++ n)])]) := by have z := A.add (ws := [("desk" : Str), p, r, (("0" : Str) ++ n)]) n1; exact z
      have k1 : Keep K [] H (L2.upd X1 g1 (.lst [V.str ("desk" : Str), V.str p, V.str r, V.str (("0" : Str) ++ n)])) := k.trans (Keep.new n1)
      have F1 : (L2.upd X1 g1 (.lst [V.str ("desk" : Str), V.str p, V.str r, V.str (("0" : Str) ++ n)])) cur = some (.lst (ps.map fun p => V.ref p.1)) := (upd_ne (ne_of_none F n1)).trans F
      generalize (L2.upd X1 g1 (.lst [V.str ("desk" : Str), V.str p, V.str r, V.str (("0" : Str) ++ n)])) = Y1 at A1 k1 F1 ⊢
      refine ⟨_, rfl, _, rfl, (show 4 ≤ sizeLine by decide), fun g2 n2 => ?_⟩
      have A2 : LsA (L2.upd Y1 g2 (.lst [V.str ("desk" : Str), V.str p, V.str r, V.str ("-1" : Str)])) (ps ++ [(g1, [("desk" : Str), p, r, (("0" : Str) ++ n)]), (g2, [("desk" : Str), p, r, ("-1" : Str)])]) := by have z := A1.add (ws := [("desk" : Str), p, r, ("-1" : Str)]) n2; rw [List.append_assoc] at z; exact z
      have k2 : Keep K [] H (L2.upd Y1 g2 (.lst [V.str ("desk" : Str), V.str p, V.str r, V.str ("-1" : Str)])) := k1.trans (Keep.new n2)
      have F2 : (L2.upd Y1 g2 (.lst [V.str ("desk" : Str), V.str p, V.str r, V.str ("-1" : Str)])) cur = some (.lst (ps.map fun p => V.ref p.1)) := (upd_ne (ne_of_none F1 n2)).trans F1
      generalize (L2.upd Y1 g2 (.lst [V.str ("desk" : Str), V.str p, V.str r, V.str ("-1" : Str)])) = Y2 at A2 k2 F2 ⊢
      refine ⟨_, rfl, _, rfl, "0", 12, rfl, rfl, mulOk_o12, _, _, rfl, rfl, fit2 1 12 (show (("1" : Str)).length ≤ 1 by decide +kernel) (show ((Txt.mul "0" 12)).length ≤ 12 by decide +kernel), (show 4 ≤ sizeLine by decide), fun g3 n3 => ?_⟩
      have A3 : LsA (L2.upd Y2 g3 (.lst [V.str ("desk" : Str), V.str p, V.str r, V.str (("1" : Str) ++ (Txt.mul "0" 12))])) (ps ++ [(g1, [("desk" : Str), p, r, (("0" : Str) ++ n)]), (g2, [("desk" : Str), p, r, ("-1" : Str)]), (g3, [("desk" : Str), p, r, (("1" : Str) ++ (Txt.mul "0" 12))])]) := by have z := A2.add (ws := [("desk" : Str), p, r, (("1" : Str) ++ (Txt.mul "0" 12))]) n3; rw [List.append_assoc] at z; exact z
      have k3 : Keep K [] H (L2.upd Y2 g3 (.lst [V.str ("desk" : Str), V.str p, V.str r, V.str (("1" : Str) ++ (Txt.mul "0" 12))])) := k2.trans (Keep.new n3)
      have F3 : (L2.upd Y2 g3 (.lst [V.str ("desk" : Str), V.str p, V.str r, V.str (("1" : Str) ++ (Txt.mul "0" 12))])) cur = some (.lst (ps.map fun p => V.ref p.1)) := (upd_ne (ne_of_none F2 n3)).trans F2
      generalize (L2.upd Y2 g3 (.lst [V.str ("desk" : Str), V.str p, V.str r, V.str (("1" : Str) ++ (Txt.mul "0" 12))])) = Y3 at A3 k3 F3 ⊢
      refine ⟨(show 3 ≤ sizeLine by decide), fun s1 m1 => ?_⟩
      have G1 : (L2.upd Y3 s1 (.lst [V.ref g1, V.ref g2, V.ref g3])) s1 = some (.lst [V.ref g1, V.ref g2, V.ref g3]) := upd_same
      have B1 : LsA (L2.upd Y3 s1 (.lst [V.ref g1, V.ref g2, V.ref g3])) (ps ++ [(g1, [("desk" : Str), p, r, (("0" : Str) ++ n)]), (g2, [("desk" : Str), p, r, ("-1" : Str)]), (g3, [("desk" : Str), p, r, (("1" : Str) ++ (Txt.mul "0" 12))])]) := A3.new m1
      have j1 : Keep K [] H (L2.upd Y3 s1 (.lst [V.ref g1, V.ref g2, V.ref g3])) := k3.trans (Keep.new m1)
      have E1 : (L2.upd Y3 s1 (.lst [V.ref g1, V.ref g2, V.ref g3])) cur = some (.lst (ps.map fun p => V.ref p.1)) := (upd_ne (ne_of_none F3 m1)).trans F3
      generalize (L2.upd Y3 s1 (.lst [V.ref g1, V.ref g2, V.ref g3])) = Z1 at G1 B1 j1 E1 ⊢
      refine ⟨cur, s1, _, _, rfl, rfl, E1, G1, (by rw [List.length_map, lps]; exact (show 4 + 3 ≤ sizeLine by decide)), fun v1 w1 => ?_⟩
      refine ⟨v1, ps ++ [(g1, [("desk" : Str), p, r, (("0" : Str) ++ n)]), (g2, [("desk" : Str), p, r, ("-1" : Str)]), (g3, [("desk" : Str), p, r, (("1" : Str) ++ (Txt.mul "0" 12))])], by rw [List.map_append, eps]; rfl, rfl, j1.trans (Keep.new w1), B1.new w1, ?_⟩
      rw [upd_same, List.map_append]
      rfl
    rintro σ' X2 ⟨cur, ps, eps, rfl, k, A, F⟩
    have lps : ps.length = 7 := by have := congrArg List.length eps; rw [List.length_map] at this; exact this
    refine ⟨fun σ' H' => ∃ (cur : Addr) (ps : List (Addr × List Str)), ps.map (·.2) = (heads p r n).take 10 ∧ σ' = [some (.ref a), some (.int way), some (.str p), some (.str r), some (.str n), some (.ref cur)] ∧ Keep K [] H H' ∧ LsA H' ps ∧ H' cur = some (.lst (ps.map fun p => V.ref p.1)), ?_, ?_⟩
    · refine ⟨_, rfl, _, rfl, _, _, rfl, rfl, fit2 1 12 (show (("+" : Str)).length ≤ 1 by decide +kernel) hp, _, rfl, _, rfl, (show 4 ≤ sizeLine by decide), fun g1 n1 => ?_⟩
      have A1 : LsA (L2.upd X2 g1 (.lst [V.str ("desk" : Str), V.str (("+" : Str) ++ p), V.str r, V.str n])) (ps ++ [(g1, [("desk" : Str), (("+" : Str) ++ p), r, n])]) := by have z := A.add (ws := [("desk" : Str), (("+" : Str) ++ p), r, n]) n1; exact z
      have k1 : Keep K [] H (L2.upd X2 g1 (.lst [V.str ("desk" : Str), V.str (("+" : Str) ++ p), V.str r, V.str n])) := k.trans (Keep.new n1)
      have F1 : (L2.upd X2 g1 (.lst [V.str ("desk" : Str), V.str (("+" : Str) ++ p), V.str r, V.str n])) cur = some (.lst (ps.map fun p => V.ref p.1)) := (upd_ne (ne_of_none F n1)).trans F
      generalize (L2.upd X2 g1 (.lst [V.str ("desk" : Str), V.str (("+" : Str) ++ p), V.str r, V.str n])) = Y1 at A1 k1 F1 ⊢
      refine ⟨_, rfl, _, rfl, _, rfl, (show 4 ≤ sizeLine by decide), fun g2 n2 => ?_⟩
      have A2 : LsA (L2.upd Y1 g2 (.lst [V.str ("Desk" : Str), V.str p, V.str r, V.str n])) (ps ++ [(g1, [("desk" : Str), (("+" : Str) ++ p), r, n]), (g2, [("Desk" : Str), p, r, n])]) := by have z := A1.add (ws := [("Desk" : Str), p, r, n]) n2; rw [List.append_assoc] at z; exact z
      have k2 : Keep K [] H (L2.upd Y1 g2 (.lst [V.str ("Desk" : Str), V.str p, V.str r, V.str n])) := k1.trans (Keep.new n2)
      have F2 : (L2.upd Y1 g2 (.lst [V.str ("Desk" : Str), V.str p, V.str r, V.str n])) cur = some (.lst (ps.map fun p => V.ref p.1)) := (upd_ne (ne_of_none F1 n2)).trans F1
      generalize (L2.upd Y1 g2 (.lst [V.str ("Desk" : Str), V.str p, V.str r, V.str n])) = Y2 at A2 k2 F2 ⊢
      refine ⟨_, rfl, _, rfl, (show 3 ≤ sizeLine by decide), fun g3 n3 => ?_⟩
      have A3 : LsA (L2.upd Y2 g3 (.lst [V.str ("desk" : Str), V.str p, V.str r])) (ps ++ [(g1, [("desk" : Str), (("+" : Str) ++ p), r, n]), (g2, [("Desk" : Str), p, r, n]), (g3, [("desk" : Str), p, r])]) := by have z := A2.add (ws := [("desk" : Str), p, r]) n3; rw [List.append_assoc] at z; exact z
      have k3 : Keep K [] H (L2.upd Y2 g3 (.lst [V.str ("desk" : Str), V.str p, V.str r])) := k2.trans (Keep.new n3)
      have F3 : (L2.upd Y2 g3 (.lst [V.str ("desk" : Str), V.str p, V.str r])) cur = some (.lst (ps.map fun p => V.ref p.1)) := (upd_ne (ne_of_none F2 n3)).trans F2
      generalize (L2.upd Y2 g3 (.lst [V.str ("desk" : Str), V.str p, V.str r])) = Y3 at A3 k3 F3 ⊢
      refine ⟨(show 3 ≤ sizeLine by decide), fun s1 m1 => ?_⟩
      have G1 : (L2.upd Y3 s1 (.lst [V.ref g1, V.ref g2, V.ref g3])) s1 = some (.lst [V.ref g1, V.ref g2, V.ref g3]) := upd_same
      have B1 : LsA (L2.upd Y3 s1 (.lst [V.ref g1, V.ref g2, V.ref g3])) (ps ++ [(g1, [("desk" : Str), (("+" : Str) ++ p), r, n]), (g2, [("Desk" : Str), p, r, n]), (g3, [("desk" : Str), p, r])]) := A3.new m1
      have j1 : Keep K [] H (L2.upd Y3 s1 (.lst [V.ref g1, V.ref g2, V.ref g3])) := k3.trans (Keep.new m1)
      have E1 : (L2.upd Y3 s1 (.lst [V.ref g1, V.ref g2, V.ref g3])) cur = some (.lst (ps.map fun p => V.ref p.1)) := (upd_ne (ne_of_none F3 m1)).trans F3
      generalize (L2.upd Y3 s1 (.lst [V.ref g1, V.ref g2, V.ref g3])) = Z1 at G1 B1 j1 E1 ⊢
      refine ⟨cur, s1, _, _, rfl, rfl, E1, G1, (by rw [List.length_map, lps]; exact (show 7 + 3 ≤ sizeLine by decide)), fun v1 w1 => ?_⟩
      refine ⟨v1, ps ++ [(g1, [("desk" : Str), (("+" : Str) ++ p), r, n]), (g2, [("Desk" : Str), p, r, n]), (g3, [("desk" : Str), p, r])], by rw [List.map_append, eps]; rfl, rfl, j1.trans (Keep.new w1), B1.new w1, ?_⟩
      rw [upd_same, List.map_append]
      rfl
    rintro σ' X3 ⟨cur, ps, eps, rfl, k, A, F⟩
    have lps : ps.length = 10 := by have := congrArg List.length eps; rw [List.length_map] at this; exact this
    refine ⟨fun σ' H' => ∃ (cur : Addr) (ps : List (Addr × List Str)), ps.map (·.2) = (heads p r n).take 13 ∧ σ' = [some (.ref a), some (.int way), some (.str p), some (.str r), some (.str n), some (.ref cur)] ∧ Keep K [] H H' ∧ LsA H' ps ∧ H' cur = some (.lst (ps.map fun p => V.ref p.1)), ?_, ?_⟩
    · refine ⟨_, rfl, _, rfl, _, rfl, _, rfl, (show 5 ≤ sizeLine by decide), fun g1 n1 => ?_⟩
      have A1 : LsA (L2.upd X3 g1 (.lst [V.str ("desk" : Str), V.str p, V.str r, V.str n, V.str ("0" : Str)])) (ps ++ [(g1, [("desk" : Str), p, r, n, ("0" : Str)])]) := by have z := A.add (ws := [("desk" : Str), p, r, n, ("0" : Str)]) n1; exact z
      have k1 : Keep K [] H (L2.upd X3 g1 (.lst [V.str ("desk" : Str), V.str p, V.str r, V.str n, V.str ("0" : Str)])) := k.trans (Keep.new n1)
      have F1 : (L2.upd X3 g1 (.lst [V.str ("desk" : Str), V.str p, V.str r, V.str n, V.str ("0" : Str)])) cur = some (.lst (ps.map fun p => V.ref p.1)) := (upd_ne (ne_of_none F n1)).trans F
      generalize (L2.upd X3 g1 (.lst [V.str ("desk" : Str), V.str p, V.str r, V.str n, V.str ("0" : Str)])) = Y1 at A1 k1 F1 ⊢
      refine ⟨_, rfl, _, rfl, _, rfl, (show 4 ≤ sizeLine by decide), fun g2 n2 => ?_⟩
      have A2 : LsA (L2.upd Y1 g2 (.lst [V.str ("" : Str), V.str p, V.str r, V.str n])) (ps ++ [(g1, [("desk" : Str), p, r, n, ("0" : Str)]), (g2, [("" : Str), p, r, n])]) := by have z := A1.add (ws := [("" : Str), p, r, n]) n2; rw [List.append_assoc] at z; exact z
      have k2 : Keep K [] H (L2.upd Y1 g2 (.lst [V.str ("" : Str), V.str p, V.str r, V.str n])) := k1.trans (Keep.new n2)
      have F2 : (L2.upd Y1 g2 (.lst [V.str ("" : Str), V.str p, V.str r, V.str n])) cur = some (.lst (ps.map fun p => V.ref p.1)) := (upd_ne (ne_of_none F1 n2)).trans F1
      generalize (L2.upd Y1 g2 (.lst [V.str ("" : Str), V.str p, V.str r, V.str n])) = Y2 at A2 k2 F2 ⊢
      refine ⟨_, rfl, _, rfl, _, rfl, (show 5 ≤ sizeLine by decide), fun g3 n3 => ?_⟩
      have A3 : LsA (L2.upd Y2 g3 (.lst [V.str ("desk" : Str), V.str ("" : Str), V.str p, V.str r, V.str n])) (ps ++ [(g1, [("desk" : Str), p, r, n, ("0" : Str)]), (g2, [("" : Str), p, r, n]), (g3, [("desk" : Str), ("" : Str), p, r, n])]) := by have z := A2.add (ws := [("desk" : Str), ("" : Str), p, r, n]) n3; rw [List.append_assoc] at z; exact z
      have k3 : Keep K [] H (L2.upd Y2 g3 (.lst [V.str ("desk" : Str), V.str ("" : Str), V.str p, V.str r, V.str n])) := k2.trans (Keep.new n3)
      have F3 : (L2.upd Y2 g3 (.lst [V.str ("desk" : Str), V.str ("" : Str), V.str p, V.str r, V.str n])) cur = some (.lst (ps.map fun p => V.ref p.1)) := (upd_ne (ne_of_none F2 n3)).trans F2
      generalize (L2.upd Y2 g3 (.lst [V.str ("desk" : Str), V.str ("" : Str), V.str p, V.str r, V.str n])) = Y3 at A3 k3 F3 ⊢
      refine ⟨(show 3 ≤ sizeLine by decide), fun s1 m1 => ?_⟩
      have G1 : (L2.upd Y3 s1 (.lst [V.ref g1, V.ref g2, V.ref g3])) s1 = some (.lst [V.ref g1, V.ref g2, V.ref g3]) := upd_same
      have B1 : LsA (L2.upd Y3 s1 (.lst [V.ref g1, V.ref g2, V.ref g3])) (ps ++ [(g1, [("desk" : Str), p, r, n, ("0" : Str)]), (g2, [("" : Str), p, r, n]), (g3, [("desk" : Str), ("" : Str), p, r, n])]) := A3.new m1
      have j1 : Keep K [] H (L2.upd Y3 s1 (.lst [V.ref g1, V.ref g2, V.ref g3])) := k3.trans (Keep.new m1)
      have E1 : (L2.upd Y3 s1 (.lst [V.ref g1, V.ref g2, V.ref g3])) cur = some (.lst (ps.map fun p => V.ref p.1)) := (upd_ne (ne_of_none F3 m1)).trans F3
      generalize (L2.upd Y3 s1 (.lst [V.ref g1, V.ref g2, V.ref g3])) = Z1 at G1 B1 j1 E1 ⊢
      refine ⟨cur, s1, _, _, rfl, rfl, E1, G1, (by rw [List.length_map, lps]; exact (show 10 + 3 ≤ sizeLine by decide)), fun v1 w1 => ?_⟩
      refine ⟨v1, ps ++ [(g1, [("desk" : Str), p, r, n, ("0" : Str)]), (g2, [("" : Str), p, r, n]), (g3, [("desk" : Str), ("" : Str), p, r, n])], by rw [List.map_append, eps]; rfl, rfl, j1.trans (Keep.new w1), B1.new w1, ?_⟩
      rw [upd_same, List.map_append]
      rfl
    rintro σ' X4 ⟨cur, ps, eps, rfl, k, A, F⟩
    have lps : ps.length = 13 := by have := congrArg List.length eps; rw [List.length_map] at this; exact this
    refine ⟨fun σ' H' => ∃ (cur : Addr) (ps : List (Addr × List Str)), ps.map (·.2) = (heads p r n).take 16 ∧ σ' = [some (.ref a), some (.int way), some (.str p), some (.str r), some (.str n), some (.ref cur)] ∧ Keep K [] H H' ∧ LsA H' ps ∧ H' cur = some (.lst (ps.map fun p => V.ref p.1)), ?_, ?_⟩
    · refine ⟨_, rfl, _, rfl, _, rfl, _, rfl, (show 5 ≤ sizeLine by decide), fun g1 n1 => ?_⟩
      have A1 : LsA (L2.upd X4 g1 (.lst [V.str ("desk" : Str), V.str p, V.str r, V.str n, V.str ("" : Str)])) (ps ++ [(g1, [("desk" : Str), p, r, n, ("" : Str)])]) := by have z := A.add (ws := [("desk" : Str), p, r, n, ("" : Str)]) n1; exact z
      have k1 : Keep K [] H (L2.upd X4 g1 (.lst [V.str ("desk" : Str), V.str p, V.str r, V.str n, V.str ("" : Str)])) := k.trans (Keep.new n1)
      have F1 : (L2.upd X4 g1 (.lst [V.str ("desk" : Str), V.str p, V.str r, V.str n, V.str ("" : Str)])) cur = some (.lst (ps.map fun p => V.ref p.1)) := (upd_ne (ne_of_none F n1)).trans F
      generalize (L2.upd X4 g1 (.lst [V.str ("desk" : Str), V.str p, V.str r, V.str n, V.str ("" : Str)])) = Y1 at A1 k1 F1 ⊢
      refine ⟨_, rfl, _, rfl, _, _, rfl, rfl, fit2 12 2 hr2 (show (("_0" : Str)).length ≤ 2 by decide +kernel), _, rfl, (show 4 ≤ sizeLine by decide), fun g2 n2 => ?_⟩
      have A2 : LsA (L2.upd Y1 g2 (.lst [V.str ("desk" : Str), V.str p, V.str (r ++ ("_0" : Str)), V.str n])) (ps ++ [(g1, [("desk" : Str), p, r, n, ("" : Str)]), (g2, [("desk" : Str), p, (r ++ ("_0" : Str)), n])]) := by have z := A1.add (ws := [("desk" : Str), p, (r ++ ("_0" : Str)), n]) n2; rw [List.append_assoc] at z; exact z
      have k2 : Keep K [] H (L2.upd Y1 g2 (.lst [V.str ("desk" : Str), V.str p, V.str (r ++ ("_0" : Str)), V.str n])) := k1.trans (Keep.new n2)
      have F2 : (L2.upd Y1 g2 (.lst [V.str ("desk" : Str), V.str p, V.str (r ++ ("_0" : Str)), V.str n])) cur = some (.lst (ps.map fun p => V.ref p.1)) := (upd_ne (ne_of_none F1 n2)).trans F1
      generalize (L2.upd Y1 g2 (.lst [V.str ("desk" : Str), V.str p, V.str (r ++ ("_0" : Str)), V.str n])) = Y2 at A2 k2 F2 ⊢
      refine ⟨_, rfl, _, _, rfl, rfl, fit2 1 12 (show (("0" : Str)).length ≤ 1 by decide +kernel) hp, _, rfl, _, rfl, (show 4 ≤ sizeLine by decide), fun g3 n3 => ?_⟩
      have A3 : LsA (L2.upd Y2 g3 (.lst [V.str ("desk" : Str), V.str (("0" : Str) ++ p), V.str r, V.str n])) (ps ++ [(g1, [("desk" : Str), p, r, n, ("" : Str)]), (g2, [("desk" : Str), p, (r ++ ("_0" : Str)), n]), (g3, [("desk" : Str), (("0" : Str) ++ p), r, n])]) := by have z := A2.add (ws := [("desk" : Str), (("0" : Str) ++ p), r, n]) n3; rw [List.append_assoc] at z; exact z
      have k3 : Keep K [] H (L2.upd Y2 g3 (.lst [V.str ("desk" : Str), V.str (("0" : Str) ++ p), V.str r, V.str n])) := k2.trans (Keep.new n3)
      have F3 : (L2.upd Y2 g3 (.lst [V.str ("desk" : Str), V.str (("0" : Str) ++ p), V.str r, V.str n])) cur = some (.lst (ps.map fun p => V.ref p.1)) := (upd_ne (ne_of_none F2 n3)).trans F2
      generalize (L2.upd Y2 g3 (.lst [V.str ("desk" : Str), V.str (("0" : Str) ++ p), V.str r, V.str n])) = Y3 at A3 k3 F3 ⊢
      refine ⟨(show 3 ≤ sizeLine by decide), fun s1 m1 => ?_⟩
      have G1 : (L2.upd Y3 s1 (.lst [V.ref g1, V.ref g2, V.ref g3])) s1 = some (.lst [V.ref g1, V.ref g2, V.ref g3]) := upd_same
      have B1 : LsA (L2.upd Y3 s1 (.lst [V.ref g1, V.ref g2, V.ref g3])) (ps ++ [(g1, [("desk" : Str), p, r, n, ("" : Str)]), (g2, [("desk" : Str), p, (r ++ ("_0" : Str)), n]), (g3, [("desk" : Str), (("0" : Str) ++ p), r, n])]) := A3.new m1
      have j1 : Keep K [] H (L2.upd Y3 s1 (.lst [V.ref g1, V.ref g2, V.ref g3])) := k3.trans (Keep.new m1)
      have E1 : (L2.upd Y3 s1 (.lst [V.ref g1, V.ref g2, V.ref g3])) cur = some (.lst (ps.map fun p => V.ref p.1)) := (upd_ne (ne_of_none F3 m1)).trans F3
      generalize (L2.upd Y3 s1 (.lst [V.ref g1, V.ref g2, V.ref g3])) = Z1 at G1 B1 j1 E1 ⊢
      refine ⟨cur, s1, _, _, rfl, rfl, E1, G1, (by rw [List.length_map, lps]; exact (show 13 + 3 ≤ sizeLine by decide)), fun v1 w1 => ?_⟩
      refine ⟨v1, ps ++ [(g1, [("desk" : Str), p, r, n, ("" : Str)]), (g2, [("desk" : Str), p, (r ++ ("_0" : Str)), n]), (g3, [("desk" : Str), (("0" : Str) ++ p), r, n])], by rw [List.map_append, eps]; rfl, rfl, j1.trans (Keep.new w1), B1.new w1, ?_⟩
      rw [upd_same, List.map_append]
      rfl
    rintro σ' X5 ⟨cur, ps, eps, rfl, k, A, F⟩
    have lps : ps.length = 16 := by have := congrArg List.length eps; rw [List.length_map] at this; exact this
    refine ⟨fun σ' H' => ∃ (cur : Addr) (ps : List (Addr × List Str)), ps.map (·.2) = (heads p r n).take 19 ∧ σ' = [some (.ref a), some (.int way), some (.str p), some (.str r), some (.str n), some (.ref cur)] ∧ Keep K [] H H' ∧ LsA H' ps ∧ H' cur = some (.lst (ps.map fun p => V.ref p.1)), ?_, ?_⟩
    · refine ⟨_, rfl, _, rfl, _, rfl, _, _, rfl, rfl, fit2 1 12 (show (("0" : Str)).length ≤ 1 by decide +kernel) hr2, _, rfl, (show 4 ≤ sizeLine by decide), fun g1 n1 => ?_⟩
      have A1 : LsA (L2.upd X5 g1 (.lst [V.str ("desk" : Str), V.str p, V.str (("0" : Str) ++ r), V.str n])) (ps ++ [(g1, [("desk" : Str), p, (("0" : Str) ++ r), n])]) := by have z := A.add (ws := [("desk" : Str), p, (("0" : Str) ++ r), n]) n1; exact z
      have k1 : Keep K [] H (L2.upd X5 g1 (.lst [V.str ("desk" : Str), V.str p, V.str (("0" : Str) ++ r), V.str n])) := k.trans (Keep.new n1)
      have F1 : (L2.upd X5 g1 (.lst [V.str ("desk" : Str), V.str p, V.str (("0" : Str) ++ r), V.str n])) cur = some (.lst (ps.map fun p => V.ref p.1)) := (upd_ne (ne_of_none F n1)).trans F
      generalize (L2.upd X5 g1 (.lst [V.str ("desk" : Str), V.str p, V.str (("0" : Str) ++ r), V.str n])) = Y1 at A1 k1 F1 ⊢
      refine ⟨_, rfl, _, _, rfl, rfl, fit2 5 12 (show (("desk\t" : Str)).length ≤ 5 by decide +kernel) hp, _, rfl, _, rfl, (show 3 ≤ sizeLine by decide), fun g2 n2 => ?_⟩
      have A2 : LsA (L2.upd Y1 g2 (.lst [V.str (("desk\t" : Str) ++ p), V.str r, V.str n])) (ps ++ [(g1, [("desk" : Str), p, (("0" : Str) ++ r), n]), (g2, [(("desk\t" : Str) ++ p), r, n])]) := by have z := A1.add (ws := [(("desk\t" : Str) ++ p), r, n]) n2; rw [List.append_assoc] at z; exact z
      have k2 : Keep K [] H (L2.upd Y1 g2 (.lst [V.str (("desk\t" : Str) ++ p), V.str r, V.str n])) := k1.trans (Keep.new n2)
      have F2 : (L2.upd Y1 g2 (.lst [V.str (("desk\t" : Str) ++ p), V.str r, V.str n])) cur = some (.lst (ps.map fun p => V.ref p.1)) := (upd_ne (ne_of_none F1 n2)).trans F1
      generalize (L2.upd Y1 g2 (.lst [V.str (("desk\t" : Str) ++ p), V.str r, V.str n])) = Y2 at A2 k2 F2 ⊢
      refine ⟨_, rfl, _, rfl, _, rfl, _, _, rfl, rfl, fit2 12 1 hn (show (("\t" : Str)).length ≤ 1 by decide +kernel), (show 4 ≤ sizeLine by decide), fun g3 n3 => ?_⟩
      have A3 : LsA (L2.upd Y2 g3 (.lst [V.str ("desk" : Str), V.str p, V.str r, V.str (n ++ ("\t" : Str))])) (ps ++ [(g1, [("desk" : Str), p, (("0" : Str) ++ r), n]), (g2, [(("desk\t" : Str) ++ p), r, n]), (g3, [("desk" : Str), p, r, (n ++ ("\t" : Str))])]) := by have z := A2.add (ws := [("desk" : Str), p, r, (n ++ ("\t" : Str))]) n3; rw [List.append_assoc] at z; exact z
      have k3 : Keep K [] H (L2.upd Y2 g3 (.lst [V.str ("desk" : Str), V.str p, V.str r, V.str (n ++ ("\t" : Str))])) := k2.trans (Keep.new n3)
      have F3 : (L2.upd Y2 g3 (.lst [V.str ("desk" : Str), V.str p, V.str r, V.str (n ++ ("\t" : Str))])) cur = some (.lst (ps.map fun p => V.ref p.1)) := (upd_ne (ne_of_none F2 n3)).trans F2
      generalize (L2.upd Y2 g3 (.lst [V.str ("desk" : Str), V.str p, V.str r, V.str (n ++ ("\t" : Str))])) = Y3 at A3 k3 F3 ⊢
      refine ⟨(show 3 ≤ sizeLine by decide), fun s1 m1 => ?_⟩
      have G1 : (L2.upd Y3 s1 (.lst [V.ref g1, V.ref g2, V.ref g3])) s1 = some (.lst [V.ref g1, V.ref g2, V.ref g3]) := upd_same
      have B1 : LsA (L2.upd Y3 s1 (.lst [V.ref g1, V.ref g2, V.ref g3])) (ps ++ [(g1, [("desk" : Str), p, (("0" : Str) ++ r), n]), (g2, [(("desk\t" : Str) ++ p), r, n]), (g3, [("desk" : Str), p, r, (n ++ ("\t" : Str))])]) := A3.new m1
      have j1 : Keep K [] H (L2.upd Y3 s1 (.lst [V.ref g1, V.ref g2, V.ref g3])) := k3.trans (Keep.new m1)
      have E1 : (L2.upd Y3 s1 (.lst [V.ref g1, V.ref g2, V.ref g3])) cur = some (.lst (ps.map fun p => V.ref p.1)) := (upd_ne (ne_of_none F3 m1)).trans F3
      generalize (L2.upd Y3 s1 (.lst [V.ref g1, V.ref g2, V.ref g3])) = Z1 at G1 B1 j1 E1 ⊢
      refine ⟨cur, s1, _, _, rfl, rfl, E1, G1, (by rw [List.length_map, lps]; exact (show 16 + 3 ≤ sizeLine by decide)), fun v1 w1 => ?_⟩
      refine ⟨v1, ps ++ [(g1, [("desk" : Str), p, (("0" : Str) ++ r), n]), (g2, [(("desk\t" : Str) ++ p), r, n]), (g3, [("desk" : Str), p, r, (n ++ ("\t" : Str))])], by rw [List.map_append, eps]; rfl, rfl, j1.trans (Keep.new w1), B1.new w1, ?_⟩
      rw [upd_same, List.map_append]
      rfl
    rintro σ' X6 ⟨cur, ps, eps, rfl, k, A, F⟩
    have lps : ps.length = 19 := by have := congrArg List.length eps; rw [List.length_map] at this; exact this
    refine ⟨fun σ' H' => ∃ (cur : Addr) (ps : List (Addr × List Str)), ps.map (·.2) = (heads p r n).take 22 ∧ σ' = [some (.ref a), some (.int way), some (.str p), some (.str r), some (.str n), some (.ref cur)] ∧ Keep K [] H H' ∧ LsA H' ps ∧ H' cur = some (.lst (ps.map fun p => V.ref p.1)), ?_, ?_⟩
    · refine ⟨_, rfl, _, rfl, _, _, rfl, rfl, fit2 1 12 (show (("-" : Str)).length ≤ 1 by decide +kernel) hp, _, rfl, _, rfl, (show 4 ≤ sizeLine by decide), fun g1 n1 => ?_⟩
      have A1 : LsA (L2.upd X6 g1 (.lst [V.str ("desk" : Str), V.str (("-" : Str) ++ p), V.str r, V.str n])) (ps ++ [(g1, [("desk" : Str), (("-" : Str) ++ p), r, n])]) := by have z := A.add (ws := [("desk" : Str), (("-" : Str) ++ p), r, n]) n1; exact z
      have k1 : Keep K [] H (L2.upd X6 g1 (.lst [V.str ("desk" : Str), V.str (("-" : Str) ++ p), V.str r, V.str n])) := k.trans (Keep.new n1)
      have F1 : (L2.upd X6 g1 (.lst [V.str ("desk" : Str), V.str (("-" : Str) ++ p), V.str r, V.str n])) cur = some (.lst (ps.map fun p => V.ref p.1)) := (upd_ne (ne_of_none F n1)).trans F
      generalize (L2.upd X6 g1 (.lst [V.str ("desk" : Str), V.str (("-" : Str) ++ p), V.str r, V.str n])) = Y1 at A1 k1 F1 ⊢
      refine ⟨_, rfl, _, rfl, _, rfl, _, _, rfl, rfl, fit2 1 12 (show (("+" : Str)).length ≤ 1 by decide +kernel) hn, (show 4 ≤ sizeLine by decide), fun g2 n2 => ?_⟩
      have A2 : LsA (L2.upd Y1 g2 (.lst [V.str ("desk" : Str), V.str p, V.str r, V.str (("+" : Str) ++ n)])) (ps ++ [(g1, [("desk" : Str), (("-" : Str) ++ p), r, n]), (g2, [("desk" : Str), p, r, (("+" : Str) ++ n)])]) := by have z := A1.add (ws := [("desk" : Str), p, r, (("+" : Str) ++ n)]) n2; rw [List.append_assoc] at z; exact z
      have k2 : Keep K [] H (L2.upd Y1 g2 (.lst [V.str ("desk" : Str), V.str p, V.str r, V.str (("+" : Str) ++ n)])) := k1.trans (Keep.new n2)
      have F2 : (L2.upd Y1 g2 (.lst [V.str ("desk" : Str), V.str p, V.str r, V.str (("+" : Str) ++ n)])) cur = some (.lst (ps.map fun p => V.ref p.1)) := (upd_ne (ne_of_none F1 n2)).trans F1
      generalize (L2.upd Y1 g2 (.lst [V.str ("desk" : Str), V.str p, V.str r, V.str (("+" : Str) ++ n)])) = Y2 at A2 k2 F2 ⊢
      refine ⟨_, rfl, _, rfl, _, rfl, _, _, rfl, rfl, fit2 12 2 hn (show (("_0" : Str)).length ≤ 2 by decide +kernel), (show 4 ≤ sizeLine by decide), fun g3 n3 => ?_⟩
      have A3 : LsA (L2.upd Y2 g3 (.lst [V.str ("desk" : Str), V.str p, V.str r, V.str (n ++ ("_0" : Str))])) (ps ++ [(g1, [("desk" : Str), (("-" : Str) ++ p), r, n]), (g2, [("desk" : Str), p, r, (("+" : Str) ++ n)]), (g3, [("desk" : Str), p, r, (n ++ ("_0" : Str))])]) := by have z := A2.add (ws := [("desk" : Str), p, r, (n ++ ("_0" : Str))]) n3; rw [List.append_assoc] at z; exact z
      have k3 : Keep K [] H (L2.upd Y2 g3 (.lst [V.str ("desk" : Str), V.str p, V.str r, V.str (n ++ ("_0" : Str))])) := k2.trans (Keep.new n3)
      have F3 : (L2.upd Y2 g3 (.lst [V.str ("desk" : Str), V.str p, V.str r, V.str (n ++ ("_0" : Str))])) cur = some (.lst (ps.map fun p => V.ref p.1)) := (upd_ne (ne_of_none F2 n3)).trans F2
      generalize (L2.upd Y2 g3 (.lst [V.str ("desk" : Str), V.str p, V.str r, V.str (n ++ ("_0" : Str))])) = Y3 at A3 k3 F3 ⊢
      refine ⟨(show 3 ≤ sizeLine by decide), fun s1 m1 => ?_⟩
      have G1 : (L2.upd Y3 s1 (.lst [V.ref g1, V.ref g2, V.ref g3])) s1 = some (.lst [V.ref g1, V.ref g2, V.ref g3]) := upd_same
      have B1 : LsA (L2.upd Y3 s1 (.lst [V.ref g1, V.ref g2, V.ref g3])) (ps ++ [(g1, [("desk" : Str), (("-" : Str) ++ p), r, n]), (g2, [("desk" : Str), p, r, (("+" : Str) ++ n)]), (g3, [("desk" : Str), p, r, (n ++ ("_0" : Str))])]) := A3.new m1
      have j1 : Keep K [] H (L2.upd Y3 s1 (.lst [V.ref g1, V.ref g2, V.ref g3])) := k3.trans (Keep.new m1)
      have E1 : (L2.upd Y3 s1 (.lst [V.ref g1, V.ref g2, V.ref g3])) cur = some (.lst (ps.map fun p => V.ref p.1)) := (upd_ne (ne_of_none F3 m1)).trans F3
      generalize (L2.upd Y3 s1 (.lst [V.ref g1, V.ref g2, V.ref g3])) = Z1 at G1 B1 j1 E1 ⊢
      refine ⟨cur, s1, _, _, rfl, rfl, E1, G1, (by rw [List.length_map, lps]; exact (show 19 + 3 ≤ sizeLine by decide)), fun v1 w1 => ?_⟩
      refine ⟨v1, ps ++ [(g1, [("desk" : Str), (("-" : Str) ++ p), r, n]), (g2, [("desk" : Str), p, r, (("+" : Str) ++ n)]), (g3, [("desk" : Str), p, r, (n ++ ("_0" : Str))])], by rw [List.map_append, eps]; rfl, rfl, j1.trans (Keep.new w1), B1.new w1, ?_⟩
      rw [upd_same, List.map_append]
      rfl
    rintro σ' X7 ⟨cur, ps, eps, rfl, k, A, F⟩
    have lps : ps.length = 22 := by have := congrArg List.length eps; rw [List.length_map] at this; exact this
    obtain ⟨pp, e1, e2, e3⟩ := ls_at (ps := ps) hw.1 (by rw [lps]; exact hw.2)
    refine ⟨_, rfl, _, rfl, cur, _, _, .ref pp.1, rfl, rfl, .inl (.inl F), e3, ?_⟩
    refine q pp.1 pp.2 _ k ?_ (A pp e2)
    have := congrArg (Option.map Prod.snd) e1
    rw [← List.getElem?_map] at this
    exact (congrArg (·[way.toNat]?) (show heads p r n = ps.map (·.2) from eps.symm)).trans this
end
end Rr.K

set_option maxRecDepth 100000
set_option maxHeartbeats 0
namespace Rr.K
open PySem PySem.Spec PyProof.Rows L2
open GxR (TabG Tabbed)
open Evl (pss_cut)
section
variable {P : Program} {w : World} {K : PySem.W.Frag} {mg : Str → Option Value} {base : Heap}
def sp_lrow (K : PySem.W.Frag) : Sp := fun vs H Q _ => ∃ (a : Addr) (n r s t : Str) (way now : Int), vs = [.ref a, .int way, .int now] ∧ H a = some (.lst (([n, r, s, t] : List Str).map V.str)) ∧ (0 ≤ way ∧ way < 36) ∧ (n.length ≤ 12 ∧ r.length ≤ 12 ∧ s.length ≤ 12 ∧ t.length ≤ 12) ∧ (0 ≤ now ∧ now < 1000000000000) ∧ ∀ b ws H', Keep K [] H H' → (rowsB n r s t now)[way.toNat]? = some ws → H' b = some (.lst (ws.map V.str)) → Q (.ref b) H'
theorem c__law_row (T : Tx K mg base) : Cal P w K mg base 1 "_law_row" (sp_lrow K) := by
  obtain ⟨fd, F⟩ := T.d__law_row
  refine ⟨_, fd, ["_law_row_here", "_law_way", "_law_now"], okF (k := 0) F sc__law_row (fun vs H Q E h => ?_) (fun A outer s H vs Q E hr h => ?_), T.r__law_row, F.kp, F.bindsN fun _ _ _ _ _ _ us hl => match us, hl with | [_, _, _], _ => rfl⟩
  · obtain ⟨a, n, r, s, t, way, now, rfl, _⟩ := h
    rfl
  · have nd := sc__law_row.nd
    obtain ⟨a, n, r, s, t, way, now, rfl, ha, hw, ⟨hn, hr2, hs, ht⟩, hnow, q⟩ := h
    have mnow : Mod (now + 1) := ⟨by omega, by omega⟩
    refine ⟨_, (pss_cons (ps_asg (pe_tup (pa_cons (pe_ix ix_list (pv 0) pe_int (fun _ _ => rfl)) (pa_cons (pe_ix ix_list (pv 0) pe_int (fun _ _ => rfl)) (pa_cons (pe_ix ix_list (pv 0) pe_int (fun _ _ => rfl)) (pa_cons (pe_ix ix_list (pv 0) pe_int (fun _ _ => rfl)) pa_nil))))) (pg_tup rfl (pgs_cons (pg_name (i := 3) nd rfl (Or.inl rfl)) (pgs_cons (pg_name (i := 4) nd rfl (Or.inl rfl)) (pgs_cons (pg_name (i := 5) nd rfl (Or.inl rfl)) (pgs_cons (pg_name (i := 6) nd rfl (Or.inl rfl)) pgs_nil))))))
  (pss_cut (ps_set (i := 7) nd rfl (Or.inl rfl) (pe_lst (pa_cons (pe_lst (pa_cons (pv 3) (pa_cons pe_str (pa_cons (pv 5) (pa_cons (pv 6) pa_nil))))) (pa_cons (pe_lst (pa_cons (pv 3) (pa_cons (pe_op op_add_str pe_str (pv 4)) (pa_cons (pv 5) (pa_cons (pv 6) pa_nil))))) (pa_cons (pe_lst (pa_cons (pv 3) (pa_cons pe_str (pa_cons (pv 5) (pa_cons (pv 6) pa_nil))))) pa_nil)))))
  (pss_cut (ps_set (i := 7) nd rfl (Or.inl rfl) (pe_op op_cat (pv 7) (pe_lst (pa_cons (pe_lst (pa_cons (pe_op op_add_str (pv 3) pe_str) (pa_cons (pv 4) (pa_cons (pv 5) (pa_cons (pv 6) pa_nil))))) (pa_cons (pe_lst (pa_cons (pv 3) (pa_cons (pv 4) (pa_cons pe_str (pa_cons (pv 6) pa_nil))))) (pa_cons (pe_lst (pa_cons (pv 3) (pa_cons (pv 4) (pa_cons pe_str (pa_cons (pe_callTy call_str_int (by rfl) T.m_str (by decide +kernel) (pa_cons (pe_op op_add (pv 2) pe_int) pa_nil)) pa_nil))))) pa_nil))))))
  (pss_cut (ps_set (i := 7) nd rfl (Or.inl rfl) (pe_op op_cat (pv 7) (pe_lst (pa_cons (pe_lst (pa_cons (pv 3) (pa_cons (pv 4) (pa_cons pe_str (pa_cons pe_str pa_nil))))) (pa_cons (pe_lst (pa_cons (pv 3) (pa_cons (pv 4) (pa_cons pe_str (pa_cons pe_str pa_nil))))) (pa_cons (pe_lst (pa_cons (pv 3) (pa_cons (pv 4) (pa_cons pe_str (pa_cons pe_str pa_nil))))) pa_nil))))))
  (pss_cut (ps_set (i := 7) nd rfl (Or.inl rfl) (pe_op op_cat (pv 7) (pe_lst (pa_cons (pe_lst (pa_cons (pv 3) (pa_cons (pv 4) (pa_cons (pv 5) pa_nil)))) (pa_cons (pe_lst (pa_cons (pv 3) (pa_cons (pv 4) (pa_cons (pv 5) (pa_cons (pv 6) (pa_cons (pv 6) pa_nil)))))) (pa_cons (pe_lst (pa_cons pe_str (pa_cons (pv 3) (pa_cons (pv 4) (pa_cons (pv 5) (pa_cons (pv 6) pa_nil)))))) (pa_cons (pe_lst (pa_cons pe_str pa_nil)) pa_nil)))))))
  (pss_cut (ps_set (i := 7) nd rfl (Or.inl rfl) (pe_op op_cat (pv 7) (pe_lst (pa_cons (pe_lst (pa_cons (pv 3) (pa_cons (pv 4) (pa_cons (pv 5) (pa_cons (pv 6) (pa_cons pe_str pa_nil)))))) (pa_cons (pe_lst (pa_cons (pv 3) (pa_cons pe_str (pa_cons (pv 4) (pa_cons (pv 5) (pa_cons (pv 6) pa_nil)))))) (pa_cons (pe_lst (pa_cons (pv 3) (pa_cons (pe_op op_add_str pe_str (pv 4)) (pa_cons (pv 5) (pa_cons (pv 6) pa_nil))))) pa_nil))))))
  (pss_cut (ps_set (i := 7) nd rfl (Or.inl rfl) (pe_op op_cat (pv 7) (pe_lst (pa_cons (pe_lst (pa_cons (pv 3) (pa_cons (pv 4) (pa_cons pe_str (pa_cons pe_str pa_nil))))) (pa_cons (pe_lst (pa_cons (pv 3) (pa_cons (pv 4) (pa_cons pe_str (pa_cons pe_str pa_nil))))) (pa_cons (pe_lst (pa_cons (pv 3) (pa_cons (pv 4) (pa_cons pe_str (pa_cons pe_str pa_nil))))) pa_nil))))))
  (pss_cut (ps_set (i := 7) nd rfl (Or.inl rfl) (pe_op op_cat (pv 7) (pe_lst (pa_cons (pe_lst (pa_cons (pv 3) (pa_cons (pv 4) (pa_cons pe_str (pa_cons (pv 6) pa_nil))))) (pa_cons (pe_lst (pa_cons (pv 3) (pa_cons (pv 4) (pa_cons pe_str (pa_cons pe_str pa_nil))))) (pa_cons (pe_lst (pa_cons (pv 3) (pa_cons pe_str (pa_cons (pv 5) (pa_cons (pv 6) pa_nil))))) pa_nil))))))
  (pss_cut (ps_set (i := 7) nd rfl (Or.inl rfl) (pe_op op_cat (pv 7) (pe_lst (pa_cons (pe_lst (pa_cons (pe_op op_add_str (pe_op op_add_str (pv 3) pe_str) (pv 4)) (pa_cons (pv 5) (pa_cons (pv 6) pa_nil)))) (pa_cons (pe_lst (pa_cons (pv 3) (pa_cons (pv 4) (pa_cons (pv 5) (pa_cons (pe_op op_add_str (pv 6) pe_str) pa_nil))))) (pa_cons (pe_lst (pa_cons (pv 3) (pa_cons (pe_op op_add_str pe_str (pv 4)) (pa_cons (pv 5) (pa_cons (pv 6) pa_nil))))) pa_nil))))))
  (pss_cut (ps_set (i := 7) nd rfl (Or.inl rfl) (pe_op op_cat (pv 7) (pe_lst (pa_cons (pe_lst (pa_cons (pv 3) (pa_cons (pv 4) (pa_cons pe_str (pa_cons pe_str pa_nil))))) (pa_cons (pe_lst (pa_cons (pv 3) (pa_cons (pv 4) (pa_cons (pe_op op_add_str (pv 5) pe_str) (pa_cons (pv 6) pa_nil))))) (pa_cons (pe_lst (pa_cons (pv 3) (pa_cons (pv 4) (pa_cons pe_str (pa_cons pe_str pa_nil))))) pa_nil))))))
  (pss_cut (ps_set (i := 7) nd rfl (Or.inl rfl) (pe_op op_cat (pv 7) (pe_lst (pa_cons (pe_lst (pa_cons (pv 3) (pa_cons (pv 4) (pa_cons pe_str (pa_cons pe_str pa_nil))))) (pa_cons (pe_lst (pa_cons (pv 3) (pa_cons (pv 4) (pa_cons pe_str (pa_cons pe_str pa_nil))))) (pa_cons (pe_lst (pa_cons (pv 3) (pa_cons (pv 4) (pa_cons pe_str (pa_cons pe_str pa_nil))))) pa_nil))))))
  (pss_cut (ps_set (i := 7) nd rfl (Or.inl rfl) (pe_op op_cat (pv 7) (pe_lst (pa_cons (pe_lst (pa_cons (pv 3) (pa_cons (pv 4) (pa_cons pe_str (pa_cons pe_str pa_nil))))) (pa_cons (pe_lst (pa_cons (pv 3) (pa_cons (pv 4) (pa_cons pe_str (pa_cons (pe_op op_add_str pe_str (pe_op op_mul_str pe_str pe_int)) pa_nil))))) pa_nil)))))
  (pss_cut (ps_set (i := 7) nd rfl (Or.inl rfl) (pe_op op_cat (pv 7) (pe_lst (pa_cons (pe_lst (pa_cons (pe_op op_mul_str pe_str pe_int) (pa_cons (pv 4) (pa_cons (pv 5) (pa_cons (pv 6) pa_nil))))) (pa_cons (pe_lst (pa_cons (pv 3) (pa_cons (pv 4) (pa_cons pe_str (pa_cons (pe_op op_mul_str pe_str pe_int) pa_nil))))) (pa_cons (pe_lst (pa_cons (pv 3) (pa_cons (pv 4) (pa_cons pe_str (pa_cons pe_str pa_nil))))) pa_nil))))))
  (pss_one (ps_ret (pe_ix ix_list (pv 7) (pv 1) (fun _ _ => rfl))))))))))))))))), ?_⟩
    refine ⟨_, rfl, a, _, _, .str n, rfl, rfl, .inl (.inl ha), rfl, _, rfl, a, _, _, .str r, rfl, rfl, .inl (.inl ha), rfl, _, rfl, a, _, _, .str s, rfl, rfl, .inl (.inl ha), rfl, _, rfl, a, _, _, .str t, rfl, rfl, .inl (.inl ha), rfl, (show 4 ≤ sizeLine by decide), fun tt ntt => ?_⟩
    have A0 : LsA (L2.upd H tt (.tup [.str n, .str r, .str s, .str t])) [] := .nil
    have k0 : Keep K [] H (L2.upd H tt (.tup [.str n, .str r, .str s, .str t])) := Keep.new ntt
    have T0 : (L2.upd H tt (.tup [.str n, .str r, .str s, .str t])) tt = some (.tup [.str n, .str r, .str s, .str t]) := upd_same
    generalize L2.upd H tt (.tup [.str n, .str r, .str s, .str t]) = X0 at A0 k0 T0 ⊢
    refine ⟨tt, _, rfl, .inl (.inl T0), rfl, _, _, rfl, _, _, rfl, _, _, rfl, _, _, rfl, rfl, ?_⟩
    refine ⟨fun σ' H' => ∃ (cur : Addr) (ps : List (Addr × List Str)), ps.map (·.2) = (rowsB n r s t now).take 3 ∧ σ' = [some (.ref a), some (.int way), some (.int now), some (.str n), some (.str r), some (.str s), some (.str t), some (.ref cur)] ∧ Keep K [] H H' ∧ LsA H' ps ∧ H' cur = some (.lst (ps.map fun p => V.ref p.1)), ?_, ?_⟩
    · refine ⟨_, rfl, _, rfl, _, rfl, (show 4 ≤ sizeLine by decide), fun g1 n1 => ?_⟩
      have A1 : LsA (L2.upd X0 g1 (.lst [V.str n, V.str ("100" : Str), V.str s, V.str t])) ([] ++ [(g1, [n, ("100" : Str), s, t])]) := by have z := A0.add (ws := [n, ("100" : Str), s, t]) n1; exact z
      have k1 : Keep K [] H (L2.upd X0 g1 (.lst [V.str n, V.str ("100" : Str), V.str s, V.str t])) := k0.trans (Keep.new n1)
      generalize (L2.upd X0 g1 (.lst [V.str n, V.str ("100" : Str), V.str s, V.str t])) = Y1 at A1 k1 ⊢
      refine ⟨_, rfl, _, rfl, _, _, rfl, rfl, fit2 1 12 (show (("0" : Str)).length ≤ 1 by decide +kernel) hr2, _, rfl, _, rfl, (show 4 ≤ sizeLine by decide), fun g2 n2 => ?_⟩
      have A2 : LsA (L2.upd Y1 g2 (.lst [V.str n, V.str (("0" : Str) ++ r), V.str s, V.str t])) ([] ++ [(g1, [n, ("100" : Str), s, t]), (g2, [n, (("0" : Str) ++ r), s, t])]) := by have z := A1.add (ws := [n, (("0" : Str) ++ r), s, t]) n2; rw [List.append_assoc] at z; exact z
      have k2 : Keep K [] H (L2.upd Y1 g2 (.lst [V.str n, V.str (("0" : Str) ++ r), V.str s, V.str t])) := k1.trans (Keep.new n2)
      generalize (L2.upd Y1 g2 (.lst [V.str n, V.str (("0" : Str) ++ r), V.str s, V.str t])) = Y2 at A2 k2 ⊢
      refine ⟨_, rfl, _, rfl, _, rfl, (show 4 ≤ sizeLine by decide), fun g3 n3 => ?_⟩
      have A3 : LsA (L2.upd Y2 g3 (.lst [V.str n, V.str ("" : Str), V.str s, V.str t])) ([] ++ [(g1, [n, ("100" : Str), s, t]), (g2, [n, (("0" : Str) ++ r), s, t]), (g3, [n, ("" : Str), s, t])]) := by have z := A2.add (ws := [n, ("" : Str), s, t]) n3; rw [List.append_assoc] at z; exact z
      have k3 : Keep K [] H (L2.upd Y2 g3 (.lst [V.str n, V.str ("" : Str), V.str s, V.str t])) := k2.trans (Keep.new n3)
      generalize (L2.upd Y2 g3 (.lst [V.str n, V.str ("" : Str), V.str s, V.str t])) = Y3 at A3 k3 ⊢
      refine ⟨(show 3 ≤ sizeLine by decide), fun s1 m1 => ?_⟩
      have G1 : (L2.upd Y3 s1 (.lst [V.ref g1, V.ref g2, V.ref g3])) s1 = some (.lst [V.ref g1, V.ref g2, V.ref g3]) := upd_same
      have B1 : LsA (L2.upd Y3 s1 (.lst [V.ref g1, V.ref g2, V.ref g3])) ([] ++ [(g1, [n, ("100" : Str), s, t]), (g2, [n, (("0" : Str) ++ r), s, t]), (g3, [n, ("" : Str), s, t])]) := A3.new m1
      have j1 : Keep K [] H (L2.upd Y3 s1 (.lst [V.ref g1, V.ref g2, V.ref g3])) := k3.trans (Keep.new m1)
      exact ⟨s1, [] ++ [(g1, [n, ("100" : Str), s, t]), (g2, [n, (("0" : Str) ++ r), s, t]), (g3, [n, ("" : Str), s, t])], rfl, rfl, j1, B1, G1⟩
    rintro σ' X1 ⟨cur, ps, eps, rfl, k, A, F⟩
    have lps : ps.length = 3 := by have := congrArg List.length eps; rw [List.length_map] at this; exact this
    refine ⟨fun σ' H' => ∃ (cur : Addr) (ps : List (Addr × List Str)), ps.map (·.2) = (rowsB n r s t now).take 6 ∧ σ' = [some (.ref a), some (.int way), some (.int now), some (.str n), some (.str r), some (.str s), some (.str t), some (.ref cur)] ∧ Keep K [] H H' ∧ LsA H' ps ∧ H' cur = some (.lst (ps.map fun p => V.ref p.1)), ?_, ?_⟩
    · refine ⟨_, rfl, _, rfl, _, _, rfl, rfl, fit2 12 1 hn (show (("-" : Str)).length ≤ 1 by decide +kernel), _, rfl, _, rfl, _, rfl, (show 4 ≤ sizeLine by decide), fun g1 n1 => ?_⟩
      have A1 : LsA (L2.upd X1 g1 (.lst [V.str (n ++ ("-" : Str)), V.str r, V.str s, V.str t])) (ps ++ [(g1, [(n ++ ("-" : Str)), r, s, t])]) := by have z := A.add (ws := [(n ++ ("-" : Str)), r, s, t]) n1; exact z
      have k1 : Keep K [] H (L2.upd X1 g1 (.lst [V.str (n ++ ("-" : Str)), V.str r, V.str s, V.str t])) := k.trans (Keep.new n1)
      have F1 : (L2.upd X1 g1 (.lst [V.str (n ++ ("-" : Str)), V.str r, V.str s, V.str t])) cur = some (.lst (ps.map fun p => V.ref p.1)) := (upd_ne (ne_of_none F n1)).trans F
      generalize (L2.upd X1 g1 (.lst [V.str (n ++ ("-" : Str)), V.str r, V.str s, V.str t])) = Y1 at A1 k1 F1 ⊢
      refine ⟨_, rfl, _, rfl, _, rfl, (show 4 ≤ sizeLine by decide), fun g2 n2 => ?_⟩
      have A2 : LsA (L2.upd Y1 g2 (.lst [V.str n, V.str r, V.str ("Ready" : Str), V.str t])) (ps ++ [(g1, [(n ++ ("-" : Str)), r, s, t]), (g2, [n, r, ("Ready" : Str), t])]) := by have z := A1.add (ws := [n, r, ("Ready" : Str), t]) n2; rw [List.append_assoc] at z; exact z
      have k2 : Keep K [] H (L2.upd Y1 g2 (.lst [V.str n, V.str r, V.str ("Ready" : Str), V.str t])) := k1.trans (Keep.new n2)
      have F2 : (L2.upd Y1 g2 (.lst [V.str n, V.str r, V.str ("Ready" : Str), V.str t])) cur = some (.lst (ps.map fun p => V.ref p.1)) := (upd_ne (ne_of_none F1 n2)).trans F1
      generalize (L2.upd Y1 g2 (.lst [V.str n, V.str r, V.str ("Ready" : Str), V.str t])) = Y2 at A2 k2 F2 ⊢
      refine ⟨_, rfl, _, rfl, _, rfl, _, _, rfl, rfl, _, rfl, mnow.log, (show 4 ≤ sizeLine by decide), fun g3 n3 => ?_⟩
      have A3 : LsA (L2.upd Y2 g3 (.lst [V.str n, V.str r, V.str ("ready" : Str), V.str (numT (now + 1))])) (ps ++ [(g1, [(n ++ ("-" : Str)), r, s, t]), (g2, [n, r, ("Ready" : Str), t]), (g3, [n, r, ("ready" : Str), numT (now + 1)])]) := by have z := A2.add (ws := [n, r, ("ready" : Str), numT (now + 1)]) n3; rw [List.append_assoc] at z; exact z
      have k3 : Keep K [] H (L2.upd Y2 g3 (.lst [V.str n, V.str r, V.str ("ready" : Str), V.str (numT (now + 1))])) := k2.trans (Keep.new n3)
      have F3 : (L2.upd Y2 g3 (.lst [V.str n, V.str r, V.str ("ready" : Str), V.str (numT (now + 1))])) cur = some (.lst (ps.map fun p => V.ref p.1)) := (upd_ne (ne_of_none F2 n3)).trans F2
      generalize (L2.upd Y2 g3 (.lst [V.str n, V.str r, V.str ("ready" : Str), V.str (numT (now + 1))])) = Y3 at A3 k3 F3 ⊢
      refine ⟨(show 3 ≤ sizeLine by decide), fun s1 m1 => ?_⟩
      have G1 : (L2.upd Y3 s1 (.lst [V.ref g1, V.ref g2, V.ref g3])) s1 = some (.lst [V.ref g1, V.ref g2, V.ref g3]) := upd_same
      have B1 : LsA (L2.upd Y3 s1 (.lst [V.ref g1, V.ref g2, V.ref g3])) (ps ++ [(g1, [(n ++ ("-" : Str)), r, s, t]), (g2, [n, r, ("Ready" : Str), t]), (g3, [n, r, ("ready" : Str), numT (now + 1)])]) := A3.new m1
      have j1 : Keep K [] H (L2.upd Y3 s1 (.lst [V.ref g1, V.ref g2, V.ref g3])) := k3.trans (Keep.new m1)
      have E1 : (L2.upd Y3 s1 (.lst [V.ref g1, V.ref g2, V.ref g3])) cur = some (.lst (ps.map fun p => V.ref p.1)) := (upd_ne (ne_of_none F3 m1)).trans F3
      generalize (L2.upd Y3 s1 (.lst [V.ref g1, V.ref g2, V.ref g3])) = Z1 at G1 B1 j1 E1 ⊢
      refine ⟨cur, s1, _, _, rfl, rfl, E1, G1, (by rw [List.length_map, lps]; exact (show 3 + 3 ≤ sizeLine by decide)), fun v1 w1 => ?_⟩
      refine ⟨v1, ps ++ [(g1, [(n ++ ("-" : Str)), r, s, t]), (g2, [n, r, ("Ready" : Str), t]), (g3, [n, r, ("ready" : Str), numT (now + 1)])], by rw [List.map_append, eps]; rfl, rfl, j1.trans (Keep.new w1), B1.new w1, ?_⟩
      rw [upd_same, List.map_append]
      rfl
    rintro σ' X2 ⟨cur, ps, eps, rfl, k, A, F⟩
    have lps : ps.length = 6 := by have := congrArg List.length eps; rw [List.length_map] at this; exact this
    refine ⟨fun σ' H' => ∃ (cur : Addr) (ps : List (Addr × List Str)), ps.map (·.2) = (rowsB n r s t now).take 9 ∧ σ' = [some (.ref a), some (.int way), some (.int now), some (.str n), some (.str r), some (.str s), some (.str t), some (.ref cur)] ∧ Keep K [] H H' ∧ LsA H' ps ∧ H' cur = some (.lst (ps.map fun p => V.ref p.1)), ?_, ?_⟩
    · refine ⟨_, rfl, _, rfl, _, rfl, (show 4 ≤ sizeLine by decide), fun g1 n1 => ?_⟩
      have A1 : LsA (L2.upd X2 g1 (.lst [V.str n, V.str r, V.str ("asleep" : Str), V.str ("0" : Str)])) (ps ++ [(g1, [n, r, ("asleep" : Str), ("0" : Str)])]) := by have z := A.add (ws := [n, r, ("asleep" : Str), ("0" : Str)]) n1; exact z
      have k1 : Keep K [] H (L2.upd X2 g1 (.lst [V.str n, V.str r, V.str ("asleep" : Str), V.str ("0" : Str)])) := k.trans (Keep.new n1)
      have F1 : (L2.upd X2 g1 (.lst [V.str n, V.str r, V.str ("asleep" : Str), V.str ("0" : Str)])) cur = some (.lst (ps.map fun p => V.ref p.1)) := (upd_ne (ne_of_none F n1)).trans F
      generalize (L2.upd X2 g1 (.lst [V.str n, V.str r, V.str ("asleep" : Str), V.str ("0" : Str)])) = Y1 at A1 k1 F1 ⊢
      refine ⟨_, rfl, _, rfl, (show 4 ≤ sizeLine by decide), fun g2 n2 => ?_⟩
      have A2 : LsA (L2.upd Y1 g2 (.lst [V.str n, V.str r, V.str ("asleep" : Str), V.str ("1001" : Str)])) (ps ++ [(g1, [n, r, ("asleep" : Str), ("0" : Str)]), (g2, [n, r, ("asleep" : Str), ("1001" : Str)])]) := by have z := A1.add (ws := [n, r, ("asleep" : Str), ("1001" : Str)]) n2; rw [List.append_assoc] at z; exact z
      have k2 : Keep K [] H (L2.upd Y1 g2 (.lst [V.str n, V.str r, V.str ("asleep" : Str), V.str ("1001" : Str)])) := k1.trans (Keep.new n2)
      have F2 : (L2.upd Y1 g2 (.lst [V.str n, V.str r, V.str ("asleep" : Str), V.str ("1001" : Str)])) cur = some (.lst (ps.map fun p => V.ref p.1)) := (upd_ne (ne_of_none F1 n2)).trans F1
      generalize (L2.upd Y1 g2 (.lst [V.str n, V.str r, V.str ("asleep" : Str), V.str ("1001" : Str)])) = Y2 at A2 k2 F2 ⊢
      refine ⟨_, rfl, _, rfl, (show 4 ≤ sizeLine by decide), fun g3 n3 => ?_⟩
      have A3 : LsA (L2.upd Y2 g3 (.lst [V.str n, V.str r, V.str ("waiting" : Str), V.str ("A" : Str)])) (ps ++ [(g1, [n, r, ("asleep" : Str), ("0" : Str)]), (g2, [n, r, ("asleep" : Str), ("1001" : Str)]), (g3, [n, r, ("waiting" : Str), ("A" : Str)])]) := by have z := A2.add (ws := [n, r, ("waiting" : Str), ("A" : Str)]) n3; rw [List.append_assoc] at z; exact z
      have k3 : Keep K [] H (L2.upd Y2 g3 (.lst [V.str n, V.str r, V.str ("waiting" : Str), V.str ("A" : Str)])) := k2.trans (Keep.new n3)
      have F3 : (L2.upd Y2 g3 (.lst [V.str n, V.str r, V.str ("waiting" : Str), V.str ("A" : Str)])) cur = some (.lst (ps.map fun p => V.ref p.1)) := (upd_ne (ne_of_none F2 n3)).trans F2
      generalize (L2.upd Y2 g3 (.lst [V.str n, V.str r, V.str ("waiting" : Str), V.str ("A" : Str)])) = Y3 at A3 k3 F3 ⊢
      refine ⟨(show 3 ≤ sizeLine by decide), fun s1 m1 => ?_⟩
      have G1 : (L2.upd Y3 s1 (.lst [V.ref g1, V.ref g2, V.ref g3])) s1 = some (.lst [V.ref g1, V.ref g2, V.ref g3]) := upd_same
      have B1 : LsA (L2.upd Y3 s1 (.lst [V.ref g1, V.ref g2, V.ref g3])) (ps ++ [(g1, [n, r, ("asleep" : Str), ("0" : Str)]), (g2, [n, r, ("asleep" : Str), ("1001" : Str)]), (g3, [n, r, ("waiting" : Str), ("A" : Str)])]) := A3.new m1
      have j1 : Keep K [] H (L2.upd Y3 s1 (.lst [V.ref g1, V.ref g2, V.ref g3])) := k3.trans (Keep.new m1)
      have E1 : (L2.upd Y3 s1 (.lst [V.ref g1, V.ref g2, V.ref g3])) cur = some (.lst (ps.map fun p => V.ref p.1)) := (upd_ne (ne_of_none F3 m1)).trans F3
      generalize (L2.upd Y3 s1 (.lst [V.ref g1, V.ref g2, V.ref g3])) = Z1 at G1 B1 j1 E1 ⊢
      refine ⟨cur, s1, _, _, rfl, rfl, E1, G1, (by rw [List.length_map, lps]; exact (show 6 + 3 ≤ sizeLine by decide)), fun v1 w1 => ?_⟩
      refine ⟨v1, ps ++ [(g1, [n, r, ("asleep" : Str), ("0" : Str)]), (g2, [n, r, ("asleep" : Str), ("1001" : Str)]), (g3, [n, r, ("waiting" : Str), ("A" : Str)])], by rw [List.map_append, eps]; rfl, rfl, j1.trans (Keep.new w1), B1.new w1, ?_⟩
      rw [upd_same, List.map_append]
      rfl
    rintro σ' X3 ⟨cur, ps, eps, rfl, k, A, F⟩
    have lps : ps.length = 9 := by have := congrArg List.length eps; rw [List.length_map] at this; exact this
    refine ⟨fun σ' H' => ∃ (cur : Addr) (ps : List (Addr × List Str)), ps.map (·.2) = (rowsB n r s t now).take 13 ∧ σ' = [some (.ref a), some (.int way), some (.int now), some (.str n), some (.str r), some (.str s), some (.str t), some (.ref cur)] ∧ Keep K [] H H' ∧ LsA H' ps ∧ H' cur = some (.lst (ps.map fun p => V.ref p.1)), ?_, ?_⟩
    · refine ⟨_, rfl, _, rfl, _, rfl, _, rfl, (show 3 ≤ sizeLine by decide), fun g1 n1 => ?_⟩
      have A1 : LsA (L2.upd X3 g1 (.lst [V.str n, V.str r, V.str s])) (ps ++ [(g1, [n, r, s])]) := by have z := A.add (ws := [n, r, s]) n1; exact z
      have k1 : Keep K [] H (L2.upd X3 g1 (.lst [V.str n, V.str r, V.str s])) := k.trans (Keep.new n1)
      have F1 : (L2.upd X3 g1 (.lst [V.str n, V.str r, V.str s])) cur = some (.lst (ps.map fun p => V.ref p.1)) := (upd_ne (ne_of_none F n1)).trans F
      generalize (L2.upd X3 g1 (.lst [V.str n, V.str r, V.str s])) = Y1 at A1 k1 F1 ⊢
      refine ⟨_, rfl, _, rfl, _, rfl, _, rfl, _, rfl, (show 5 ≤ sizeLine by decide), fun g2 n2 => ?_⟩
      have A2 : LsA (L2.upd Y1 g2 (.lst [V.str n, V.str r, V.str s, V.str t, V.str t])) (ps ++ [(g1, [n, r, s]), (g2, [n, r, s, t, t])]) := by have z := A1.add (ws := [n, r, s, t, t]) n2; rw [List.append_assoc] at z; exact z
      have k2 : Keep K [] H (L2.upd Y1 g2 (.lst [V.str n, V.str r, V.str s, V.str t, V.str t])) := k1.trans (Keep.new n2)
      have F2 : (L2.upd Y1 g2 (.lst [V.str n, V.str r, V.str s, V.str t, V.str t])) cur = some (.lst (ps.map fun p => V.ref p.1)) := (upd_ne (ne_of_none F1 n2)).trans F1
      generalize (L2.upd Y1 g2 (.lst [V.str n, V.str r, V.str s, V.str t, V.str t])) = Y2 at A2 k2 F2 ⊢
      refine ⟨_, rfl, _, rfl, _, rfl, _, rfl, (show 5 ≤ sizeLine by decide), fun g3 n3 => ?_⟩
      have A3 : LsA (L2.upd Y2 g3 (.lst [V.str ("" : Str), V.str n, V.str r, V.str s, V.str t])) (ps ++ [(g1, [n, r, s]), (g2, [n, r, s, t, t]), (g3, [("" : Str), n, r, s, t])]) := by have z := A2.add (ws := [("" : Str), n, r, s, t]) n3; rw [List.append_assoc] at z; exact z
      have k3 : Keep K [] H (L2.upd Y2 g3 (.lst [V.str ("" : Str), V.str n, V.str r, V.str s, V.str t])) := k2.trans (Keep.new n3)
      have F3 : (L2.upd Y2 g3 (.lst [V.str ("" : Str), V.str n, V.str r, V.str s, V.str t])) cur = some (.lst (ps.map fun p => V.ref p.1)) := (upd_ne (ne_of_none F2 n3)).trans F2
      generalize (L2.upd Y2 g3 (.lst [V.str ("" : Str), V.str n, V.str r, V.str s, V.str t])) = Y3 at A3 k3 F3 ⊢
      refine ⟨(show 1 ≤ sizeLine by decide), fun g4 n4 => ?_⟩
      have A4 : LsA (L2.upd Y3 g4 (.lst [V.str ("" : Str)])) (ps ++ [(g1, [n, r, s]), (g2, [n, r, s, t, t]), (g3, [("" : Str), n, r, s, t]), (g4, [("" : Str)])]) := by have z := A3.add (ws := [("" : Str)]) n4; rw [List.append_assoc] at z; exact z
      have k4 : Keep K [] H (L2.upd Y3 g4 (.lst [V.str ("" : Str)])) := k3.trans (Keep.new n4)
      have F4 : (L2.upd Y3 g4 (.lst [V.str ("" : Str)])) cur = some (.lst (ps.map fun p => V.ref p.1)) := (upd_ne (ne_of_none F3 n4)).trans F3
      generalize (L2.upd Y3 g4 (.lst [V.str ("" : Str)])) = Y4 at A4 k4 F4 ⊢
      refine ⟨(show 4 ≤ sizeLine by decide), fun s1 m1 => ?_⟩
      have G1 : (L2.upd Y4 s1 (.lst [V.ref g1, V.ref g2, V.ref g3, V.ref g4])) s1 = some (.lst [V.ref g1, V.ref g2, V.ref g3, V.ref g4]) := upd_same
      have B1 : LsA (L2.upd Y4 s1 (.lst [V.ref g1, V.ref g2, V.ref g3, V.ref g4])) (ps ++ [(g1, [n, r, s]), (g2, [n, r, s, t, t]), (g3, [("" : Str), n, r, s, t]), (g4, [("" : Str)])]) := A4.new m1
      have j1 : Keep K [] H (L2.upd Y4 s1 (.lst [V.ref g1, V.ref g2, V.ref g3, V.ref g4])) := k4.trans (Keep.new m1)
      have E1 : (L2.upd Y4 s1 (.lst [V.ref g1, V.ref g2, V.ref g3, V.ref g4])) cur = some (.lst (ps.map fun p => V.ref p.1)) := (upd_ne (ne_of_none F4 m1)).trans F4
      generalize (L2.upd Y4 s1 (.lst [V.ref g1, V.ref g2, V.ref g3, V.ref g4])) = Z1 at G1 B1 j1 E1 ⊢
      refine ⟨cur, s1, _, _, rfl, rfl, E1, G1, (by rw [List.length_map, lps]; exact (show 9 + 4 ≤ sizeLine by decide)), fun v1 w1 => ?_⟩
      refine ⟨v1, ps ++ [(g1, [n, r, s]), (g2, [n, r, s, t, t]), (g3, [("" : Str), n, r, s, t]), (g4, [("" : Str)])], by rw [List.map_append, eps]; rfl, rfl, j1.trans (Keep.new w1), B1.new w1, ?_⟩
      rw [upd_same, List.map_append]
      rfl
    rintro σ' X4 ⟨cur, ps, eps, rfl, k, A, F⟩
    have lps : ps.length = 13 := by have := congrArg List.length eps; rw [List.length_map] at this; exact this
    refine ⟨fun σ' H' => ∃ (cur : Addr) (ps : List (Addr × List Str)), ps.map (·.2) = (rowsB n r s t now).take 16 ∧ σ' = [some (.ref a), some (.int way), some (.int now), some (.str n), some (.str r), some (.str s), some (.str t), some (.ref cur)] ∧ Keep K [] H H' ∧ LsA H' ps ∧ H' cur = some (.lst (ps.map fun p => V.ref p.1)), ?_, ?_⟩
    · refine ⟨_, rfl, _, rfl, _, rfl, _, rfl, _, rfl, (show 5 ≤ sizeLine by decide), fun g1 n1 => ?_⟩
      have A1 : LsA (L2.upd X4 g1 (.lst [V.str n, V.str r, V.str s, V.str t, V.str ("" : Str)])) (ps ++ [(g1, [n, r, s, t, ("" : Str)])]) := by have z := A.add (ws := [n, r, s, t, ("" : Str)]) n1; exact z
      have k1 : Keep K [] H (L2.upd X4 g1 (.lst [V.str n, V.str r, V.str s, V.str t, V.str ("" : Str)])) := k.trans (Keep.new n1)
      have F1 : (L2.upd X4 g1 (.lst [V.str n, V.str r, V.str s, V.str t, V.str ("" : Str)])) cur = some (.lst (ps.map fun p => V.ref p.1)) := (upd_ne (ne_of_none F n1)).trans F
      generalize (L2.upd X4 g1 (.lst [V.str n, V.str r, V.str s, V.str t, V.str ("" : Str)])) = Y1 at A1 k1 F1 ⊢
      refine ⟨_, rfl, _, rfl, _, rfl, _, rfl, (show 5 ≤ sizeLine by decide), fun g2 n2 => ?_⟩
      have A2 : LsA (L2.upd Y1 g2 (.lst [V.str n, V.str ("" : Str), V.str r, V.str s, V.str t])) (ps ++ [(g1, [n, r, s, t, ("" : Str)]), (g2, [n, ("" : Str), r, s, t])]) := by have z := A1.add (ws := [n, ("" : Str), r, s, t]) n2; rw [List.append_assoc] at z; exact z
      have k2 : Keep K [] H (L2.upd Y1 g2 (.lst [V.str n, V.str ("" : Str), V.str r, V.str s, V.str t])) := k1.trans (Keep.new n2)
      have F2 : (L2.upd Y1 g2 (.lst [V.str n, V.str ("" : Str), V.str r, V.str s, V.str t])) cur = some (.lst (ps.map fun p => V.ref p.1)) := (upd_ne (ne_of_none F1 n2)).trans F1
      generalize (L2.upd Y1 g2 (.lst [V.str n, V.str ("" : Str), V.str r, V.str s, V.str t])) = Y2 at A2 k2 F2 ⊢
      refine ⟨_, rfl, _, rfl, _, _, rfl, rfl, fit2 1 12 (show (("+" : Str)).length ≤ 1 by decide +kernel) hr2, _, rfl, _, rfl, (show 4 ≤ sizeLine by decide), fun g3 n3 => ?_⟩
      have A3 : LsA (L2.upd Y2 g3 (.lst [V.str n, V.str (("+" : Str) ++ r), V.str s, V.str t])) (ps ++ [(g1, [n, r, s, t, ("" : Str)]), (g2, [n, ("" : Str), r, s, t]), (g3, [n, (("+" : Str) ++ r), s, t])]) := by have z := A2.add (ws := [n, (("+" : Str) ++ r), s, t]) n3; rw [List.append_assoc] at z; exact z
      have k3 : Keep K [] H (L2.upd Y2 g3 (.lst [V.str n, V.str (("+" : Str) ++ r), V.str s, V.str t])) := k2.trans (Keep.new n3)
      have F3 : (L2.upd Y2 g3 (.lst [V.str n, V.str (("+" : Str) ++ r), V.str s, V.str t])) cur = some (.lst (ps.map fun p => V.ref p.1)) := (upd_ne (ne_of_none F2 n3)).trans F2
      generalize (L2.upd Y2 g3 (.lst [V.str n, V.str (("+" : Str) ++ r), V.str s, V.str t])) = Y3 at A3 k3 F3 ⊢
      refine ⟨(show 3 ≤ sizeLine by decide), fun s1 m1 => ?_⟩
      have G1 : (L2.upd Y3 s1 (.lst [V.ref g1, V.ref g2, V.ref g3])) s1 = some (.lst [V.ref g1, V.ref g2, V.ref g3]) := upd_same
      have B1 : LsA (L2.upd Y3 s1 (.lst [V.ref g1, V.ref g2, V.ref g3])) (ps ++ [(g1, [n, r, s, t, ("" : Str)]), (g2, [n, ("" : Str), r, s, t]), (g3, [n, (("+" : Str) ++ r), s, t])]) := A3.new m1
      have j1 : Keep K [] H (L2.upd Y3 s1 (.lst [V.ref g1, V.ref g2, V.ref g3])) := k3.trans (Keep.new m1)
      have E1 : (L2.upd Y3 s1 (.lst [V.ref g1, V.ref g2, V.ref g3])) cur = some (.lst (ps.map fun p => V.ref p.1)) := (upd_ne (ne_of_none F3 m1)).trans F3
      generalize (L2.upd Y3 s1 (.lst [V.ref g1, V.ref g2, V.ref g3])) = Z1 at G1 B1 j1 E1 ⊢
      refine ⟨cur, s1, _, _, rfl, rfl, E1, G1, (by rw [List.length_map, lps]; exact (show 13 + 3 ≤ sizeLine by decide)), fun v1 w1 => ?_⟩
      refine ⟨v1, ps ++ [(g1, [n, r, s, t, ("" : Str)]), (g2, [n, ("" : Str), r, s, t]), (g3, [n, (("+" : Str) ++ r), s, t])], by rw [List.map_append, eps]; rfl, rfl, j1.trans (Keep.new w1), B1.new w1, ?_⟩
      rw [upd_same, List.map_append]
      rfl
    rintro σ' X5 ⟨cur, ps, eps, rfl, k, A, F⟩
    have lps : ps.length = 16 := by have := congrArg List.length eps; rw [List.length_map] at this; exact this
    refine ⟨fun σ' H' => ∃ (cur : Addr) (ps : List (Addr × List Str)), ps.map (·.2) = (rowsB n r s t now).take 19 ∧ σ' = [some (.ref a), some (.int way), some (.int now), some (.str n), some (.str r), some (.str s), some (.str t), some (.ref cur)] ∧ Keep K [] H H' ∧ LsA H' ps ∧ H' cur = some (.lst (ps.map fun p => V.ref p.1)), ?_, ?_⟩
    · refine ⟨_, rfl, _, rfl, _, rfl, (show 4 ≤ sizeLine by decide), fun g1 n1 => ?_⟩
      have A1 : LsA (L2.upd X5 g1 (.lst [V.str n, V.str r, V.str ("ready" : Str), V.str ("00" : Str)])) (ps ++ [(g1, [n, r, ("ready" : Str), ("00" : Str)])]) := by have z := A.add (ws := [n, r, ("ready" : Str), ("00" : Str)]) n1; exact z
      have k1 : Keep K [] H (L2.upd X5 g1 (.lst [V.str n, V.str r, V.str ("ready" : Str), V.str ("00" : Str)])) := k.trans (Keep.new n1)
      have F1 : (L2.upd X5 g1 (.lst [V.str n, V.str r, V.str ("ready" : Str), V.str ("00" : Str)])) cur = some (.lst (ps.map fun p => V.ref p.1)) := (upd_ne (ne_of_none F n1)).trans F
      generalize (L2.upd X5 g1 (.lst [V.str n, V.str r, V.str ("ready" : Str), V.str ("00" : Str)])) = Y1 at A1 k1 F1 ⊢
      refine ⟨_, rfl, _, rfl, (show 4 ≤ sizeLine by decide), fun g2 n2 => ?_⟩
      have A2 : LsA (L2.upd Y1 g2 (.lst [V.str n, V.str r, V.str ("asleep" : Str), V.str ("01" : Str)])) (ps ++ [(g1, [n, r, ("ready" : Str), ("00" : Str)]), (g2, [n, r, ("asleep" : Str), ("01" : Str)])]) := by have z := A1.add (ws := [n, r, ("asleep" : Str), ("01" : Str)]) n2; rw [List.append_assoc] at z; exact z
      have k2 : Keep K [] H (L2.upd Y1 g2 (.lst [V.str n, V.str r, V.str ("asleep" : Str), V.str ("01" : Str)])) := k1.trans (Keep.new n2)
      have F2 : (L2.upd Y1 g2 (.lst [V.str n, V.str r, V.str ("asleep" : Str), V.str ("01" : Str)])) cur = some (.lst (ps.map fun p => V.ref p.1)) := (upd_ne (ne_of_none F1 n2)).trans F1
      generalize (L2.upd Y1 g2 (.lst [V.str n, V.str r, V.str ("asleep" : Str), V.str ("01" : Str)])) = Y2 at A2 k2 F2 ⊢
      refine ⟨_, rfl, _, rfl, (show 4 ≤ sizeLine by decide), fun g3 n3 => ?_⟩
      have A3 : LsA (L2.upd Y2 g3 (.lst [V.str n, V.str r, V.str ("ready" : Str), V.str ("-0" : Str)])) (ps ++ [(g1, [n, r, ("ready" : Str), ("00" : Str)]), (g2, [n, r, ("asleep" : Str), ("01" : Str)]), (g3, [n, r, ("ready" : Str), ("-0" : Str)])]) := by have z := A2.add (ws := [n, r, ("ready" : Str), ("-0" : Str)]) n3; rw [List.append_assoc] at z; exact z
      have k3 : Keep K [] H (L2.upd Y2 g3 (.lst [V.str n, V.str r, V.str ("ready" : Str), V.str ("-0" : Str)])) := k2.trans (Keep.new n3)
      have F3 : (L2.upd Y2 g3 (.lst [V.str n, V.str r, V.str ("ready" : Str), V.str ("-0" : Str)])) cur = some (.lst (ps.map fun p => V.ref p.1)) := (upd_ne (ne_of_none F2 n3)).trans F2
      generalize (L2.upd Y2 g3 (.lst [V.str n, V.str r, V.str ("ready" : Str), V.str ("-0" : Str)])) = Y3 at A3 k3 F3 ⊢
      refine ⟨(show 3 ≤ sizeLine by decide), fun s1 m1 => ?_⟩
      have G1 : (L2.upd Y3 s1 (.lst [V.ref g1, V.ref g2, V.ref g3])) s1 = some (.lst [V.ref g1, V.ref g2, V.ref g3]) := upd_same
      have B1 : LsA (L2.upd Y3 s1 (.lst [V.ref g1, V.ref g2, V.ref g3])) (ps ++ [(g1, [n, r, ("ready" : Str), ("00" : Str)]), (g2, [n, r, ("asleep" : Str), ("01" : Str)]), (g3, [n, r, ("ready" : Str), ("-0" : Str)])]) := A3.new m1
      have j1 : Keep K [] H (L2.upd Y3 s1 (.lst [V.ref g1, V.ref g2, V.ref g3])) := k3.trans (Keep.new m1)
      have E1 : (L2.upd Y3 s1 (.lst [V.ref g1, V.ref g2, V.ref g3])) cur = some (.lst (ps.map fun p => V.ref p.1)) := (upd_ne (ne_of_none F3 m1)).trans F3
      generalize (L2.upd Y3 s1 (.lst [V.ref g1, V.ref g2, V.ref g3])) = Z1 at G1 B1 j1 E1 ⊢
      refine ⟨cur, s1, _, _, rfl, rfl, E1, G1, (by rw [List.length_map, lps]; exact (show 16 + 3 ≤ sizeLine by decide)), fun v1 w1 => ?_⟩
      refine ⟨v1, ps ++ [(g1, [n, r, ("ready" : Str), ("00" : Str)]), (g2, [n, r, ("asleep" : Str), ("01" : Str)]), (g3, [n, r, ("ready" : Str), ("-0" : Str)])], by rw [List.map_append, eps]; rfl, rfl, j1.trans (Keep.new w1), B1.new w1, ?_⟩
      rw [upd_same, List.map_append]
      rfl
    rintro σ' X6 ⟨cur, ps, eps, rfl, k, A, F⟩
    have lps : ps.length = 19 := by have := congrArg List.length eps; rw [List.length_map] at this; exact this
    refine ⟨fun σ' H' => ∃ (cur : Addr) (ps : List (Addr × List Str)), ps.map (·.2) = (rowsB n r s t now).take 22 ∧ σ' = [some (.ref a), some (.int way), some (.int now), some (.str n), some (.str r), some (.str s), some (.str t), some (.ref cur)] ∧ Keep K [] H H' ∧ LsA H' ps ∧ H' cur = some (.lst (ps.map fun p => V.ref p.1)), ?_, ?_⟩
    · refine ⟨_, rfl, _, rfl, _, rfl, _, rfl, (show 4 ≤ sizeLine by decide), fun g1 n1 => ?_⟩
      have A1 : LsA (L2.upd X6 g1 (.lst [V.str n, V.str r, V.str ("" : Str), V.str t])) (ps ++ [(g1, [n, r, ("" : Str), t])]) := by have z := A.add (ws := [n, r, ("" : Str), t]) n1; exact z
      have k1 : Keep K [] H (L2.upd X6 g1 (.lst [V.str n, V.str r, V.str ("" : Str), V.str t])) := k.trans (Keep.new n1)
      have F1 : (L2.upd X6 g1 (.lst [V.str n, V.str r, V.str ("" : Str), V.str t])) cur = some (.lst (ps.map fun p => V.ref p.1)) := (upd_ne (ne_of_none F n1)).trans F
      generalize (L2.upd X6 g1 (.lst [V.str n, V.str r, V.str ("" : Str), V.str t])) = Y1 at A1 k1 F1 ⊢
      refine ⟨_, rfl, _, rfl, (show 4 ≤ sizeLine by decide), fun g2 n2 => ?_⟩
      have A2 : LsA (L2.upd Y1 g2 (.lst [V.str n, V.str r, V.str ("asleep" : Str), V.str ("5 " : Str)])) (ps ++ [(g1, [n, r, ("" : Str), t]), (g2, [n, r, ("asleep" : Str), ("5 " : Str)])]) := by have z := A1.add (ws := [n, r, ("asleep" : Str), ("5 " : Str)]) n2; rw [List.append_assoc] at z; exact z
      have k2 : Keep K [] H (L2.upd Y1 g2 (.lst [V.str n, V.str r, V.str ("asleep" : Str), V.str ("5 " : Str)])) := k1.trans (Keep.new n2)
      have F2 : (L2.upd Y1 g2 (.lst [V.str n, V.str r, V.str ("asleep" : Str), V.str ("5 " : Str)])) cur = some (.lst (ps.map fun p => V.ref p.1)) := (upd_ne (ne_of_none F1 n2)).trans F1
      generalize (L2.upd Y1 g2 (.lst [V.str n, V.str r, V.str ("asleep" : Str), V.str ("5 " : Str)])) = Y2 at A2 k2 F2 ⊢
      refine ⟨_, rfl, _, rfl, _, rfl, (show 4 ≤ sizeLine by decide), fun g3 n3 => ?_⟩
      have A3 : LsA (L2.upd Y2 g3 (.lst [V.str n, V.str ("1_1" : Str), V.str s, V.str t])) (ps ++ [(g1, [n, r, ("" : Str), t]), (g2, [n, r, ("asleep" : Str), ("5 " : Str)]), (g3, [n, ("1_1" : Str), s, t])]) := by have z := A2.add (ws := [n, ("1_1" : Str), s, t]) n3; rw [List.append_assoc] at z; exact z
      have k3 : Keep K [] H (L2.upd Y2 g3 (.lst [V.str n, V.str ("1_1" : Str), V.str s, V.str t])) := k2.trans (Keep.new n3)
      have F3 : (L2.upd Y2 g3 (.lst [V.str n, V.str ("1_1" : Str), V.str s, V.str t])) cur = some (.lst (ps.map fun p => V.ref p.1)) := (upd_ne (ne_of_none F2 n3)).trans F2
      generalize (L2.upd Y2 g3 (.lst [V.str n, V.str ("1_1" : Str), V.str s, V.str t])) = Y3 at A3 k3 F3 ⊢
      refine ⟨(show 3 ≤ sizeLine by decide), fun s1 m1 => ?_⟩
      have G1 : (L2.upd Y3 s1 (.lst [V.ref g1, V.ref g2, V.ref g3])) s1 = some (.lst [V.ref g1, V.ref g2, V.ref g3]) := upd_same
      have B1 : LsA (L2.upd Y3 s1 (.lst [V.ref g1, V.ref g2, V.ref g3])) (ps ++ [(g1, [n, r, ("" : Str), t]), (g2, [n, r, ("asleep" : Str), ("5 " : Str)]), (g3, [n, ("1_1" : Str), s, t])]) := A3.new m1
      have j1 : Keep K [] H (L2.upd Y3 s1 (.lst [V.ref g1, V.ref g2, V.ref g3])) := k3.trans (Keep.new m1)
      have E1 : (L2.upd Y3 s1 (.lst [V.ref g1, V.ref g2, V.ref g3])) cur = some (.lst (ps.map fun p => V.ref p.1)) := (upd_ne (ne_of_none F3 m1)).trans F3
      generalize (L2.upd Y3 s1 (.lst [V.ref g1, V.ref g2, V.ref g3])) = Z1 at G1 B1 j1 E1 ⊢
      refine ⟨cur, s1, _, _, rfl, rfl, E1, G1, (by rw [List.length_map, lps]; exact (show 19 + 3 ≤ sizeLine by decide)), fun v1 w1 => ?_⟩
      refine ⟨v1, ps ++ [(g1, [n, r, ("" : Str), t]), (g2, [n, r, ("asleep" : Str), ("5 " : Str)]), (g3, [n, ("1_1" : Str), s, t])], by rw [List.map_append, eps]; rfl, rfl, j1.trans (Keep.new w1), B1.new w1, ?_⟩
      rw [upd_same, List.map_append]
      rfl
    rintro σ' X7 ⟨cur, ps, eps, rfl, k, A, F⟩
    have lps : ps.length = 22 := by have := congrArg List.length eps; rw [List.length_map] at this; exact this
    refine ⟨fun σ' H' => ∃ (cur : Addr) (ps : List (Addr × List Str)), ps.map (·.2) = (rowsB n r s t now).take 25 ∧ σ' = [some (.ref a), some (.int way), some (.int now), some (.str n), some (.str r), some (.str s), some (.str t), some (.ref cur)] ∧ Keep K [] H H' ∧ LsA H' ps ∧ H' cur = some (.lst (ps.map fun p => V.ref p.1)), ?_, ?_⟩
    · refine ⟨_, rfl, _, rfl, _, _, rfl, rfl, fit2 12 1 hn (show (("\t" : Str)).length ≤ 1 by decide +kernel), _, rfl, _, _, rfl, rfl, fit2 13 12 (fitN 12 1 hn (show (("\t" : Str)).length ≤ 1 by decide +kernel)) hr2, _, rfl, _, rfl, (show 3 ≤ sizeLine by decide), fun g1 n1 => ?_⟩
      have A1 : LsA (L2.upd X7 g1 (.lst [V.str ((n ++ ("\t" : Str)) ++ r), V.str s, V.str t])) (ps ++ [(g1, [((n ++ ("\t" : Str)) ++ r), s, t])]) := by have z := A.add (ws := [((n ++ ("\t" : Str)) ++ r), s, t]) n1; exact z
      have k1 : Keep K [] H (L2.upd X7 g1 (.lst [V.str ((n ++ ("\t" : Str)) ++ r), V.str s, V.str t])) := k.trans (Keep.new n1)
      have F1 : (L2.upd X7 g1 (.lst [V.str ((n ++ ("\t" : Str)) ++ r), V.str s, V.str t])) cur = some (.lst (ps.map fun p => V.ref p.1)) := (upd_ne (ne_of_none F n1)).trans F
      generalize (L2.upd X7 g1 (.lst [V.str ((n ++ ("\t" : Str)) ++ r), V.str s, V.str t])) = Y1 at A1 k1 F1 ⊢
      refine ⟨_, rfl, _, rfl, _, rfl, _, rfl, _, _, rfl, rfl, fit2 12 1 ht (show (("\t" : Str)).length ≤ 1 by decide +kernel), (show 4 ≤ sizeLine by decide), fun g2 n2 => ?_⟩
      have A2 : LsA (L2.upd Y1 g2 (.lst [V.str n, V.str r, V.str s, V.str (t ++ ("\t" : Str))])) (ps ++ [(g1, [((n ++ ("\t" : Str)) ++ r), s, t]), (g2, [n, r, s, (t ++ ("\t" : Str))])]) := by have z := A1.add (ws := [n, r, s, (t ++ ("\t" : Str))]) n2; rw [List.append_assoc] at z; exact z
      have k2 : Keep K [] H (L2.upd Y1 g2 (.lst [V.str n, V.str r, V.str s, V.str (t ++ ("\t" : Str))])) := k1.trans (Keep.new n2)
      have F2 : (L2.upd Y1 g2 (.lst [V.str n, V.str r, V.str s, V.str (t ++ ("\t" : Str))])) cur = some (.lst (ps.map fun p => V.ref p.1)) := (upd_ne (ne_of_none F1 n2)).trans F1
      generalize (L2.upd Y1 g2 (.lst [V.str n, V.str r, V.str s, V.str (t ++ ("\t" : Str))])) = Y2 at A2 k2 F2 ⊢
      refine ⟨_, rfl, _, rfl, _, _, rfl, rfl, fit2 1 12 (show (("-" : Str)).length ≤ 1 by decide +kernel) hr2, _, rfl, _, rfl, (show 4 ≤ sizeLine by decide), fun g3 n3 => ?_⟩
      have A3 : LsA (L2.upd Y2 g3 (.lst [V.str n, V.str (("-" : Str) ++ r), V.str s, V.str t])) (ps ++ [(g1, [((n ++ ("\t" : Str)) ++ r), s, t]), (g2, [n, r, s, (t ++ ("\t" : Str))]), (g3, [n, (("-" : Str) ++ r), s, t])]) := by have z := A2.add (ws := [n, (("-" : Str) ++ r), s, t]) n3; rw [List.append_assoc] at z; exact z
      have k3 : Keep K [] H (L2.upd Y2 g3 (.lst [V.str n, V.str (("-" : Str) ++ r), V.str s, V.str t])) := k2.trans (Keep.new n3)
      have F3 : (L2.upd Y2 g3 (.lst [V.str n, V.str (("-" : Str) ++ r), V.str s, V.str t])) cur = some (.lst (ps.map fun p => V.ref p.1)) := (upd_ne (ne_of_none F2 n3)).trans F2
      generalize (L2.upd Y2 g3 (.lst [V.str n, V.str (("-" : Str) ++ r), V.str s, V.str t])) = Y3 at A3 k3 F3 ⊢
      refine ⟨(show 3 ≤ sizeLine by decide), fun s1 m1 => ?_⟩
      have G1 : (L2.upd Y3 s1 (.lst [V.ref g1, V.ref g2, V.ref g3])) s1 = some (.lst [V.ref g1, V.ref g2, V.ref g3]) := upd_same
      have B1 : LsA (L2.upd Y3 s1 (.lst [V.ref g1, V.ref g2, V.ref g3])) (ps ++ [(g1, [((n ++ ("\t" : Str)) ++ r), s, t]), (g2, [n, r, s, (t ++ ("\t" : Str))]), (g3, [n, (("-" : Str) ++ r), s, t])]) := A3.new m1
      have j1 : Keep K [] H (L2.upd Y3 s1 (.lst [V.ref g1, V.ref g2, V.ref g3])) := k3.trans (Keep.new m1)
      have E1 : (L2.upd Y3 s1 (.lst [V.ref g1, V.ref g2, V.ref g3])) cur = some (.lst (ps.map fun p => V.ref p.1)) := (upd_ne (ne_of_none F3 m1)).trans F3
      generalize (L2.upd Y3 s1 (.lst [V.ref g1, V.ref g2, V.ref g3])) = Z1 at G1 B1 j1 E1 ⊢
      refine ⟨cur, s1, _, _, rfl, rfl, E1, G1, (by rw [List.length_map, lps]; exact (show 22 + 3 ≤ sizeLine by decide)), fun v1 w1 => ?_⟩
      refine ⟨v1, ps ++ [(g1, [((n ++ ("\t" : Str)) ++ r), s, t]), (g2, [n, r, s, (t ++ ("\t" : Str))]), (g3, [n, (("-" : Str) ++ r), s, t])], by rw [List.map_append, eps]; rfl, rfl, j1.trans (Keep.new w1), B1.new w1, ?_⟩
      rw [upd_same, List.map_append]
      rfl
    rintro σ' X8 ⟨cur, ps, eps, rfl, k, A, F⟩
    have lps : ps.length = 25 := by have := congrArg List.length eps; rw [List.length_map] at this; exact this
    refine ⟨fun σ' H' => ∃ (cur : Addr) (ps : List (Addr × List Str)), ps.map (·.2) = (rowsB n r s t now).take 28 ∧ σ' = [some (.ref a), some (.int way), some (.int now), some (.str n), some (.str r), some (.str s), some (.str t), some (.ref cur)] ∧ Keep K [] H H' ∧ LsA H' ps ∧ H' cur = some (.lst (ps.map fun p => V.ref p.1)), ?_, ?_⟩
    · refine ⟨_, rfl, _, rfl, _, rfl, (show 4 ≤ sizeLine by decide), fun g1 n1 => ?_⟩
      have A1 : LsA (L2.upd X8 g1 (.lst [V.str n, V.str r, V.str ("waiting" : Str), V.str ("" : Str)])) (ps ++ [(g1, [n, r, ("waiting" : Str), ("" : Str)])]) := by have z := A.add (ws := [n, r, ("waiting" : Str), ("" : Str)]) n1; exact z
      have k1 : Keep K [] H (L2.upd X8 g1 (.lst [V.str n, V.str r, V.str ("waiting" : Str), V.str ("" : Str)])) := k.trans (Keep.new n1)
      have F1 : (L2.upd X8 g1 (.lst [V.str n, V.str r, V.str ("waiting" : Str), V.str ("" : Str)])) cur = some (.lst (ps.map fun p => V.ref p.1)) := (upd_ne (ne_of_none F n1)).trans F
      generalize (L2.upd X8 g1 (.lst [V.str n, V.str r, V.str ("waiting" : Str), V.str ("" : Str)])) = Y1 at A1 k1 F1 ⊢
      refine ⟨_, rfl, _, rfl, _, rfl, _, _, rfl, rfl, fit2 12 1 hs (show (("\t" : Str)).length ≤ 1 by decide +kernel), _, rfl, (show 4 ≤ sizeLine by decide), fun g2 n2 => ?_⟩
      have A2 : LsA (L2.upd Y1 g2 (.lst [V.str n, V.str r, V.str (s ++ ("\t" : Str)), V.str t])) (ps ++ [(g1, [n, r, ("waiting" : Str), ("" : Str)]), (g2, [n, r, (s ++ ("\t" : Str)), t])]) := by have z := A1.add (ws := [n, r, (s ++ ("\t" : Str)), t]) n2; rw [List.append_assoc] at z; exact z
      have k2 : Keep K [] H (L2.upd Y1 g2 (.lst [V.str n, V.str r, V.str (s ++ ("\t" : Str)), V.str t])) := k1.trans (Keep.new n2)
      have F2 : (L2.upd Y1 g2 (.lst [V.str n, V.str r, V.str (s ++ ("\t" : Str)), V.str t])) cur = some (.lst (ps.map fun p => V.ref p.1)) := (upd_ne (ne_of_none F1 n2)).trans F1
      generalize (L2.upd Y1 g2 (.lst [V.str n, V.str r, V.str (s ++ ("\t" : Str)), V.str t])) = Y2 at A2 k2 F2 ⊢
      refine ⟨_, rfl, _, rfl, (show 4 ≤ sizeLine by decide), fun g3 n3 => ?_⟩
      have A3 : LsA (L2.upd Y2 g3 (.lst [V.str n, V.str r, V.str ("asleep" : Str), V.str ("-5" : Str)])) (ps ++ [(g1, [n, r, ("waiting" : Str), ("" : Str)]), (g2, [n, r, (s ++ ("\t" : Str)), t]), (g3, [n, r, ("asleep" : Str), ("-5" : Str)])]) := by have z := A2.add (ws := [n, r, ("asleep" : Str), ("-5" : Str)]) n3; rw [List.append_assoc] at z; exact z
      have k3 : Keep K [] H (L2.upd Y2 g3 (.lst [V.str n, V.str r, V.str ("asleep" : Str), V.str ("-5" : Str)])) := k2.trans (Keep.new n3)
      have F3 : (L2.upd Y2 g3 (.lst [V.str n, V.str r, V.str ("asleep" : Str), V.str ("-5" : Str)])) cur = some (.lst (ps.map fun p => V.ref p.1)) := (upd_ne (ne_of_none F2 n3)).trans F2
      generalize (L2.upd Y2 g3 (.lst [V.str n, V.str r, V.str ("asleep" : Str), V.str ("-5" : Str)])) = Y3 at A3 k3 F3 ⊢
      refine ⟨(show 3 ≤ sizeLine by decide), fun s1 m1 => ?_⟩
      have G1 : (L2.upd Y3 s1 (.lst [V.ref g1, V.ref g2, V.ref g3])) s1 = some (.lst [V.ref g1, V.ref g2, V.ref g3]) := upd_same
      have B1 : LsA (L2.upd Y3 s1 (.lst [V.ref g1, V.ref g2, V.ref g3])) (ps ++ [(g1, [n, r, ("waiting" : Str), ("" : Str)]), (g2, [n, r, (s ++ ("\t" : Str)), t]), (g3, [n, r, ("asleep" : Str), ("-5" : Str)])]) := A3.new m1
      have j1 : Keep K [] H (L2.upd Y3 s1 (.lst [V.ref g1, V.ref g2, V.ref g3])) := k3.trans (Keep.new m1)
      have E1 : (L2.upd Y3 s1 (.lst [V.ref g1, V.ref g2, V.ref g3])) cur = some (.lst (ps.map fun p => V.ref p.1)) := (upd_ne (ne_of_none F3 m1)).trans F3
      generalize (L2.upd Y3 s1 (.lst [V.ref g1, V.ref g2, V.ref g3])) = Z1 at G1 B1 j1 E1 ⊢
      refine ⟨cur, s1, _, _, rfl, rfl, E1, G1, (by rw [List.length_map, lps]; exact (show 25 + 3 ≤ sizeLine by decide)), fun v1 w1 => ?_⟩
      refine ⟨v1, ps ++ [(g1, [n, r, ("waiting" : Str), ("" : Str)]), (g2, [n, r, (s ++ ("\t" : Str)), t]), (g3, [n, r, ("asleep" : Str), ("-5" : Str)])], by rw [List.map_append, eps]; rfl, rfl, j1.trans (Keep.new w1), B1.new w1, ?_⟩
      rw [upd_same, List.map_append]
      rfl
    rintro σ' X9 ⟨cur, ps, eps, rfl, k, A, F⟩
    have lps : ps.length = 28 := by have := congrArg List.length eps; rw [List.length_map] at this; exact this
    refine ⟨fun σ' H' => ∃ (cur : Addr) (ps : List (Addr × List Str)), ps.map (·.2) = (rowsB n r s t now).take 31 ∧ σ' = [some (.ref a), some (.int way), some (.int now), some (.str n), some (.str r), some (.str s), some (.str t), some (.ref cur)] ∧ Keep K [] H H' ∧ LsA H' ps ∧ H' cur = some (.lst (ps.map fun p => V.ref p.1)), ?_, ?_⟩
    · refine ⟨_, rfl, _, rfl, _, rfl, (show 4 ≤ sizeLine by decide), fun g1 n1 => ?_⟩
      have A1 : LsA (L2.upd X9 g1 (.lst [V.str n, V.str r, V.str ("ready" : Str), V.str ("+0" : Str)])) (ps ++ [(g1, [n, r, ("ready" : Str), ("+0" : Str)])]) := by have z := A.add (ws := [n, r, ("ready" : Str), ("+0" : Str)]) n1; exact z
      have k1 : Keep K [] H (L2.upd X9 g1 (.lst [V.str n, V.str r, V.str ("ready" : Str), V.str ("+0" : Str)])) := k.trans (Keep.new n1)
      have F1 : (L2.upd X9 g1 (.lst [V.str n, V.str r, V.str ("ready" : Str), V.str ("+0" : Str)])) cur = some (.lst (ps.map fun p => V.ref p.1)) := (upd_ne (ne_of_none F n1)).trans F
      generalize (L2.upd X9 g1 (.lst [V.str n, V.str r, V.str ("ready" : Str), V.str ("+0" : Str)])) = Y1 at A1 k1 F1 ⊢
      refine ⟨_, rfl, _, rfl, (show 4 ≤ sizeLine by decide), fun g2 n2 => ?_⟩
      have A2 : LsA (L2.upd Y1 g2 (.lst [V.str n, V.str r, V.str ("asleep" : Str), V.str ("+5" : Str)])) (ps ++ [(g1, [n, r, ("ready" : Str), ("+0" : Str)]), (g2, [n, r, ("asleep" : Str), ("+5" : Str)])]) := by have z := A1.add (ws := [n, r, ("asleep" : Str), ("+5" : Str)]) n2; rw [List.append_assoc] at z; exact z
      have k2 : Keep K [] H (L2.upd Y1 g2 (.lst [V.str n, V.str r, V.str ("asleep" : Str), V.str ("+5" : Str)])) := k1.trans (Keep.new n2)
      have F2 : (L2.upd Y1 g2 (.lst [V.str n, V.str r, V.str ("asleep" : Str), V.str ("+5" : Str)])) cur = some (.lst (ps.map fun p => V.ref p.1)) := (upd_ne (ne_of_none F1 n2)).trans F1
      generalize (L2.upd Y1 g2 (.lst [V.str n, V.str r, V.str ("asleep" : Str), V.str ("+5" : Str)])) = Y2 at A2 k2 F2 ⊢
      refine ⟨_, rfl, _, rfl, (show 4 ≤ sizeLine by decide), fun g3 n3 => ?_⟩
      have A3 : LsA (L2.upd Y2 g3 (.lst [V.str n, V.str r, V.str ("asleep" : Str), V.str ("1_0" : Str)])) (ps ++ [(g1, [n, r, ("ready" : Str), ("+0" : Str)]), (g2, [n, r, ("asleep" : Str), ("+5" : Str)]), (g3, [n, r, ("asleep" : Str), ("1_0" : Str)])]) := by have z := A2.add (ws := [n, r, ("asleep" : Str), ("1_0" : Str)]) n3; rw [List.append_assoc] at z; exact z
      have k3 : Keep K [] H (L2.upd Y2 g3 (.lst [V.str n, V.str r, V.str ("asleep" : Str), V.str ("1_0" : Str)])) := k2.trans (Keep.new n3)
      have F3 : (L2.upd Y2 g3 (.lst [V.str n, V.str r, V.str ("asleep" : Str), V.str ("1_0" : Str)])) cur = some (.lst (ps.map fun p => V.ref p.1)) := (upd_ne (ne_of_none F2 n3)).trans F2
      generalize (L2.upd Y2 g3 (.lst [V.str n, V.str r, V.str ("asleep" : Str), V.str ("1_0" : Str)])) = Y3 at A3 k3 F3 ⊢
      refine ⟨(show 3 ≤ sizeLine by decide), fun s1 m1 => ?_⟩
      have G1 : (L2.upd Y3 s1 (.lst [V.ref g1, V.ref g2, V.ref g3])) s1 = some (.lst [V.ref g1, V.ref g2, V.ref g3]) := upd_same
      have B1 : LsA (L2.upd Y3 s1 (.lst [V.ref g1, V.ref g2, V.ref g3])) (ps ++ [(g1, [n, r, ("ready" : Str), ("+0" : Str)]), (g2, [n, r, ("asleep" : Str), ("+5" : Str)]), (g3, [n, r, ("asleep" : Str), ("1_0" : Str)])]) := A3.new m1
      have j1 : Keep K [] H (L2.upd Y3 s1 (.lst [V.ref g1, V.ref g2, V.ref g3])) := k3.trans (Keep.new m1)
      have E1 : (L2.upd Y3 s1 (.lst [V.ref g1, V.ref g2, V.ref g3])) cur = some (.lst (ps.map fun p => V.ref p.1)) := (upd_ne (ne_of_none F3 m1)).trans F3
      generalize (L2.upd Y3 s1 (.lst [V.ref g1, V.ref g2, V.ref g3])) = Z1 at G1 B1 j1 E1 ⊢
      refine ⟨cur, s1, _, _, rfl, rfl, E1, G1, (by rw [List.length_map, lps]; exact (show 28 + 3 ≤ sizeLine by decide)), fun v1 w1 => ?_⟩
      refine ⟨v1, ps ++ [(g1, [n, r, ("ready" : Str), ("+0" : Str)]), (g2, [n, r, ("asleep" : Str), ("+5" : Str)]), (g3, [n, r, ("asleep" : Str), ("1_0" : Str)])], by rw [List.map_append, eps]; rfl, rfl, j1.trans (Keep.new w1), B1.new w1, ?_⟩
      rw [upd_same, List.map_append]
      rfl
    rintro σ' X10 ⟨cur, ps, eps, rfl, k, A, F⟩
    have lps : ps.length = 31 := by have := congrArg List.length eps; rw [List.length_map] at this; exact this
    refine ⟨fun σ' H' => ∃ (cur : Addr) (ps : List (Addr × List Str)), ps.map (·.2) = (rowsB n r s t now).take 33 ∧ σ' = [some (.ref a), some (.int way), some (.int now), some (.str n), some (.str r), some (.str s), some (.str t), some (.ref cur)] ∧ Keep K [] H H' ∧ LsA H' ps ∧ H' cur = some (.lst (ps.map fun p => V.ref p.1)), ?_, ?_⟩
    · refine ⟨_, rfl, _, rfl, _, rfl, (show 4 ≤ sizeLine by decide), fun g1 n1 => ?_⟩
      have A1 : LsA (L2.upd X10 g1 (.lst [V.str n, V.str r, V.str ("ready" : Str), V.str ("0_0" : Str)])) (ps ++ [(g1, [n, r, ("ready" : Str), ("0_0" : Str)])]) := by have z := A.add (ws := [n, r, ("ready" : Str), ("0_0" : Str)]) n1; exact z
      have k1 : Keep K [] H (L2.upd X10 g1 (.lst [V.str n, V.str r, V.str ("ready" : Str), V.str ("0_0" : Str)])) := k.trans (Keep.new n1)
      have F1 : (L2.upd X10 g1 (.lst [V.str n, V.str r, V.str ("ready" : Str), V.str ("0_0" : Str)])) cur = some (.lst (ps.map fun p => V.ref p.1)) := (upd_ne (ne_of_none F n1)).trans F
      generalize (L2.upd X10 g1 (.lst [V.str n, V.str r, V.str ("ready" : Str), V.str ("0_0" : Str)])) = Y1 at A1 k1 F1 ⊢
      refine ⟨_, rfl, _, rfl, "0", 12, rfl, rfl, mulOk_o12, _, _, rfl, rfl, fit2 1 12 (show (("1" : Str)).length ≤ 1 by decide +kernel) (show ((Txt.mul "0" 12)).length ≤ 12 by decide +kernel), (show 4 ≤ sizeLine by decide), fun g2 n2 => ?_⟩
      have A2 : LsA (L2.upd Y1 g2 (.lst [V.str n, V.str r, V.str ("asleep" : Str), V.str (("1" : Str) ++ (Txt.mul "0" 12))])) (ps ++ [(g1, [n, r, ("ready" : Str), ("0_0" : Str)]), (g2, [n, r, ("asleep" : Str), (("1" : Str) ++ (Txt.mul "0" 12))])]) := by have z := A1.add (ws := [n, r, ("asleep" : Str), (("1" : Str) ++ (Txt.mul "0" 12))]) n2; rw [List.append_assoc] at z; exact z
      have k2 : Keep K [] H (L2.upd Y1 g2 (.lst [V.str n, V.str r, V.str ("asleep" : Str), V.str (("1" : Str) ++ (Txt.mul "0" 12))])) := k1.trans (Keep.new n2)
      have F2 : (L2.upd Y1 g2 (.lst [V.str n, V.str r, V.str ("asleep" : Str), V.str (("1" : Str) ++ (Txt.mul "0" 12))])) cur = some (.lst (ps.map fun p => V.ref p.1)) := (upd_ne (ne_of_none F1 n2)).trans F1
      generalize (L2.upd Y1 g2 (.lst [V.str n, V.str r, V.str ("asleep" : Str), V.str (("1" : Str) ++ (Txt.mul "0" 12))])) = Y2 at A2 k2 F2 ⊢
      refine ⟨(show 2 ≤ sizeLine by decide), fun s1 m1 => ?_⟩
      have G1 : (L2.upd Y2 s1 (.lst [V.ref g1, V.ref g2])) s1 = some (.lst [V.ref g1, V.ref g2]) := upd_same
      have B1 : LsA (L2.upd Y2 s1 (.lst [V.ref g1, V.ref g2])) (ps ++ [(g1, [n, r, ("ready" : Str), ("0_0" : Str)]), (g2, [n, r, ("asleep" : Str), (("1" : Str) ++ (Txt.mul "0" 12))])]) := A2.new m1
      have j1 : Keep K [] H (L2.upd Y2 s1 (.lst [V.ref g1, V.ref g2])) := k2.trans (Keep.new m1)
      have E1 : (L2.upd Y2 s1 (.lst [V.ref g1, V.ref g2])) cur = some (.lst (ps.map fun p => V.ref p.1)) := (upd_ne (ne_of_none F2 m1)).trans F2
      generalize (L2.upd Y2 s1 (.lst [V.ref g1, V.ref g2])) = Z1 at G1 B1 j1 E1 ⊢
      refine ⟨cur, s1, _, _, rfl, rfl, E1, G1, (by rw [List.length_map, lps]; exact (show 31 + 2 ≤ sizeLine by decide)), fun v1 w1 => ?_⟩
      refine ⟨v1, ps ++ [(g1, [n, r, ("ready" : Str), ("0_0" : Str)]), (g2, [n, r, ("asleep" : Str), (("1" : Str) ++ (Txt.mul "0" 12))])], by rw [List.map_append, eps]; rfl, rfl, j1.trans (Keep.new w1), B1.new w1, ?_⟩
      rw [upd_same, List.map_append]
      rfl
    rintro σ' X11 ⟨cur, ps, eps, rfl, k, A, F⟩
    have lps : ps.length = 33 := by have := congrArg List.length eps; rw [List.length_map] at this; exact this
    refine ⟨fun σ' H' => ∃ (cur : Addr) (ps : List (Addr × List Str)), ps.map (·.2) = (rowsB n r s t now).take 36 ∧ σ' = [some (.ref a), some (.int way), some (.int now), some (.str n), some (.str r), some (.str s), some (.str t), some (.ref cur)] ∧ Keep K [] H H' ∧ LsA H' ps ∧ H' cur = some (.lst (ps.map fun p => V.ref p.1)), ?_, ?_⟩
    · refine ⟨_, rfl, "b", 13, rfl, rfl, mulOk_b13, _, rfl, _, rfl, _, rfl, (show 4 ≤ sizeLine by decide), fun g1 n1 => ?_⟩
      have A1 : LsA (L2.upd X11 g1 (.lst [V.str (Txt.mul "b" 13), V.str r, V.str s, V.str t])) (ps ++ [(g1, [(Txt.mul "b" 13), r, s, t])]) := by have z := A.add (ws := [(Txt.mul "b" 13), r, s, t]) n1; exact z
      have k1 : Keep K [] H (L2.upd X11 g1 (.lst [V.str (Txt.mul "b" 13), V.str r, V.str s, V.str t])) := k.trans (Keep.new n1)
      have F1 : (L2.upd X11 g1 (.lst [V.str (Txt.mul "b" 13), V.str r, V.str s, V.str t])) cur = some (.lst (ps.map fun p => V.ref p.1)) := (upd_ne (ne_of_none F n1)).trans F
      generalize (L2.upd X11 g1 (.lst [V.str (Txt.mul "b" 13), V.str r, V.str s, V.str t])) = Y1 at A1 k1 F1 ⊢
      refine ⟨_, rfl, _, rfl, "b", 13, rfl, rfl, mulOk_b13, (show 4 ≤ sizeLine by decide), fun g2 n2 => ?_⟩
      have A2 : LsA (L2.upd Y1 g2 (.lst [V.str n, V.str r, V.str ("waiting" : Str), V.str (Txt.mul "b" 13)])) (ps ++ [(g1, [(Txt.mul "b" 13), r, s, t]), (g2, [n, r, ("waiting" : Str), (Txt.mul "b" 13)])]) := by have z := A1.add (ws := [n, r, ("waiting" : Str), (Txt.mul "b" 13)]) n2; rw [List.append_assoc] at z; exact z
      have k2 : Keep K [] H (L2.upd Y1 g2 (.lst [V.str n, V.str r, V.str ("waiting" : Str), V.str (Txt.mul "b" 13)])) := k1.trans (Keep.new n2)
      have F2 : (L2.upd Y1 g2 (.lst [V.str n, V.str r, V.str ("waiting" : Str), V.str (Txt.mul "b" 13)])) cur = some (.lst (ps.map fun p => V.ref p.1)) := (upd_ne (ne_of_none F1 n2)).trans F1
      generalize (L2.upd Y1 g2 (.lst [V.str n, V.str r, V.str ("waiting" : Str), V.str (Txt.mul "b" 13)])) = Y2 at A2 k2 F2 ⊢
      refine ⟨_, rfl, _, rfl, (show 4 ≤ sizeLine by decide), fun g3 n3 => ?_⟩
      have A3 : LsA (L2.upd Y2 g3 (.lst [V.str n, V.str r, V.str ("waiting" : Str), V.str ("b-" : Str)])) (ps ++ [(g1, [(Txt.mul "b" 13), r, s, t]), (g2, [n, r, ("waiting" : Str), (Txt.mul "b" 13)]), (g3, [n, r, ("waiting" : Str), ("b-" : Str)])]) := by have z := A2.add (ws := [n, r, ("waiting" : Str), ("b-" : Str)]) n3; rw [List.append_assoc] at z; exact z
      have k3 : Keep K [] H (L2.upd Y2 g3 (.lst [V.str n, V.str r, V.str ("waiting" : Str), V.str ("b-" : Str)])) := k2.trans (Keep.new n3)
      have F3 : (L2.upd Y2 g3 (.lst [V.str n, V.str r, V.str ("waiting" : Str), V.str ("b-" : Str)])) cur = some (.lst (ps.map fun p => V.ref p.1)) := (upd_ne (ne_of_none F2 n3)).trans F2
      generalize (L2.upd Y2 g3 (.lst [V.str n, V.str r, V.str ("waiting" : Str), V.str ("b-" : Str)])) = Y3 at A3 k3 F3 ⊢
      refine ⟨(show 3 ≤ sizeLine by decide), fun s1 m1 => ?_⟩
      have G1 : (L2.upd Y3 s1 (.lst [V.ref g1, V.ref g2, V.ref g3])) s1 = some (.lst [V.ref g1, V.ref g2, V.ref g3]) := upd_same
      have B1 : LsA (L2.upd Y3 s1 (.lst [V.ref g1, V.ref g2, V.ref g3])) (ps ++ [(g1, [(Txt.mul "b" 13), r, s, t]), (g2, [n, r, ("waiting" : Str), (Txt.mul "b" 13)]), (g3, [n, r, ("waiting" : Str), ("b-" : Str)])]) := A3.new m1
      have j1 : Keep K [] H (L2.upd Y3 s1 (.lst [V.ref g1, V.ref g2, V.ref g3])) := k3.trans (Keep.new m1)
      have E1 : (L2.upd Y3 s1 (.lst [V.ref g1, V.ref g2, V.ref g3])) cur = some (.lst (ps.map fun p => V.ref p.1)) := (upd_ne (ne_of_none F3 m1)).trans F3
      generalize (L2.upd Y3 s1 (.lst [V.ref g1, V.ref g2, V.ref g3])) = Z1 at G1 B1 j1 E1 ⊢
      refine ⟨cur, s1, _, _, rfl, rfl, E1, G1, (by rw [List.length_map, lps]; exact (show 33 + 3 ≤ sizeLine by decide)), fun v1 w1 => ?_⟩
      refine ⟨v1, ps ++ [(g1, [(Txt.mul "b" 13), r, s, t]), (g2, [n, r, ("waiting" : Str), (Txt.mul "b" 13)]), (g3, [n, r, ("waiting" : Str), ("b-" : Str)])], by rw [List.map_append, eps]; rfl, rfl, j1.trans (Keep.new w1), B1.new w1, ?_⟩
      rw [upd_same, List.map_append]
      rfl
    rintro σ' X12 ⟨cur, ps, eps, rfl, k, A, F⟩
    have lps : ps.length = 36 := by have := congrArg List.length eps; rw [List.length_map] at this; exact this
    obtain ⟨pp, e1, e2, e3⟩ := ls_at (ps := ps) hw.1 (by rw [lps]; exact hw.2)
    refine ⟨_, rfl, _, rfl, cur, _, _, .ref pp.1, rfl, rfl, .inl (.inl F), e3, ?_⟩
    refine q pp.1 pp.2 _ k ?_ (A pp e2)
    have := congrArg (Option.map Prod.snd) e1
    rw [← List.getElem?_map] at this
    exact (congrArg (·[way.toNat]?) (show rowsB n r s t now = ps.map (·.2) from eps.symm)).trans this
end
end Rr.K

set_option maxRecDepth 100000
set_option maxHeartbeats 4000000
namespace Rr.K
open PySem PySem.Spec PyProof.Rows L2
open L2H (SpP)
open GxR (TabG Tabbed)
open Evl (pss_cut)
section
variable {P : Program} {w : World} {K : PySem.W.Frag} {mg : Str → Option Value} {base : Heap}
def sp_lrefused (K : PySem.W.Frag) : Sp := fun vs H Q _ => ∃ x : Str, vs = [.str x] ∧ TabG H (tabN K) ∧ TabG H (tabM K) ∧ (Txt.endswith x "\n" = false ∨ ∃ wss, x = textW wss ∧ TextOk wss ∧ ReadBad wss) ∧ ∀ H', Q (.bl true) H'
theorem c__law_refused (T : Tx K mg base) : Cal P w K mg base 7 "_law_refused" (sp_lrefused K) := by
  have c_read : CalR P w K mg base 6 "read" (sp_read K) := c_read T
  have c__law_word : CalQ P w K mg base 1 "_law_word" (sp_word K) := c__law_word T
  obtain ⟨fd, F⟩ := T.d__law_refused
  refine ⟨_, fd, ["_law_text_here"], okF (k := 6) F sc__law_refused (fun vs H Q E h => ?_) (fun A outer s H vs Q E hr h => ?_), T.r__law_refused, F.kp, F.bindsN fun _ _ _ _ _ _ us hl => match us, hl with | [_], _ => rfl⟩
  · obtain ⟨x, rfl, _⟩ := h
    rfl
  · have nd := sc__law_refused.nd
    obtain ⟨x, rfl, hT, hM, b, q⟩ := h
    refine ⟨_, (pss_cut (GE.ps_try_asR (i := 1) rfl rfl nd rfl rfl ⟨rfl, by decide, .inl T.r_DeskError⟩ (fun W pn xe tk hp => (pss_one (ps_expr (pfR c_read hr (by decide) (by rfl) (GE.passAt tk) (pa_cons (pv 0) pa_nil)))))
  (fun a oe cls d rs pn hz hf hc hp => (pss_one (ps_ret (pe_cmpR op_eq (pfQ c__law_word hr (by decide) hz hf hc hp (by rfl) (pa_cons (pv 1) pa_nil)) pe_str (nomark _))))))
  (pss_one (ps_ret pe_bl))), ?_⟩
    refine ⟨fun _ _ => False, ?_, fun _ _ z => z.elim⟩
    refine ⟨_, rfl, x, rfl, hT, hM, ?_⟩
    have fin : ∀ {w : Str}, words9[3]? = some w → w = "desk" := fun h => (Option.some.inj h).symm
    rcases b with b | ⟨wss, e, tx, b⟩
    · refine .inl ⟨b, fun H' k => ⟨exmD T _ nd9, fun a na => ⟨_, rfl, fun oe hz hf => ⟨"NoDesk", 3, rfl, rfl, hz, hf, fun w H'' hw k' => ⟨rfl, ?_⟩⟩⟩⟩⟩
      rw [fin hw, decide_eq_true (show V.str "desk" = V.str "desk" from rfl)]
      exact q H''
    · refine .inr ⟨wss, e, tx, .inl ⟨b, fun H' k => ⟨exmD T _ nd9, fun a na => ⟨_, rfl, fun oe hz hf => ⟨"NoDesk", 3, rfl, rfl, hz, hf, fun w H'' hw k' => ⟨rfl, ?_⟩⟩⟩⟩⟩⟩
      rw [fin hw, decide_eq_true (show V.str "desk" = V.str "desk" from rfl)]
      exact q H''
def sp_lnumber (K : PySem.W.Frag) : Sp := fun vs H Q _ => ∃ (a : Addr) (n r s t st : Str), vs = [.ref a, .str st] ∧ H a = some (.lst (([n, r, s, t] : List Str).map V.str)) ∧ (s = st → ∃ i, NumGood t i ∧ Q (.int i) H) ∧ (s ≠ st → Q .non H)
theorem c__law_number (T : Tx K mg base) : Cal P w K mg base 1 "_law_number" (sp_lnumber K) := by
  obtain ⟨fd, F⟩ := T.d__law_number
  refine ⟨_, fd, ["_law_row_here", "_law_state"], okF (k := 0) F sc__law_number (fun vs H Q E h => ?_) (fun A outer s H vs Q E hr h => ?_), T.r__law_number, F.kp, F.bindsN fun _ _ _ _ _ _ us hl => match us, hl with | [_, _], _ => rfl⟩
  · obtain ⟨a, n, r, s, t, st, rfl, _⟩ := h
    rfl
  · have nd := sc__law_number.nd
    obtain ⟨a, n, r, s, t, st, rfl, ha, q1, q2⟩ := h
    refine ⟨_, (pss_cons (ps_if (pt_cmpR op_eq (pe_ix ix_list (pv 0) pe_int (fun _ _ => rfl)) (pv 1) (nomark _))
  (pss_one (ps_ret (pe_callTy call_int_str (by rfl) T.m_int (by decide +kernel) (pa_cons (pe_ix ix_list (pv 0) pe_int (fun _ _ => rfl)) pa_nil))))
  pss_nil)
  (pss_one (ps_ret pe_non))), ?_⟩
    refine ⟨_, rfl, a, _, _, .str s, rfl, rfl, .inl (.inl ha), rfl, _, rfl, rfl, _, rfl, ?_⟩
    by_cases e : s = st
    · obtain ⟨i, ⟨e2, h0, h1⟩, q⟩ := q1 e
      obtain ⟨⟨l12, _⟩, _, _, hi⟩ := num_ok h0 h1
      rw [decide_eq_true (show V.str s = V.str st by rw [e])]
      exact iteT ⟨_, rfl, a, _, _, .str t, rfl, rfl, .inl (.inl ha), rfl, _, _, rfl, by rw [e2]; exact hi, by rw [e2]; omega, q⟩
    · rw [decide_eq_false (show ¬ V.str s = V.str st from fun z => e (V.str.inj z))]
      exact iteF (q2 e)
theorem RwAt.at_ {H : Hp} {a : Addr} {W : List (List Str)} (x : RwAt H a W) : ∃ ps : List (Addr × List Str), W = ps.map (·.2) ∧ H a = some (.lst (ps.map fun p => V.ref p.1)) ∧ LsA H ps := x
theorem refs_at {ps : List (Addr × List Str)} {i : Nat} {p : Addr × List Str} (h : ps[i]? = some p) : atI (ps.map fun p => V.ref p.1) (i : Int) = some (.ref p.1) := atI_nat (by rw [List.getElem?_map, h]; rfl)
/-- pieces of a list of rows -/
theorem cut_refs (ps : List (Addr × List Str)) {k : Nat} (h : k ≤ ps.length) : cutV (ps.map fun p => V.ref p.1) none (some (k : Int)) = (ps.take k).map fun p => V.ref p.1 := by
  unfold cutV
  rw [HT.sIx_none, HT.sIx_nat, List.length_map, Nat.min_eq_left h, List.drop_zero, Nat.sub_zero, List.map_take]
theorem drop_refs (ps : List (Addr × List Str)) {k : Nat} (h : k ≤ ps.length) : cutV (ps.map fun p => V.ref p.1) (some (k : Int)) none = (ps.drop k).map fun p => V.ref p.1 := by
  unfold cutV
  rw [HT.sIx_none, HT.sIx_nat, List.length_map, Nat.min_eq_left h, List.take_of_length_le (by rw [List.length_drop, List.length_map]; omega), List.map_drop]
theorem at0 (v : V) (l : List V) : atI (v :: l) 0 = some v := atI_nat (xs := v :: l) (j := 0) rfl
theorem _root_.Rr.LsA.sub {H : Hp} {ps qs : List (Addr × List Str)} (a : LsA H ps) (h : ∀ q ∈ qs, q ∈ ps) : LsA H qs := fun q hq => a q (h q hq)
theorem _root_.Rr.LsA.app {H : Hp} {ps qs : List (Addr × List Str)} (a : LsA H ps) (b : LsA H qs) : LsA H (ps ++ qs) := fun q hq => (List.mem_append.mp hq).elim (a q) (b q)
theorem _root_.Rr.LsA.one {H : Hp} {g : Addr} {ws : List Str} (h : H g = some (.lst (ws.map V.str))) : LsA H [(g, ws)] := fun q hq => by rw [List.mem_singleton.mp hq]; exact h
theorem _root_.Rr.LsA.keep0 {H H' : Hp} {ps : List (Addr × List Str)} (a : LsA H ps) (k : Keep K [] H H') : LsA H' ps := a.keep k fun _ _ => List.not_mem_nil
def sp_lspoilt (K : PySem.W.Frag) : Sp := fun vs H Q _ => ∃ (a : Addr) (D : Dk) (way at_ : Int), vs = [.ref a, .int way, .int at_, .int D.now] ∧ RwAt H a (wssD D) ∧ GoodD D ∧ (0 ≤ way ∧ way < 61) ∧ ∀ b W H', Keep K [] H H' → RwAt H' b W → Spoilt W → Q (.ref b) H'
theorem c__law_spoilt (T : Tx K mg base) : Cal P w K mg base 2 "_law_spoilt" (sp_lspoilt K) := by
  have c__law_head : Cal P w K mg base 1 "_law_head" (sp_lhead K) := c__law_head T
  have c__law_row : Cal P w K mg base 1 "_law_row" (sp_lrow K) := c__law_row T
  obtain ⟨fd, F⟩ := T.d__law_spoilt
  refine ⟨_, fd, ["_law_rows", "_law_way", "_law_at", "_law_now"], okF (k := 1) F sc__law_spoilt (fun vs H Q E h => ?_) (fun A outer s H vs Q E hr h => ?_), T.r__law_spoilt, F.kp, F.bindsN fun _ _ _ _ _ _ us hl => match us, hl with | [_, _, _, _], _ => rfl⟩
  · obtain ⟨a, D, way, at_, rfl, _⟩ := h
    rfl
  · have nd := sc__law_spoilt.nd
    obtain ⟨a, D, way, at_, rfl, ⟨ps, eW, ha, hA⟩, g, hw, q⟩ := h
    obtain ⟨⟨pa0, pa1⟩, ro0, ro1⟩ := id g.pr
    have t0 := g.t0
    have t1 := g.t1
    have l61 := len61 g
    have l60 : D.line.length ≤ 60 := by rw [wssD_len] at l61; omega
    have elen : ps.length = D.line.length + 1 := by rw [← wssD_len, eW, List.length_map]
    have bl : ∀ {n : Nat}, n ≤ 200 → n ≤ sizeLine := fun h => Nat.le_trans h (by decide)
    have np := (num_ok (i := D.pace) (by omega) (by omega)).1.1
    have nr := (num_ok (i := D.room) (by omega) (by omega)).1.1
    have nn := (num_ok (i := D.now) t0 t1).1.1
    obtain ⟨h0, ps1, rfl⟩ : ∃ h0 ps1, ps = h0 :: ps1 := by
      cases ps with
      | nil => cases elen
      | cons x y => exact ⟨x, y, rfl⟩
    have e0 : h0.2 = headD D := (List.cons.inj eW).1.symm
    have e1 : D.line.map (wordsC D.now) = ps1.map (·.2) := (List.cons.inj eW).2
    have hh0 := hA h0 List.mem_cons_self
    rw [e0] at hh0
    refine ⟨_, (pss_cons (ps_if (pt_cmpR op_lt (pv 1) pe_int (nomark _))
  (pss_one (ps_ret (pe_op op_cat (pe_lst (pa_cons (pf c__law_head hr (by decide) (by rfl) p0 (pa_cons (pe_ix ix_list (pv 0) pe_int (fun _ _ => rfl)) (pa_cons (pv 1) pa_nil))) pa_nil)) (pe_slice sl_list (pv 0) (po_some pe_int) po_none))))
  pss_nil)
  (pss_cons (ps_if (pt_cmpR op_eq (pe_callB call_len_seq (by rfl) T.m_len boot_len (pa_cons (pv 0) pa_nil)) pe_int (nomark _))
  (pss_one (ps_ret (pe_op op_cat (pv 0) (pe_lst (pa_cons (pe_lst (pa_cons pe_str (pa_cons pe_str (pa_cons pe_str (pa_cons pe_str pa_nil))))) pa_nil)))))
  pss_nil)
  (pss_cons (ps_set (i := 4) nd rfl (Or.inl rfl) (pe_op op_add pe_int (pe_op op_mod (pv 2) (pe_op op_sub (pe_callB call_len_seq (by rfl) T.m_len boot_len (pa_cons (pv 0) pa_nil)) pe_int))))
  (pss_cons (ps_if (pt_cmpR op_lt (pv 1) pe_int (nomark _))
  (pss_one (ps_ret (pe_op op_cat (pe_op op_cat (pe_slice sl_list (pv 0) po_none (po_some (pv 4))) (pe_lst (pa_cons (pf c__law_row hr (by decide) (by rfl) p0 (pa_cons (pe_ix ix_list (pv 0) (pv 4) (fun _ _ => rfl)) (pa_cons (pe_op op_sub (pv 1) pe_int) (pa_cons (pv 3) pa_nil)))) pa_nil))) (pe_slice sl_list (pv 0) (po_some (pe_op op_add (pv 4) pe_int)) po_none))))
  pss_nil)
  (pss_cons (ps_if (pt_cmpR op_eq (pv 1) pe_int (nomark _))
  (pss_one (ps_ret (pe_op op_cat (pe_op op_cat (pe_slice sl_list (pv 0) po_none (po_some (pv 4))) (pe_lst (pa_cons (pe_ix ix_list (pv 0) pe_int (fun _ _ => rfl)) pa_nil))) (pe_slice sl_list (pv 0) (po_some (pv 4)) po_none))))
  pss_nil)
  (pss_cons (ps_if (pt_cmpR op_eq (pv 1) pe_int (nomark _))
  (pss_one (ps_ret (pe_op op_cat (pe_lst (pa_cons (pe_lst (pa_cons pe_str (pa_cons (pe_ix ix_list (pe_ix ix_list (pv 0) pe_int (fun _ _ => rfl)) pe_int (fun _ _ => rfl)) (pa_cons (pe_callTy call_str_int (by rfl) T.m_str (by decide +kernel) (pa_cons (pe_op op_sub (pe_callB call_len_seq (by rfl) T.m_len boot_len (pa_cons (pv 0) pa_nil)) pe_int) pa_nil)) (pa_cons (pe_ix ix_list (pe_ix ix_list (pv 0) pe_int (fun _ _ => rfl)) pe_int (fun _ _ => rfl)) pa_nil))))) pa_nil)) (pe_slice sl_list (pv 0) (po_some pe_int) po_none))))
  pss_nil)
  (pss_one (ps_ret (pe_op op_cat (pv 0) (pe_lst (pa_cons (pe_ix ix_list (pv 0) (pv 4) (fun _ _ => rfl)) pa_nil))))))))))), ?_⟩
    refine ⟨_, rfl, _, _, rfl, rfl, _, rfl, ite2 (fun e => ?_) (fun n22 => ?_)⟩
    · have hw22 : way < 22 := of_decide_eq_true e
      refine ⟨_, rfl, a, _, _, .ref h0.1, rfl, rfl, .inl (.inl ha), at0 _ _, _, rfl, h0.1, "desk", numT D.pace, numT D.room, numT D.now, way, rfl, hh0, ⟨hw.1, hw22⟩, ⟨np, nr, nn⟩, fun b ws H1 k1 ews hb => ?_⟩
      refine ⟨(show 1 ≤ sizeLine by decide), fun l nl => ?_⟩
      have k2 := k1.trans (Keep.new (o := .lst [V.ref b]) nl)
      have hl2 : (L2.upd H1 l (.lst [V.ref b])) l = some (.lst [V.ref b]) := upd_same
      have hb2 : (L2.upd H1 l (.lst [V.ref b])) b = some (.lst (ws.map V.str)) := (upd_ne (ne_of_none hb nl)).trans hb
      generalize L2.upd H1 l (.lst [V.ref b]) = H2 at k2 hl2 hb2 ⊢
      have ha2 := k2.lst ha List.not_mem_nil
      refine ⟨_, rfl, _, rfl, a, _, rfl, .inl (.inl ha2), fun s ns => ?_⟩
      have ecut : cutV ((h0 :: ps1).map fun p => V.ref p.1) (some (1 : Int)) none = ((h0 :: ps1).drop 1).map fun p => V.ref p.1 := drop_refs _ (k := 1) (by simp)
      rw [ecut]
      have ks := k2.trans (Keep.new (S := []) (o := .lst (((h0 :: ps1).drop 1).map fun p => V.ref p.1)) ns)
      refine ⟨l, s, _, _, rfl, rfl, (upd_ne (ne_of_none hl2 ns)).trans hl2, upd_same, bl (by rw [List.length_map, List.length_drop, elen]; show 1 + (D.line.length + 1 - 1) ≤ 200; omega), fun r nr' => ?_⟩
      have hm := heads_bad ⟨pa0, pa1⟩ ⟨ro0, ro1⟩ ⟨t0, t1⟩ ws (List.mem_of_getElem? ews)
      have kf := ks.trans (Keep.new (S := []) (o := .lst ([V.ref b] ++ ((h0 :: ps1).drop 1).map fun p => V.ref p.1)) nr')
      refine q r (ws :: (wssD D).tail) _ kf ⟨(b, ws) :: ps1, ?_, upd_same, ?_⟩ (sp_head g hm)
      · rw [eW]
        rfl
      · exact (LsA.one (((Keep.new (K := K) (S := []) ns).trans (Keep.new nr')).lst hb2 List.not_mem_nil)).app ((hA.sub fun q hq => List.mem_cons_of_mem _ hq).keep0 kf)
    · refine ⟨_, rfl, a, _, rfl, .inl (.inl (.inl ha)), rfl, _, rfl, ite2 (fun e => ?_) (fun n1 => ?_)⟩
      · refine ⟨_, rfl, (show 4 ≤ sizeLine by decide), fun x nx => ⟨(show 1 ≤ sizeLine by decide), fun l nl => ?_⟩⟩
        have k1 : Keep K [] H (L2.upd (L2.upd H x (.lst (([("ab" : Str), "7", "asleep", "0"] : List Str).map V.str))) l (.lst [V.ref x])) := (Keep.new nx).trans (Keep.new nl)
        have hx1 : (L2.upd (L2.upd H x (.lst (([("ab" : Str), "7", "asleep", "0"] : List Str).map V.str))) l (.lst [V.ref x])) x = some (.lst (([("ab" : Str), "7", "asleep", "0"] : List Str).map V.str)) := (upd_ne (ne_of_none upd_same nl)).trans upd_same
        refine ⟨a, l, _, _, rfl, rfl, k1.lst ha List.not_mem_nil, upd_same, bl (by rw [List.length_map, elen]; show D.line.length + 1 + 1 ≤ 200; omega), fun r nr' => ?_⟩
        have kf := k1.trans (Keep.new (S := []) (o := .lst (((h0 :: ps1).map fun p => V.ref p.1) ++ [V.ref x])) nr')
        refine q r (wssD D ++ [[("ab" : Str), "7", "asleep", "0"]]) _ kf ⟨(h0 :: ps1) ++ [(x, [("ab" : Str), "7", "asleep", "0"])], ?_, ?_, ?_⟩ (sp_none g)
        · rw [eW, List.map_append]
          rfl
        · rw [List.map_append]
          exact upd_same
        · exact (hA.keep0 kf).app (LsA.one ((Keep.new (K := K) (S := []) nr').lst hx1 List.not_mem_nil))
      · have hne : D.line.length ≠ 0 := fun z => n1 (decide_eq_true (by rw [List.length_map, elen, z]; rfl))
        refine ⟨_, rfl, _, rfl, a, _, rfl, .inl (.inl (.inl ha)), _, _, rfl, rfl, _, _, rfl, rfl, (by rw [List.length_map, elen]; omega), _, _, rfl, rfl, ?_⟩
        dsimp only
        rw [List.length_map, elen]
        obtain ⟨j, hj, ej⟩ : ∃ j : Nat, j < D.line.length ∧ 1 + at_ % (((D.line.length + 1 : Nat) : Int) - 1) = ((j + 1 : Nat) : Int) := by
          have h1 : 0 ≤ at_ % (((D.line.length + 1 : Nat) : Int) - 1) := Int.emod_nonneg _ (by omega)
          have h2 : at_ % (((D.line.length + 1 : Nat) : Int) - 1) < ((D.line.length + 1 : Nat) : Int) - 1 := Int.emod_lt_of_pos _ (by omega)
          exact ⟨(at_ % (((D.line.length + 1 : Nat) : Int) - 1)).toNat, by omega, by omega⟩
        rw [ej]
        obtain ⟨c, hc⟩ : ∃ c, D.line[j]? = some c := ⟨_, List.getElem?_eq_getElem hj⟩
        obtain ⟨pj, hpj⟩ : ∃ pj, ps1[j]? = some pj := ⟨_, List.getElem?_eq_getElem (by simp at elen; omega)⟩
        have ec : pj.2 = wordsC D.now c := by
          have := congrArg (·[j]?) e1
          simp only [List.getElem?_map, hc, hpj] at this
          exact (Option.some.inj this).symm
        have hcm := List.mem_of_getElem? hc
        have hpm : pj ∈ h0 :: ps1 := List.mem_cons_of_mem _ (List.mem_of_getElem? hpj)
        have hpj0 : (h0 :: ps1)[j + 1]? = some pj := hpj
        have hjj := hA pj hpm
        rw [ec] at hjj
        refine ⟨_, rfl, _, _, rfl, rfl, _, rfl, ite2 (fun e => ?_) (fun n58 => ?_)⟩
        · refine ⟨_, rfl, _, rfl, _, rfl, a, _, rfl, .inl (.inl ha), fun s1 ns1 => ?_⟩
          rw [cut_refs (h0 :: ps1) (k := j + 1) (by rw [elen]; omega)]
          have k1 : Keep K [] H (L2.upd H s1 (.lst (((h0 :: ps1).take (j + 1)).map fun p => V.ref p.1))) := Keep.new ns1
          have hs1 : (L2.upd H s1 (.lst (((h0 :: ps1).take (j + 1)).map fun p => V.ref p.1))) s1 = some (.lst (((h0 :: ps1).take (j + 1)).map fun p => V.ref p.1)) := upd_same
          generalize L2.upd H s1 (.lst (((h0 :: ps1).take (j + 1)).map fun p => V.ref p.1)) = H1 at k1 hs1 ⊢
          have hw58 : way < 58 := of_decide_eq_true e
          have hw22 : ¬ way < 22 := fun z => n22 (decide_eq_true z)
          obtain ⟨⟨w1, _⟩, _⟩ := num_ok (g.rk c hcm).1 (show c.rank < 1000000000000 by have := (g.rk c hcm).2; omega)
          refine ⟨_, rfl, _, rfl, a, _, _, .ref pj.1, rfl, rfl, .inl (.inl (k1.lst ha List.not_mem_nil)), refs_at hpj0, _, rfl, _, _, rfl, rfl, _, rfl, ?_⟩
          refine ⟨pj.1, c.name, numT c.rank, c.st.word, c.st.told D.now, way - 22, D.now, rfl, k1.lst hjj List.not_mem_nil, ⟨by omega, by omega⟩, ⟨(name_word (g.ok c hcm)).1, w1, (word_ok c.st).1, (told_ok t1 (g.st c hcm)).1⟩, ⟨t0, t1⟩, fun b ws H2 k2 ews hb => ?_⟩
          refine ⟨(show 1 ≤ sizeLine by decide), fun l nl => ?_⟩
          have k3 := (k1.trans k2).trans (Keep.new (o := .lst [V.ref b]) nl)
          have hl3 : (L2.upd H2 l (.lst [V.ref b])) l = some (.lst [V.ref b]) := upd_same
          have hb3 : (L2.upd H2 l (.lst [V.ref b])) b = some (.lst (ws.map V.str)) := (upd_ne (ne_of_none hb nl)).trans hb
          have hs3 := (k2.trans (Keep.new (o := .lst [V.ref b]) nl)).lst hs1 List.not_mem_nil
          generalize L2.upd H2 l (.lst [V.ref b]) = H3 at k3 hl3 hb3 hs3 ⊢
          have lt1 : (((h0 :: ps1).take (j + 1)).map fun p => V.ref p.1).length ≤ 61 := by
            rw [List.length_map, List.length_take, elen]
            omega
          refine ⟨s1, l, _, _, rfl, rfl, hs3, hl3, bl (by show _ + 1 ≤ 200; omega), fun m nm => ?_⟩
          have k4 := k3.trans (Keep.new (o := .lst (((h0 :: ps1).take (j + 1)).map (fun p => V.ref p.1) ++ [V.ref b])) nm)
          have hm4 : (L2.upd H3 m (.lst (((h0 :: ps1).take (j + 1)).map (fun p => V.ref p.1) ++ [V.ref b]))) m = some (.lst (((h0 :: ps1).take (j + 1)).map (fun p => V.ref p.1) ++ [V.ref b])) := upd_same
          have hb4 : (L2.upd H3 m (.lst (((h0 :: ps1).take (j + 1)).map (fun p => V.ref p.1) ++ [V.ref b]))) b = some (.lst (ws.map V.str)) := (upd_ne (ne_of_none hb3 nm)).trans hb3
          generalize L2.upd H3 m (.lst (((h0 :: ps1).take (j + 1)).map (fun p => V.ref p.1) ++ [V.ref b])) = H4 at k4 hm4 hb4 ⊢
          refine ⟨_, rfl, _, rfl, _, _, rfl, rfl, _, rfl, a, _, rfl, .inl (.inl (k4.lst ha List.not_mem_nil)), fun s2 ns2 => ?_⟩
          rw [show (((j + 1 : Nat) : Int) + 1) = ((j + 2 : Nat) : Int) by omega, drop_refs (h0 :: ps1) (k := j + 2) (by rw [elen]; omega)]
          have ld : (((h0 :: ps1).drop (j + 2)).map fun p => V.ref p.1).length ≤ 61 := by
            rw [List.length_map, List.length_drop, elen]
            omega
          have k5 := k4.trans (Keep.new (S := []) (o := .lst (((h0 :: ps1).drop (j + 2)).map fun p => V.ref p.1)) ns2)
          refine ⟨m, s2, _, _, rfl, rfl, (upd_ne (ne_of_none hm4 ns2)).trans hm4, upd_same, bl (by rw [List.length_append]; show _ + 1 + _ ≤ 200; omega), fun r nr' => ?_⟩
          have kf := k5.trans (Keep.new (S := []) (o := .lst ((((h0 :: ps1).take (j + 1)).map (fun p => V.ref p.1) ++ [V.ref b]) ++ (((h0 :: ps1).drop (j + 2)).map fun p => V.ref p.1))) nr')
          refine q r ((wssD D).take (j + 1) ++ ws :: (wssD D).drop (j + 2)) _ kf ⟨(h0 :: ps1).take (j + 1) ++ (b, ws) :: (h0 :: ps1).drop (j + 2), ?_, ?_, ?_⟩ (sp_row g hc (List.mem_of_getElem? ews))
          · rw [eW]
            simp only [List.map_append, List.map_take, List.map_cons, List.map_drop]
          · rw [List.map_append, List.map_cons]
            refine upd_same.trans ?_
            rw [List.append_assoc]
            rfl
          · exact ((hA.sub fun q hq => List.mem_of_mem_take hq).keep0 kf).app fun q hq => by
              rcases List.mem_cons.mp hq with rfl | hq
              · exact (upd_ne (ne_of_none ((upd_ne (ne_of_none hb4 ns2)).trans hb4) nr')).trans ((upd_ne (ne_of_none hb4 ns2)).trans hb4)
              · exact LsA.keep0 (hA.sub fun q hq => List.mem_of_mem_drop hq) kf q hq
        · refine ⟨_, rfl, rfl, _, rfl, ite2 (fun _ => ?_) (fun n => ⟨_, rfl, rfl, _, rfl, ite2 (fun _ => ?_) (fun _ => ?_)⟩)⟩
          · refine ⟨_, rfl, _, rfl, _, rfl, a, _, rfl, .inl (.inl ha), fun s1 ns1 => ?_⟩
            rw [cut_refs (h0 :: ps1) (k := j + 1) (by rw [elen]; omega)]
            have k1 : Keep K [] H (L2.upd H s1 (.lst (((h0 :: ps1).take (j + 1)).map fun p => V.ref p.1))) := Keep.new ns1
            have hs1 : (L2.upd H s1 (.lst (((h0 :: ps1).take (j + 1)).map fun p => V.ref p.1))) s1 = some (.lst (((h0 :: ps1).take (j + 1)).map fun p => V.ref p.1)) := upd_same
            generalize L2.upd H s1 (.lst (((h0 :: ps1).take (j + 1)).map fun p => V.ref p.1)) = H1 at k1 hs1 ⊢
            refine ⟨_, rfl, a, _, _, .ref h0.1, rfl, rfl, .inl (.inl (k1.lst ha List.not_mem_nil)), at0 _ _, (show 1 ≤ sizeLine by decide), fun l nl => ?_⟩
            have k3 := k1.trans (Keep.new (o := .lst [V.ref h0.1]) nl)
            have hl3 : (L2.upd H1 l (.lst [V.ref h0.1])) l = some (.lst [V.ref h0.1]) := upd_same
            have hs3 := (Keep.new (K := K) (S := []) (o := .lst [V.ref h0.1]) nl).lst hs1 List.not_mem_nil
            generalize L2.upd H1 l (.lst [V.ref h0.1]) = H3 at k3 hl3 hs3 ⊢
            have lt1 : (((h0 :: ps1).take (j + 1)).map fun p => V.ref p.1).length ≤ 61 := by
              rw [List.length_map, List.length_take, elen]
              omega
            refine ⟨s1, l, _, _, rfl, rfl, hs3, hl3, bl (by show _ + 1 ≤ 200; omega), fun m nm => ?_⟩
            have k4 := k3.trans (Keep.new (o := .lst (((h0 :: ps1).take (j + 1)).map (fun p => V.ref p.1) ++ [V.ref h0.1])) nm)
            have hm4 : (L2.upd H3 m (.lst (((h0 :: ps1).take (j + 1)).map (fun p => V.ref p.1) ++ [V.ref h0.1]))) m = some (.lst (((h0 :: ps1).take (j + 1)).map (fun p => V.ref p.1) ++ [V.ref h0.1])) := upd_same
            generalize L2.upd H3 m (.lst (((h0 :: ps1).take (j + 1)).map (fun p => V.ref p.1) ++ [V.ref h0.1])) = H4 at k4 hm4 ⊢
            refine ⟨_, rfl, _, rfl, _, rfl, a, _, rfl, .inl (.inl (k4.lst ha List.not_mem_nil)), fun s2 ns2 => ?_⟩
            rw [drop_refs (h0 :: ps1) (k := j + 1) (by rw [elen]; omega)]
            have ld : (((h0 :: ps1).drop (j + 1)).map fun p => V.ref p.1).length ≤ 61 := by
              rw [List.length_map, List.length_drop, elen]
              omega
            have k5 := k4.trans (Keep.new (S := []) (o := .lst (((h0 :: ps1).drop (j + 1)).map fun p => V.ref p.1)) ns2)
            refine ⟨m, s2, _, _, rfl, rfl, (upd_ne (ne_of_none hm4 ns2)).trans hm4, upd_same, bl (by rw [List.length_append]; show _ + 1 + _ ≤ 200; omega), fun r nr' => ?_⟩
            have kf := k5.trans (Keep.new (S := []) (o := .lst ((((h0 :: ps1).take (j + 1)).map (fun p => V.ref p.1) ++ [V.ref h0.1]) ++ (((h0 :: ps1).drop (j + 1)).map fun p => V.ref p.1))) nr')
            refine q r ((wssD D).take (j + 1) ++ headD D :: (wssD D).drop (j + 1)) _ kf ⟨(h0 :: ps1).take (j + 1) ++ h0 :: (h0 :: ps1).drop (j + 1), ?_, ?_, ?_⟩ (sp_twice g j)
            · rw [eW]
              simp only [List.map_append, List.map_take, List.map_cons, List.map_drop, e0]
            · rw [List.map_append, List.map_cons]
              refine upd_same.trans ?_
              rw [List.append_assoc]
              rfl
            · exact ((hA.sub fun q hq => List.mem_of_mem_take hq).keep0 kf).app ((hA.sub fun q hq => by
                rcases List.mem_cons.mp hq with rfl | hq
                · exact List.mem_cons_self
                · exact List.mem_of_mem_drop hq).keep0 kf)
          · have ml : Mod (((D.line.length + 1 : Nat) : Int) - 2) := ⟨by omega, by omega⟩
            refine ⟨_, rfl, a, _, _, .ref h0.1, rfl, rfl, .inl (.inl ha), at0 _ _, h0.1, _, _, .str (numT D.pace), rfl, rfl, .inl (.inl hh0), rfl, _, rfl, a, _, rfl, .inl (.inl (.inl ha)), _, _, rfl, rfl, _, rfl, ?_⟩
            dsimp only
            rw [List.length_map, elen]
            refine ⟨ml.log, _, rfl, a, _, _, .ref h0.1, rfl, rfl, .inl (.inl ha), at0 _ _, h0.1, _, _, .str (numT D.now), rfl, rfl, .inl (.inl hh0), rfl, (show 4 ≤ sizeLine by decide), fun x nx => ⟨(show 1 ≤ sizeLine by decide), fun l nl => ?_⟩⟩
            have eX : [V.str "desk", .str (numT D.pace), .str (numT (((D.line.length + 1 : Nat) : Int) - 2)), .str (numT D.now)] = ([("desk" : Str), numT D.pace, numT ((D.line.length : Int) - 1), numT D.now]).map V.str := by
              rw [show ((D.line.length + 1 : Nat) : Int) - 2 = (D.line.length : Int) - 1 by omega]
              rfl
            have hx0 := (upd_same (H := H) (a := x) (o := .lst [V.str "desk", .str (numT D.pace), .str (numT (((D.line.length + 1 : Nat) : Int) - 2)), .str (numT D.now)])).trans (congrArg (fun z => some (HO.lst z)) eX)
            have hx2 := (upd_ne (o := .lst [V.ref x]) (ne_of_none hx0 nl)).trans hx0
            have k2 := (Keep.new (K := K) (S := []) nx).trans (Keep.new (o := .lst [V.ref x]) nl)
            have hl2 := upd_same (a := l) (o := .lst [V.ref x]) (H := L2.upd H x (.lst [V.str "desk", .str (numT D.pace), .str (numT (((D.line.length + 1 : Nat) : Int) - 2)), .str (numT D.now)]))
            have ha2 := k2.lst ha List.not_mem_nil
            refine ⟨_, rfl, _, rfl, a, _, rfl, .inl (.inl ha2), fun s ns => ?_⟩
            have ecut : cutV ((h0 :: ps1).map fun p => V.ref p.1) (some (1 : Int)) none = ((h0 :: ps1).drop 1).map fun p => V.ref p.1 := drop_refs _ (k := 1) (by simp)
            rw [ecut]
            have ks := k2.trans (Keep.new (S := []) (o := .lst (((h0 :: ps1).drop 1).map fun p => V.ref p.1)) ns)
            refine ⟨l, s, _, _, rfl, rfl, (upd_ne (ne_of_none hl2 ns)).trans hl2, upd_same, bl (by rw [List.length_map, List.length_drop, elen]; show 1 + (D.line.length + 1 - 1) ≤ 200; omega), fun r nr' => ?_⟩
            have kf := ks.trans (Keep.new (S := []) (o := .lst ([V.ref x] ++ ((h0 :: ps1).drop 1).map fun p => V.ref p.1)) nr')
            refine q r ([("desk" : Str), numT D.pace, numT ((D.line.length : Int) - 1), numT D.now] :: (wssD D).tail) _ kf ⟨(x, [("desk" : Str), numT D.pace, numT ((D.line.length : Int) - 1), numT D.now]) :: ps1, ?_, upd_same, ?_⟩ (sp_less g fun z => hne (by rw [z]; rfl))
            · rw [eW]
              rfl
            · exact (LsA.one ((upd_ne (ne_of_none ((upd_ne (ne_of_none hx2 ns)).trans hx2) nr')).trans ((upd_ne (ne_of_none hx2 ns)).trans hx2))).app ((hA.sub fun q hq => List.mem_cons_of_mem _ hq).keep0 kf)
          · refine ⟨_, rfl, _, rfl, _, rfl, a, _, _, .ref pj.1, rfl, rfl, .inl (.inl ha), refs_at hpj0, (show 1 ≤ sizeLine by decide), fun l nl => ?_⟩
            have k1 := Keep.new (K := K) (S := []) (o := .lst [V.ref pj.1]) nl
            refine ⟨a, l, _, _, rfl, rfl, k1.lst ha List.not_mem_nil, upd_same, bl (by rw [List.length_map, elen]; show D.line.length + 1 + 1 ≤ 200; omega), fun r nr' => ?_⟩
            have kf := k1.trans (Keep.new (S := []) (o := .lst (((h0 :: ps1).map fun p => V.ref p.1) ++ [V.ref pj.1])) nr')
            refine q r (wssD D ++ [wordsC D.now c]) _ kf ⟨(h0 :: ps1) ++ [pj], ?_, ?_, ?_⟩ (sp_again g hcm)
            · rw [eW, List.map_append, ← ec]
              rfl
            · rw [List.map_append]
              exact upd_same
            · exact (hA.keep0 kf).app ((hA.sub fun q hq => by rw [List.mem_singleton.mp hq]; exact hpm).keep0 kf)
end
end Rr.K

set_option maxRecDepth 100000
set_option maxHeartbeats 4000000
/-! k11: texts that are cut, and texts with a row too many -/
namespace Rr
open PySem PySem.Spec PyProof.Rows L2
open TL (tl tl_append len_tl tl_join joinL)
theorem ends_no {x : Str} (h : ∀ c, (tl x).getLast? = some c → c ≠ 10) : Txt.endswith x "\n" = false := by
  unfold Txt.endswith
  have h1 : ("\n" : Str).length = 1 := by decide +kernel
  have e1 : tl ("\n" : Str) = [10] := by decide +kernel
  rw [h1]
  rcases Nat.eq_zero_or_pos x.length with z | z
  · rw [z]
    rfl
  · rw [Bool.and_eq_false_iff]
    refine .inr ?_
    rw [PySem.StrLaws.subAt_eq]
    show (((tl x).drop (x.length - 1)).take ("\n" : Str).length == tl ("\n" : Str)) = false
    rw [h1, e1, show x.length = (tl x).length from (len_tl x).symm]
    have hn : tl x ≠ [] := fun e => by
      have := len_tl x
      rw [e] at this
      simp at this
      omega
    obtain ⟨l, z, el⟩ : ∃ l z, tl x = l ++ [z] := ⟨_, _, (List.dropLast_concat_getLast hn).symm⟩
    have := h z (by rw [el]; simp)
    rw [el, List.length_append, List.length_singleton, Nat.add_sub_cancel, List.drop_left]
    simp [this]
theorem joinL_snoc {S : List Nat} (p : List Nat) : ∀ l : List (List Nat), ∃ pre, joinL S (l ++ [p]) = pre ++ p
  | [] => ⟨[], rfl⟩
  | [a] => ⟨a ++ S, by simp [joinL]⟩
  | a :: b :: r => by
    obtain ⟨pre, e⟩ := joinL_snoc p (b :: r)
    refine ⟨a ++ (S ++ pre), ?_⟩
    show a ++ (S ++ joinL S ((b :: r) ++ [p])) = _
    rw [e]
    simp
theorem four_ne {ws : List Str} (h : ws.length = 4) : tl (Str.join " " ws) ≠ [] := by
  match ws, h with
  | [a, b, c, d], _ =>
    rw [tl_join]
    show tl a ++ (tl " " ++ _) ≠ []
    rw [show tl (" " : Str) = [32] by decide +kernel]
    simp
theorem wssD_four (D : Dk) : ∀ ws ∈ wssD D, ws.length = 4 := fun ws h => by
  rcases List.mem_cons.mp h with rfl | h
  · rfl
  · obtain ⟨c, _, rfl⟩ := List.mem_map.mp h
    rfl
theorem cut_no {D : Dk} (g : GoodD D) : Txt.endswith (Str.join "\n" ((wssD D).map (Str.join " "))) "\n" = false := by
  refine ends_no fun c hc => ?_
  have hne : wssD D ≠ [] := by unfold wssD; simp
  have hl := List.getLast_mem hne
  have e : (wssD D) = (wssD D).dropLast ++ [(wssD D).getLast hne] := (List.dropLast_concat_getLast hne).symm
  rw [e, tl_join, List.map_append, List.map_append] at hc
  obtain ⟨pre, ep⟩ := joinL_snoc (S := tl "\n") (tl (Str.join " " ((wssD D).getLast hne))) (((wssD D).dropLast.map (Str.join " ")).map tl)
  have ep : joinL (tl "\n") (((wssD D).dropLast.map (Str.join " ")).map tl ++ ([((wssD D).getLast hne)].map (Str.join " ")).map tl) = pre ++ tl (Str.join " " ((wssD D).getLast hne)) := ep
  rw [ep] at hc
  obtain ⟨l, z, el⟩ : ∃ l z, tl (Str.join " " ((wssD D).getLast hne)) = l ++ [z] := ⟨_, _, (List.dropLast_concat_getLast (four_ne (wssD_four D _ hl))).symm⟩
  have hz := (row_sgn (wssD_row g _ hl) z (by rw [el]; simp)).1
  rw [el, ← List.append_assoc] at hc
  rw [List.getLast?_concat] at hc
  rw [← Option.some.inj hc]
  exact hz
theorem x_no (t : Str) : Txt.endswith (t ++ "x") "\n" = false := by
  refine ends_no fun c hc => ?_
  rw [tl_append, show tl ("x" : Str) = [120] by decide +kernel] at hc
  simp at hc
  omega
theorem empty_row : RowW [("" : Str)] := ⟨by simp, by simp, fun w hw => by rw [List.mem_singleton.mp hw]; exact wd_const (by decide +kernel)⟩
theorem one_more {D : Dk} (g : GoodD D) : textW (wssD D) ++ "\n" = textW (wssD D ++ [[("" : Str)]]) ∧ TextOk (wssD D ++ [[("" : Str)]]) ∧ ReadBad (wssD D ++ [[("" : Str)]]) := by
  refine ⟨?_, ⟨by simp, ?_, fun ws h => ?_⟩, .inr ⟨D, [""], [], g, rfl, .inl (by simp)⟩⟩
  · rw [← textS_eq (W := wssD D) (by unfold wssD; simp), ← textS_eq (W := wssD D ++ [[("" : Str)]]) (by simp)]
    refine TL.ext_tl ?_
    unfold textS
    rw [tl_append, tl_join, tl_join, show tl ("" : Str) = [] by decide +kernel, joinL_nil, joinL_nil, List.map_append, List.map_append, List.flatten_append]
    congr 1
  · have := len61 g
    rw [List.length_append]
    show _ + 1 ≤ 70
    omega
  · rcases List.mem_append.mp h with h | h
    · exact wssD_row g ws h
    · rw [List.mem_singleton.mp h]
      exact empty_row
theorem one_before {D : Dk} (g : GoodD D) : "\n" ++ textW (wssD D) = textW ([("" : Str)] :: wssD D) ∧ TextOk ([("" : Str)] :: wssD D) ∧ ReadBad ([("" : Str)] :: wssD D) := by
  refine ⟨?_, ⟨by simp, ?_, fun ws h => ?_⟩, .inl ⟨[""], _, rfl, .inl (by simp)⟩⟩
  · rw [← textS_eq (W := wssD D) (by unfold wssD; simp), ← textS_eq (W := [("" : Str)] :: wssD D) (by simp)]
    refine TL.ext_tl ?_
    unfold textS
    rw [tl_append, tl_join, tl_join, show tl ("" : Str) = [] by decide +kernel, joinL_nil, joinL_nil, List.map_cons, List.map_cons, List.flatten_cons]
    congr 1
  · have := len61 g
    rw [List.length_cons]
    omega
  · rcases List.mem_cons.mp h with rfl | h
    · exact empty_row
    · exact wssD_row g ws h
theorem nl_only : ("\n" : Str) = textW [[("" : Str)]] ∧ TextOk [[("" : Str)]] ∧ ReadBad [[("" : Str)]] := by
  refine ⟨TL.ext_tl ?_, ⟨by simp, by simp, fun ws h => ?_⟩, .inl ⟨[""], [], rfl, .inl (by simp)⟩⟩
  · decide +kernel
  · rw [List.mem_singleton.mp h]
    exact empty_row
end Rr

set_option maxRecDepth 100000
set_option maxHeartbeats 4000000
namespace Rr.K
open PySem PySem.Spec PyProof.Rows L2
open L2H (SpP)
open GxR (TabG Tabbed)
open Evl (pss_cut)
theorem iteD {p : Prop} [Decidable p] {X Y : Prop} (hp : p) (h : X) : if decide p = true then X else Y := by
  rw [if_pos (decide_eq_true hp)]
  exact h
theorem iteDn {p : Prop} [Decidable p] {X Y : Prop} (hp : ¬ p) (h : Y) : if decide p = true then X else Y := by
  rw [if_neg (by rw [decide_eq_false hp]; simp)]
  exact h
theorem iteE {x : V} {X Y : Prop} (h : Y) : if (!decide (x = x)) = true then X else Y := by
  rw [if_neg (by simp)]
  exact h
section
variable {P : Program} {w : World} {K : PySem.W.Frag} {mg : Str → Option Value} {base : Heap}
theorem txt {a : Addr} {l : List Str} {H : Hp} (ha : H a = some (.lst (l.map V.str))) : H a = some (.lst ((l.map some).map fun x => x.elim .non V.str)) := by
  have e : l.map V.str = (l.map some).map fun x => x.elim .non V.str := by
    rw [List.map_map]
    rfl
  rw [e] at ha
  exact ha
theorem txl {l : List Str} {n : Nat} (h : l.length ≤ n) : (l.map some).length ≤ n := by rw [List.length_map]; exact h
def sp_lstands (K : PySem.W.Frag) : Sp := fun vs H Q _ => ∃ (d a : Addr) (S : List Addr) (D : Dk), vs = [.ref d, .ref a] ∧ DkAt K H S d D ∧ GoodD D ∧ RwAt H a (wssD D) ∧ ∀ H', Keep K [] H H' → Q (.bl true) H'
theorem c__law_stands (T : Tx K mg base) : Cal P w K mg base 3 "_law_stands" (sp_lstands K) := by
  have c__law_whole : Cal P w K mg base 1 "_law_whole" sp_whole := c__law_whole T
  have c__law_texts : Cal P w K mg base 1 "_law_texts" (sp_texts K) := c__law_texts T
  have c__law_number : Cal P w K mg base 1 "_law_number" (sp_lnumber K) := c__law_number T
  have c_Desk_names : Met P w K mg base 1 (He.ga K "Desk") "names" (sp_names K) := c_Desk_names T
  have c_Desk_rank : Met P w K mg base 2 (He.ga K "Desk") "rank" (sp_rank K) := c_Desk_rank T
  have c_Desk_left : Met P w K mg base 2 (He.ga K "Desk") "left" (sp_left K) := c_Desk_left T
  have c_Desk_bell : Met P w K mg base 2 (He.ga K "Desk") "bell" (sp_bell K) := c_Desk_bell T
  have c_Desk_state : Met P w K mg base 2 (He.ga K "Desk") "state" (sp_state K) := c_Desk_state T
  have c_Desk_waited : Met P w K mg base 2 (He.ga K "Desk") "waited" (sp_waited K) := c_Desk_waited T
  obtain ⟨fd, F⟩ := T.d__law_stands
  refine ⟨_, fd, ["_law_desk", "_law_rows"], okF (k := 2) F sc__law_stands (fun vs H Q E h => ?_) (fun A outer s H vs Q E hr h => ?_), T.r__law_stands, F.kp, F.bindsN fun _ _ _ _ _ _ us hl => match us, hl with | [_, _], _ => rfl⟩
  · obtain ⟨d, a, S, D, rfl, _⟩ := h
    rfl
  · have nd := sc__law_stands.nd
    obtain ⟨d, a, S, D, rfl, hD, g, ⟨ps, eW, ha, hA⟩, q⟩ := h
    obtain ⟨L, ln, eS, x⟩ := id hD
    obtain ⟨dx, hd⟩ := id x.desk
    obtain ⟨⟨pa0, pa1⟩, ro0, ro1⟩ := id g.pr
    have t0 := g.t0
    have t1 := g.t1
    have l61 := len61 g
    have l60 : D.line.length ≤ 60 := by rw [wssD_len] at l61; omega
    have elen : ps.length = D.line.length + 1 := by rw [← wssD_len, eW, List.length_map]
    obtain ⟨h0, ps1, rfl⟩ : ∃ h0 ps1, ps = h0 :: ps1 := by
      cases ps with
      | nil => cases elen
      | cons x y => exact ⟨x, y, rfl⟩
    have e0 : h0.2 = headD D := (List.cons.inj eW).1.symm
    have e1 : D.line.map (wordsC D.now) = ps1.map (·.2) := (List.cons.inj eW).2
    have hh0 := hA h0 List.mem_cons_self
    rw [e0] at hh0
    have elen1 : ps1.length = D.line.length := by simpa using elen
    have ecut : cutV ((h0 :: ps1).map fun p => V.ref p.1) (some (1 : Int)) none = ((h0 :: ps1).drop 1).map fun p => V.ref p.1 := drop_refs _ (k := 1) (by simp)
    have ecut : cutV ((h0 :: ps1).map fun p => V.ref p.1) (some (1 : Int)) none = ps1.map fun p => V.ref p.1 := ecut
    have rows : ∀ {i : Nat} {p : Addr × List Str}, ps1[i]? = some p → ∃ c, D.line[i]? = some c ∧ p.2 = wordsC D.now c := fun {i p} h => by
      have e := congrArg (·[i]?) e1
      simp only [List.getElem?_map, h] at e
      cases ec : D.line[i]? with
      | none =>
        rw [ec] at e
        cases e
      | some c =>
        rw [ec] at e
        exact ⟨c, rfl, (Option.some.inj e).symm⟩
    refine ⟨_, (pss_cons (ps_for (passes_of rfl) rfl (pi_list (pe_lst (pa_cons (pe_tup (pa_cons (pe_fld (pv 0) rfl) (pa_cons (pe_ix ix_list (pe_ix ix_list (pv 1) pe_int (fun _ _ => rfl)) pe_int (fun _ _ => rfl)) pa_nil))) (pa_cons (pe_tup (pa_cons (pe_fld (pv 0) rfl) (pa_cons (pe_ix ix_list (pe_ix ix_list (pv 1) pe_int (fun _ _ => rfl)) pe_int (fun _ _ => rfl)) pa_nil))) (pa_cons (pe_tup (pa_cons (pe_fld (pv 0) rfl) (pa_cons (pe_ix ix_list (pe_ix ix_list (pv 1) pe_int (fun _ _ => rfl)) pe_int (fun _ _ => rfl)) pa_nil))) pa_nil))))) (pg_tup rfl (pgs_cons (pg_name (i := 2) nd rfl (Or.inl rfl)) (pgs_cons (pg_name (i := 3) nd rfl (Or.inl rfl)) pgs_nil)))
  (pss_one (ps_if (PW.pt (pw_or (pt_not (pt_val (pf c__law_whole hr (by decide) (by rfl) p0 (pa_cons (pv 2) pa_nil)))) (pw_or1 (pt_cmpR op_ne (pv 2) (pe_callTy call_int_str (by rfl) T.m_int (by decide +kernel) (pa_cons (pv 3) pa_nil)) (nomark _)))))
  (pss_one (ps_ret pe_bl))
  pss_nil)))
  (pss_cons (ps_if (pt_not (pt_val (pf c__law_texts hr (by decide) (by rfl) p0 (pa_cons (pm0 c_Desk_names hr (by decide) p0 (pv 0)) (pa_cons (pe_lc (own := [("_law_row_here", 4)]) (g := gName 4) (tt := tYes) rfl nd (pi_listK (K := K) rfl (pe_slice (sl_listK (K := K) rfl) (pv 1) (po_some pe_int) po_none)) (blkOk_by (N := N__law_stands) (sc := defScope s__law_stands) (by decide +kernel)) (fun _ _ _ _ _ => (pg_name (i := 4) nd rfl (Or.inl rfl))) (fun _ _ _ _ _ => pts_nil) (fun _ _ _ _ _ => (pe_ix (ix_listK (K := K) rfl) (pv 4) pe_int (fun _ _ => rfl)))) pa_nil)))))
  (pss_one (ps_ret pe_bl))
  pss_nil)
  (pss_cons (ps_for (passes_of rfl) rfl (pi_list (pe_slice sl_list (pv 1) (po_some pe_int) po_none)) (pg_name (i := 4) nd rfl (Or.inl rfl))
  (pss_cons (ps_if (PW.pt (pw_or (pt_cmpR op_ne (pm c_Desk_rank hr (by decide) (pU (GE.takes_of rfl rfl rfl rfl)) (pv 0) (pa_cons (pe_ix ix_list (pv 4) pe_int (fun _ _ => rfl)) pa_nil)) (pe_callTy call_int_str (by rfl) T.m_int (by decide +kernel) (pa_cons (pe_ix ix_list (pv 4) pe_int (fun _ _ => rfl)) pa_nil)) (nomark _)) (pw_or1 (pt_cmpR op_ne (pm c_Desk_state hr (by decide) (pU (GE.takes_of rfl rfl rfl rfl)) (pv 0) (pa_cons (pe_ix ix_list (pv 4) pe_int (fun _ _ => rfl)) pa_nil)) (pe_ix ix_list (pv 4) pe_int (fun _ _ => rfl)) (nomark _)))))
  (pss_one (ps_ret pe_bl))
  pss_nil)
  (pss_cons (ps_if (PW.pt (pw_and (pt_cmpR op_eq (pe_ix ix_list (pv 4) pe_int (fun _ _ => rfl)) pe_str (nomark _)) (pw_and1 (pt_cmpR op_ne (pm c_Desk_waited hr (by decide) (pU (GE.takes_of rfl rfl rfl rfl)) (pv 0) (pa_cons (pe_ix ix_list (pv 4) pe_int (fun _ _ => rfl)) pa_nil)) (pf c__law_number hr (by decide) (by rfl) p0 (pa_cons (pv 4) (pa_cons pe_str pa_nil))) (nomark _)))))
  (pss_one (ps_ret pe_bl))
  pss_nil)
  (pss_cons (ps_set (i := 5) nd rfl (Or.inl rfl) (pe_ix ix_list (pe_lst (pa_cons pe_non (pa_cons (pe_ix ix_list (pv 4) pe_int (fun _ _ => rfl)) pa_nil))) (pe_callTy call_int1 (by rfl) T.m_int (by decide +kernel) (pa_cons (pe_cmpR op_eq (pe_ix ix_list (pv 4) pe_int (fun _ _ => rfl)) pe_str (nomark _)) pa_nil)) (fun _ _ => rfl)))
  (pss_one (ps_if (PW.pt (pw_or (pt_cmpR op_ne (pm c_Desk_left hr (by decide) (pU (GE.takes_of rfl rfl rfl rfl)) (pv 0) (pa_cons (pe_ix ix_list (pv 4) pe_int (fun _ _ => rfl)) pa_nil)) (pf c__law_number hr (by decide) (by rfl) p0 (pa_cons (pv 4) (pa_cons pe_str pa_nil))) (nomark _)) (pw_or1 (pt_cmpR op_ne (pm c_Desk_bell hr (by decide) (pU (GE.takes_of rfl rfl rfl rfl)) (pv 0) (pa_cons (pe_ix ix_list (pv 4) pe_int (fun _ _ => rfl)) pa_nil)) (pv 5) (nomark _)))))
  (pss_one (ps_ret pe_bl))
  pss_nil))))))
  (pss_one (ps_ret pe_bl))))), ?_⟩
    refine ⟨_, rfl, d, _, _, _, _, rfl, hd, T.cl_Desk, T.na_Desk_pace, rfl, _, rfl, a, _, _, .ref h0.1, rfl, rfl, .inl (.inl ha), at0 _ _, h0.1, _, _, .str (numT D.pace), rfl, rfl, .inl (.inl hh0), rfl, (show 2 ≤ sizeLine by decide), fun u1 nu1 => ?_⟩
    have ka : Keep K [] H (L2.upd H u1 (.tup [.int D.pace, .str (numT D.pace)])) := Keep.new nu1
    have hu1 : (L2.upd H u1 (.tup [.int D.pace, .str (numT D.pace)])) u1 = some (.tup [.int D.pace, .str (numT D.pace)]) := upd_same
    generalize L2.upd H u1 (.tup [.int D.pace, .str (numT D.pace)]) = H1 at ka hu1 ⊢
    have hd1 := ka.old _ _ hd List.not_mem_nil nt_ins
    have ha1 := ka.lst ha List.not_mem_nil
    have hh1 := ka.lst hh0 List.not_mem_nil
    refine ⟨_, rfl, d, _, _, _, _, rfl, hd1, T.cl_Desk, T.na_Desk_room, rfl, _, rfl, a, _, _, .ref h0.1, rfl, rfl, .inl (.inl ha1), at0 _ _, h0.1, _, _, .str (numT D.room), rfl, rfl, .inl (.inl hh1), rfl, (show 2 ≤ sizeLine by decide), fun u2 nu2 => ?_⟩
    have kb : Keep K [] H1 (L2.upd H1 u2 (.tup [.int D.room, .str (numT D.room)])) := Keep.new nu2
    have hu2 : (L2.upd H1 u2 (.tup [.int D.room, .str (numT D.room)])) u2 = some (.tup [.int D.room, .str (numT D.room)]) := upd_same
    generalize L2.upd H1 u2 (.tup [.int D.room, .str (numT D.room)]) = H2 at kb hu2 ⊢
    have hd2 := kb.old _ _ hd1 List.not_mem_nil nt_ins
    have ha2 := kb.lst ha1 List.not_mem_nil
    have hh2 := kb.lst hh1 List.not_mem_nil
    refine ⟨_, rfl, d, _, _, _, _, rfl, hd2, T.cl_Desk, T.na_Desk_now, rfl, _, rfl, a, _, _, .ref h0.1, rfl, rfl, .inl (.inl ha2), at0 _ _, h0.1, _, _, .str (numT D.now), rfl, rfl, .inl (.inl hh2), rfl, (show 2 ≤ sizeLine by decide), fun u3 nu3 => ?_⟩
    have kc : Keep K [] H2 (L2.upd H2 u3 (.tup [.int D.now, .str (numT D.now)])) := Keep.new nu3
    have hu3 : (L2.upd H2 u3 (.tup [.int D.now, .str (numT D.now)])) u3 = some (.tup [.int D.now, .str (numT D.now)]) := upd_same
    generalize L2.upd H2 u3 (.tup [.int D.now, .str (numT D.now)]) = H3 at kc hu3 ⊢
    refine ⟨(show 3 ≤ sizeLine by decide), fun f nf => ?_⟩
    have kd : Keep K [] H3 (L2.upd H3 f (.lst [.ref u1, .ref u2, .ref u3])) := Keep.new nf
    have hf4 : (L2.upd H3 f (.lst [.ref u1, .ref u2, .ref u3])) f = some (.lst [.ref u1, .ref u2, .ref u3]) := upd_same
    generalize L2.upd H3 f (.lst [.ref u1, .ref u2, .ref u3]) = H4 at kd hf4 ⊢
    have hu1' := (kb.trans (kc.trans kd)).tup hu1 List.not_mem_nil
    have hu2' := (kc.trans kd).tup hu2 List.not_mem_nil
    have hu3' := kd.tup hu3 List.not_mem_nil
    have three : ∀ (i : Nat) (v : V), [V.ref u1, V.ref u2, V.ref u3][i]? = some v → ∃ t z, v = .ref t ∧ H4 t = some (.tup [.int z, .str (numT z)]) ∧ 0 ≤ z ∧ z < 1000000000000 := fun i v h => by
      have hm := List.mem_of_getElem? h
      rcases List.mem_cons.mp hm with rfl | hm
      · exact ⟨_, _, rfl, hu1', by omega, by omega⟩
      rcases List.mem_cons.mp hm with rfl | hm
      · exact ⟨_, _, rfl, hu2', by omega, by omega⟩
      rw [List.mem_singleton.mp hm]
      exact ⟨_, _, rfl, hu3', t0, t1⟩
    have k4 := ka.trans (kb.trans (kc.trans kd))
    have ha4 := (kc.trans kd).lst ha2 List.not_mem_nil
    have hd4 := (kc.trans kd).old _ _ hd2 List.not_mem_nil nt_ins
    have hD4 := hD.keep0 k4
    have hA4 := (hA.sub fun q hq => List.mem_cons_of_mem _ hq).keep0 k4
    refine ⟨f, rfl, ⟨_, .inl (.inl hf4)⟩, ?_⟩
    refine for_it (walk_list (xs := [V.ref u1, V.ref u2, V.ref u3])) (fun i σ H' => H4 = H' ∧ ∃ v2 v3, σ = [some (.ref d), some (.ref a), v2, v3, none, none]) ⟨rfl, _, _, rfl⟩ ?_ ?_ ?_
    · rintro i σ _ _ ⟨rfl, _⟩
      exact .inl (.inl hf4)
    · rintro i v σ _ H9 hi ⟨rfl, v2, v3, rfl⟩ ⟨rfl, hv⟩
      obtain ⟨t, z, rfl, ht, z0, z1⟩ := three i v hv
      obtain ⟨⟨l12, _⟩, _, _, hi⟩ := num_ok z0 z1
      refine ⟨t, _, rfl, .inl (.inl ht), rfl, _, _, rfl, _, _, rfl, rfl, _, rfl, z, rfl, _, rfl, iteF ⟨_, rfl, _, rfl, _, _, rfl, hi, by omega, rfl, _, rfl, iteE ⟨rfl, _, _, rfl⟩⟩⟩
    rintro σ _ ⟨rfl, v2, v3, rfl⟩
    refine ⟨_, rfl, d, dx, _, rfl, hd4, rfl, d, S, D, rfl, hD4, fun p np => ?_⟩
    have k5 : Keep K [] H4 (L2.upd H4 p (.lst ((namesL D.line).map V.str))) := Keep.new np
    have hp5 : (L2.upd H4 p (.lst ((namesL D.line).map V.str))) p = some (.lst ((namesL D.line).map V.str)) := upd_same
    generalize L2.upd H4 p (.lst ((namesL D.line).map V.str)) = H5 at k5 hp5 ⊢
    have ha5 := k5.lst ha4 List.not_mem_nil
    have hA5 := hA4.keep0 k5
    refine ⟨_, rfl, _, rfl, a, _, rfl, .inl (.inl ha5), fun s ns => ?_⟩
    rw [ecut]
    have k6 : Keep K [] H5 (L2.upd H5 s (.lst (ps1.map fun p => V.ref p.1))) := Keep.new ns
    have hs6 : (L2.upd H5 s (.lst (ps1.map fun p => V.ref p.1))) s = some (.lst (ps1.map fun p => V.ref p.1)) := upd_same
    generalize L2.upd H5 s (.lst (ps1.map fun p => V.ref p.1)) = H6 at k6 hs6 ⊢
    have hA6 := hA5.keep0 k6
    have hp6 := k6.lst hp5 List.not_mem_nil
    refine ⟨s, rfl, ⟨_, .inl (.inl hs6)⟩, fun e ne => ?_⟩
    refine lc_it (walk_list (K := K) (xs := ps1.map fun p => V.ref p.1)) (Pv := fun i H' => Keep K [] H6 H' ∧ H' e = some (.lst ((namesL (D.line.take i)).map V.str))) ⟨Keep.new ne, upd_same⟩ (fun i H' _ p => .inl (.inl (p.1.lst hs6 List.not_mem_nil))) ?_ ?_
    · rintro i v H7 H8 hi ⟨k7, hg⟩ ⟨rfl, hv⟩
      rw [List.getElem?_map] at hv
      cases ep : ps1[i]? with
      | none =>
        rw [ep] at hv
        cases hv
      | some q1 =>
        rw [ep] at hv
        obtain rfl : V.ref q1.1 = v := Option.some.inj hv
        obtain ⟨c, hc, ec⟩ := rows ep
        have ht := k7.lst (hA6 q1 (List.mem_of_getElem? ep)) List.not_mem_nil
        rw [ec] at ht
        refine ⟨rfl, ?_⟩
        refine ⟨_, rfl, q1.1, _, _, _, rfl, rfl, .inl (.inl ht), rfl, _, hg, ?_, k7.set (.inl ne) hg nt_lst, ?_⟩
        · unfold namesL
          rw [List.length_map, List.length_map, List.length_take]
          exact small1000 (by omega)
        · rw [upd_same, List.take_add_one, hc]
          unfold namesL
          simp
    rintro H7 ⟨k7, hg⟩
    rw [List.length_map, elen1, List.take_of_length_le (Nat.le_refl _)] at hg
    have lnm : (namesL D.line).length = D.line.length := List.length_map ..
    refine ⟨p, e, (namesL D.line).map some, rfl, txt (k7.lst hp6 List.not_mem_nil), txt hg, txl (by omega), _, rfl, iteF ?_⟩
    have k47 := k5.trans (k6.trans k7)
    have ha7 := k47.lst ha4 List.not_mem_nil
    have hA7 := hA4.keep0 k47
    refine ⟨_, rfl, _, rfl, a, _, rfl, .inl (.inl ha7), fun b nb => ?_⟩
    rw [ecut]
    have k8 : Keep K [] H7 (L2.upd H7 b (.lst (ps1.map fun p => V.ref p.1))) := Keep.new nb
    have hb8 : (L2.upd H7 b (.lst (ps1.map fun p => V.ref p.1))) b = some (.lst (ps1.map fun p => V.ref p.1)) := upd_same
    generalize L2.upd H7 b (.lst (ps1.map fun p => V.ref p.1)) = H8 at k8 hb8 ⊢
    have k08 := k4.trans (k47.trans k8)
    have hD8 := hD.keep0 k08
    have hA8 := hA7.keep0 k8
    have hd8 := k08.old _ _ hd List.not_mem_nil nt_ins
    refine ⟨b, rfl, ⟨_, .inl (.inl hb8)⟩, ?_⟩
    refine for_it (walk_list (xs := ps1.map fun p => V.ref p.1)) (fun i σ H' => Keep K [] H8 H' ∧ ∃ v4 v5, σ = [some (.ref d), some (.ref a), v2, v3, v4, v5]) ⟨Keep.refl _ _, _, _, rfl⟩ ?_ ?_ ?_
    · rintro i σ H' _ ⟨k, _⟩
      exact .inl (.inl (k.lst hb8 List.not_mem_nil))
    · rintro i v σ _ H9 hi ⟨k9, v4, v5, rfl⟩ ⟨rfl, hv⟩
      rw [List.getElem?_map] at hv
      cases ep : ps1[i]? with
      | none =>
        rw [ep] at hv
        cases hv
      | some q1 =>
        rw [ep] at hv
        obtain rfl : V.ref q1.1 = v := Option.some.inj hv
        obtain ⟨c, hc0, ec⟩ := rows ep
        have hc := List.mem_of_getElem? hc0
        have ht := k9.lst (hA8 q1 (List.mem_of_getElem? ep)) List.not_mem_nil
        rw [ec] at ht
        have hd9 := k9.old _ _ hd8 List.not_mem_nil nt_ins
        have hD9 := hD8.keep0 k9
        have r9 := g.rk c hc
        have gs := g.st c hc
        obtain ⟨⟨l12, _⟩, _, _, hi⟩ := num_ok (i := c.rank) (by omega) (by omega)
        refine ⟨_, rfl, d, dx, _, rfl, hd9, rfl, _, rfl, q1.1, _, _, _, rfl, rfl, .inl (.inl ht), rfl, d, S, D, c.name, rfl, byG g hD9 hc ⟨_, rfl, q1.1, _, _, _, rfl, rfl, .inl (.inl ht), rfl, _, _, rfl, hi, by omega, rfl, _, rfl, iteE ?_⟩⟩
        refine ⟨_, rfl, d, dx, _, rfl, hd9, rfl, _, rfl, q1.1, _, _, _, rfl, rfl, .inl (.inl ht), rfl, d, S, D, c.name, rfl, byG g hD9 hc ⟨_, rfl, q1.1, _, _, _, rfl, rfl, .inl (.inl ht), rfl, rfl, _, rfl, iteE ?_⟩⟩
        obtain ⟨nm, r, st⟩ := c
        have ne1 : ("waiting" : Str) ≠ "asleep" := by decide +kernel
        have ne2 : ("ready" : Str) ≠ "asleep" := by decide +kernel
        have ne3 : ("ready" : Str) ≠ "waiting" := by decide +kernel
        have ne4 : ("asleep" : Str) ≠ "waiting" := by decide +kernel
        have ne5 : ("asleep" : Str) ≠ "ready" := by decide +kernel
        have ne6 : ("waiting" : Str) ≠ "ready" := by decide +kernel
        cases st with
        | rdy u =>
          obtain ⟨g0, g1⟩ : 0 ≤ u ∧ u ≤ D.now := gs
          have ht : H9 q1.1 = some (.lst [.str nm, .str (numT r), .str "ready", .str (numT (D.now - u))]) := ht
          refine ⟨_, rfl, q1.1, _, _, _, rfl, rfl, .inl (.inl ht), rfl, rfl, _, rfl, ?_⟩
          refine iteD rfl ⟨_, rfl, d, dx, _, rfl, hd9, rfl, _, rfl, q1.1, _, _, _, rfl, rfl, .inl (.inl ht), rfl, d, S, D, nm, rfl, byG (c := ⟨nm, r, .rdy u⟩) g hD9 hc ⟨fun z => (nomatch z), fun _ => ⟨_, rfl, q1.1, nm, numT r, "ready", numT (D.now - u), "ready", rfl, ht, fun _ => ⟨D.now - u, ⟨rfl, by omega, by omega⟩, rfl, _, rfl, iteE ?_⟩, fun z => absurd rfl z⟩⟩⟩
          refine ⟨_, rfl, q1.1, _, _, _, rfl, rfl, .inl (.inl ht), rfl, (show 2 ≤ sizeLine by decide), fun y ny => ?_⟩
          have kn : Keep K [] H9 (L2.upd H9 y (.lst [.non, .str (numT (D.now - u))])) := Keep.new ny
          have hy : (L2.upd H9 y (.lst [.non, .str (numT (D.now - u))])) y = some (.lst [.non, .str (numT (D.now - u))]) := upd_same
          generalize L2.upd H9 y (.lst [.non, .str (numT (D.now - u))]) = H10 at kn hy ⊢
          have ht := kn.lst ht List.not_mem_nil
          have hd10 := kn.old _ _ hd9 List.not_mem_nil nt_ins
          have hD10 := hD9.keep0 kn
          refine ⟨_, rfl, q1.1, _, _, _, rfl, rfl, .inl (.inl ht), rfl, rfl, .inr ⟨_, rfl, y, _, _, .non, rfl, rfl, .inl (.inl hy), ?_, ?_⟩⟩
          · rw [decide_eq_false (show ¬ V.str ("ready" : Str) = V.str "waiting" from fun z => ne3 (V.str.inj z))]
            rfl
          refine ⟨_, rfl, d, dx, _, rfl, hd10, rfl, _, rfl, q1.1, _, _, _, rfl, rfl, .inl (.inl ht), rfl, d, S, D, nm, rfl, byG (c := ⟨nm, r, .rdy u⟩) g hD10 hc ⟨_, rfl, q1.1, nm, numT r, "ready", numT (D.now - u), "asleep", rfl, ht, fun z => absurd z ne2, fun _ => ⟨rfl, _, rfl, iteE ?_⟩⟩⟩
          exact ⟨_, rfl, d, dx, _, rfl, hd10, rfl, _, rfl, q1.1, _, _, _, rfl, rfl, .inl (.inl ht), rfl, d, S, D, nm, rfl, byG (c := ⟨nm, r, .rdy u⟩) g hD10 hc ⟨_, rfl, rfl, _, rfl, iteE ⟨k9.trans kn, _, _, rfl⟩⟩⟩
        | slp u =>
          obtain ⟨g0, g1⟩ : 1 ≤ u - D.now ∧ u - D.now ≤ 1000 := gs
          have ht : H9 q1.1 = some (.lst [.str nm, .str (numT r), .str "asleep", .str (numT (u - D.now))]) := ht
          refine ⟨_, rfl, q1.1, _, _, _, rfl, rfl, .inl (.inl ht), rfl, rfl, _, rfl, ?_⟩
          refine iteDn (show ¬ V.str ("asleep" : Str) = V.str "ready" from fun z => ne5 (V.str.inj z)) ?_
          refine ⟨_, rfl, q1.1, _, _, _, rfl, rfl, .inl (.inl ht), rfl, (show 2 ≤ sizeLine by decide), fun y ny => ?_⟩
          have kn : Keep K [] H9 (L2.upd H9 y (.lst [.non, .str (numT (u - D.now))])) := Keep.new ny
          have hy : (L2.upd H9 y (.lst [.non, .str (numT (u - D.now))])) y = some (.lst [.non, .str (numT (u - D.now))]) := upd_same
          generalize L2.upd H9 y (.lst [.non, .str (numT (u - D.now))]) = H10 at kn hy ⊢
          have ht := kn.lst ht List.not_mem_nil
          have hd10 := kn.old _ _ hd9 List.not_mem_nil nt_ins
          have hD10 := hD9.keep0 kn
          refine ⟨_, rfl, q1.1, _, _, _, rfl, rfl, .inl (.inl ht), rfl, rfl, .inr ⟨_, rfl, y, _, _, .non, rfl, rfl, .inl (.inl hy), ?_, ?_⟩⟩
          · rw [decide_eq_false (show ¬ V.str ("asleep" : Str) = V.str "waiting" from fun z => ne4 (V.str.inj z))]
            rfl
          refine ⟨_, rfl, d, dx, _, rfl, hd10, rfl, _, rfl, q1.1, _, _, _, rfl, rfl, .inl (.inl ht), rfl, d, S, D, nm, rfl, byG (c := ⟨nm, r, .slp u⟩) g hD10 hc ⟨_, rfl, q1.1, nm, numT r, "asleep", numT (u - D.now), "asleep", rfl, ht, fun _ => ⟨u - D.now, ⟨rfl, by omega, by omega⟩, rfl, _, rfl, iteE ?_⟩, fun z => absurd rfl z⟩⟩
          exact ⟨_, rfl, d, dx, _, rfl, hd10, rfl, _, rfl, q1.1, _, _, _, rfl, rfl, .inl (.inl ht), rfl, d, S, D, nm, rfl, byG (c := ⟨nm, r, .slp u⟩) g hD10 hc ⟨_, rfl, rfl, _, rfl, iteE ⟨k9.trans kn, _, _, rfl⟩⟩⟩
        | wtg u =>
          have ht : H9 q1.1 = some (.lst [.str nm, .str (numT r), .str "waiting", .str (u)]) := ht
          refine ⟨_, rfl, q1.1, _, _, _, rfl, rfl, .inl (.inl ht), rfl, rfl, _, rfl, ?_⟩
          refine iteDn (show ¬ V.str ("waiting" : Str) = V.str "ready" from fun z => ne6 (V.str.inj z)) ?_
          refine ⟨_, rfl, q1.1, _, _, _, rfl, rfl, .inl (.inl ht), rfl, (show 2 ≤ sizeLine by decide), fun y ny => ?_⟩
          have kn : Keep K [] H9 (L2.upd H9 y (.lst [.non, .str u])) := Keep.new ny
          have hy : (L2.upd H9 y (.lst [.non, .str u])) y = some (.lst [.non, .str u]) := upd_same
          generalize L2.upd H9 y (.lst [.non, .str u]) = H10 at kn hy ⊢
          have ht := kn.lst ht List.not_mem_nil
          have hd10 := kn.old _ _ hd9 List.not_mem_nil nt_ins
          have hD10 := hD9.keep0 kn
          refine ⟨_, rfl, q1.1, _, _, _, rfl, rfl, .inl (.inl ht), rfl, rfl, .inr ⟨_, rfl, y, _, _, .str u, rfl, rfl, .inl (.inl hy), ?_, ?_⟩⟩
          · rw [decide_eq_true (show V.str ("waiting" : Str) = V.str "waiting" from rfl)]
            rfl
          refine ⟨_, rfl, d, dx, _, rfl, hd10, rfl, _, rfl, q1.1, _, _, _, rfl, rfl, .inl (.inl ht), rfl, d, S, D, nm, rfl, byG (c := ⟨nm, r, .wtg u⟩) g hD10 hc ⟨_, rfl, q1.1, nm, numT r, "waiting", u, "asleep", rfl, ht, fun z => absurd z ne1, fun _ => ⟨rfl, _, rfl, iteE ?_⟩⟩⟩
          exact ⟨_, rfl, d, dx, _, rfl, hd10, rfl, _, rfl, q1.1, _, _, _, rfl, rfl, .inl (.inl ht), rfl, d, S, D, nm, rfl, byG (c := ⟨nm, r, .wtg u⟩) g hD10 hc ⟨_, rfl, rfl, _, rfl, iteE ⟨k9.trans kn, _, _, rfl⟩⟩⟩
    · rintro σ H9 ⟨k9, v4, v5, rfl⟩
      exact q H9 (k08.trans k9)
end
end Rr.K

set_option maxRecDepth 100000
set_option maxHeartbeats 4000000
namespace Rr.K
open PySem PySem.Spec PyProof.Rows L2
open L2H (SpP)
open GxR (TabG Tabbed)
open Evl (pss_cut)
section
variable {P : Program} {w : World} {K : PySem.W.Frag} {mg : Str → Option Value} {base : Heap}
def sp_law (K : PySem.W.Frag) : Sp := fun vs H Q _ => ∃ (a : Addr) (ns : List Int), vs = [.ref a] ∧ SqL K H a (ns.map V.int) ∧ ns.length ≤ 63 ∧ TabG H (tabN K) ∧ TabG H (tabM K) ∧ ∀ H', Q (.bl true) H'
/-- the first callers -/
structure Crew (p r now c0 : Int) (i : Nat) (cs : List Cr) : Prop where
  len : cs.length = i
  nm : cs.map (·.name) = (List.range i).map fun (j : Nat) => nameBy (0 + (j : Int)) c0
  rk : ∀ c ∈ cs, 0 ≤ c.rank ∧ c.rank ≤ 99
  st : ∀ c ∈ cs, GoodSt now c.st
theorem crew_nil (p r now c0 : Int) : Crew p r now c0 0 [] := ⟨rfl, rfl, fun _ h => (nomatch h), fun _ h => (nomatch h)⟩
theorem Crew.snoc {p r now c0 : Int} {i : Nat} {cs : List Cr} (x : Crew p r now c0 i cs) {c : Cr} (en : c.name = nameBy (0 + (i : Int)) c0) (rk : 0 ≤ c.rank ∧ c.rank ≤ 99) (st : GoodSt now c.st) : Crew p r now c0 (i + 1) (cs ++ [c]) := by
  refine ⟨by rw [List.length_append, x.len]; rfl, ?_, fun d h => ?_, fun d h => ?_⟩
  · rw [List.map_append, x.nm, List.range_succ, List.map_append]
    show _ ++ [c.name] = _
    rw [en]
    rfl
  · rcases List.mem_append.mp h with h | h
    · exact x.rk d h
    · rw [List.mem_singleton.mp h]
      exact rk
  · rcases List.mem_append.mp h with h | h
    · exact x.st d h
    · rw [List.mem_singleton.mp h]
      exact st
theorem names_nd {c0 : Int} : ∀ {i : Nat}, i ≤ 80 → ((List.range i).map fun (j : Nat) => nameBy (0 + (j : Int)) c0).Nodup
  | 0, _ => List.nodup_nil
  | i + 1, h => by
    rw [List.range_succ, List.map_append]
    refine nd_snoc (names_nd (by omega)) fun z => ?_
    obtain ⟨j, hj, e⟩ := List.mem_map.mp z
    have hj := List.mem_range.mp hj
    have := name_inj (i := 0 + (j : Int)) (k := 0 + (i : Int)) (c := c0) ⟨by omega, by omega⟩ ⟨by omega, by omega⟩ e
    omega
theorem Crew.good {p r now c0 : Int} {i : Nat} {cs : List Cr} (x : Crew p r now c0 i cs) (hp : 1 ≤ p ∧ p ≤ 1000) (hr : 1 ≤ r ∧ r ≤ 60) (hn : 0 ≤ now ∧ now < 1000000000000) (hi : (i : Int) ≤ r) : GoodD ⟨p, r, now, cs⟩ := by
  have l := x.len
  refine ⟨⟨hp, hr⟩, hn.1, hn.2, by show (cs.length : Int) ≤ r; omega, ?_, fun c h => ?_, x.rk, x.st⟩
  · show (cs.map (·.name)).Nodup
    rw [x.nm]
    exact names_nd (by omega)
  · have h := List.mem_map_of_mem (f := (·.name)) h
    rw [x.nm] at h
    obtain ⟨j, hj, e⟩ := List.mem_map.mp h
    have hj := List.mem_range.mp hj
    show isName c.name = true
    rw [← e]
    exact name_ok (by omega) (by omega)
theorem not_b {H : Hp} {b t : Addr} {ps : List (Addr × List Str)} {ws : List Str} (hb : H b = some (.lst (ps.map fun p => V.ref p.1))) (ne : ps ≠ []) (ht : H t = some (.lst (ws.map V.str))) : t ≠ b := fun e => by
  subst e
  rw [hb] at ht
  have e := HO.lst.inj (Option.some.inj ht)
  cases ps with
  | nil => exact ne rfl
  | cons p ps =>
    cases ws with
    | nil => cases e
    | cons x xs => cases (List.cons.inj e).1
theorem ok_law (T : Tx K mg base) {fd : FuncData} (F : FunD K "law" "law" (defArgs s_law) (defBody s_law) (defScope s_law) [] [] (He.fAd K ("law", none)) fd) : FnOk P w K mg base (GE.Out GE.AK P w) 8 (He.ga K "law") fd ["_law_script"] (sp_law K) := by
  have c__law_cell_at : Cal P w K mg base 1 "_law_cell_at" (sp_cell K) := c__law_cell_at T
  have c__law_mix : Cal P w K mg base 1 "_law_mix" sp_mix := c__law_mix T
  have c__law_caller : Cal P w K mg base 3 "_law_caller" (sp_lcaller K) := c__law_caller T
  have c__law_spoilt : Cal P w K mg base 2 "_law_spoilt" (sp_lspoilt K) := c__law_spoilt T
  have c__law_text : Cal P w K mg base 1 "_law_text" (sp_ltext K) := c__law_text T
  have c__law_refused : Cal P w K mg base 7 "_law_refused" (sp_lrefused K) := c__law_refused T
  have c_read : CalR P w K mg base 6 "read" (sp_read K) := c_read T
  have c__law_stands : Cal P w K mg base 3 "_law_stands" (sp_lstands K) := c__law_stands T
  have c_shown : Cal P w K mg base 4 "shown" (sp_shown K) := c_shown T
  refine okF (k := 7) (at_ := ("law", none)) F sc_law (fun vs H Q E h => ?_) (fun A outer s H vs Q E hr h => ?_)
  · obtain ⟨a, ns, rfl, _⟩ := h
    rfl
  · have nd := sc_law.nd
    obtain ⟨a, ns, rfl, hS, hlen, hT, hM, q⟩ := h
    refine ⟨_, (pss_cons (ps_set (i := 1) nd rfl (Or.inl rfl) (pf c__law_cell_at hr (by decide) (by rfl) p0 (pa_cons (pv 0) (pa_cons pe_int pa_nil))))
  (pss_cons (ps_set (i := 2) nd rfl (Or.inl rfl) (pe_ix ix_list (pe_lst (pa_cons pe_int (pa_cons (pe_op op_mod (pv 1) pe_int) (pa_cons (pe_op op_mod (pv 1) (pe_op op_pow pe_int pe_int)) pa_nil)))) (pe_op op_mod (pf c__law_cell_at hr (by decide) (by rfl) p0 (pa_cons (pv 0) (pa_cons pe_int pa_nil))) pe_int) (fun _ _ => rfl)))
  (pss_cons (ps_set (i := 3) nd rfl (Or.inl rfl) (pe_op op_add pe_int (pe_op op_mod (pf c__law_cell_at hr (by decide) (by rfl) p0 (pa_cons (pv 0) (pa_cons pe_int pa_nil))) pe_int)))
  (pss_cons (ps_set (i := 4) nd rfl (Or.inl rfl) (pe_callB (call_min2 rfl) (by rfl) T.m_min (by decide +kernel) (pa_cons (pv 3) (pa_cons (pe_op op_mod (pe_op op_fdiv (pf c__law_cell_at hr (by decide) (by rfl) p0 (pa_cons (pv 0) (pa_cons pe_int pa_nil))) pe_int) pe_int) pa_nil))))
  (pss_cut (ps_if (pt_cmpR op_eq (pe_op op_mod (pe_op op_fdiv (pf c__law_cell_at hr (by decide) (by rfl) p0 (pa_cons (pv 0) (pa_cons pe_int pa_nil))) pe_int) pe_int) pe_int (nomark _))
  (pss_one (ps_set (i := 4) nd rfl (Or.inl rfl) (pv 3)))
  pss_nil)
  (pss_cons (ps_set (i := 5) nd rfl (Or.inl rfl) (pe_lst (pa_cons (pe_lst (pa_cons pe_str (pa_cons (pe_callTy call_str_int (by rfl) T.m_str (by decide +kernel) (pa_cons (pe_op op_add pe_int (pe_op op_mod (pf c__law_cell_at hr (by decide) (by rfl) p0 (pa_cons (pv 0) (pa_cons pe_int pa_nil))) pe_int)) pa_nil)) (pa_cons (pe_callTy call_str_int (by rfl) T.m_str (by decide +kernel) (pa_cons (pv 3) pa_nil)) (pa_cons (pe_callTy call_str_int (by rfl) T.m_str (by decide +kernel) (pa_cons (pv 2) pa_nil)) pa_nil))))) pa_nil)))
  (pss_cons (ps_for (passes_of rfl) rfl (pi_range1 (by rfl) T.m_range (pa_cons (pv 4) pa_nil)) (pg_name (i := 6) nd rfl (Or.inl rfl))
  (pss_one (ps_expr (pe_bm PySem.F.plainAttrs_list PySem.F.slot_list_append PySem.F.type_list_append mt_append (pv 5) (pa_cons (pf c__law_caller hr (by decide) (by rfl) p0 (pa_cons (pv 0) (pa_cons (pv 6) (pa_cons (pv 2) pa_nil)))) pa_nil)))))
  (pss_cons (ps_set (i := 7) nd rfl (Or.inl rfl) (pf c__law_mix hr (by decide) (by rfl) p0 (pa_cons (pf c__law_cell_at hr (by decide) (by rfl) p0 (pa_cons (pv 0) (pa_cons pe_int pa_nil))) (pa_cons pe_int (pa_cons pe_int pa_nil)))))
  (pss_cut (ps_if (pt_cmpR op_gt (pv 7) pe_int (nomark _))
  (pss_one (ps_set (i := 7) nd rfl (Or.inl rfl) pe_int))
  pss_nil)
  (pss_cons (ps_if (pt_cmpR op_lt (pv 7) pe_int (nomark _))
  (pss_one (ps_ret (pf c__law_refused hr (by decide) (by rfl) p0 (pa_cons (pf c__law_text hr (by decide) (by rfl) p0 (pa_cons (pf c__law_spoilt hr (by decide) (by rfl) p0 (pa_cons (pv 5) (pa_cons (pv 7) (pa_cons (pf c__law_cell_at hr (by decide) (by rfl) p0 (pa_cons (pv 0) (pa_cons pe_int pa_nil))) (pa_cons (pv 2) pa_nil))))) pa_nil)) pa_nil))))
  pss_nil)
  (pss_cons (ps_set (i := 8) nd rfl (Or.inl rfl) (pf c__law_text hr (by decide) (by rfl) p0 (pa_cons (pv 5) pa_nil)))
  (pss_cons (ps_if (pt_cmpR op_lt (pv 7) pe_int (nomark _))
  (pss_one (ps_ret (pf c__law_refused hr (by decide) (by rfl) p0 (pa_cons (pe_ix ix_list (pe_lst (pa_cons (pe_slice sl_str (pv 8) po_none (po_some (pe_un un_neg pe_int))) (pa_cons (pe_op op_add_str (pv 8) pe_str) (pa_cons pe_str (pa_cons (pe_op op_add_str (pv 8) pe_str) (pa_cons (pe_op op_add_str pe_str (pv 8)) (pa_cons pe_str pa_nil))))))) (pe_op op_sub (pv 7) pe_int) (fun _ _ => rfl)) pa_nil))))
  pss_nil)
  (pss_cons (ps_set (i := 9) nd rfl (Or.inl rfl) (pfR c_read hr (by decide) (by rfl) p0R (pa_cons (pv 8) pa_nil)))
  (pss_one (ps_ret (pe_and (pf c__law_stands hr (by decide) (by rfl) p0 (pa_cons (pv 9) (pa_cons (pv 5) pa_nil))) (pe_one (pe_cmpR op_eq (pf c_shown hr (by decide) (by rfl) p0 (pa_cons (pv 9) pa_nil)) (pv 8) (nomark _))))))))))))))))))), ?_⟩
    refine ⟨_, rfl, a, ns, 4, rfl, hS, by decide, ?_⟩
    generalize cell ns 4 = far
    have e12 : (10 : Int) ^ (12 : Int).toNat = 1000000000000 := by decide +kernel
    have x1 : 0 ≤ far % 2000 ∧ far % 2000 < 2000 := ⟨Int.emod_nonneg _ (by decide), Int.emod_lt_of_pos _ (by decide)⟩
    have x2 : 0 ≤ far % 1000000000000 ∧ far % 1000000000000 < 1000000000000 := ⟨Int.emod_nonneg _ (by decide), Int.emod_lt_of_pos _ (by decide)⟩
    refine ⟨_, rfl, _, _, rfl, rfl, (show (0 : Int) < 2000 by decide), _, rfl, 10, 12, rfl, rfl, ⟨by decide, by decide, by decide +kernel⟩, far, 1000000000000, rfl, congrArg V.int e12, (show (0 : Int) < 1000000000000 by decide), (show 3 ≤ sizeLine by decide), fun g ng => ?_⟩
    have k1 : Keep K [] H (L2.upd H g (.lst [.int 0, .int (far % 2000), .int (far % 1000000000000)])) := Keep.new ng
    have hg : (L2.upd H g (.lst [.int 0, .int (far % 2000), .int (far % 1000000000000)])) g = some (.lst [.int 0, .int (far % 2000), .int (far % 1000000000000)]) := upd_same
    generalize L2.upd H g (.lst [.int 0, .int (far % 2000), .int (far % 1000000000000)]) = H1 at k1 hg ⊢
    have hS1 := k1.seq hS fun _ _ => List.not_mem_nil
    obtain ⟨now, hn, en⟩ : ∃ z : Int, (0 ≤ z ∧ z < 1000000000000) ∧ atI [V.int 0, V.int (far % 2000), V.int (far % 1000000000000)] (cell ns 2 % 3) = some (.int z) := by
      have h3 : cell ns 2 % 3 = 0 ∨ cell ns 2 % 3 = 1 ∨ cell ns 2 % 3 = 2 := by omega
      rcases h3 with e | e | e <;> rw [e]
      · exact ⟨0, by decide, rfl⟩
      · exact ⟨_, by omega, rfl⟩
      · exact ⟨_, x2, rfl⟩
    refine ⟨_, rfl, a, ns, 2, rfl, hS1, by decide, _, _, rfl, rfl, (show (0 : Int) < 3 by decide), g, _, _, .int now, rfl, rfl, .inl (.inl hg), en, ?_⟩
    refine ⟨_, rfl, a, ns, 3, rfl, hS1, by decide, _, _, rfl, rfl, (show (0 : Int) < 60 by decide), _, _, rfl, rfl, ?_⟩
    dsimp only
    obtain ⟨room, hro, er⟩ : ∃ z : Int, (1 ≤ z ∧ z ≤ 60) ∧ 1 + cell ns 3 % 60 = z := ⟨_, by omega, rfl⟩
    rw [er]
    have x7 : 0 ≤ cell ns 2 / 3 % 7 ∧ cell ns 2 / 3 % 7 < 7 := ⟨Int.emod_nonneg _ (by decide), Int.emod_lt_of_pos _ (by decide)⟩
    refine ⟨_, rfl, _, rfl, a, ns, 2, rfl, hS1, by decide, _, _, rfl, rfl, ⟨by decide, by decide⟩, _, _, rfl, rfl, (show (0 : Int) < 7 by decide), _, _, rfl, ?_⟩
    refine ⟨fun σ' H' => H1 = H' ∧ ∃ m : Int, (0 ≤ m ∧ m ≤ room) ∧ σ' = [some (.ref a), some (.int far), some (.int now), some (.int room), some (.int m), none, none, none, none, none], ?_, ?_⟩
    · refine ⟨_, rfl, a, ns, 2, rfl, hS1, by decide, _, _, rfl, rfl, ⟨by decide, by decide⟩, _, _, rfl, rfl, (show (0 : Int) < 5 by decide), rfl, _, rfl, ite2 (fun _ => ?_) (fun _ => ?_)⟩
      · exact ⟨_, rfl, rfl, _, ⟨by omega, by omega⟩, rfl⟩
      · exact ⟨rfl, _, ⟨by split <;> omega, by split <;> omega⟩, rfl⟩
    rintro σ _ ⟨rfl, m, hm, rfl⟩
    obtain ⟨pace, hpa, epa⟩ : ∃ z : Int, (1 ≤ z ∧ z ≤ 1000) ∧ 1 + cell ns 1 % 1000 = z := ⟨_, by omega, rfl⟩
    have mp : Mod pace := ⟨by omega, by omega⟩
    have mr : Mod room := ⟨by omega, by omega⟩
    have mn : Mod now := ⟨by omega, by omega⟩
    refine ⟨_, rfl, a, ns, 1, rfl, hS1, by decide, _, _, rfl, rfl, (show (0 : Int) < 1000 by decide), _, _, rfl, rfl, _, rfl, ?_⟩
    dsimp only
    rw [epa]
    refine ⟨mp.log, _, rfl, _, rfl, mr.log, _, rfl, _, rfl, mn.log, (show 4 ≤ sizeLine by decide), fun h nh => ⟨(show 1 ≤ sizeLine by decide), fun b nb => ?_⟩⟩
    have hh0 : (L2.upd H1 h (.lst [.str "desk", .str (numT pace), .str (numT room), .str (numT now)])) h = some (.lst [.str "desk", .str (numT pace), .str (numT room), .str (numT now)]) := upd_same
    have kh : Keep K [] H1 (L2.upd H1 h (.lst [.str "desk", .str (numT pace), .str (numT room), .str (numT now)])) := Keep.new nh
    have hb2 : (L2.upd (L2.upd H1 h (.lst [.str "desk", .str (numT pace), .str (numT room), .str (numT now)])) b (.lst [.ref h])) b = some (.lst [.ref h]) := upd_same
    have hh2 : (L2.upd (L2.upd H1 h (.lst [.str "desk", .str (numT pace), .str (numT room), .str (numT now)])) b (.lst [.ref h])) h = some (.lst [.str "desk", .str (numT pace), .str (numT room), .str (numT now)]) := (upd_ne (ne_of_none hh0 nb)).trans hh0
    have kb : Keep K [] H1 (L2.upd (L2.upd H1 h (.lst [.str "desk", .str (numT pace), .str (numT room), .str (numT now)])) b (.lst [.ref h])) := kh.trans (Keep.new nb)
    have nb0 : H b = none := k1.gone b (kh.gone b nb)
    generalize L2.upd (L2.upd H1 h (.lst [.str "desk", .str (numT pace), .str (numT room), .str (numT now)])) b (.lst [.ref h]) = H2 at hb2 hh2 kb ⊢
    have k02 := k1.trans kb
    refine ⟨_, rfl, m, rfl, by omega, by omega, ?_⟩
    refine for_it walk_range (fun i σ H' => ∃ v6 cs, σ = [some (.ref a), some (.int far), some (.int now), some (.int room), some (.int m), some (.ref b), v6, none, none, none] ∧ Keep K [] H H' ∧ Crew pace room now (cell ns 0) i cs ∧ ∃ ps, wssD ⟨pace, room, now, cs⟩ = ps.map (·.2) ∧ H' b = some (.lst (ps.map fun p => V.ref p.1)) ∧ LsA H' ps) ⟨none, [], rfl, k02, crew_nil _ _ _ _, [(h, headD ⟨pace, room, now, []⟩)], rfl, hb2, LsA.one hh2⟩ (fun _ _ _ _ _ => trivial) ?_ ?_
    · rintro i v σ H3 H4 hi ⟨v6, cs, rfl, k3, cw, ps, eW, hb3, hA3⟩ ⟨rfl, rfl⟩
      have hi' : i < m.toNat := hi
      have hS3 := k3.seq hS fun _ _ => List.not_mem_nil
      have l := cw.len
      have elen : ps.length = i + 1 := by
        have e := congrArg List.length eW
        rw [wssD_len, List.length_map] at e
        rw [← e]
        show cs.length + 1 = i + 1
        rw [l]
      refine ⟨_, rfl, .inl ⟨rfl, _, .inl (.inl hb3)⟩, _, rfl, _, rfl, _, rfl, a, ns, 0 + (i : Int), now, rfl, hS3, ⟨by omega, by omega⟩, hn, fun c t H5 k5 ec rk gs ht => ?_⟩
      have hb5 := k5.lst hb3 List.not_mem_nil
      have ne : ps ≠ [] := fun z => by rw [z] at elen; cases elen
      refine ⟨b, _, _, rfl, rfl, hb5, small1000 (by rw [List.length_map, elen]; omega), ?_⟩
      have hA5 := (hA3.keep0 k5).app (LsA.one (ws := wordsC now c) ht)
      refine ⟨_, cs ++ [c], rfl, (k3.trans k5).set (.inl nb0) hb5 nt_lst, cw.snoc ec rk gs, ps ++ [(t, wordsC now c)], ?_, ?_, fun p hp => ?_⟩
      · show headD _ :: (cs ++ [c]).map (wordsC now) = _
        rw [List.map_append, List.map_append, ← eW]
        rfl
      · rw [List.map_append]
        exact upd_same
      · exact (upd_ne (not_b hb5 ne (hA5 p hp))).trans (hA5 p hp)
    rintro σ H3 ⟨v6, cs, rfl, k3, cw, hR3⟩
    have hR3 : RwAt H3 b (wssD ⟨pace, room, now, cs⟩) := hR3
    have gd : GoodD ⟨pace, room, now, cs⟩ := cw.good hpa hro hn (by omega)
    have hS3 := k3.seq hS fun _ _ => List.not_mem_nil
    have hm7 := mix_nn (c := cell ns 5) (p := 10091) (m := 107) (by decide)
    refine ⟨_, rfl, a, ns, 5, rfl, hS3, by decide, _, 10091, 107, rfl, by decide, by decide, ?_⟩
    generalize mix (cell ns 5) 10091 107 = wy at hm7 ⊢
    refine ⟨fun σ' H' => H3 = H' ∧ ∃ y : Int, (0 ≤ y ∧ y ≤ 98) ∧ σ' = [some (.ref a), some (.int far), some (.int now), some (.int room), some (.int m), some (.ref b), v6, some (.int y), none, none], ?_, ?_⟩
    · refine ⟨_, rfl, _, _, rfl, rfl, _, rfl, ite2 (fun e => ?_) (fun e => ?_)⟩
      · exact ⟨rfl, 59, by decide, rfl⟩
      · exact ⟨rfl, wy, ⟨by omega, by have : ¬ 98 < wy := fun z => e (decide_eq_true z); omega⟩, rfl⟩
    rintro σ _ ⟨rfl, y, hy, rfl⟩
    have wl : ∀ ws ∈ wssD ⟨pace, room, now, cs⟩, WsLen ws := fun ws h => (wssD_row gd ws h).len
    have l70 : (wssD ⟨pace, room, now, cs⟩).length ≤ 70 := Nat.le_trans (len61 gd) (by decide)
    have et : textS (wssD ⟨pace, room, now, cs⟩) = textW (wssD ⟨pace, room, now, cs⟩) := textS_eq (wssD_ok gd).1
    have etD : textW (wssD ⟨pace, room, now, cs⟩) = textD ⟨pace, room, now, cs⟩ := textW_D _
    refine ⟨_, rfl, _, _, rfl, rfl, _, rfl, ite2 (fun e => ?_) (fun n => ?_)⟩
    · have hy61 : y < 61 := of_decide_eq_true e
      refine ⟨_, rfl, _, rfl, _, rfl, a, ns, 6, rfl, hS3, by decide, _, rfl, b, ⟨pace, room, now, cs⟩, y, cell ns 6, rfl, hR3, gd, ⟨hy.1, hy61⟩, fun b2 W H4 k4 hR4 sp => ?_⟩
      obtain ⟨W', e1, tx, bad, wl2, l2⟩ := sp
      refine ⟨b2, W, rfl, hR4, wl2, l2, fun H5 k5 => ⟨textS W, rfl, (k3.trans (k4.trans k5)).tab _ hT, (k3.trans (k4.trans k5)).tab _ hM, .inr ⟨W', ?_, tx, bad⟩, q⟩⟩
      rw [textS_map e1, textS_eq tx.1]
    refine ⟨_, rfl, b, _, rfl, hR3, wl, l70, fun H4 k4 => ?_⟩
    have hT4 := (k3.trans k4).tab _ hT
    have hM4 := (k3.trans k4).tab _ hM
    rw [et]
    refine ⟨_, rfl, _, _, rfl, rfl, _, rfl, ite2 (fun e => ?_) (fun n2 => ?_)⟩
    · have hy61 : ¬ y < 61 := fun z => n (decide_eq_true z)
      have hy67 : y < 67 := of_decide_eq_true e
      have rl := text_len (wssD_ok gd)
      have l1n : ("\n" : Str).length = 1 := by decide +kernel
      have l1x : ("x" : Str).length = 1 := by decide +kernel
      have tl1 : (textW (wssD ⟨pace, room, now, cs⟩)).length ≤ 14421 := by
        unfold textW
        rw [Str.length_append]
        omega
      have lz : ∀ {n : Nat}, n ≤ 14422 → n ≤ sizeLine := fun h => by rw [sizeLine_eq]; omega
      obtain ⟨a1, a2, a3⟩ := one_more gd
      obtain ⟨b1, b2, b3⟩ := one_before gd
      obtain ⟨c1, c2, c3⟩ := nl_only
      have ec0 : cutS (textW (wssD ⟨pace, room, now, cs⟩)) none (some (-(1 : Int))) = Str.join "\n" ((wssD ⟨pace, room, now, cs⟩).map (Str.join " ")) := cut_last _
      refine ⟨_, rfl, _, rfl, _, rfl, _, rfl, line_of tl1, ?_⟩
      rw [ec0]
      generalize eT : textW (wssD ⟨pace, room, now, cs⟩) = t0 at *
      generalize eC : Str.join "\n" ((wssD ⟨pace, room, now, cs⟩).map (Str.join " ")) = t1 at *
      have hc : Txt.endswith t1 "\n" = false := by
        rw [← eC]
        exact cut_no gd
      have hsix : ∀ z ∈ ([t1, t0 ++ "x", "", t0 ++ "\n", "\n" ++ t0, "\n"] : List Str), Txt.endswith z "\n" = false ∨ ∃ wss, z = textW wss ∧ TextOk wss ∧ ReadBad wss := fun z hz => by
        rcases List.mem_cons.mp hz with rfl | hz
        · exact .inl hc
        rcases List.mem_cons.mp hz with rfl | hz
        · exact .inl (x_no t0)
        rcases List.mem_cons.mp hz with rfl | hz
        · exact .inl (by decide +kernel)
        rcases List.mem_cons.mp hz with rfl | hz
        · exact .inr ⟨_, a1, a2, a3⟩
        rcases List.mem_cons.mp hz with rfl | hz
        · exact .inr ⟨_, b1, b2, b3⟩
        rw [List.mem_singleton.mp hz]
        exact .inr ⟨_, c1, c2, c3⟩
      obtain ⟨z, hz⟩ : ∃ z, ([t1, t0 ++ "x", "", t0 ++ "\n", "\n" ++ t0, "\n"] : List Str)[(y - 61).toNat]? = some z := ⟨_, List.getElem?_eq_getElem (by show (y - 61).toNat < 6; omega)⟩
      have at6 : atI (([t1, t0 ++ "x", "", t0 ++ "\n", "\n" ++ t0, "\n"] : List Str).map V.str) (y - 61) = some (V.str z) := by
        have e := atI_nat (xs := ([t1, t0 ++ "x", "", t0 ++ "\n", "\n" ++ t0, "\n"] : List Str).map V.str) (j := (y - 61).toNat) (v := V.str z) (by rw [List.getElem?_map, hz]; rfl)
        rw [Int.toNat_of_nonneg (by omega)] at e
        exact e
      refine ⟨_, rfl, _, _, rfl, rfl, lz (by omega), _, rfl, _, _, rfl, rfl, lz (by omega), _, rfl, _, _, rfl, rfl, lz (by omega), (show 6 ≤ sizeLine by decide), fun g2 ng2 => ?_⟩
      have k5 : Keep K [] H4 (L2.upd H4 g2 (.lst (([t1, t0 ++ "x", "", t0 ++ "\n", "\n" ++ t0, "\n"] : List Str).map V.str))) := Keep.new ng2
      exact ⟨_, rfl, _, _, rfl, rfl, g2, _, _, .str z, rfl, rfl, .inl (.inl upd_same), at6, z, rfl, k5.tab _ hT4, k5.tab _ hM4, hsix z (List.mem_of_getElem? hz), q⟩
    · refine ⟨_, rfl, _, rfl, hT4, hM4, .inr ⟨_, rfl, wssD_ok gd, .inr ⟨_, gd, rfl, fun d S H5 k5 f5 hD5 => ?_⟩⟩⟩
      refine ⟨_, rfl, _, rfl, d, b, S, ⟨pace, room, now, cs⟩, rfl, hD5, gd, (hR3.keep0 k4).keep0 k5, fun H6 k6 => ?_⟩
      refine ⟨_, rfl, iteT ⟨_, rfl, d, S, ⟨pace, room, now, cs⟩, rfl, hD5.keep0 k6, gd, fun H7 k7 => ⟨_, rfl, rfl, ?_⟩⟩⟩
      rw [etD, decide_eq_true (show V.str (textD ⟨pace, room, now, cs⟩) = V.str (textD ⟨pace, room, now, cs⟩) from rfl)]
      exact q H7
theorem law_sp {H : Hp} {a : Addr} {ns : List Int} (tabs : ∀ q ∈ tf, TabG H (He.tabOf K (He.codeOf K q))) (nils : ∀ q ∈ tf, H (He.tabOf K (He.codeOf K q)) = some (.tbl #[])) (hl : ns.length ≤ 63) (hb : ∀ z ∈ ns, Builtin.Int.intBits z ≤ 1048576) (hS : SqL K H a (ns.map V.int)) :
    sp_law K [.ref a] H (fun v _ => v = .bl true) fun _ _ _ => False := ⟨a, ns, rfl, hS, hl, tabs ("is_name", none) (by simp [tf]), tabs ("number", none) (by simp [tf]), fun _ => rfl⟩
theorem GxR_triples : TriplesOk (#[] : Array Value).toList := by first | exact trivial | simp [TriplesOk] | exact .nil
end
end Rr.K

set_option maxRecDepth 100000
set_option maxHeartbeats 0
namespace Rr
open PySem PySem.Spec PyProof.Rows L2
/-! ### the head: one run of the top, and what it leaves -/
abbrev RW : PySem.W.OpenRow := PySem.W.OpenLaw.row PySem.Challenge.rw_rrdesk_k11_read
abbrev hk : PySem.W.Hook := He.hookX 5 fa fn [] tf ex
def ob (s : PySem.W.SharedT) : He.AlX := He.obsX 5 fa fn [] tf ex (HandSHeadRun.getT s)
theorem ob_eq (s : PySem.W.SharedT) : ob s = hk.obs s.abs := He.obsX_eq (HandSHeadRun.getT_eq s)
theorem run (w : World) : HandSHeadRun.RunEq RW (PySem.W.view RW.prog [63]) hk ob 12000 ((["_wall", "READY", "ASLEEP", "WAITING", "Caller", "DeskError", "NoName", "NoRank", "NoSpan", "NoDesk", "Known", "Unknown", "Full", "NotReady", "IsReady", "SIGNS", "MOST_SIGNS", "is_name", "TOP", "aged", "first", "MOST_PACE", "MOST_ROOM", "MOST_TURNS", "check_name", "check_rank", "check_span", "check_ready", "check_not_ready", "Desk"] : List Str) ++ (["HEAD", "WORDS", "FIGURES", "MOST_FIGURES", "shown", "doing", "read", "begun", "seat", "seat_ready", "words_of", "number", "_law_whole", "_law_cell_at", "_law_mix", "_law_name_by", "_law_texts", "_law_word", "_law_caller", "_law_head", "_law_row", "_law_spoilt", "_law_text", "_law_refused", "_law_number", "_law_stands"] : List Str)) w := by
  intro os
  kernel_rfl
end Rr

set_option maxRecDepth 100000
set_option maxHeartbeats 0
namespace Rr
open PySem PySem.Spec PyProof.Rows L2
open Rr.K
theorem tx_of {w : World} {h : Heap} {K : PySem.W.Frag} {mg : Str → Option Value} {base : Heap} (X : K.In h) (G : h.Ns mainGlobals mg) (c : He.SaysX fa fn [] tf ex w h K) (TB : ∀ p ∈ tf.map (He.cT K), LamX.TabB base mg p.1 p.2) : Tx K mg base := ⟨He.free_ok X G (c.t.d.fact 0 (f := .free "all") rfl),
  He.free_ok X G (c.t.d.fact 1 (f := .free "len") rfl),
  He.free_ok X G (c.t.d.fact 2 (f := .free "enumerate") rfl),
  He.free_ok X G (c.t.d.fact 3 (f := .free "list") rfl),
  He.free_ok X G (c.t.d.fact 4 (f := .free "str") rfl),
  He.free_ok X G (c.t.d.fact 5 (f := .free "any") rfl),
  He.free_ok X G (c.t.d.fact 6 (f := .free "int") rfl),
  He.free_ok X G (c.t.d.fact 7 (f := .free "bool") rfl),
  He.free_ok X G (c.t.d.fact 8 (f := .free "isinstance") rfl),
  He.free_ok X G (c.t.d.fact 9 (f := .free "range") rfl),
  He.free_ok X G (c.t.d.fact 10 (f := .free "ValueError") rfl),
  He.free_ok X G (c.t.d.fact 11 (f := .free "sum") rfl),
  He.free_ok X G (c.t.d.fact 12 (f := .free "min") rfl),
  He.str_ok X G (c.t.d.fact 13 (f := .str "READY" "ready") rfl),
  He.int_ok X G (c.t.d.fact 14 (f := .int "MOST_SIGNS" 12) rfl),
  He.str_ok X G (c.t.d.fact 15 (f := .str "SIGNS" "abcdefghijklmnopqrstuvwxyz0123456789") rfl),
  He.int_ok X G (c.t.d.fact 16 (f := .int "TOP" 99) rfl),
  He.int_ok X G (c.t.d.fact 17 (f := .int "MOST_TURNS" 1000) rfl),
  He.int_ok X G (c.t.d.fact 18 (f := .int "MOST_PACE" 1000) rfl),
  He.int_ok X G (c.t.d.fact 19 (f := .int "MOST_ROOM" 60) rfl),
  He.str_ok X G (c.t.d.fact 20 (f := .str "ASLEEP" "asleep") rfl),
  He.str_ok X G (c.t.d.fact 21 (f := .str "WAITING" "waiting") rfl),
  He.str_ok X G (c.t.d.fact 22 (f := .str "HEAD" "desk") rfl),
  He.int_ok X G (c.t.d.fact 23 (f := .int "WORDS" 4) rfl),
  He.str_ok X G (c.t.d.fact 24 (f := .str "FIGURES" "0123456789") rfl),
  He.int_ok X G (c.t.d.fact 25 (f := .int "MOST_FIGURES" 12) rfl),
  He.glo_ok X G (c.t.d.fact 26 (f := .glo "Caller") rfl),
  He.glo_ok X G (c.t.d.fact 27 (f := .glo "DeskError") rfl),
  He.glo_ok X G (c.t.d.fact 28 (f := .glo "NoName") rfl),
  He.glo_ok X G (c.t.d.fact 29 (f := .glo "NoRank") rfl),
  He.glo_ok X G (c.t.d.fact 30 (f := .glo "NoSpan") rfl),
  He.glo_ok X G (c.t.d.fact 31 (f := .glo "NoDesk") rfl),
  He.glo_ok X G (c.t.d.fact 32 (f := .glo "Known") rfl),
  He.glo_ok X G (c.t.d.fact 33 (f := .glo "Unknown") rfl),
  He.glo_ok X G (c.t.d.fact 34 (f := .glo "Full") rfl),
  He.glo_ok X G (c.t.d.fact 35 (f := .glo "NotReady") rfl),
  He.glo_ok X G (c.t.d.fact 36 (f := .glo "IsReady") rfl),
  He.glo_ok X G (c.t.d.fact 37 (f := .glo "Desk") rfl),
  He.exc_ok (c.t.d.fact 38 (f := .exc "DeskError") rfl),
  He.exc_ok (c.t.d.fact 39 (f := .exc "NoName") rfl),
  He.exc_ok (c.t.d.fact 40 (f := .exc "NoRank") rfl),
  He.exc_ok (c.t.d.fact 41 (f := .exc "NoSpan") rfl),
  He.exc_ok (c.t.d.fact 42 (f := .exc "NoDesk") rfl),
  He.exc_ok (c.t.d.fact 43 (f := .exc "Known") rfl),
  He.exc_ok (c.t.d.fact 44 (f := .exc "Unknown") rfl),
  He.exc_ok (c.t.d.fact 45 (f := .exc "Full") rfl),
  He.exc_ok (c.t.d.fact 46 (f := .exc "NotReady") rfl),
  He.exc_ok (c.t.d.fact 47 (f := .exc "IsReady") rfl),
  He.exm_ok (c.t.d.fact 48 (f := .exm "NoName" "DeskError" true) rfl),
  He.exm_ok (c.t.d.fact 49 (f := .exm "NoRank" "DeskError" true) rfl),
  He.exm_ok (c.t.d.fact 50 (f := .exm "NoSpan" "DeskError" true) rfl),
  He.exm_ok (c.t.d.fact 51 (f := .exm "NoDesk" "DeskError" true) rfl),
  He.exm_ok (c.t.d.fact 52 (f := .exm "Known" "DeskError" true) rfl),
  He.exm_ok (c.t.d.fact 53 (f := .exm "Unknown" "DeskError" true) rfl),
  He.exm_ok (c.t.d.fact 54 (f := .exm "Full" "DeskError" true) rfl),
  He.exm_ok (c.t.d.fact 55 (f := .exm "NotReady" "DeskError" true) rfl),
  He.exm_ok (c.t.d.fact 56 (f := .exm "IsReady" "DeskError" true) rfl),
  He.cls_ok (c.t.d.fact 57 (f := .cls "Caller") rfl),
  He.mkr_ok (c.t.d.fact 58 (f := .mkr "Caller") rfl),
  He.noat_ok (c.t.d.fact 59 (f := .noat "Caller" "bell") rfl),
  He.noat_ok (c.t.d.fact 60 (f := .noat "Caller" "due") rfl),
  He.noat_ok (c.t.d.fact 61 (f := .noat "Caller" "name") rfl),
  He.noat_ok (c.t.d.fact 62 (f := .noat "Caller" "rank") rfl),
  He.noat_ok (c.t.d.fact 63 (f := .noat "Caller" "since") rfl),
  He.noat_ok (c.t.d.fact 64 (f := .noat "Caller" "state") rfl),
  He.cls_ok (c.t.d.fact 65 (f := .cls "Desk") rfl),
  He.mkr_ok (c.t.d.fact 66 (f := .mkr "Desk") rfl),
  He.noat_ok (c.t.d.fact 67 (f := .noat "Desk" "_line") rfl),
  He.noat_ok (c.t.d.fact 68 (f := .noat "Desk" "now") rfl),
  He.noat_ok (c.t.d.fact 69 (f := .noat "Desk" "pace") rfl),
  He.noat_ok (c.t.d.fact 70 (f := .noat "Desk" "room") rfl),
  He.meth_ok (c.t.d.fact 71 (f := .meth "Caller" "become") rfl),
  He.glo_ok X G (c.t.d.fact 72 (f := .glo "is_name") rfl),
  He.glo_ok X G (c.t.d.fact 73 (f := .glo "aged") rfl),
  He.glo_ok X G (c.t.d.fact 74 (f := .glo "first") rfl),
  He.glo_ok X G (c.t.d.fact 75 (f := .glo "check_name") rfl),
  He.glo_ok X G (c.t.d.fact 76 (f := .glo "check_rank") rfl),
  He.glo_ok X G (c.t.d.fact 77 (f := .glo "check_span") rfl),
  He.glo_ok X G (c.t.d.fact 78 (f := .glo "check_ready") rfl),
  He.glo_ok X G (c.t.d.fact 79 (f := .glo "check_not_ready") rfl),
  He.meth_ok (c.t.d.fact 80 (f := .meth "Desk" "enter") rfl),
  He.meth_ok (c.t.d.fact 81 (f := .meth "Desk" "sleep") rfl),
  He.meth_ok (c.t.d.fact 82 (f := .meth "Desk" "wait") rfl),
  He.meth_ok (c.t.d.fact 83 (f := .meth "Desk" "wake") rfl),
  He.meth_ok (c.t.d.fact 84 (f := .meth "Desk" "turn") rfl),
  He.meth_ok (c.t.d.fact 85 (f := .meth "Desk" "names") rfl),
  He.meth_ok (c.t.d.fact 86 (f := .meth "Desk" "ready") rfl),
  He.meth_ok (c.t.d.fact 87 (f := .meth "Desk" "state") rfl),
  He.meth_ok (c.t.d.fact 88 (f := .meth "Desk" "rank") rfl),
  He.meth_ok (c.t.d.fact 89 (f := .meth "Desk" "waited") rfl),
  He.meth_ok (c.t.d.fact 90 (f := .meth "Desk" "left") rfl),
  He.meth_ok (c.t.d.fact 91 (f := .meth "Desk" "bell") rfl),
  He.meth_ok (c.t.d.fact 92 (f := .meth "Desk" "_known") rfl),
  He.meth_ok (c.t.d.fact 93 (f := .meth "Desk" "_waited") rfl),
  He.meth_ok (c.t.d.fact 94 (f := .meth "Desk" "_ready_callers") rfl),
  He.meth_ok (c.t.d.fact 95 (f := .meth "Desk" "_chosen") rfl),
  He.meth_ok (c.t.d.fact 96 (f := .meth "Desk" "_make_ready") rfl),
  He.meth_ok (c.t.d.fact 97 (f := .meth "Desk" "_go_last") rfl),
  He.glo_ok X G (c.t.d.fact 98 (f := .glo "shown") rfl),
  He.glo_ok X G (c.t.d.fact 99 (f := .glo "doing") rfl),
  He.glo_ok X G (c.t.d.fact 100 (f := .glo "read") rfl),
  He.glo_ok X G (c.t.d.fact 101 (f := .glo "begun") rfl),
  He.glo_ok X G (c.t.d.fact 102 (f := .glo "seat") rfl),
  He.glo_ok X G (c.t.d.fact 103 (f := .glo "seat_ready") rfl),
  He.glo_ok X G (c.t.d.fact 104 (f := .glo "words_of") rfl),
  He.glo_ok X G (c.t.d.fact 105 (f := .glo "number") rfl),
  He.glo_ok X G (c.t.d.fact 106 (f := .glo "_law_whole") rfl),
  He.glo_ok X G (c.t.d.fact 107 (f := .glo "_law_cell_at") rfl),
  He.glo_ok X G (c.t.d.fact 108 (f := .glo "_law_mix") rfl),
  He.glo_ok X G (c.t.d.fact 109 (f := .glo "_law_name_by") rfl),
  He.glo_ok X G (c.t.d.fact 110 (f := .glo "_law_texts") rfl),
  He.glo_ok X G (c.t.d.fact 111 (f := .glo "_law_word") rfl),
  He.glo_ok X G (c.t.d.fact 112 (f := .glo "_law_caller") rfl),
  He.glo_ok X G (c.t.d.fact 113 (f := .glo "_law_head") rfl),
  He.glo_ok X G (c.t.d.fact 114 (f := .glo "_law_row") rfl),
  He.glo_ok X G (c.t.d.fact 115 (f := .glo "_law_spoilt") rfl),
  He.glo_ok X G (c.t.d.fact 116 (f := .glo "_law_text") rfl),
  He.glo_ok X G (c.t.d.fact 117 (f := .glo "_law_refused") rfl),
  He.glo_ok X G (c.t.d.fact 118 (f := .glo "_law_number") rfl),
  He.glo_ok X G (c.t.d.fact 119 (f := .glo "_law_stands") rfl),
  He.glo_ok X G (c.t.d.fact 120 (f := .glo "law") rfl),
  c.t.d.def_ 0 rfl,
  c.t.d.def_ 1 rfl,
  c.t.d.def_ 2 rfl,
  c.t.d.def_ 3 rfl,
  c.t.d.def_ 4 rfl,
  c.t.d.def_ 5 rfl,
  c.t.d.def_ 6 rfl,
  c.t.d.def_ 7 rfl,
  c.t.d.def_ 8 rfl,
  c.t.d.def_ 9 rfl,
  c.t.d.def_ 10 rfl,
  c.t.d.def_ 11 rfl,
  c.t.d.def_ 12 rfl,
  c.t.d.def_ 13 rfl,
  c.t.d.def_ 14 rfl,
  c.t.d.def_ 15 rfl,
  c.t.d.def_ 16 rfl,
  c.t.d.def_ 17 rfl,
  c.t.d.def_ 18 rfl,
  c.t.d.def_ 19 rfl,
  c.t.d.def_ 20 rfl,
  c.t.d.def_ 21 rfl,
  c.t.d.def_ 22 rfl,
  c.t.d.def_ 23 rfl,
  c.t.d.def_ 24 rfl,
  c.t.d.def_ 25 rfl,
  c.t.d.def_ 26 rfl,
  c.t.d.def_ 27 rfl,
  c.t.d.def_ 28 rfl,
  c.t.d.def_ 29 rfl,
  c.t.d.def_ 30 rfl,
  c.t.d.def_ 31 rfl,
  c.t.d.def_ 32 rfl,
  c.t.d.def_ 33 rfl,
  c.t.d.def_ 34 rfl,
  c.t.d.def_ 35 rfl,
  c.t.d.def_ 36 rfl,
  c.t.d.def_ 37 rfl,
  c.t.d.def_ 38 rfl,
  c.t.d.def_ 39 rfl,
  c.t.d.def_ 40 rfl,
  c.t.d.def_ 41 rfl,
  c.t.d.def_ 42 rfl,
  c.t.d.def_ 43 rfl,
  c.t.d.def_ 44 rfl,
  c.t.d.def_ 45 rfl,
  c.t.d.def_ 46 rfl,
  c.t.d.def_ 47 rfl,
  c.t.d.def_ 48 rfl,
  c.t.d.def_ 49 rfl,
  c.t.d.def_ 50 rfl,
  c.t.d.def_ 51 rfl,
  (let t := TB (He.cT K ("is_name", none)) (List.mem_map_of_mem (f := He.cT K) (show ((("is_name", none)) : He.Defn) ∈ tf by simp [tf])); ⟨t.code, t.bm, t.gP⟩),
  (let t := TB (He.cT K ("number", none)) (List.mem_map_of_mem (f := He.cT K) (show ((("number", none)) : He.Defn) ∈ tf by simp [tf])); ⟨t.code, t.bm, t.gP⟩),
  (by have e := c.more; simp only [ex, Bool.and_eq_true, decide_eq_true_eq] at e; exact e.1.1.1),
  (by have e := c.more; simp only [ex, Bool.and_eq_true, decide_eq_true_eq] at e; exact e.1.1.2),
  (by have e := c.more; simp only [ex, Bool.and_eq_true, decide_eq_true_eq] at e; exact e.1.2),
  (by have e := c.more; simp only [ex, Bool.and_eq_true, decide_eq_true_eq] at e; exact e.2)⟩
theorem nobody {P : Program} {w : World} {H : Hp} {s : Shared} {e : Value} {s' : Shared} (h : GE.Out GE.AK P w [] H s (fun _ _ _ => False) e s') : False := by
  obtain ⟨_, _, _, _, _, _, ⟨_, _, _, z⟩, _⟩ := h
  exact z
theorem lawAt {w : World} {h : Heap} {K : PySem.W.Frag} {mg : Str → Option Value} {fa0 : Addr} (X : K.In h) (G : h.Ns mainGlobals mg) (hfa : mg ("law" : Str) = some (.ref fa0)) (c : He.SaysX fa fn [] tf ex w h K) :
    LamX.LawAtS PySem.Challenge.rw_rrdesk_k11_read w K (GE.Out GE.AK (PySem.Challenge.rw_rrdesk_k11_read).prog w) 8 63 "_law_script" mg fa0 h := by
  have e : fa0 = He.ga K "law" := Value.ref.inj (Option.some.inj (hfa.symm.trans (He.glo_ok X G (c.t.d.facts (f := .glo "law") (by simp [fa])))))
  subst e
  obtain ⟨fd, F⟩ := c.t.d.def_ 51 rfl
  refine ⟨fd, tf.map (He.cT K), sp_law K, fun p hp => ?_, fun p hp => ?_, fun p hp => ?_, fun s u => FunD.bindsA (ps := ["_law_script"]) F (fun _ _ _ _ _ _ us hl => match us, hl with | [_], _ => rfl) s [u] rfl, ?_, fun base hK hG TB => ok_law (tx_of X G c TB) F⟩
  · obtain ⟨q, hq, rfl⟩ := List.mem_map.mp hp
    exact c.empty q hq
  · obtain ⟨q, hq, rfl⟩ := List.mem_map.mp hp
    exact c.out q hq
  · obtain ⟨q, hq, rfl⟩ := List.mem_map.mp hp
    exact PySem.W.codeHd_of_K X (c.hd q hq)
  · intro H a ns hl hb hT hS
    have tabs : ∀ q ∈ tf, GxR.TabG H (He.tabOf K (He.codeOf K q)) := fun q hq => ⟨#[], hT _ (List.mem_map_of_mem hq), GxR_triples⟩
    exact law_sp tabs (fun q hq => hT _ (List.mem_map_of_mem hq)) hl hb hS
end Rr
open PySem PySem.W PySem.Calls PyProof.Rows
theorem PySem.Challenge.cw_rrdesk_k11_read_holds : PySem.Challenge.rw_rrdesk_k11_read.Holds := by
  w_on; o_law
  refine HandSHeadRun.head_any (r := OpenLaw.row PySem.Challenge.rw_rrdesk_k11_read) (q := view (OpenLaw.row PySem.Challenge.rw_rrdesk_k11_read).prog [63]) (H := Rr.hk) (ob := Rr.ob) (M := 12000) (loose := (["_wall", "READY", "ASLEEP", "WAITING", "Caller", "DeskError", "NoName", "NoRank", "NoSpan", "NoDesk", "Known", "Unknown", "Full", "NotReady", "IsReady", "SIGNS", "MOST_SIGNS", "is_name", "TOP", "aged", "first", "MOST_PACE", "MOST_ROOM", "MOST_TURNS", "check_name", "check_rank", "check_span", "check_ready", "check_not_ready", "Desk"] : List Str) ++ (["HEAD", "WORDS", "FIGURES", "MOST_FIGURES", "shown", "doing", "read", "begun", "seat", "seat_ready", "words_of", "number", "_law_whole", "_law_cell_at", "_law_mix", "_law_name_by", "_law_texts", "_law_word", "_law_caller", "_law_head", "_law_row", "_law_spoilt", "_law_text", "_law_refused", "_law_number", "_law_stands"] : List Str)) (d := HandSHeadRun.topDef (OpenLaw.row PySem.Challenge.rw_rrdesk_k11_read).prog 63) (kwd := []) Rr.ob_eq
    (by kernel_rfl) (fun s => by kernel_rfl) Rr.run (by kernel_rfl) (by kernel_rfl) (by kernel_rfl) (by rfl) (by first | assumption | decide +kernel) (by decide +kernel) ⟨rfl, rfl, rfl, rfl, rfl, by decide +kernel⟩ ?hw ?hc
  case hw => w_witness2
  case hc =>
    refine LamX.walk_ofTsE (l := PySem.Challenge.rw_rrdesk_k11_read) (n := 63) (k := 8) (x := "_law_script") (CX := fun w => GE.Out GE.AK (PySem.Challenge.rw_rrdesk_k11_read).prog w) rfl (by decide) (by kernel_rfl) ⟨rfl, by decide, by decide⟩ ?F (fun _ _ _ _ _ z => Rr.nobody z)
    intro w mg fa h Y G hmg0
    obtain ⟨K, KX, c⟩ := Y
    have hmg : mg ("law" : PySem.Str) = some (.ref fa) := by
      have e : (HandSHeadRun.topDef (OpenLaw.row PySem.Challenge.rw_rrdesk_k11_read).prog 63).name = ("law" : PySem.Str) := by kernel_rfl
      rw [← e]
      exact hmg0
    exact ⟨K, KX, Rr.lawAt KX G hmg c⟩

