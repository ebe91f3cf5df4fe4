import PyProof.Rows.All
import Wide.All
import OpenK.AllK
import Wide.FinOn
import PyProof.P3Eq
import HandS.ForMost
import HandS.Codes
import HandS.IsInst
import HandS.Evl
import HandS.Walk
import HandS.Defaults
import HandS.ExcCtx
import HandS.HotCalls
import HandS.ExcIs
import HandS.AnyAll
import HandS.DictComp
import HandS.FStr
import HandS.RaiseMore
import HandS.Small
import HandS.EndTab
import HandS.HeadWalk
import HandS.Head2
import HandS.HeadHook4
import HandS.More
import HandS.Conv
import HandS.TryOnly
import PyProof.StrBlock2
import HandS.MakeKw
import PySem.Challenge.RW_rrdesk_k04_entering
set_option Elab.async false
set_option linter.all false
set_option maxRecDepth 100000
set_option maxHeartbeats 4000000
/-! rules of mine over the hand layer -/
namespace Rr
open PySem PySem.Spec PyProof.Rows L2
/-! ### what leaves a def -/
theorem passN {X : Cx} : Passes (L2N.CX X.prog X.w) X E0 := by
  intro _ _ _ _ _ _ _ h
  obtain ⟨_, _, _, _, _, _, _, _, _, _, _, _, z⟩ := h
  exact z.elim
theorem tkN {X : Cx} : L2N.Takes X (fun _ _ _ _ => False) := by
  intro _ _ x
  obtain ⟨_, _, _, _, _, _, _, _, _, _, _, _, _, _, _, _, z⟩ := x
  exact z.elim
/-- nothing is let out, at any slots -/
theorem p0 {X : Cx} (σ : L2.St) : PassesAt (L2N.CX X.prog X.w) X σ ((fun _ => E0 : L2.St → XK) σ) := fun pins H s e s' I c => passN pins σ H s e s' I c
/-- what a callee lets out is let out -/
theorem pU {X : Cx} {E : XK} (tk : L2N.Takes X (fun cls d _ H => E cls d H)) (σ : L2.St) : PassesAt (L2N.CX X.prog X.w) X σ ((fun _ => E : L2.St → XK) σ) := fun pins H s e s' I c =>
  L2N.passes_call tk (fun _ _ _ _ h => h) pins σ H s e s' I c
/-! ### calls: by a def's name, of a method, of a class -/
section
variable (P : Program) (w : World) (K : PySem.W.Frag) (mg : Str → Option Value) (base : Heap)
/-- a def's promise, to be called by its name -/
def Cal (k : Nat) (x : Str) (sp : Sp) : Prop := ∃ (f : Addr) (fd : FuncData) (ps : List Str), FnOk P w K mg base (L2N.CX P w) k f fd ps sp ∧ mg x = some (.ref f) ∧ PySem.W.keepIn K (.ref f) = true ∧ Binds K fd ps []
/-- a method's promise -/
def Met (k : Nat) (C : Addr) (m : Str) (sp : Sp) : Prop := ∃ (f : Addr) (fd : FuncData) (ps : List Str), Cls K C ∧ Meth K C m f ∧ FnOk P w K mg base (L2N.CX P w) k f fd ps sp ∧ Binds K fd ps []
/-- a class that is called; sp: its __init__ -/
def Mak (k : Nat) (x : Str) (C : Addr) (sp : Sp) : Prop := ∃ (f : Addr) (fd : FuncData) (ps : List Str), Mk K C f ∧ FnOk P w K mg base (L2N.CX P w) k f fd ps sp ∧ mg x = some (.ref C) ∧ Binds K fd ps []
/-- a method called with keywords: n values (self too), the names ks -/
def MetK (k : Nat) (C : Addr) (m : Str) (sp : Sp) (n : Nat) (ks : List Str) (gV : List V → List V → List V) : Prop := ∃ (f : Addr) (fd : FuncData) (ps : List Str) (g : List Value → List Value → List Value),
  Cls K C ∧ Meth K C m f ∧ FnOk P w K mg base (L2N.CX P w) k f fd ps sp ∧ KBn K fd ps n ks g gV
end
def tcF (sp : Sp) (E : L2.St → XK) (t : TA) : TE := fun σ H Q => t σ H fun vs H1 => sp vs H1 Q (E σ)
def tcM (sp : Sp) (E : L2.St → XK) (C : Addr) (m : Str) (ta : TE) (t : TA) : TE := fun σ H Q => ta σ H fun x H1 => ∃ a dx fs, x = .ref a ∧ H1 a = some (.ins C dx fs) ∧ fs.lookup m = none ∧ t σ H1 fun vs H2 => sp (x :: vs) H2 Q (E σ)
def tcC (sp : Sp) (C : Addr) (E : L2.St → XK) (t : TA) : TE := fun σ H Q => t σ H fun vs H1 => ∀ x dx, H1 x = none → H1 dx = none → dx ≠ x → sp (.ref x :: vs) (upd (upd H1 dx (.own x)) x (.ins C dx [])) (fun v H2 => v = .non ∧ Q (.ref x) H2) (E σ)
def tcMK (sp : Sp) (E : L2.St → XK) (C : Addr) (m : Str) (n l : Nat) (gV : List V → List V → List V) (ta : TE) (t tk : TA) : TE := fun σ H Q => ta σ H fun x H1 => ∃ a dx fs, x = .ref a ∧ H1 a = some (.ins C dx fs) ∧ fs.lookup m = none ∧
  t σ H1 fun vs H2 => tk σ H2 fun zs H3 => (x :: vs).length = n ∧ zs.length = l ∧ sp (gV (x :: vs) zs) H3 Q (E σ)
section
variable {X : Cx} {k j : Nat} {C : Addr} {x m : Str} {sp : Sp} {E : L2.St → XK} {p pos apos : Pos} {e o : Expr} {es : List Expr} {ta : TE} {t tk : TA}
/-- f(e, ..) -/
theorem pf (c : Cal X.prog X.w X.K X.mg X.base k x sp) (hr : Room j X.A) (hk : k ≤ j) (hg : Gl X x) (hx : ∀ σ, PassesAt (L2N.CX X.prog X.w) X σ (E σ)) (ha : PA X (e :: es) t)
    (hdb : (x == ("__debug__" : Str)) = false := by decide) (he : starEach (e :: es) X.env = (false, eval e X.env) :: starEach es X.env := by rfl) (hpl : (backTo pos (starEach es X.env)).any (·.1) = false := by rfl) :
    PE X (.Call (.Name x p) (e :: es) [] pos) (tcF sp E t) := by
  obtain ⟨f, fd, ps, F, hm, kp, b⟩ := c
  exact pe_callS F (hr.mono hk) hg hm kp b hx ha hdb he hpl
/-- o.m(e, ..) -/
theorem pm {pl : Sem Bool} (c : Met X.prog X.w X.K X.mg X.base k C m sp) (hr : Room j X.A) (hk : k ≤ j) (hx : ∀ σ, PassesAt (L2N.CX X.prog X.w) X σ (E σ)) (ho : PE X o ta) (ha : PA X (e :: es) t)
    (hst : starEach (e :: es) X.env = (false, eval e X.env) :: starEach es X.env := by rfl) (hpl : (backTo pos (starEach es X.env)).any (·.1) = false := by rfl)
    (ht : eval (.Call (.Attribute o m apos) (e :: es) [] pos) X.env = (do
      let r ← eval o X.env
      standAt apos.atName
      let (g, ys) ← holding [r] (getMethod r m pl)
      callWith pos g ys (backTo pos (starEach (e :: es) X.env)) (backToKw pos (keywordEach [] X.env))) := by rfl) :
    PE X (.Call (.Attribute o m apos) (e :: es) [] pos) (tcM sp E C m ta t) := by
  obtain ⟨f, fd, ps, hc, hm, F, b⟩ := c
  refine ⟨fun pins s σ H Q I h => PySem.W.methodCall_KW (pl := pl) (thn (ho.run pins s σ H _ I h) ?_) ht⟩
  rintro u s1 ⟨y, H1, I1, ry, a, dx, fs, rfl, ea, l, q⟩
  obtain rfl : u = Value.ref a := ry
  refine getmeth_ok I1 ea hc hm l (PySem.W.callWith_K (first := [.ref a]) (h₀ := X.base) I.ok.mod.kin hm.kp (thn (ha.run pos pins s1 σ H1 _ I1 q) ?_) hst hpl)
  rintro us s2 ⟨vs, H2, I2, r, q2⟩
  exact ⟨I2.kIn, run_fnS (us := .ref a :: us) (vs := .ref a :: vs) F (hr.mono hk) b (hx σ) I2 (.cons rfl r) q2⟩
/-- o.m() -/
theorem pm0 {pl : Sem Bool} (c : Met X.prog X.w X.K X.mg X.base k C m sp) (hr : Room j X.A) (hk : k ≤ j) (hx : ∀ σ, PassesAt (L2N.CX X.prog X.w) X σ (E σ)) (ho : PE X o ta)
    (ht : eval (.Call (.Attribute o m apos) [] [] pos) X.env = (do
      let r ← eval o X.env
      standAt apos.atName
      let (g, ys) ← holding [r] (getMethod r m pl)
      callWith pos g ys (backTo pos (starEach [] X.env)) (backToKw pos (keywordEach [] X.env))) := by rfl) :
    PE X (.Call (.Attribute o m apos) [] [] pos) (tcM sp E C m ta tNil) := by
  obtain ⟨f, fd, ps, hc, hm, F, b⟩ := c
  refine ⟨fun pins s σ H Q I h => PySem.W.methodCall_KW (pl := pl) (thn (ho.run pins s σ H _ I h) ?_) ht⟩
  rintro u s1 ⟨y, H1, I1, ry, a, dx, fs, rfl, ea, l, q⟩
  obtain rfl : u = Value.ref a := ry
  exact getmeth_ok I1 ea hc hm l (PySem.W.callWith_K0 (first := [.ref a]) I1.kIn hm.kp (run_fnS (us := [.ref a]) (vs := [.ref a]) F (hr.mono hk) b (hx σ) I1 (.cons rfl .nil) q))
/-- o.m(e, .., k = v, ..) -/
theorem pmk {pl : Sem Bool} {kws : List Keyword} {ks : List Str} {n : Nat} {gV : List V → List V → List V} (c : MetK X.prog X.w X.K X.mg X.base k C m sp n ks gV) (hr : Room j X.A) (hk : k ≤ j) (hx : Passes (L2N.CX X.prog X.w) X E0) (ho : PE X o ta) (ha : PA X (e :: es) t) (hkw : PK X kws tk)
    (hall : (backToKw pos (keywordEach kws X.env)).all (·.1.isSome) = true := by rfl) (hks : (backToKw pos (keywordEach kws X.env)).filterMap (·.1) = ks := by rfl)
    (hst : starEach (e :: es) X.env = (false, eval e X.env) :: starEach es X.env := by rfl)
    (hpl : ((backTo pos (starEach (e :: es) X.env)).any (·.1) || (backToKw pos (keywordEach kws X.env)).any (·.1.isNone)) = false := by rfl)
    (ht : eval (.Call (.Attribute o m apos) (e :: es) kws pos) X.env = (do
      let r ← eval o X.env
      standAt apos.atName
      let (g, ys) ← holding [r] (getMethod r m pl)
      callWith pos g ys (backTo pos (starEach (e :: es) X.env)) (backToKw pos (keywordEach kws X.env))) := by rfl) :
    PE X (.Call (.Attribute o m apos) (e :: es) kws pos) (tcMK sp (fun _ => E0) C m n ks.length gV ta t tk) := by
  obtain ⟨f, fd, ps, g, hc, hm, F, b⟩ := c
  refine ⟨fun pins s σ H Q I h => PySem.W.methodCall_KW (pl := pl) (thn (ho.run pins s σ H _ I h) ?_) ht⟩
  rintro u s1 ⟨y, H1, I1, ry, a, dx, fs, rfl, ea, l, q⟩
  obtain rfl : u = Value.ref a := ry
  refine getmeth_ok I1 ea hc hm l (PySem.W.callWith_KW (first := [.ref a]) (h₀ := X.base) I.ok.mod.kin hm.kp hall (thn (ha.run pos pins s1 σ H1 _ I1 q) ?_) hpl hst)
  rintro us s2 ⟨vs, H2, I2, r, q2⟩
  refine thn (hkw.run pos pins s2 σ H2 _ I2 q2) ?_
  rintro ws s3 ⟨zs, H3, I3, rz, l1, l2, q3⟩
  refine ⟨I3.kIn, ?_⟩
  rw [hks]
  exact run_fnN (us := .ref a :: us) (vs := .ref a :: vs) F (hr.mono hk) b hx I3 (.cons rfl r) rz l1 l2 q3
/-- C(e, ..) -/
theorem pc (c : Mak X.prog X.w X.K X.mg X.base k x C sp) (hr : Room j X.A) (hk : k + 1 ≤ j) (hg : Gl X x) {E : XK} (hx : Passes (L2N.CX X.prog X.w) X E) (ha : PA X (e :: es) t)
    (hdb : (x == ("__debug__" : Str)) = false := by decide) (he : starEach (e :: es) X.env = (false, eval e X.env) :: starEach es X.env := by rfl) (hpl : (backTo pos (starEach es X.env)).any (·.1) = false := by rfl) :
    PE X (.Call (.Name x p) (e :: es) [] pos) (tcC sp C (fun _ => E) t) := by
  obtain ⟨f, fd, ps, M, F, hm, b⟩ := c
  refine ⟨fun pins s σ H Q I h => (pe_make M F (hr.mono hk) hg hm b .nil hx ha hdb he hpl).run pins s σ H Q I ?_⟩
  unfold tMake
  unfold tcC at h
  simp only [List.append_nil]
  exact h
/-- an own exception of one argument -/
theorem pmk1 {bmB : List Value} {B newId initId : String} (F : ExcBaseFacts B newId initId bmB) (q : PySem.W.excIn X.K C bmB newId = true) (gC : X.mg x = some (.ref C)) (kC : PySem.W.keepIn X.K (.ref C) = true) (r : Raises X (.ref C)) (hg : Gl X x)
    (he : PE X e ta) (hs : starEach [e] X.env = (false, eval e X.env) :: starEach [] X.env := by rfl) (hdb : (x == ("__debug__" : Str)) = false := by decide) :
    L2N.PMk X (.Call (.Name x p) [e] [] pos) (fun σ H Q => ta σ H fun _ H1 => Q (.ref C) none H1) := by
  intro pins s σ H Q I h
  refine wpAny_Call_Name_kw (ld_glob I hg gC (PySem.W.callWith_K (h₀ := X.base) I.ok.mod.kin kC ?_ hs (by rfl)) hdb)
  rw [hs]
  refine Calls.spliced_cons (thn (he.run pins s σ H _ I h) ?_)
  rintro u s1 ⟨v, H1, I1, r1, q1⟩
  refine Calls.spliced_nil ⟨I1.kIn, ?_⟩
  obtain ⟨_, _, _, _, _, _, _, _, _, _, _, _, _, _, _, _, _, hC, hN, hni, T⟩ := exc_obj I1.kIn q
  exact wpAny_call_exc_subT F T hC hN hni (fun h' a hm => L2N.mk_of I1 hm r q1 (I1.hok.gone hm.new)) (by show 1 ≤ sizeLine; rw [sizeLine_eq]; omega)
end
/-! ### a def with its code object known -/
section
variable {P : Program} {w : World} {K : PySem.W.Frag} {mg : Str → Option Value} {base : Heap} {x qual : Str} {params : Arguments} {body : List Stmt} {scope : Scope} {dvs : List V} {kws : List (Str × V)} {fd : FuncData} {at_ : Str × Option Str}
theorem okF {N ps : List Str} {k : Nat} {sp : Sp} (F : FunD K x qual params body scope dvs kws (He.fAd K at_) fd) (S : FnScope N ps scope) (len : ∀ vs H Q E, sp vs H Q E → vs.length = ps.length)
    (hbody : ∀ (A : Around) (outer : List Env) (s : Shared) (H : Hp) (vs : List V) (Q : VK) (E : XK), Room k (A.deeper (envOfC qual scope s.heap.objs.size (He.fAd K at_) (.ref (He.codeOf K at_)))) → sp vs H Q E →
      ∃ t, PSs (cxOf (L2N.CX P w) P w K mg base N qual scope (He.fAd K at_) (.ref (He.codeOf K at_)) A outer s H E) body t ∧ t { nx := fun _ H' => Q .non H', rt := Q } (start N vs) H) : FnOk P w K mg base (L2N.CX P w) (k + 1) (He.fAd K at_) fd ps sp := by
  obtain ⟨oc, od, dV, kV, doc, pm, an, cdv, ct, osl, rfl, lk, hcd, _, _⟩ := F.ex
  obtain ⟨c, rfl⟩ := He.codeIn_ref hcd
  have ec : He.codeOf K at_ = c := He.codeOf_eq lk rfl
  subst ec
  exact fn_of lk hcd S len hbody
end
end Rr
namespace Rr
open PySem PySem.Spec PyProof.Rows L2
section
variable {X : Cx} {x : Str} {pos : Pos}
/-- a constant of the module -/
theorem pgI {i : Int} (hg : Gl X x) (h : ∃ t, X.mg x = some (.int i t)) (hd : (x == ("__debug__" : Str)) = false := by decide) : PE X (.Name x pos) (tC (.int i)) := by
  obtain ⟨t, h⟩ := h
  exact pe_glob hg h ⟨t, rfl⟩ hd
theorem pgS {z : Str} (hg : Gl X x) (h : ∃ t, X.mg x = some (.str z t)) (hd : (x == ("__debug__" : Str)) = false := by decide) : PE X (.Name x pos) (tC (.str z)) := by
  obtain ⟨t, h⟩ := h
  exact pe_glob hg h ⟨t, rfl⟩ hd
end
/-- a field, within a comprehension -/
theorem pe_fldK {X : Cx} {K : PySem.W.Frag} {e : Expr} {ta : TE} {f : Str} {pos : Pos} (hK : X.K = K) (he : PE X e ta) (hb : attributeBase e f X.env (eval e X.env) = eval e X.env) : PE X (.Attribute e f pos) (tFld K ta f) := by
  subst hK
  exact pe_fld he hb
section
variable {X : Cx} {K : PySem.W.Frag} {tg l : Expr} {tl : TE}
theorem ix_listK (hK : X.K = K) : IxR X (rIxL K) := by
  subst hK
  exact ix_list
theorem ix_tupK (hK : X.K = K) : IxR X (rIxT K) := by
  subst hK
  exact ix_tup
theorem sl_listK (hK : X.K = K) : SlR X (rSlL K) := by
  subst hK
  exact sl_list
theorem pi_listK (hK : X.K = K) (hl : PE X l tl) : PI X tg l (iList K tl) := by
  subst hK
  exact pi_list hl
theorem len_seqK (hK : X.K = K) : CallR X (.builtin "len") (fun xs H Q => ∃ p ys, xs = [.ref p] ∧ (SqL K H p ys ∨ SqT K H p ys) ∧ Q (.int ys.length) H) := by
  subst hK
  exact call_len_seq
theorem in_seqK (hK : X.K = K) : OpR X (compareOp .In) (rIn K false) := by
  subst hK
  exact op_in_seq
theorem isiK (hK : X.K = K) : CallR X (.builtin "isinstance") (rIsi K) := by
  subst hK
  exact call_isi
end
/-- a text, turned round -/
theorem picks_back (c : Array Nat) : ((PySem.Builtin.Str.strSliceIndices none none (-1) c.size).filterMap (c[·]?)) = c.toList.reverse := by
  rw [PyProof.Rows.picked_rev, PyProof.Rows.filterMap_get, List.map_map]
  · refine List.ext_getElem (by simp) fun i h1 h2 => ?_
    have hi : i < c.size := by simpa using h1
    simp only [List.getElem_map, List.getElem_range, Function.comp, List.getElem_reverse, Array.length_toList, Array.getElem_toList]
    have hj : c.size - 1 - i < c.size := by omega
    simp [Array.getD, hj]
  · intro i hi
    obtain ⟨j, hj, rfl⟩ := List.mem_map.mp hi
    have := List.mem_range.mp hj
    omega
def tRevS (te : TE) : TE := fun σ H Q => te σ H fun x H1 => ∃ z, x = .str z ∧ z.length ≤ sizeLine ∧ Q (.str (SX.S z.cps.toList.reverse)) H1
theorem pe_revS {X : Cx} {e : Expr} {te : TE} {k : Nat} {p1 p2 p3 pos : Pos} (he : PE X e te) : PE X (.Subscript e (.Slice none none (some (.UnaryOp .USub (.Constant (.int 1) k p1) p2)) p3) pos) (tRevS te) := by
  constructor
  intro pins s σ H Q I h
  refine Subscript_ (thn (he.run pins s σ H _ I h) ?_)
  rintro v s1 ⟨x, H1, I1, r1, z, rfl, hz, q⟩
  obtain ⟨t, rfl⟩ := r1
  have stp : PO X (some (.UnaryOp .USub (.Constant (.int 1) k p1) p2)) (tPart (tUn (rU fun i => .int (-i)) (tC (.int 1)))) := po_some (pe_un un_neg pe_int)
  refine wpAny_Slice (thn (po_none.run pins s1 σ H1 (fun o H2 => o = none ∧ H2 = H1) I1 ⟨rfl, rfl⟩) ?_)
  rintro vl s2 ⟨_, _, I2, pl, rfl, rfl⟩
  refine thn (po_none.run pins s2 σ _ (fun o H3 => o = none ∧ H3 = _) I2 ⟨rfl, rfl⟩) ?_
  rintro vu s3 ⟨_, _, I3, pu, rfl, rfl⟩
  refine thn (stp.run pins s3 σ _ (fun o H4 => o = some (-1) ∧ H4 = _) I3 ⟨1, rfl, -1, rfl, rfl, rfl⟩) ?_
  rintro vs s4 ⟨_, _, I4, ps, rfl, rfl⟩
  obtain ⟨l, rfl, el⟩ := IsPart.raw pl
  obtain ⟨u, rfl, eu⟩ := IsPart.raw pu
  obtain ⟨n, rfl, en⟩ := IsPart.raw ps
  cases l with
  | some _ => cases el
  | none =>
  cases u with
  | some _ => cases eu
  | none =>
  cases n with
  | none => cases en
  | some m =>
  obtain ⟨i, t2⟩ := m
  have ei : i = -1 := Option.some.inj en
  subst ei
  have J : Inv X pins σ _ { s4 with heap := s4.heap.push { cls := .type "slice", data := .fields #[partValue none, partValue none, partValue (some (-1, t2))] } } := I4.kept (t' := s4.toks) fun b o q => Heap.get?_push_of_some _ q
  refine tail_any (ops := [.str z t, .ref s4.heap.objs.size]) (typeIs_str _ _ _) F.slot_str_getitem.lookup ?_ (by with_unfolding_all rfl)
  have hs := Heap.IsSliceOf.new s4.heap (partValue none) (partValue none) (partValue (some (-1, t2)))
  obtain ⟨os, h1, h2, h3⟩ := hs
  refine wpAny_getItem_str_slice (l := none) (u := none) (st := some (-1, t2)) ⟨os, h1, h2, h3⟩ rfl ?_
  have e : ((PySem.Builtin.Str.strSliceIndices none none (-1) z.length).filterMap (z.cps[·]?)) = z.cps.toList.reverse := picks_back z.cps
  show Made.post (.str ⟨((PySem.Builtin.Str.strSliceIndices none none (-1) z.length).filterMap (z.cps[·]?)).toArray⟩) (EP X pins σ Q) _
  rw [e]
  exact ⟨by rw [show (⟨z.cps.toList.reverse.toArray⟩ : Str).length = z.length by simp [Str.length]]; exact hz, .str _, _, J.tok _, ⟨_, rfl⟩, q⟩
/-- a generator expression's scope, looked at -/
theorem gs_of {env : Env} {scope : Scope} {x : Str} (h : (decide (scope.kind = .function) && (!scope.isCoroutine && (scope.names.all (fun y => !decide (y.2 = .cell) && !decide (y.2 = .free)) && (decide (scope.names.lookup (".0" : Str) = some NameKind.local) && decide (scope.names.lookup x = some .local))))) = true) : GxR.GenS env scope x := by
  simp only [Bool.and_eq_true, decide_eq_true_eq, List.all_eq_true, Bool.not_eq_true', decide_eq_false_iff_not] at h
  obtain ⟨h1, h2, h3, h4, h5⟩ := h
  exact ⟨h1, h2, fun y hy => (h3 y hy).1, h4, h5, fun y hy z => absurd z (h3 y hy).2⟩
end Rr

set_option maxRecDepth 100000
set_option maxHeartbeats 4000000
/-! any, all of a generator expression over a text's signs whose test reads the module's constants -/
namespace Rr
open PySem PySem.Spec PyProof.Rows L2
open GxR (TabB TabG Tabbed GenS Ready trF)
/-- the test of the sign c; the module's names may be read in it -/
def EltG (prog : Program) (w : World) (mg : Str → Option Value) (scope : Scope) (x : Str) (elt : Expr) (pb : Nat → Bool) : Prop :=
  ∀ (env' : Env) (B : Around) (F : Value → Shared → Prop) (c : Nat) (t : Tok) (s' : Shared) (m' : Str → Option Value), env'.scope = scope → env'.globals = mainGlobals → s'.heap.Ns mainGlobals mg → s'.heap.Ns env'.locals m' → m' x = some (.str ⟨#[c]⟩ t) →
    wpAny (model prog w) B (eval elt env') (fun y s'' => y = .bool (pb c) ∧ Keeps s' s'') F s'
/-- c in NAME: NAME a text of the module -/
theorem elt_in {prog : Program} {w : World} {mg : Str → Option Value} {scope : Scope} {x y : Str} {z : Str} {p1 p2 p3 : Pos} (hk : scope.kind = .function) (hl : scope.names.lookup x = some .local) (hy : scope.names.lookup y = some .globalImplicit) (hz : ∃ t, mg y = some (.str z t)) (hd : (x == ("__debug__" : Str)) = false := by decide) (hdy : (y == ("__debug__" : Str)) = false := by decide) :
    EltG prog w mg scope x (.Compare (.Name x p1) [.In] [.Name y p2] p3) (fun c => decide (c ∈ z.cps.toList)) := by
  intro env' B F c t s' m' hs hg hG hn hm
  obtain ⟨tz, hz⟩ := hz
  refine wpAny_Compare1 (wpAny_Name (wpAny_loadName_local (by rw [hs]; exact hk) (show env'.scope.names.lookup x = some .local by rw [hs]; exact hl) hn hm ?_) hd)
  refine Calls.Name_function_global (by rw [hs]; exact hk) (show env'.scope.names.lookup y = some .globalImplicit by rw [hs]; exact hy) (Calls.loadGlobal_global (by rw [hg]; exact hG) hz ?_) hdy
  exact PyProof.Rows.in_str ⟨congrArg Value.bool (PySem.StrLaws.found_one z c), GxR.keeps_refl _⟩
/-- c not in NAME -/
theorem elt_notIn {prog : Program} {w : World} {mg : Str → Option Value} {scope : Scope} {x y : Str} {z : Str} {p1 p2 p3 : Pos} (hk : scope.kind = .function) (hl : scope.names.lookup x = some .local) (hy : scope.names.lookup y = some .globalImplicit) (hz : ∃ t, mg y = some (.str z t)) (hd : (x == ("__debug__" : Str)) = false := by decide) (hdy : (y == ("__debug__" : Str)) = false := by decide) :
    EltG prog w mg scope x (.Compare (.Name x p1) [.NotIn] [.Name y p2] p3) (fun c => !decide (c ∈ z.cps.toList)) := by
  intro env' B F c t s' m' hs hg hG hn hm
  obtain ⟨tz, hz⟩ := hz
  refine wpAny_Compare1 (wpAny_Name (wpAny_loadName_local (by rw [hs]; exact hk) (show env'.scope.names.lookup x = some .local by rw [hs]; exact hl) hn hm ?_) hd)
  refine Calls.Name_function_global (by rw [hs]; exact hk) (show env'.scope.names.lookup y = some .globalImplicit by rw [hs]; exact hy) (Calls.loadGlobal_global (by rw [hg]; exact hG) hz ?_) hdy
  exact PyProof.Rows.notIn_str ⟨congrArg (fun b => Value.bool (!b)) (PySem.StrLaws.found_one z c), GxR.keeps_refl _⟩
section
variable {X : Cx} {pins : List (Addr × Obj)} {σ : L2.St} {H : Hp} {s : Shared} {c P : Addr} {elt iter : Expr} {x : Str} {px p pos gpos : Pos} {scope : Scope} {pb : Nat → Bool} {te : TE} {k : Nat}
/-- the generator is made: what its walk will find -/
theorem gen_signs {Q' : Value → Shared → Prop} {R : Str → Hp → Prop} (hr : Room k X.A) (TB : TabB X.base X.mg c P) (hcode : X.env.code = .ref c) (S : GenS X.env scope x) (hi : PE X iter te) (hel : EltG X.prog X.w X.mg scope x elt pb)
    (hs : ∀ v, genFold iter X.env v = pure v) (I : Inv X pins σ H s) (h : te σ H fun v H1 => ∃ a : Str, v = .str a ∧ TabG H1 P ∧ R a H1) (hQ : ∀ a H1 g s5, R a H1 → Ready X pins σ H1 P a pb g s5 → Q' (.ref g) s5) :
    wpAny (model X.prog X.w) X.A (eval (.GeneratorExp elt [⟨.Name x px, iter, [], 0⟩] scope gpos) X.env) Q' X.xe s := by
  refine wpAny_GeneratorExp_walksQ hr.hd S.co (closure_ok S.free) S.cell S.dot S.loc S.kind (by have := hr.dp; omega) (thn (hi.run pins s σ H _ I h) ?_) hs
  rintro xv s1 ⟨v, H1, I1, r1, a, rfl, ⟨ps, hP, ht⟩, q1⟩
  obtain ⟨t, rfl⟩ := id r1
  refine wpAny_pyIter_str fun it St W hst => ⟨I1.nolimit.push it, ?_⟩
  have atP : s1.heap.get? P = some { cls := .none, data := .fields ps } := I1.hok P _ hP
  have ltP : P < s1.heap.objs.size := Heap.lt_size atP
  have up : ∀ b u, s1.heap.get? b = some u → (s1.heap.push it).get? b = some u := fun b u e => Heap.get?_push_of_some _ e
  have cd : PySem.W.CodeHd (s1.heap.push it) c P := TB.code.keeps fun b u e => up b u (I1.bk b u e)
  have szI : (s1.heap.push it).objs.size = s1.heap.objs.size + 1 := Heap.size_push ..
  have ltS : cStatics < s1.heap.objs.size := by
    obtain ⟨_, hns, _⟩ := I1.nolimit
    exact hns.lt
  have neP : cStatics ≠ P := by
    intro e
    obtain ⟨_, ⟨o', _, _, ho, hd, _⟩, _⟩ := I1.nolimit
    rw [e, atP] at ho
    cases ho
    cases hd
  -- behind the code object: it was found in the table, or the table has grown
  have rest : ∀ (cv : Value) (h3 : Heap) (tk : Nat) (more : Array Value), Heap.ExtBut P (s1.heap.push it) h3 → (s1.heap.push it).objs.size ≤ h3.objs.size → h3.get? P = some { cls := .none, data := .fields (ps ++ more) } → TriplesOk (ps ++ more).toList →
      wpAny (model X.prog X.w) X.A (builtinsFor X.env.globals X.env.builtins) (fun bi s4 =>
        ∃ Ia fp wr n0 Pf St0 pz F, Value.ref s1.heap.objs.size = .ref Ia ∧ (∀ B : Around, B.handled = none → Walks X.prog X.w B Ia fp wr n0 Pf St0) ∧ St0 0 s4.heap ∧ (∀ b ∈ fp, b < s4.heap.objs.size) ∧ s4.heap.NoLimit ∧ cStatics ∉ wr ∧
          (∀ hr' : Heap, (∀ b u, s4.heap.get? b = some u → hr'.get? b = some u) → QuietGen X.prog X.w (genEnv scope (cloFrom X.env.cells scope.names []) s4.heap.objs.size cv bi X.env) x [] elt (List.range s4.heap.objs.size) wr Pf pz F hr') ∧
          (∀ g h5 tk' gs, gs.bare = true → s4.heap.objs.size < g → h5.objs.size = g + 1 → (∀ b u, s4.heap.get? b = some u → h5.get? b = some u) →
            WalksS X.prog X.w X.A.in4 g (g :: s4.heap.objs.size :: List.range s4.heap.objs.size) (s4.heap.objs.size :: wr) (GenOnlyQ s4.gens.size) (passing pz n0 0).length
              (fun j y => ∃ i, (passing pz n0 0)[j]? = some i ∧ F i y) (GenAt X.prog X.w X.A.in4 g s4.gens.size s4.heap.objs.size (List.range s4.heap.objs.size) wr pz n0 F) →
            GenAt X.prog X.w X.A.in4 g s4.gens.size s4.heap.objs.size (List.range s4.heap.objs.size) wr pz n0 F 0 { s4 with gens := s4.gens.push gs, toks := tk', heap := h5 } →
            Q' (.ref g) { s4 with gens := s4.gens.push gs, toks := tk', heap := h5 })) X.xe { s1 with heap := h3, toks := tk } := by
    intro cv h3 tk more ext sz3 at3 ok3
    obtain ⟨bm, ob, e1, e2, e3, e4, e5, e6, e7, e8⟩ := TB.bm
    have old : ∀ b u, b ≠ P → s1.heap.get? b = some u → h3.get? b = some u := fun b u hb e => ext b u hb (up b u e)
    refine wpAny_builtinsFor (m := X.mg) (by rw [I1.ok.glob]; exact ((I1.mod.glob.keeps I1.bk).push it).extBut ext TB.gP) e1 e2 (old _ _ e4 (I1.bk _ _ e5)) e6 e7 e8 ?_
    have one : ∀ b, b ∈ [s1.heap.objs.size] → b = s1.heap.objs.size := fun b hb => List.mem_singleton.mp hb
    refine ⟨s1.heap.objs.size, [s1.heap.objs.size], [s1.heap.objs.size], a.cps.size, SignAt a, St, (fun _ => true), (fun i y => ∃ cc, a.cps[i]? = some cc ∧ y = .bool (pb cc)), rfl, W, ?_, ?_, (I1.nolimit.push it).extBut ext neP, fun z => Nat.ne_of_lt ltS (one _ z), ?_, ?_⟩
    · exact (W X.A hr.hd).frame _ _ _ hst fun b hb u e => ext b u (fun z => Nat.ne_of_lt ltP (z.symm.trans (one b hb))) e
    · intro b hb
      rw [one b hb]
      show s1.heap.objs.size < h3.objs.size
      omega
    · intro hr' khr
      refine ⟨fun B F i v s2 m2 _ _ hn _ _ => ?_, fun B F i v s2 m2 _ hPv _ hn hm hk => ?_⟩
      · simp only [List.forIn_nil]
        exact wpAny_pure ⟨rfl, GxR.keeps_refl _⟩
      · obtain ⟨cc, u, hcc, rfl⟩ := hPv
        refine wpAny_mono (hel _ B F cc u s2 m2 rfl I1.ok.glob ?_ hn hm) (fun y s3 r => ⟨⟨cc, hcc, r.1⟩, r.2⟩) fun _ _ e => e
        obtain ⟨o, es, ep, eo, r⟩ := I1.mod.glob
        have eo1 := I1.bk _ _ eo
        have lo := Heap.lt_size eo1
        refine ⟨o, es, ep, hk mainGlobals (List.mem_range.mpr ?_) (fun z => Nat.ne_of_lt lo (one _ z)) o (khr _ _ (old _ _ TB.gP eo1)), r⟩
        show mainGlobals < h3.objs.size
        exact Nat.lt_of_lt_of_le (Nat.lt_of_lt_of_le (Nat.lt_succ_of_lt lo) (Nat.le_of_eq szI.symm)) sz3
    · intro g h5 tk5 gs hgb hag sz5 k5 W5 hat
      simp only [GxR.passing_true, List.length_range] at W5
      refine hQ a H1 g _ q1 ⟨_, _, _, _, _, W5.in4_1, hat, ?_, fun s' hm => ?_⟩
      · rintro j y sj Qj Ej ⟨i, hij, cc, hcc, rfl⟩ hQj
        obtain ⟨hj, ej⟩ := List.getElem?_eq_some_iff.mp hij
        rw [List.getElem_range] at ej
        subst ej
        have hQ2 : Qj (trF pb a.cps.toList j) sj := hQj
        rw [GxR.trF_some (show a.cps.toList[j]? = some cc by rw [Array.getElem?_toList]; exact hcc)] at hQ2
        exact wpAny_truthy_bool hQ2
      · have nw : ∀ b u, s1.heap.get? b = some u → b ∉ h3.objs.size :: [s1.heap.objs.size] := by
          intro b u e hb
          have hl := Heap.lt_size e
          rcases List.mem_cons.mp hb with z | z
          · rw [z] at hl
            exact absurd (Nat.lt_of_lt_of_le (Nat.lt_succ_of_lt hl) (Nat.le_trans (Nat.le_of_eq szI.symm) sz3)) (Nat.lt_irrefl _)
          · rw [one b z] at hl
            exact Nat.lt_irrefl _ hl
        have J := GxR.inv_tab (more := more) (h' := s'.heap) (g' := s'.gens) (d' := s'.drawn) (t' := s'.toks) I1 hP (fun b u hb e => hm.heap b u (nw b u e) (k5 b u (old b u hb e))) (hm.heap P _ (nw P _ atP) (k5 P _ at3)) (AllBare.movedS (I1.bare.push hgb) hm)
        rw [GxR.sh_eta s1 s' hm.os] at J
        exact ⟨upd H1 P (.tbl (ps ++ more)), ⟨⟨ps ++ more, upd_same, ok3⟩, fun b hb => upd_ne hb⟩, J⟩
  cases hf : codeAmong gpos ps.toList with
  | none =>
    refine wpAny_genexprCodeX hcode (cd.code (up _ _ atP) ht) (cd.tab (up _ _ atP)) hf fun c' h' tk ext hge hlt hco _ htab _ => ?_
    obtain ⟨_, _, _, _, _, _, _, _, _, _, _, _, _, _, _, _, _, _, _, htr, _⟩ := hco
    exact rest _ h' tk _ ext (Nat.le_trans hge (Nat.le_of_lt hlt)) htab.2 htr
  | some cv =>
    refine wpAny_genexprCode_hit hcode (cd.code (up _ _ atP) ht) hf ?_
    exact rest cv (s1.heap.push it) s1.toks #[] (Heap.ExtBut.refl _ _) (Nat.le_refl _) (by rw [Array.append_empty]; exact up _ _ atP) (by rw [Array.append_empty]; exact ht)
/-- all(test for x in e) -/
theorem pe_all (hr : Room k X.A) (hg : Gl X "all") (hm : X.mg "all" = none) (TB : TabB X.base X.mg c P) (hcode : X.env.code = .ref c) (S : GenS X.env scope x) (hi : PE X iter te) (hel : EltG X.prog X.w X.mg scope x elt pb) (hs : ∀ v, genFold iter X.env v = pure v) (hb : bootBuiltins "all" = some (.builtin "all") := by decide +kernel)
    (he : starEach [.GeneratorExp elt [⟨.Name x px, iter, [], 0⟩] scope gpos] X.env = (false, eval (.GeneratorExp elt [⟨.Name x px, iter, [], 0⟩] scope gpos) X.env) :: starEach [] X.env := by rfl) :
    PE X (.Call (.Name "all" p) [.GeneratorExp elt [⟨.Name x px, iter, [], 0⟩] scope gpos] [] pos) (GxR.tAllS P pb te) := by
  refine ⟨fun pins s σ H Q I h => wpAny_Call_Name_kw (ld_blt I hg hm hb (PyProof.Rows.callWith_builtin1 ?_ he (by rfl)))⟩
  rw [he]
  refine Calls.spliced_cons (gen_signs (R := fun a H1 => ∀ H2, Tabbed P H1 H2 → Q (.bl (a.cps.toList.all pb)) H2) hr TB hcode S hi hel hs I h ?_)
  rintro a H1 g s5 hR ⟨fp, wr, G, F, St, W, hst, htr, hI⟩
  refine Calls.spliced_nil (call_all_walkS (W.self 0 _ _ _ hst ⟨g, fp, wr, G, _, F, St, _, rfl, W, hst, htr, fun s' hmv => ?_⟩))
  obtain ⟨H2, hT, J⟩ := hI s' hmv
  refine ⟨.bl _, H2, J, rfl, ?_⟩
  rw [GxR.all_signs a pb]
  exact hR H2 hT
/-- any(test for x in e) -/
theorem pe_any (hr : Room k X.A) (hg : Gl X "any") (hm : X.mg "any" = none) (TB : TabB X.base X.mg c P) (hcode : X.env.code = .ref c) (S : GenS X.env scope x) (hi : PE X iter te) (hel : EltG X.prog X.w X.mg scope x elt pb) (hs : ∀ v, genFold iter X.env v = pure v)
    (he : starEach [.GeneratorExp elt [⟨.Name x px, iter, [], 0⟩] scope gpos] X.env = (false, eval (.GeneratorExp elt [⟨.Name x px, iter, [], 0⟩] scope gpos) X.env) :: starEach [] X.env := by rfl) :
    PE X (.Call (.Name "any" p) [.GeneratorExp elt [⟨.Name x px, iter, [], 0⟩] scope gpos] [] pos) (GxR.tAnyS P pb te) := by
  refine ⟨fun pins s σ H Q I h => wpAny_Call_Name_kw (ld_blt I hg hm boot_any (PyProof.Rows.callWith_builtin1 ?_ he (by rfl)))⟩
  rw [he]
  refine Calls.spliced_cons (gen_signs (R := fun a H1 => ∀ H2, Tabbed P H1 H2 → Q (.bl (a.cps.toList.any pb)) H2) hr TB hcode S hi hel hs I h ?_)
  rintro a H1 g s5 hR ⟨fp, wr, G, F, St, W, hst, htr, hI⟩
  refine Calls.spliced_nil (call_any_walkS (W.self 0 _ _ _ hst ⟨g, fp, wr, G, _, F, St, _, rfl, W, hst, htr, fun s' hmv => ?_⟩))
  obtain ⟨H2, hT, J⟩ := hI s' hmv
  refine ⟨.bl _, H2, J, rfl, ?_⟩
  rw [GxR.any_signs a pb]
  exact hR H2 hT
end
end Rr

set_option maxRecDepth 100000
set_option maxHeartbeats 4000000
/-! the heap's frame; a desk as it stands in the heap -/
namespace Rr
open PySem PySem.Spec PyProof.Rows L2
open GxR (TabG Tabbed)
/-- not a table -/
def NoT (o : HO) : Prop := ∀ ps, o ≠ .tbl ps
/-- what stands outside of S stays (tables may grow); nothing goes -/
structure Keep (S : List Addr) (H H' : Hp) : Prop where
  old : ∀ b o, H b = some o → b ∉ S → NoT o → H' b = some o
  tab : ∀ P, TabG H P → TabG H' P
  gone : ∀ b, H' b = none → H b = none
theorem Keep.refl (S : List Addr) (H : Hp) : Keep S H H := ⟨fun _ _ h _ _ => h, fun _ h => h, fun _ h => h⟩
theorem Keep.trans {S : List Addr} {H H1 H2 : Hp} (a : Keep S H H1) (b : Keep S H1 H2) : Keep S H H2 := ⟨fun c o h n t => b.old c o (a.old c o h n t) n t, fun P h => b.tab P (a.tab P h), fun c h => a.gone c (b.gone c h)⟩
theorem Keep.mono {S S' : List Addr} {H H' : Hp} (k : Keep S H H') (h : ∀ b ∈ S, b ∈ S') : Keep S' H H' := ⟨fun b o e n t => k.old b o e (fun z => n (h b z)) t, k.tab, k.gone⟩
theorem Keep.any {S : List Addr} {H H' : Hp} (k : Keep [] H H') : Keep S H H' := k.mono fun _ h => absurd h List.not_mem_nil
/-- S' may be changed where it is new or stood in S -/
theorem Keep.trans' {S S' : List Addr} {H H1 H2 : Hp} (a : Keep S H H1) (b : Keep S' H1 H2) (h : ∀ x ∈ S', x ∈ S ∨ H x = none) : Keep S H H2 :=
  ⟨fun c o e n t => b.old c o (a.old c o e n t) (fun z => (h c z).elim n fun y => by rw [e] at y; cases y) t, fun P h => b.tab P (a.tab P h), fun c h => a.gone c (b.gone c h)⟩
theorem Keep.new {S : List Addr} {H : Hp} {p : Addr} {o : HO} (h : H p = none) : Keep S H (upd H p o) := by
  have ne : ∀ b u, H b = some u → b ≠ p := fun b u e z => by rw [z, h] at e; cases e
  refine ⟨fun b u e _ _ => by rw [upd_ne (ne b u e)]; exact e, ?_, fun b e => ?_⟩
  · rintro P ⟨ps, e, ok⟩
    exact ⟨ps, by rw [upd_ne (ne P _ e)]; exact e, ok⟩
  · by_cases z : b = p
    · rw [z]
      exact h
    · rw [upd_ne z] at e
      exact e
theorem Keep.upd {S : List Addr} {H : Hp} {p : Addr} {o u : HO} (e0 : H p = some u) (hp : p ∈ S) (nt : NoT u) : Keep S H (upd H p o) := by
  refine ⟨fun b v e n _ => by rw [upd_ne (fun z => n (by rw [z]; exact hp))]; exact e, ?_, fun b e => ?_⟩
  · rintro P ⟨ps, e, ok⟩
    refine ⟨ps, ?_, ok⟩
    rw [upd_ne (fun z => ?_)]
    · exact e
    · rw [z, e0] at e
      exact nt ps (Option.some.inj e)
  · by_cases z : b = p
    · rw [z, upd_same] at e
      cases e
    · rw [upd_ne z] at e
      exact e
theorem Keep.tabbed {S : List Addr} {H H' : Hp} {P : Addr} (t : Tabbed P H H') (hP : TabG H P) : Keep S H H' := by
  obtain ⟨g, k⟩ := t
  obtain ⟨ps0, e0, ok0⟩ := hP
  refine ⟨fun b o e _ nt => ?_, ?_, fun b e => ?_⟩
  · rw [k b (fun z => by rw [z, e0] at e; exact nt ps0 (Option.some.inj e).symm)]
    exact e
  · rintro P' ⟨ps, e, ok⟩
    by_cases z : P' = P
    · rw [z]
      exact g
    · exact ⟨ps, by rw [k P' z]; exact e, ok⟩
  · by_cases z : b = P
    · obtain ⟨ps, e1, _⟩ := g
      rw [z, e1] at e
      cases e
    · rw [← k b z]
      exact e
/-- something else is back at p as it was -/
theorem Keep.back {S : List Addr} {H H' : Hp} {p : Addr} {o u : HO} (e0 : H p = some u) (nt : NoT u) (k : Keep S (L2.upd H p o) H') : Keep S H (L2.upd H' p u) := by
  refine ⟨fun b v e n t => ?_, ?_, fun b e => ?_⟩
  · by_cases z : b = p
    · rw [z, upd_same, ← e0, ← z]
      exact e
    · rw [upd_ne z]
      exact k.old b v (by rw [upd_ne z]; exact e) n t
  · rintro P ⟨ps, e, ok⟩
    have z : P ≠ p := fun z => by rw [z, e0] at e; exact nt ps (Option.some.inj e)
    obtain ⟨ps', e', ok'⟩ := k.tab P ⟨ps, by rw [upd_ne z]; exact e, ok⟩
    exact ⟨ps', by rw [upd_ne z]; exact e', ok'⟩
  · by_cases z : b = p
    · rw [z, upd_same] at e
      cases e
    · rw [upd_ne z] at e
      have q := k.gone b e
      rw [upd_ne z] at q
      exact q
theorem nt_lst {xs : List V} : NoT (.lst xs) := fun _ h => nomatch h
theorem nt_tup {xs : List V} : NoT (.tup xs) := fun _ h => nomatch h
theorem nt_dK {xs : List (Key × V)} : NoT (.dK xs) := fun _ h => nomatch h
theorem nt_ins {C dx : Addr} {fs : List (Str × V)} : NoT (.ins C dx fs) := fun _ h => nomatch h
theorem nt_frz {o : Obj} {u : HO} : NoT (.frz o u) := fun _ h => nomatch h
theorem Keep.lst {S : List Addr} {H H' : Hp} {p : Addr} {xs : List V} (k : Keep S H H') (h : H p = some (.lst xs)) (n : p ∉ S) : H' p = some (.lst xs) := k.old _ _ h n nt_lst
theorem Keep.tup {S : List Addr} {H H' : Hp} {p : Addr} {xs : List V} (k : Keep S H H') (h : H p = some (.tup xs)) (n : p ∉ S) : H' p = some (.tup xs) := k.old _ _ h n nt_tup
theorem Keep.seq {S : List Addr} {K : PySem.W.Frag} {H H' : Hp} {p : Addr} {xs : List V} (k : Keep S H H') (h : SqL K H p xs) (n : ∀ o, H p = some o → p ∉ S) : SqL K H' p xs := by
  rcases h with (h | ⟨o, h⟩) | h
  · exact .inl (.inl (k.old _ _ h (n _ h) nt_lst))
  · exact .inl (.inr ⟨o, k.old _ _ h (n _ h) nt_frz⟩)
  · exact .inr h

/-! ### texts -/
abbrev SIGNSL : List Nat := ("abcdefghijklmnopqrstuvwxyz0123456789" : Str).cps.toList
def isSign (c : Nat) : Bool := decide (c ∈ SIGNSL)
/-- a name -/
def isName (x : Str) : Bool := decide (1 ≤ x.length ∧ x.length ≤ 12) && x.cps.toList.all isSign
/-- a text of moderate size -/
def Small (x : Str) : Prop := x.length ≤ 100000 ∧ ∀ c ∈ x.cps.toList, c < 16 ^ 8
theorem isSign_lt {c : Nat} (h : isSign c = true) : c < 128 := by
  have h1 : ∀ c ∈ SIGNSL, c < 128 := by decide +kernel
  exact h1 c (of_decide_eq_true h)
theorem isName_len {x : Str} (h : isName x = true) : 1 ≤ x.length ∧ x.length ≤ 12 := by
  unfold isName at h
  rw [Bool.and_eq_true] at h
  exact of_decide_eq_true h.1
theorem isName_small {x : Str} (h : isName x = true) : Small x := by
  refine ⟨Nat.le_trans (isName_len h).2 (by decide), fun c hc => ?_⟩
  unfold isName at h
  rw [Bool.and_eq_true] at h
  exact Nat.lt_trans (isSign_lt (List.all_eq_true.mp h.2 c hc)) (by decide)
theorem Small.repr {x : Str} (h : Small x) : (reprText x).length ≤ 1000002 := Nat.le_trans (PySem.StrLaws.reprText_len x h.2) (by have := h.1; omega)
theorem Small.line {x : Str} (h : Small x) : x.length ≤ sizeLine := by
  have := h.1
  rw [sizeLine_eq]
  omega

/-! ### the desk -/
/-- what a caller does -/
inductive Stt where
  | rdy (since : Int) | slp (due : Int) | wtg (bell : Str)
  deriving DecidableEq
def Stt.word : Stt → Str
  | .rdy _ => "ready"
  | .slp _ => "asleep"
  | .wtg _ => "waiting"
def Stt.sinceV : Stt → V
  | .rdy s => .int s
  | _ => .non
def Stt.dueV : Stt → V
  | .slp s => .int s
  | _ => .non
def Stt.bellV : Stt → V
  | .wtg b => .str b
  | _ => .non
structure Cr where
  name : Str
  rank : Int
  st : Stt
  deriving DecidableEq
def Cr.fs (c : Cr) : List (Str × V) := [("name", .str c.name), ("rank", .int c.rank), ("state", .str c.st.word), ("since", c.st.sinceV), ("due", c.st.dueV), ("bell", c.st.bellV)]
structure Dk where
  pace : Int
  room : Int
  now : Int
  line : List Cr
def dFs (p r n : Int) (L : Addr) : List (Str × V) := [("pace", .int p), ("room", .int r), ("now", .int n), ("_line", .ref L)]
abbrev Ln := List (Addr × Cr)
def kvsOf (ln : Ln) : List (Key × V) := ln.map fun p => (Sum.inr p.2.name, .ref p.1)
def namesL (l : List Cr) : List Str := l.map (·.name)
section
variable (K : PySem.W.Frag)
/-- the caller c stands at a -/
def CrAt (H : Hp) (a : Addr) (c : Cr) : Prop := ∃ dx, H a = some (.ins (He.ga K "Caller") dx c.fs)
/-- the desk at d, its line at L, its callers -/
structure DkIn (H : Hp) (d L : Addr) (ln : Ln) (D : Dk) : Prop where
  desk : ∃ dx, H d = some (.ins (He.ga K "Desk") dx (dFs D.pace D.room D.now L))
  line : H L = some (.dK (kvsOf ln))
  crs : ∀ p ∈ ln, CrAt K H p.1 p.2
  eq : ln.map (·.2) = D.line
  nd : (ln.map (·.1)).Nodup
  nm : (namesL D.line).Nodup
  len : D.line.length ≤ 60
  ok : ∀ c ∈ D.line, isName c.name = true
  pr : (1 ≤ D.pace ∧ D.pace ≤ 1000) ∧ 1 ≤ D.room ∧ D.room ≤ 60
/-- .. S: all that is its own -/
def DkAt (H : Hp) (S : List Addr) (d : Addr) (D : Dk) : Prop := ∃ L ln, S = d :: L :: ln.map (·.1) ∧ DkIn K H d L ln D
end
section
variable {K : PySem.W.Frag} {H H' : Hp} {S S' : List Addr} {d L : Addr} {ln : Ln} {D : Dk}
theorem DkIn.keep (x : DkIn K H d L ln D) (k : Keep S H H') (n : ∀ b ∈ d :: L :: ln.map (·.1), b ∉ S) : DkIn K H' d L ln D := by
  refine ⟨?_, k.old _ _ x.line (n L (by simp)) nt_dK, fun p hp => ?_, x.eq, x.nd, x.nm, x.len, x.ok, x.pr⟩
  · obtain ⟨dx, e⟩ := x.desk
    exact ⟨dx, k.old _ _ e (n d (by simp)) nt_ins⟩
  · obtain ⟨dx, e⟩ := x.crs p hp
    exact ⟨dx, k.old _ _ e (n p.1 (List.mem_cons_of_mem _ (List.mem_cons_of_mem _ (List.mem_map_of_mem hp)))) nt_ins⟩
theorem DkAt.keep (x : DkAt K H S d D) (k : Keep S' H H') (n : ∀ b ∈ S, b ∉ S') : DkAt K H' S d D := by
  obtain ⟨L, ln, rfl, x⟩ := x
  exact ⟨L, ln, rfl, x.keep k n⟩
theorem DkAt.keep0 (x : DkAt K H S d D) (k : Keep [] H H') : DkAt K H' S d D := x.keep k fun _ _ => List.not_mem_nil
/-- what is a list or a tuple is none of it -/
theorem DkAt.apart (x : DkAt K H S d D) {p : Addr} {o : HO} (e : H p = some o) (h : (∀ C dx fs, o ≠ .ins C dx fs) ∧ ∀ kvs, o ≠ .dK kvs) : p ∉ S := by
  obtain ⟨L, ln, rfl, x⟩ := x
  intro z
  rcases List.mem_cons.mp z with z | z
  · obtain ⟨dx, q⟩ := x.desk
    rw [z, q] at e
    exact h.1 _ _ _ (Option.some.inj e).symm
  · rcases List.mem_cons.mp z with z | z
    · have q := x.line
      rw [z, q] at e
      exact h.2 _ (Option.some.inj e).symm
    · obtain ⟨y, hy, z⟩ := List.mem_map.mp z
      obtain ⟨dx, q⟩ := x.crs y hy
      rw [← z, q] at e
      exact h.1 _ _ _ (Option.some.inj e).symm
theorem DkAt.lst (x : DkAt K H S d D) {p : Addr} {xs : List V} (e : H p = some (.lst xs)) : p ∉ S := x.apart e ⟨fun _ _ _ h => (nomatch h), fun _ h => (nomatch h)⟩
theorem DkAt.tup (x : DkAt K H S d D) {p : Addr} {xs : List V} (e : H p = some (.tup xs)) : p ∉ S := x.apart e ⟨fun _ _ _ h => (nomatch h), fun _ h => (nomatch h)⟩
theorem DkAt.frz (x : DkAt K H S d D) {p : Addr} {o : Obj} {u : HO} (e : H p = some (.frz o u)) : p ∉ S := x.apart e ⟨fun _ _ _ h => (nomatch h), fun _ h => (nomatch h)⟩
theorem DkAt.sq (x : DkAt K H S d D) {p : Addr} {xs : List V} (e : SqL K H p xs) : ∀ o, H p = some o → SqL K H p xs → (∃ ys, o = .lst ys) ∨ (∃ ob u, o = .frz ob u) → p ∉ S := by
  rintro o ho _ (⟨ys, rfl⟩ | ⟨ob, u, rfl⟩)
  · exact x.lst ho
  · exact x.frz ho
end
/-- S' is of S or new -/
def Sub (H : Hp) (S S' : List Addr) : Prop := ∀ b ∈ S', b ∈ S ∨ H b = none
theorem Sub.refl {H : Hp} {S : List Addr} : Sub H S S := fun _ h => .inl h
end Rr
namespace Rr
open PySem PySem.Spec PyProof.Rows L2
theorem fitN {a b : Str} {k : Nat} (n m : Nat) (ha : a.length ≤ n) (hb : b.length ≤ m) (h : n + m ≤ k := by decide) : (a ++ b).length ≤ k := by
  rw [Str.length_append]
  omega
/-- a text put behind another one -/
theorem fit {a b : Str} (n m : Nat) (ha : a.length ≤ n) (hb : b.length ≤ m) (h : n + m ≤ 16777216 := by decide) : (a ++ b).length ≤ sizeLine := by
  rw [sizeLine_eq]
  exact fitN n m ha hb h
theorem len0 : (Str.empty).length ≤ 0 := Nat.le_refl 0
theorem line_of {a : Str} {n : Nat} (ha : a.length ≤ n) (h : n ≤ 16777216 := by decide) : a.length ≤ sizeLine := by
  rw [sizeLine_eq]
  omega
/-- a whole number that is no monster -/
def Mod (i : Int) : Prop := -18446744073709551616 < i ∧ i < 18446744073709551616
theorem Mod.log {i : Int} (h : Mod i) : i.natAbs.log2 < 1920 := by
  unfold Mod at h
  by_cases z : i.natAbs = 0
  · rw [z]
    decide
  · have h1 : i.natAbs < 2 ^ 64 := by
      rw [show (2 : Nat) ^ 64 = 18446744073709551616 by decide]
      omega
    exact Nat.lt_trans ((Nat.log2_lt z).mpr h1) (by decide)
theorem Mod.len {i : Int} (h : Mod i) : (Str.ofString (toString i)).length ≤ 1921 := int_text_len_1921 h.log
section
variable {X : Cx} {e a b c : Expr} {t t' : TT} {ta tb tc : TE} {pos : Pos}
theorem PT.imp (h : PT X e t) (k : ∀ σ H Q, t' σ H Q → t σ H Q) : PT X e t' := ⟨fun pins s σ H Q I q => h.run pins s σ H Q I (k σ H Q q)⟩
theorem PE.imp {t t' : TE} (h : PE X e t) (k : ∀ σ H Q, t' σ H Q → t σ H Q) : PE X e t' := ⟨fun pins s σ H Q I q => h.run pins s σ H Q I (k σ H Q q)⟩
/-- a <= b <= c of three plain values -/
def tRng (ta tb tc : TE) : TT := fun σ H Q => ∃ i j k : Int, (∀ R : VK, R (.int i) H → ta σ H R) ∧ (∀ R : VK, R (.int j) H → tb σ H R) ∧ (∀ R : VK, R (.int k) H → tc σ H R) ∧ Q (decide (i ≤ j ∧ j ≤ k)) H
theorem pt_rng (ha : PE X a ta) (hb : PE X b tb) (hc : PE X c tc) (hm : lastMarks [CmpOp.LtE, CmpOp.LtE] [b, c] = false := by rfl) : PT X (.Compare a [.LtE, .LtE] [b, c] pos) (tRng ta tb tc) := by
  refine PT.imp (pt_chain op_le op_le ha hb hc (hm := hm)) ?_
  rintro σ H Q ⟨i, j, k, h1, h2, h3, q⟩
  refine h1 _ (h2 _ ⟨i, j, rfl, rfl, _, rfl, ite2 (fun h => h3 _ ⟨j, k, rfl, rfl, _, rfl, ?_⟩) (fun h => ⟨_, rfl, ?_⟩)⟩)
  · have e : decide (j ≤ k) = decide (i ≤ j ∧ j ≤ k) := by
      have := of_decide_eq_true h
      by_cases z : j ≤ k <;> simp [this, z]
    rw [e]
    exact q
  · have e : false = decide (i ≤ j ∧ j ≤ k) := by
      have : ¬ i ≤ j := fun z => h (decide_eq_true z)
      simp [this]
    rw [e]
    exact q
end
end Rr
namespace Rr
open PySem PySem.Spec PyProof.Rows L2
theorem putF_len (f : Str) (v : V) : ∀ fs : List (Str × V), (putF f v fs).length ≤ fs.length + 1
  | [] => Nat.le_refl _
  | (g, x) :: r => by
    unfold putF
    split
    · simp
    · have := putF_len f v r
      simp only [List.length_cons]
      omega
theorem putF_le {f : Str} {v : V} {fs : List (Str × V)} {n : Nat} (h : fs.length ≤ n) : (putF f v fs).length ≤ n + 1 := Nat.le_trans (putF_len f v fs) (by omega)
theorem few {fs : List (Str × V)} {n : Nat} (h : fs.length ≤ n) (k : n < 1000 := by decide) : fs.length < 1000 := by omega
end Rr
namespace Rr
open PySem PySem.Spec PyProof.Rows L2
open GxR (TabG Tabbed)
/-! ### the line as a dict -/
theorem kvs_find (n : Str) : ∀ ln : Ln, valV (kvsOf ln) (Sum.inr n : Key) = (ln.find? fun p => decide (p.2.name = n)).map fun p => V.ref p.1
  | [] => rfl
  | p :: r => by
    show valV ((Sum.inr p.2.name, V.ref p.1) :: kvsOf r) (Sum.inr n : Key) = _
    by_cases e : p.2.name = n
    · rw [valV_pos (congrArg Sum.inr e), List.find?_cons, decide_eq_true e]
      rfl
    · rw [valV_neg (fun z => e (Sum.inr.inj z)), List.find?_cons, decide_eq_false e]
      exact kvs_find n r
theorem kvs_drop (n : Str) : ∀ ln : Ln, dropK (kvsOf ln) (Sum.inr n : Key) = kvsOf (ln.filter fun p => decide (p.2.name ≠ n))
  | [] => rfl
  | p :: r => by
    show dropK ((Sum.inr p.2.name, V.ref p.1) :: kvsOf r) (Sum.inr n : Key) = _
    by_cases e : p.2.name = n
    · rw [dropK_pos (congrArg Sum.inr e), List.filter_cons, if_neg (by simp [e])]
      exact kvs_drop n r
    · rw [dropK_neg (fun z => e (Sum.inr.inj z)), List.filter_cons, if_pos (by simp [e])]
      exact congrArg (List.cons _) (kvs_drop n r)
theorem kvs_keys (ln : Ln) : (kvsOf ln).map (fun kv => kV kv.1) = (namesL (ln.map (·.2))).map V.str := by
  unfold kvsOf namesL
  rw [List.map_map, List.map_map, List.map_map]
  rfl
theorem kvs_len (ln : Ln) : (kvsOf ln).length = ln.length := List.length_map ..
theorem find_none {n : Str} {ln : Ln} (h : n ∉ namesL (ln.map (·.2))) : (ln.find? fun p => decide (p.2.name = n)) = none := by
  refine List.find?_eq_none.mpr fun p hp z => h ?_
  have e : p.2.name = n := of_decide_eq_true z
  rw [← e]
  exact List.mem_map_of_mem (List.mem_map_of_mem hp)
theorem find_some {n : Str} {ln : Ln} (h : n ∈ namesL (ln.map (·.2))) : ∃ p, (ln.find? fun p => decide (p.2.name = n)) = some p ∧ p ∈ ln ∧ p.2.name = n := by
  cases e : ln.find? fun p => decide (p.2.name = n) with
  | none =>
    obtain ⟨c, hc, rfl⟩ := List.mem_map.mp h
    obtain ⟨p, hp, rfl⟩ := List.mem_map.mp hc
    exact absurd (List.find?_eq_none.mp e p hp) (by simp)
  | some p => exact ⟨p, rfl, List.mem_of_find?_eq_some e, of_decide_eq_true (List.find?_some (p := fun p : Addr × Cr => decide (p.2.name = n)) e)⟩
section
variable {K : PySem.W.Frag} {H H' : Hp} {S S' : List Addr} {d L : Addr} {ln : Ln} {D : Dk}
theorem DkIn.dne (x : DkIn K H d L ln D) : d ≠ L := by
  obtain ⟨dx, e⟩ := x.desk
  exact ne_of e x.line (by intro z; cases z)
theorem DkIn.lne (x : DkIn K H d L ln D) {a : Addr} (h : a ∈ ln.map (·.1)) : a ≠ L := by
  obtain ⟨p, hp, rfl⟩ := List.mem_map.mp h
  obtain ⟨dx, e⟩ := x.crs p hp
  exact ne_of e x.line (by intro z; cases z)
theorem DkIn.cne (x : DkIn K H d L ln D) {a : Addr} (h : a ∈ ln.map (·.1)) : a ≠ d := by
  obtain ⟨p, hp, rfl⟩ := List.mem_map.mp h
  obtain ⟨dx, e⟩ := x.crs p hp
  obtain ⟨dy, e2⟩ := x.desk
  refine ne_of e e2 fun z => ?_
  injection z with _ _ z
  exact absurd (congrArg List.length z) (show ¬ (6 = 4) by decide)
/-- a caller more -/
theorem DkIn.add (x : DkIn K H d L ln D) {a : Addr} {c : Cr} (ha : H a = none) {o : HO} {b : Addr} (hb : H b = none) (hba : b ≠ a) {dx : Addr} (hc : c.name ∉ namesL D.line) (hl : D.line.length < 60) (hn : isName c.name = true) :
    DkIn K (upd (upd (upd H b o) a (.ins (He.ga K "Caller") dx c.fs)) L (.dK (putK (kvsOf ln) (Sum.inr c.name) (.ref a)))) d L (ln ++ [(a, c)]) { D with line := D.line ++ [c] } := by
  have nL : ∀ q v, H q = some v → q ≠ b ∧ q ≠ a := fun q v e => ⟨ne_of_none e hb, ne_of_none e ha⟩
  have ndL := nL _ _ x.line
  have new : valV (kvsOf ln) (Sum.inr c.name : Key) = none := by
    rw [kvs_find, find_none (by rw [x.eq]; exact hc)]
    rfl
  refine ⟨?_, ?_, fun p hp => ?_, ?_, ?_, ?_, ?_, fun y hy => ?_, x.pr⟩
  · obtain ⟨dy, e⟩ := x.desk
    obtain ⟨z1, z2⟩ := nL _ _ e
    exact ⟨dy, by rw [upd_ne x.dne, upd_ne z2, upd_ne z1]; exact e⟩
  · rw [upd_same, putK_new _ new]
    unfold kvsOf
    rw [List.map_append]
    rfl
  · rcases List.mem_append.mp hp with hp | hp
    · obtain ⟨dy, e⟩ := x.crs p hp
      obtain ⟨z1, z2⟩ := nL _ _ e
      exact ⟨dy, by rw [upd_ne (x.lne (List.mem_map_of_mem hp)), upd_ne z2, upd_ne z1]; exact e⟩
    · rw [List.mem_singleton.mp hp]
      exact ⟨dx, by rw [upd_ne (fun z => ndL.2 z.symm), upd_same]⟩
  · rw [List.map_append, x.eq]
    rfl
  · rw [List.map_append]
    refine nd_snoc x.nd fun z => ?_
    obtain ⟨p, hp, e⟩ := List.mem_map.mp z
    obtain ⟨dy, e2⟩ := x.crs p hp
    rw [e, ha] at e2
    cases e2
  · show (namesL (D.line ++ [c])).Nodup
    unfold namesL
    rw [List.map_append]
    exact nd_snoc x.nm hc
  · show (D.line ++ [c]).length ≤ 60
    rw [List.length_append]
    simp
    omega
  · rcases List.mem_append.mp hy with h | h
    · exact x.ok y h
    · rw [List.mem_singleton.mp h]
      exact hn
end
end Rr
namespace Rr
open PySem PySem.Spec PyProof.Rows L2
theorem atZ {α : Type} {xs : List α} {z : Int} (h0 : 0 ≤ z) (h : z.toNat < xs.length) : atI xs z = some xs[z.toNat] := by
  have e : atI xs ((z.toNat : Nat) : Int) = xs[z.toNat]? := by
    cases q : xs[z.toNat]? with
    | none => exact absurd (List.getElem?_eq_none_iff.mp q) (by omega)
    | some x => exact atI_nat q
  rw [Int.toNat_of_nonneg h0] at e
  rw [e, List.getElem?_eq_getElem h]
end Rr
namespace Rr
open PySem PySem.Spec PyProof.Rows L2
/-- what is new, or is of S, is written -/
theorem Keep.set {S : List Addr} {H H1 : Hp} {p : Addr} {o u : HO} (k : Keep S H H1) (h0 : H p = none ∨ p ∈ S) (e : H1 p = some u) (nt : NoT u) : Keep S H (L2.upd H1 p o) :=
  k.trans' (S' := [p]) (Keep.upd e (List.mem_singleton.mpr rfl) nt) fun x hx => by
    rw [List.mem_singleton.mp hx]
    exact h0.symm
end Rr

set_option maxRecDepth 100000
set_option maxHeartbeats 4000000
/-! what a desk does, over plain lists; the same in the heap -/
namespace Rr
open PySem PySem.Spec PyProof.Rows L2
open GxR (TabG Tabbed)
/-! ### over lists -/
/-- the caller of c's name becomes c, in its place -/
def setC (c : Cr) (l : List Cr) : List Cr := l.map fun x => if x.name = c.name then c else x
/-- the caller named n goes to the end -/
def lastC (n : Str) (l : List Cr) : List Cr := (l.filter fun x => decide (x.name ≠ n)) ++ l.filter fun x => decide (x.name = n)
def dropC (n : Str) (l : List Cr) : List Cr := l.filter fun x => decide (x.name ≠ n)
def setLn (c : Cr) (l : Ln) : Ln := l.map fun p => if p.2.name = c.name then (p.1, c) else p
def lastLn (n : Str) (l : Ln) : Ln := (l.filter fun p => decide (p.2.name ≠ n)) ++ l.filter fun p => decide (p.2.name = n)
def dropLn (n : Str) (l : Ln) : Ln := l.filter fun p => decide (p.2.name ≠ n)
theorem setLn_snd (c : Cr) (l : Ln) : (setLn c l).map (·.2) = setC c (l.map (·.2)) := by
  unfold setLn setC
  rw [List.map_map, List.map_map]
  refine List.map_congr_left fun p _ => ?_
  show (if p.2.name = c.name then (p.1, c) else p).2 = if p.2.name = c.name then c else p.2
  split <;> rfl
theorem setLn_fst (c : Cr) (l : Ln) : (setLn c l).map (·.1) = l.map (·.1) := by
  unfold setLn
  rw [List.map_map]
  refine List.map_congr_left fun p _ => ?_
  show (if p.2.name = c.name then (p.1, c) else p).1 = p.1
  split <;> rfl
theorem filter_snd (q : Cr → Bool) (l : Ln) : (l.filter fun p => q p.2).map (·.2) = (l.map (·.2)).filter q := by
  induction l with
  | nil => rfl
  | cons p r ih =>
    rw [List.filter_cons, List.map_cons, List.filter_cons]
    split
    · rw [List.map_cons, ih]
    · exact ih
theorem lastLn_snd (n : Str) (l : Ln) : (lastLn n l).map (·.2) = lastC n (l.map (·.2)) := by
  unfold lastLn lastC
  rw [List.map_append, filter_snd (fun c => decide (c.name ≠ n)), filter_snd (fun c => decide (c.name = n))]
theorem dropLn_snd (n : Str) (l : Ln) : (dropLn n l).map (·.2) = dropC n (l.map (·.2)) := filter_snd (fun c => decide (c.name ≠ n)) l
theorem parts_perm {α : Type} (q : α → Bool) : ∀ l : List α, ((l.filter fun x => !q x) ++ l.filter q).Perm l
  | [] => .nil
  | x :: r => by
    rw [List.filter_cons, List.filter_cons]
    cases e : q x with
    | true => exact List.perm_middle.trans ((parts_perm q r).cons x)
    | false => exact (parts_perm q r).cons x
theorem lastC_perm (n : Str) (l : List Cr) : (lastC n l).Perm l := by
  have h := parts_perm (fun x : Cr => decide (x.name = n)) l
  unfold lastC
  have e : (fun x : Cr => decide (x.name ≠ n)) = fun x => !decide (x.name = n) := funext fun x => by simp
  rw [e]
  exact h
theorem lastLn_perm (n : Str) (l : Ln) : (lastLn n l).Perm l := by
  have h := parts_perm (fun x : Addr × Cr => decide (x.2.name = n)) l
  unfold lastLn
  have e : (fun x : Addr × Cr => decide (x.2.name ≠ n)) = fun x => !decide (x.2.name = n) := funext fun x => by simp
  rw [e]
  exact h
theorem setC_names (c : Cr) (l : List Cr) : namesL (setC c l) = namesL l := by
  unfold namesL setC
  rw [List.map_map]
  refine List.map_congr_left fun x _ => ?_
  show (if x.name = c.name then c else x).name = x.name
  split
  · rename_i h
    exact h.symm
  · rfl
theorem setC_len (c : Cr) (l : List Cr) : (setC c l).length = l.length := List.length_map ..
/-- of one name there is one -/
theorem name_one : ∀ {l : List Cr}, (namesL l).Nodup → ∀ {x y : Cr}, x ∈ l → y ∈ l → x.name = y.name → x = y
  | [], _, _, _, h, _, _ => nomatch h
  | c :: r, nd, x, y, hx, hy, e => by
    obtain ⟨n1, n2⟩ := List.nodup_cons.mp (show (c.name :: namesL r).Nodup from nd)
    rcases List.mem_cons.mp hx with a | a
    · rcases List.mem_cons.mp hy with b | b
      · rw [a, b]
      · exact absurd (by rw [← a, e]; exact List.mem_map_of_mem b) n1
    · rcases List.mem_cons.mp hy with b | b
      · exact absurd (by rw [← b, ← e]; exact List.mem_map_of_mem a) n1
      · exact name_one n2 a b e
theorem only_name {l : List Cr} (nd : (namesL l).Nodup) {c : Cr} (h : c ∈ l) : (l.filter fun x => decide (x.name = c.name)) = [c] := by
  induction l with
  | nil => exact nomatch h
  | cons x r ih =>
    obtain ⟨n1, n2⟩ := List.nodup_cons.mp (show (x.name :: namesL r).Nodup from nd)
    rw [List.filter_cons]
    rcases List.mem_cons.mp h with a | a
    · subst a
      rw [if_pos (decide_eq_true rfl)]
      congr 1
      exact List.filter_eq_nil_iff.mpr fun y hy z => n1 (by rw [← of_decide_eq_true z]; exact List.mem_map_of_mem hy)
    · have ne : x.name ≠ c.name := fun z => n1 (by rw [z]; exact List.mem_map_of_mem a)
      rw [if_neg (by simp [ne])]
      exact ih n2 a
/-- changed, then last: the others in their order, then the one -/
theorem last_set {l : List Cr} (nd : (namesL l).Nodup) {c c' : Cr} (h : c ∈ l) (hn : c'.name = c.name) : lastC c'.name (setC c' l) = dropC c'.name l ++ [c'] := by
  unfold lastC dropC
  have h1 : ((setC c' l).filter fun x => decide (x.name ≠ c'.name)) = l.filter fun x => decide (x.name ≠ c'.name) := by
    unfold setC
    rw [List.filter_map]
    have e : ((fun x : Cr => decide (x.name ≠ c'.name)) ∘ fun x => if x.name = c'.name then c' else x) = fun x => decide (x.name ≠ c'.name) := by
      funext x
      show decide ((if x.name = c'.name then c' else x).name ≠ c'.name) = _
      split
      · rename_i q
        simp [q]
      · rfl
    rw [e]
    have e2 : ∀ x ∈ l.filter fun x => decide (x.name ≠ c'.name), (if x.name = c'.name then c' else x) = x := fun x hx => if_neg (of_decide_eq_true (List.mem_filter.mp hx).2)
    rw [List.map_congr_left e2, List.map_id']
  have h2 : ((setC c' l).filter fun x => decide (x.name = c'.name)) = [c'] := only_name (by rw [setC_names]; exact nd) (List.mem_map.mpr ⟨c, h, if_pos hn.symm⟩)
  rw [h1, h2]

/-! ### in the heap -/
section
variable {K : PySem.W.Frag} {H H' : Hp} {S S' : List Addr} {d L a : Addr} {ln : Ln} {D : Dk} {c c' : Cr}
theorem DkIn.one (x : DkIn K H d L ln D) {p q : Addr × Cr} (hp : p ∈ ln) (hq : q ∈ ln) (e : p.2.name = q.2.name) : p = q := by
  have h1 : p.2 = q.2 := name_one x.nm (by rw [← x.eq]; exact List.mem_map_of_mem hp) (by rw [← x.eq]; exact List.mem_map_of_mem hq) e
  have key : ∀ {l : Ln}, (namesL (l.map (·.2))).Nodup → p ∈ l → q ∈ l → p = q := by
    intro l
    induction l with
    | nil => intro _ h; exact nomatch h
    | cons y r ih =>
      intro nd hp hq
      obtain ⟨n1, n2⟩ := List.nodup_cons.mp (show (y.2.name :: namesL (r.map (·.2))).Nodup from nd)
      rcases List.mem_cons.mp hp with a | a
      · rcases List.mem_cons.mp hq with b | b
        · rw [a, b]
        · exact absurd (by rw [← a, e]; exact List.mem_map_of_mem (List.mem_map_of_mem b)) n1
      · rcases List.mem_cons.mp hq with b | b
        · exact absurd (by rw [← b, ← e]; exact List.mem_map_of_mem (List.mem_map_of_mem a)) n1
        · exact ih n2 a b
  exact key (by rw [x.eq]; exact x.nm) hp hq
theorem DkIn.dL (x : DkIn K H d L ln D) (h : a ∈ ln.map (·.1)) : a ≠ d ∧ a ≠ L := ⟨x.cne h, x.lne h⟩
/-- a caller is changed in its place -/
theorem DkIn.set (x : DkIn K H d L ln D) (hp : (a, c) ∈ ln) (hn : c'.name = c.name) {dx : Addr} : DkIn K (upd H a (.ins (He.ga K "Caller") dx c'.fs)) d L (setLn c' ln) { D with line := setC c' D.line } := by
  have ha : a ∈ ln.map (·.1) := List.mem_map_of_mem hp
  obtain ⟨nd, nL⟩ := x.dL ha
  refine ⟨?_, (upd_ne nL.symm).trans (x.line.trans ?_), fun p hp' => ?_, ?_, ?_, ?_, ?_, fun y hy => ?_, x.pr⟩
  · obtain ⟨dy, e⟩ := x.desk
    exact ⟨dy, (upd_ne nd.symm).trans e⟩
  · have e : kvsOf (setLn c' ln) = kvsOf ln := by
      unfold kvsOf setLn
      rw [List.map_map]
      refine List.map_congr_left fun p _ => ?_
      show ((Sum.inr (if p.2.name = c'.name then (p.1, c') else p).2.name : Key), V.ref (if p.2.name = c'.name then (p.1, c') else p).1) = _
      split
      · rename_i q
        rw [q]
      · rfl
    rw [e]
  · obtain ⟨q, hq, rfl⟩ := List.mem_map.mp hp'
    by_cases e : q.2.name = c'.name
    · have eq : q = (a, c) := x.one hq hp (e.trans hn)
      rw [if_pos e, eq]
      exact ⟨dx, upd_same⟩
    · rw [if_neg e]
      obtain ⟨dy, e2⟩ := x.crs q hq
      refine ⟨dy, (upd_ne fun z => ?_).trans e2⟩
      have z1 : q = (a, c) := by
        have key : ∀ {l : Ln}, (l.map (·.1)).Nodup → q ∈ l → (a, c) ∈ l → q = (a, c) := by
          intro l
          induction l with
          | nil => intro _ h; exact nomatch h
          | cons y r ih =>
            intro nd hp hq
            obtain ⟨n1, n2⟩ := List.nodup_cons.mp (show (y.1 :: r.map (·.1)).Nodup from nd)
            rcases List.mem_cons.mp hp with s | s
            · rcases List.mem_cons.mp hq with t | t
              · rw [s, t]
              · exact absurd (by rw [← s, z]; exact List.mem_map_of_mem (f := (·.1)) t) n1
            · rcases List.mem_cons.mp hq with t | t
              · exact absurd (by rw [← t]; show a ∈ _; rw [← z]; exact List.mem_map_of_mem (f := (·.1)) s) n1
              · exact ih n2 s t
        exact key x.nd hq hp
      rw [z1] at e
      exact e hn.symm
  · rw [setLn_snd, x.eq]
  · rw [setLn_fst]
    exact x.nd
  · show (namesL (setC c' D.line)).Nodup
    rw [setC_names]
    exact x.nm
  · show (setC c' D.line).length ≤ 60
    rw [setC_len]
    exact x.len
  · obtain ⟨z, hz, rfl⟩ := List.mem_map.mp (show y ∈ D.line.map _ from hy)
    split
    · rw [hn]
      exact x.ok c (by rw [← x.eq]; exact List.mem_map_of_mem hp)
    · exact x.ok z hz
theorem kvs_last (n : Str) (h : ∃ p ∈ ln, p.2 = c ∧ p.1 = a) (hn : c.name = n) (nd : (namesL (ln.map (·.2))).Nodup) : putK (dropK (kvsOf ln) (Sum.inr n)) (Sum.inr n) (V.ref a) = kvsOf (lastLn n ln) := by
  obtain ⟨p, hp, rfl, rfl⟩ := h
  rw [kvs_drop, putK_new]
  · unfold lastLn
    have e : (ln.filter fun p => decide (p.2.name = n)) = [p] := by
      have key : ∀ {l : Ln}, (namesL (l.map (·.2))).Nodup → p ∈ l → (l.filter fun p => decide (p.2.name = n)) = [p] := by
        intro l
        induction l with
        | nil => intro _ h; exact nomatch h
        | cons y r ih =>
          intro nd hp
          obtain ⟨n1, n2⟩ := List.nodup_cons.mp (show (y.2.name :: namesL (r.map (·.2))).Nodup from nd)
          rw [List.filter_cons]
          rcases List.mem_cons.mp hp with s | s
          · subst s
            rw [if_pos (decide_eq_true hn)]
            congr 1
            exact List.filter_eq_nil_iff.mpr fun z hz q => n1 (by rw [hn, ← of_decide_eq_true q]; exact List.mem_map_of_mem (List.mem_map_of_mem hz))
          · have ne : y.2.name ≠ n := fun z => n1 (by rw [z, ← hn]; exact List.mem_map_of_mem (List.mem_map_of_mem s))
            rw [if_neg (by simp [ne])]
            exact ih n2 s
      exact key nd hp
    rw [e]
    unfold kvsOf
    rw [List.map_append, List.map_cons, List.map_nil, hn]
  · rw [kvs_find, List.find?_eq_none.mpr]
    · rfl
    · intro q hq z
      have := (List.mem_filter.mp hq).2
      simp at this z
      exact this z
/-- a caller goes to the end -/
theorem DkIn.last (x : DkIn K H d L ln D) (hp : (a, c) ∈ ln) : DkIn K (upd (upd H L (.dK (dropK (kvsOf ln) (Sum.inr c.name)))) L (.dK (putK (dropK (kvsOf ln) (Sum.inr c.name)) (Sum.inr c.name) (.ref a)))) d L (lastLn c.name ln) { D with line := lastC c.name D.line } := by
  rw [upd_upd, kvs_last c.name ⟨_, hp, rfl, rfl⟩ rfl (by rw [x.eq]; exact x.nm)]
  refine ⟨?_, upd_same, fun p hp' => ?_, ?_, ?_, ?_, ?_, fun y hy => x.ok y ((lastC_perm _ _).mem_iff.mp hy), x.pr⟩
  · obtain ⟨dy, e⟩ := x.desk
    exact ⟨dy, (upd_ne x.dne).trans e⟩
  · have hp2 : p ∈ ln := (lastLn_perm _ _).mem_iff.mp hp'
    obtain ⟨dy, e2⟩ := x.crs p hp2
    exact ⟨dy, (upd_ne (x.lne (List.mem_map_of_mem hp2))).trans e2⟩
  · rw [lastLn_snd, x.eq]
  · exact ((lastLn_perm _ _).map _).nodup_iff.mpr x.nd
  · exact ((lastC_perm _ _).map _).nodup_iff.mpr x.nm
  · exact Nat.le_trans (Nat.le_of_eq (lastC_perm _ _).length_eq) x.len
/-- a caller leaves -/
theorem DkIn.drop (x : DkIn K H d L ln D) (n : Str) : DkIn K (upd H L (.dK (dropK (kvsOf ln) (Sum.inr n)))) d L (dropLn n ln) { D with line := dropC n D.line } := by
  rw [kvs_drop]
  refine ⟨?_, upd_same, fun p hp' => ?_, ?_, ?_, ?_, ?_, fun y hy => x.ok y (List.mem_filter.mp hy).1, x.pr⟩
  · obtain ⟨dy, e⟩ := x.desk
    exact ⟨dy, (upd_ne x.dne).trans e⟩
  · have hp2 : p ∈ ln := (List.mem_filter.mp hp').1
    obtain ⟨dy, e2⟩ := x.crs p hp2
    exact ⟨dy, (upd_ne (x.lne (List.mem_map_of_mem hp2))).trans e2⟩
  · rw [dropLn_snd, x.eq]
  · exact x.nd.sublist (List.filter_sublist.map _)
  · exact x.nm.sublist (List.filter_sublist.map _)
  · exact Nat.le_trans (List.length_filter_le _ _) x.len
/-- the time is set -/
theorem DkIn.time (x : DkIn K H d L ln D) {n : Int} {dx : Addr} : DkIn K (upd H d (.ins (He.ga K "Desk") dx (dFs D.pace D.room n L))) d L ln { D with now := n } := by
  refine ⟨⟨dx, upd_same⟩, (upd_ne x.dne.symm).trans x.line, fun p hp => ?_, x.eq, x.nd, x.nm, x.len, x.ok, x.pr⟩
  obtain ⟨dy, e2⟩ := x.crs p hp
  exact ⟨dy, (upd_ne (x.cne (List.mem_map_of_mem hp))).trans e2⟩
end
end Rr
namespace Rr
open PySem PySem.Spec PyProof.Rows L2
open GxR (TabG Tabbed)
/-! ### the first of the greatest -/
def pkS {α : Type} (f : α → Int) (s : Nat × Option (Nat × α)) (x : α) : Nat × Option (Nat × α) :=
  (s.1 + 1, match s.2 with
    | none => some (s.1, x)
    | some y => if f y.2 < f x then some (s.1, x) else some y)
def pickI {α : Type} (f : α → Int) (l : List α) : Option (Nat × α) := (l.foldl (pkS f) (0, none)).2
/-- the first of those with the greatest f -/
def pick {α : Type} (f : α → Int) (l : List α) : Option α := (pickI f l).map (·.2)
theorem pk_fst {α : Type} (f : α → Int) : ∀ (l : List α) (s : Nat × Option (Nat × α)), (l.foldl (pkS f) s).1 = s.1 + l.length
  | [], _ => rfl
  | x :: r, s => by
    rw [List.foldl_cons, pk_fst f r, List.length_cons]
    show s.1 + 1 + r.length = _
    omega
theorem pickI_snoc {α : Type} (f : α → Int) (l : List α) (x : α) : pickI f (l ++ [x]) = match pickI f l with
    | none => some (l.length, x)
    | some y => if f y.2 < f x then some (l.length, x) else some y := by
  unfold pickI
  rw [List.foldl_append]
  have h := pk_fst f l (0, none)
  show (match (l.foldl (pkS f) (0, none)).2 with
    | none => some ((l.foldl (pkS f) (0, none)).1, x)
    | some y => if f y.2 < f x then some ((l.foldl (pkS f) (0, none)).1, x) else some y) = _
  rw [h]
  simp
theorem pickI_at {α : Type} (f : α → Int) : ∀ (n : Nat) (l : List α), l.length = n → ∀ {j : Nat} {x : α}, pickI f l = some (j, x) → l[j]? = some x
  | 0, l, hl, j, x, h => by
    rw [List.length_eq_zero_iff.mp hl] at h
    cases h
  | n + 1, l, hl, j, x, h => by
    obtain ⟨r, y, rfl⟩ : ∃ r y, l = r ++ [y] := by
      cases l with
      | nil => cases hl
      | cons a b => exact ⟨_, _, (List.dropLast_concat_getLast (List.cons_ne_nil a b)).symm⟩
    have hr : r.length = n := by simpa using hl
    rw [pickI_snoc] at h
    have new : some (r.length, y) = some (j, x) → (r ++ [y])[j]? = some x := fun e => by
      cases e
      simp
    have old : ∀ {z : Nat × α}, pickI f r = some z → some z = some (j, x) → (r ++ [y])[j]? = some x := fun {z} e1 e2 => by
      rw [Option.some.inj e2] at e1
      have q := pickI_at f n r hr e1
      rw [List.getElem?_append_left (List.getElem?_eq_some_iff.mp q).1]
      exact q
    cases e : pickI f r with
    | none =>
      rw [e] at h
      exact new h
    | some z =>
      rw [e] at h
      have h' : (if f z.2 < f y then some (r.length, y) else some z) = some (j, x) := h
      split at h'
      · exact new h'
      · exact old e h'
theorem pickI_map {α β : Type} (f : β → Int) (g : α → β) : ∀ (n : Nat) (l : List α), l.length = n → pickI f (l.map g) = (pickI (fun x => f (g x)) l).map fun y => (y.1, g y.2)
  | 0, l, hl => by
    rw [List.length_eq_zero_iff.mp hl]
    rfl
  | n + 1, l, hl => by
    obtain ⟨r, y, rfl⟩ : ∃ r y, l = r ++ [y] := by
      cases l with
      | nil => cases hl
      | cons a b => exact ⟨_, _, (List.dropLast_concat_getLast (List.cons_ne_nil a b)).symm⟩
    have hr : r.length = n := by simpa using hl
    rw [List.map_append, List.map_cons, List.map_nil, pickI_snoc, pickI_snoc, pickI_map f g n r hr, List.length_map]
    cases pickI (fun x => f (g x)) r with
    | none => rfl
    | some z =>
      show (if f (g z.2) < f (g y) then some (r.length, g y) else some (z.1, g z.2)) = Option.map _ (if f (g z.2) < f (g y) then some (r.length, y) else some z)
      split <;> rfl
theorem pickI_none {α : Type} {f : α → Int} {l : List α} (h : pickI f l = none) : l = [] := by
  cases l with
  | nil => rfl
  | cons a b =>
    obtain ⟨r, y, e⟩ : ∃ r y, a :: b = r ++ [y] := ⟨_, _, (List.dropLast_concat_getLast (List.cons_ne_nil a b)).symm⟩
    rw [e, pickI_snoc] at h
    cases q : pickI f r with
    | none =>
      rw [q] at h
      cases h
    | some z =>
      rw [q] at h
      have h' : (if f z.2 < f y then some (r.length, y) else some z) = none := h
      split at h' <;> cases h'

/-! ### the desk's deeds -/
def Stt.isRdy : Stt → Bool
  | .rdy _ => true
  | _ => false
/-- since when it is ready -/
def Stt.since : Stt → Int
  | .rdy s => s
  | _ => 0
def readies (l : List Cr) : List Cr := l.filter (·.st.isRdy)
def readyLn (l : Ln) : Ln := l.filter (·.2.st.isRdy)
def agedC (p now : Int) (c : Cr) : Int := c.rank + (now - c.st.since) / p
def Dk.pick (D : Dk) : Option Cr := Rr.pick (agedC D.pace D.now) (readies D.line)
/-- it becomes so, and goes to the end -/
def Dk.move (D : Dk) (c : Cr) : Dk := { D with line := lastC c.name (setC c D.line) }
def Cr.as (c : Cr) (s : Stt) : Cr := { c with st := s }
def Dk.wakeAll (D : Dk) (cs : List Cr) : Dk := cs.foldl (fun D c => D.move (c.as (.rdy D.now))) D
def Dk.leave (D : Dk) (n : Str) : Dk := { D with line := dropC n D.line }
def Dk.ring (D : Dk) (b : Str) : Dk := D.wakeAll (D.line.filter fun c => decide (c.st = .wtg b))
def Dk.setR (D : Dk) (c : Cr) : Dk := { D with line := setC c D.line }
/-- the time grows; whose time to wake has come is ready -/
def Dk.tick (D : Dk) : Dk := ({ D with now := D.now + 1 } : Dk).wakeAll (D.line.filter fun c => decide (c.st = .slp (D.now + 1)))
def Dk.turn (D : Dk) : Dk := match D.pick with
  | none => D.tick
  | some c => D.tick.move (c.as (.rdy (D.now + 1)))
def nmV : Option Cr → V
  | none => .non
  | some c => .str c.name
theorem readyLn_snd (l : Ln) : (readyLn l).map (·.2) = readies (l.map (·.2)) := filter_snd (fun c => c.st.isRdy) l
/-- a dict comprehension over a walk -/
theorem dc_it {J : It} {n : Nat} {G : Hp → Prop} {Y : Nat → Hp → V → Hp → Prop} (w : Walk J n G Y) {g : TG} {tt : TT} {tk tv : TE} {vs : List Nat} {σ : L2.St} {H1 : Hp} {D : Addr} {Qd : Hp → Prop} (Pv : Nat → Hp → Prop) (h0 : Pv 0 (upd H1 D (.dK []))) (hG : ∀ i H, i ≤ n → Pv i H → G H)
    (hs : ∀ i x H H', i < n → Pv i H → Y i H x H' → g x (wipe σ vs) H' fun σ2 H2 => wipe σ2 vs = wipe σ vs ∧ tt σ2 H2 fun b H3 => if b = true then tk σ2 H3 fun y H4 => tv σ2 H4 fun z H5 => ∃ kvs k, y = kV k ∧ H5 D = some (.dK kvs) ∧ kvs.length < sizeLine ∧ Pv (i + 1) (upd H5 D (.dK (putK kvs k z))) else Pv (i + 1) H3)
    (hd : ∀ H, Pv n H → Qd H) :
    ∃ W : Nat → Nat → Hp → Prop, (∃ m, W 0 m (upd H1 D (.dK []))) ∧ ∀ i m H, W i m H → (J.stop i H ∧ Qd H) ∨ (J.go i H ∧ ∃ Nx : Hp → Prop, (∀ H', Nx H' → ∃ m', m' < m ∧ W (i + 1) m' H') ∧
      ∀ x H', J.yld i H x H' → g x (wipe σ vs) H' fun σ2 H2 => wipe σ2 vs = wipe σ vs ∧ tt σ2 H2 fun b H3 => if b = true then tk σ2 H3 fun y H4 => tv σ2 H4 fun z H5 => ∃ kvs k, y = kV k ∧ H5 D = some (.dK kvs) ∧ kvs.length < sizeLine ∧ Nx (upd H5 D (.dK (putK kvs k z))) else Nx H3) := by
  refine ⟨fun i m H => m = n - i ∧ i ≤ n ∧ Pv i H, ⟨n, (Nat.sub_zero n).symm, Nat.zero_le _, h0⟩, ?_⟩
  rintro i m H ⟨rfl, hi, p⟩
  rcases Nat.lt_or_ge i n with hlt | hge
  · exact .inr ⟨w.goes i H hlt (hG i H hi p), Pv (i + 1), fun H' p' => ⟨n - (i + 1), Nat.sub_succ_lt_self n i hlt, rfl, hlt, p'⟩, fun x H' y => hs i x H H' hlt p (w.yields i H x H' hlt (hG i H hi p) y)⟩
  · have e : i = n := Nat.le_antisymm hi hge
    rw [e] at p ⊢
    exact .inl ⟨w.stops H (hG n H (Nat.le_refl _) p), hd H p⟩
end Rr

set_option maxRecDepth 100000
set_option maxHeartbeats 4000000
/-! desks as texts -/
namespace Rr
open PySem PySem.Spec PyProof.Rows L2
open TL (tl tl_append len_tl tl_join joinL numL numL_len numL_ne numL_digits numL_lt numL_step tl_num)
abbrev numT (i : Int) : Str := Str.ofString (toString i)
def Stt.told (now : Int) : Stt → Str
  | .rdy s => numT (now - s)
  | .slp u => numT (u - now)
  | .wtg b => b
def wordsC (now : Int) (c : Cr) : List Str := [c.name, numT c.rank, c.st.word, c.st.told now]
def headD (D : Dk) : List Str := ["desk", numT D.pace, numT D.room, numT D.now]
def rowsD (D : Dk) : List Str := Str.join " " (headD D) :: D.line.map fun c => Str.join " " (wordsC D.now c)
def textD (D : Dk) : Str := Str.join "\n" (rowsD D) ++ "\n"
def GoodSt (now : Int) : Stt → Prop
  | .rdy s => 0 ≤ s ∧ s ≤ now
  | .slp u => 1 ≤ u - now ∧ u - now ≤ 1000
  | .wtg b => isName b = true
structure GoodD (D : Dk) : Prop where
  pr : (1 ≤ D.pace ∧ D.pace ≤ 1000) ∧ 1 ≤ D.room ∧ D.room ≤ 60
  t0 : 0 ≤ D.now
  t1 : D.now < 1000000000000
  len : (D.line.length : Int) ≤ D.room
  nm : (namesL D.line).Nodup
  ok : ∀ c ∈ D.line, isName c.name = true
  rk : ∀ c ∈ D.line, 0 ≤ c.rank ∧ c.rank ≤ 99
  st : ∀ c ∈ D.line, GoodSt D.now c.st
/-- a word: no blank, no line end, short -/
def WordOk (w : Str) : Prop := w.length ≤ 12 ∧ ∀ c ∈ tl w, 33 ≤ c ∧ c < 128
theorem joinL_mem {S : List Nat} {c : Nat} : ∀ {l : List (List Nat)}, c ∈ joinL S l → c ∈ S ∨ ∃ p ∈ l, c ∈ p
  | [], h => nomatch h
  | [p], h => .inr ⟨p, List.mem_singleton.mpr rfl, h⟩
  | p :: q :: r, h => by
    rcases List.mem_append.mp (show c ∈ p ++ (S ++ joinL S (q :: r)) from h) with h | h
    · exact .inr ⟨p, List.mem_cons_self, h⟩
    · rcases List.mem_append.mp h with h | h
      · exact .inl h
      · rcases joinL_mem h with h | ⟨z, hz, h⟩
        · exact .inl h
        · exact .inr ⟨z, List.mem_cons_of_mem _ hz, h⟩
theorem joinL_len {S : List Nat} {m : Nat} : ∀ {l : List (List Nat)}, (∀ p ∈ l, p.length ≤ m) → (joinL S l).length ≤ l.length * (m + S.length)
  | [], _ => Nat.zero_le _
  | [p], h => by
    show p.length ≤ 1 * (m + S.length)
    have := h p (List.mem_singleton.mpr rfl)
    omega
  | p :: q :: r, h => by
    show (p ++ (S ++ joinL S (q :: r))).length ≤ ((q :: r).length + 1) * (m + S.length)
    rw [List.length_append, List.length_append, Nat.add_mul, Nat.one_mul]
    have h1 := h p List.mem_cons_self
    have h2 := joinL_len (S := S) (l := q :: r) fun z hz => h z (List.mem_cons_of_mem _ hz)
    omega
theorem join_len_le {y : Str} {m : Nat} {ws : List Str} (h : ∀ w ∈ ws, w.length ≤ m) : (Str.join y ws).length ≤ ws.length * (m + y.length) := by
  rw [len_tl, tl_join]
  have := joinL_len (S := tl y) (m := m) (l := ws.map tl) fun p hp => by
    obtain ⟨w, hw, rfl⟩ := List.mem_map.mp hp
    rw [← len_tl]
    exact h w hw
  rw [List.length_map, ← len_tl] at this
  exact this
theorem split_word {ws : List Str} (hne : ws ≠ []) (h : ∀ w ∈ ws, WordOk w) : Txt.split (Str.join " " ws) " " = ws := by
  have e := TL.split_join (y := " ") (s := 32) (S := []) (by decide +kernel) (by decide +kernel) hne (parts := ws) fun p hp z => absurd (((h p hp).2 32 z).1) (by decide)
  rw [TL.join_eq] at e
  exact e
theorem row_signs {ws : List Str} (h : ∀ w ∈ ws, WordOk w) : ∀ c ∈ tl (Str.join " " ws), 32 ≤ c ∧ c < 128 := by
  intro c hc
  rw [tl_join] at hc
  rcases joinL_mem hc with z | ⟨p, hp, z⟩
  · have : c = 32 := by simpa using (show c ∈ [32] from z)
    omega
  · obtain ⟨w, hw, rfl⟩ := List.mem_map.mp hp
    have := (h w hw).2 c z
    omega
theorem num_ok {i : Int} (h0 : 0 ≤ i) (h1 : i < 1000000000000) : WordOk (numT i) ∧ 1 ≤ (numT i).length ∧ (∀ c ∈ tl (numT i), 48 ≤ c ∧ c ≤ 57) ∧ intText? (numT i) = some i := by
  obtain ⟨n, rfl⟩ := Int.eq_ofNat_of_zero_le h0
  have e := tl_num n
  have hl : (numL n).length ≤ 12 := numL_len (by decide) (by omega)
  have hd : ∀ c ∈ tl (numT (n : Int)), 48 ≤ c ∧ c ≤ 57 := fun c hc => by
    rw [e] at hc
    exact numL_digits n c hc
  refine ⟨⟨?_, fun c hc => ?_⟩, ?_, hd, TL.int_num (by omega)⟩
  · rw [len_tl, e]
    exact hl
  · have := hd c hc
    omega
  · rw [len_tl, e]
    exact List.length_pos_iff.mpr (numL_ne n)
theorem numL_head : ∀ (k n : Nat), n ≤ k → 1 ≤ n → ∃ c r, numL n = c :: r ∧ 49 ≤ c
  | 0, n, h, h1 => absurd h1 (by omega)
  | k + 1, n, h, h1 => by
    by_cases hn : n < 10
    · exact ⟨_, _, numL_lt hn, by omega⟩
    · obtain ⟨c, r, e, hc⟩ := numL_head k (n / 10) (by omega) (by omega)
      exact ⟨c, r ++ [48 + n % 10], by rw [numL_step (by omega), e]; rfl, hc⟩
theorem num_first {i : Int} (h0 : 0 ≤ i) {c : Nat} {r : List Nat} (e : tl (numT i) = c :: r) (h : c = 48) : numT i = "0" := by
  obtain ⟨n, rfl⟩ := Int.eq_ofNat_of_zero_le h0
  rw [tl_num n] at e
  by_cases hn : n = 0
  · rw [hn]
    decide +kernel
  · obtain ⟨c', r', e', hc⟩ := numL_head n n (Nat.le_refl _) (by omega)
    rw [e'] at e
    injection e with e1 _
    omega
theorem name_word {x : Str} (h : isName x = true) : WordOk x := by
  refine ⟨(isName_len h).2, fun c hc => ?_⟩
  unfold isName at h
  rw [Bool.and_eq_true] at h
  have h1 : ∀ c ∈ SIGNSL, 33 ≤ c ∧ c < 128 := by decide +kernel
  exact h1 c (of_decide_eq_true (List.all_eq_true.mp h.2 c hc))
theorem word_ok : ∀ s : Stt, WordOk s.word
  | .rdy _ => show WordOk "ready" from ⟨by decide +kernel, by decide +kernel⟩
  | .slp _ => show WordOk "asleep" from ⟨by decide +kernel, by decide +kernel⟩
  | .wtg _ => show WordOk "waiting" from ⟨by decide +kernel, by decide +kernel⟩
theorem told_ok {now : Int} {s : Stt} (t1 : now < 1000000000000) (h : GoodSt now s) : WordOk (s.told now) := by
  cases s with
  | rdy s => exact (num_ok (show 0 ≤ now - s by have := h.2; omega) (by have := h.1; omega)).1
  | slp u => exact (num_ok (show 0 ≤ u - now by have := h.1; omega) (by have := h.2; omega)).1
  | wtg b => exact name_word h
theorem wordsC_ok {now : Int} {c : Cr} (t1 : now < 1000000000000) (hn : isName c.name = true) (hr : 0 ≤ c.rank ∧ c.rank ≤ 99) (hs : GoodSt now c.st) : ∀ w ∈ wordsC now c, WordOk w := by
  intro w hw
  rcases List.mem_cons.mp hw with rfl | hw
  · exact name_word hn
  rcases List.mem_cons.mp hw with rfl | hw
  · exact (num_ok hr.1 (by omega)).1
  rcases List.mem_cons.mp hw with rfl | hw
  · exact word_ok _
  rw [List.mem_singleton.mp hw]
  exact told_ok t1 hs
theorem headD_ok {D : Dk} (g : GoodD D) : ∀ w ∈ headD D, WordOk w := by
  obtain ⟨⟨p1, p2⟩, r1, r2⟩ := g.pr
  have t0 := g.t0
  have t1 := g.t1
  intro w hw
  rcases List.mem_cons.mp hw with rfl | hw
  · exact ⟨by decide +kernel, by decide +kernel⟩
  rcases List.mem_cons.mp hw with rfl | hw
  · exact (num_ok (by omega) (by omega)).1
  rcases List.mem_cons.mp hw with rfl | hw
  · exact (num_ok (by omega) (by omega)).1
  rw [List.mem_singleton.mp hw]
  exact (num_ok t0 t1).1
theorem row_of {D : Dk} (g : GoodD D) {r : Str} (h : r ∈ rowsD D) : (∀ c ∈ tl r, 32 ≤ c ∧ c < 128) ∧ r.length ≤ 52 := by
  have key : ∀ ws : List Str, (∀ w ∈ ws, WordOk w) → ws.length = 4 → (∀ c ∈ tl (Str.join " " ws), 32 ≤ c ∧ c < 128) ∧ (Str.join " " ws).length ≤ 52 := fun ws hw hl => by
    refine ⟨row_signs hw, ?_⟩
    have := join_len_le (y := " ") (m := 12) fun w h => (hw w h).1
    rw [hl] at this
    exact this
  rcases List.mem_cons.mp h with rfl | h
  · exact key _ (headD_ok g) rfl
  · obtain ⟨c, hc, rfl⟩ := List.mem_map.mp h
    exact key _ (wordsC_ok g.t1 (g.ok c hc) (g.rk c hc) (g.st c hc)) rfl
theorem rows_len {D : Dk} (g : GoodD D) : (Str.join "\n" (rowsD D)).length ≤ 3233 := by
  have h := join_len_le (y := "\n") (m := 52) (ws := rowsD D) fun r hr => (row_of g hr).2
  have hl : (rowsD D).length ≤ 61 := by
    show (_ :: D.line.map _).length ≤ 61
    rw [List.length_cons, List.length_map]
    have := g.len
    have := g.pr.2.2
    omega
  exact Nat.le_trans h (Nat.le_trans (Nat.mul_le_mul_right _ hl) (by decide))
theorem split_rows {D : Dk} (g : GoodD D) : Txt.split (Str.join "\n" (rowsD D)) "\n" = rowsD D := by
  have e := TL.split_join (y := "\n") (s := 10) (S := []) (by decide +kernel) (by decide +kernel) (parts := rowsD D) (by simp [rowsD]) fun p hp z => absurd (((row_of g hp).1 10 z).1) (by decide)
  rw [TL.join_eq] at e
  exact e
theorem cut_last (a : Str) : cutS (a ++ "\n") none (some (-1)) = a := by
  refine TL.ext_tl ?_
  have hl : (a ++ "\n" : Str).length = a.length + 1 := Str.length_append _ _
  have hs : HT.sIx (a ++ "\n" : Str).length (a ++ "\n" : Str).length (some (-1)) = a.length := by
    rw [hl]
    unfold HT.sIx
    simp
    omega
  show ((tl (a ++ "\n")).drop (HT.sIx _ 0 none)).take (HT.sIx _ _ (some (-1)) - HT.sIx _ 0 none) = tl a
  rw [hs]
  show ((tl (a ++ "\n")).drop 0).take (a.length - 0) = tl a
  rw [List.drop_zero, Nat.sub_zero, tl_append, len_tl, List.take_left]
theorem ends_nl (a : Str) : Txt.endswith (a ++ "\n") "\n" = true := by
  unfold Txt.endswith
  have hl : (a ++ "\n" : Str).length = a.length + 1 := Str.length_append _ _
  have h1 : ("\n" : Str).length = 1 := by decide +kernel
  rw [hl, h1, Bool.and_eq_true]
  refine ⟨decide_eq_true (by omega), ?_⟩
  rw [PySem.StrLaws.subAt_eq]
  show (((tl (a ++ "\n")).drop (a.length + 1 - 1)).take _ == _) = true
  rw [Nat.add_sub_cancel, tl_append, show a.length = (tl a).length from len_tl a, List.drop_left]
  decide +kernel
end Rr

set_option maxRecDepth 100000
set_option maxHeartbeats 4000000
/-! the numbers and names that the laws draw -/
namespace Rr
open PySem PySem.Spec PyProof.Rows L2
def cell (ns : List Int) (k : Int) : Int := ns.getD k.toNat 0
def mix (c p m : Int) : Int := c * 48271 % p % m
theorem mix_nn {c p m : Int} (hm : 0 < m) : 0 ≤ mix c p m ∧ mix c p m < m := ⟨Int.emod_nonneg _ (by omega), Int.emod_lt_of_pos _ hm⟩
/-! names -/
abbrev FIGL : List Nat := ("0123456789" : Str).cps.toList
def someL (c : Int) : List Nat := if mix c 10259 5 = 0 then FIGL else SIGNSL
def manyL (c : Int) : Int := if mix c 10259 5 = 0 then 10 else 36
theorem manyL_of (c : Int) : ((someL c).length : Int) = manyL c := by
  unfold someL manyL
  split <;> decide +kernel
theorem manyL_c (c : Int) : manyL c = 10 ∨ manyL c = 36 := by
  unfold manyL
  split
  · exact .inl rfl
  · exact .inr rfl
/-- the sign at a place, gone round -/
def sgn (c i : Int) : Nat := (someL c).getD i.toNat 48
theorem sgn_at {c i : Int} (h0 : 0 ≤ i) (h1 : i < manyL c) : atI (someL c) i = some (sgn c i) := by
  have hl : i.toNat < (someL c).length := by have := manyL_of c; omega
  rw [atZ h0 hl]
  unfold sgn
  rw [List.getD_eq_getElem?_getD, List.getElem?_eq_getElem hl]
  rfl
theorem sgn_sign {c i : Int} : isSign (sgn c i) = true := by
  have h1 : ∀ z ∈ FIGL, isSign z = true := by decide +kernel
  have h2 : ∀ z ∈ SIGNSL, isSign z = true := by decide +kernel
  have h3 : isSign 48 = true := by decide +kernel
  unfold sgn
  rw [List.getD_eq_getElem?_getD]
  cases e : (someL c)[i.toNat]? with
  | none => exact h3
  | some z =>
    have hz := List.mem_of_getElem? e
    unfold someL at hz
    split at hz
    · exact h1 z hz
    · exact h2 z hz
theorem sgn_inj {c i j : Int} (hi : 0 ≤ i ∧ i < manyL c) (hj : 0 ≤ j ∧ j < manyL c) (h : sgn c i = sgn c j) : i = j := by
  have nd1 : FIGL.Nodup := by decide +kernel
  have nd2 : SIGNSL.Nodup := by decide +kernel
  have nd : (someL c).Nodup := by
    unfold someL
    split
    · exact nd1
    · exact nd2
  have li : i.toNat < (someL c).length := by have := manyL_of c; omega
  have lj : j.toNat < (someL c).length := by have := manyL_of c; omega
  unfold sgn at h
  rw [List.getD_eq_getElem?_getD, List.getD_eq_getElem?_getD, List.getElem?_eq_getElem li, List.getElem?_eq_getElem lj] at h
  have h : (someL c)[i.toNat] = (someL c)[j.toNat] := h
  rcases Nat.lt_trichotomy i.toNat j.toNat with z | z | z
  · exact absurd h (List.pairwise_iff_getElem.mp nd _ _ li lj z)
  · omega
  · exact absurd h.symm (List.pairwise_iff_getElem.mp nd _ _ lj li z)
def nearI (k c : Int) : Int := (k + c % manyL c) / manyL c
def tellI (k c : Int) : Int := (k + c) % manyL c
def baseL (c : Int) : List Nat := (List.range (2 + mix c 10313 11).toNat).map fun (j : Nat) => sgn c ((c / 72 + 7 * (0 + (j : Int))) % manyL c)
def moreL (k c : Int) (n : Nat) : List Nat := (List.range n).map fun (j : Nat) => sgn c ((c / 72 + 7 * (0 + (j : Int)) + k * (0 + (j : Int))) % manyL c)
def atN (c : Int) : Nat := (mix c 10321 (2 + mix c 10313 11 - 1)).toNat
def pairL (k c : Int) : List Nat := [sgn c (nearI k c), sgn c (tellI k c)]
def longL (k c : Int) : List Nat := pairL k c ++ moreL k c (mix (c + k) 10007 11).toNat
def nameL (k c : Int) : List Nat :=
  if mix c 10303 2 = 0 then (baseL c).take (atN c) ++ pairL k c ++ (baseL c).drop (atN c + 2)
  else if k < manyL c ∧ mix (c + 3 * k) 10253 8 = 0 then [sgn c (tellI k c)]
  else if c / 36 % 2 = 1 then (longL k c).reverse else longL k c
def nameBy (k c : Int) : Str := SX.S (nameL k c)
theorem near_ok {k c : Int} (h0 : 0 ≤ k) (h1 : k < 80) : 0 ≤ nearI k c ∧ nearI k c < manyL c := by
  unfold nearI
  rcases manyL_c c with e | e <;> rw [e] <;> omega
theorem tell_ok {k c : Int} : 0 ≤ tellI k c ∧ tellI k c < manyL c := by
  unfold tellI
  rcases manyL_c c with e | e <;> rw [e] <;> omega
theorem base_len (c : Int) : (baseL c).length = (2 + mix c 10313 11).toNat := by
  unfold baseL
  rw [List.length_map, List.length_range]
theorem at_ok (c : Int) : atN c + 2 ≤ (baseL c).length := by
  rw [base_len]
  have h1 := mix_nn (c := c) (p := 10313) (m := 11) (by decide)
  have h2 := mix_nn (c := c) (p := 10321) (m := 2 + mix c 10313 11 - 1) (by omega)
  unfold atN
  omega
theorem take2 {a b : List Nat} {l : List Nat} (h : a = b) : a ++ l = b ++ l := by rw [h]
theorem name_ok {k c : Int} (h0 : 0 ≤ k) (h1 : k < 80) : isName (nameBy k c) = true := by
  have key : ∀ l : List Nat, 1 ≤ l.length → l.length ≤ 12 → (∀ z ∈ l, isSign z = true) → isName (SX.S l) = true := by
    intro l a b h
    unfold isName
    rw [Bool.and_eq_true]
    exact ⟨decide_eq_true (by rw [SX.S_len]; exact ⟨a, b⟩), List.all_eq_true.mpr h⟩
  have hp : ∀ z ∈ pairL k c, isSign z = true := by
    intro z hz
    rcases List.mem_cons.mp hz with rfl | hz
    · exact sgn_sign
    · rw [List.mem_singleton.mp hz]
      exact sgn_sign
  have hb : ∀ z ∈ baseL c, isSign z = true := by
    intro z hz
    obtain ⟨j, _, rfl⟩ := List.mem_map.mp hz
    exact sgn_sign
  have hm : ∀ n, ∀ z ∈ moreL k c n, isSign z = true := by
    intro n z hz
    obtain ⟨j, _, rfl⟩ := List.mem_map.mp hz
    exact sgn_sign
  unfold nameBy nameL
  have m1 := mix_nn (c := c) (p := 10313) (m := 11) (by decide)
  have m2 := mix_nn (c := c + k) (p := 10007) (m := 11) (by decide)
  have ha := at_ok c
  have hbl := base_len c
  split
  · refine key _ ?_ ?_ ?_
    · simp [pairL]
      omega
    · simp [pairL]
      omega
    · intro z hz
      rcases List.mem_append.mp hz with h | h
      · rcases List.mem_append.mp h with h | h
        · exact hb z (List.mem_of_mem_take h)
        · exact hp z h
      · exact hb z (List.mem_of_mem_drop h)
  · have hlong : 1 ≤ (longL k c).length ∧ (longL k c).length ≤ 12 ∧ ∀ z ∈ longL k c, isSign z = true := by
      refine ⟨?_, ?_, ?_⟩
      · simp [longL, pairL]
      · simp [longL, pairL, moreL]
        omega
      · intro z hz
        rcases List.mem_append.mp hz with h | h
        · exact hp z h
        · exact hm _ z h
    split
    · exact key _ (by simp) (by simp) fun z hz => by rw [List.mem_singleton.mp hz]; exact sgn_sign
    · split
      · exact key _ (by rw [List.length_reverse]; exact hlong.1) (by rw [List.length_reverse]; exact hlong.2.1) fun z hz => hlong.2.2 z (List.mem_reverse.mp hz)
      · exact key _ hlong.1 hlong.2.1 hlong.2.2
theorem pair_inj {i k c : Int} (hi : 0 ≤ i ∧ i < 80) (hk : 0 ≤ k ∧ k < 80) (h : pairL i c = pairL k c) : i = k := by
  unfold pairL at h
  injection h with h1 h2
  injection h2 with h2 _
  have e1 := sgn_inj (near_ok hi.1 hi.2) (near_ok hk.1 hk.2) h1
  have e2 := sgn_inj tell_ok tell_ok h2
  unfold nearI at e1
  unfold tellI at e2
  rcases manyL_c c with e | e <;> rw [e] at e1 e2 <;> omega
theorem name_inj {i k c : Int} (hi : 0 ≤ i ∧ i < 80) (hk : 0 ≤ k ∧ k < 80) (h : nameBy i c = nameBy k c) : i = k := by
  have h := SX.S_inj h
  unfold nameL at h
  split at h
  · have h2 := List.append_inj_left' h rfl
    exact pair_inj hi hk (List.append_inj_right h2 rfl)
  · have l2 : ∀ z : Int, 2 ≤ (longL z c).length := fun z => by simp [longL, pairL]
    have ll : longL i c = longL k c → i = k := fun h => by
      unfold longL at h
      have := congrArg (List.take 2) h
      simp [pairL] at this
      exact pair_inj hi hk (by unfold pairL; rw [this.1, this.2])
    have lr : (longL i c).reverse = (longL k c).reverse → i = k := fun h => ll (List.reverse_inj.mp h)
    have lt : ∀ z : Int, (if c / 36 % 2 = 1 then (longL z c).reverse else longL z c).length ≠ 1 := fun z => by
      have := l2 z
      split
      · rw [List.length_reverse]
        omega
      · omega
    by_cases a : i < manyL c ∧ mix (c + 3 * i) 10253 8 = 0
    · rw [if_pos a] at h
      by_cases b : k < manyL c ∧ mix (c + 3 * k) 10253 8 = 0
      · rw [if_pos b] at h
        injection h with h _
        have e2 := sgn_inj tell_ok tell_ok h
        have a1 := a.1
        have b1 := b.1
        unfold tellI at e2
        rcases manyL_c c with e | e <;> rw [e] at e2 a1 b1 <;> omega
      · rw [if_neg b] at h
        exact absurd (congrArg List.length h).symm (lt k)
    · rw [if_neg a] at h
      by_cases b : k < manyL c ∧ mix (c + 3 * k) 10253 8 = 0
      · rw [if_pos b] at h
        exact absurd (congrArg List.length h) (lt i)
      · rw [if_neg b] at h
        split at h
        · exact lr h
        · exact ll h
end Rr

set_option maxRecDepth 100000
set_option maxHeartbeats 4000000
/-! a line as a list of rows; what deeds and turns leave -/
namespace Rr
open PySem PySem.Spec PyProof.Rows L2
def Stt.markV : Stt → V
  | .rdy s => .int s
  | .slp u => .int u
  | .wtg b => .str b
abbrev rowV (c : Cr) : List V := [.str c.name, .int c.rank, .str c.st.word, c.st.markV]
def RowAt (H : Hp) (t : Addr) (c : Cr) : Prop := H t = some (.tup (rowV c))
/-- the list at a holds a row for each of l -/
def LnAt (H : Hp) (a : Addr) (l : List Cr) : Prop := ∃ ps : List (Addr × Cr), l = ps.map (·.2) ∧ H a = some (.lst (ps.map fun p => V.ref p.1)) ∧ ∀ p ∈ ps, RowAt H p.1 p.2
section
variable {K : PySem.W.Frag} {H H' : Hp} {S : List Addr} {a d : Addr} {l : List Cr} {D : Dk}
theorem LnAt.keep (x : LnAt H a l) (k : Keep S H H') (n : ∀ b o, H b = some o → (∃ xs, o = .lst xs) ∨ (∃ xs, o = .tup xs) → b ∉ S) : LnAt H' a l := by
  obtain ⟨ps, rfl, h, hr⟩ := x
  exact ⟨ps, rfl, k.lst h (n _ _ h (.inl ⟨_, rfl⟩)), fun p hp => k.tup (hr p hp) (n _ _ (hr p hp) (.inr ⟨_, rfl⟩))⟩
theorem LnAt.keep0 (x : LnAt H a l) (k : Keep [] H H') : LnAt H' a l := x.keep k fun _ _ _ _ => List.not_mem_nil
theorem LnAt.keepD (x : LnAt H a l) (hD : DkAt K H S d D) (k : Keep S H H') : LnAt H' a l := x.keep k fun b o h q => by
  rcases q with ⟨xs, rfl⟩ | ⟨xs, rfl⟩
  · exact hD.lst h
  · exact hD.tup h
theorem RowAt.keepD {t : Addr} {c : Cr} (x : RowAt H t c) (hD : DkAt K H S d D) (k : Keep S H H') : RowAt H' t c := k.tup x (hD.tup x)
theorem RowAt.keep0 {t : Addr} {c : Cr} (x : RowAt H t c) (k : Keep [] H H') : RowAt H' t c := k.tup x List.not_mem_nil
end
/-! ### members -/
theorem mem_last {n : Str} {l : List Cr} {x : Cr} : x ∈ lastC n l ↔ x ∈ l := (lastC_perm n l).mem_iff
theorem mem_setC {c x : Cr} {l : List Cr} (h : x ∈ setC c l) : x = c ∨ (x ∈ l ∧ x.name ≠ c.name) := by
  obtain ⟨y, hy, rfl⟩ := List.mem_map.mp h
  by_cases e : y.name = c.name
  · rw [if_pos e]
    exact .inl rfl
  · rw [if_neg e]
    exact .inr ⟨hy, e⟩
theorem mem_move {D : Dk} {c x : Cr} (h : x ∈ (D.move c).line) : x = c ∨ (x ∈ D.line ∧ x.name ≠ c.name) := mem_setC (mem_last.mp h)
theorem names_move (D : Dk) (c : Cr) : (namesL (D.move c).line).Perm (namesL D.line) := by
  have h := (lastC_perm c.name (setC c D.line)).map (·.name)
  have e : (setC c D.line).map (·.name) = namesL D.line := setC_names c D.line
  rw [e] at h
  exact h
theorem len_move (D : Dk) (c : Cr) : (D.move c).line.length = D.line.length := by
  have := (names_move D c).length_eq
  unfold namesL at this
  rw [List.length_map, List.length_map] at this
  exact this
def moveC (c : Cr) (l : List Cr) : List Cr := dropC c.name l ++ [c]
theorem move_eq {D : Dk} {c : Cr} (nm : (namesL D.line).Nodup) (h : c.name ∈ namesL D.line) : D.move c = { D with line := moveC c D.line } := by
  obtain ⟨c0, h0, e0⟩ := List.mem_map.mp h
  show ({ D with line := lastC c.name (setC c D.line) } : Dk) = _
  rw [last_set nm h0 e0.symm]
  rfl
theorem wakeAll_cons (D : Dk) (c : Cr) (cs : List Cr) : D.wakeAll (c :: cs) = (D.move (c.as (.rdy D.now))).wakeAll cs := rfl
theorem names_wakeAll : ∀ (cs : List Cr) (D : Dk), (namesL (D.wakeAll cs).line).Perm (namesL D.line)
  | [], _ => .refl _
  | c :: r, D => (names_wakeAll r (D.move (c.as (.rdy D.now)))).trans (names_move D _)
theorem mem_wakeAll : ∀ (cs : List Cr) (D : Dk) {x : Cr}, x ∈ (D.wakeAll cs).line → (∃ c ∈ cs, x = c.as (.rdy D.now)) ∨ (x ∈ D.line ∧ ∀ c ∈ cs, x.name ≠ c.name)
  | [], _, _, h => .inr ⟨h, fun c hc => (nomatch hc)⟩
  | c :: r, D, x, h => by
    rcases mem_wakeAll r (D.move (c.as (.rdy D.now))) h with ⟨y, hy, e⟩ | ⟨h1, h2⟩
    · exact .inl ⟨y, List.mem_cons_of_mem _ hy, e⟩
    · rcases mem_move h1 with e | ⟨h3, h4⟩
      · exact .inl ⟨c, List.mem_cons_self, e⟩
      · exact .inr ⟨h3, fun z hz => by
          rcases List.mem_cons.mp hz with rfl | hz
          · exact h4
          · exact h2 z hz⟩
theorem wakeAll_pr : ∀ (cs : List Cr) (D : Dk), (D.wakeAll cs).pace = D.pace ∧ (D.wakeAll cs).room = D.room ∧ (D.wakeAll cs).now = D.now
  | [], _ => ⟨rfl, rfl, rfl⟩
  | c :: r, D => wakeAll_pr r (D.move (c.as (.rdy D.now)))
theorem len_names {l m : List Cr} (h : (namesL l).Perm (namesL m)) : l.length = m.length := by
  have := h.length_eq
  unfold namesL at this
  rw [List.length_map, List.length_map] at this
  exact this
/-! ### what holds of each desk that the laws make -/
def SoundS (now : Int) : Stt → Prop
  | .rdy s => 0 ≤ s ∧ s ≤ now
  | .slp u => now < u ∧ u ≤ now + 1000
  | .wtg b => isName b = true
structure Sound (D : Dk) : Prop where
  pr : (1 ≤ D.pace ∧ D.pace ≤ 1000) ∧ 1 ≤ D.room ∧ D.room ≤ 60
  t0 : 0 ≤ D.now
  len : (D.line.length : Int) ≤ D.room
  nm : (namesL D.line).Nodup
  ok : ∀ c ∈ D.line, isName c.name = true
  rk : ∀ c ∈ D.line, 0 ≤ c.rank ∧ c.rank ≤ 99
  st : ∀ c ∈ D.line, SoundS D.now c.st
theorem Sound.len60 {D : Dk} (x : Sound D) : D.line.length ≤ 60 := by
  have := x.len
  have := x.pr.2.2
  omega
theorem Sound.move {D : Dk} (x : Sound D) {c : Cr} {s : Stt} (hc : c ∈ D.line) (hs : SoundS D.now s) : Sound (D.move (c.as s)) := by
  refine ⟨x.pr, x.t0, ?_, (names_move D _).nodup_iff.mpr x.nm, fun y hy => ?_, fun y hy => ?_, fun y hy => ?_⟩
  · rw [len_move]
    exact x.len
  · rcases mem_move hy with rfl | h
    · exact x.ok c hc
    · exact x.ok y h.1
  · rcases mem_move hy with rfl | h
    · exact x.rk c hc
    · exact x.rk y h.1
  · rcases mem_move hy with rfl | h
    · exact hs
    · exact x.st y h.1
theorem name_in {l : List Cr} {c : Cr} (h : c ∈ l) : c.name ∈ namesL l := List.mem_map_of_mem h
/-- time goes on -/
theorem Sound.tick {D : Dk} (x : Sound D) : Sound D.tick := by
  obtain ⟨p1, p2, p3⟩ := wakeAll_pr (D.line.filter fun c => decide (c.st = .slp (D.now + 1))) { D with now := D.now + 1 }
  have np := names_wakeAll (D.line.filter fun c => decide (c.st = .slp (D.now + 1))) { D with now := D.now + 1 }
  have t0 := x.t0
  have mem : ∀ y ∈ D.tick.line, (∃ c ∈ D.line, y = c.as (.rdy (D.now + 1))) ∨ (y ∈ D.line ∧ y.st ≠ .slp (D.now + 1)) := fun y hy => by
    rcases mem_wakeAll _ _ hy with ⟨c, hc, e⟩ | ⟨h1, h2⟩
    · exact .inl ⟨c, (List.mem_filter.mp hc).1, e⟩
    · exact .inr ⟨h1, fun z => h2 y (List.mem_filter.mpr ⟨h1, decide_eq_true z⟩) rfl⟩
  refine ⟨by rw [show D.tick.pace = D.pace from p1, show D.tick.room = D.room from p2]; exact x.pr, ?_, ?_, np.nodup_iff.mpr x.nm, fun y hy => ?_, fun y hy => ?_, fun y hy => ?_⟩
  · rw [show D.tick.now = D.now + 1 from p3]
    omega
  · rw [show D.tick.room = D.room from p2, show D.tick.line.length = D.line.length from len_names np]
    exact x.len
  · rcases mem y hy with ⟨c, hc, rfl⟩ | ⟨h, _⟩
    · exact x.ok c hc
    · exact x.ok y h
  · rcases mem y hy with ⟨c, hc, rfl⟩ | ⟨h, _⟩
    · exact x.rk c hc
    · exact x.rk y h
  · rw [show D.tick.now = D.now + 1 from p3]
    rcases mem y hy with ⟨c, hc, rfl⟩ | ⟨h, hn⟩
    · exact ⟨by omega, Int.le_refl _⟩
    · have := x.st y h
      obtain ⟨n, r, s⟩ := y
      cases s with
      | rdy s => exact ⟨this.1, by have := this.2; omega⟩
      | slp u =>
        have h1 : D.now < u ∧ u ≤ D.now + 1000 := this
        refine ⟨?_, by omega⟩
        by_cases e : u = D.now + 1
        · exact absurd (by rw [e]) hn
        · omega
      | wtg b => exact this
theorem tick_now (D : Dk) : D.tick.now = D.now + 1 := (wakeAll_pr _ _).2.2
theorem tick_names (D : Dk) : (namesL D.tick.line).Perm (namesL D.line) := names_wakeAll _ _
theorem turn_names (D : Dk) : (namesL D.turn.line).Perm (namesL D.line) := by
  unfold Dk.turn
  split
  · exact tick_names D
  · exact (names_move _ _).trans (tick_names D)
theorem turn_now (D : Dk) : D.turn.now = D.now + 1 := by
  unfold Dk.turn
  split
  · exact tick_now D
  · exact tick_now D
theorem turn_pr (D : Dk) : D.turn.pace = D.pace ∧ D.turn.room = D.room := by
  have h := wakeAll_pr (D.line.filter fun c => decide (c.st = .slp (D.now + 1))) { D with now := D.now + 1 }
  unfold Dk.turn
  split
  · exact ⟨h.1, h.2.1⟩
  · exact ⟨h.1, h.2.1⟩
theorem pickD_mem {D : Dk} {c : Cr} (h : D.pick = some c) : c ∈ D.line ∧ c.st.isRdy = true := by
  unfold Dk.pick pick at h
  cases e : pickI (agedC D.pace D.now) (readies D.line) with
  | none =>
    rw [e] at h
    cases h
  | some y =>
    rw [e] at h
    cases h
    exact List.mem_filter.mp (List.mem_of_getElem? (pickI_at _ _ _ rfl (j := y.1) (x := y.2) e))
/-- who has that name behind the tick -/
theorem tick_at {D : Dk} {c : Cr} (h : c ∈ D.line) : c.name ∈ namesL D.tick.line := (tick_names D).mem_iff.mpr (name_in h)
/-- a ready one stands there behind the tick as it was -/
theorem mem_wakeAll_of : ∀ (cs : List Cr) (D : Dk) {x : Cr}, x ∈ D.line → (∀ c ∈ cs, x.name ≠ c.name) → x ∈ (D.wakeAll cs).line
  | [], _, _, h, _ => h
  | c :: r, D, x, h, n => mem_wakeAll_of r _ (mem_last.mpr (List.mem_map.mpr ⟨x, h, if_neg (n c List.mem_cons_self)⟩)) fun z hz => n z (List.mem_cons_of_mem _ hz)
theorem tick_rdy {D : Dk} (nm : (namesL D.line).Nodup) {c : Cr} (h : c ∈ D.line) (hn : c.st ≠ .slp (D.now + 1)) : c ∈ D.tick.line := by
  refine mem_wakeAll_of _ _ h fun z hz e => ?_
  obtain ⟨h1, h2⟩ := List.mem_filter.mp hz
  rw [name_one nm h h1 e] at hn
  exact hn (of_decide_eq_true h2)
theorem Sound.turn {D : Dk} (x : Sound D) : Sound D.turn := by
  unfold Dk.turn
  split
  · exact x.tick
  · rename_i c e
    obtain ⟨h1, h2⟩ := pickD_mem e
    have t0 := x.t0
    refine x.tick.move (tick_rdy x.nm h1 fun z => by rw [z] at h2; cases h2) ?_
    rw [tick_now]
    exact ⟨by omega, Int.le_refl _⟩
/-! ### deeds -/
inductive Deed : Dk → Dk → Prop where
  | refl (D : Dk) : Deed D D
  | trans {D E F : Dk} : Deed D E → Deed E F → Deed D F
  | enter (D : Dk) (n : Str) (r : Int) : isName n = true → 0 ≤ r ∧ r ≤ 99 → n ∉ namesL D.line → (D.line.length : Int) < D.room → Deed D { D with line := D.line ++ [⟨n, r, .rdy D.now⟩] }
  | leave (D : Dk) (c : Cr) : c ∈ D.line → Deed D (D.leave c.name)
  | sleep (D : Dk) (c : Cr) (m : Int) : c ∈ D.line → c.st.isRdy = true → 1 ≤ m ∧ m ≤ 1000 → Deed D (D.move (c.as (.slp (D.now + m))))
  | wait (D : Dk) (c : Cr) (b : Str) : c ∈ D.line → c.st.isRdy = true → isName b = true → Deed D (D.move (c.as (.wtg b)))
  | wake (D : Dk) (c : Cr) : c ∈ D.line → c.st.isRdy = false → Deed D (D.move (c.as (.rdy D.now)))
  | rerank (D : Dk) (c : Cr) (r : Int) : c ∈ D.line → c.st.isRdy = false → 0 ≤ r ∧ r ≤ 99 → Deed D (D.setR { c with rank := r })
theorem Deed.pr {D E : Dk} (h : Deed D E) : E.pace = D.pace ∧ E.room = D.room ∧ E.now = D.now := by
  induction h with
  | refl _ => exact ⟨rfl, rfl, rfl⟩
  | trans _ _ a b => exact ⟨b.1.trans a.1, b.2.1.trans a.2.1, b.2.2.trans a.2.2⟩
  | _ => exact ⟨rfl, rfl, rfl⟩
theorem Deed.sound {D E : Dk} (h : Deed D E) (x : Sound D) : Sound E := by
  induction h with
  | refl _ => exact x
  | trans _ _ a b => exact b (a x)
  | enter D n r hn hr nn hl =>
    refine ⟨x.pr, x.t0, ?_, ?_, fun y hy => ?_, fun y hy => ?_, fun y hy => ?_⟩
    · show ((D.line ++ [_]).length : Int) ≤ D.room
      rw [List.length_append]
      simp
      omega
    · show (namesL (D.line ++ [⟨n, r, .rdy D.now⟩])).Nodup
      unfold namesL
      rw [List.map_append]
      exact nd_snoc x.nm nn
    · rcases List.mem_append.mp hy with h | h
      · exact x.ok y h
      · rw [List.mem_singleton.mp h]
        exact hn
    · rcases List.mem_append.mp hy with h | h
      · exact x.rk y h
      · rw [List.mem_singleton.mp h]
        exact hr
    · rcases List.mem_append.mp hy with h | h
      · exact x.st y h
      · rw [List.mem_singleton.mp h]
        exact ⟨x.t0, Int.le_refl _⟩
  | leave D c hc =>
    refine ⟨x.pr, x.t0, ?_, x.nm.sublist (List.filter_sublist.map _), fun y hy => x.ok y (List.mem_filter.mp hy).1, fun y hy => x.rk y (List.mem_filter.mp hy).1, fun y hy => x.st y (List.mem_filter.mp hy).1⟩
    have h1 := List.length_filter_le (fun y : Cr => decide (y.name ≠ c.name)) D.line
    have h2 := x.len
    show ((D.line.filter fun y => decide (y.name ≠ c.name)).length : Int) ≤ D.room
    omega
  | sleep D c m hc hr hm => exact x.move hc ⟨by omega, by omega⟩
  | wait D c b hc hr hb => exact x.move hc hb
  | wake D c hc hr => exact x.move hc ⟨x.t0, Int.le_refl _⟩
  | rerank D c r hc hr hr9 =>
    refine ⟨x.pr, x.t0, ?_, ?_, fun y hy => ?_, fun y hy => ?_, fun y hy => ?_⟩
    · show ((setC _ D.line).length : Int) ≤ D.room
      rw [setC_len]
      exact x.len
    · show (namesL (setC _ D.line)).Nodup
      rw [setC_names]
      exact x.nm
    · rcases mem_setC hy with rfl | h
      · exact x.ok c hc
      · exact x.ok y h.1
    · rcases mem_setC hy with rfl | h
      · exact hr9
      · exact x.rk y h.1
    · rcases mem_setC hy with rfl | h
      · exact x.st c hc
      · exact x.st y h.1
/-- some that are not ready are made so, one behind the other -/
theorem Deed.wakes : ∀ (cs : List Cr) (D : Dk), (∀ c ∈ cs, c ∈ D.line ∧ c.st.isRdy = false) → (namesL D.line).Nodup → (namesL cs).Nodup → Deed D (D.wakeAll cs)
  | [], D, _, _, _ => .refl D
  | c :: r, D, h, nm, nc => by
    obtain ⟨h1, h2⟩ := h c List.mem_cons_self
    obtain ⟨n1, n2⟩ := List.nodup_cons.mp (show (c.name :: namesL r).Nodup from nc)
    refine .trans (.wake D c h1 h2) (Deed.wakes r (D.move (c.as (.rdy D.now))) (fun z hz => ?_) ((names_move D _).nodup_iff.mpr nm) n2)
    obtain ⟨h3, h4⟩ := h z (List.mem_cons_of_mem _ hz)
    exact ⟨mem_last.mpr (List.mem_map.mpr ⟨z, h3, if_neg fun e => n1 (by rw [show c.name = z.name from e.symm]; exact name_in hz)⟩), h4⟩
theorem Deed.ring (D : Dk) (b : Str) (nm : (namesL D.line).Nodup) : Deed D (D.ring b) :=
  Deed.wakes _ D (fun c hc => ⟨(List.mem_filter.mp hc).1, by rw [of_decide_eq_true (List.mem_filter.mp hc).2]; rfl⟩) nm (nm.sublist (List.filter_sublist.map _))
end Rr

set_option maxRecDepth 100000
set_option maxHeartbeats 4000000
/-! a line as data; names looked up in a list -/
namespace Rr
open PySem PySem.Spec PyProof.Rows L2
def Stt.markD : Stt → PyData
  | .rdy s => .int s
  | .slp u => .int u
  | .wtg b => .str b
def rowP (c : Cr) : PyData := .tuple [.str c.name, .int c.rank, .str c.st.word, c.st.markD]
theorem name_strOk {x : Str} (h : isName x = true) : PyData.strOk x = true := by
  unfold isName at h
  rw [Bool.and_eq_true] at h
  unfold PyData.strOk
  rw [← Array.all_toList]
  exact List.all_eq_true.mpr fun c hc => decide_eq_true (Nat.lt_trans (isSign_lt (List.all_eq_true.mp h.2 c hc)) (by decide))
theorem word_strOk : ∀ s : Stt, PyData.strOk s.word = true
  | .rdy _ => show PyData.strOk "ready" = true by decide +kernel
  | .slp _ => show PyData.strOk "asleep" = true by decide +kernel
  | .wtg _ => show PyData.strOk "waiting" = true by decide +kernel
theorem mark_lay {now : Int} {s : Stt} (h : SoundS now s) : s.markD.canLay0 = true ∧ s.markD.depth = 0 := by
  cases s with
  | rdy s => exact ⟨rfl, rfl⟩
  | slp s => exact ⟨rfl, rfl⟩
  | wtg b => exact ⟨name_strOk h, rfl⟩
theorem row_lay {now : Int} {c : Cr} (hn : isName c.name = true) (hs : SoundS now c.st) : (rowP c).canLay0 = true ∧ (rowP c).depth = 1 := by
  obtain ⟨h1, h2⟩ := mark_lay hs
  unfold rowP
  simp [PyData.canLay0, PyData.canLayAll0, PyData.depth, PyData.depthAll, name_strOk hn, word_strOk, h1, h2]
theorem rows_lay {now : Int} : ∀ {l : List Cr}, (∀ c ∈ l, isName c.name = true ∧ SoundS now c.st) → PyData.canLayAll0 (l.map rowP) = true ∧ PyData.depthAll (l.map rowP) ≤ 1
  | [], _ => ⟨rfl, Nat.zero_le _⟩
  | c :: r, h => by
    obtain ⟨h1, h2⟩ := row_lay (h c List.mem_cons_self).1 (h c List.mem_cons_self).2
    obtain ⟨h3, h4⟩ := rows_lay (l := r) fun z hz => h z (List.mem_cons_of_mem _ hz)
    simp only [List.map_cons, PyData.canLayAll0, PyData.depthAll, h1, h2, h3]
    exact ⟨rfl, by omega⟩
theorem rows_shaped {now : Int} {l : List Cr} (h : ∀ c ∈ l, isName c.name = true ∧ SoundS now c.st) : SeqAt.shaped (.list (l.map rowP)) = true := by
  obtain ⟨h1, h2⟩ := rows_lay h
  unfold SeqAt.shaped
  rw [Bool.and_eq_true]
  refine ⟨h1, decide_eq_true ?_⟩
  show PyData.depthAll (l.map rowP) + 1 ≤ 64
  omega
section
variable {K : PySem.W.Frag} {H : Hp} {a : Addr}
theorem mark_dp (s : Stt) : Dp K H s.markV s.markD := by
  cases s
  · exact .int _
  · exact .int _
  · exact .str _
theorem rows_dp : ∀ {ps : List (Addr × Cr)}, (∀ p ∈ ps, RowAt H p.1 p.2) → DpAll K H (ps.map fun p => V.ref p.1) ((ps.map (·.2)).map rowP)
  | [], _ => .nil
  | p :: r, h => .cons (.tup (.inl (.inl (h p List.mem_cons_self))) (.cons (.str _) (.cons (.int _) (.cons (.str _) (.cons (mark_dp _) .nil))))) (rows_dp fun z hz => h z (List.mem_cons_of_mem _ hz))
theorem LnAt.dp {l : List Cr} (x : LnAt H a l) : Dp K H (.ref a) (.list (l.map rowP)) := by
  obtain ⟨ps, rfl, h, hp⟩ := x
  exact .lst (.inl (.inl h)) (rows_dp hp)
end
theorem eqv_empty (l : List Cr) : PyData.eqv (.list (l.map rowP)) (.list []) = decide (l = []) := by
  cases l with
  | nil => rfl
  | cons c r => rfl
theorem all_str (l : List Str) : (l.map V.str).all flatV = true := by
  rw [List.all_map]
  exact List.all_eq_true.mpr fun _ _ => rfl
theorem str_beq (a b : Str) : (a == b) = decide (a = b) := by
  by_cases e : a = b
  · rw [decide_eq_true e, e]
    exact beq_self_eq_true b
  · rw [decide_eq_false e]
    exact beq_eq_false_iff_ne.mpr e
theorem inV_str (x : Str) (l : List Str) : inV (.str x) (l.map V.str) = decide (x ∈ l) := by
  unfold inV
  rw [List.any_map]
  induction l with
  | nil => rfl
  | cons y r ih =>
    rw [List.any_cons, ih]
    show ((y == x) || decide (x ∈ r)) = _
    rw [str_beq]
    by_cases e : y = x
    · rw [decide_eq_true e, e]
      simp
    · rw [decide_eq_false e, Bool.false_or]
      have : (x ∈ y :: r) ↔ x ∈ r := by simp [Ne.symm e]
      simp [this]
end Rr

set_option maxRecDepth 100000
set_option maxHeartbeats 2000000
/-! a list walked while an exception is handled -/
namespace HotX
open PySem PySem.Spec PyProof.Rows
section
variable {prog : Program} {w : World} {A : Around} {E : Value → Shared → Prop} {s : Shared}
theorem pyNext_list_end_hot {it l x1 : Addr} {i : Nat} {items : Array Value} {Q : Option Value → Shared → Prop} (hot : HotAt A x1 s.heap) (hne : x1 ≠ it)
    (hit : s.heap.IsListIter it l i) (hl : s.heap.IsList l items) (hx : items[i]? = none)
    (hQ : ∀ h', Heap.ExtBut it s.heap h' → Q none { s with heap := h' }) : wpAny (model prog w) A (pyNext (.ref it)) Q E s := by
  obtain ⟨hh, o1, vs1, h1, d1, c1⟩ := hot
  obtain ⟨o, ho, hc, hd⟩ := id hit
  obtain ⟨ol, hol, _, nl, hdl⟩ := hl
  unfold pyNext
  refine wpAny_bind (wpAny_attempt (wpAny_callSpecial?_slot (name := Str.ofString "__next__") hit.typeIs slot_listiter_next
    (wpAny_call_entry slot_listiter_next hit.typeIs entry_listiter_next ?_ (args_listiter_next _))))
  show wpAny _ _ (field (.ref it) 0 >>= _) _ _ s
  refine wpAny_bind (wpAny_field ho hd (x := .ref l) rfl ?_)
  show wpAny _ _ (if (Value.ref l == Value.none) = true then _ else _) _ _ s
  rw [if_neg (show ¬ ((Value.ref l == Value.none) = true) from Bool.false_ne_true)]
  show wpAny _ _ (field (.ref it) 1 >>= _) _ _ s
  refine wpAny_bind (wpAny_field ho hd (x := .int i 0) rfl ?_)
  show wpAny _ _ (seqItems? (.ref l) >>= _) _ _ s
  refine wpAny_bind (wpAny_seqItems hol hdl ?_)
  simp only [Int.toNat_natCast, hx]
  refine wpAny_bind (wpAny_rule (wpAny_bind (wpAny_setField ho hd (by simp) ?_)))
  show wpAny _ _ (newExc (.type "StopIteration") [] >>= _) _ _ _
  refine wpAny_bind ?_
  simp only [newExc, newTuple]
  refine wpAny_bind (wpAny_newObj_type ?_ (by size_fits))
  refine wpAny_bind (m := firstArgMember _ _) (wpAny_of_eq (a := Value.none) (by first | rfl | (simp only [firstArgMember]; rfl)) ?_)
  refine wpAny_newObj_type ?_ (by size_fits)
  have h1' := (Heap.get?_update_other s.heap (Obj.mapFields fun xs => xs.setIfInBounds 0 Value.none) hne.symm).trans h1
  refine raiseNew_hot (x1 := x1) ⟨hh, o1, vs1, Heap.get?_push_of_some _ (Heap.get?_push_of_some _ ?h1), d1, c1⟩ (Nat.ne_of_lt (Heap.lt_size (Heap.get?_push_of_some _ ?h1))) (Heap.get?_push_size _ rfl) rfl (by first | (simp; done) | (simp; omega) | (simp only [Array.size_append]; simp; omega)) ?_
  case h1 => exact h1'
  refine wpAny_bind (wpAny_isInstance (T := "StopIteration") (b := true) ⟨_, Heap.get?_update_self _ (Heap.get?_push_size _ rfl) rfl, rfl⟩ isSubtype_stop ?_)
  refine wpAny_pure (hQ _ fun b o hb e => ?_)
  have e1 := (Heap.get?_update_other s.heap (Obj.mapFields fun xs => xs.setIfInBounds 0 Value.none) (Ne.symm hb)).trans e
  rw [Heap.get?_update_other _ _ (Nat.ne_of_gt (Heap.lt_size (Heap.get?_push_of_some _ e1)))]
  exact Heap.get?_push_of_some _ (Heap.get?_push_of_some _ e1)
end
theorem walks_listHot {prog : Program} {w : World} {A : Around} {I ax x1 : Addr} {o1 : Obj} {vs1 : Array Value} (hh : A.handled = some (.ref x1)) (d1 : o1.data = .fields vs1) (c1 : vs1[2]? = some .none) (hne : ax ≠ I) (hx : x1 ≠ I) (items : Array Value) :
    Walks prog w A I [I, ax, x1] [I] items.size (fun i v => items[i]? = some v) (fun i h => h.IsListIter I ax i ∧ h.IsList ax items ∧ h.get? x1 = some o1) where
  sub := fun b hb => by simp at hb; simp [hb]
  frame := fun _ _ _ st hk => ⟨st.1.at fun o e => hk I (by simp) o e, st.2.1.at fun o e => hk ax (by simp) o e, hk x1 (by simp) o1 st.2.2⟩
  item := fun i s Q E hi st hQ => by
    refine wpAny_pyNext_list_item st.1 st.2.1 (x := items[i]) (by simp [hi]) fun h' hit' hs' => ?_
    exact hQ _ h' s.toks (by simp [hi]) ⟨hit', st.2.1.extBut hs'.extBut hne, hs'.extBut x1 o1 hx st.2.2⟩ fun b o hb e => hs'.extBut b o (fun h => hb (by simp [h])) e
  done := fun s Q E st hQ => pyNext_list_end_hot ⟨hh, o1, vs1, st.2.2, d1, c1⟩ hx st.1 st.2.1 (by simp) fun h' he' => hQ h' s.toks fun b o hb e => he' b o (fun h => hb (by simp [h])) e
  self := fun _ _ _ _ st hQ => wpAny_pyIter_listiter st.1 hQ
section
variable {prog : Program} {w : World} {A : Around} {E : Value → Shared → Prop} {s : Shared} {l x1 : Addr} {its : List Value} {ns : List Int} {Q : Value → Shared → Prop}
theorem sum_intListHot {xs : Array (Int × Tok)} (hot : HotAt A x1 s.heap) (hl : s.heap.IsList l (intItems xs))
    (h : ∀ h' tk t', (∀ b o, s.heap.get? b = some o → h'.get? b = some o) → Q (.int (preSum (numAt xs) xs.size) t') { s with heap := h', toks := tk }) :
    wpAny (model prog w) A (call (.builtin "sum") [.ref l]) Q E s := by
  obtain ⟨hh, o1, vs1, h1, d1, c1⟩ := hot
  have lx : x1 < s.heap.objs.size := Heap.lt_size h1
  refine call_sum_walkG (iter_intList hl fun s₂ e st hfp hlI => ?_)
  subst e
  refine ⟨_, _, _, _, _, _, numAt xs, rfl, walks_listHot (A := A.in1) hh d1 c1 hlI (Nat.ne_of_lt lx) (intItems xs), ⟨st.1, st.2, Heap.get?_push_of_some _ h1⟩, fun b hb => ?_, (fun _ _ => intItems_at), fun h' tk t' hk => ?_⟩
  · rcases List.mem_cons.mp hb with rfl | hb
    · exact hfp _ (by simp)
    · rcases List.mem_cons.mp hb with rfl | hb
      · exact hfp _ (by simp)
      · rw [List.mem_singleton.mp hb, Heap.size_push]
        exact Nat.lt_succ_of_lt lx
  · have := h h' tk t' (old_kept hk)
    simpa [intItems] using this
end
end HotX
namespace L2
open PySem PySem.Spec PyProof.Rows HotX
section
variable {prog : Program} {w : World} {A : Around} {E : Value → Shared → Prop} {s : Shared} {l x1 : Addr} {its : List Value} {ns : List Int} {Q : Value → Shared → Prop}
theorem sum_rawHot (hot : HotAt A x1 s.heap) (hl : s.heap.IsList l its.toArray) (hi : IntsAre its ns)
    (h : ∀ h' tk t', (∀ b o, s.heap.get? b = some o → h'.get? b = some o) → Q (.int ns.sum t') { s with heap := h', toks := tk }) : wpAny (model prog w) A (call (.builtin "sum") [.ref l]) Q E s := by
  obtain ⟨xs, e⟩ := hi.allInts.items
  have hn : numsOf (intItems xs).toList = ns := by rw [← e]; exact hi.numsOf
  rw [nums_intItems] at hn
  rw [e] at hl
  refine sum_intListHot hot hl fun h' tk t' hk => ?_
  have := h h' tk t' hk
  rw [preSum_eq, List.take_of_length_le (by simp), hn]; exact this
end
end L2

set_option maxRecDepth 100000
set_option maxHeartbeats 2000000
/-! a def that is called within an except suite, its promise knowing the exception that is handled -/
namespace L2H
open PySem PySem.Spec PyProof.Rows L2
abbrev SpP := Addr × Obj → Sp
structure FnP (P : Program) (w : World) (K : PySem.W.Frag) (mg : Str → Option Value) (base : Heap) (CX : CXT) (k : Nat) (f : Addr) (fd : FuncData) (ps : List Str) (sp : SpP) : Prop where
  len : ∀ p vs H Q E, sp p vs H Q E → vs.length = ps.length
  run : ∀ (A : Around) (outer : List Env) (s : Shared) (H : Hp) (args : Args) (us : List Value) (vs : List V) (Q : VK) (E : XK) (p : Addr × Obj), RoomH k A → Hot1 A p → PinOk outer H s p → Env0 P w K mg base A outer s H → BindsTo s fd args (ps.zip us) → Vals vs us → sp p vs H Q E →
    codeAny (model P w) A (.call (.ref f) args) (CR CX outer P w H s Q E) s
theorem fn_ofP {CX : CXT} {P : Program} {w : World} {K : PySem.W.Frag} {mg : Str → Option Value} {base : Heap} {k : Nat} {f : Addr} {name qual : Str} {params : Arguments} {body : List Stmt} {scope : Scope} {dV kV doc pm cdv ct oc : Value} {an od : Option Addr}
    {osl : Array (Option Value)} {N ps : List Str} {sp : SpP} (lk : K.lookup f = some ⟨oc, od, .func (PySem.W.fnOf name qual params body scope dV kV doc pm an cdv ct), osl⟩) (hcd : PySem.W.codeIn K cdv qual = true) (S : FnScope N ps scope)
    (len : ∀ p vs H Q E, sp p vs H Q E → vs.length = ps.length)
    (hbody : ∀ (A : Around) (outer : List Env) (s : Shared) (H : Hp) (vs : List V) (Q : VK) (E : XK) (p : Addr × Obj), Hot1 A p → RoomH k (A.deeper (envOfC qual scope s.heap.objs.size f cdv)) → sp p vs H Q E →
      ∃ t, PSs (cxH CX P w K mg base N qual scope f cdv A outer s H E p) body t ∧ t { nx := fun _ H' => Q .non H', rt := Q } (L2.start N vs) H) :
    FnP P w K mg base CX (k + 1) f (PySem.W.fnOf name qual params body scope dV kV doc pm an cdv ct) ps sp where
  len := len
  run := by
    intro A outer s H args us vs Q E p hr hot hpin e0 hb r hsp
    have KX : K.In s.heap := e0.mod.kin.keeps fun b o e => (e0.bs b o e).1
    have lim : s.heap.NoLimit := e0.mod.nolimit.keeps fun b o e => (e0.bs b o e).1
    refine codeAny_call_function hr.depth (KX _ _ lk) rfl S.co S.gen rfl (PySem.W.codeRec_of KX hcd) (hb _ _ _ _ (wpAny_newFunctionEnv_cells S.kind (fun y hy => ?_) fun env he s1 x => ?_))
    · rcases S.par y.1 (List.of_mem_zip (show (y.1, y.2) ∈ ps.zip us from hy)).1 with q | q
      · exact .inl q
      · exact .inr ⟨q, PySem.W.cellsFrom_some _ _ _ (.inl q)⟩
    subst he
    obtain ⟨t, ht, hq⟩ := hbody A outer s H vs Q E p hot (hr.deeper _) hsp
    refine ⟨lim.keeps x.toInCall.keep, codeAny_func (wpAny_mono (ht.run [] s1 (L2.start N vs) H _ (inv_startH S hpin e0 (len _ _ _ _ _ hsp) r x) hq) (fun fl s' hs => ?_) fun _ _ z => z)⟩
    cases fl with
    | ret u =>
      obtain ⟨v, σ', H', J, rv, q⟩ := hs
      exact ⟨v, H', J.os, J.bare, J.base, J.hok, rv, q⟩
    | next =>
      obtain ⟨σ', H', J, q⟩ := hs
      exact ⟨V.non, H', J.os, J.bare, J.base, J.hok, rfl, q⟩
    | brk => exact False.elim hs.choose_spec.choose_spec.2
    | cont => exact False.elim hs.choose_spec.choose_spec.2
section
variable {X : Cx} {CX : CXT} {k : Nat} {f : Addr} {fd : FuncData} {ps : List Str} {sp : SpP} {E : St → XK} {x : Str} {q pos : Pos} {e : Expr} {es : List Expr} {t : TA}
theorem run_fnP {pins : List (Addr × Obj)} {σ : St} {H : Hp} {s : Shared} {Q : VK} {us : List Value} {vs : List V} {p : Addr × Obj} (F : FnP X.prog X.w X.K X.mg X.base CX k f fd ps sp) (hr : RoomH k X.A) (hot : Hot1 X.A p) (hp : p ∈ X.pn) (hb : Binds X.K fd ps []) (hx : PassesAt CX X σ (E σ))
    (I : Inv X pins σ H s) (r : Vals vs us) (h : sp p vs H Q (E σ)) : wpAny (model X.prog X.w) X.A (call (.ref f) us) (EP X pins σ Q) X.xe s := by
  have b := hb s us I.kIn (by rw [List.append_nil, ← r.length]; exact F.len _ _ _ _ _ h)
  rw [List.append_nil] at b
  obtain ⟨g, fr, nl, nf, nc⟩ := I.pin p (List.mem_append_left _ hp)
  refine wpAny_call (codeAny_mono (F.run X.A X.stack s H ⟨us, []⟩ us vs Q (E σ) p hr hot ⟨g, fr, fun hm => (List.mem_cons.mp (I.stkSub p.1 hm)).elim nl nf, nc⟩ I.env0 b r h) fun r s' hq => ?_)
  cases r with
  | error e => exact hx pins H s e s' I hq
  | ok fl =>
    cases fl with
    | ret u => exact I.after hq
    | next => exact False.elim hq
    | brk => exact False.elim hq
    | cont => exact False.elim hq
theorem pe_callP {p : Addr × Obj} (F : FnP X.prog X.w X.K X.mg X.base CX k f fd ps sp) (hr : RoomH k X.A) (hot : Hot1 X.A p) (hp : p ∈ X.pn) (hg : Gl X x) (hm : X.mg x = some (.ref f)) (hk : PySem.W.keepIn X.K (.ref f) = true) (hb : Binds X.K fd ps []) (hx : ∀ σ, PassesAt CX X σ (E σ))
    (ha : PA X (e :: es) t) (hdb : (x == ("__debug__" : Str)) = false := by decide) (he : starEach (e :: es) X.env = (false, eval e X.env) :: starEach es X.env := by rfl) (hpl : (backTo pos (starEach es X.env)).any (·.1) = false := by rfl) :
    PE X (.Call (.Name x q) (e :: es) [] pos) (tCallS (sp p) E t) where
  run := by
    intro pins s σ H Q I h
    exact wpAny_Call_Name_kw (ld_glob I hg hm (PySem.W.callWith_K (h₀ := X.base) I.ok.mod.kin hk (thn (ha.run pos pins s σ H _ I h) fun us s1 ⟨vs, H1, I1, r, q⟩ => ⟨I1.kIn, run_fnP F hr hot hp hb (hx σ) I1 r q⟩) he hpl) hdb)
end
end L2H

set_option maxRecDepth 100000
set_option maxHeartbeats 2000000
/-! isinstance of the exception that is handled, wherever it is pinned -/
namespace L2H
open PySem PySem.Spec PyProof.Rows L2
theorem call_isP {X : Cx} {a D : Addr} {oe : Obj} (C : ExcC X.K D) (hz : Zc (.ref D) none oe) (hf : ∃ vs, oe.data = .fields vs) (hp : (a, oe) ∈ X.pn) : CallR X (.builtin "isinstance") (rIsE X.K D a) := by
  rintro pins s σ H xs us Q I r ⟨c, cv, b, rfl, hcv, e, q⟩
  obtain ⟨oc, od, oda, osl⟩ := oe
  obtain ⟨vs, hv⟩ := hf
  obtain ⟨h1, h2⟩ := hz
  dsimp only at h1 h2 hv
  subst h1 h2 hv
  have hget := (I.pin _ (List.mem_append_left _ hp)).1
  match us, r with
  | [_, _], .cons rx (.cons rt .nil) =>
    cases rx
    obtain rfl := hcv _ rt
    exact PySem.W.kia_one (PySem.W.handS_kitx_exc C.hg C.hk C.hs C.hd C.ha C.hn C.ht C.hm) I.kIn (show PySem.W.InstAt s.heap a _ D none from ⟨hget, rfl, rfl, trivial⟩) e (fun z => nomatch z) fun tk => ⟨.bl b, H, I.kept (t' := tk) fun _ _ z => z, rfl, q⟩
theorem HotAt_of {X : Cx} {pins : List (Addr × Obj)} {σ : St} {H : Hp} {s : Shared} {p : Addr × Obj} (hot : Hot1 X.A p) (hp : p ∈ X.pn) (I : Inv X pins σ H s) : HotX.HotAt X.A p.1 s.heap := by
  obtain ⟨hh, v1, e1, c1⟩ := hot
  exact ⟨hh, p.2, v1, (I.pin p (List.mem_append_left _ hp)).1, e1, c1⟩
/-- sum(xs), xs a list of ints -/
theorem call_sumP {X : Cx} {p : Addr × Obj} (hot : Hot1 X.A p) (hp : p ∈ X.pn) : CallR X (.builtin "sum") (fun xs H Q => ∃ (a : Addr) (ns : List Int), xs = [.ref a] ∧ H a = some (.lst (ns.map V.int)) ∧ Q (.int ns.sum) H) := by
  rintro pins s σ H xs us Q I r ⟨a, ns, rfl, ha, q⟩
  match us, r with
  | [_], .cons rx .nil =>
    cases rx
    obtain ⟨its, rv, pl, hz⟩ := I.list (.inl (.inl ha))
    refine sum_rawHot (HotAt_of hot hp I) pl.isList (ns := ns) (Vals.ints rv) fun h' tk t' hk => ⟨.int ns.sum, H, I.kept (t' := tk) hk, ⟨t', rfl⟩, q⟩
end L2H

set_option maxRecDepth 100000
set_option maxHeartbeats 2000000
/-! [int(x) for x in y] while an exception is handled: y a list of true and false -/
namespace L2H
open PySem PySem.Spec PyProof.Rows L2
theorem bls_at {bs : List Bool} {its : List Value} (r : Vals (bs.map V.bl) its) {i : Nat} {v : Value} (h : its[i]? = some v) : ∃ b, bs[i]? = some b ∧ v = .bool b := by
  have hl := r.length
  rw [List.length_map] at hl
  have hi : i < bs.length := by
    have := (List.getElem?_eq_some_iff.mp h).1
    omega
  obtain ⟨u, hu, ru⟩ := r.get (i := i) (x := V.bl bs[i]) (by rw [List.getElem?_map, List.getElem?_eq_getElem hi]; rfl)
  rw [h] at hu
  cases hu
  exact ⟨bs[i], List.getElem?_eq_getElem hi, ru⟩
theorem ints_of {vs ys : List Value} (h : Paired (fun v y => ∃ (b : Bool) (t : Tok), v = .bool b ∧ y = .int (if b then 1 else 0) t) vs ys) : ∀ {bs : List Bool}, vs.length = bs.length → (∀ (j : Nat) (v : Value), vs[j]? = some v → ∃ b, bs[j]? = some b ∧ v = .bool b) → Vals (bs.map fun b => V.int (if b then 1 else 0)) ys := by
  induction h with
  | nil =>
    intro bs hl _
    cases bs with
    | nil => exact .nil
    | cons _ _ => cases hl
  | cons hd _ ih =>
    intro bs hl hv
    cases bs with
    | nil => cases hl
    | cons b r =>
      obtain ⟨b1, t, e1, e2⟩ := hd
      obtain ⟨b2, e3, e4⟩ := hv 0 _ rfl
      cases e3
      rw [e1] at e4
      cases e4
      exact .cons ⟨t, e2⟩ (ih (Nat.succ.inj hl) fun j v hj => hv (j + 1) v hj)
def tInts (te : TE) : TE := fun σ H Q => te σ H fun v H1 => ∃ (a : Addr) (bs : List Bool), v = .ref a ∧ H1 a = some (.lst (bs.map V.bl)) ∧ bs.length ≤ sizeLine ∧ ∀ b, H1 b = none → Q (.ref b) (upd H1 b (.lst (bs.map fun b => V.int (if b then 1 else 0))))
theorem pe_intsP {X : Cx} {p : Addr × Obj} {iter : Expr} {te : TE} {x : Str} {p1 p2 p3 px pos : Pos} {scope : Scope} (hot : Hot1 X.A p) (hp : p ∈ X.pn) (hi : PE X iter te) (hint : X.mg "int" = none)
    (hk : scope.kind = .function) (hnm : ∀ y ∈ scope.names, scope.names.lookup y.1 = some y.2) (hnf : ∀ y ∈ scope.names, y.2 ≠ .free) (hpc : ∀ h, pushCells h scope.names = h) (hx : scope.names.lookup x = some .local)
    (hg : scope.names.lookup ("int" : Str) = some NameKind.globalImplicit) (hdb : (x == ("__debug__" : Str)) = false := by decide) (hs : ∀ x, foldedSetIterable iter X.env x = pure x := by intro _; rfl) :
    PE X (.ListComp (.Call (.Name "int" p1) [.Name x p2] [] p3) [⟨.Name x px, iter, [], 0⟩] scope pos) (tInts te) where
  run := by
    intro pins s σ H Q I h
    rw [eval_ListComp]
    refine wpAny_comprehension_free (use := none) rfl hs (closure_ok fun y hy e => absurd e (hnf y hy)) hk (fun y hy e => by rw [hnm y hy, e]) (thn (hi.run pins s σ H _ I h) fun u s1 ⟨v, H1, I1, rv, a, bs, ev, ha, hl, q⟩ => ?_)
    subst ev
    cases rv
    obtain ⟨its, rv, pl, hz⟩ := I1.list (.inl (.inl ha))
    have L1 := pl.isList
    refine wpAny_pyIter_list L1 ?_
    refine wpAny_newObj_type (newEnv_comp ?_) (by show 0 ≤ sizeLine; decide)
    obtain ⟨g1, fr1, nl1, nf1, nc1⟩ := I1.pin p (List.mem_append_left _ hp)
    obtain ⟨hh, vs1, d1, c1⟩ := hot
    have la : a < s1.heap.objs.size := by obtain ⟨o, ho, _⟩ := L1; exact Heap.lt_size ho
    have lx : p.1 < s1.heap.objs.size := Heap.lt_size g1
    rw [hpc]
    dsimp only
    generalize e1 : s1.heap.push { cls := .type "list_iterator", data := .fields #[.ref a, .int 0 0] } = h1
    have sz1 : h1.objs.size = s1.heap.objs.size + 1 := by rw [← e1]; exact Heap.size_push ..
    have gi : h1.get? s1.heap.objs.size = some { cls := .type "list_iterator", data := .fields #[.ref a, .int 0 0] } := by rw [← e1]; exact Heap.get?_push_size _ rfl
    have k1 : ∀ b o, s1.heap.get? b = some o → h1.get? b = some o := fun b o e => by rw [← e1]; exact Heap.get?_push_of_some _ e
    generalize e2 : h1.push { cls := .type "list", data := .seq ([] : List Value).toArray } = h2
    have sz2 : h2.objs.size = h1.objs.size + 1 := by rw [← e2]; exact Heap.size_push ..
    have gd : h2.get? h1.objs.size = some { cls := .type "list", data := .seq ([] : List Value).toArray } := by rw [← e2]; exact Heap.get?_push_size _ rfl
    have k2 : ∀ b o, h1.get? b = some o → h2.get? b = some o := fun b o e => by rw [← e2]; exact Heap.get?_push_of_some _ e
    generalize e3 : h2.push { cls := .type "dict", data := .dict #[] } = h3
    have gc : h3.get? h2.objs.size = some { cls := .type "dict", data := .dict #[] } := by rw [← e3]; exact Heap.get?_push_size _ rfl
    have k3 : ∀ b o, h2.get? b = some o → h3.get? b = some o := fun b o e => by rw [← e3]; exact Heap.get?_push_of_some _ e
    have k13 : ∀ b o, s1.heap.get? b = some o → h3.get? b = some o := fun b o e => k3 b o (k2 b o (k1 b o e))
    show codeAny _ _ (.compStart _ 0 (.ref s1.heap.objs.size) (.ref h1.objs.size) (compEnvC scope (cellsFrom (h2.objs.size + 1) scope.names (cloFrom X.env.cells scope.names [])) h2.objs.size X.env)) (compPost _ _ _ none _ _ h2.objs.size) { s1 with heap := h3 }
    generalize hce : compEnvC scope (cellsFrom (h2.objs.size + 1) scope.names (cloFrom X.env.cells scope.names [])) h2.objs.size X.env = cenv
    have hloc : cenv.locals = h2.objs.size := by rw [← hce]; rfl
    have hkd : cenv.scope.kind = .function := by rw [← hce]; exact hk
    have hkx : cenv.kindOf x = some .local := by rw [← hce]; exact lookup_relabel_local (env := X.env) hx
    have hki : cenv.kindOf ("int" : Str) = some .globalImplicit := by rw [← hce]; exact lookup_relS_keep (sc := X.env.scope) (by decide) hg
    have hgl : cenv.globals = X.env.globals := by rw [← hce]; rfl
    have hbl : cenv.builtins = X.env.builtins := by rw [← hce]; rfl
    have st0 : h3.IsListIter s1.heap.objs.size a 0 ∧ h3.IsList a its.toArray ∧ h3.get? p.1 = some p.2 := ⟨⟨_, k3 _ _ (k2 _ _ gi), rfl, rfl⟩, L1.at fun o e => k13 _ o e, k13 _ _ g1⟩
    have W := HotX.walks_listHot (prog := X.prog) (w := X.w) (A := X.A) hh d1 c1 (Nat.ne_of_lt la) (Nat.ne_of_lt lx) its.toArray
    have aux : ∀ {b : Nat}, b < s1.heap.objs.size → b ≠ h2.objs.size ∧ b ≠ s1.heap.objs.size ∧ b ≠ h1.objs.size := fun {b} lb => by omega
    have n12 : h1.objs.size ≠ h2.objs.size := by omega
    have n01 : h1.objs.size ≠ s1.heap.objs.size := by omega
    have n02 : h2.objs.size ≠ s1.heap.objs.size := by omega
    have le1 : s1.heap.objs.size ≤ h1.objs.size := by omega
    refine codeAny_compStart_list ?loop (wpAny_pyIter_listiter st0.1 ?loop)
    have old : ∀ {h' : Heap}, (∀ b o, b ≠ cenv.locals → b ∉ [s1.heap.objs.size] → b ≠ h1.objs.size → h3.get? b = some o → h'.get? b = some o) → ∀ b o, s1.heap.get? b = some o → h'.get? b = some o := fun {h'} hk b o e => by
      have lb := Heap.lt_size e
      exact hk b o (by rw [hloc]; exact (aux lb).1) (fun z => (aux lb).2.1 (List.mem_singleton.mp z)) (aux lb).2.2 (k13 b o e)
    refine codeAny_compLoop_walk W (fun _ => true) (fun v y => ∃ (b : Bool) (t : Tok), v = .bool b ∧ y = .int (if b then 1 else 0) t) hkx (by rw [hkd]; rfl) (by rw [hloc]; exact n12) (fun z => ?_) (fun z => ?_) st0 ⟨_, k3 _ _ gd⟩ (m := fun _ => none) ?ns (fun i v s₂ m₂ hv hns hm hkp ht => ?_) (fun i v s₂ m₂ hv _ hns hm hkp ht => ?_) (fun h' tk m' ys vs hns hil hpl hln hpv hpr hkp => ?_) (by have := hz; rw [rv.length] at this; simpa using this)
    case ns =>
      rw [hloc]
      refine ⟨_, _, _, gc, rfl, ?_, fun name => rfl⟩
      simp [StrKeys]
    · rcases List.mem_cons.mp z with z | z
      · exact n01 z
      · rcases List.mem_cons.mp z with z | z
        · exact (aux la).2.2 z.symm
        · exact (aux lx).2.2 (List.mem_singleton.mp z).symm
    · rw [hloc] at z
      rcases List.mem_cons.mp z with z | z
      · exact n02 z
      · rcases List.mem_cons.mp z with z | z
        · exact (aux la).1 z.symm
        · exact (aux lx).1 (List.mem_singleton.mp z).symm
    · rw [List.forIn_nil]
      exact wpAny_pure ⟨rfl, _, _, rfl, fun _ _ e => e⟩
    · obtain ⟨b, _, rfl⟩ := bls_at rv (by simpa using hv)
      obtain ⟨mb, b1, b2⟩ := I1.mod.blt
      refine wpAny_Call_Name_kw (Calls.Name_function_global hkd hki (Calls.loadGlobal_builtin (by rw [hgl, I1.ok.glob]; exact (I1.mod.glob.keeps I1.bk).keeps (old hkp)) hint (by rw [hbl, I1.ok.blt]; exact (b1.keeps I1.bk).keeps (old hkp)) ((b2 _ (by decide)).trans boot_int) ?_))
      refine PyProof.Rows.callWith_type1 (Calls.spliced_cons (wpAny_Name (wpAny_loadName_local hkd hkx hns hm (Calls.spliced_nil (call_int_bool ⟨⟨b, _, rfl, rfl⟩, _, _, rfl, fun _ _ e => e⟩))) hdb)) rfl rfl
    · have hl2 := rv.length
      rw [List.length_map] at hl2
      refine ⟨m', hloc ▸ hns, fun h'' sb => ⟨.ref h1.objs.size, _, I1.laid (a := h1.objs.size) (o := .lst (bs.map fun b => V.int (if b then 1 else 0))) (t' := tk) (fun b o e => ?_) le1 ⟨?_, ys.toList, ?_⟩, rfl, q _ (I1.hok.fresh le1)⟩⟩
      · have lb := Heap.lt_size e
        exact (sb.2 b (aux lb).1).trans (old hkp b o e)
      · rw [List.length_map]
        exact hl
      · obtain ⟨n, en⟩ := hpl
        rw [show vs.filter (fun _ => true) = vs from List.filter_eq_self.mpr fun _ _ => rfl] at hpr
        refine ⟨n, ints_of hpr (hln.trans (by simpa using hl2.symm)) (fun j v hj => bls_at rv (by simpa using hpv j v hj)), ?_⟩
        rw [Array.toArray_toList]
        exact (sb.2 _ n12).trans en
end L2H

set_option maxRecDepth 100000
set_option maxHeartbeats 2000000
/-! the nine errors of the desk: which class each is, for isinstance -/
namespace Rr
open PySem PySem.Spec PyProof.Rows L2
def errs9 : List Str := ["NoName", "NoRank", "NoSpan", "NoDesk", "Known", "Unknown", "Full", "NotReady", "IsReady"]
def words9 : List Str := ["name", "rank", "span", "desk", "known", "unknown", "full", "awake", "ready"]
def excCB (K : PySem.W.Frag) (D : Addr) : Bool :=
  He.eqO (PySem.W.findIn K (.ref D) "__getattribute__") (some (some (.builtin "BaseException.__getattribute__"))) && (He.eqO (PySem.W.findIn K (.ref D) "__getattr__") (some none) && (decide (PySem.W.subIn K (.ref D) (.type "BaseException") = some true) && (PySem.W.hasDictIn K D &&
  (He.eqO (PySem.W.findIn K (.ref D) "__class__") (some (some (.builtin "object.__class__"))) && (He.eqO (PySem.W.specialIn K (.builtin "object.__class__") "__get__") (some (some (.builtin "getset_descriptor.__get__"))) &&
  (decide (PySem.W.takesIn K (.builtin "object.__class__") = some true) && decide (PySem.W.mroIn K D (.type "object") = some true)))))))
theorem excCB_ok {K : PySem.W.Frag} {D : Addr} (h : excCB K D = true) : ExcC K D := by
  unfold excCB at h
  simp only [Bool.and_eq_true, decide_eq_true_eq] at h
  obtain ⟨h1, h2, h3, h4, h5, h6, h7, h8⟩ := h
  exact ⟨He.eqO_ok h1, He.eqO_ok h2, h3, h4, He.eqO_ok h5, He.eqO_ok h6, h7, h8⟩
def exOk (K : PySem.W.Frag) : Bool := errs9.all fun d => excCB K (He.ga K d) && (decide (PySem.W.kitOne K (.ref (He.ga K d)) (.type "ValueError") = some true) && errs9.all fun c => decide (PySem.W.kitOne K (.ref (He.ga K d)) (.ref (He.ga K c)) = some (decide (d = c))))
structure Ex9 (K : PySem.W.Frag) (d : Str) : Prop where
  c : ExcC K (He.ga K d)
  v : PySem.W.kitOne K (.ref (He.ga K d)) (.type "ValueError") = some true
  is : ∀ c ∈ errs9, PySem.W.kitOne K (.ref (He.ga K d)) (.ref (He.ga K c)) = some (decide (d = c))
theorem ex9 {K : PySem.W.Frag} (h : exOk K = true) : ∀ d ∈ errs9, Ex9 K d := fun d hd => by
  have h := List.all_eq_true.mp h d hd
  simp only [Bool.and_eq_true, decide_eq_true_eq] at h
  obtain ⟨h1, h2, h3⟩ := h
  exact ⟨excCB_ok h1, h2, fun c hc => of_decide_eq_true (List.all_eq_true.mp h3 c hc)⟩
end Rr

set_option maxRecDepth 100000
set_option maxHeartbeats 2000000
/-! a def that is called within an except suite, as R's Cal and okF -/
namespace Rr
open PySem PySem.Spec PyProof.Rows L2 L2H
section
variable {P : Program} {w : World} {K : PySem.W.Frag} {mg : Str → Option Value} {base : Heap}
variable (P w K mg base) in
def CalP (k : Nat) (x : Str) (sp : SpP) : Prop := ∃ (f : Addr) (fd : FuncData) (ps : List Str), FnP P w K mg base (L2N.CX P w) k f fd ps sp ∧ mg x = some (.ref f) ∧ PySem.W.keepIn K (.ref f) = true ∧ Binds K fd ps []
variable {x qual : Str} {params : Arguments} {body : List Stmt} {scope : Scope} {dvs : List V} {kws : List (Str × V)} {at_ : Str × Option Str} {fd : FuncData}
theorem okP {N ps : List Str} {k : Nat} {sp : SpP} (F : FunD K x qual params body scope dvs kws (He.fAd K at_) fd) (S : FnScope N ps scope) (len : ∀ p vs H Q E, sp p vs H Q E → vs.length = ps.length)
    (hbody : ∀ (A : Around) (outer : List Env) (s : Shared) (H : Hp) (vs : List V) (Q : VK) (E : XK) (p : Addr × Obj), Hot1 A p → RoomH k (A.deeper (envOfC qual scope s.heap.objs.size (He.fAd K at_) (.ref (He.codeOf K at_)))) → sp p vs H Q E →
      ∃ t, PSs (cxH (L2N.CX P w) P w K mg base N qual scope (He.fAd K at_) (.ref (He.codeOf K at_)) A outer s H E p) body t ∧ t { nx := fun _ H' => Q .non H', rt := Q } (L2.start N vs) H) : FnP P w K mg base (L2N.CX P w) (k + 1) (He.fAd K at_) fd ps sp := by
  obtain ⟨oc, od, dV, kV, doc, pm, an, cdv, ct, osl, rfl, lk, hcd, _, _⟩ := F.ex
  obtain ⟨c, rfl⟩ := He.codeIn_ref hcd
  obtain rfl := He.codeOf_eq lk rfl
  exact fn_ofP lk hcd S len hbody
end
section
variable {X : Cx} {k j : Nat} {x : Str} {sp : SpP} {E : L2.St → XK} {q pos : Pos} {e : Expr} {es : List Expr} {t : TA}
theorem pfP {p : Addr × Obj} (c : CalP X.prog X.w X.K X.mg X.base k x sp) (hr : RoomH j X.A) (hk : k ≤ j) (hot : Hot1 X.A p) (hp : p ∈ X.pn) (hg : Gl X x) (hx : ∀ σ, PassesAt (L2N.CX X.prog X.w) X σ (E σ)) (ha : PA X (e :: es) t)
    (hdb : (x == ("__debug__" : Str)) = false := by decide) (he : starEach (e :: es) X.env = (false, eval e X.env) :: starEach es X.env := by rfl) (hpl : (backTo pos (starEach es X.env)).any (·.1) = false := by rfl) :
    PE X (.Call (.Name x q) (e :: es) [] pos) (tCallS (sp p) E t) := by
  obtain ⟨f, fd, ps, F, hm, kp, b⟩ := c
  exact pe_callP F (hr.mono hk) hot hp hg hm kp b hx ha hdb he hpl
end
end Rr

set_option maxRecDepth 100000
set_option maxHeartbeats 2000000
/-! within an except suite: a def called that is handed what was caught -/
namespace Rr
open PySem PySem.Spec PyProof.Rows L2 L2H
section
variable {X : Cx} {k j : Nat} {x : Str} {sp : SpP} {q pos : Pos} {e : Expr} {es : List Expr} {t : TA}
/-- the reading says nothing of the object but its class -/
def tCallA (sp : SpP) (a : Addr) (cls : Value) (d : Option Addr) (t : TA) : TE := fun σ H Q => t σ H fun vs H1 => ∀ oe : Obj, Zc cls d oe → (∃ vs, oe.data = .fields vs) → sp (a, oe) vs H1 Q E0
theorem pfS {a : Addr} {oe : Obj} {cls : Value} {d : Option Addr} {pn : List (Addr × Obj)} (c : CalP X.prog X.w X.K X.mg X.base k x sp) (hr : Room j X.A) (hk : k ≤ j) (hz : L2N.Zn cls d oe) (hf : ∃ vs, oe.data = .fields vs) (hg : Gl X x)
    (ha : PA (X.suite a ((a, oe) :: pn)) (e :: es) t)
    (hdb : (x == ("__debug__" : Str)) = false := by decide) (he : starEach (e :: es) X.env = (false, eval e X.env) :: starEach es X.env := by rfl) (hpl : (backTo pos (starEach es X.env)).any (·.1) = false := by rfl) :
    PE (X.suite a ((a, oe) :: pn)) (.Call (.Name x q) (e :: es) [] pos) (tCallA sp a cls d t) := by
  obtain ⟨vs, hd⟩ := id hf
  obtain ⟨f, fd, ps, F, hm, kp, b⟩ := c
  refine ⟨fun pins s σ H Q I h => ?_⟩
  exact wpAny_Call_Name_kw (ld_glob (X := X.suite a ((a, oe) :: pn)) I hg hm (PySem.W.callWith_K (h₀ := X.base) I.ok.mod.kin kp (thn (ha.run pos pins s σ H _ I h) fun us s1 ⟨vs1, H1, I1, r, q⟩ => ⟨I1.kIn, run_fnP (X := X.suite a ((a, oe) :: pn)) (p := (a, oe)) (E := fun _ => E0) F (RoomH.mono ⟨hr.dp, hr.un⟩ hk) ⟨rfl, vs, hd, hz.2.2 vs hd⟩ List.mem_cons_self b (p0 σ) I1 r (q oe hz.zc hf)⟩) he hpl) hdb)
end
end Rr

set_option maxRecDepth 100000
set_option maxHeartbeats 4000000
/-! a text times a whole number -/
namespace Rr
open PySem PySem.Spec PyProof.Rows L2
theorem op_mul_str {X : Cx} : OpR X (binaryOp .Mult) (fun x y H Q => ∃ (z : Str) (i : Int), x = .str z ∧ y = .int i ∧ MulOk z i ∧ Q (.str (Txt.mul z i)) H) := by
  intro pins s σ H x y v u Q I rx ry h
  obtain ⟨z, i, rfl, rfl, ok, q⟩ := h
  obtain ⟨t, rfl⟩ := rx
  obtain ⟨t', rfl⟩ := ry
  exact SB.mul ok fun t'' k => ⟨.str _, H, I.tok k, ⟨t'', rfl⟩, q⟩
theorem mulOk_z : MulOk "z" 12 := by
  unfold MulOk
  decide +kernel
theorem mul_z : Txt.mul "z" 12 = SX.S (List.replicate 12 122) := by decide +kernel
theorem mulOk_b : MulOk "b" 13 := by
  unfold MulOk
  decide +kernel
theorem mul_b : Txt.mul "b" 13 = SX.S (List.replicate 13 98) := by decide +kernel
theorem mulOk_x : MulOk "x" 13 := by
  unfold MulOk
  decide +kernel
theorem mul_x : Txt.mul "x" 13 = SX.S (List.replicate 13 120) := by decide +kernel
end Rr

set_option maxRecDepth 100000
set_option maxHeartbeats 4000000
/-! rules within a comprehension, K given -/
namespace Rr
open PySem PySem.Spec PyProof.Rows L2
section
variable {X : Cx} {K : PySem.W.Frag}
theorem notIn_seqK (hK : X.K = K) : OpR X (compareOp .NotIn) (rIn K true) := by
  subst hK
  exact op_notIn_seq
theorem mt_indexK (hK : X.K = K) : MtR X "list.index" (rIndex K) := by
  subst hK
  exact mt_index
theorem pe_bmK {o e : Expr} {es : List Expr} {to : TE} {t : TA} {name : Str} {apos cpos : Pos} {T id : String} {r : V → List V → Hp → VK → Prop} (hK : X.K = K) (pa : PlainAttrs T) (slot : Slot T name id) (hty : typeOf (.builtin id) = pure (.type "method_descriptor")) (hm : MtR X id r) (ho : PE X o to) (ha : PA X (e :: es) t)
    (hbase : attributeBase o name X.env (eval o X.env) = eval o X.env := by rfl)
    (hfew : ((backTo cpos (starEach (e :: es) X.env)).all (fun x => !x.1) && (backToKw cpos (keywordEach [] X.env)).all (fun x => x.1.isSome)
      && decide ((e :: es).length + ([] : List Keyword).length + (if ([] : List Keyword).isEmpty then 0 else 1) < 30)) = true := by rfl)
    (hline : (apos.endLine == cpos.line) = true := by rfl) (hs : starEach (e :: es) X.env = (false, eval e X.env) :: starEach es X.env := by rfl) (hplain : (backTo cpos (starEach es X.env)).any (·.1) = false := by rfl) :
    PE X (.Call (.Attribute o name apos) (e :: es) [] cpos) (tBM K T r to t) := by
  subst hK
  exact pe_bm pa slot hty hm ho ha hbase hfew hline hs hplain
end
end Rr

set_option maxRecDepth 100000
set_option maxHeartbeats 4000000
/-! a class called where what its __init__ lets out is taken at these slots -/
namespace Rr
open PySem PySem.Spec PyProof.Rows L2
section
variable {X : Cx} {k j : Nat} {C f : Addr} {x : Str} {sp : Sp} {p pos : Pos} {e : Expr} {es : List Expr} {t : TA} {ps : List Str} {fd : FuncData}
theorem run_makeS {G : XK} {pins : List (Addr × Obj)} {σ : L2.St} {H : Hp} {s : Shared} {Q : VK} {us : List Value} {vs : List V} (M : Mk X.K C f) (F : FnOk X.prog X.w X.K X.mg X.base (L2N.CX X.prog X.w) k f fd ps sp) (hr : Room (k + 1) X.A) (hb : Binds X.K fd ps [])
    (hx : PassesAt (L2N.CX X.prog X.w) X σ G) (I : Inv X pins σ H s) (r : Vals vs us) (h : ∀ y dy, H y = none → H dy = none → dy ≠ y → sp (.ref y :: vs) (upd (upd H dy (.own y)) y (.ins C dy [])) (fun v H2 => v = .non ∧ Q (.ref y) H2) G) :
    wpAny (model X.prog X.w) X.A (call (.ref C) us) (EP X pins σ Q) X.xe s := by
  have h1 := h (s.heap.objs.size + 1) s.heap.objs.size (I.hok.fresh (Nat.le_add_right _ 1)) (I.hok.fresh (Nat.le_of_eq rfl)) (show s.heap.objs.size ≠ s.heap.objs.size + 1 by omega)
  have J := Inv.made (C := C) I
  have rv : Vals (V.ref (s.heap.objs.size + 1) :: vs) (Value.ref (s.heap.objs.size + 1) :: us) := .cons rfl r
  have hl : (Value.ref (s.heap.objs.size + 1) :: us).length = ps.length := (rv.length).symm.trans (F.len _ _ _ _ h1)
  have hb1 := hb _ (Value.ref (s.heap.objs.size + 1) :: us) J.kIn (by rw [List.append_nil]; exact hl)
  rw [List.append_nil] at hb1
  refine wpAny_call (make_map (f := f) I.kIn M.makes M.init (beq_iff_eq.mp M.fn) (codeAny_mono (F.run _ X.stack _ _ ⟨Value.ref (s.heap.objs.size + 1) :: us, []⟩ (Value.ref (s.heap.objs.size + 1) :: us) _ _ G (hr.make C us []) (J.env0.make C us []) hb1 rv h1) fun r1 s1 q1 => ?_))
  rcases r1 with e1 | fl
  · exact hx pins _ _ e1 s1 J q1
  rcases fl with _ | _ | _ | u
  all_goals first
    | exact False.elim q1
    | (obtain ⟨v, H1, J1, rv1, ev, q2⟩ := J.after q1
       cases ev
       exact ⟨rv1, V.ref (s.heap.objs.size + 1), H1, J1, rfl, q2⟩)
def tcCS (sp : Sp) (C : Addr) (E : L2.St → XK) (t : TA) : TE := fun σ H Q => t σ H fun vs H1 => ∀ x dx, H1 x = none → H1 dx = none → dx ≠ x → sp (.ref x :: vs) (upd (upd H1 dx (.own x)) x (.ins C dx [])) (fun v H2 => v = .non ∧ Q (.ref x) H2) (E σ)
theorem pcS (c : Mak X.prog X.w X.K X.mg X.base k x C sp) (hr : Room j X.A) (hk : k + 1 ≤ j) (hg : Gl X x) {E : L2.St → XK} (hx : ∀ σ, PassesAt (L2N.CX X.prog X.w) X σ (E σ)) (ha : PA X (e :: es) t)
    (hdb : (x == ("__debug__" : Str)) = false := by decide) (he : starEach (e :: es) X.env = (false, eval e X.env) :: starEach es X.env := by rfl) (hpl : (backTo pos (starEach es X.env)).any (·.1) = false := by rfl) :
    PE X (.Call (.Name x p) (e :: es) [] pos) (tcCS sp C E t) := by
  obtain ⟨f, fd, ps, M, F, hm, b⟩ := c
  refine ⟨fun pins s σ H Q I h => wpAny_Call_Name_kw (ld_glob I hg hm ?_ hdb)⟩
  exact PySem.W.callWith_K (h₀ := X.base) I.ok.mod.kin M.kp (thn (ha.run pos pins s σ H _ I h) fun us s1 ⟨vs, H1, I1, r, q⟩ => ⟨I1.kIn, run_makeS M F (hr.mono hk) b (hx σ) I1 r q⟩) he hpl
end
end Rr

set_option maxRecDepth 100000
set_option maxHeartbeats 4000000
/-! what a turn leaves of each caller; who sleeps until when -/
namespace Rr
open PySem PySem.Spec PyProof.Rows L2
theorem tick_mem {D : Dk} {y : Cr} (hy : y ∈ D.tick.line) : (∃ c ∈ D.line, c.st = .slp (D.now + 1) ∧ y = c.as (.rdy (D.now + 1))) ∨ (y ∈ D.line ∧ y.st ≠ .slp (D.now + 1)) := by
  rcases mem_wakeAll _ _ hy with ⟨c, hc, e⟩ | ⟨h1, h2⟩
  · exact .inl ⟨c, (List.mem_filter.mp hc).1, of_decide_eq_true (List.mem_filter.mp hc).2, e⟩
  · exact .inr ⟨h1, fun z => h2 y (List.mem_filter.mpr ⟨h1, decide_eq_true z⟩) rfl⟩
theorem turn_mem {D : Dk} {y : Cr} (hy : y ∈ D.turn.line) : (∃ c ∈ D.line, (c.st.isRdy = true ∨ c.st = .slp (D.now + 1)) ∧ y = c.as (.rdy (D.now + 1))) ∨ (y ∈ D.line ∧ y.st ≠ .slp (D.now + 1)) := by
  have key : ∀ y ∈ D.tick.line, (∃ c ∈ D.line, (c.st.isRdy = true ∨ c.st = .slp (D.now + 1)) ∧ y = c.as (.rdy (D.now + 1))) ∨ (y ∈ D.line ∧ y.st ≠ .slp (D.now + 1)) := fun y hy => by
    rcases tick_mem hy with ⟨c, h1, h2, h3⟩ | h
    · exact .inl ⟨c, h1, .inr h2, h3⟩
    · exact .inr h
  unfold Dk.turn at hy
  cases e : D.pick with
  | none =>
    rw [e] at hy
    exact key y hy
  | some p =>
    rw [e] at hy
    obtain ⟨h1, h2⟩ := pickD_mem e
    rcases mem_move hy with z | ⟨h3, _⟩
    · exact .inl ⟨p, h1, .inl h2, z⟩
    · exact key y h3
/-- each caller stands behind a turn as it stood, or is ready, as it was or became by its time to wake -/
theorem turn_st {D : Dk} (nm : (namesL D.line).Nodup) {c : Cr} (h : c ∈ D.line) : (∃ s, c.as s ∈ D.turn.line ∧ s.isRdy = true ∧ (c.st.isRdy = true ∨ c.st = .slp (D.now + 1))) ∨ (c ∈ D.turn.line ∧ c.st ≠ .slp (D.now + 1)) := by
  obtain ⟨y, hy, e⟩ := List.mem_map.mp ((turn_names D).mem_iff.mpr (name_in h))
  rcases turn_mem hy with ⟨x, hx, hs, rfl⟩ | ⟨h1, h2⟩
  · obtain rfl := name_one nm hx h e
    exact .inl ⟨_, hy, rfl, hs⟩
  · obtain rfl := name_one nm h1 h e
    exact .inr ⟨hy, h2⟩
theorem pickD_none {D : Dk} (h : D.pick = none) : readies D.line = [] := by
  unfold Dk.pick pick at h
  cases e : pickI (agedC D.pace D.now) (readies D.line) with
  | none => exact pickI_none e
  | some y =>
    rw [e] at h
    cases h
/-- the names ns stand in the line; each sleeps until us, or is ready -/
structure Rel (D : Dk) (ns : List Str) (us : List Int) : Prop where
  len : ns.length = us.length
  all : ∀ n ∈ namesL D.line, n ∈ ns
  nd : ns.Nodup
  at_ : ∀ (k : Nat) (n : Str) (u : Int), ns[k]? = some n → us[k]? = some u → ∃ c ∈ D.line, c.name = n ∧ ((D.now < u ∧ c.st = .slp u) ∨ (u ≤ D.now ∧ c.st.isRdy = true))
theorem Rel.turn {D : Dk} {ns : List Str} {us : List Int} (r : Rel D ns us) (nm : (namesL D.line).Nodup) : Rel D.turn ns us := by
  refine ⟨r.len, fun n hn => r.all n ((turn_names D).mem_iff.mp hn), r.nd, fun k n u hk hu => ?_⟩
  obtain ⟨c, hc, rfl, h⟩ := r.at_ k n u hk hu
  rw [turn_now]
  rcases turn_st nm hc with ⟨s, h1, h2, h3⟩ | ⟨h1, h2⟩
  · refine ⟨_, h1, rfl, .inr ⟨?_, h2⟩⟩
    rcases h with ⟨h4, h5⟩ | ⟨h4, h5⟩
    · rcases h3 with h3 | h3
      · rw [h5] at h3
        cases h3
      · rw [h5] at h3
        have := Stt.slp.inj h3
        omega
    · omega
  · refine ⟨c, h1, rfl, ?_⟩
    rcases h with ⟨h4, h5⟩ | ⟨h4, h5⟩
    · refine .inl ⟨?_, h5⟩
      by_cases e : u = D.now + 1
      · exact absurd (by rw [h5, e]) h2
      · omega
    · exact .inr ⟨by omega, h5⟩
def ableK (us : List Int) (now : Int) (k : Nat) : Bool := decide (us.getD k 0 ≤ now)
/-- the names of those that are to be ready -/
def ableL (ns : List Str) (us : List Int) (now : Int) (i : Nat) : List Str := ((List.range i).filter (ableK us now)).map fun k => ns.getD k Str.empty
theorem ableL_succ (ns : List Str) (us : List Int) (now : Int) (i : Nat) : ableL ns us now (i + 1) = ableL ns us now i ++ if ableK us now i then [ns.getD i Str.empty] else [] := by
  unfold ableL
  rw [List.range_succ, List.filter_append, List.map_append]
  congr 1
  rw [List.filter_cons, List.filter_nil]
  split <;> rfl
theorem ableL_len (ns : List Str) (us : List Int) (now : Int) (i : Nat) : (ableL ns us now i).length ≤ i := by
  unfold ableL
  rw [List.length_map]
  exact Nat.le_trans (List.length_filter_le _ _) (Nat.le_of_eq List.length_range)
theorem getD_of {α : Type} {l : List α} {k : Nat} {x d : α} (h : l[k]? = some x) : l.getD k d = x := by
  rw [List.getD_eq_getElem?_getD, h]
  rfl
theorem Rel.able_none {D : Dk} {ns : List Str} {us : List Int} (r : Rel D ns us) (h : D.pick = none) : ableL ns us D.now ns.length = [] := by
  have e := pickD_none h
  unfold ableL
  rw [List.filter_eq_nil_iff.mpr]
  · rfl
  · intro k hk z
    have hk := List.mem_range.mp hk
    obtain ⟨n, hn⟩ : ∃ n, ns[k]? = some n := ⟨_, List.getElem?_eq_getElem hk⟩
    obtain ⟨u, hu⟩ : ∃ u, us[k]? = some u := ⟨_, List.getElem?_eq_getElem (by rw [← r.len]; exact hk)⟩
    unfold ableK at z
    rw [getD_of hu] at z
    have z := of_decide_eq_true z
    obtain ⟨c, hc, _, h⟩ := r.at_ k n u hn hu
    rcases h with ⟨h1, _⟩ | ⟨_, h2⟩
    · omega
    · have : c ∈ readies D.line := List.mem_filter.mpr ⟨hc, h2⟩
      rw [e] at this
      cases this
theorem Rel.able_some {D : Dk} {ns : List Str} {us : List Int} (r : Rel D ns us) (nm : (namesL D.line).Nodup) {c : Cr} (h : D.pick = some c) : c.name ∈ ableL ns us D.now ns.length := by
  obtain ⟨h1, h2⟩ := pickD_mem h
  obtain ⟨k, hk, e⟩ := List.getElem_of_mem (r.all _ (name_in h1))
  have hn : ns[k]? = some c.name := by rw [List.getElem?_eq_getElem hk, e]
  obtain ⟨u, hu⟩ : ∃ u, us[k]? = some u := ⟨_, List.getElem?_eq_getElem (by rw [← r.len]; exact hk)⟩
  obtain ⟨c', hc', e', h3⟩ := r.at_ k _ u hn hu
  obtain rfl := name_one nm hc' h1 e'
  refine List.mem_map.mpr ⟨k, List.mem_filter.mpr ⟨List.mem_range.mpr hk, ?_⟩, getD_of hn⟩
  unfold ableK
  rw [getD_of hu]
  rcases h3 with ⟨_, h4⟩ | ⟨h4, _⟩
  · rw [h4] at h2
    cases h2
  · exact decide_eq_true h4
/-- the caller at k is changed -/
theorem Rel.set {D : Dk} {ns : List Str} {us : List Int} (r : Rel D ns us) (nm : (namesL D.line).Nodup) {k : Nat} {c : Cr} {u : Int} {s : Stt} (hk : ns[k]? = some c.name) (hc : c ∈ D.line) (hs : (D.now < u ∧ s = .slp u) ∨ (u ≤ D.now ∧ s.isRdy = true)) : Rel (D.move (c.as s)) ns (us.set k u) := by
  refine ⟨by rw [List.length_set]; exact r.len, fun n hn => r.all n ((names_move D _).mem_iff.mp hn), r.nd, fun j n v hj hv => ?_⟩
  have hkl : k < ns.length := (List.getElem?_eq_some_iff.mp hk).1
  have e0 : c.as s ∈ (D.move (c.as s)).line := mem_last.mpr (List.mem_map.mpr ⟨c, hc, if_pos rfl⟩)
  by_cases e : j = k
  · subst e
    rw [hk] at hj
    obtain rfl := Option.some.inj hj
    rw [List.getElem?_set_self (by rw [← r.len]; exact hkl)] at hv
    obtain rfl := Option.some.inj hv
    exact ⟨_, e0, rfl, hs⟩
  · rw [List.getElem?_set_ne (fun z => e z.symm)] at hv
    obtain ⟨x, hx, rfl, h⟩ := r.at_ j n v hj hv
    refine ⟨x, mem_last.mpr (List.mem_map.mpr ⟨x, hx, if_neg fun z => e ?_⟩), rfl, h⟩
    have z : x.name = c.name := z
    have h1 := (List.getElem?_eq_some_iff.mp hj)
    have h2 := (List.getElem?_eq_some_iff.mp hk)
    obtain ⟨l1, g1⟩ := h1
    obtain ⟨l2, g2⟩ := h2
    rcases Nat.lt_trichotomy j k with w | w | w
    · exact absurd (g1.trans (z.trans g2.symm)) (List.pairwise_iff_getElem.mp r.nd _ _ l1 l2 w)
    · exact w
    · exact absurd (g2.trans (z.symm.trans g1.symm)) (List.pairwise_iff_getElem.mp r.nd _ _ l2 l1 w)
/-- a text of many signs z is no name of the first twenty -/
theorem not_zz {k c : Int} (h0 : 0 ≤ k) (h1 : k < 29) (l : List Nat) (hl : l.length = 12) (hz : ∀ x ∈ l, x = 122) : nameL k c ≠ l := by
  intro e
  rw [← e] at hl hz
  clear e l
  have inj : ∀ {i j : Int}, sgn c (i % manyL c) = 122 → sgn c (j % manyL c) = 122 → manyL c = 36 ∧ i % 36 = j % 36 := fun {i j} hi hj => by
    have m0 : 0 < manyL c := by rcases manyL_c c with e | e <;> omega
    have e := sgn_inj (c := c) ⟨Int.emod_nonneg i (by omega), Int.emod_lt_of_pos i m0⟩ ⟨Int.emod_nonneg j (by omega), Int.emod_lt_of_pos j m0⟩ (hi.trans hj.symm)
    rcases manyL_c c with e2 | e2
    · exfalso
      unfold manyL at e2
      have e3 : mix c 10259 5 = 0 := by
        by_cases z : mix c 10259 5 = 0
        · exact z
        · rw [if_neg z] at e2
          exact absurd e2 (by decide)
      unfold sgn someL at hi
      rw [if_pos e3, List.getD_eq_getElem?_getD] at hi
      have hF : ∀ z ∈ FIGL, z ≠ 122 := by decide +kernel
      cases q : FIGL[(i % manyL c).toNat]? with
      | none =>
        rw [q] at hi
        exact absurd hi (by decide)
      | some z =>
        rw [q] at hi
        exact hF z (List.mem_of_getElem? q) hi
    · rw [e2] at e
      exact ⟨e2, e⟩
  have p2 : (pairL k c).length = 2 := rfl
  unfold nameL at hl hz
  split at hl
  · rename_i q
    rw [if_pos q] at hz
    have hb := base_len c
    have ha := at_ok c
    rw [List.length_append, List.length_append, List.length_take, List.length_drop, p2] at hl
    have h12 : (baseL c).length = 12 := by omega
    have hget : ∀ j : Nat, j < (2 + mix c 10313 11).toNat → (j < atN c ∨ atN c + 2 ≤ j) → sgn c ((c / 72 + 7 * (0 + (j : Int))) % manyL c) = 122 := fun j hj hja => by
      have e1 : (baseL c)[j]? = some (sgn c ((c / 72 + 7 * (0 + (j : Int))) % manyL c)) := by
        unfold baseL
        rw [List.getElem?_map, List.getElem?_range hj]
        rfl
      refine hz _ ?_
      rcases hja with h | h
      · refine List.mem_append_left _ (List.mem_append_left _ ?_)
        refine List.mem_of_getElem? (i := j) ?_
        rw [List.getElem?_take, if_pos h]
        exact e1
      · refine List.mem_append_right _ ?_
        refine List.mem_of_getElem? (i := j - (atN c + 2)) ?_
        rw [List.getElem?_drop, show atN c + 2 + (j - (atN c + 2)) = j by omega]
        exact e1
    by_cases h2 : 2 ≤ atN c
    · have := inj (hget 0 (by omega) (by omega)) (hget 1 (by omega) (by omega))
      omega
    · have := inj (hget 3 (by omega) (by omega)) (hget 4 (by omega) (by omega))
      omega
  · rename_i q
    rw [if_neg q] at hz
    split at hl
    · exact absurd hl (by simp)
    · rename_i q2
      rw [if_neg q2] at hz
      have hlong : (longL k c).length = 12 ∧ ∀ x ∈ longL k c, x = 122 := by
        split at hl
        · rename_i q3
          rw [if_pos q3] at hz
          rw [List.length_reverse] at hl
          exact ⟨hl, fun x hx => hz x (List.mem_reverse.mpr hx)⟩
        · rename_i q3
          rw [if_neg q3] at hz
          exact ⟨hl, hz⟩
      obtain ⟨g1, g2⟩ := hlong
      have g3 : (moreL k c (mix (c + k) 10007 11).toNat).length = 10 := by
        unfold longL at g1
        rw [List.length_append, p2] at g1
        omega
      have hm : (mix (c + k) 10007 11).toNat = 10 := by
        unfold moreL at g3
        rw [List.length_map, List.length_range] at g3
        exact g3
      have hget : ∀ j : Nat, j < 10 → sgn c ((c / 72 + 7 * (0 + (j : Int)) + k * (0 + (j : Int))) % manyL c) = 122 := fun j hj => by
        refine g2 _ (List.mem_append_right _ (List.mem_of_getElem? (i := j) ?_))
        unfold moreL
        rw [hm, List.getElem?_map, List.getElem?_range hj]
        rfl
      have := inj (hget 0 (by omega)) (hget 1 (by omega))
      simp at this
      omega
theorem zz_no {k c : Int} (h0 : 0 ≤ k) (h1 : k < 29) : nameBy k c ≠ SX.S (List.replicate 12 122) := fun e => not_zz h0 h1 (List.replicate 12 122) List.length_replicate (fun x hx => List.eq_of_mem_replicate hx) (SX.S_inj e)
end Rr

set_option maxRecDepth 100000
set_option maxHeartbeats 4000000
/-! who waits for which bell, beside the desk -/
namespace Rr
open PySem PySem.Spec PyProof.Rows L2
theorem empty_noname : isName "" = false := by decide +kernel
/-- the names ns stand in the line: ready (no bell), or waiting for bs; of ranks rs -/
structure Rel7 (D : Dk) (ns bs : List Str) (rs : List Int) : Prop where
  lb : ns.length = bs.length
  lr : ns.length = rs.length
  all : ∀ n ∈ namesL D.line, n ∈ ns
  nd : ns.Nodup
  at_ : ∀ (k : Nat) (n b : Str) (r : Int), ns[k]? = some n → bs[k]? = some b → rs[k]? = some r → ∃ c ∈ D.line, c.name = n ∧ c.rank = r ∧ ((b = "" ∧ c.st.isRdy = true) ∨ (isName b = true ∧ c.st = .wtg b))
theorem Rel7.get {D : Dk} {ns bs : List Str} {rs : List Int} (x : Rel7 D ns bs rs) {k : Nat} (h : k < ns.length) : ∃ c b, c ∈ D.line ∧ ns[k]? = some c.name ∧ bs[k]? = some b ∧ rs[k]? = some c.rank ∧ ((b = "" ∧ c.st.isRdy = true) ∨ (isName b = true ∧ c.st = .wtg b)) := by
  obtain ⟨n, hn⟩ : ∃ n, ns[k]? = some n := ⟨_, List.getElem?_eq_getElem h⟩
  obtain ⟨b, hb⟩ : ∃ b, bs[k]? = some b := ⟨_, List.getElem?_eq_getElem (by rw [← x.lb]; exact h)⟩
  obtain ⟨r, hr⟩ : ∃ r, rs[k]? = some r := ⟨_, List.getElem?_eq_getElem (by rw [← x.lr]; exact h)⟩
  obtain ⟨c, hc, rfl, rfl, q⟩ := x.at_ k n b r hn hb hr
  exact ⟨c, b, hc, hn, hb, hr, q⟩
theorem Rel7.find {D : Dk} {ns bs : List Str} {rs : List Int} (x : Rel7 D ns bs rs) (nm : (namesL D.line).Nodup) {c : Cr} (h : c ∈ D.line) : ∃ (k : Nat) (b : Str), ns[k]? = some c.name ∧ bs[k]? = some b ∧ rs[k]? = some c.rank ∧ ((b = "" ∧ c.st.isRdy = true) ∨ (isName b = true ∧ c.st = .wtg b)) := by
  obtain ⟨k, hk, e⟩ := List.getElem_of_mem (x.all _ (name_in h))
  obtain ⟨c', b, hc', hn, hb, hr, q⟩ := x.get hk
  have e2 : c'.name = c.name := by
    rw [List.getElem?_eq_getElem hk, e] at hn
    exact (Option.some.inj hn).symm
  obtain rfl := name_one nm hc' h e2
  exact ⟨k, b, hn, hb, hr, q⟩
theorem Rel7.turn {D : Dk} {ns bs : List Str} {rs : List Int} (x : Rel7 D ns bs rs) (nm : (namesL D.line).Nodup) : Rel7 D.turn ns bs rs := by
  refine ⟨x.lb, x.lr, fun n hn => x.all n ((turn_names D).mem_iff.mp hn), x.nd, fun k n b r hk hb hr => ?_⟩
  obtain ⟨c, hc, rfl, rfl, h⟩ := x.at_ k n b r hk hb hr
  rcases turn_st nm hc with ⟨s, h1, h2, h3⟩ | ⟨h1, h2⟩
  · refine ⟨_, h1, rfl, rfl, .inl ⟨?_, h2⟩⟩
    rcases h with ⟨h4, _⟩ | ⟨_, h5⟩
    · exact h4
    · rcases h3 with h3 | h3
      · rw [h5] at h3
        cases h3
      · rw [h5] at h3
        cases h3
  · exact ⟨c, h1, rfl, rfl, h⟩
theorem Rel7.after {D : Dk} {ns bs : List Str} {rs : List Int} (x : Rel7 D ns bs rs) (f : Nat → Dk) (h0 : f 0 = D) (hs : ∀ n, f (n + 1) = (f n).turn) (nm : ∀ n, (namesL (f n).line).Nodup) : ∀ n, Rel7 (f n) ns bs rs
  | 0 => by rw [h0]; exact x
  | n + 1 => by rw [hs]; exact (x.after f h0 hs nm n).turn (nm n)
theorem nd_at {α : Type} {l : List α} (nd : l.Nodup) {j k : Nat} {x : α} (hj : l[j]? = some x) (hk : l[k]? = some x) : j = k := by
  obtain ⟨l1, g1⟩ := List.getElem?_eq_some_iff.mp hj
  obtain ⟨l2, g2⟩ := List.getElem?_eq_some_iff.mp hk
  rcases Nat.lt_trichotomy j k with w | w | w
  · exact absurd (g1.trans g2.symm) (List.pairwise_iff_getElem.mp nd _ _ l1 l2 w)
  · exact w
  · exact absurd (g2.trans g1.symm) (List.pairwise_iff_getElem.mp nd _ _ l2 l1 w)
/-- the caller at k waits -/
theorem Rel7.wait {D : Dk} {ns bs : List Str} {rs : List Int} (x : Rel7 D ns bs rs) (nm : (namesL D.line).Nodup) {k : Nat} {c : Cr} {b : Str} (hk : ns[k]? = some c.name) (hc : c ∈ D.line) (hb : isName b = true) : Rel7 (D.move (c.as (.wtg b))) ns (bs.set k b) rs := by
  refine ⟨by rw [List.length_set]; exact x.lb, x.lr, fun n hn => x.all n ((names_move D _).mem_iff.mp hn), x.nd, fun j n v r hj hv hr => ?_⟩
  have hkl : k < ns.length := (List.getElem?_eq_some_iff.mp hk).1
  have e0 : c.as (.wtg b) ∈ (D.move (c.as (.wtg b))).line := mem_last.mpr (List.mem_map.mpr ⟨c, hc, if_pos rfl⟩)
  by_cases e : j = k
  · subst e
    obtain ⟨c', b', hc', h1, h2, h3, _⟩ := x.get hkl
    rw [hk] at h1
    obtain rfl := name_one nm hc hc' (Option.some.inj h1)
    rw [hk] at hj
    obtain rfl := Option.some.inj hj
    rw [h3] at hr
    obtain rfl := Option.some.inj hr
    rw [List.getElem?_set_self (by rw [← x.lb]; exact hkl)] at hv
    obtain rfl := Option.some.inj hv
    exact ⟨_, e0, rfl, rfl, .inr ⟨hb, rfl⟩⟩
  · rw [List.getElem?_set_ne (fun z => e z.symm)] at hv
    obtain ⟨y, hy, rfl, rfl, h⟩ := x.at_ j n v r hj hv hr
    exact ⟨y, mem_last.mpr (List.mem_map.mpr ⟨y, hy, if_neg fun z => e (nd_at x.nd hj (by rw [hk, show y.name = c.name from z]))⟩), rfl, rfl, h⟩
/-- the caller at k gets another rank -/
theorem Rel7.rank {D : Dk} {ns bs : List Str} {rs : List Int} (x : Rel7 D ns bs rs) (nm : (namesL D.line).Nodup) {k : Nat} {c : Cr} {r0 : Int} (hk : ns[k]? = some c.name) (hc : c ∈ D.line) : Rel7 (D.setR { c with rank := r0 }) ns bs (rs.set k r0) := by
  have hn : namesL (D.setR { c with rank := r0 }).line = namesL D.line := setC_names _ _
  refine ⟨x.lb, by rw [List.length_set]; exact x.lr, fun n h => x.all n (by rw [← hn]; exact h), x.nd, fun j n v r hj hv hr => ?_⟩
  have hkl : k < ns.length := (List.getElem?_eq_some_iff.mp hk).1
  have e0 : ({ c with rank := r0 } : Cr) ∈ (D.setR { c with rank := r0 }).line := List.mem_map.mpr ⟨c, hc, if_pos rfl⟩
  by_cases e : j = k
  · subst e
    obtain ⟨c', b', hc', h1, h2, h3, h4⟩ := x.get hkl
    rw [hk] at h1
    obtain rfl := name_one nm hc hc' (Option.some.inj h1)
    rw [hk] at hj
    obtain rfl := Option.some.inj hj
    rw [h2] at hv
    obtain rfl := Option.some.inj hv
    rw [List.getElem?_set_self (by rw [← x.lr]; exact hkl)] at hr
    obtain rfl := Option.some.inj hr
    exact ⟨_, e0, rfl, rfl, h4⟩
  · rw [List.getElem?_set_ne (fun z => e z.symm)] at hr
    obtain ⟨y, hy, rfl, rfl, h⟩ := x.at_ j n v r hj hv hr
    exact ⟨y, List.mem_map.mpr ⟨y, hy, if_neg fun z => e (nd_at x.nd hj (by rw [hk, show y.name = c.name from z]))⟩, rfl, rfl, h⟩
def waitersC (D : Dk) (b : Str) : List Cr := D.line.filter fun c => decide (c.st = .wtg b)
/-- b0 has rung -/
def unb (b0 b : Str) : Str := if b = b0 then Str.empty else b
/-- a bell rings -/
theorem Rel7.ring {D : Dk} {ns bs : List Str} {rs : List Int} (x : Rel7 D ns bs rs) (nm : (namesL D.line).Nodup) {b0 : Str} (hb0 : isName b0 = true) : Rel7 (D.ring b0) ns (bs.map (unb b0)) rs := by
  have np := names_wakeAll (waitersC D b0) D
  refine ⟨by rw [List.length_map]; exact x.lb, x.lr, fun n hn => x.all n (np.mem_iff.mp hn), x.nd, fun k n v r hk hv hr => ?_⟩
  rw [List.getElem?_map] at hv
  cases hb : bs[k]? with
  | none =>
    rw [hb] at hv
    cases hv
  | some b =>
    rw [hb] at hv
    have hv : (if b = b0 then Str.empty else b) = v := Option.some.inj hv
    obtain ⟨c, hc, rfl, rfl, h⟩ := x.at_ k n b r hk hb hr
    by_cases e : c.st = .wtg b0
    · have eb : b = b0 := by
        rcases h with ⟨_, h⟩ | ⟨_, h⟩
        · rw [e] at h
          cases h
        · rw [e] at h
          exact (Stt.wtg.inj h).symm
      rw [if_pos eb] at hv
      have hcs : c ∈ waitersC D b0 := List.mem_filter.mpr ⟨hc, decide_eq_true e⟩
      obtain ⟨y, hy, en⟩ := List.mem_map.mp (np.mem_iff.mpr (name_in hc))
      rcases mem_wakeAll _ _ hy with ⟨z, hz, rfl⟩ | ⟨_, h2⟩
      · obtain rfl := name_one nm (List.mem_filter.mp hz).1 hc en
        exact ⟨_, hy, rfl, rfl, .inl ⟨hv.symm, rfl⟩⟩
      · exact absurd en (h2 c hcs)
    · refine ⟨c, mem_wakeAll_of _ _ hc fun z hz en => ?_, rfl, rfl, ?_⟩
      · obtain ⟨h1, h2⟩ := List.mem_filter.mp hz
        rw [name_one nm hc h1 en] at e
        exact e (of_decide_eq_true h2)
      · have nb : b ≠ b0 := fun z => by
          rcases h with ⟨h1, _⟩ | ⟨_, h1⟩
          · rw [z] at h1
            rw [h1] at hb0
            rw [empty_noname] at hb0
            cases hb0
          · rw [z] at h1
            exact e h1
        rw [if_neg nb] at hv
        rw [← hv]
        exact h
/-- the names behind some having gone to the end -/
theorem names_moved {D : Dk} (nm : (namesL D.line).Nodup) {c : Cr} (h : c.name ∈ namesL D.line) : namesL (D.move c).line = ((namesL D.line).filter fun n => decide (n ≠ c.name)) ++ [c.name] := by
  rw [move_eq nm h]
  unfold namesL moveC dropC
  rw [List.map_append, List.filter_map]
  rfl
theorem wake_names : ∀ (cs : List Cr) (D : Dk), (namesL D.line).Nodup → (∀ c ∈ cs, c.name ∈ namesL D.line) → (namesL cs).Nodup → namesL (D.wakeAll cs).line = ((namesL D.line).filter fun n => decide (n ∉ namesL cs)) ++ namesL cs
  | [], D, _, _, _ => by
    have e : (fun n => decide (n ∉ namesL [])) = fun _ : Str => true := funext fun n => decide_eq_true (by unfold namesL; simp)
    rw [e, List.filter_eq_self.mpr fun _ _ => rfl]
    unfold namesL
    simp
    rfl
  | c :: r, D, nm, h, nc => by
    obtain ⟨n1, n2⟩ := List.nodup_cons.mp (show (c.name :: namesL r).Nodup from nc)
    have np := names_move D (c.as (.rdy D.now))
    have ih := wake_names r (D.move (c.as (.rdy D.now))) (np.nodup_iff.mpr nm) (fun z hz => np.mem_iff.mpr (h z (List.mem_cons_of_mem _ hz))) n2
    rw [wakeAll_cons, ih, names_moved (c := c.as (.rdy D.now)) nm (h c List.mem_cons_self), List.filter_append, List.filter_filter]
    have e1 : ([(c.as (.rdy D.now)).name].filter fun n => decide (n ∉ namesL r)) = [c.name] := by
      rw [List.filter_cons, List.filter_nil, if_pos (show decide ((c.as (.rdy D.now)).name ∉ namesL r) = true from decide_eq_true n1)]
      rfl
    have e2 : ((namesL D.line).filter fun a => decide (a ∉ namesL r) && decide (a ≠ (c.as (.rdy D.now)).name)) = (namesL D.line).filter fun n => decide (n ∉ namesL (c :: r)) := by
      refine List.filter_congr fun a _ => ?_
      have e3 : namesL (c :: r) = c.name :: namesL r := rfl
      rw [e3]
      by_cases q1 : a = c.name
      · simp [q1]
        intro _
        rfl
      · have q2 : (a ∉ c.name :: namesL r) ↔ a ∉ namesL r := by simp [q1]
        rw [decide_eq_true (show a ≠ (c.as (.rdy D.now)).name from q1), Bool.and_true]
        simp [q1]
    rw [e1, e2, List.append_assoc]
    rfl
theorem ring_names {D : Dk} (nm : (namesL D.line).Nodup) (b : Str) : namesL (D.ring b).line = ((namesL D.line).filter fun n => decide (n ∉ namesL (waitersC D b))) ++ namesL (waitersC D b) :=
  wake_names _ D nm (fun c hc => name_in (List.mem_filter.mp hc).1) (nm.sublist (List.filter_sublist.map _))
end Rr

set_option maxRecDepth 100000
set_option maxHeartbeats 4000000
/-! a line of names and ranks, at time nought -/
namespace Rr
open PySem PySem.Spec PyProof.Rows L2
abbrev Ent := Str × Int
def entC (x : Ent) : Cr := ⟨x.1, x.2, .rdy 0⟩
def namesE (l : List Ent) : List Str := l.map (·.1)
def EnAt (H : Hp) (a : Addr) (l : List Ent) : Prop := ∃ ps : List (Addr × Ent), l = ps.map (·.2) ∧ H a = some (.lst (ps.map fun p => V.ref p.1)) ∧ ∀ p ∈ ps, H p.1 = some (.tup [.str p.2.1, .int p.2.2])
theorem EnAt.keep {S : List Addr} {H H' : Hp} {a : Addr} {l : List Ent} (x : EnAt H a l) (k : Keep S H H') (n : ∀ b o, H b = some o → (∃ xs, o = .lst xs) ∨ (∃ xs, o = .tup xs) → b ∉ S) : EnAt H' a l := by
  obtain ⟨ps, rfl, h, hr⟩ := x
  exact ⟨ps, rfl, k.lst h (n _ _ h (.inl ⟨_, rfl⟩)), fun p hp => k.tup (hr p hp) (n _ _ (hr p hp) (.inr ⟨_, rfl⟩))⟩
theorem EnAt.keep0 {H H' : Hp} {a : Addr} {l : List Ent} (x : EnAt H a l) (k : Keep [] H H') : EnAt H' a l := x.keep k fun _ _ _ _ => List.not_mem_nil
theorem EnAt.keepD {K : PySem.W.Frag} {S : List Addr} {H H' : Hp} {a d : Addr} {l : List Ent} {D : Dk} (x : EnAt H a l) (hD : DkAt K H S d D) (k : Keep S H H') : EnAt H' a l := x.keep k fun b o h q => by
  rcases q with ⟨xs, rfl⟩ | ⟨xs, rfl⟩
  · exact hD.lst h
  · exact hD.tup h
theorem namesE_C (l : List Ent) : namesL (l.map entC) = namesE l := by
  unfold namesL namesE
  rw [List.map_map]
  rfl
theorem namesE_len (l : List Ent) : (namesE l).length = l.length := List.length_map ..
theorem namesE_take {ps : List (Addr × Ent)} {i : Nat} {p : Addr × Ent} (h : ps[i]? = some p) : namesE ((ps.take (i + 1)).map (·.2)) = namesE ((ps.take i).map (·.2)) ++ [p.2.1] := by
  rw [List.take_add_one, h]
  unfold namesE
  simp
/-- one leaves -/
theorem erase_drop : ∀ {l : List Ent} {k : Nat} {n : Str}, (namesE l).Nodup → (namesE l)[k]? = some n → dropC n (l.map entC) = (l.eraseIdx k).map entC
  | [], k, n, _, h => nomatch h
  | x :: r, 0, n, nd, h => by
    obtain ⟨n1, _⟩ := List.nodup_cons.mp (show (x.1 :: namesE r).Nodup from nd)
    have e : x.1 = n := Option.some.inj h
    show dropC n (entC x :: r.map entC) = r.map entC
    unfold dropC
    rw [List.filter_cons, if_neg (by show ¬ decide ((entC x).name ≠ n) = true; simp [entC, e])]
    refine List.filter_eq_self.mpr fun c hc => decide_eq_true fun z => n1 ?_
    rw [e, ← z, ← namesE_C]
    exact List.mem_map_of_mem hc
  | x :: r, k + 1, n, nd, h => by
    obtain ⟨n1, n2⟩ := List.nodup_cons.mp (show (x.1 :: namesE r).Nodup from nd)
    have h2 : (namesE r)[k]? = some n := h
    have ne : x.1 ≠ n := fun z => n1 (by rw [z]; exact List.mem_of_getElem? h2)
    have ih := erase_drop n2 h2
    show dropC n (entC x :: r.map entC) = entC x :: (r.eraseIdx k).map entC
    unfold dropC at ih ⊢
    rw [List.filter_cons, if_pos (show decide ((entC x).name ≠ n) = true from decide_eq_true ne), ih]
/-! as data -/
def entP (x : Ent) : PyData := .tuple [.str x.1, .int x.2]
theorem ents_lay : ∀ {l : List Ent}, (∀ x ∈ l, isName x.1 = true) → PyData.canLayAll0 (l.map entP) = true ∧ PyData.depthAll (l.map entP) ≤ 1
  | [], _ => ⟨rfl, Nat.zero_le _⟩
  | x :: r, h => by
    have h1 := name_strOk (h x List.mem_cons_self)
    obtain ⟨h3, h4⟩ := ents_lay (l := r) fun z hz => h z (List.mem_cons_of_mem _ hz)
    have e : (entP x).canLay0 = true ∧ (entP x).depth = 1 := by
      unfold entP
      simp [PyData.canLay0, PyData.canLayAll0, PyData.depth, PyData.depthAll, h1]
    simp only [List.map_cons, PyData.canLayAll0, PyData.depthAll, e.1, e.2, h3]
    exact ⟨rfl, by omega⟩
theorem ents_shaped {l : List Ent} (h : ∀ x ∈ l, isName x.1 = true) : SeqAt.shaped (.list (l.map entP)) = true := by
  obtain ⟨h1, h2⟩ := ents_lay h
  unfold SeqAt.shaped
  rw [Bool.and_eq_true]
  refine ⟨h1, decide_eq_true ?_⟩
  show PyData.depthAll (l.map entP) + 1 ≤ 64
  omega
theorem ents_dp {K : PySem.W.Frag} {H : Hp} : ∀ {ps : List (Addr × Ent)}, (∀ p ∈ ps, H p.1 = some (.tup [.str p.2.1, .int p.2.2])) → DpAll K H (ps.map fun p => V.ref p.1) ((ps.map (·.2)).map entP)
  | [], _ => .nil
  | p :: r, h => .cons (.tup (.inl (.inl (h p List.mem_cons_self))) (.cons (.str _) (.cons (.int _) .nil))) (ents_dp fun z hz => h z (List.mem_cons_of_mem _ hz))
theorem EnAt.dp {K : PySem.W.Frag} {H : Hp} {a : Addr} {l : List Ent} (x : EnAt H a l) : Dp K H (.ref a) (.list (l.map entP)) := by
  obtain ⟨ps, rfl, h, hp⟩ := x
  exact .lst (.inl (.inl h)) (ents_dp hp)
theorem ents_empty (l : List Ent) : PyData.eqv (.list (l.map entP)) (.list []) = decide (l = []) := by
  cases l with
  | nil => rfl
  | cons c r => rfl
/-- the last sign of a text -/
theorem cut_end {l : List Nat} (h : 1 ≤ l.length) : cutS (SX.S l) (some (-1)) none = SX.S (l.drop (l.length - 1)) := by
  have hs : HT.sIx (SX.S l).length 0 (some (-1)) = l.length - 1 := by
    rw [SX.S_len]
    unfold HT.sIx
    simp
    omega
  refine TL.ext_tl ?_
  show (l.drop (HT.sIx _ 0 (some (-1)))).take ((SX.S l).length - HT.sIx _ 0 (some (-1))) = l.drop (l.length - 1)
  rw [hs, SX.S_len, List.take_of_length_le (by rw [List.length_drop]; exact Nat.le_refl _)]
theorem cut_name {x : Str} (h : isName x = true) : isName (cutS x (some (-1)) none) = true := by
  have hl := isName_len h
  have e : x = SX.S x.cps.toList := (SX.S_tl x).symm
  have hl2 : 1 ≤ x.cps.toList.length := hl.1
  have hl3 : x.cps.toList.length ≤ 12 := hl.2
  unfold isName at h
  rw [Bool.and_eq_true] at h
  rw [e, cut_end hl2]
  unfold isName
  rw [Bool.and_eq_true]
  refine ⟨decide_eq_true ?_, List.all_eq_true.mpr fun c hc => List.all_eq_true.mp h.2 c (List.mem_of_mem_drop hc)⟩
  rw [SX.S_len, List.length_drop]
  omega
theorem dash_no {b : Str} : isName (b ++ "-") = false := by
  have e : (b ++ "-" : Str).cps.toList = b.cps.toList ++ [45] := TL.tl_append b "-"
  unfold isName
  rw [e, List.all_append]
  have : [45].all isSign = false := by decide +kernel
  rw [this, Bool.and_false, Bool.and_false]
theorem dash_small {b : Str} (h : isName b = true) : Small (b ++ "-") := by
  refine ⟨?_, fun c hc => ?_⟩
  · rw [Str.length_append]
    have := (isName_len h).2
    have e : ("-" : Str).length = 1 := by decide +kernel
    omega
  have e : (b ++ "-" : Str).cps.toList = b.cps.toList ++ [45] := TL.tl_append b "-"
  rw [e] at hc
  rcases List.mem_append.mp hc with h1 | h1
  · exact (isName_small h).2 c h1
  · rw [List.mem_singleton.mp h1]
    decide
end Rr

set_option maxRecDepth 100000
set_option maxHeartbeats 4000000
namespace Rr
open PySem PySem.Spec PyProof.Rows L2
/-! ### the text -/
def top (i : Nat) : Stmt := PySem.Challenge.pw_rrdesk_k04_entering.main.body.getD i (.Pass ⟨0, 0, 0, 0⟩)
abbrev s_Caller___init__ : Stmt := inClass (top 5) 0
abbrev N_Caller___init__ : List Str := ["self", "name", "rank", "since"]
theorem sc_Caller___init__ : FnScope N_Caller___init__ ["self", "name", "rank", "since"] (defScope s_Caller___init__) := ⟨rfl, rfl, rfl, by decide +kernel, rfl, by decide +kernel, by decide +kernel⟩
abbrev s_Caller_become : Stmt := inClass (top 5) 1
abbrev N_Caller_become : List Str := ["self", "state", "since", "due", "bell"]
theorem sc_Caller_become : FnScope N_Caller_become ["self", "state", "since", "due", "bell"] (defScope s_Caller_become) := ⟨rfl, rfl, rfl, by decide +kernel, rfl, by decide +kernel, by decide +kernel⟩
abbrev s_is_name : Stmt := top 20
abbrev N_is_name : List Str := ["text"]
theorem sc_is_name : FnScope N_is_name ["text"] (defScope s_is_name) := ⟨rfl, rfl, rfl, by decide +kernel, rfl, by decide +kernel, by decide +kernel⟩
abbrev s_aged : Stmt := top 23
abbrev N_aged : List Str := ["rank", "waited", "pace"]
theorem sc_aged : FnScope N_aged ["rank", "waited", "pace"] (defScope s_aged) := ⟨rfl, rfl, rfl, by decide +kernel, rfl, by decide +kernel, by decide +kernel⟩
abbrev s_limit : Stmt := top 24
abbrev N_limit : List Str := ["rank", "pace", "room"]
theorem sc_limit : FnScope N_limit ["rank", "pace", "room"] (defScope s_limit) := ⟨rfl, rfl, rfl, by decide +kernel, rfl, by decide +kernel, by decide +kernel⟩
abbrev s_first : Stmt := top 25
abbrev N_first : List Str := ["rows", "pace", "place", "best", "at", "rank", "waited", "reached"]
theorem sc_first : FnScope N_first ["rows", "pace"] (defScope s_first) := ⟨rfl, rfl, rfl, by decide +kernel, rfl, by decide +kernel, by decide +kernel⟩
abbrev s_check_name : Stmt := top 30
abbrev N_check_name : List Str := ["text"]
theorem sc_check_name : FnScope N_check_name ["text"] (defScope s_check_name) := ⟨rfl, rfl, rfl, by decide +kernel, rfl, by decide +kernel, by decide +kernel⟩
abbrev s_check_rank : Stmt := top 31
abbrev N_check_rank : List Str := ["rank"]
theorem sc_check_rank : FnScope N_check_rank ["rank"] (defScope s_check_rank) := ⟨rfl, rfl, rfl, by decide +kernel, rfl, by decide +kernel, by decide +kernel⟩
abbrev s_check_span : Stmt := top 32
abbrev N_check_span : List Str := ["many", "least"]
theorem sc_check_span : FnScope N_check_span ["many", "least"] (defScope s_check_span) := ⟨rfl, rfl, rfl, by decide +kernel, rfl, by decide +kernel, by decide +kernel⟩
abbrev s_check_ready : Stmt := top 33
abbrev N_check_ready : List Str := ["caller"]
theorem sc_check_ready : FnScope N_check_ready ["caller"] (defScope s_check_ready) := ⟨rfl, rfl, rfl, by decide +kernel, rfl, by decide +kernel, by decide +kernel⟩
abbrev s_check_not_ready : Stmt := top 34
abbrev N_check_not_ready : List Str := ["caller"]
theorem sc_check_not_ready : FnScope N_check_not_ready ["caller"] (defScope s_check_not_ready) := ⟨rfl, rfl, rfl, by decide +kernel, rfl, by decide +kernel, by decide +kernel⟩
abbrev s_Desk___init__ : Stmt := inClass (top 35) 0
abbrev N_Desk___init__ : List Str := ["self", "pace", "room"]
theorem sc_Desk___init__ : FnScope N_Desk___init__ ["self", "pace", "room"] (defScope s_Desk___init__) := ⟨rfl, rfl, rfl, by decide +kernel, rfl, by decide +kernel, by decide +kernel⟩
abbrev s_Desk_enter : Stmt := inClass (top 35) 1
abbrev N_Desk_enter : List Str := ["self", "name", "rank"]
theorem sc_Desk_enter : FnScope N_Desk_enter ["self", "name", "rank"] (defScope s_Desk_enter) := ⟨rfl, rfl, rfl, by decide +kernel, rfl, by decide +kernel, by decide +kernel⟩
abbrev s_Desk_leave : Stmt := inClass (top 35) 2
abbrev N_Desk_leave : List Str := ["self", "name", "caller"]
theorem sc_Desk_leave : FnScope N_Desk_leave ["self", "name"] (defScope s_Desk_leave) := ⟨rfl, rfl, rfl, by decide +kernel, rfl, by decide +kernel, by decide +kernel⟩
abbrev s_Desk_sleep : Stmt := inClass (top 35) 3
abbrev N_Desk_sleep : List Str := ["self", "name", "many", "caller"]
theorem sc_Desk_sleep : FnScope N_Desk_sleep ["self", "name", "many"] (defScope s_Desk_sleep) := ⟨rfl, rfl, rfl, by decide +kernel, rfl, by decide +kernel, by decide +kernel⟩
abbrev s_Desk_wait : Stmt := inClass (top 35) 4
abbrev N_Desk_wait : List Str := ["self", "name", "bell", "caller"]
theorem sc_Desk_wait : FnScope N_Desk_wait ["self", "name", "bell"] (defScope s_Desk_wait) := ⟨rfl, rfl, rfl, by decide +kernel, rfl, by decide +kernel, by decide +kernel⟩
abbrev s_Desk_wake : Stmt := inClass (top 35) 5
abbrev N_Desk_wake : List Str := ["self", "name", "caller"]
theorem sc_Desk_wake : FnScope N_Desk_wake ["self", "name"] (defScope s_Desk_wake) := ⟨rfl, rfl, rfl, by decide +kernel, rfl, by decide +kernel, by decide +kernel⟩
abbrev s_Desk_rerank : Stmt := inClass (top 35) 7
abbrev N_Desk_rerank : List Str := ["self", "name", "rank", "caller"]
theorem sc_Desk_rerank : FnScope N_Desk_rerank ["self", "name", "rank"] (defScope s_Desk_rerank) := ⟨rfl, rfl, rfl, by decide +kernel, rfl, by decide +kernel, by decide +kernel⟩
abbrev s_Desk_turn : Stmt := inClass (top 35) 8
abbrev N_Desk_turn : List Str := ["self", "ran", "caller"]
theorem sc_Desk_turn : FnScope N_Desk_turn ["self"] (defScope s_Desk_turn) := ⟨rfl, rfl, rfl, by decide +kernel, rfl, by decide +kernel, by decide +kernel⟩
abbrev s_Desk_names : Stmt := inClass (top 35) 11
abbrev N_Desk_names : List Str := ["self"]
theorem sc_Desk_names : FnScope N_Desk_names ["self"] (defScope s_Desk_names) := ⟨rfl, rfl, rfl, by decide +kernel, rfl, by decide +kernel, by decide +kernel⟩
abbrev s_Desk_ready : Stmt := inClass (top 35) 12
abbrev N_Desk_ready : List Str := ["self", "callers", "chosen", "caller"]
theorem sc_Desk_ready : FnScope N_Desk_ready ["self"] (defScope s_Desk_ready) := ⟨rfl, rfl, rfl, by decide +kernel, rfl, by decide +kernel, by decide +kernel⟩
abbrev s_Desk_state : Stmt := inClass (top 35) 13
abbrev N_Desk_state : List Str := ["self", "name"]
theorem sc_Desk_state : FnScope N_Desk_state ["self", "name"] (defScope s_Desk_state) := ⟨rfl, rfl, rfl, by decide +kernel, rfl, by decide +kernel, by decide +kernel⟩
abbrev s_Desk_rank : Stmt := inClass (top 35) 14
abbrev N_Desk_rank : List Str := ["self", "name"]
theorem sc_Desk_rank : FnScope N_Desk_rank ["self", "name"] (defScope s_Desk_rank) := ⟨rfl, rfl, rfl, by decide +kernel, rfl, by decide +kernel, by decide +kernel⟩
abbrev s_Desk_waited : Stmt := inClass (top 35) 15
abbrev N_Desk_waited : List Str := ["self", "name", "caller"]
theorem sc_Desk_waited : FnScope N_Desk_waited ["self", "name"] (defScope s_Desk_waited) := ⟨rfl, rfl, rfl, by decide +kernel, rfl, by decide +kernel, by decide +kernel⟩
abbrev s_Desk_within : Stmt := inClass (top 35) 16
abbrev N_Desk_within : List Str := ["self", "name", "caller"]
theorem sc_Desk_within : FnScope N_Desk_within ["self", "name"] (defScope s_Desk_within) := ⟨rfl, rfl, rfl, by decide +kernel, rfl, by decide +kernel, by decide +kernel⟩
abbrev s_Desk_left : Stmt := inClass (top 35) 17
abbrev N_Desk_left : List Str := ["self", "name", "caller"]
theorem sc_Desk_left : FnScope N_Desk_left ["self", "name"] (defScope s_Desk_left) := ⟨rfl, rfl, rfl, by decide +kernel, rfl, by decide +kernel, by decide +kernel⟩
abbrev s_Desk_bell : Stmt := inClass (top 35) 18
abbrev N_Desk_bell : List Str := ["self", "name"]
theorem sc_Desk_bell : FnScope N_Desk_bell ["self", "name"] (defScope s_Desk_bell) := ⟨rfl, rfl, rfl, by decide +kernel, rfl, by decide +kernel, by decide +kernel⟩
abbrev s_Desk__known : Stmt := inClass (top 35) 20
abbrev N_Desk__known : List Str := ["self", "name", "caller"]
theorem sc_Desk__known : FnScope N_Desk__known ["self", "name"] (defScope s_Desk__known) := ⟨rfl, rfl, rfl, by decide +kernel, rfl, by decide +kernel, by decide +kernel⟩
abbrev s_Desk__waited : Stmt := inClass (top 35) 21
abbrev N_Desk__waited : List Str := ["self", "caller"]
theorem sc_Desk__waited : FnScope N_Desk__waited ["self", "caller"] (defScope s_Desk__waited) := ⟨rfl, rfl, rfl, by decide +kernel, rfl, by decide +kernel, by decide +kernel⟩
abbrev s_Desk__ready_callers : Stmt := inClass (top 35) 22
abbrev N_Desk__ready_callers : List Str := ["self", "caller"]
theorem sc_Desk__ready_callers : FnScope N_Desk__ready_callers ["self"] (defScope s_Desk__ready_callers) := ⟨rfl, rfl, rfl, by decide +kernel, rfl, by decide +kernel, by decide +kernel⟩
abbrev s_Desk__chosen : Stmt := inClass (top 35) 23
abbrev N_Desk__chosen : List Str := ["self", "callers", "place", "caller"]
theorem sc_Desk__chosen : FnScope N_Desk__chosen ["self"] (defScope s_Desk__chosen) := ⟨rfl, rfl, rfl, by decide +kernel, rfl, by decide +kernel, by decide +kernel⟩
abbrev s_Desk__make_ready : Stmt := inClass (top 35) 24
abbrev N_Desk__make_ready : List Str := ["self", "callers", "caller"]
theorem sc_Desk__make_ready : FnScope N_Desk__make_ready ["self", "callers"] (defScope s_Desk__make_ready) := ⟨rfl, rfl, rfl, by decide +kernel, rfl, by decide +kernel, by decide +kernel⟩
abbrev s_Desk__go_last : Stmt := inClass (top 35) 25
abbrev N_Desk__go_last : List Str := ["self", "caller"]
theorem sc_Desk__go_last : FnScope N_Desk__go_last ["self", "caller"] (defScope s_Desk__go_last) := ⟨rfl, rfl, rfl, by decide +kernel, rfl, by decide +kernel, by decide +kernel⟩
abbrev s__law_whole : Stmt := top 37
abbrev N__law_whole : List Str := ["_law_found"]
theorem sc__law_whole : FnScope N__law_whole ["_law_found"] (defScope s__law_whole) := ⟨rfl, rfl, rfl, by decide +kernel, rfl, by decide +kernel, by decide +kernel⟩
abbrev s__law_cell_at : Stmt := top 38
abbrev N__law_cell_at : List Str := ["_law_script", "_law_k"]
theorem sc__law_cell_at : FnScope N__law_cell_at ["_law_script", "_law_k"] (defScope s__law_cell_at) := ⟨rfl, rfl, rfl, by decide +kernel, rfl, by decide +kernel, by decide +kernel⟩
abbrev s__law_mix : Stmt := top 39
abbrev N__law_mix : List Str := ["_law_cell", "_law_prime", "_law_many"]
theorem sc__law_mix : FnScope N__law_mix ["_law_cell", "_law_prime", "_law_many"] (defScope s__law_mix) := ⟨rfl, rfl, rfl, by decide +kernel, rfl, by decide +kernel, by decide +kernel⟩
abbrev s__law_name_by : Stmt := top 40
abbrev N__law_name_by : List Str := ["_law_k", "_law_cell", "_law_some", "_law_many", "_law_near", "_law_tell", "_law_size", "_law_at", "_law_j", "_law_text"]
theorem sc__law_name_by : FnScope N__law_name_by ["_law_k", "_law_cell"] (defScope s__law_name_by) := ⟨rfl, rfl, rfl, by decide +kernel, rfl, by decide +kernel, by decide +kernel⟩
abbrev s__law_texts : Stmt := top 41
abbrev N__law_texts : List Str := ["_law_found", "_law_due_here", "_law_k"]
theorem sc__law_texts : FnScope N__law_texts ["_law_found", "_law_due_here"] (defScope s__law_texts) := ⟨rfl, rfl, rfl, by decide +kernel, rfl, by decide +kernel, by decide +kernel⟩
abbrev s__law_word : Stmt := top 42
abbrev N__law_word : List Str := ["_law_e", "_law_found", "_law_one"]
theorem sc__law_word : FnScope N__law_word ["_law_e"] (defScope s__law_word) := ⟨rfl, rfl, rfl, by decide +kernel, rfl, by decide +kernel, by decide +kernel⟩
abbrev s__law_no_desk : Stmt := top 43
abbrev N__law_no_desk : List Str := ["_law_way", "_law_far", "_law_e"]
theorem sc__law_no_desk : FnScope N__law_no_desk ["_law_way", "_law_far"] (defScope s__law_no_desk) := ⟨rfl, rfl, rfl, by decide +kernel, rfl, by decide +kernel, by decide +kernel⟩
abbrev s__law_enters : Stmt := top 44
abbrev N__law_enters : List Str := ["_law_desk", "_law_name", "_law_rank", "_law_e"]
theorem sc__law_enters : FnScope N__law_enters ["_law_desk", "_law_name", "_law_rank"] (defScope s__law_enters) := ⟨rfl, rfl, rfl, by decide +kernel, rfl, by decide +kernel, by decide +kernel⟩
abbrev s__law_unknown : Stmt := top 45
abbrev N__law_unknown : List Str := ["_law_desk", "_law_name", "_law_way", "_law_e"]
theorem sc__law_unknown : FnScope N__law_unknown ["_law_desk", "_law_name", "_law_way"] (defScope s__law_unknown) := ⟨rfl, rfl, rfl, by decide +kernel, rfl, by decide +kernel, by decide +kernel⟩
abbrev s__law_due : Stmt := top 46
abbrev N__law_due : List Str := ["_law_line", "_law_room", "_law_name", "_law_rank", "_law_good", "_law_one"]
theorem sc__law_due : FnScope N__law_due ["_law_line", "_law_room", "_law_name", "_law_rank", "_law_good"] (defScope s__law_due) := ⟨rfl, rfl, rfl, by decide +kernel, rfl, by decide +kernel, by decide +kernel⟩
abbrev s__law_stands : Stmt := top 47
abbrev N__law_stands : List Str := ["_law_desk", "_law_line", "_law_pace", "_law_room", "_law_cell", "_law_told", "_law_one", "_law_found", "_law_due_here", "_law_rank", "_law_waited"]
theorem sc__law_stands : FnScope N__law_stands ["_law_desk", "_law_line", "_law_pace", "_law_room", "_law_cell"] (defScope s__law_stands) := ⟨rfl, rfl, rfl, by decide +kernel, rfl, by decide +kernel, by decide +kernel⟩
abbrev s__law_step : Stmt := top 48
abbrev N__law_step : List Str := ["_law_desk", "_law_line", "_law_name", "_law_rank", "_law_way", "_law_due_here", "_law_one"]
theorem sc__law_step : FnScope N__law_step ["_law_desk", "_law_line", "_law_name", "_law_rank", "_law_way"] (defScope s__law_step) := ⟨rfl, rfl, rfl, by decide +kernel, rfl, by decide +kernel, by decide +kernel⟩
abbrev s_law : Stmt := top 49
abbrev N_law : List Str := ["_law_script", "_law_shift", "_law_room", "_law_pace", "_law_desk", "_law_line", "_law_k", "_law_cell", "_law_name", "_law_rank", "_law_way"]
theorem sc_law : FnScope N_law ["_law_script"] (defScope s_law) := ⟨rfl, rfl, rfl, by decide +kernel, rfl, by decide +kernel, by decide +kernel⟩
/-! ### what the top has written -/
structure Tx (K : PySem.W.Frag) (mg : Str → Option Value) (base : Heap) : Prop where
  m_all : mg "all" = none
  m_len : mg "len" = none
  m_enumerate : mg "enumerate" = none
  m_list : mg "list" = none
  m_bool : mg "bool" = none
  m_int : mg "int" = none
  m_isinstance : mg "isinstance" = none
  m_range : mg "range" = none
  m_str : mg "str" = none
  m_ValueError : mg "ValueError" = none
  m_sum : mg "sum" = none
  h_READY : ∃ t, mg "READY" = some (.str "ready" t)
  h_MOST_SIGNS : ∃ t, mg "MOST_SIGNS" = some (.int 12 t)
  h_SIGNS : ∃ t, mg "SIGNS" = some (.str "abcdefghijklmnopqrstuvwxyz0123456789" t)
  h_TOP : ∃ t, mg "TOP" = some (.int 99 t)
  h_MOST_TURNS : ∃ t, mg "MOST_TURNS" = some (.int 1000 t)
  h_MOST_PACE : ∃ t, mg "MOST_PACE" = some (.int 1000 t)
  h_MOST_ROOM : ∃ t, mg "MOST_ROOM" = some (.int 60 t)
  h_ASLEEP : ∃ t, mg "ASLEEP" = some (.str "asleep" t)
  h_WAITING : ∃ t, mg "WAITING" = some (.str "waiting" t)
  r_Caller : mg "Caller" = some (.ref (He.ga K "Caller"))
  r_DeskError : mg "DeskError" = some (.ref (He.ga K "DeskError"))
  r_NoName : mg "NoName" = some (.ref (He.ga K "NoName"))
  r_NoRank : mg "NoRank" = some (.ref (He.ga K "NoRank"))
  r_NoSpan : mg "NoSpan" = some (.ref (He.ga K "NoSpan"))
  r_NoDesk : mg "NoDesk" = some (.ref (He.ga K "NoDesk"))
  r_Known : mg "Known" = some (.ref (He.ga K "Known"))
  r_Unknown : mg "Unknown" = some (.ref (He.ga K "Unknown"))
  r_Full : mg "Full" = some (.ref (He.ga K "Full"))
  r_NotReady : mg "NotReady" = some (.ref (He.ga K "NotReady"))
  r_IsReady : mg "IsReady" = some (.ref (He.ga K "IsReady"))
  r_Desk : mg "Desk" = some (.ref (He.ga K "Desk"))
  e_DeskError : PySem.W.excIn K (He.ga K "DeskError") He.veBase "ValueError.__new__" = true ∧ PySem.W.keepIn K (.ref (He.ga K "DeskError")) = true ∧ PySem.W.subIn K (.ref (He.ga K "DeskError")) (.type "BaseException") = some true ∧ PySem.W.typeIn K (.ref (He.ga K "DeskError")) = some (.type "type")
  e_NoName : PySem.W.excIn K (He.ga K "NoName") He.veBase "ValueError.__new__" = true ∧ PySem.W.keepIn K (.ref (He.ga K "NoName")) = true ∧ PySem.W.subIn K (.ref (He.ga K "NoName")) (.type "BaseException") = some true ∧ PySem.W.typeIn K (.ref (He.ga K "NoName")) = some (.type "type")
  e_NoRank : PySem.W.excIn K (He.ga K "NoRank") He.veBase "ValueError.__new__" = true ∧ PySem.W.keepIn K (.ref (He.ga K "NoRank")) = true ∧ PySem.W.subIn K (.ref (He.ga K "NoRank")) (.type "BaseException") = some true ∧ PySem.W.typeIn K (.ref (He.ga K "NoRank")) = some (.type "type")
  e_NoSpan : PySem.W.excIn K (He.ga K "NoSpan") He.veBase "ValueError.__new__" = true ∧ PySem.W.keepIn K (.ref (He.ga K "NoSpan")) = true ∧ PySem.W.subIn K (.ref (He.ga K "NoSpan")) (.type "BaseException") = some true ∧ PySem.W.typeIn K (.ref (He.ga K "NoSpan")) = some (.type "type")
  e_NoDesk : PySem.W.excIn K (He.ga K "NoDesk") He.veBase "ValueError.__new__" = true ∧ PySem.W.keepIn K (.ref (He.ga K "NoDesk")) = true ∧ PySem.W.subIn K (.ref (He.ga K "NoDesk")) (.type "BaseException") = some true ∧ PySem.W.typeIn K (.ref (He.ga K "NoDesk")) = some (.type "type")
  e_Known : PySem.W.excIn K (He.ga K "Known") He.veBase "ValueError.__new__" = true ∧ PySem.W.keepIn K (.ref (He.ga K "Known")) = true ∧ PySem.W.subIn K (.ref (He.ga K "Known")) (.type "BaseException") = some true ∧ PySem.W.typeIn K (.ref (He.ga K "Known")) = some (.type "type")
  e_Unknown : PySem.W.excIn K (He.ga K "Unknown") He.veBase "ValueError.__new__" = true ∧ PySem.W.keepIn K (.ref (He.ga K "Unknown")) = true ∧ PySem.W.subIn K (.ref (He.ga K "Unknown")) (.type "BaseException") = some true ∧ PySem.W.typeIn K (.ref (He.ga K "Unknown")) = some (.type "type")
  e_Full : PySem.W.excIn K (He.ga K "Full") He.veBase "ValueError.__new__" = true ∧ PySem.W.keepIn K (.ref (He.ga K "Full")) = true ∧ PySem.W.subIn K (.ref (He.ga K "Full")) (.type "BaseException") = some true ∧ PySem.W.typeIn K (.ref (He.ga K "Full")) = some (.type "type")
  e_NotReady : PySem.W.excIn K (He.ga K "NotReady") He.veBase "ValueError.__new__" = true ∧ PySem.W.keepIn K (.ref (He.ga K "NotReady")) = true ∧ PySem.W.subIn K (.ref (He.ga K "NotReady")) (.type "BaseException") = some true ∧ PySem.W.typeIn K (.ref (He.ga K "NotReady")) = some (.type "type")
  e_IsReady : PySem.W.excIn K (He.ga K "IsReady") He.veBase "ValueError.__new__" = true ∧ PySem.W.keepIn K (.ref (He.ga K "IsReady")) = true ∧ PySem.W.subIn K (.ref (He.ga K "IsReady")) (.type "BaseException") = some true ∧ PySem.W.typeIn K (.ref (He.ga K "IsReady")) = some (.type "type")
  x_NoName_DeskError : PySem.W.exmOne K (.ref (He.ga K "NoName")) (.ref (He.ga K "DeskError")) = some true
  x_NoRank_DeskError : PySem.W.exmOne K (.ref (He.ga K "NoRank")) (.ref (He.ga K "DeskError")) = some true
  x_NoSpan_DeskError : PySem.W.exmOne K (.ref (He.ga K "NoSpan")) (.ref (He.ga K "DeskError")) = some true
  x_NoDesk_DeskError : PySem.W.exmOne K (.ref (He.ga K "NoDesk")) (.ref (He.ga K "DeskError")) = some true
  x_Known_DeskError : PySem.W.exmOne K (.ref (He.ga K "Known")) (.ref (He.ga K "DeskError")) = some true
  x_Unknown_DeskError : PySem.W.exmOne K (.ref (He.ga K "Unknown")) (.ref (He.ga K "DeskError")) = some true
  x_Full_DeskError : PySem.W.exmOne K (.ref (He.ga K "Full")) (.ref (He.ga K "DeskError")) = some true
  x_NotReady_DeskError : PySem.W.exmOne K (.ref (He.ga K "NotReady")) (.ref (He.ga K "DeskError")) = some true
  x_IsReady_DeskError : PySem.W.exmOne K (.ref (He.ga K "IsReady")) (.ref (He.ga K "DeskError")) = some true
  x_Unknown_Unknown : PySem.W.exmOne K (.ref (He.ga K "Unknown")) (.ref (He.ga K "Unknown")) = some true
  cl_Caller : Cls K (He.ga K "Caller")
  mk_Caller : Mk K (He.ga K "Caller") (He.fAd K ("Caller", some "__init__"))
  na_Caller_bell : NoAttr K (He.ga K "Caller") "bell"
  na_Caller_due : NoAttr K (He.ga K "Caller") "due"
  na_Caller_name : NoAttr K (He.ga K "Caller") "name"
  na_Caller_rank : NoAttr K (He.ga K "Caller") "rank"
  na_Caller_since : NoAttr K (He.ga K "Caller") "since"
  na_Caller_state : NoAttr K (He.ga K "Caller") "state"
  cl_Desk : Cls K (He.ga K "Desk")
  mk_Desk : Mk K (He.ga K "Desk") (He.fAd K ("Desk", some "__init__"))
  na_Desk__line : NoAttr K (He.ga K "Desk") "_line"
  na_Desk_now : NoAttr K (He.ga K "Desk") "now"
  na_Desk_pace : NoAttr K (He.ga K "Desk") "pace"
  na_Desk_room : NoAttr K (He.ga K "Desk") "room"
  me_Caller_become : Meth K (He.ga K "Caller") "become" (He.fAd K ("Caller", some "become"))
  r_is_name : mg "is_name" = some (.ref (He.ga K "is_name"))
  r_aged : mg "aged" = some (.ref (He.ga K "aged"))
  r_limit : mg "limit" = some (.ref (He.ga K "limit"))
  r_first : mg "first" = some (.ref (He.ga K "first"))
  r_check_name : mg "check_name" = some (.ref (He.ga K "check_name"))
  r_check_rank : mg "check_rank" = some (.ref (He.ga K "check_rank"))
  r_check_span : mg "check_span" = some (.ref (He.ga K "check_span"))
  r_check_ready : mg "check_ready" = some (.ref (He.ga K "check_ready"))
  r_check_not_ready : mg "check_not_ready" = some (.ref (He.ga K "check_not_ready"))
  me_Desk_enter : Meth K (He.ga K "Desk") "enter" (He.fAd K ("Desk", some "enter"))
  me_Desk_leave : Meth K (He.ga K "Desk") "leave" (He.fAd K ("Desk", some "leave"))
  me_Desk_sleep : Meth K (He.ga K "Desk") "sleep" (He.fAd K ("Desk", some "sleep"))
  me_Desk_wait : Meth K (He.ga K "Desk") "wait" (He.fAd K ("Desk", some "wait"))
  me_Desk_wake : Meth K (He.ga K "Desk") "wake" (He.fAd K ("Desk", some "wake"))
  me_Desk_rerank : Meth K (He.ga K "Desk") "rerank" (He.fAd K ("Desk", some "rerank"))
  me_Desk_turn : Meth K (He.ga K "Desk") "turn" (He.fAd K ("Desk", some "turn"))
  me_Desk_names : Meth K (He.ga K "Desk") "names" (He.fAd K ("Desk", some "names"))
  me_Desk_ready : Meth K (He.ga K "Desk") "ready" (He.fAd K ("Desk", some "ready"))
  me_Desk_state : Meth K (He.ga K "Desk") "state" (He.fAd K ("Desk", some "state"))
  me_Desk_rank : Meth K (He.ga K "Desk") "rank" (He.fAd K ("Desk", some "rank"))
  me_Desk_waited : Meth K (He.ga K "Desk") "waited" (He.fAd K ("Desk", some "waited"))
  me_Desk_within : Meth K (He.ga K "Desk") "within" (He.fAd K ("Desk", some "within"))
  me_Desk_left : Meth K (He.ga K "Desk") "left" (He.fAd K ("Desk", some "left"))
  me_Desk_bell : Meth K (He.ga K "Desk") "bell" (He.fAd K ("Desk", some "bell"))
  me_Desk__known : Meth K (He.ga K "Desk") "_known" (He.fAd K ("Desk", some "_known"))
  me_Desk__waited : Meth K (He.ga K "Desk") "_waited" (He.fAd K ("Desk", some "_waited"))
  me_Desk__ready_callers : Meth K (He.ga K "Desk") "_ready_callers" (He.fAd K ("Desk", some "_ready_callers"))
  me_Desk__chosen : Meth K (He.ga K "Desk") "_chosen" (He.fAd K ("Desk", some "_chosen"))
  me_Desk__make_ready : Meth K (He.ga K "Desk") "_make_ready" (He.fAd K ("Desk", some "_make_ready"))
  me_Desk__go_last : Meth K (He.ga K "Desk") "_go_last" (He.fAd K ("Desk", some "_go_last"))
  r__law_whole : mg "_law_whole" = some (.ref (He.ga K "_law_whole"))
  r__law_cell_at : mg "_law_cell_at" = some (.ref (He.ga K "_law_cell_at"))
  r__law_mix : mg "_law_mix" = some (.ref (He.ga K "_law_mix"))
  r__law_name_by : mg "_law_name_by" = some (.ref (He.ga K "_law_name_by"))
  r__law_texts : mg "_law_texts" = some (.ref (He.ga K "_law_texts"))
  r__law_word : mg "_law_word" = some (.ref (He.ga K "_law_word"))
  r__law_no_desk : mg "_law_no_desk" = some (.ref (He.ga K "_law_no_desk"))
  r__law_enters : mg "_law_enters" = some (.ref (He.ga K "_law_enters"))
  r__law_unknown : mg "_law_unknown" = some (.ref (He.ga K "_law_unknown"))
  r__law_due : mg "_law_due" = some (.ref (He.ga K "_law_due"))
  r__law_stands : mg "_law_stands" = some (.ref (He.ga K "_law_stands"))
  r__law_step : mg "_law_step" = some (.ref (He.ga K "_law_step"))
  r_law : mg "law" = some (.ref (He.ga K "law"))
  d_Caller___init__ : ∃ fd, FunD K "__init__" "Caller.__init__" (defArgs s_Caller___init__) (defBody s_Caller___init__) (defScope s_Caller___init__) [] [] (He.fAd K ("Caller", some "__init__")) fd
  d_Caller_become : ∃ fd, FunD K "become" "Caller.become" (defArgs s_Caller_become) (defBody s_Caller_become) (defScope s_Caller_become) [.non, .non, .non] [] (He.fAd K ("Caller", some "become")) fd
  d_is_name : ∃ fd, FunD K "is_name" "is_name" (defArgs s_is_name) (defBody s_is_name) (defScope s_is_name) [] [] (He.fAd K ("is_name", none)) fd
  d_aged : ∃ fd, FunD K "aged" "aged" (defArgs s_aged) (defBody s_aged) (defScope s_aged) [] [] (He.fAd K ("aged", none)) fd
  d_limit : ∃ fd, FunD K "limit" "limit" (defArgs s_limit) (defBody s_limit) (defScope s_limit) [] [] (He.fAd K ("limit", none)) fd
  d_first : ∃ fd, FunD K "first" "first" (defArgs s_first) (defBody s_first) (defScope s_first) [] [] (He.fAd K ("first", none)) fd
  d_check_name : ∃ fd, FunD K "check_name" "check_name" (defArgs s_check_name) (defBody s_check_name) (defScope s_check_name) [] [] (He.fAd K ("check_name", none)) fd
  d_check_rank : ∃ fd, FunD K "check_rank" "check_rank" (defArgs s_check_rank) (defBody s_check_rank) (defScope s_check_rank) [] [] (He.fAd K ("check_rank", none)) fd
  d_check_span : ∃ fd, FunD K "check_span" "check_span" (defArgs s_check_span) (defBody s_check_span) (defScope s_check_span) [] [] (He.fAd K ("check_span", none)) fd
  d_check_ready : ∃ fd, FunD K "check_ready" "check_ready" (defArgs s_check_ready) (defBody s_check_ready) (defScope s_check_ready) [] [] (He.fAd K ("check_ready", none)) fd
  d_check_not_ready : ∃ fd, FunD K "check_not_ready" "check_not_ready" (defArgs s_check_not_ready) (defBody s_check_not_ready) (defScope s_check_not_ready) [] [] (He.fAd K ("check_not_ready", none)) fd
  d_Desk___init__ : ∃ fd, FunD K "__init__" "Desk.__init__" (defArgs s_Desk___init__) (defBody s_Desk___init__) (defScope s_Desk___init__) [] [] (He.fAd K ("Desk", some "__init__")) fd
  d_Desk_enter : ∃ fd, FunD K "enter" "Desk.enter" (defArgs s_Desk_enter) (defBody s_Desk_enter) (defScope s_Desk_enter) [] [] (He.fAd K ("Desk", some "enter")) fd
  d_Desk_leave : ∃ fd, FunD K "leave" "Desk.leave" (defArgs s_Desk_leave) (defBody s_Desk_leave) (defScope s_Desk_leave) [] [] (He.fAd K ("Desk", some "leave")) fd
  d_Desk_sleep : ∃ fd, FunD K "sleep" "Desk.sleep" (defArgs s_Desk_sleep) (defBody s_Desk_sleep) (defScope s_Desk_sleep) [] [] (He.fAd K ("Desk", some "sleep")) fd
  d_Desk_wait : ∃ fd, FunD K "wait" "Desk.wait" (defArgs s_Desk_wait) (defBody s_Desk_wait) (defScope s_Desk_wait) [] [] (He.fAd K ("Desk", some "wait")) fd
  d_Desk_wake : ∃ fd, FunD K "wake" "Desk.wake" (defArgs s_Desk_wake) (defBody s_Desk_wake) (defScope s_Desk_wake) [] [] (He.fAd K ("Desk", some "wake")) fd
  d_Desk_rerank : ∃ fd, FunD K "rerank" "Desk.rerank" (defArgs s_Desk_rerank) (defBody s_Desk_rerank) (defScope s_Desk_rerank) [] [] (He.fAd K ("Desk", some "rerank")) fd
  d_Desk_turn : ∃ fd, FunD K "turn" "Desk.turn" (defArgs s_Desk_turn) (defBody s_Desk_turn) (defScope s_Desk_turn) [] [] (He.fAd K ("Desk", some "turn")) fd
  d_Desk_names : ∃ fd, FunD K "names" "Desk.names" (defArgs s_Desk_names) (defBody s_Desk_names) (defScope s_Desk_names) [] [] (He.fAd K ("Desk", some "names")) fd
  d_Desk_ready : ∃ fd, FunD K "ready" "Desk.ready" (defArgs s_Desk_ready) (defBody s_Desk_ready) (defScope s_Desk_ready) [] [] (He.fAd K ("Desk", some "ready")) fd
  d_Desk_state : ∃ fd, FunD K "state" "Desk.state" (defArgs s_Desk_state) (defBody s_Desk_state) (defScope s_Desk_state) [] [] (He.fAd K ("Desk", some "state")) fd
  d_Desk_rank : ∃ fd, FunD K "rank" "Desk.rank" (defArgs s_Desk_rank) (defBody s_Desk_rank) (defScope s_Desk_rank) [] [] (He.fAd K ("Desk", some "rank")) fd
  d_Desk_waited : ∃ fd, FunD K "waited" "Desk.waited" (defArgs s_Desk_waited) (defBody s_Desk_waited) (defScope s_Desk_waited) [] [] (He.fAd K ("Desk", some "waited")) fd
  d_Desk_within : ∃ fd, FunD K "within" "Desk.within" (defArgs s_Desk_within) (defBody s_Desk_within) (defScope s_Desk_within) [] [] (He.fAd K ("Desk", some "within")) fd
  d_Desk_left : ∃ fd, FunD K "left" "Desk.left" (defArgs s_Desk_left) (defBody s_Desk_left) (defScope s_Desk_left) [] [] (He.fAd K ("Desk", some "left")) fd
  d_Desk_bell : ∃ fd, FunD K "bell" "Desk.bell" (defArgs s_Desk_bell) (defBody s_Desk_bell) (defScope s_Desk_bell) [] [] (He.fAd K ("Desk", some "bell")) fd
  d_Desk__known : ∃ fd, FunD K "_known" "Desk._known" (defArgs s_Desk__known) (defBody s_Desk__known) (defScope s_Desk__known) [] [] (He.fAd K ("Desk", some "_known")) fd
  d_Desk__waited : ∃ fd, FunD K "_waited" "Desk._waited" (defArgs s_Desk__waited) (defBody s_Desk__waited) (defScope s_Desk__waited) [] [] (He.fAd K ("Desk", some "_waited")) fd
  d_Desk__ready_callers : ∃ fd, FunD K "_ready_callers" "Desk._ready_callers" (defArgs s_Desk__ready_callers) (defBody s_Desk__ready_callers) (defScope s_Desk__ready_callers) [] [] (He.fAd K ("Desk", some "_ready_callers")) fd
  d_Desk__chosen : ∃ fd, FunD K "_chosen" "Desk._chosen" (defArgs s_Desk__chosen) (defBody s_Desk__chosen) (defScope s_Desk__chosen) [] [] (He.fAd K ("Desk", some "_chosen")) fd
  d_Desk__make_ready : ∃ fd, FunD K "_make_ready" "Desk._make_ready" (defArgs s_Desk__make_ready) (defBody s_Desk__make_ready) (defScope s_Desk__make_ready) [] [] (He.fAd K ("Desk", some "_make_ready")) fd
  d_Desk__go_last : ∃ fd, FunD K "_go_last" "Desk._go_last" (defArgs s_Desk__go_last) (defBody s_Desk__go_last) (defScope s_Desk__go_last) [] [] (He.fAd K ("Desk", some "_go_last")) fd
  d__law_whole : ∃ fd, FunD K "_law_whole" "_law_whole" (defArgs s__law_whole) (defBody s__law_whole) (defScope s__law_whole) [] [] (He.fAd K ("_law_whole", none)) fd
  d__law_cell_at : ∃ fd, FunD K "_law_cell_at" "_law_cell_at" (defArgs s__law_cell_at) (defBody s__law_cell_at) (defScope s__law_cell_at) [] [] (He.fAd K ("_law_cell_at", none)) fd
  d__law_mix : ∃ fd, FunD K "_law_mix" "_law_mix" (defArgs s__law_mix) (defBody s__law_mix) (defScope s__law_mix) [] [] (He.fAd K ("_law_mix", none)) fd
  d__law_name_by : ∃ fd, FunD K "_law_name_by" "_law_name_by" (defArgs s__law_name_by) (defBody s__law_name_by) (defScope s__law_name_by) [] [] (He.fAd K ("_law_name_by", none)) fd
  d__law_texts : ∃ fd, FunD K "_law_texts" "_law_texts" (defArgs s__law_texts) (defBody s__law_texts) (defScope s__law_texts) [] [] (He.fAd K ("_law_texts", none)) fd
  d__law_word : ∃ fd, FunD K "_law_word" "_law_word" (defArgs s__law_word) (defBody s__law_word) (defScope s__law_word) [] [] (He.fAd K ("_law_word", none)) fd
  d__law_no_desk : ∃ fd, FunD K "_law_no_desk" "_law_no_desk" (defArgs s__law_no_desk) (defBody s__law_no_desk) (defScope s__law_no_desk) [] [] (He.fAd K ("_law_no_desk", none)) fd
  d__law_enters : ∃ fd, FunD K "_law_enters" "_law_enters" (defArgs s__law_enters) (defBody s__law_enters) (defScope s__law_enters) [] [] (He.fAd K ("_law_enters", none)) fd
  d__law_unknown : ∃ fd, FunD K "_law_unknown" "_law_unknown" (defArgs s__law_unknown) (defBody s__law_unknown) (defScope s__law_unknown) [] [] (He.fAd K ("_law_unknown", none)) fd
  d__law_due : ∃ fd, FunD K "_law_due" "_law_due" (defArgs s__law_due) (defBody s__law_due) (defScope s__law_due) [] [] (He.fAd K ("_law_due", none)) fd
  d__law_stands : ∃ fd, FunD K "_law_stands" "_law_stands" (defArgs s__law_stands) (defBody s__law_stands) (defScope s__law_stands) [] [] (He.fAd K ("_law_stands", none)) fd
  d__law_step : ∃ fd, FunD K "_law_step" "_law_step" (defArgs s__law_step) (defBody s__law_step) (defScope s__law_step) [] [] (He.fAd K ("_law_step", none)) fd
  d_law : ∃ fd, FunD K "law" "law" (defArgs s_law) (defBody s_law) (defScope s_law) [] [] (He.fAd K ("law", none)) fd
  tb_is_name : GxR.TabB base mg (He.codeOf K ("is_name", none)) (He.tabOf K (He.codeOf K ("is_name", none)))
  x9 : exOk K = true
def fa : List He.Fa := [.free "all", .free "len", .free "enumerate", .free "list", .free "bool", .free "int", .free "isinstance", .free "range", .free "str", .free "ValueError", .free "sum", .str "READY" "ready", .int "MOST_SIGNS" 12, .str "SIGNS" "abcdefghijklmnopqrstuvwxyz0123456789", .int "TOP" 99, .int "MOST_TURNS" 1000, .int "MOST_PACE" 1000, .int "MOST_ROOM" 60, .str "ASLEEP" "asleep", .str "WAITING" "waiting", .glo "Caller", .glo "DeskError", .glo "NoName", .glo "NoRank", .glo "NoSpan", .glo "NoDesk", .glo "Known", .glo "Unknown", .glo "Full", .glo "NotReady", .glo "IsReady", .glo "Desk", .exc "DeskError", .exc "NoName", .exc "NoRank", .exc "NoSpan", .exc "NoDesk", .exc "Known", .exc "Unknown", .exc "Full", .exc "NotReady", .exc "IsReady", .exm "NoName" "DeskError" true, .exm "NoRank" "DeskError" true, .exm "NoSpan" "DeskError" true, .exm "NoDesk" "DeskError" true, .exm "Known" "DeskError" true, .exm "Unknown" "DeskError" true, .exm "Full" "DeskError" true, .exm "NotReady" "DeskError" true, .exm "IsReady" "DeskError" true, .exm "Unknown" "Unknown" true, .cls "Caller", .mkr "Caller", .noat "Caller" "bell", .noat "Caller" "due", .noat "Caller" "name", .noat "Caller" "rank", .noat "Caller" "since", .noat "Caller" "state", .cls "Desk", .mkr "Desk", .noat "Desk" "_line", .noat "Desk" "now", .noat "Desk" "pace", .noat "Desk" "room", .meth "Caller" "become", .glo "is_name", .glo "aged", .glo "limit", .glo "first", .glo "check_name", .glo "check_rank", .glo "check_span", .glo "check_ready", .glo "check_not_ready", .meth "Desk" "enter", .meth "Desk" "leave", .meth "Desk" "sleep", .meth "Desk" "wait", .meth "Desk" "wake", .meth "Desk" "rerank", .meth "Desk" "turn", .meth "Desk" "names", .meth "Desk" "ready", .meth "Desk" "state", .meth "Desk" "rank", .meth "Desk" "waited", .meth "Desk" "within", .meth "Desk" "left", .meth "Desk" "bell", .meth "Desk" "_known", .meth "Desk" "_waited", .meth "Desk" "_ready_callers", .meth "Desk" "_chosen", .meth "Desk" "_make_ready", .meth "Desk" "_go_last", .glo "_law_whole", .glo "_law_cell_at", .glo "_law_mix", .glo "_law_name_by", .glo "_law_texts", .glo "_law_word", .glo "_law_no_desk", .glo "_law_enters", .glo "_law_unknown", .glo "_law_due", .glo "_law_stands", .glo "_law_step", .glo "law"]
def fn : List He.DefD := [⟨("Caller", some "__init__"), "__init__", "Caller.__init__", defArgs s_Caller___init__, defBody s_Caller___init__, defScope s_Caller___init__, [], []⟩,
  ⟨("Caller", some "become"), "become", "Caller.become", defArgs s_Caller_become, defBody s_Caller_become, defScope s_Caller_become, [.non, .non, .non], []⟩,
  ⟨("is_name", none), "is_name", "is_name", defArgs s_is_name, defBody s_is_name, defScope s_is_name, [], []⟩,
  ⟨("aged", none), "aged", "aged", defArgs s_aged, defBody s_aged, defScope s_aged, [], []⟩,
  ⟨("limit", none), "limit", "limit", defArgs s_limit, defBody s_limit, defScope s_limit, [], []⟩,
  ⟨("first", none), "first", "first", defArgs s_first, defBody s_first, defScope s_first, [], []⟩,
  ⟨("check_name", none), "check_name", "check_name", defArgs s_check_name, defBody s_check_name, defScope s_check_name, [], []⟩,
  ⟨("check_rank", none), "check_rank", "check_rank", defArgs s_check_rank, defBody s_check_rank, defScope s_check_rank, [], []⟩,
  ⟨("check_span", none), "check_span", "check_span", defArgs s_check_span, defBody s_check_span, defScope s_check_span, [], []⟩,
  ⟨("check_ready", none), "check_ready", "check_ready", defArgs s_check_ready, defBody s_check_ready, defScope s_check_ready, [], []⟩,
  ⟨("check_not_ready", none), "check_not_ready", "check_not_ready", defArgs s_check_not_ready, defBody s_check_not_ready, defScope s_check_not_ready, [], []⟩,
  ⟨("Desk", some "__init__"), "__init__", "Desk.__init__", defArgs s_Desk___init__, defBody s_Desk___init__, defScope s_Desk___init__, [], []⟩,
  ⟨("Desk", some "enter"), "enter", "Desk.enter", defArgs s_Desk_enter, defBody s_Desk_enter, defScope s_Desk_enter, [], []⟩,
  ⟨("Desk", some "leave"), "leave", "Desk.leave", defArgs s_Desk_leave, defBody s_Desk_leave, defScope s_Desk_leave, [], []⟩,
  ⟨("Desk", some "sleep"), "sleep", "Desk.sleep", defArgs s_Desk_sleep, defBody s_Desk_sleep, defScope s_Desk_sleep, [], []⟩,
  ⟨("Desk", some "wait"), "wait", "Desk.wait", defArgs s_Desk_wait, defBody s_Desk_wait, defScope s_Desk_wait, [], []⟩,
  ⟨("Desk", some "wake"), "wake", "Desk.wake", defArgs s_Desk_wake, defBody s_Desk_wake, defScope s_Desk_wake, [], []⟩,
  ⟨("Desk", some "rerank"), "rerank", "Desk.rerank", defArgs s_Desk_rerank, defBody s_Desk_rerank, defScope s_Desk_rerank, [], []⟩,
  ⟨("Desk", some "turn"), "turn", "Desk.turn", defArgs s_Desk_turn, defBody s_Desk_turn, defScope s_Desk_turn, [], []⟩,
  ⟨("Desk", some "names"), "names", "Desk.names", defArgs s_Desk_names, defBody s_Desk_names, defScope s_Desk_names, [], []⟩,
  ⟨("Desk", some "ready"), "ready", "Desk.ready", defArgs s_Desk_ready, defBody s_Desk_ready, defScope s_Desk_ready, [], []⟩,
  ⟨("Desk", some "state"), "state", "Desk.state", defArgs s_Desk_state, defBody s_Desk_state, defScope s_Desk_state, [], []⟩,
  ⟨("Desk", some "rank"), "rank", "Desk.rank", defArgs s_Desk_rank, defBody s_Desk_rank, defScope s_Desk_rank, [], []⟩,
  ⟨("Desk", some "waited"), "waited", "Desk.waited", defArgs s_Desk_waited, defBody s_Desk_waited, defScope s_Desk_waited, [], []⟩,
  ⟨("Desk", some "within"), "within", "Desk.within", defArgs s_Desk_within, defBody s_Desk_within, defScope s_Desk_within, [], []⟩,
  ⟨("Desk", some "left"), "left", "Desk.left", defArgs s_Desk_left, defBody s_Desk_left, defScope s_Desk_left, [], []⟩,
  ⟨("Desk", some "bell"), "bell", "Desk.bell", defArgs s_Desk_bell, defBody s_Desk_bell, defScope s_Desk_bell, [], []⟩,
  ⟨("Desk", some "_known"), "_known", "Desk._known", defArgs s_Desk__known, defBody s_Desk__known, defScope s_Desk__known, [], []⟩,
  ⟨("Desk", some "_waited"), "_waited", "Desk._waited", defArgs s_Desk__waited, defBody s_Desk__waited, defScope s_Desk__waited, [], []⟩,
  ⟨("Desk", some "_ready_callers"), "_ready_callers", "Desk._ready_callers", defArgs s_Desk__ready_callers, defBody s_Desk__ready_callers, defScope s_Desk__ready_callers, [], []⟩,
  ⟨("Desk", some "_chosen"), "_chosen", "Desk._chosen", defArgs s_Desk__chosen, defBody s_Desk__chosen, defScope s_Desk__chosen, [], []⟩,
  ⟨("Desk", some "_make_ready"), "_make_ready", "Desk._make_ready", defArgs s_Desk__make_ready, defBody s_Desk__make_ready, defScope s_Desk__make_ready, [], []⟩,
  ⟨("Desk", some "_go_last"), "_go_last", "Desk._go_last", defArgs s_Desk__go_last, defBody s_Desk__go_last, defScope s_Desk__go_last, [], []⟩,
  ⟨("_law_whole", none), "_law_whole", "_law_whole", defArgs s__law_whole, defBody s__law_whole, defScope s__law_whole, [], []⟩,
  ⟨("_law_cell_at", none), "_law_cell_at", "_law_cell_at", defArgs s__law_cell_at, defBody s__law_cell_at, defScope s__law_cell_at, [], []⟩,
  ⟨("_law_mix", none), "_law_mix", "_law_mix", defArgs s__law_mix, defBody s__law_mix, defScope s__law_mix, [], []⟩,
  ⟨("_law_name_by", none), "_law_name_by", "_law_name_by", defArgs s__law_name_by, defBody s__law_name_by, defScope s__law_name_by, [], []⟩,
  ⟨("_law_texts", none), "_law_texts", "_law_texts", defArgs s__law_texts, defBody s__law_texts, defScope s__law_texts, [], []⟩,
  ⟨("_law_word", none), "_law_word", "_law_word", defArgs s__law_word, defBody s__law_word, defScope s__law_word, [], []⟩,
  ⟨("_law_no_desk", none), "_law_no_desk", "_law_no_desk", defArgs s__law_no_desk, defBody s__law_no_desk, defScope s__law_no_desk, [], []⟩,
  ⟨("_law_enters", none), "_law_enters", "_law_enters", defArgs s__law_enters, defBody s__law_enters, defScope s__law_enters, [], []⟩,
  ⟨("_law_unknown", none), "_law_unknown", "_law_unknown", defArgs s__law_unknown, defBody s__law_unknown, defScope s__law_unknown, [], []⟩,
  ⟨("_law_due", none), "_law_due", "_law_due", defArgs s__law_due, defBody s__law_due, defScope s__law_due, [], []⟩,
  ⟨("_law_stands", none), "_law_stands", "_law_stands", defArgs s__law_stands, defBody s__law_stands, defScope s__law_stands, [], []⟩,
  ⟨("_law_step", none), "_law_step", "_law_step", defArgs s__law_step, defBody s__law_step, defScope s__law_step, [], []⟩,
  ⟨("law", none), "law", "law", defArgs s_law, defBody s_law, defScope s_law, [], []⟩]
def tf : List He.Defn := [("is_name", none)]
def ex (K : PySem.W.Frag) : Bool := (exOk K)
end Rr

set_option maxRecDepth 100000
set_option maxHeartbeats 4000000
namespace Rr
open PySem PySem.Spec PyProof.Rows L2
open GxR (TabG Tabbed)
section
variable {P : Program} {w : World} {K : PySem.W.Frag} {mg : Str → Option Value} {base : Heap}
abbrev tabN (K : PySem.W.Frag) : Addr := He.tabOf K (He.codeOf K ("is_name", none))
abbrev xc (K : PySem.W.Frag) (x : Str) : Value := .ref (He.ga K x)
def sp_is_name (K : PySem.W.Frag) : Sp := fun vs H Q _ => ∃ x : Str, vs = [.str x] ∧ x.length ≤ sizeLine ∧ TabG H (tabN K) ∧ ∀ H', Keep [] H H' → Q (.bl (isName x)) H'
theorem isName_of {x : Str} (h1 : 1 ≤ (x.length : Int)) (h2 : (x.length : Int) ≤ 12) : isName x = x.cps.toList.all isSign := by
  unfold isName
  rw [decide_eq_true (show 1 ≤ x.length ∧ x.length ≤ 12 by omega), Bool.true_and]
theorem isName_no {x : Str} (h : ¬ (1 ≤ (x.length : Int) ∧ (x.length : Int) ≤ 12)) : isName x = false := by
  unfold isName
  rw [decide_eq_false (show ¬ (1 ≤ x.length ∧ x.length ≤ 12) by omega), Bool.false_and]
theorem c_is_name (T : Tx K mg base) : Cal P w K mg base 1 "is_name" (sp_is_name K) := by
  obtain ⟨fd, F⟩ := T.d_is_name
  refine ⟨_, fd, ["text"], okF (k := 0) F sc_is_name (fun vs H Q E h => ?_) (fun A outer s H vs Q E hr h => ?_), T.r_is_name, F.kp, F.bindsN fun _ _ _ _ _ _ us hl => match us, hl with | [_], _ => rfl⟩
  · obtain ⟨x, rfl, _⟩ := h
    rfl
  · have nd := sc_is_name.nd
    obtain ⟨x, rfl, hx, hT, q⟩ := h
    refine ⟨_, (pss_cons (ps_if (pt_not (pt_rng pe_int (pe_callB call_len_str (by rfl) T.m_len boot_len (pa_cons (pv 0) pa_nil)) (pgI (by rfl) T.h_MOST_SIGNS)))
  (pss_one (ps_ret pe_bl))
  pss_nil)
  (pss_one (ps_ret (pe_all hr (by rfl) T.m_all T.tb_is_name rfl (gs_of (by decide +kernel)) (pv 0) (elt_in rfl rfl rfl T.h_SIGNS) (fun _ => rfl))))), ?_⟩
    refine ⟨1, _, 12, fun _ z => z, fun _ z => ⟨_, rfl, _, rfl, hx, z⟩, fun _ z => z, ?_⟩
    by_cases e : 1 ≤ (x.length : Int) ∧ (x.length : Int) ≤ 12
    · rw [decide_eq_true e]
      refine iteF ⟨_, rfl, x, rfl, hT, fun H2 t => ?_⟩
      have e2 := q H2 (Keep.tabbed t hT)
      rw [isName_of e.1 e.2] at e2
      exact e2
    · rw [decide_eq_false e]
      have e2 := q H (Keep.refl _ _)
      rw [isName_no e] at e2
      exact iteT e2
def sp_check_name (K : PySem.W.Frag) : Sp := fun vs H Q E => ∃ x : Str, vs = [.str x] ∧ Small x ∧ TabG H (tabN K) ∧ ∀ H', Keep [] H H' → (isName x = false → E (xc K "NoName") none H') ∧ (isName x = true → Q .non H')
theorem c_check_name (T : Tx K mg base) : Cal P w K mg base 2 "check_name" (sp_check_name K) := by
  have c_is_name : Cal P w K mg base 1 "is_name" (sp_is_name K) := c_is_name T
  obtain ⟨fd, F⟩ := T.d_check_name
  refine ⟨_, fd, ["text"], okF (k := 1) F sc_check_name (fun vs H Q E h => ?_) (fun A outer s H vs Q E hr h => ?_), T.r_check_name, F.kp, F.bindsN fun _ _ _ _ _ _ us hl => match us, hl with | [_], _ => rfl⟩
  · obtain ⟨x, rfl, _⟩ := h
    rfl
  · have nd := sc_check_name.nd
    obtain ⟨x, rfl, hx, hT, q⟩ := h
    refine ⟨_, (pss_one (ps_if (pt_not (pt_val (pf c_is_name hr (by decide) (by rfl) p0 (pa_cons (pv 0) pa_nil))))
  (pss_one (L2N.ps_raise rfl (L2N.takes_of rfl rfl rfl rfl) (pmk1 PySem.F.excBase_ValueError T.e_NoName.1 T.r_NoName T.e_NoName.2.1 (raises_own T.e_NoName.2.2.1 T.e_NoName.2.2.2) rfl (pe_joined (.cons (pe_fmtR (pv 0)) (.cons pe_str .nil))))))
  pss_nil)), ?_⟩
    refine ⟨_, rfl, x, rfl, hx.line, hT, fun H2 k2 => ⟨_, rfl, ?_⟩⟩
    cases e : isName x with
    | true => exact iteF ((q H2 k2).2 e)
    | false =>
      have h1 := fitN (k := 1000002) 0 1000002 len0 hx.repr
      exact iteT ⟨_, rfl, .inl ⟨_, rfl, line_of hx.repr, _, rfl, line_of h1, _, rfl, fit 1000002 20 h1 (by decide), (q H2 k2).1 e⟩⟩
def sp_check_rank (K : PySem.W.Frag) : Sp := fun vs H Q E => ∃ r : Int, vs = [.int r] ∧ Mod r ∧ (¬ (0 ≤ r ∧ r ≤ 99) → E (xc K "NoRank") none H) ∧ (0 ≤ r ∧ r ≤ 99 → Q .non H)
theorem c_check_rank (T : Tx K mg base) : Cal P w K mg base 1 "check_rank" (sp_check_rank K) := by
  obtain ⟨fd, F⟩ := T.d_check_rank
  refine ⟨_, fd, ["rank"], okF (k := 0) F sc_check_rank (fun vs H Q E h => ?_) (fun A outer s H vs Q E hr h => ?_), T.r_check_rank, F.kp, F.bindsN fun _ _ _ _ _ _ us hl => match us, hl with | [_], _ => rfl⟩
  · obtain ⟨x, rfl, _⟩ := h
    rfl
  · have nd := sc_check_rank.nd
    obtain ⟨r, rfl, hr9, q1, q2⟩ := h
    refine ⟨_, (pss_one (ps_if (pt_not (pt_rng pe_int (pv 0) (pgI (by rfl) T.h_TOP)))
  (pss_one (L2N.ps_raise rfl (L2N.takes_of rfl rfl rfl rfl) (pmk1 PySem.F.excBase_ValueError T.e_NoRank.1 T.r_NoRank T.e_NoRank.2.1 (raises_own T.e_NoRank.2.2.1 T.e_NoRank.2.2.2) rfl (pe_joined (.cons pe_str (.cons (pe_fmt (pgI (by rfl) T.h_TOP)) (.cons pe_str (.cons (pe_fmt (pv 0)) .nil))))))))
  pss_nil)), ?_⟩
    refine ⟨0, r, 99, fun _ z => z, fun _ z => ⟨_, rfl, z⟩, fun _ z => z, ?_⟩
    by_cases e : 0 ≤ r ∧ r ≤ 99
    · rw [decide_eq_true e]
      exact iteF (q2 e)
    · rw [decide_eq_false e]
      refine iteT ⟨_, rfl, by decide, .inr ⟨99, rfl, by decide, _, rfl, fit 24 4 (by decide) (by decide), _, rfl, fit 28 10 (by decide) (by decide), _, rfl, .inr ⟨r, rfl, hr9.log, _, rfl, fit 40 1921 (by decide) hr9.len, q1 e⟩⟩⟩
/-! ### the makers -/
abbrev rawC (n : Str) (r : Int) (a b c d : V) : List (Str × V) := [("name", .str n), ("rank", .int r), ("state", a), ("since", b), ("due", c), ("bell", d)]
def sp_Caller (K : PySem.W.Frag) : Sp := fun vs H Q _ => ∃ (x dx : Addr) (n : Str) (r : Int) (s : V), vs = [.ref x, .str n, .int r, s] ∧ H x = some (.ins (He.ga K "Caller") dx []) ∧ Q .non (upd H x (.ins (He.ga K "Caller") dx (rawC n r (.str "ready") s .non .non)))
theorem c_Caller (T : Tx K mg base) : Mak P w K mg base 1 "Caller" (He.ga K "Caller") (sp_Caller K) := by
  obtain ⟨fd, F⟩ := T.d_Caller___init__
  refine ⟨_, fd, ["self", "name", "rank", "since"], T.mk_Caller, okF (k := 0) F sc_Caller___init__ (fun vs H Q E h => ?_) (fun A outer s H vs Q E hr h => ?_), T.r_Caller, F.bindsN fun _ _ _ _ _ _ us hl => match us, hl with | [_, _, _, _], _ => rfl⟩
  · obtain ⟨x, dx, n, r, s, rfl, _⟩ := h
    rfl
  · have nd := sc_Caller___init__.nd
    obtain ⟨x, dx, n, r, s, rfl, h0, q⟩ := h
    refine ⟨_, (pss_cons (ps_fld (pv 0) (pv 1) rfl)
  (pss_cons (ps_fld (pv 0) (pv 2) rfl)
  (pss_cons (ps_fld (pv 0) (pgS (by rfl) T.h_READY) rfl)
  (pss_cons (ps_fld (pv 0) (pv 3) rfl)
  (pss_cons (ps_fld (pv 0) pe_non rfl)
  (pss_one (ps_fld (pv 0) pe_non rfl))))))), ?_⟩
    have l0 : ([] : List (Str × V)).length ≤ 0 := Nat.le_refl 0
    refine ⟨_, rfl, _, rfl, x, _, dx, _, rfl, h0, T.cl_Caller, T.na_Caller_name, few l0, ?_⟩
    refine ⟨_, rfl, _, rfl, x, _, dx, _, rfl, upd_same, T.cl_Caller, T.na_Caller_rank, few (putF_le l0), ?_⟩
    refine ⟨_, rfl, x, _, dx, _, rfl, upd_same, T.cl_Caller, T.na_Caller_state, few (putF_le (putF_le l0)), ?_⟩
    refine ⟨_, rfl, _, rfl, x, _, dx, _, rfl, upd_same, T.cl_Caller, T.na_Caller_since, few (putF_le (putF_le (putF_le l0))), ?_⟩
    refine ⟨_, rfl, x, _, dx, _, rfl, upd_same, T.cl_Caller, T.na_Caller_due, few (putF_le (putF_le (putF_le (putF_le l0)))), ?_⟩
    refine ⟨_, rfl, x, _, dx, _, rfl, upd_same, T.cl_Caller, T.na_Caller_bell, few (putF_le (putF_le (putF_le (putF_le (putF_le l0))))), ?_⟩
    simp only [upd_upd]
    exact q
def sp_Desk (K : PySem.W.Frag) : Sp := fun vs H Q E => ∃ (d dx : Addr) (p r : Int), vs = [.ref d, .int p, .int r] ∧ Mod p ∧ Mod r ∧ H d = some (.ins (He.ga K "Desk") dx []) ∧ (¬ ((1 ≤ p ∧ p ≤ 1000) ∧ 1 ≤ r ∧ r ≤ 60) → E (xc K "NoDesk") none H) ∧
  (((1 ≤ p ∧ p ≤ 1000) ∧ 1 ≤ r ∧ r ≤ 60) → ∀ L H', H L = none → Keep [d] H H' → DkAt K H' [d, L] d ⟨p, r, 0, []⟩ → Q .non H')
theorem c_Desk (T : Tx K mg base) : Mak P w K mg base 1 "Desk" (He.ga K "Desk") (sp_Desk K) := by
  obtain ⟨fd, F⟩ := T.d_Desk___init__
  refine ⟨_, fd, ["self", "pace", "room"], T.mk_Desk, okF (k := 0) F sc_Desk___init__ (fun vs H Q E h => ?_) (fun A outer s H vs Q E hr h => ?_), T.r_Desk, F.bindsN fun _ _ _ _ _ _ us hl => match us, hl with | [_, _, _], _ => rfl⟩
  · obtain ⟨d, dx, p, r, rfl, _⟩ := h
    rfl
  · have nd := sc_Desk___init__.nd
    obtain ⟨d, dx, p, r, rfl, hp9, hr9, h0, q1, q2⟩ := h
    refine ⟨_, (pss_cons (ps_if (pt_not (pt_rng pe_int (pv 1) (pgI (by rfl) T.h_MOST_PACE)))
  (pss_one (L2N.ps_raise rfl (L2N.takes_of rfl rfl rfl rfl) (pmk1 PySem.F.excBase_ValueError T.e_NoDesk.1 T.r_NoDesk T.e_NoDesk.2.1 (raises_own T.e_NoDesk.2.2.1 T.e_NoDesk.2.2.2) rfl (pe_joined (.cons pe_str (.cons (pe_fmt (pgI (by rfl) T.h_MOST_PACE)) (.cons pe_str (.cons (pe_fmt (pv 1)) .nil))))))))
  pss_nil)
  (pss_cons (ps_if (pt_not (pt_rng pe_int (pv 2) (pgI (by rfl) T.h_MOST_ROOM)))
  (pss_one (L2N.ps_raise rfl (L2N.takes_of rfl rfl rfl rfl) (pmk1 PySem.F.excBase_ValueError T.e_NoDesk.1 T.r_NoDesk T.e_NoDesk.2.1 (raises_own T.e_NoDesk.2.2.1 T.e_NoDesk.2.2.2) rfl (pe_joined (.cons pe_str (.cons (pe_fmt (pgI (by rfl) T.h_MOST_ROOM)) (.cons pe_str (.cons (pe_fmt (pv 2)) .nil))))))))
  pss_nil)
  (pss_cons (ps_fld (pv 0) (pv 1) rfl)
  (pss_cons (ps_fld (pv 0) (pv 2) rfl)
  (pss_cons (ps_fld (pv 0) pe_int rfl)
  (pss_one (ps_fld (pv 0) pe_dnewK rfl))))))), ?_⟩
    refine ⟨1, p, 1000, fun _ z => z, fun _ z => ⟨_, rfl, z⟩, fun _ z => z, ?_⟩
    by_cases e1 : 1 ≤ p ∧ p ≤ 1000
    case neg =>
      rw [decide_eq_false e1]
      refine iteT ⟨_, rfl, by decide, .inr ⟨1000, rfl, by decide, _, rfl, fit 24 4 (by decide) (by decide), _, rfl, fit 28 10 (by decide) (by decide), _, rfl, .inr ⟨p, rfl, hp9.log, _, rfl, fit 40 1921 (by decide) hp9.len, q1 fun z => e1 z.1⟩⟩⟩
    rw [decide_eq_true e1]
    refine iteF ⟨1, r, 60, fun _ z => z, fun _ z => ⟨_, rfl, z⟩, fun _ z => z, ?_⟩
    by_cases e2 : 1 ≤ r ∧ r ≤ 60
    case neg =>
      rw [decide_eq_false e2]
      refine iteT ⟨_, rfl, by decide, .inr ⟨60, rfl, by decide, _, rfl, fit 24 4 (by decide) (by decide), _, rfl, fit 28 10 (by decide) (by decide), _, rfl, .inr ⟨r, rfl, hr9.log, _, rfl, fit 40 1921 (by decide) hr9.len, q1 fun z => e2 z.2⟩⟩⟩
    rw [decide_eq_true e2]
    have l0 : ([] : List (Str × V)).length ≤ 0 := Nat.le_refl 0
    refine iteF ⟨_, rfl, _, rfl, d, _, dx, _, rfl, h0, T.cl_Desk, T.na_Desk_pace, few l0, ?_⟩
    refine ⟨_, rfl, _, rfl, d, _, dx, _, rfl, upd_same, T.cl_Desk, T.na_Desk_room, few (putF_le l0), ?_⟩
    refine ⟨_, rfl, d, _, dx, _, rfl, upd_same, T.cl_Desk, T.na_Desk_now, few (putF_le (putF_le l0)), ?_⟩
    simp only [upd_upd]
    intro L hL
    have hL0 : H L = none := (Keep.upd (S := [d]) h0 (List.mem_singleton.mpr rfl) nt_ins).gone L hL
    have dL : d ≠ L := ne_of_none h0 hL0
    refine ⟨_, rfl, d, _, dx, _, rfl, (upd_ne dL).trans upd_same, T.cl_Desk, T.na_Desk__line, few (putF_le (putF_le (putF_le l0))), ?_⟩
    refine q2 ⟨e1, e2⟩ L _ hL0 (((Keep.upd h0 (List.mem_singleton.mpr rfl) nt_ins).trans (Keep.new hL)).trans (Keep.upd ((upd_ne dL).trans upd_same) (List.mem_singleton.mpr rfl) nt_ins)) ⟨L, [], rfl, ⟨dx, upd_same⟩, (upd_ne dL.symm).trans upd_same, fun p hp => (nomatch hp), rfl, List.nodup_nil, List.nodup_nil, Nat.zero_le _, fun c hc => (nomatch hc), ⟨e1, e2⟩⟩
/-- a new desk -/
theorem made_desk {H : Hp} {p r : Int} {Q : VK} {E : XK} {x dx : Addr} (ok : (1 ≤ p ∧ p ≤ 1000) ∧ 1 ≤ r ∧ r ≤ 60) (q : ∀ S H', Keep [] H H' → DkAt K H' S x ⟨p, r, 0, []⟩ → (∀ b ∈ S, H b = none) → Q .non H') (nx : H x = none) (ndx : H dx = none) (ne : dx ≠ x) :
    sp_Desk K [.ref x, .int p, .int r] (upd (upd H dx (.own x)) x (.ins (He.ga K "Desk") dx [])) Q E := by
  have k1 : Keep [] H (upd (upd H dx (.own x)) x (.ins (He.ga K "Desk") dx [])) := (Keep.new ndx).trans (Keep.new ((upd_ne ne.symm).trans nx))
  refine ⟨x, dx, p, r, rfl, ⟨by omega, by omega⟩, ⟨by omega, by omega⟩, upd_same, fun z => absurd ok z, fun _ L H' hL k hD => q [x, L] H' (k1.trans' k fun b hb => .inr (by rw [List.mem_singleton.mp hb]; exact nx)) hD fun b hb => ?_⟩
  rcases List.mem_cons.mp hb with z | z
  · rw [z]
    exact nx
  · rw [List.mem_singleton.mp z]
    exact k1.gone L hL
/-- who enters -/
def Dk.enter (D : Dk) (n : Str) (r : Int) : Dk := { D with line := D.line ++ [⟨n, r, .rdy D.now⟩] }
def sp_enter (K : PySem.W.Frag) : Sp := fun vs H Q E => ∃ (d : Addr) (S : List Addr) (D : Dk) (n : Str) (r : Int), vs = [.ref d, .str n, .int r] ∧ Small n ∧ Mod r ∧ TabG H (tabN K) ∧ DkAt K H S d D ∧ D.room ≤ 60 ∧ 0 ≤ D.room ∧ ∀ H',
  (Keep [] H H' → isName n = false → E (xc K "NoName") none H') ∧ (Keep [] H H' → isName n = true → ¬ (0 ≤ r ∧ r ≤ 99) → E (xc K "NoRank") none H') ∧
  (Keep [] H H' → isName n = true → (0 ≤ r ∧ r ≤ 99) → n ∈ namesL D.line → E (xc K "Known") none H') ∧ (Keep [] H H' → isName n = true → (0 ≤ r ∧ r ≤ 99) → n ∉ namesL D.line → D.room ≤ D.line.length → E (xc K "Full") none H') ∧
  (isName n = true → (0 ≤ r ∧ r ≤ 99) → n ∉ namesL D.line → ¬ D.room ≤ D.line.length → ∀ S', Keep S H H' → Sub H S S' → DkAt K H' S' d (D.enter n r) → Q .non H')
theorem c_Desk_enter (T : Tx K mg base) : Met P w K mg base 3 (He.ga K "Desk") "enter" (sp_enter K) := by
  have c_check_name : Cal P w K mg base 2 "check_name" (sp_check_name K) := c_check_name T
  have c_check_rank : Cal P w K mg base 1 "check_rank" (sp_check_rank K) := c_check_rank T
  have c_Caller : Mak P w K mg base 1 "Caller" (He.ga K "Caller") (sp_Caller K) := c_Caller T
  obtain ⟨fd, F⟩ := T.d_Desk_enter
  refine ⟨_, fd, ["self", "name", "rank"], T.cl_Desk, T.me_Desk_enter, okF (k := 2) F sc_Desk_enter (fun vs H Q E h => ?_) (fun A outer s H vs Q E hr h => ?_), F.bindsN fun _ _ _ _ _ _ us hl => match us, hl with | [_, _, _], _ => rfl⟩
  · obtain ⟨d, S, D, n, r, rfl, _⟩ := h
    rfl
  · have nd := sc_Desk_enter.nd
    obtain ⟨d, S, D, n, r, rfl, hn9, hr9, hT, hD, hr60, hr0, q⟩ := h
    refine ⟨_, (pss_cons (ps_expr (pf c_check_name hr (by decide) (by rfl) (pU (L2N.takes_of rfl rfl rfl rfl)) (pa_cons (pv 1) pa_nil)))
  (pss_cons (ps_expr (pf c_check_rank hr (by decide) (by rfl) (pU (L2N.takes_of rfl rfl rfl rfl)) (pa_cons (pv 2) pa_nil)))
  (pss_cons (ps_if (pt_cmp (pc_din (hu_of hr) (pv 1) (pe_fld (pv 0) rfl)))
  (pss_one (L2N.ps_raise rfl (L2N.takes_of rfl rfl rfl rfl) (pmk1 PySem.F.excBase_ValueError T.e_Known.1 T.r_Known T.e_Known.2.1 (raises_own T.e_Known.2.2.1 T.e_Known.2.2.2) rfl (pe_joined (.cons pe_str (.cons (pe_fmt (pv 1)) (.cons pe_str .nil)))))))
  pss_nil)
  (pss_cons (ps_if (pt_cmpR op_ge (pe_callB call_lenD (by rfl) T.m_len boot_len (pa_cons (pe_fld (pv 0) rfl) pa_nil)) (pe_fld (pv 0) rfl) (nomark _))
  (pss_one (L2N.ps_raise rfl (L2N.takes_of rfl rfl rfl rfl) (pmk1 PySem.F.excBase_ValueError T.e_Full.1 T.r_Full T.e_Full.2.1 (raises_own T.e_Full.2.2.1 T.e_Full.2.2.2) rfl (pe_joined (.cons pe_str (.cons (pe_fmt (pe_fld (pv 0) rfl)) (.cons pe_str .nil)))))))
  pss_nil)
  (pss_one (ps_dput (hu_of hr) (pe_fld (pv 0) rfl) (pv 1) (pc c_Caller hr (by decide) (by rfl) passN (pa_cons (pv 1) (pa_cons (pv 2) (pa_cons (pe_fld (pv 0) rfl) pa_nil)))) rfl)))))), ?_⟩
    refine ⟨_, rfl, n, rfl, hn9, hT, fun H1 k1 => ⟨fun e => (q H1).1 k1 e, fun en => ?_⟩⟩
    refine ⟨_, rfl, r, rfl, hr9, fun e => (q H1).2.1 k1 en e, fun er => ?_⟩
    obtain ⟨L, ln, rfl, x0⟩ := hD
    have x := x0.keep k1 fun _ _ => List.not_mem_nil
    obtain ⟨dx, hd⟩ := id x.desk
    refine ⟨_, rfl, _, rfl, d, _, dx, _, _, rfl, hd, T.cl_Desk, T.na_Desk__line, rfl, L, _, rfl, DGet.k (k := Sum.inr n) x.line, _, rfl, ?_⟩
    by_cases em : n ∈ namesL D.line
    · obtain ⟨p, e1, _⟩ := find_some (ln := ln) (by rw [x.eq]; exact em)
      rw [kvs_find, e1]
      refine iteT ⟨_, rfl, by decide, _, rfl, .inl ⟨n, rfl, hn9.line, _, rfl, fit 30 100000 (by decide) hn9.1, _, rfl, fit 100030 30 (fitN 30 100000 (by decide) hn9.1) (by decide), (q H1).2.2.1 k1 en er em⟩⟩
    · rw [kvs_find, find_none (by rw [x.eq]; exact em)]
      refine iteF ⟨_, rfl, d, _, dx, _, _, rfl, hd, T.cl_Desk, T.na_Desk__line, rfl, L, _, rfl, x.line, _, rfl, d, _, dx, _, _, rfl, hd, T.cl_Desk, T.na_Desk_room, rfl, _, _, rfl, rfl, _, rfl, ?_⟩
      rw [kvs_len]
      have el : ln.length = D.line.length := by rw [← x.eq, List.length_map]
      rw [el]
      by_cases ef : D.room ≤ (D.line.length : Int)
      · rw [decide_eq_true ef]
        have mr : Mod D.room := ⟨by omega, by omega⟩
        refine iteT ⟨_, rfl, by decide, _, rfl, d, _, dx, _, _, rfl, hd, T.cl_Desk, T.na_Desk_room, rfl, .inr ⟨_, rfl, mr.log, _, rfl, fit 30 1921 (by decide) mr.len, _, rfl, fit 2000 30 (fitN 30 1921 (by decide) mr.len) (by decide), (q H1).2.2.2.1 k1 en er em ef⟩⟩
      · rw [decide_eq_false ef]
        refine iteF ⟨_, rfl, _, rfl, _, rfl, d, _, dx, _, _, rfl, hd, T.cl_Desk, T.na_Desk_now, rfl, fun a da na nda ne => ?_⟩
        have nda' : ∀ b o, H1 b = some o → b ≠ da ∧ b ≠ a := fun b o e => ⟨ne_of_none e nda, ne_of_none e na⟩
        refine ⟨a, da, n, r, .int D.now, rfl, upd_same, rfl, ?_⟩
        rw [upd_upd]
        obtain ⟨z1, z2⟩ := nda' _ _ hd
        obtain ⟨y1, y2⟩ := nda' _ _ x.line
        refine ⟨_, rfl, d, _, dx, _, _, rfl, (upd_ne z2).trans ((upd_ne z1).trans hd), T.cl_Desk, T.na_Desk__line, rfl, _, rfl, _, _, rfl, DPut.k (k := Sum.inr n) ((upd_ne y2).trans ((upd_ne y1).trans x.line)) ?_, ?_⟩
        · rw [kvs_len, el]
          exact small1000 (Nat.le_trans x.len (by decide))
        · refine (q _).2.2.2.2 en er em ef (d :: L :: (ln ++ [(a, (⟨n, r, .rdy D.now⟩ : Cr))]).map (·.1)) ?_ ?_ ⟨L, _, rfl, x.add (c := ⟨n, r, .rdy D.now⟩) na nda ne em (by omega) en⟩
          · exact (((k1.any.trans (Keep.new nda)).trans (Keep.new ((upd_ne ne.symm).trans na))).trans (Keep.upd ((upd_ne y2).trans ((upd_ne y1).trans x.line)) (by simp) nt_dK))
          · intro b hb
            rw [List.map_append] at hb
            rcases List.mem_cons.mp hb with z | z
            · exact .inl (by rw [z]; simp)
            · rcases List.mem_cons.mp z with z | z
              · exact .inl (by rw [z]; simp)
              · rcases List.mem_append.mp z with z | z
                · exact .inl (by simp [z])
                · have : b = a := by simpa using z
                  rw [this]
                  exact .inr (k1.gone _ na)
def sp_names (K : PySem.W.Frag) : Sp := fun vs H Q _ => ∃ (d : Addr) (S : List Addr) (D : Dk), vs = [.ref d] ∧ DkAt K H S d D ∧ ∀ p, H p = none → Q (.ref p) (upd H p (.lst ((namesL D.line).map V.str)))
theorem c_Desk_names (T : Tx K mg base) : Met P w K mg base 1 (He.ga K "Desk") "names" (sp_names K) := by
  obtain ⟨fd, F⟩ := T.d_Desk_names
  refine ⟨_, fd, ["self"], T.cl_Desk, T.me_Desk_names, okF (k := 0) F sc_Desk_names (fun vs H Q E h => ?_) (fun A outer s H vs Q E hr h => ?_), F.bindsN fun _ _ _ _ _ _ us hl => match us, hl with | [_], _ => rfl⟩
  · obtain ⟨d, S, D, rfl, _⟩ := h
    rfl
  · have nd := sc_Desk_names.nd
    obtain ⟨d, S, D, rfl, ⟨L, ln, rfl, x⟩, q⟩ := h
    obtain ⟨dx, hd⟩ := id x.desk
    refine ⟨_, (pss_one (ps_ret (pe_callTy (call_listD rfl) (by rfl) T.m_list (by decide +kernel) (pa_cons (pe_fld (pv 0) rfl) pa_nil)))), ?_⟩
    refine ⟨_, rfl, d, _, dx, _, _, rfl, hd, T.cl_Desk, T.na_Desk__line, rfl, L, _, rfl, .inl x.line, ?_⟩
    rw [kvs_keys, x.eq]
    exact q
end
end Rr

set_option maxRecDepth 100000
set_option maxHeartbeats 4000000
namespace Rr
open PySem PySem.Spec PyProof.Rows L2
open GxR (TabG Tabbed)
section
variable {P : Program} {w : World} {K : PySem.W.Frag} {mg : Str → Option Value} {base : Heap}
/-! ### callers -/
def sp_become (K : PySem.W.Frag) : Sp := fun vs H Q _ => ∃ (x dx : Addr) (n : Str) (r : Int) (v1 v2 v3 v4 : V) (st : Stt), vs = [.ref x, .str st.word, st.sinceV, st.dueV, st.bellV] ∧ H x = some (.ins (He.ga K "Caller") dx (rawC n r v1 v2 v3 v4)) ∧ Q .non (upd H x (.ins (He.ga K "Caller") dx (Cr.fs ⟨n, r, st⟩)))
theorem f_become (T : Tx K mg base) {fd : FuncData} (F : FunD K "become" "Caller.become" (defArgs s_Caller_become) (defBody s_Caller_become) (defScope s_Caller_become) [.non, .non, .non] [] (He.fAd K ("Caller", some "become")) fd) :
    FnOk P w K mg base (L2N.CX P w) 1 (He.fAd K ("Caller", some "become")) fd ["self", "state", "since", "due", "bell"] (sp_become K) := by
  refine okF (k := 0) F sc_Caller_become (fun vs H Q E h => ?_) (fun A outer s H vs Q E hr h => ?_)
  · obtain ⟨x, dx, n, r, v1, v2, v3, v4, st, rfl, _⟩ := h
    rfl
  · have nd := sc_Caller_become.nd
    obtain ⟨x, dx, n, r, v1, v2, v3, v4, st, rfl, h0, q⟩ := h
    refine ⟨_, (pss_cons (ps_fld (pv 0) (pv 1) rfl)
  (pss_cons (ps_fld (pv 0) (pv 2) rfl)
  (pss_cons (ps_fld (pv 0) (pv 3) rfl)
  (pss_one (ps_fld (pv 0) (pv 4) rfl))))), ?_⟩
    have l6 : (rawC n r v1 v2 v3 v4).length < 1000 := show 6 < 1000 by decide
    refine ⟨_, rfl, _, rfl, x, _, dx, _, rfl, h0, T.cl_Caller, T.na_Caller_state, l6, ?_⟩
    refine ⟨_, rfl, _, rfl, x, _, dx, _, rfl, upd_same, T.cl_Caller, T.na_Caller_since, (show 6 < 1000 by decide), ?_⟩
    refine ⟨_, rfl, _, rfl, x, _, dx, _, rfl, upd_same, T.cl_Caller, T.na_Caller_due, (show 6 < 1000 by decide), ?_⟩
    refine ⟨_, rfl, _, rfl, x, _, dx, _, rfl, upd_same, T.cl_Caller, T.na_Caller_bell, (show 6 < 1000 by decide), ?_⟩
    simp only [upd_upd]
    exact q
theorem c_Caller_become (T : Tx K mg base) : Met P w K mg base 1 (He.ga K "Caller") "become" (sp_become K) := by
  obtain ⟨fd, F⟩ := T.d_Caller_become
  obtain ⟨ds, rd, b⟩ := F.binds1 (ps := ["self", "state", "since", "due", "bell"]) 5 3 (by simp) rfl fun T kV doc pm an cdv ct us its hl hi => match us, its, hl, hi with | [_, _, _, _, _], [_, _, _], _, _ => ⟨_, rfl, rfl⟩
  cases rd
  exact ⟨_, fd, _, T.cl_Caller, T.me_Caller_become, f_become T F, b⟩
theorem c_Caller_become_since (T : Tx K mg base) : MetK P w K mg base 1 (He.ga K "Caller") "become" (sp_become K) 2 ["since"] (fun vs zs => vs ++ (zs ++ [.non, .non])) := by
  obtain ⟨fd, F⟩ := T.d_Caller_become
  obtain ⟨its, b⟩ := F.kbindsD (ps := ["self", "state", "since", "due", "bell"]) 2 ["since"] (fun us ds zs => us ++ (zs ++ ds.drop 1)) (by simp) (fun r1 r2 r3 => r1.append (r3.append (r2.drop 1)))
    fun T kV doc pm an cdv ct us its ws h1 h2 h3 => match us, its, ws, h1, h2, h3 with | [_, _], [_, _, _], [_], _, _, _ => ⟨_, rfl, rfl⟩
  exact ⟨_, fd, _, _, T.cl_Caller, T.me_Caller_become, f_become T F, b⟩
theorem c_Caller_become_due (T : Tx K mg base) : MetK P w K mg base 1 (He.ga K "Caller") "become" (sp_become K) 2 ["due"] (fun vs zs => vs ++ ([.non] ++ (zs ++ [.non]))) := by
  obtain ⟨fd, F⟩ := T.d_Caller_become
  obtain ⟨its, b⟩ := F.kbindsD (ps := ["self", "state", "since", "due", "bell"]) 2 ["due"] (fun us ds zs => us ++ (ds.take 1 ++ (zs ++ ds.drop 2))) (by simp) (fun r1 r2 r3 => r1.append ((r2.take 1).append (r3.append (r2.drop 2))))
    fun T kV doc pm an cdv ct us its ws h1 h2 h3 => match us, its, ws, h1, h2, h3 with | [_, _], [_, _, _], [_], _, _, _ => ⟨_, rfl, rfl⟩
  exact ⟨_, fd, _, _, T.cl_Caller, T.me_Caller_become, f_become T F, b⟩
theorem c_Caller_become_bell (T : Tx K mg base) : MetK P w K mg base 1 (He.ga K "Caller") "become" (sp_become K) 2 ["bell"] (fun vs zs => vs ++ ([.non, .non] ++ zs)) := by
  obtain ⟨fd, F⟩ := T.d_Caller_become
  obtain ⟨its, b⟩ := F.kbindsD (ps := ["self", "state", "since", "due", "bell"]) 2 ["bell"] (fun us ds zs => us ++ (ds.take 2 ++ zs)) (by simp) (fun r1 r2 r3 => r1.append ((r2.take 2).append r3))
    fun T kV doc pm an cdv ct us its ws h1 h2 h3 => match us, its, ws, h1, h2, h3 with | [_, _], [_, _, _], [_], _, _, _ => ⟨_, rfl, rfl⟩
  exact ⟨_, fd, _, _, T.cl_Caller, T.me_Caller_become, f_become T F, b⟩
/-! ### a desk's own -/
def sp_known (K : PySem.W.Frag) : Sp := fun vs H Q E => ∃ (d L : Addr) (ln : Ln) (D : Dk) (n : Str), vs = [.ref d, .str n] ∧ Small n ∧ DkIn K H d L ln D ∧ (n ∉ namesL D.line → E (xc K "Unknown") none H) ∧ ∀ p ∈ ln, p.2.name = n → Q (.ref p.1) H
theorem c_Desk__known (T : Tx K mg base) : Met P w K mg base 1 (He.ga K "Desk") "_known" (sp_known K) := by
  obtain ⟨fd, F⟩ := T.d_Desk__known
  refine ⟨_, fd, ["self", "name"], T.cl_Desk, T.me_Desk__known, okF (k := 0) F sc_Desk__known (fun vs H Q E h => ?_) (fun A outer s H vs Q E hr h => ?_), F.bindsN fun _ _ _ _ _ _ us hl => match us, hl with | [_, _], _ => rfl⟩
  · obtain ⟨d, L, ln, D, n, rfl, _⟩ := h
    rfl
  · have nd := sc_Desk__known.nd
    obtain ⟨d, L, ln, D, n, rfl, hn, x, q1, q2⟩ := h
    obtain ⟨dx, hd⟩ := id x.desk
    refine ⟨_, (pss_cons (ps_set (i := 2) nd rfl (Or.inl rfl) (pe_dget1 (hu_of hr) (pe_fld (pv 0) rfl) (pv 1) ⟨by rfl, by rfl, by rfl, by rfl⟩))
  (pss_cons (ps_if (pt_cmpR op_isN (pv 2) pe_non (nomark _))
  (pss_one (L2N.ps_raise rfl (L2N.takes_of rfl rfl rfl rfl) (pmk1 PySem.F.excBase_ValueError T.e_Unknown.1 T.r_Unknown T.e_Unknown.2.1 (raises_own T.e_Unknown.2.2.1 T.e_Unknown.2.2.2) rfl (pe_joined (.cons pe_str (.cons (pe_fmtR (pv 1)) .nil))))))
  pss_nil)
  (pss_one (ps_ret (pv 2))))), ?_⟩
    refine ⟨_, rfl, d, _, _, _, _, rfl, hd, T.cl_Desk, T.na_Desk__line, rfl, L, rfl, .inl ⟨_, .inl x.line⟩, _, rfl, _, DGet.k (k := Sum.inr n) x.line, ?_⟩
    rw [kvs_find]
    by_cases em : n ∈ namesL D.line
    · obtain ⟨p, e1, hp, e2⟩ := find_some (ln := ln) (by rw [x.eq]; exact em)
      rw [e1]
      exact ⟨_, rfl, rfl, _, rfl, iteF ⟨_, rfl, q2 p hp e2⟩⟩
    · rw [find_none (by rw [x.eq]; exact em)]
      have h1 := fitN (k := 1000100) 0 1000002 len0 hn.repr
      refine ⟨_, rfl, rfl, _, rfl, iteT ⟨_, rfl, by decide, _, rfl, .inl ⟨_, rfl, line_of hn.repr, _, rfl, fit 100 1000002 (by decide) hn.repr, q1 em⟩⟩⟩
def sp_waitedC (K : PySem.W.Frag) : Sp := fun vs H Q _ => ∃ (d L : Addr) (ln : Ln) (D : Dk) (p : Addr × Cr), vs = [.ref d, .ref p.1] ∧ DkIn K H d L ln D ∧ p ∈ ln ∧ p.2.st.isRdy = true ∧ Q (.int (D.now - p.2.st.since)) H
theorem c_Desk__waited (T : Tx K mg base) : Met P w K mg base 1 (He.ga K "Desk") "_waited" (sp_waitedC K) := by
  obtain ⟨fd, F⟩ := T.d_Desk__waited
  refine ⟨_, fd, ["self", "caller"], T.cl_Desk, T.me_Desk__waited, okF (k := 0) F sc_Desk__waited (fun vs H Q E h => ?_) (fun A outer s H vs Q E hr h => ?_), F.bindsN fun _ _ _ _ _ _ us hl => match us, hl with | [_, _], _ => rfl⟩
  · obtain ⟨d, L, ln, D, p, rfl, _⟩ := h
    rfl
  · have nd := sc_Desk__waited.nd
    obtain ⟨d, L, ln, D, ⟨a, n, r, st⟩, rfl, x, hp, hr1, q⟩ := h
    obtain ⟨dx, hd⟩ := id x.desk
    obtain ⟨dy, hc⟩ := id (x.crs _ hp)
    refine ⟨_, (pss_one (ps_ret (pe_op op_sub (pe_fld (pv 0) rfl) (pe_fld (pv 1) rfl)))), ?_⟩
    cases st with
    | rdy s =>
      exact ⟨_, rfl, d, _, _, _, _, rfl, hd, T.cl_Desk, T.na_Desk_now, rfl, _, rfl, a, _, _, _, _, rfl, hc, T.cl_Caller, T.na_Caller_since, rfl, _, _, rfl, rfl, q⟩
    | slp _ => cases hr1
    | wtg _ => cases hr1
end
end Rr

set_option maxRecDepth 100000
set_option maxHeartbeats 4000000
namespace Rr
open PySem PySem.Spec PyProof.Rows L2
open GxR (TabG Tabbed)
theorem word_rdy (st : Stt) : decide (V.str st.word = V.str "ready") = st.isRdy := by
  cases st
  · exact decide_eq_true rfl
  · exact decide_eq_false fun h => absurd (V.str.inj h) (show ¬ ("asleep" : Str) = "ready" by decide +kernel)
  · exact decide_eq_false fun h => absurd (V.str.inj h) (show ¬ ("waiting" : Str) = "ready" by decide +kernel)
theorem word_len : ∀ st : Stt, st.word.length ≤ 7
  | .rdy _ => show ("ready" : Str).length ≤ 7 by decide +kernel
  | .slp _ => show ("asleep" : Str).length ≤ 7 by decide +kernel
  | .wtg _ => show ("waiting" : Str).length ≤ 7 by decide +kernel
theorem setC_mem {c : Cr} {l : List Cr} (h : c.name ∈ namesL l) : c ∈ setC c l := by
  obtain ⟨x, hx, e⟩ := List.mem_map.mp h
  exact List.mem_map.mpr ⟨x, hx, if_pos e⟩
theorem setLn_mem {a : Addr} {c c' : Cr} {l : Ln} (h : (a, c) ∈ l) (e : c'.name = c.name) : (a, c') ∈ setLn c' l := List.mem_map.mpr ⟨(a, c), h, by rw [if_pos e.symm]⟩
theorem in_names {K : PySem.W.Frag} {H : Hp} {d L : Addr} {ln : Ln} {D : Dk} (x : DkIn K H d L ln D) {p : Addr × Cr} (h : p ∈ ln) : p.2 ∈ D.line ∧ p.2.name ∈ namesL D.line := by
  have : p.2 ∈ D.line := by rw [← x.eq]; exact List.mem_map_of_mem h
  exact ⟨this, List.mem_map_of_mem this⟩
section
variable {P : Program} {w : World} {K : PySem.W.Frag} {mg : Str → Option Value} {base : Heap}
def sp_check_span (K : PySem.W.Frag) : Sp := fun vs H Q E => ∃ m l : Int, vs = [.int m, .int l] ∧ Mod m ∧ Mod l ∧ (¬ (l ≤ m ∧ m ≤ 1000) → E (xc K "NoSpan") none H) ∧ (l ≤ m ∧ m ≤ 1000 → Q .non H)
theorem c_check_span (T : Tx K mg base) : Cal P w K mg base 1 "check_span" (sp_check_span K) := by
  obtain ⟨fd, F⟩ := T.d_check_span
  refine ⟨_, fd, ["many", "least"], okF (k := 0) F sc_check_span (fun vs H Q E h => ?_) (fun A outer s H vs Q E hr h => ?_), T.r_check_span, F.kp, F.bindsN fun _ _ _ _ _ _ us hl => match us, hl with | [_, _], _ => rfl⟩
  · obtain ⟨m, l, rfl, _⟩ := h
    rfl
  · have nd := sc_check_span.nd
    obtain ⟨m, l, rfl, hm, hl, q1, q2⟩ := h
    refine ⟨_, (pss_one (ps_if (pt_not (pt_rng (pv 1) (pv 0) (pgI (by rfl) T.h_MOST_TURNS)))
  (pss_one (L2N.ps_raise rfl (L2N.takes_of rfl rfl rfl rfl) (pmk1 PySem.F.excBase_ValueError T.e_NoSpan.1 T.r_NoSpan T.e_NoSpan.2.1 (raises_own T.e_NoSpan.2.2.1 T.e_NoSpan.2.2.2) rfl (pe_joined (.cons pe_str (.cons (pe_fmt (pv 1)) (.cons pe_str (.cons (pe_fmt (pgI (by rfl) T.h_MOST_TURNS)) (.cons pe_str (.cons (pe_fmt (pv 0)) .nil))))))))))
  pss_nil)), ?_⟩
    refine ⟨l, m, 1000, fun _ z => ⟨_, rfl, z⟩, fun _ z => ⟨_, rfl, z⟩, fun _ z => z, ?_⟩
    by_cases e : l ≤ m ∧ m ≤ 1000
    · rw [decide_eq_true e]
      exact iteF (q2 e)
    · rw [decide_eq_false e]
      refine iteT ⟨_, rfl, by decide, _, rfl, .inr ⟨l, rfl, hl.log, _, rfl, fit 24 1921 (by decide) hl.len, _, rfl, fit 2000 10 (fitN 24 1921 (by decide) hl.len) (by decide), .inr ⟨1000, rfl, by decide, _, rfl, fit 2100 10 (fitN 2000 10 (fitN 24 1921 (by decide) hl.len) (by decide)) (by decide), _, rfl, fit 2200 10 (fitN 2100 10 (fitN 2000 10 (fitN 24 1921 (by decide) hl.len) (by decide)) (by decide)) (by decide), _, rfl, .inr ⟨m, rfl, hm.log, _, rfl, fit 2300 1921 (fitN 2200 10 (fitN 2100 10 (fitN 2000 10 (fitN 24 1921 (by decide) hl.len) (by decide)) (by decide)) (by decide)) hm.len, q1 e⟩⟩⟩⟩
def sp_check_ready (K : PySem.W.Frag) : Sp := fun vs H Q E => ∃ (a : Addr) (c : Cr), vs = [.ref a] ∧ CrAt K H a c ∧ isName c.name = true ∧ (c.st.isRdy = false → E (xc K "NotReady") none H) ∧ (c.st.isRdy = true → Q .non H)
theorem c_check_ready (T : Tx K mg base) : Cal P w K mg base 1 "check_ready" (sp_check_ready K) := by
  obtain ⟨fd, F⟩ := T.d_check_ready
  refine ⟨_, fd, ["caller"], okF (k := 0) F sc_check_ready (fun vs H Q E h => ?_) (fun A outer s H vs Q E hr h => ?_), T.r_check_ready, F.kp, F.bindsN fun _ _ _ _ _ _ us hl => match us, hl with | [_], _ => rfl⟩
  · obtain ⟨a, c, rfl, _⟩ := h
    rfl
  · have nd := sc_check_ready.nd
    obtain ⟨a, c, rfl, ⟨dy, hc⟩, hn, q1, q2⟩ := h
    refine ⟨_, (pss_one (ps_if (pt_cmpR op_ne (pe_fld (pv 0) rfl) (pgS (by rfl) T.h_READY) (nomark _))
  (pss_one (L2N.ps_raise rfl (L2N.takes_of rfl rfl rfl rfl) (pmk1 PySem.F.excBase_ValueError T.e_NotReady.1 T.r_NotReady T.e_NotReady.2.1 (raises_own T.e_NotReady.2.2.1 T.e_NotReady.2.2.2) rfl (pe_joined (.cons (pe_fmt (pe_fld (pv 0) rfl)) (.cons pe_str (.cons (pe_fmt (pe_fld (pv 0) rfl)) .nil)))))))
  pss_nil)), ?_⟩
    refine ⟨_, rfl, a, _, _, _, _, rfl, hc, T.cl_Caller, T.na_Caller_state, rfl, rfl, _, rfl, ?_⟩
    rw [word_rdy]
    have n12 := (isName_len hn).2
    cases e : c.st.isRdy with
    | true => exact iteF (q2 e)
    | false => exact iteT ⟨_, rfl, a, _, _, _, _, rfl, hc, T.cl_Caller, T.na_Caller_name, rfl, .inl ⟨_, rfl, line_of n12, _, rfl, fit 0 12 len0 n12, _, rfl, fit 12 10 (fitN 0 12 len0 n12) (by decide), _, rfl, a, _, _, _, _, rfl, hc, T.cl_Caller, T.na_Caller_state, rfl, .inl ⟨_, rfl, line_of (word_len _), _, rfl, fit 22 7 (fitN 12 10 (fitN 0 12 len0 n12) (by decide)) (word_len _), q1 e⟩⟩⟩
def sp_check_not_ready (K : PySem.W.Frag) : Sp := fun vs H Q E => ∃ (a : Addr) (c : Cr), vs = [.ref a] ∧ CrAt K H a c ∧ isName c.name = true ∧ (c.st.isRdy = true → E (xc K "IsReady") none H) ∧ (c.st.isRdy = false → Q .non H)
theorem c_check_not_ready (T : Tx K mg base) : Cal P w K mg base 1 "check_not_ready" (sp_check_not_ready K) := by
  obtain ⟨fd, F⟩ := T.d_check_not_ready
  refine ⟨_, fd, ["caller"], okF (k := 0) F sc_check_not_ready (fun vs H Q E h => ?_) (fun A outer s H vs Q E hr h => ?_), T.r_check_not_ready, F.kp, F.bindsN fun _ _ _ _ _ _ us hl => match us, hl with | [_], _ => rfl⟩
  · obtain ⟨a, c, rfl, _⟩ := h
    rfl
  · have nd := sc_check_not_ready.nd
    obtain ⟨a, c, rfl, ⟨dy, hc⟩, hn, q1, q2⟩ := h
    refine ⟨_, (pss_one (ps_if (pt_cmpR op_eq (pe_fld (pv 0) rfl) (pgS (by rfl) T.h_READY) (nomark _))
  (pss_one (L2N.ps_raise rfl (L2N.takes_of rfl rfl rfl rfl) (pmk1 PySem.F.excBase_ValueError T.e_IsReady.1 T.r_IsReady T.e_IsReady.2.1 (raises_own T.e_IsReady.2.2.1 T.e_IsReady.2.2.2) rfl (pe_joined (.cons (pe_fmt (pe_fld (pv 0) rfl)) (.cons pe_str .nil))))))
  pss_nil)), ?_⟩
    refine ⟨_, rfl, a, _, _, _, _, rfl, hc, T.cl_Caller, T.na_Caller_state, rfl, rfl, _, rfl, ?_⟩
    rw [word_rdy]
    have n12 := (isName_len hn).2
    cases e : c.st.isRdy with
    | false => exact iteF (q2 e)
    | true => exact iteT ⟨_, rfl, a, _, _, _, _, rfl, hc, T.cl_Caller, T.na_Caller_name, rfl, .inl ⟨_, rfl, line_of n12, _, rfl, fit 0 12 len0 n12, _, rfl, fit 12 10 (fitN 0 12 len0 n12) (by decide), q1 e⟩⟩
/-! ### to the end of the line; ready -/
def sp_go_last (K : PySem.W.Frag) : Sp := fun vs H Q _ => ∃ (d L : Addr) (ln : Ln) (D : Dk) (a : Addr) (c : Cr), vs = [.ref d, .ref a] ∧ DkIn K H d L ln D ∧ (a, c) ∈ ln ∧
  ∀ H', Keep [L] H H' → DkIn K H' d L (lastLn c.name ln) { D with line := lastC c.name D.line } → Q .non H'
theorem c_Desk__go_last (T : Tx K mg base) : Met P w K mg base 1 (He.ga K "Desk") "_go_last" (sp_go_last K) := by
  obtain ⟨fd, F⟩ := T.d_Desk__go_last
  refine ⟨_, fd, ["self", "caller"], T.cl_Desk, T.me_Desk__go_last, okF (k := 0) F sc_Desk__go_last (fun vs H Q E h => ?_) (fun A outer s H vs Q E hr h => ?_), F.bindsN fun _ _ _ _ _ _ us hl => match us, hl with | [_, _], _ => rfl⟩
  · obtain ⟨d, L, ln, D, a, c, rfl, _⟩ := h
    rfl
  · have nd := sc_Desk__go_last.nd
    obtain ⟨d, L, ln, D, a, c, rfl, x, hp, q⟩ := h
    obtain ⟨dx, hd⟩ := id x.desk
    obtain ⟨dy, hc⟩ := id (x.crs _ hp)
    have dL := x.dL (List.mem_map_of_mem (f := (·.1)) hp)
    refine ⟨_, (pss_cons (ps_ddel (pe_fld (pv 0) rfl) (pe_fld (pv 1) rfl))
  (pss_one (ps_dput (hu_of hr) (pe_fld (pv 0) rfl) (pe_fld (pv 1) rfl) (pv 1) rfl))), ?_⟩
    refine ⟨_, rfl, d, _, _, _, _, rfl, hd, T.cl_Desk, T.na_Desk__line, rfl, _, rfl, a, _, _, _, _, rfl, hc, T.cl_Caller, T.na_Caller_name, rfl, L, _, Sum.inr c.name, rfl, x.line, rfl, ?_, ?_⟩
    · rw [kvs_find]
      obtain ⟨p, e1, _⟩ := find_some (n := c.name) (ln := ln) (by rw [x.eq]; exact (in_names x hp).2)
      rw [e1]
      rfl
    · refine ⟨_, rfl, _, rfl, d, _, _, _, _, rfl, (upd_ne x.dne).trans hd, T.cl_Desk, T.na_Desk__line, rfl, _, rfl, a, _, _, _, _, rfl, (upd_ne dL.2).trans hc, T.cl_Caller, T.na_Caller_name, rfl, _, _, rfl, DPut.k (k := Sum.inr c.name) upd_same ?_, q _ ?_ (x.last hp)⟩
      · rw [kvs_drop, kvs_len]
        refine small1000 (Nat.le_trans (List.length_filter_le _ _) ?_)
        have : ln.length = D.line.length := by rw [← x.eq, List.length_map]
        have := x.len
        omega
      · exact (Keep.upd x.line (by simp) nt_dK).trans (Keep.upd upd_same (by simp) nt_dK)
/-- what becomes of the callers: they stay where they stand, with their names and ranks -/
def Same (ln ln' : Ln) : Prop := (ln'.map (·.1)).Perm (ln.map (·.1)) ∧ ∀ p ∈ ln, ∃ st, (p.1, p.2.as st) ∈ ln'
theorem Same.refl (ln : Ln) : Same ln ln := ⟨.refl _, fun p hp => ⟨p.2.st, hp⟩⟩
theorem Same.trans {l1 l2 l3 : Ln} (h : Same l1 l2) (k : Same l2 l3) : Same l1 l3 := by
  refine ⟨k.1.trans h.1, fun p hp => ?_⟩
  obtain ⟨s1, e1⟩ := h.2 p hp
  obtain ⟨s2, e2⟩ := k.2 _ e1
  exact ⟨s2, e2⟩
theorem Same.own {l l' : Ln} (h : Same l l') {d L b : Addr} : b ∈ d :: L :: l'.map (·.1) ↔ b ∈ d :: L :: l.map (·.1) := by
  simp only [List.mem_cons, h.1.mem_iff]
/-- one is changed and goes to the end -/
def moveLn (c : Cr) (ln : Ln) : Ln := lastLn c.name (setLn c ln)
theorem Same.move {K : PySem.W.Frag} {H : Hp} {d L : Addr} {ln : Ln} {D : Dk} (x : DkIn K H d L ln D) {a : Addr} {c : Cr} {st : Stt} (hp : (a, c) ∈ ln) : Same ln (moveLn (c.as st) ln) := by
  refine ⟨?_, fun p hp' => ?_⟩
  · have := (lastLn_perm (c.as st).name (setLn (c.as st) ln)).map (·.1)
    rw [setLn_fst] at this
    exact this
  · by_cases e : p.2.name = c.name
    · obtain rfl := x.one hp' hp e
      exact ⟨st, (lastLn_perm _ _).mem_iff.mpr (setLn_mem hp' rfl)⟩
    · exact ⟨p.2.st, (lastLn_perm _ _).mem_iff.mpr (List.mem_map.mpr ⟨p, hp', if_neg e⟩)⟩
/-- the same, behind both deeds -/
theorem Keep.moved {S : List Addr} {K : PySem.W.Frag} {H H' : Hp} {d L : Addr} {ln : Ln} {D : Dk} (x : DkIn K H d L ln D) {a : Addr} {c : Cr} {o : HO} (hp : (a, c) ∈ ln) (k : Keep [L] (L2.upd H a o) H') (hS : ∀ b ∈ d :: L :: ln.map (·.1), b ∈ S) : Keep S H H' := by
  obtain ⟨dy, hc⟩ := x.crs _ hp
  exact (Keep.upd hc (hS _ (List.mem_cons_of_mem _ (List.mem_cons_of_mem _ (List.mem_map_of_mem (f := (·.1)) hp)))) nt_ins).trans (k.mono fun b hb => hS _ (by rw [List.mem_singleton.mp hb]; simp))
def sp_make_ready (K : PySem.W.Frag) : Sp := fun vs H Q _ => ∃ (d L : Addr) (ln : Ln) (D : Dk) (b : Addr) (ps : List (Addr × Cr)), vs = [.ref d, .ref b] ∧ DkIn K H d L ln D ∧ H b = some (.lst (ps.map fun p => V.ref p.1)) ∧ (∀ p ∈ ps, ∃ st, (p.1, p.2.as st) ∈ ln) ∧
  ∀ H' ln', Keep (d :: L :: ln.map (·.1)) H H' → Same ln ln' → DkIn K H' d L ln' (D.wakeAll (ps.map (·.2))) → Q .non H'
theorem wakeAll_snoc (D : Dk) (cs : List Cr) (c : Cr) : D.wakeAll (cs ++ [c]) = (D.wakeAll cs).move (c.as (.rdy (D.wakeAll cs).now)) := by
  unfold Dk.wakeAll
  rw [List.foldl_append]
  rfl
theorem wakeAll_now : ∀ (cs : List Cr) (D : Dk), (D.wakeAll cs).now = D.now
  | [], _ => rfl
  | c :: r, D => wakeAll_now r (D.move (c.as (.rdy D.now)))
theorem c_Desk__make_ready (T : Tx K mg base) : Met P w K mg base 2 (He.ga K "Desk") "_make_ready" (sp_make_ready K) := by
  have c_Caller_become_since : MetK P w K mg base 1 (He.ga K "Caller") "become" (sp_become K) 2 ["since"] (fun vs zs => vs ++ (zs ++ [.non, .non])) := c_Caller_become_since T
  have c_Desk__go_last : Met P w K mg base 1 (He.ga K "Desk") "_go_last" (sp_go_last K) := c_Desk__go_last T
  obtain ⟨fd, F⟩ := T.d_Desk__make_ready
  refine ⟨_, fd, ["self", "callers"], T.cl_Desk, T.me_Desk__make_ready, okF (k := 1) F sc_Desk__make_ready (fun vs H Q E h => ?_) (fun A outer s H vs Q E hr h => ?_), F.bindsN fun _ _ _ _ _ _ us hl => match us, hl with | [_, _], _ => rfl⟩
  · obtain ⟨d, L, ln, D, b, ps, rfl, _⟩ := h
    rfl
  · have nd := sc_Desk__make_ready.nd
    obtain ⟨d, L, ln, D, b, ps, rfl, x, hb, hps, q⟩ := h
    have bS : b ∉ d :: L :: ln.map (·.1) := (show DkAt K H (d :: L :: ln.map (·.1)) d D from ⟨L, ln, rfl, x⟩).lst hb
    refine ⟨_, (pss_one (ps_for (passes_of rfl) rfl (pi_list (pv 1)) (pg_name (i := 2) nd rfl (Or.inl rfl))
  (pss_cons (ps_expr (pmk c_Caller_become_since hr (by decide) passN (pv 2) (pa_cons (pgS (by rfl) T.h_READY) pa_nil) (pk_cons (pe_fld (pv 0) rfl) pk_nil)))
  (pss_one (ps_expr (pm c_Desk__go_last hr (by decide) p0 (pv 0) (pa_cons (pv 2) pa_nil))))))), ?_⟩
    refine ⟨_, rfl, b, rfl, ⟨_, .inl (.inl hb)⟩, ?_⟩
    refine for_it (walk_list (xs := ps.map fun p => V.ref p.1)) (fun i σ H' => ∃ v ln', σ = [some (.ref d), some (.ref b), v] ∧ Keep (d :: L :: ln.map (·.1)) H H' ∧ Same ln ln' ∧ DkIn K H' d L ln' (D.wakeAll ((ps.take i).map (·.2)))) ⟨none, ln, rfl, Keep.refl _ _, Same.refl _, x⟩ ?_ ?_ ?_
    · rintro i σ H' _ ⟨v, ln', rfl, k, _⟩
      exact .inl (.inl (k.lst hb bS))
    · rintro i v σ H1 H2 hi ⟨v0, ln1, rfl, k1, s1, x1⟩ ⟨rfl, hv⟩
      have hi' : i < ps.length := by rw [List.length_map] at hi; exact hi
      obtain ⟨p, hpi⟩ : ∃ p, ps[i]? = some p := ⟨_, List.getElem?_eq_getElem hi'⟩
      rw [List.getElem?_map, hpi] at hv
      obtain rfl : V.ref p.1 = v := Option.some.inj hv
      obtain ⟨st0, hp0⟩ := hps p (List.mem_of_getElem? hpi)
      obtain ⟨st1, hp1⟩ := s1.2 _ hp0
      obtain ⟨dx, hd⟩ := id x1.desk
      obtain ⟨dy, hc⟩ := id (x1.crs _ hp1)
      have e1 : D.wakeAll ((ps.take (i + 1)).map (·.2)) = (D.wakeAll ((ps.take i).map (·.2))).move (p.2.as (.rdy D.now)) := by
        rw [List.take_add_one, hpi, List.map_append]
        show D.wakeAll (_ ++ [p.2]) = _
        rw [wakeAll_snoc, wakeAll_now]
      have en : (D.wakeAll ((ps.take i).map (·.2))).now = D.now := wakeAll_now _ _
      refine ⟨_, rfl, p.1, dy, _, rfl, hc, rfl, _, rfl, d, _, _, _, _, rfl, hd, T.cl_Desk, T.na_Desk_now, rfl, rfl, rfl, p.1, dy, _, _, _, _, _, _, .rdy D.now, ?_, hc, ?_⟩
      · rw [en]
        rfl
      have x2 := x1.set (c' := p.2.as (.rdy D.now)) (dx := dy) hp1 rfl
      obtain ⟨dx2, hd2⟩ := id x2.desk
      refine ⟨_, rfl, d, dx2, _, rfl, hd2, rfl, _, rfl, d, L, _, _, p.1, p.2.as (.rdy D.now), rfl, x2, setLn_mem hp1 rfl, fun H3 k3 x3 => ?_⟩
      refine ⟨_, _, rfl, k1.trans (Keep.moved x1 hp1 k3 fun b hb => s1.own.mp hb), s1.trans (Same.move x1 (st := .rdy D.now) hp1), ?_⟩
      rw [e1]
      exact x3
    · rintro σ H' ⟨v, ln', rfl, k, s, x'⟩
      rw [List.length_map, List.take_of_length_le (Nat.le_refl _)] at x'
      exact q _ _ k s x'
end
end Rr

set_option maxRecDepth 100000
set_option maxHeartbeats 4000000
namespace Rr
open PySem PySem.Spec PyProof.Rows L2
open GxR (TabG Tabbed)
section
variable {P : Program} {w : World} {K : PySem.W.Frag} {mg : Str → Option Value} {base : Heap}
/-- the walked dict's callers, those that a test takes -/
theorem take_filter {α : Type} {l : List α} {i : Nat} {c : α} (h : l[i]? = some c) (f : α → Bool) : (l.take (i + 1)).filter f = (l.take i).filter f ++ if f c then [c] else [] := by
  rw [List.take_add_one, h, List.filter_append]
  show _ ++ List.filter f [c] = _
  rw [List.filter_cons]
  rfl
theorem kvs_at {ln : Ln} {i : Nat} {k : Key} {v : V} (h : (kvsOf ln)[i]? = some (k, v)) : ∃ p, ln[i]? = some p ∧ p ∈ ln ∧ v = .ref p.1 := by
  unfold kvsOf at h
  rw [List.getElem?_map] at h
  cases e : ln[i]? with
  | none =>
    rw [e] at h
    cases h
  | some p =>
    rw [e] at h
    cases h
    exact ⟨p, rfl, List.mem_of_getElem? e, rfl⟩
theorem ln_len {K : PySem.W.Frag} {H : Hp} {d L : Addr} {ln : Ln} {D : Dk} (x : DkIn K H d L ln D) : ln.length = D.line.length := by rw [← x.eq, List.length_map]
def sp_ready_callers (K : PySem.W.Frag) : Sp := fun vs H Q _ => ∃ (d L : Addr) (ln : Ln) (D : Dk), vs = [.ref d] ∧ DkIn K H d L ln D ∧ ∀ b H', Keep [] H H' → H b = none → H' b = some (.lst ((readyLn ln).map fun p => V.ref p.1)) → Q (.ref b) H'
theorem c_Desk__ready_callers (T : Tx K mg base) : Met P w K mg base 1 (He.ga K "Desk") "_ready_callers" (sp_ready_callers K) := by
  obtain ⟨fd, F⟩ := T.d_Desk__ready_callers
  refine ⟨_, fd, ["self"], T.cl_Desk, T.me_Desk__ready_callers, okF (k := 0) F sc_Desk__ready_callers (fun vs H Q E h => ?_) (fun A outer s H vs Q E hr h => ?_), F.bindsN fun _ _ _ _ _ _ us hl => match us, hl with | [_], _ => rfl⟩
  · obtain ⟨d, L, ln, D, rfl, _⟩ := h
    rfl
  · have nd := sc_Desk__ready_callers.nd
    obtain ⟨d, L, ln, D, rfl, x, q⟩ := h
    obtain ⟨dx, hd⟩ := id x.desk
    refine ⟨_, (pss_one (ps_ret (pe_lock (pe_lc (own := [("caller", 1)]) (g := gName 1) rfl nd (pi_values (pe_fldK (K := K) rfl (pv 0) rfl)) (blkOk_by (N := N_Desk__ready_callers) (sc := defScope s_Desk__ready_callers) (by decide +kernel)) (fun _ _ _ _ _ => (pg_name (i := 1) nd rfl (Or.inl rfl))) (fun _ _ _ _ _ => (pts_one (pt_cmpR op_eq (pe_fldK (K := K) rfl (pv 1) rfl) (pgS (by rfl) T.h_READY) (nomark _)))) (fun _ _ _ _ _ => (pv 1)))))), ?_⟩
    refine ⟨L, _, x.line, trivial, fun od => ?_⟩
    refine ⟨_, rfl, d, _, _, _, _, rfl, (upd_ne x.dne).trans hd, T.cl_Desk, T.na_Desk__line, rfl, L, od, _, rfl, upd_same, fun b nb => ?_⟩
    have bL : b ≠ L := fun z => by rw [z, upd_same] at nb; cases nb
    refine lc_it walk_values (Pv := fun i H' => Keep [] (upd H L (.frz od (.dK (kvsOf ln)))) H' ∧ H' b = some (.lst (((ln.take i).filter fun p => p.2.st.isRdy).map fun p => V.ref p.1))) ⟨Keep.new nb, upd_same⟩ (fun i H' _ p => p.1.old _ _ upd_same List.not_mem_nil nt_frz) ?_ ?_
    · rintro i v H1 H2 hi ⟨k1, hb1⟩ ⟨rfl, k, hk⟩
      obtain ⟨p, hpi, hp, rfl⟩ := kvs_at hk
      obtain ⟨dy, hc⟩ := id (x.crs _ hp)
      have hc1 := k1.old p.1 _ ((upd_ne (x.lne (List.mem_map_of_mem (f := (·.1)) hp))).trans hc) List.not_mem_nil nt_ins
      refine ⟨rfl, ?_⟩
      refine ⟨_, rfl, p.1, _, _, _, _, rfl, hc1, T.cl_Caller, T.na_Caller_state, rfl, rfl, _, rfl, ?_⟩
      rw [word_rdy, take_filter hpi]
      cases e : p.2.st.isRdy with
      | false =>
        refine iteF ⟨k1, ?_⟩
        rw [if_neg (by simp), List.append_nil]
        exact hb1
      | true =>
        refine iteT ⟨_, rfl, _, hb1, ?_, k1.set (.inl nb) hb1 nt_lst, ?_⟩
        · rw [List.length_map]
          have h1 := List.length_filter_le (fun p : Addr × Cr => p.2.st.isRdy) (ln.take i)
          rw [List.length_take, ln_len x] at h1
          have h2 := x.len
          exact small1000 (by omega)
        · rw [upd_same, if_pos rfl, List.map_append]
          rfl
    · rintro H' ⟨k1, hb1⟩
      have hL := k1.old _ _ upd_same List.not_mem_nil nt_frz
      refine ⟨hL, q _ _ (Keep.back x.line nt_dK k1) ((upd_ne bL).symm.trans nb) ?_⟩
      rw [upd_ne bL, hb1]
      unfold kvsOf
      rw [List.length_map, List.take_of_length_le (Nat.le_refl _)]
      rfl
def sp_aged : Sp := fun vs H Q _ => ∃ r t p : Int, vs = [.int r, .int t, .int p] ∧ 1 ≤ p ∧ p ≤ 1000 ∧ Q (.int (r + t / p)) H
theorem c_aged (T : Tx K mg base) : Cal P w K mg base 1 "aged" sp_aged := by
  obtain ⟨fd, F⟩ := T.d_aged
  refine ⟨_, fd, ["rank", "waited", "pace"], okF (k := 0) F sc_aged (fun vs H Q E h => ?_) (fun A outer s H vs Q E hr h => ?_), T.r_aged, F.kp, F.bindsN fun _ _ _ _ _ _ us hl => match us, hl with | [_, _, _], _ => rfl⟩
  · obtain ⟨r, t, p, rfl, _⟩ := h
    rfl
  · have nd := sc_aged.nd
    obtain ⟨r, t, p, rfl, hp, hp2, q⟩ := h
    refine ⟨_, (pss_cons (ps_if (pt_cmpR op_eq (pv 2) pe_int (nomark _))
  (pss_one (ps_ret (pv 0)))
  pss_nil)
  (pss_one (ps_ret (pe_op op_add (pv 0) (pe_op op_fdiv (pv 1) (pv 2)))))), ?_⟩
    refine ⟨_, rfl, rfl, _, rfl, ?_⟩
    rw [decide_eq_false (show ¬ V.int p = V.int 0 from fun z => by have h := V.int.inj z; rw [h] at hp; exact absurd hp (by decide))]
    exact iteF ⟨_, rfl, _, rfl, _, rfl, _, _, rfl, rfl, ⟨by omega, by omega⟩, _, _, rfl, rfl, q⟩
def placeV {α : Type} : Option (Nat × α) → V
  | none => .non
  | some y => .int y.1
def ageP (p : Int) (x : Int × Int) : Int := x.1 + x.2 / p
def sp_first (K : PySem.W.Frag) : Sp := fun vs H Q _ => ∃ (a : Addr) (ts : List Addr) (rows : List (Int × Int)) (p : Int), vs = [.ref a, .int p] ∧ SqL K H a (ts.map V.ref) ∧ ts.length = rows.length ∧ (∀ (i : Nat) (t : Addr) (x : Int × Int), ts[i]? = some t → rows[i]? = some x → H t = some (.tup [.int x.1, .int x.2])) ∧ 1 ≤ p ∧ p ≤ 1000 ∧
  ∀ H', Keep [] H H' → Q (placeV (pickI (ageP p) rows)) H'
theorem c_first (T : Tx K mg base) : Cal P w K mg base 2 "first" (sp_first K) := by
  have c_aged : Cal P w K mg base 1 "aged" sp_aged := c_aged T
  obtain ⟨fd, F⟩ := T.d_first
  refine ⟨_, fd, ["rows", "pace"], okF (k := 1) F sc_first (fun vs H Q E h => ?_) (fun A outer s H vs Q E hr h => ?_), T.r_first, F.kp, F.bindsN fun _ _ _ _ _ _ us hl => match us, hl with | [_, _], _ => rfl⟩
  · obtain ⟨a, ts, rows, p, rfl, _⟩ := h
    rfl
  · have nd := sc_first.nd
    obtain ⟨a, ts, rows, p, rfl, hS, hl, hts, hp, hp2, q⟩ := h
    refine ⟨_, (pss_cons (ps_set (i := 2) nd rfl (Or.inl rfl) pe_non)
  (pss_cons (ps_set (i := 3) nd rfl (Or.inl rfl) pe_int)
  (pss_cons (ps_for (passes_of rfl) rfl (pi_enum (by rfl) T.m_enumerate (pa_cons (pv 0) pa_nil)) (pg_tup rfl (pgs_cons (pg_name (i := 4) nd rfl (Or.inl rfl)) (pgs_cons (pg_tup rfl (pgs_cons (pg_name (i := 5) nd rfl (Or.inl rfl)) (pgs_cons (pg_name (i := 6) nd rfl (Or.inl rfl)) pgs_nil))) pgs_nil)))
  (pss_cons (ps_set (i := 7) nd rfl (Or.inl rfl) (pf c_aged hr (by decide) (by rfl) p0 (pa_cons (pv 5) (pa_cons (pv 6) (pa_cons (pv 1) pa_nil)))))
  (pss_one (ps_if (PW.pt (pw_or (pt_cmpR op_isN (pv 2) pe_non (nomark _)) (pw_or1 (pt_cmpR op_gt (pv 7) (pv 3) (nomark _)))))
  (pss_cons (ps_set (i := 2) nd rfl (Or.inl rfl) (pv 4))
  (pss_one (ps_set (i := 3) nd rfl (Or.inl rfl) (pv 7))))
  pss_nil))))
  (pss_one (ps_ret (pv 2)))))), ?_⟩
    refine ⟨_, rfl, a, _, rfl, hS, ?_⟩
    refine for_it (walk_enum (K := K) (a := a) (xs := ts.map V.ref)) (fun i σ H' => Keep [] H H' ∧ ∃ v4 v5 v6 v7 : Option V, ∃ pl : V, ∃ b : Int, σ = [some (.ref a), some (.int p), some pl, some (.int b), v4, v5, v6, v7] ∧
      match pickI (ageP p) (rows.take i) with
      | none => pl = .non ∧ b = 0
      | some y => pl = .int y.1 ∧ b = ageP p y.2) ⟨Keep.refl _ _, none, none, none, none, .non, 0, rfl, rfl, rfl⟩ ?_ ?_ ?_
    · rintro i σ H' _ ⟨k, _⟩
      exact k.seq hS fun _ _ => List.not_mem_nil
    · rintro i x σ H1 H2 hi ⟨k1, v4, v5, v6, v7, pl, b, rfl, hI⟩ ⟨T2, x1, x2, rfl, hT, rfl, hx1, hx2⟩
      have hir : i < rows.length := by rw [← hl]; rw [List.length_map] at hi; exact hi
      obtain ⟨⟨r, wt⟩, hrw⟩ : ∃ y, rows[i]? = some y := ⟨_, List.getElem?_eq_getElem hir⟩
      obtain ⟨t, ht⟩ : ∃ t, ts[i]? = some t := ⟨_, List.getElem?_eq_getElem (by omega)⟩
      obtain rfl : V.ref t = x2 := Option.some.inj (by rw [← hx2]; show _ = (ts.map V.ref)[i]?; rw [List.getElem?_map, ht]; rfl)
      obtain rfl : V.int i = x1 := Option.some.inj hx1
      have k2 : Keep [] H (upd H1 T2 (.tup [.int i, .ref t])) := k1.trans (Keep.new hT)
      refine ⟨T2, _, rfl, .inl (.inl upd_same), rfl, _, _, rfl, _, _, rfl, ⟨t, _, rfl, .inl (.inl (k2.tup (hts i t _ ht hrw) List.not_mem_nil)), rfl, _, _, rfl, _, _, rfl, rfl, ?_⟩⟩
      refine ⟨rfl, ?_⟩
      refine ⟨_, rfl, _, rfl, _, rfl, r, wt, p, rfl, hp, hp2, ?_⟩
      have eT : rows.take (i + 1) = rows.take i ++ [(r, wt)] := by rw [List.take_add_one, hrw]; rfl
      have eL : (rows.take i).length = i := by rw [List.length_take]; omega
      refine ⟨_, rfl, rfl, _, rfl, ?_⟩
      cases ep : pickI (ageP p) (rows.take i) with
      | none =>
        rw [ep] at hI
        obtain ⟨rfl, rfl⟩ := hI
        refine iteT (iteT ⟨_, rfl, _, rfl, k2, _, _, _, _, .int i, _, rfl, ?_⟩)
        rw [eT, pickI_snoc, ep, eL]
        exact ⟨rfl, rfl⟩
      | some y =>
        rw [ep] at hI
        obtain ⟨rfl, rfl⟩ := hI
        refine iteF ⟨_, rfl, _, rfl, _, _, rfl, rfl, _, rfl, ite2 (fun c => ?_) (fun c => ?_)⟩
        · have hlt : ageP p y.2 < ageP p (r, wt) := of_decide_eq_true c
          refine ⟨_, rfl, _, rfl, k2, _, _, _, _, .int i, _, rfl, ?_⟩
          rw [eT, pickI_snoc, ep, eL]
          show match (if ageP p y.2 < ageP p (r, wt) then some (i, (r, wt)) else some y) with
            | none => _
            | some y => _
          rw [if_pos hlt]
          exact ⟨rfl, rfl⟩
        · have hge : ¬ ageP p y.2 < ageP p (r, wt) := fun z => c (decide_eq_true z)
          refine ⟨k2, _, _, _, _, .int y.1, _, rfl, ?_⟩
          rw [eT, pickI_snoc, ep, eL]
          show match (if ageP p y.2 < ageP p (r, wt) then some (i, (r, wt)) else some y) with
            | none => _
            | some y => _
          rw [if_neg hge]
          exact ⟨rfl, rfl⟩
    · rintro σ H' ⟨k, v4, v5, v6, v7, pl, b, rfl, hI⟩
      rw [List.length_map, List.take_of_length_le (by omega)] at hI
      have := q _ k
      cases ep : pickI (ageP p) rows with
      | none =>
        rw [ep] at hI this
        obtain ⟨rfl, rfl⟩ := hI
        exact ⟨_, rfl, this⟩
      | some y =>
        rw [ep] at hI this
        obtain ⟨rfl, rfl⟩ := hI
        exact ⟨_, rfl, this⟩
def sp_chosen (K : PySem.W.Frag) : Sp := fun vs H Q _ => ∃ (d L : Addr) (ln : Ln) (D : Dk), vs = [.ref d] ∧ DkIn K H d L ln D ∧ ∀ H', Keep [] H H' → (D.pick = none → Q .non H') ∧ ∀ p ∈ ln, p.2.st.isRdy = true → D.pick = some p.2 → Q (.ref p.1) H'
theorem c_Desk__chosen (T : Tx K mg base) : Met P w K mg base 3 (He.ga K "Desk") "_chosen" (sp_chosen K) := by
  have c_first : Cal P w K mg base 2 "first" (sp_first K) := c_first T
  have c_Desk__ready_callers : Met P w K mg base 1 (He.ga K "Desk") "_ready_callers" (sp_ready_callers K) := c_Desk__ready_callers T
  have c_Desk__waited : Met P w K mg base 1 (He.ga K "Desk") "_waited" (sp_waitedC K) := c_Desk__waited T
  obtain ⟨fd, F⟩ := T.d_Desk__chosen
  refine ⟨_, fd, ["self"], T.cl_Desk, T.me_Desk__chosen, okF (k := 2) F sc_Desk__chosen (fun vs H Q E h => ?_) (fun A outer s H vs Q E hr h => ?_), F.bindsN fun _ _ _ _ _ _ us hl => match us, hl with | [_], _ => rfl⟩
  · obtain ⟨d, L, ln, D, rfl, _⟩ := h
    rfl
  · have nd := sc_Desk__chosen.nd
    obtain ⟨d, L, ln, D, rfl, x, q⟩ := h
    obtain ⟨dx, hd⟩ := id x.desk
    refine ⟨_, (pss_cons (ps_set (i := 1) nd rfl (Or.inl rfl) (pm0 c_Desk__ready_callers hr (by decide) p0 (pv 0)))
  (pss_cons (ps_set (i := 2) nd rfl (Or.inl rfl) (pf c_first hr (by decide) (by rfl) p0 (pa_cons (pe_lc (own := [("caller", 3)]) (g := gName 3) (tt := tYes) rfl nd (pi_listK (K := K) rfl (pv 1)) (blkOk_by (N := N_Desk__chosen) (sc := defScope s_Desk__chosen) (by decide +kernel)) (fun _ _ _ _ _ => (pg_name (i := 3) nd rfl (Or.inl rfl))) (fun _ _ _ _ _ => pts_nil) (fun _ _ _ _ _ => (pe_tup (pa_cons (pe_fldK (K := K) rfl (pv 3) rfl) (pa_cons (pm c_Desk__waited hr (by decide) p0 (pv 0) (pa_cons (pv 3) pa_nil)) pa_nil))))) (pa_cons (pe_fld (pv 0) rfl) pa_nil))))
  (pss_cons (ps_if (pt_cmpR op_isN (pv 2) pe_non (nomark _))
  (pss_one (ps_ret pe_non))
  pss_nil)
  (pss_one (ps_ret (pe_ix ix_list (pv 1) (pv 2) (fun _ _ => rfl))))))), ?_⟩
    refine ⟨_, rfl, d, _, _, rfl, hd, rfl, d, L, ln, D, rfl, x, fun b H1 k1 nb hb => ?_⟩
    have x1 := x.keep k1 fun _ _ => List.not_mem_nil
    have rl : (readyLn ln).length ≤ 60 := Nat.le_trans (List.length_filter_le _ _) (by rw [ln_len x]; exact x.len)
    refine ⟨_, rfl, b, rfl, ⟨_, .inl (.inl hb)⟩, fun b2 nb2 => ?_⟩
    refine lc_it (walk_list (K := K) (xs := (readyLn ln).map fun p => V.ref p.1)) (Pv := fun i H' => Keep [] H1 H' ∧ ∃ ts : List Addr, ts.length = i ∧ H' b2 = some (.lst (ts.map V.ref)) ∧ ∀ (j : Nat) (t : Addr) (p : Addr × Cr), ts[j]? = some t → (readyLn ln)[j]? = some p → H' t = some (.tup [.int p.2.rank, .int (D.now - p.2.st.since)]))
      ⟨Keep.new nb2, [], rfl, upd_same, fun j t p h => (nomatch h)⟩ (fun i H' _ p => .inl (.inl (p.1.lst hb List.not_mem_nil))) ?_ ?_
    · rintro i v H2 H3 hi ⟨k2, ts, hl, hb2, hts⟩ ⟨rfl, hv⟩
      rw [List.getElem?_map] at hv
      cases ep : (readyLn ln)[i]? with
      | none =>
        rw [ep] at hv
        cases hv
      | some p =>
        rw [ep] at hv
        obtain rfl : V.ref p.1 = v := Option.some.inj hv
        obtain ⟨hp, hr1⟩ := List.mem_filter.mp (List.mem_of_getElem? ep)
        have x2 := x1.keep k2 fun _ _ => List.not_mem_nil
        obtain ⟨dx2, hd2⟩ := id x2.desk
        obtain ⟨dy, hc⟩ := id (x2.crs _ hp)
        refine ⟨rfl, ?_⟩
        refine ⟨_, rfl, p.1, _, _, _, _, rfl, hc, T.cl_Caller, T.na_Caller_rank, rfl, _, rfl, d, _, _, rfl, hd2, rfl, _, rfl, d, L, ln, D, p, rfl, x2, hp, hr1, (show 2 ≤ sizeLine by decide), fun t nt => ?_⟩
        have b2t : b2 ≠ t := fun z => by rw [← z, hb2] at nt; cases nt
        refine ⟨_, (upd_ne b2t).trans hb2, ?_, ?_, ts ++ [t], ?_, ?_, ?_⟩
        · rw [List.length_map, hl]
          have : i < (readyLn ln).length := (List.getElem?_eq_some_iff.mp ep).1
          exact small1000 (by omega)
        · exact (k2.trans (Keep.new nt)).set (.inl nb2) ((upd_ne b2t).trans hb2) nt_lst
        · rw [List.length_append, hl]
          rfl
        · rw [upd_same, List.map_append]
          rfl
        · intro j t' p' h1 h2
          rcases Nat.lt_or_ge j ts.length with hj | hj
          · rw [List.getElem?_append_left hj] at h1
            have e1 := hts j t' p' h1 h2
            have n1 : t' ≠ b2 := fun z => by rw [z, hb2] at e1; cases e1
            have n2 : t' ≠ t := fun z => by rw [z, nt] at e1; cases e1
            rw [upd_ne n1, upd_ne n2]
            exact e1
          · have hj2 : j = i := by
              have := (List.getElem?_eq_some_iff.mp h1).1
              rw [List.length_append] at this
              simp at this
              omega
            rw [hj2, ← hl, List.getElem?_append_right (Nat.le_refl _), Nat.sub_self] at h1
            obtain rfl : t = t' := Option.some.inj h1
            rw [hj2, ep] at h2
            obtain rfl : p = p' := Option.some.inj h2
            rw [upd_ne (fun z => b2t z.symm), upd_same]
    · rintro H2 ⟨k2, ts, hl, hb2, hts⟩
      rw [List.length_map] at hl
      have x2 := x1.keep k2 fun _ _ => List.not_mem_nil
      obtain ⟨dx2, hd2⟩ := id x2.desk
      refine ⟨_, rfl, d, _, _, _, _, rfl, hd2, T.cl_Desk, T.na_Desk_pace, rfl, b2, ts, (readyLn ln).map (fun p => (p.2.rank, D.now - p.2.st.since)), D.pace, rfl, .inl (.inl hb2), by rw [List.length_map, hl], fun j t y h1 h2 => ?_, x.pr.1.1, x.pr.1.2, fun H3 k3 => ?_⟩
      · rw [List.getElem?_map] at h2
        cases ep : (readyLn ln)[j]? with
        | none =>
          rw [ep] at h2
          cases h2
        | some p =>
          rw [ep] at h2
          cases h2
          exact hts j t p h1 ep
      · have eP : pickI (ageP D.pace) ((readyLn ln).map fun p => (p.2.rank, D.now - p.2.st.since)) = (pickI (fun p : Addr × Cr => agedC D.pace D.now p.2) (readyLn ln)).map fun y => (y.1, (y.2.2.rank, D.now - y.2.2.st.since)) := pickI_map _ _ _ _ rfl
        have eD : D.pick = (pickI (fun p : Addr × Cr => agedC D.pace D.now p.2) (readyLn ln)).map fun y => y.2.2 := by
          unfold Dk.pick Rr.pick
          rw [← x.eq, ← readyLn_snd, pickI_map (agedC D.pace D.now) (fun p : Addr × Cr => p.2) _ _ rfl, Option.map_map]
          rfl
        obtain ⟨q1, q2⟩ := q H3 ((k1.trans k2).trans k3)
        rw [eP]
        cases e : pickI (fun p : Addr × Cr => agedC D.pace D.now p.2) (readyLn ln) with
        | none =>
          rw [e] at eD
          exact ⟨_, rfl, rfl, _, rfl, iteT (q1 eD)⟩
        | some y =>
          rw [e] at eD
          have hy := pickI_at _ _ _ rfl (j := y.1) (x := y.2) e
          obtain ⟨hp, hr1⟩ := List.mem_filter.mp (List.mem_of_getElem? hy)
          refine ⟨_, rfl, rfl, _, rfl, iteF ⟨_, rfl, _, rfl, b, _, _, _, rfl, rfl, .inl (.inl ((k2.trans k3).lst hb List.not_mem_nil)), atI_nat (j := y.1) (by rw [List.getElem?_map, hy]; rfl), q2 y.2 hp hr1 eD⟩⟩
end
end Rr

set_option maxRecDepth 100000
set_option maxHeartbeats 4000000
namespace Rr
open PySem PySem.Spec PyProof.Rows L2
open GxR (TabG Tabbed)
/-! ### what a desk does and tells, by a caller's name -/
section
variable {P : Program} {w : World} {K : PySem.W.Frag} {mg : Str → Option Value} {base : Heap}
theorem of_line {H : Hp} {d L : Addr} {ln : Ln} {D : Dk} (x : DkIn K H d L ln D) {p : Addr × Cr} (hp : p ∈ ln) : p.2 ∈ D.line := (in_names x hp).1
theorem at_line {H : Hp} {d L : Addr} {ln : Ln} {D : Dk} (x : DkIn K H d L ln D) {p : Addr × Cr} (hp : p ∈ ln) : CrAt K H p.1 p.2 ∧ isName p.2.name = true := ⟨x.crs p hp, x.ok _ (of_line x hp)⟩
theorem sub_same {H : Hp} {d L : Addr} {ln ln' : Ln} (s : Same ln ln') : Sub H (d :: L :: ln.map (·.1)) (d :: L :: ln'.map (·.1)) := fun b hb => .inl (s.own.mp hb)
/-- what a desk's method by a caller's name wants of the name and the desk, and what it asks of an unknown one -/
def ByN (K : PySem.W.Frag) (H : Hp) (E : XK) (d : Addr) (S : List Addr) (D : Dk) (n : Str) (q : Cr → Prop) : Prop := Small n ∧ DkAt K H S d D ∧ (n ∉ namesL D.line → E (xc K "Unknown") none H) ∧ ∀ c ∈ D.line, c.name = n → q c
/-- the desk has become D' -/
def Now (K : PySem.W.Frag) (H : Hp) (S : List Addr) (d : Addr) (D' : Dk) (q : Hp → Prop) : Prop := ∀ H' S', Keep S H H' → Sub H S S' → DkAt K H' S' d D' → q H'
def sp_state (K : PySem.W.Frag) : Sp := fun vs H Q E => ∃ (d : Addr) (S : List Addr) (D : Dk) (n : Str), vs = [.ref d, .str n] ∧ ByN K H E d S D n fun c => Q (.str c.st.word) H
theorem c_Desk_state (T : Tx K mg base) : Met P w K mg base 2 (He.ga K "Desk") "state" (sp_state K) := by
  have c_Desk__known : Met P w K mg base 1 (He.ga K "Desk") "_known" (sp_known K) := c_Desk__known T
  obtain ⟨fd, F⟩ := T.d_Desk_state
  refine ⟨_, fd, ["self", "name"], T.cl_Desk, T.me_Desk_state, okF (k := 1) F sc_Desk_state (fun vs H Q E h => ?_) (fun A outer s H vs Q E hr h => ?_), F.bindsN fun _ _ _ _ _ _ us hl => match us, hl with | [_, _], _ => rfl⟩
  · obtain ⟨d, S, D, n, rfl, _⟩ := h
    rfl
  · have nd := sc_Desk_state.nd
    obtain ⟨d, S, D, n, rfl, hn, ⟨L, ln, rfl, x⟩, q1, q2⟩ := h
    obtain ⟨dx, hd⟩ := id x.desk
    refine ⟨_, (pss_one (ps_ret (pe_fld (pm c_Desk__known hr (by decide) (pU (L2N.takes_of rfl rfl rfl rfl)) (pv 0) (pa_cons (pv 1) pa_nil)) rfl))), ?_⟩
    refine ⟨_, rfl, d, dx, _, rfl, hd, rfl, _, rfl, d, L, ln, D, n, rfl, hn, x, q1, fun p hp en => ?_⟩
    obtain ⟨dy, hc⟩ := id (x.crs _ hp)
    exact ⟨p.1, _, _, _, _, rfl, hc, T.cl_Caller, T.na_Caller_state, rfl, q2 p.2 (of_line x hp) en⟩
def sp_rank (K : PySem.W.Frag) : Sp := fun vs H Q E => ∃ (d : Addr) (S : List Addr) (D : Dk) (n : Str), vs = [.ref d, .str n] ∧ ByN K H E d S D n fun c => Q (.int c.rank) H
theorem c_Desk_rank (T : Tx K mg base) : Met P w K mg base 2 (He.ga K "Desk") "rank" (sp_rank K) := by
  have c_Desk__known : Met P w K mg base 1 (He.ga K "Desk") "_known" (sp_known K) := c_Desk__known T
  obtain ⟨fd, F⟩ := T.d_Desk_rank
  refine ⟨_, fd, ["self", "name"], T.cl_Desk, T.me_Desk_rank, okF (k := 1) F sc_Desk_rank (fun vs H Q E h => ?_) (fun A outer s H vs Q E hr h => ?_), F.bindsN fun _ _ _ _ _ _ us hl => match us, hl with | [_, _], _ => rfl⟩
  · obtain ⟨d, S, D, n, rfl, _⟩ := h
    rfl
  · have nd := sc_Desk_rank.nd
    obtain ⟨d, S, D, n, rfl, hn, ⟨L, ln, rfl, x⟩, q1, q2⟩ := h
    obtain ⟨dx, hd⟩ := id x.desk
    refine ⟨_, (pss_one (ps_ret (pe_fld (pm c_Desk__known hr (by decide) (pU (L2N.takes_of rfl rfl rfl rfl)) (pv 0) (pa_cons (pv 1) pa_nil)) rfl))), ?_⟩
    refine ⟨_, rfl, d, dx, _, rfl, hd, rfl, _, rfl, d, L, ln, D, n, rfl, hn, x, q1, fun p hp en => ?_⟩
    obtain ⟨dy, hc⟩ := id (x.crs _ hp)
    exact ⟨p.1, _, _, _, _, rfl, hc, T.cl_Caller, T.na_Caller_rank, rfl, q2 p.2 (of_line x hp) en⟩
def sp_bell (K : PySem.W.Frag) : Sp := fun vs H Q E => ∃ (d : Addr) (S : List Addr) (D : Dk) (n : Str), vs = [.ref d, .str n] ∧ ByN K H E d S D n fun c => Q c.st.bellV H
theorem c_Desk_bell (T : Tx K mg base) : Met P w K mg base 2 (He.ga K "Desk") "bell" (sp_bell K) := by
  have c_Desk__known : Met P w K mg base 1 (He.ga K "Desk") "_known" (sp_known K) := c_Desk__known T
  obtain ⟨fd, F⟩ := T.d_Desk_bell
  refine ⟨_, fd, ["self", "name"], T.cl_Desk, T.me_Desk_bell, okF (k := 1) F sc_Desk_bell (fun vs H Q E h => ?_) (fun A outer s H vs Q E hr h => ?_), F.bindsN fun _ _ _ _ _ _ us hl => match us, hl with | [_, _], _ => rfl⟩
  · obtain ⟨d, S, D, n, rfl, _⟩ := h
    rfl
  · have nd := sc_Desk_bell.nd
    obtain ⟨d, S, D, n, rfl, hn, ⟨L, ln, rfl, x⟩, q1, q2⟩ := h
    obtain ⟨dx, hd⟩ := id x.desk
    refine ⟨_, (pss_one (ps_ret (pe_fld (pm c_Desk__known hr (by decide) (pU (L2N.takes_of rfl rfl rfl rfl)) (pv 0) (pa_cons (pv 1) pa_nil)) rfl))), ?_⟩
    refine ⟨_, rfl, d, dx, _, rfl, hd, rfl, _, rfl, d, L, ln, D, n, rfl, hn, x, q1, fun p hp en => ?_⟩
    obtain ⟨dy, hc⟩ := id (x.crs _ hp)
    exact ⟨p.1, _, _, _, _, rfl, hc, T.cl_Caller, T.na_Caller_bell, rfl, q2 p.2 (of_line x hp) en⟩
def sp_waited (K : PySem.W.Frag) : Sp := fun vs H Q E => ∃ (d : Addr) (S : List Addr) (D : Dk) (n : Str), vs = [.ref d, .str n] ∧ ByN K H E d S D n fun c => (c.st.isRdy = false → E (xc K "NotReady") none H) ∧ (c.st.isRdy = true → Q (.int (D.now - c.st.since)) H)
theorem c_Desk_waited (T : Tx K mg base) : Met P w K mg base 2 (He.ga K "Desk") "waited" (sp_waited K) := by
  have c_Desk__known : Met P w K mg base 1 (He.ga K "Desk") "_known" (sp_known K) := c_Desk__known T
  have c_Desk__waited : Met P w K mg base 1 (He.ga K "Desk") "_waited" (sp_waitedC K) := c_Desk__waited T
  have c_check_ready : Cal P w K mg base 1 "check_ready" (sp_check_ready K) := c_check_ready T
  obtain ⟨fd, F⟩ := T.d_Desk_waited
  refine ⟨_, fd, ["self", "name"], T.cl_Desk, T.me_Desk_waited, okF (k := 1) F sc_Desk_waited (fun vs H Q E h => ?_) (fun A outer s H vs Q E hr h => ?_), F.bindsN fun _ _ _ _ _ _ us hl => match us, hl with | [_, _], _ => rfl⟩
  · obtain ⟨d, S, D, n, rfl, _⟩ := h
    rfl
  · have nd := sc_Desk_waited.nd
    obtain ⟨d, S, D, n, rfl, hn, ⟨L, ln, rfl, x⟩, q1, q2⟩ := h
    obtain ⟨dx, hd⟩ := id x.desk
    refine ⟨_, (pss_cons (ps_set (i := 2) nd rfl (Or.inl rfl) (pm c_Desk__known hr (by decide) (pU (L2N.takes_of rfl rfl rfl rfl)) (pv 0) (pa_cons (pv 1) pa_nil)))
  (pss_cons (ps_expr (pf c_check_ready hr (by decide) (by rfl) (pU (L2N.takes_of rfl rfl rfl rfl)) (pa_cons (pv 2) pa_nil)))
  (pss_one (ps_ret (pm c_Desk__waited hr (by decide) p0 (pv 0) (pa_cons (pv 2) pa_nil)))))), ?_⟩
    refine ⟨_, rfl, d, dx, _, rfl, hd, rfl, _, rfl, d, L, ln, D, n, rfl, hn, x, q1, fun p hp en => ?_⟩
    obtain ⟨r1, r2⟩ := q2 p.2 (of_line x hp) en
    refine ⟨_, rfl, p.1, p.2, rfl, (at_line x hp).1, (at_line x hp).2, r1, fun er => ?_⟩
    exact ⟨_, rfl, d, dx, _, rfl, hd, rfl, _, rfl, d, L, ln, D, p, rfl, x, hp, er, r2 er⟩
def sp_limit : Sp := fun vs H Q _ => ∃ r p m : Int, vs = [.int r, .int p, .int m] ∧ (1 ≤ p ∧ p ≤ 1000) ∧ Q (.int (p * (99 - r) + m)) H
theorem c_limit (T : Tx K mg base) : Cal P w K mg base 1 "limit" sp_limit := by
  obtain ⟨fd, F⟩ := T.d_limit
  refine ⟨_, fd, ["rank", "pace", "room"], okF (k := 0) F sc_limit (fun vs H Q E h => ?_) (fun A outer s H vs Q E hr h => ?_), T.r_limit, F.kp, F.bindsN fun _ _ _ _ _ _ us hl => match us, hl with | [_, _, _], _ => rfl⟩
  · obtain ⟨r, p, m, rfl, _⟩ := h
    rfl
  · have nd := sc_limit.nd
    obtain ⟨r, p, m, rfl, hp, q⟩ := h
    refine ⟨_, (pss_one (ps_ret (pe_op op_add (pe_op op_mul (pv 1) (pe_op op_sub (pgI (by rfl) T.h_TOP) (pv 0))) (pv 2)))), ?_⟩
    exact ⟨_, rfl, _, rfl, _, _, rfl, rfl, _, _, rfl, rfl, .inl ⟨by omega, by omega⟩, _, rfl, _, _, rfl, rfl, q⟩
def sp_within (K : PySem.W.Frag) : Sp := fun vs H Q E => ∃ (d : Addr) (S : List Addr) (D : Dk) (n : Str), vs = [.ref d, .str n] ∧ ByN K H E d S D n fun c => (c.st.isRdy = false → E (xc K "NotReady") none H) ∧ (c.st.isRdy = true → Q (.int (D.pace * (99 - c.rank) + D.room - (D.now - c.st.since))) H)
theorem c_Desk_within (T : Tx K mg base) : Met P w K mg base 2 (He.ga K "Desk") "within" (sp_within K) := by
  have c_Desk__known : Met P w K mg base 1 (He.ga K "Desk") "_known" (sp_known K) := c_Desk__known T
  have c_Desk__waited : Met P w K mg base 1 (He.ga K "Desk") "_waited" (sp_waitedC K) := c_Desk__waited T
  have c_check_ready : Cal P w K mg base 1 "check_ready" (sp_check_ready K) := c_check_ready T
  have c_limit : Cal P w K mg base 1 "limit" sp_limit := c_limit T
  obtain ⟨fd, F⟩ := T.d_Desk_within
  refine ⟨_, fd, ["self", "name"], T.cl_Desk, T.me_Desk_within, okF (k := 1) F sc_Desk_within (fun vs H Q E h => ?_) (fun A outer s H vs Q E hr h => ?_), F.bindsN fun _ _ _ _ _ _ us hl => match us, hl with | [_, _], _ => rfl⟩
  · obtain ⟨d, S, D, n, rfl, _⟩ := h
    rfl
  · have nd := sc_Desk_within.nd
    obtain ⟨d, S, D, n, rfl, hn, ⟨L, ln, rfl, x⟩, q1, q2⟩ := h
    obtain ⟨dx, hd⟩ := id x.desk
    refine ⟨_, (pss_cons (ps_set (i := 2) nd rfl (Or.inl rfl) (pm c_Desk__known hr (by decide) (pU (L2N.takes_of rfl rfl rfl rfl)) (pv 0) (pa_cons (pv 1) pa_nil)))
  (pss_cons (ps_expr (pf c_check_ready hr (by decide) (by rfl) (pU (L2N.takes_of rfl rfl rfl rfl)) (pa_cons (pv 2) pa_nil)))
  (pss_one (ps_ret (pe_op op_sub (pf c_limit hr (by decide) (by rfl) p0 (pa_cons (pe_fld (pv 2) rfl) (pa_cons (pe_fld (pv 0) rfl) (pa_cons (pe_fld (pv 0) rfl) pa_nil)))) (pm c_Desk__waited hr (by decide) p0 (pv 0) (pa_cons (pv 2) pa_nil))))))), ?_⟩
    refine ⟨_, rfl, d, dx, _, rfl, hd, rfl, _, rfl, d, L, ln, D, n, rfl, hn, x, q1, fun p hp en => ?_⟩
    obtain ⟨r1, r2⟩ := q2 p.2 (of_line x hp) en
    obtain ⟨dy, hc⟩ := id (x.crs _ hp)
    refine ⟨_, rfl, p.1, p.2, rfl, (at_line x hp).1, (at_line x hp).2, r1, fun er => ?_⟩
    exact ⟨_, rfl, p.1, _, _, _, _, rfl, hc, T.cl_Caller, T.na_Caller_rank, rfl, _, rfl, d, _, _, _, _, rfl, hd, T.cl_Desk, T.na_Desk_pace, rfl, _, rfl, d, _, _, _, _, rfl, hd, T.cl_Desk, T.na_Desk_room, rfl, _, _, _, rfl, x.pr.1, _, rfl, d, dx, _, rfl, hd, rfl, _, rfl, d, L, ln, D, p, rfl, x, hp, er, _, _, rfl, rfl, r2 er⟩
def Stt.leftV (s : Stt) (now : Int) : V := match s with
  | .slp u => .int (u - now)
  | _ => .non
def sp_left (K : PySem.W.Frag) : Sp := fun vs H Q E => ∃ (d : Addr) (S : List Addr) (D : Dk) (n : Str), vs = [.ref d, .str n] ∧ ByN K H E d S D n fun c => Q (c.st.leftV D.now) H
theorem c_Desk_left (T : Tx K mg base) : Met P w K mg base 2 (He.ga K "Desk") "left" (sp_left K) := by
  have c_Desk__known : Met P w K mg base 1 (He.ga K "Desk") "_known" (sp_known K) := c_Desk__known T
  obtain ⟨fd, F⟩ := T.d_Desk_left
  refine ⟨_, fd, ["self", "name"], T.cl_Desk, T.me_Desk_left, okF (k := 1) F sc_Desk_left (fun vs H Q E h => ?_) (fun A outer s H vs Q E hr h => ?_), F.bindsN fun _ _ _ _ _ _ us hl => match us, hl with | [_, _], _ => rfl⟩
  · obtain ⟨d, S, D, n, rfl, _⟩ := h
    rfl
  · have nd := sc_Desk_left.nd
    obtain ⟨d, S, D, n, rfl, hn, ⟨L, ln, rfl, x⟩, q1, q2⟩ := h
    obtain ⟨dx, hd⟩ := id x.desk
    refine ⟨_, (pss_cons (ps_set (i := 2) nd rfl (Or.inl rfl) (pm c_Desk__known hr (by decide) (pU (L2N.takes_of rfl rfl rfl rfl)) (pv 0) (pa_cons (pv 1) pa_nil)))
  (pss_cons (ps_if (pt_cmpR op_isN (pe_fld (pv 2) rfl) pe_non (nomark _))
  (pss_one (ps_ret pe_non))
  pss_nil)
  (pss_one (ps_ret (pe_op op_sub (pe_fld (pv 2) rfl) (pe_fld (pv 0) rfl)))))), ?_⟩
    refine ⟨_, rfl, d, dx, _, rfl, hd, rfl, _, rfl, d, L, ln, D, n, rfl, hn, x, q1, fun p hp en => ?_⟩
    have q3 := q2 p.2 (of_line x hp) en
    obtain ⟨a, m, r, st⟩ := p
    obtain ⟨dy, hc⟩ := id (x.crs _ hp)
    refine ⟨_, rfl, a, _, _, _, _, rfl, hc, T.cl_Caller, T.na_Caller_due, rfl, rfl, _, rfl, ?_⟩
    cases st with
    | slp u => exact iteF ⟨_, rfl, a, _, _, _, _, rfl, hc, T.cl_Caller, T.na_Caller_due, rfl, _, rfl, d, _, _, _, _, rfl, hd, T.cl_Desk, T.na_Desk_now, rfl, _, _, rfl, rfl, q3⟩
    | rdy _ => exact iteT q3
    | wtg _ => exact iteT q3
def sp_leave (K : PySem.W.Frag) : Sp := fun vs H Q E => ∃ (d : Addr) (S : List Addr) (D : Dk) (n : Str), vs = [.ref d, .str n] ∧ ByN K H E d S D n fun _ => Now K H S d (D.leave n) (Q .non)
theorem c_Desk_leave (T : Tx K mg base) : Met P w K mg base 2 (He.ga K "Desk") "leave" (sp_leave K) := by
  have c_Desk__known : Met P w K mg base 1 (He.ga K "Desk") "_known" (sp_known K) := c_Desk__known T
  obtain ⟨fd, F⟩ := T.d_Desk_leave
  refine ⟨_, fd, ["self", "name"], T.cl_Desk, T.me_Desk_leave, okF (k := 1) F sc_Desk_leave (fun vs H Q E h => ?_) (fun A outer s H vs Q E hr h => ?_), F.bindsN fun _ _ _ _ _ _ us hl => match us, hl with | [_, _], _ => rfl⟩
  · obtain ⟨d, S, D, n, rfl, _⟩ := h
    rfl
  · have nd := sc_Desk_leave.nd
    obtain ⟨d, S, D, n, rfl, hn, ⟨L, ln, rfl, x⟩, q1, q2⟩ := h
    obtain ⟨dx, hd⟩ := id x.desk
    refine ⟨_, (pss_cons (ps_set (i := 2) nd rfl (Or.inl rfl) (pm c_Desk__known hr (by decide) (pU (L2N.takes_of rfl rfl rfl rfl)) (pv 0) (pa_cons (pv 1) pa_nil)))
  (pss_one (ps_ddel (pe_fld (pv 0) rfl) (pe_fld (pv 2) rfl)))), ?_⟩
    refine ⟨_, rfl, d, dx, _, rfl, hd, rfl, _, rfl, d, L, ln, D, n, rfl, hn, x, q1, fun p hp en => ?_⟩
    obtain ⟨dy, hc⟩ := id (x.crs _ hp)
    refine ⟨_, rfl, d, _, _, _, _, rfl, hd, T.cl_Desk, T.na_Desk__line, rfl, _, rfl, p.1, _, _, _, _, rfl, hc, T.cl_Caller, T.na_Caller_name, rfl, L, _, Sum.inr p.2.name, rfl, x.line, rfl, ?_, ?_⟩
    · rw [kvs_find]
      obtain ⟨p', e1, _⟩ := find_some (n := p.2.name) (ln := ln) (by rw [x.eq]; exact (in_names x hp).2)
      rw [e1]
      rfl
    · rw [en]
      refine q2 p.2 (of_line x hp) en _ (d :: L :: (dropLn n ln).map (·.1)) (Keep.upd x.line (by simp) nt_dK) (fun b hb => .inl ?_) ⟨L, _, rfl, x.drop n⟩
      rcases List.mem_cons.mp hb with z | z
      · rw [z]
        simp
      · rcases List.mem_cons.mp z with z | z
        · rw [z]
          simp
        · obtain ⟨y, hy, e⟩ := List.mem_map.mp z
          exact List.mem_cons_of_mem _ (List.mem_cons_of_mem _ (List.mem_map.mpr ⟨y, (List.mem_filter.mp hy).1, e⟩))
/-- a caller has become so and has gone to the end -/
theorem moved {H H1 : Hp} {d L : Addr} {ln : Ln} {D : Dk} {a : Addr} {c : Cr} {st : Stt} {o : HO} (x : DkIn K H d L ln D) (hp : (a, c) ∈ ln) (k : Keep [L] (L2.upd H a o) H1) (x1 : DkIn K H1 d L (moveLn (c.as st) ln) (D.move (c.as st))) {q : Hp → Prop}
    (h : Now K H (d :: L :: ln.map (·.1)) d (D.move (c.as st)) q) : q H1 :=
  h _ _ (Keep.moved x hp k fun _ z => z) (sub_same (Same.move x hp)) ⟨L, _, rfl, x1⟩
def sp_sleep (K : PySem.W.Frag) : Sp := fun vs H Q E => ∃ (d : Addr) (S : List Addr) (D : Dk) (n : Str) (m : Int), vs = [.ref d, .str n, .int m] ∧ Mod m ∧ ByN K H E d S D n fun c => (¬ (1 ≤ m ∧ m ≤ 1000) → E (xc K "NoSpan") none H) ∧ (1 ≤ m ∧ m ≤ 1000 →
  (c.st.isRdy = false → E (xc K "NotReady") none H) ∧ (c.st.isRdy = true → Now K H S d (D.move (c.as (.slp (D.now + m)))) (Q .non)))
theorem c_Desk_sleep (T : Tx K mg base) : Met P w K mg base 2 (He.ga K "Desk") "sleep" (sp_sleep K) := by
  have c_Desk__known : Met P w K mg base 1 (He.ga K "Desk") "_known" (sp_known K) := c_Desk__known T
  have c_check_span : Cal P w K mg base 1 "check_span" (sp_check_span K) := c_check_span T
  have c_check_ready : Cal P w K mg base 1 "check_ready" (sp_check_ready K) := c_check_ready T
  have c_Caller_become_due : MetK P w K mg base 1 (He.ga K "Caller") "become" (sp_become K) 2 ["due"] (fun vs zs => vs ++ ([.non] ++ (zs ++ [.non]))) := c_Caller_become_due T
  have c_Desk__go_last : Met P w K mg base 1 (He.ga K "Desk") "_go_last" (sp_go_last K) := c_Desk__go_last T
  obtain ⟨fd, F⟩ := T.d_Desk_sleep
  refine ⟨_, fd, ["self", "name", "many"], T.cl_Desk, T.me_Desk_sleep, okF (k := 1) F sc_Desk_sleep (fun vs H Q E h => ?_) (fun A outer s H vs Q E hr h => ?_), F.bindsN fun _ _ _ _ _ _ us hl => match us, hl with | [_, _, _], _ => rfl⟩
  · obtain ⟨d, S, D, n, m, rfl, _⟩ := h
    rfl
  · have nd := sc_Desk_sleep.nd
    obtain ⟨d, S, D, n, m, rfl, hm, hn, ⟨L, ln, rfl, x⟩, q1, q2⟩ := h
    obtain ⟨dx, hd⟩ := id x.desk
    refine ⟨_, (pss_cons (ps_set (i := 3) nd rfl (Or.inl rfl) (pm c_Desk__known hr (by decide) (pU (L2N.takes_of rfl rfl rfl rfl)) (pv 0) (pa_cons (pv 1) pa_nil)))
  (pss_cons (ps_expr (pf c_check_span hr (by decide) (by rfl) (pU (L2N.takes_of rfl rfl rfl rfl)) (pa_cons (pv 2) (pa_cons pe_int pa_nil))))
  (pss_cons (ps_expr (pf c_check_ready hr (by decide) (by rfl) (pU (L2N.takes_of rfl rfl rfl rfl)) (pa_cons (pv 3) pa_nil)))
  (pss_cons (ps_expr (pmk c_Caller_become_due hr (by decide) passN (pv 3) (pa_cons (pgS (by rfl) T.h_ASLEEP) pa_nil) (pk_cons (pe_op op_add (pe_fld (pv 0) rfl) (pv 2)) pk_nil)))
  (pss_one (ps_expr (pm c_Desk__go_last hr (by decide) p0 (pv 0) (pa_cons (pv 3) pa_nil)))))))), ?_⟩
    refine ⟨_, rfl, d, dx, _, rfl, hd, rfl, _, rfl, d, L, ln, D, n, rfl, hn, x, q1, fun p hp en => ?_⟩
    obtain ⟨r1, r2⟩ := q2 p.2 (of_line x hp) en
    refine ⟨_, rfl, m, 1, rfl, hm, ⟨by decide, by decide⟩, r1, fun e1 => ?_⟩
    obtain ⟨r3, r4⟩ := r2 e1
    refine ⟨_, rfl, p.1, p.2, rfl, (at_line x hp).1, (at_line x hp).2, r3, fun er => ?_⟩
    obtain ⟨dy, hc⟩ := id (x.crs _ hp)
    refine ⟨_, rfl, p.1, dy, _, rfl, hc, rfl, _, rfl, d, _, _, _, _, rfl, hd, T.cl_Desk, T.na_Desk_now, rfl, _, rfl, _, _, rfl, rfl, rfl, rfl, p.1, dy, _, _, _, _, _, _, .slp (D.now + m), rfl, hc, ?_⟩
    have x2 := x.set (c' := p.2.as (.slp (D.now + m))) (dx := dy) hp rfl
    obtain ⟨dx2, hd2⟩ := id x2.desk
    exact ⟨_, rfl, d, dx2, _, rfl, hd2, rfl, _, rfl, d, L, _, _, p.1, p.2.as (.slp (D.now + m)), rfl, x2, setLn_mem hp rfl, fun H3 k3 x3 => moved x hp k3 x3 (r4 er)⟩
def sp_wait (K : PySem.W.Frag) : Sp := fun vs H Q E => ∃ (d : Addr) (S : List Addr) (D : Dk) (n b : Str), vs = [.ref d, .str n, .str b] ∧ Small b ∧ TabG H (tabN K) ∧ ByN K H E d S D n fun c => (isName b = false → ∀ H', Keep [] H H' → E (xc K "NoName") none H') ∧ (isName b = true →
  (c.st.isRdy = false → ∀ H', Keep [] H H' → E (xc K "NotReady") none H') ∧ (c.st.isRdy = true → Now K H S d (D.move (c.as (.wtg b))) (Q .non)))
theorem c_Desk_wait (T : Tx K mg base) : Met P w K mg base 3 (He.ga K "Desk") "wait" (sp_wait K) := by
  have c_Desk__known : Met P w K mg base 1 (He.ga K "Desk") "_known" (sp_known K) := c_Desk__known T
  have c_check_name : Cal P w K mg base 2 "check_name" (sp_check_name K) := c_check_name T
  have c_check_ready : Cal P w K mg base 1 "check_ready" (sp_check_ready K) := c_check_ready T
  have c_Caller_become_bell : MetK P w K mg base 1 (He.ga K "Caller") "become" (sp_become K) 2 ["bell"] (fun vs zs => vs ++ ([.non, .non] ++ zs)) := c_Caller_become_bell T
  have c_Desk__go_last : Met P w K mg base 1 (He.ga K "Desk") "_go_last" (sp_go_last K) := c_Desk__go_last T
  obtain ⟨fd, F⟩ := T.d_Desk_wait
  refine ⟨_, fd, ["self", "name", "bell"], T.cl_Desk, T.me_Desk_wait, okF (k := 2) F sc_Desk_wait (fun vs H Q E h => ?_) (fun A outer s H vs Q E hr h => ?_), F.bindsN fun _ _ _ _ _ _ us hl => match us, hl with | [_, _, _], _ => rfl⟩
  · obtain ⟨d, S, D, n, b, rfl, _⟩ := h
    rfl
  · have nd := sc_Desk_wait.nd
    obtain ⟨d, S, D, n, b, rfl, hb, hT, hn, ⟨L, ln, rfl, x⟩, q1, q2⟩ := h
    obtain ⟨dx, hd⟩ := id x.desk
    refine ⟨_, (pss_cons (ps_set (i := 3) nd rfl (Or.inl rfl) (pm c_Desk__known hr (by decide) (pU (L2N.takes_of rfl rfl rfl rfl)) (pv 0) (pa_cons (pv 1) pa_nil)))
  (pss_cons (ps_expr (pf c_check_name hr (by decide) (by rfl) (pU (L2N.takes_of rfl rfl rfl rfl)) (pa_cons (pv 2) pa_nil)))
  (pss_cons (ps_expr (pf c_check_ready hr (by decide) (by rfl) (pU (L2N.takes_of rfl rfl rfl rfl)) (pa_cons (pv 3) pa_nil)))
  (pss_cons (ps_expr (pmk c_Caller_become_bell hr (by decide) passN (pv 3) (pa_cons (pgS (by rfl) T.h_WAITING) pa_nil) (pk_cons (pv 2) pk_nil)))
  (pss_one (ps_expr (pm c_Desk__go_last hr (by decide) p0 (pv 0) (pa_cons (pv 3) pa_nil)))))))), ?_⟩
    refine ⟨_, rfl, d, dx, _, rfl, hd, rfl, _, rfl, d, L, ln, D, n, rfl, hn, x, q1, fun p hp en => ?_⟩
    obtain ⟨r1, r2⟩ := q2 p.2 (of_line x hp) en
    refine ⟨_, rfl, b, rfl, hb, hT, fun H1 k1 => ⟨fun e => r1 e H1 k1, fun e1 => ?_⟩⟩
    obtain ⟨r3, r4⟩ := r2 e1
    have x1 := x.keep k1 fun _ _ => List.not_mem_nil
    refine ⟨_, rfl, p.1, p.2, rfl, (at_line x1 hp).1, (at_line x1 hp).2, fun e => r3 e H1 k1, fun er => ?_⟩
    obtain ⟨dy, hc⟩ := id (x1.crs _ hp)
    refine ⟨_, rfl, p.1, dy, _, rfl, hc, rfl, _, rfl, rfl, rfl, p.1, dy, _, _, _, _, _, _, .wtg b, rfl, hc, ?_⟩
    have x2 := x1.set (c' := p.2.as (.wtg b)) (dx := dy) hp rfl
    obtain ⟨dx2, hd2⟩ := id x2.desk
    exact ⟨_, rfl, d, dx2, _, rfl, hd2, rfl, _, rfl, d, L, _, _, p.1, p.2.as (.wtg b), rfl, x2, setLn_mem hp rfl, fun H3 k3 x3 => moved x1 hp k3 x3 fun H' S' k s y => r4 er H' S' (k1.any.trans k) (fun z hz => (s z hz).imp_right (k1.gone z)) y⟩
def sp_wake (K : PySem.W.Frag) : Sp := fun vs H Q E => ∃ (d : Addr) (S : List Addr) (D : Dk) (n : Str), vs = [.ref d, .str n] ∧ ByN K H E d S D n fun c => (c.st.isRdy = true → E (xc K "IsReady") none H) ∧ (c.st.isRdy = false → Now K H S d (D.move (c.as (.rdy D.now))) (Q .non))
theorem c_Desk_wake (T : Tx K mg base) : Met P w K mg base 3 (He.ga K "Desk") "wake" (sp_wake K) := by
  have c_Desk__known : Met P w K mg base 1 (He.ga K "Desk") "_known" (sp_known K) := c_Desk__known T
  have c_check_not_ready : Cal P w K mg base 1 "check_not_ready" (sp_check_not_ready K) := c_check_not_ready T
  have c_Desk__make_ready : Met P w K mg base 2 (He.ga K "Desk") "_make_ready" (sp_make_ready K) := c_Desk__make_ready T
  obtain ⟨fd, F⟩ := T.d_Desk_wake
  refine ⟨_, fd, ["self", "name"], T.cl_Desk, T.me_Desk_wake, okF (k := 2) F sc_Desk_wake (fun vs H Q E h => ?_) (fun A outer s H vs Q E hr h => ?_), F.bindsN fun _ _ _ _ _ _ us hl => match us, hl with | [_, _], _ => rfl⟩
  · obtain ⟨d, S, D, n, rfl, _⟩ := h
    rfl
  · have nd := sc_Desk_wake.nd
    obtain ⟨d, S, D, n, rfl, hn, ⟨L, ln, rfl, x⟩, q1, q2⟩ := h
    obtain ⟨dx, hd⟩ := id x.desk
    refine ⟨_, (pss_cons (ps_set (i := 2) nd rfl (Or.inl rfl) (pm c_Desk__known hr (by decide) (pU (L2N.takes_of rfl rfl rfl rfl)) (pv 0) (pa_cons (pv 1) pa_nil)))
  (pss_cons (ps_expr (pf c_check_not_ready hr (by decide) (by rfl) (pU (L2N.takes_of rfl rfl rfl rfl)) (pa_cons (pv 2) pa_nil)))
  (pss_one (ps_expr (pm c_Desk__make_ready hr (by decide) p0 (pv 0) (pa_cons (pe_lst (pa_cons (pv 2) pa_nil)) pa_nil)))))), ?_⟩
    refine ⟨_, rfl, d, dx, _, rfl, hd, rfl, _, rfl, d, L, ln, D, n, rfl, hn, x, q1, fun p hp en => ?_⟩
    obtain ⟨r1, r2⟩ := q2 p.2 (of_line x hp) en
    refine ⟨_, rfl, p.1, p.2, rfl, (at_line x hp).1, (at_line x hp).2, r1, fun er => ?_⟩
    refine ⟨_, rfl, d, dx, _, rfl, hd, rfl, _, rfl, (show 1 ≤ sizeLine by decide), fun b nb => ?_⟩
    have k1 : Keep [] H (L2.upd H b (.lst [.ref p.1])) := Keep.new nb
    have x1 := x.keep k1 fun _ _ => List.not_mem_nil
    exact ⟨d, L, ln, D, b, [p], rfl, x1, upd_same, fun p' h' => ⟨p'.2.st, by rw [List.mem_singleton.mp h']; exact hp⟩, fun H' ln' k s y => r2 er H' _ (k1.any.trans k) (sub_same s) ⟨L, ln', rfl, y⟩⟩
def sp_rerank (K : PySem.W.Frag) : Sp := fun vs H Q E => ∃ (d : Addr) (S : List Addr) (D : Dk) (n : Str) (r : Int), vs = [.ref d, .str n, .int r] ∧ Mod r ∧ ByN K H E d S D n fun c => (¬ (0 ≤ r ∧ r ≤ 99) → E (xc K "NoRank") none H) ∧ (0 ≤ r ∧ r ≤ 99 →
  (c.st.isRdy = true → E (xc K "IsReady") none H) ∧ (c.st.isRdy = false → Now K H S d (D.setR { c with rank := r }) (Q .non)))
theorem c_Desk_rerank (T : Tx K mg base) : Met P w K mg base 2 (He.ga K "Desk") "rerank" (sp_rerank K) := by
  have c_Desk__known : Met P w K mg base 1 (He.ga K "Desk") "_known" (sp_known K) := c_Desk__known T
  have c_check_rank : Cal P w K mg base 1 "check_rank" (sp_check_rank K) := c_check_rank T
  have c_check_not_ready : Cal P w K mg base 1 "check_not_ready" (sp_check_not_ready K) := c_check_not_ready T
  obtain ⟨fd, F⟩ := T.d_Desk_rerank
  refine ⟨_, fd, ["self", "name", "rank"], T.cl_Desk, T.me_Desk_rerank, okF (k := 1) F sc_Desk_rerank (fun vs H Q E h => ?_) (fun A outer s H vs Q E hr h => ?_), F.bindsN fun _ _ _ _ _ _ us hl => match us, hl with | [_, _, _], _ => rfl⟩
  · obtain ⟨d, S, D, n, r, rfl, _⟩ := h
    rfl
  · have nd := sc_Desk_rerank.nd
    obtain ⟨d, S, D, n, r, rfl, hr9, hn, ⟨L, ln, rfl, x⟩, q1, q2⟩ := h
    obtain ⟨dx, hd⟩ := id x.desk
    refine ⟨_, (pss_cons (ps_set (i := 3) nd rfl (Or.inl rfl) (pm c_Desk__known hr (by decide) (pU (L2N.takes_of rfl rfl rfl rfl)) (pv 0) (pa_cons (pv 1) pa_nil)))
  (pss_cons (ps_expr (pf c_check_rank hr (by decide) (by rfl) (pU (L2N.takes_of rfl rfl rfl rfl)) (pa_cons (pv 2) pa_nil)))
  (pss_cons (ps_expr (pf c_check_not_ready hr (by decide) (by rfl) (pU (L2N.takes_of rfl rfl rfl rfl)) (pa_cons (pv 3) pa_nil)))
  (pss_one (ps_fld (pv 3) (pv 2) rfl))))), ?_⟩
    refine ⟨_, rfl, d, dx, _, rfl, hd, rfl, _, rfl, d, L, ln, D, n, rfl, hn, x, q1, fun p hp en => ?_⟩
    obtain ⟨r1, r2⟩ := q2 p.2 (of_line x hp) en
    refine ⟨_, rfl, r, rfl, hr9, r1, fun e1 => ?_⟩
    obtain ⟨r3, r4⟩ := r2 e1
    refine ⟨_, rfl, p.1, p.2, rfl, (at_line x hp).1, (at_line x hp).2, r3, fun er => ?_⟩
    obtain ⟨dy, hc⟩ := id (x.crs _ hp)
    refine ⟨_, rfl, _, rfl, p.1, _, dy, _, rfl, hc, T.cl_Caller, T.na_Caller_rank, (show 6 < 1000 by decide), ?_⟩
    have x2 := x.set (c' := { p.2 with rank := r }) (dx := dy) hp rfl
    refine r4 er _ _ (Keep.upd hc ?_ nt_ins) (fun b hb => .inl hb) ⟨L, _, ?_, x2⟩
    · exact List.mem_cons_of_mem _ (List.mem_cons_of_mem _ (List.mem_map_of_mem (f := (·.1)) hp))
    · rw [setLn_fst]
end
end Rr

set_option maxRecDepth 100000
set_option maxHeartbeats 4000000
namespace Rr
open PySem PySem.Spec PyProof.Rows L2
open GxR (TabG Tabbed)
open Evl (pss_cut)
/-! ### turns, a twin -/
theorem due_eq (st : Stt) (n : Int) : decide (st.dueV = V.int n) = decide (st = .slp n) := by
  cases st with
  | rdy _ => rfl
  | wtg _ => rfl
  | slp c =>
    by_cases e : c = n
    · rw [e]
      exact (decide_eq_true rfl).trans (decide_eq_true rfl).symm
    · exact (decide_eq_false fun z => e (V.int.inj z)).trans (decide_eq_false fun z => e (Stt.slp.inj z)).symm
theorem pick_mem {D : Dk} {c : Cr} (h : D.pick = some c) : c ∈ D.line ∧ c.st.isRdy = true := by
  unfold Dk.pick pick at h
  cases e : pickI (agedC D.pace D.now) (readies D.line) with
  | none =>
    rw [e] at h
    cases h
  | some y =>
    rw [e] at h
    cases h
    exact List.mem_filter.mp (List.mem_of_getElem? (pickI_at _ _ _ rfl (j := y.1) (x := y.2) e))
/-- the desk behind n turns; what they tell -/
def Dk.after (D : Dk) : Nat → Dk
  | 0 => D
  | n + 1 => (D.after n).turn
def Dk.told (D : Dk) (n : Nat) : List V := (List.range n).map fun i => nmV (D.after i).pick
theorem told_snoc (D : Dk) (n : Nat) : D.told (n + 1) = D.told n ++ [nmV (D.after n).pick] := by
  unfold Dk.told
  rw [List.range_succ, List.map_append]
  rfl
theorem told_len (D : Dk) (n : Nat) : (D.told n).length = n := by
  unfold Dk.told
  rw [List.length_map, List.length_range]
section
variable {P : Program} {w : World} {K : PySem.W.Frag} {mg : Str → Option Value} {base : Heap}
def sp_turn (K : PySem.W.Frag) : Sp := fun vs H Q _ => ∃ (d : Addr) (S : List Addr) (D : Dk), vs = [.ref d] ∧ DkAt K H S d D ∧ Now K H S d D.turn (Q (nmV D.pick))
theorem c_Desk_turn (T : Tx K mg base) : Met P w K mg base 4 (He.ga K "Desk") "turn" (sp_turn K) := by
  have c_Desk__chosen : Met P w K mg base 3 (He.ga K "Desk") "_chosen" (sp_chosen K) := c_Desk__chosen T
  have c_Desk__make_ready : Met P w K mg base 2 (He.ga K "Desk") "_make_ready" (sp_make_ready K) := c_Desk__make_ready T
  obtain ⟨fd, F⟩ := T.d_Desk_turn
  refine ⟨_, fd, ["self"], T.cl_Desk, T.me_Desk_turn, okF (k := 3) F sc_Desk_turn (fun vs H Q E h => ?_) (fun A outer s H vs Q E hr h => ?_), F.bindsN fun _ _ _ _ _ _ us hl => match us, hl with | [_], _ => rfl⟩
  · obtain ⟨d, S, D, rfl, _⟩ := h
    rfl
  · have nd := sc_Desk_turn.nd
    obtain ⟨d, S, D, rfl, ⟨L, ln, rfl, x0⟩, q⟩ := h
    obtain ⟨dx0, hd0⟩ := id x0.desk
    refine ⟨_, (pss_cut (ps_set (i := 1) nd rfl (Or.inl rfl) (pm0 c_Desk__chosen hr (by decide) p0 (pv 0)))
  (pss_cons (ps_fldaug (pv 0) pe_int in_add)
  (pss_cons (ps_expr (pm c_Desk__make_ready hr (by decide) p0 (pv 0) (pa_cons (pe_lock (pe_lc (own := [("caller", 2)]) (g := gName 2) rfl nd (pi_values (pe_fldK (K := K) rfl (pv 0) rfl)) (blkOk_by (N := N_Desk_turn) (sc := defScope s_Desk_turn) (by decide +kernel)) (fun _ _ _ _ _ => (pg_name (i := 2) nd rfl (Or.inl rfl))) (fun _ _ _ _ _ => (pts_one (pt_cmpR op_eq (pe_fldK (K := K) rfl (pv 2) rfl) (pe_fldK (K := K) rfl (pv 0) rfl) (nomark _)))) (fun _ _ _ _ _ => (pv 2)))) pa_nil)))
  (pss_cut (ps_if (pt_cmpR op_isN (pv 1) pe_non (nomark _))
  (pss_one (ps_ret pe_non))
  pss_nil)
  (pss_cons (ps_expr (pm c_Desk__make_ready hr (by decide) p0 (pv 0) (pa_cons (pe_lst (pa_cons (pv 1) pa_nil)) pa_nil)))
  (pss_one (ps_ret (pe_fld (pv 1) rfl)))))))), ?_⟩
    refine ⟨fun σ' H1 => Keep [] H H1 ∧ ∃ v, σ' = [some (.ref d), some v, none] ∧ ((D.pick = none ∧ v = .non) ∨ ∃ p ∈ ln, D.pick = some p.2 ∧ v = .ref p.1), ?_, ?_⟩
    · refine ⟨_, rfl, d, dx0, _, rfl, hd0, rfl, d, L, ln, D, rfl, x0, fun H1 k1 => ⟨fun e => ⟨k1, _, rfl, .inl ⟨e, rfl⟩⟩, fun p hp _ e => ⟨k1, _, rfl, .inr ⟨p, hp, e, rfl⟩⟩⟩⟩
    rintro σ' H1 ⟨k1, v, rfl, hv⟩
    have x := x0.keep k1 fun _ _ => List.not_mem_nil
    obtain ⟨dx, hd⟩ := id x.desk
    refine ⟨_, rfl, d, _, _, _, _, rfl, hd, T.cl_Desk, T.na_Desk_now, rfl, _, _, rfl, rfl, _, _, hd, (show 4 < 1000 by decide), ?_⟩
    have k2 : Keep (d :: L :: ln.map (·.1)) H1 (L2.upd H1 d (.ins (He.ga K "Desk") dx (putF "now" (.int (D.now + 1)) (dFs D.pace D.room D.now L)))) := Keep.upd hd (by simp) nt_ins
    have x2 : DkIn K (L2.upd H1 d (.ins (He.ga K "Desk") dx (putF "now" (.int (D.now + 1)) (dFs D.pace D.room D.now L)))) d L ln { D with now := D.now + 1 } := x.time (n := D.now + 1) (dx := dx)
    obtain ⟨dx2, hd2⟩ := id x2.desk
    refine ⟨_, rfl, d, dx2, _, rfl, hd2, rfl, ?_⟩
    refine ⟨L, _, x2.line, trivial, fun od => ?_⟩
    refine ⟨_, rfl, d, _, _, _, _, rfl, (upd_ne x2.dne).trans hd2, T.cl_Desk, T.na_Desk__line, rfl, L, od, _, rfl, upd_same, fun c nc => ?_⟩
    have cL : c ≠ L := fun z => by rw [z, upd_same] at nc; cases nc
    generalize hH2 : L2.upd H1 d (.ins (He.ga K "Desk") dx (putF "now" (.int (D.now + 1)) (dFs D.pace D.room D.now L))) = H2 at *
    have nc2 : H2 c = none := (upd_ne cL).symm.trans nc
    refine lc_it walk_values (Pv := fun i H' => Keep [] (upd H2 L (.frz od (.dK (kvsOf ln)))) H' ∧ H' c = some (.lst (((ln.take i).filter fun p => decide (p.2.st = .slp (D.now + 1))).map fun p => V.ref p.1))) ⟨Keep.new nc, upd_same⟩ (fun i H' _ p => p.1.old _ _ upd_same List.not_mem_nil nt_frz) ?_ ?_
    · rintro i v H3 H4 hi ⟨k3, hb3⟩ ⟨rfl, k, hk⟩
      obtain ⟨p, hpi, hp, rfl⟩ := kvs_at hk
      obtain ⟨dy, hc⟩ := id (x2.crs _ hp)
      have hc3 := k3.old p.1 _ ((upd_ne (x2.lne (List.mem_map_of_mem (f := (·.1)) hp))).trans hc) List.not_mem_nil nt_ins
      have hd3 := k3.old d _ ((upd_ne x2.dne).trans hd2) List.not_mem_nil nt_ins
      refine ⟨rfl, ?_⟩
      refine ⟨_, rfl, p.1, _, _, _, _, rfl, hc3, T.cl_Caller, T.na_Caller_due, rfl, _, rfl, d, _, _, _, _, rfl, hd3, T.cl_Desk, T.na_Desk_now, rfl, (by cases p.2.st <;> rfl), _, rfl, ?_⟩
      rw [due_eq, take_filter hpi]
      cases e : decide (p.2.st = .slp (D.now + 1)) with
      | false =>
        refine iteF ⟨k3, ?_⟩
        rw [if_neg (by simp), List.append_nil]
        exact hb3
      | true =>
        refine iteT ⟨_, rfl, _, hb3, ?_, k3.set (.inl nc) hb3 nt_lst, ?_⟩
        · rw [List.length_map]
          have h1 := List.length_filter_le (fun p : Addr × Cr => decide (p.2.st = .slp (D.now + 1))) (ln.take i)
          rw [List.length_take, ln_len x] at h1
          have h2 := x.len
          exact small1000 (by omega)
        · rw [upd_same, if_pos rfl, List.map_append]
          rfl
    rintro H3 ⟨k3, hc3⟩
    have hL := k3.old _ _ upd_same List.not_mem_nil nt_frz
    rw [show (kvsOf ln).length = ln.length from kvs_len ln, List.take_of_length_le (Nat.le_refl _)] at hc3
    have k4 : Keep [] H2 (upd H3 L (.dK (kvsOf ln))) := Keep.back x2.line nt_dK k3
    refine ⟨hL, ?_⟩
    have x4 := x2.keep k4 fun _ _ => List.not_mem_nil
    have hc4 : (upd H3 L (.dK (kvsOf ln))) c = some (.lst ((ln.filter fun p => decide (p.2.st = .slp (D.now + 1))).map fun p => V.ref p.1)) := (upd_ne cL).trans hc3
    refine ⟨d, L, ln, _, c, _, rfl, x4, hc4, fun p hp => ⟨p.2.st, (List.mem_filter.mp hp).1⟩, fun H5 ln5 k5 s5 x5 => ?_⟩
    have eT : (ln.filter fun p => decide (p.2.st = .slp (D.now + 1))).map (·.2) = D.line.filter fun c => decide (c.st = .slp (D.now + 1)) := by
      rw [filter_snd (fun c => decide (c.st = .slp (D.now + 1))), x.eq]
    rw [eT] at x5
    have x5 : DkIn K H5 d L ln5 D.tick := x5
    have kA : Keep (d :: L :: ln.map (·.1)) H H5 := ((k1.any.trans k2).trans k4.any).trans k5
    have eN : D.tick.now = D.now + 1 := wakeAll_now _ _
    refine ⟨fun σ' H6 => H5 = H6 ∧ ∃ p ∈ ln, σ' = [some (.ref d), some (.ref p.1), none] ∧ D.pick = some p.2, ?_, ?_⟩
    · rcases hv with ⟨e, rfl⟩ | ⟨p, hp, e, rfl⟩
      · refine ⟨_, rfl, rfl, _, rfl, iteT ?_⟩
        have q1 := q H5 (d :: L :: ln5.map (·.1)) kA (sub_same s5) ⟨L, ln5, rfl, by unfold Dk.turn; rw [e]; exact x5⟩
        rw [e] at q1
        exact q1
      · exact ⟨_, rfl, rfl, _, rfl, iteF ⟨rfl, p, hp, rfl, e⟩⟩
    rintro σ' _ ⟨rfl, p, hp, rfl, e⟩
    obtain ⟨st5, hp5⟩ := s5.2 p hp
    obtain ⟨dx5, hd5⟩ := id x5.desk
    refine ⟨_, rfl, d, dx5, _, rfl, hd5, rfl, _, rfl, (show 1 ≤ sizeLine by decide), fun b nb => ?_⟩
    have k6 : Keep [] H5 (L2.upd H5 b (.lst [.ref p.1])) := Keep.new nb
    have x6 := x5.keep k6 fun _ _ => List.not_mem_nil
    refine ⟨d, L, ln5, D.tick, b, [p], rfl, x6, upd_same, fun p' h' => ⟨st5, by rw [List.mem_singleton.mp h']; exact hp5⟩, fun H7 ln7 k7 s7 x7 => ?_⟩
    obtain ⟨st7, hp7⟩ := (s5.trans s7).2 p hp
    obtain ⟨dy, hc⟩ := id (x7.crs _ hp7)
    refine ⟨_, rfl, p.1, _, _, _, _, rfl, hc, T.cl_Caller, T.na_Caller_name, rfl, ?_⟩
    have q1 := q H7 (d :: L :: ln7.map (·.1)) ((kA.trans k6.any).trans (k7.mono fun z hz => s5.own.mp hz)) (sub_same (s5.trans s7)) ⟨L, ln7, rfl, by
      unfold Dk.turn
      rw [e]
      show DkIn K H7 d L ln7 (D.tick.move (p.2.as (.rdy (D.now + 1))))
      rw [← eN]
      exact x7⟩
    rw [e] at q1
    exact q1
end
end Rr

set_option maxRecDepth 100000
set_option maxHeartbeats 4000000
namespace Rr
open PySem PySem.Spec PyProof.Rows L2
open GxR (TabG Tabbed)
open Evl (pss_cut)
open TL (tl tl_append len_tl)
/-- a statement that is not come to -/
theorem ps_never {X : Cx} {st : Stmt} : PS X st (fun _ _ _ => False) := ⟨fun _ _ _ _ _ _ h => h.elim⟩
theorem pss_never {X : Cx} {st : Stmt} : PSs X [st] (fun _ _ _ => False) := pss_one ps_never
section
variable {P : Program} {w : World} {K : PySem.W.Frag} {mg : Str → Option Value} {base : Heap}
end
end Rr

set_option maxRecDepth 100000
set_option maxHeartbeats 4000000
namespace Rr
open PySem PySem.Spec PyProof.Rows L2
open GxR (TabG Tabbed)
open Evl (pss_cut)
open TL (tl tl_append len_tl)
/-! the laws' words: cells, numbers, names -/
def paceBy (c : Int) : Int := ([1, 2, 3, 1 + mix c 10067 1000] : List Int).getD (mix c 10069 4).toNat 1
theorem pace_ok (c : Int) : 1 ≤ paceBy c ∧ paceBy c ≤ 1000 := by
  have h := mix_nn (c := c) (p := 10069) (m := 4) (by decide)
  have h2 := mix_nn (c := c) (p := 10067) (m := 1000) (by decide)
  have h3 : (mix c 10069 4).toNat = 0 ∨ (mix c 10069 4).toNat = 1 ∨ (mix c 10069 4).toNat = 2 ∨ (mix c 10069 4).toNat = 3 := by omega
  unfold paceBy
  rcases h3 with e | e | e | e <;> rw [e] <;> simp <;> omega
section
variable {P : Program} {w : World} {K : PySem.W.Frag} {mg : Str → Option Value} {base : Heap}
def sp_cell (K : PySem.W.Frag) : Sp := fun vs H Q _ => ∃ (a : Addr) (ns : List Int) (k : Int), vs = [.ref a, .int k] ∧ SqL K H a (ns.map V.int) ∧ 0 ≤ k ∧ Q (.int (cell ns k)) H
theorem c__law_cell_at (T : Tx K mg base) : Cal P w K mg base 1 "_law_cell_at" (sp_cell K) := by
  obtain ⟨fd, F⟩ := T.d__law_cell_at
  refine ⟨_, fd, ["_law_script", "_law_k"], okF (k := 0) F sc__law_cell_at (fun vs H Q E h => ?_) (fun A outer s H vs Q E hr h => ?_), T.r__law_cell_at, F.kp, F.bindsN fun _ _ _ _ _ _ us hl => match us, hl with | [_, _], _ => rfl⟩
  · obtain ⟨a, ns, k, rfl, _⟩ := h
    rfl
  · have nd := sc__law_cell_at.nd
    obtain ⟨a, ns, z, rfl, hS, hz, q⟩ := h
    obtain ⟨k, rfl⟩ : ∃ k : Nat, z = k := ⟨z.toNat, by omega⟩
    refine ⟨_, (pss_cons (ps_if (pt_cmpR op_lt (pv 1) (pe_callB call_len_seq (by rfl) T.m_len boot_len (pa_cons (pv 0) pa_nil)) (nomark _))
  (pss_one (ps_ret (pe_ix ix_list (pv 0) (pv 1) (fun _ _ => rfl))))
  pss_nil)
  (pss_one (ps_ret pe_int))), ?_⟩
    refine ⟨_, rfl, _, rfl, a, _, rfl, .inl hS, _, _, rfl, rfl, _, rfl, ite2 (fun e => ?_) (fun e => ?_)⟩
    · have e0 : (k : Int) < ((ns.map V.int).length : Int) := of_decide_eq_true e
      rw [List.length_map] at e0
      have hk : k < ns.length := by omega
      refine ⟨_, rfl, _, rfl, a, _, _, _, rfl, rfl, hS, atI_nat (j := k) (by rw [List.getElem?_map, List.getElem?_eq_getElem hk]; rfl), ?_⟩
      have e1 : cell ns k = ns[k] := by
        unfold cell
        rw [Int.toNat_natCast, List.getD_eq_getElem?_getD, List.getElem?_eq_getElem hk]
        rfl
      rw [e1] at q
      exact q
    · have e0 : ¬ (k : Int) < ((ns.map V.int).length : Int) := fun z => e (decide_eq_true z)
      rw [List.length_map] at e0
      have e1 : cell ns k = 0 := by
        unfold cell
        rw [Int.toNat_natCast, List.getD_eq_getElem?_getD, List.getElem?_eq_none (by omega)]
        rfl
      rw [e1] at q
      exact q
def sp_mix : Sp := fun vs H Q _ => ∃ c p m : Int, vs = [.int c, .int p, .int m] ∧ 0 < p ∧ 0 < m ∧ Q (.int (mix c p m)) H
theorem c__law_mix (T : Tx K mg base) : Cal P w K mg base 1 "_law_mix" sp_mix := by
  obtain ⟨fd, F⟩ := T.d__law_mix
  refine ⟨_, fd, ["_law_cell", "_law_prime", "_law_many"], okF (k := 0) F sc__law_mix (fun vs H Q E h => ?_) (fun A outer s H vs Q E hr h => ?_), T.r__law_mix, F.kp, F.bindsN fun _ _ _ _ _ _ us hl => match us, hl with | [_, _, _], _ => rfl⟩
  · obtain ⟨c, p, m, rfl, _⟩ := h
    rfl
  · have nd := sc__law_mix.nd
    obtain ⟨c, p, m, rfl, hp, hm, q⟩ := h
    refine ⟨_, (pss_one (ps_ret (pe_op op_mod (pe_op op_mod (pe_op op_mul (pv 0) pe_int) (pv 1)) (pv 2)))), ?_⟩
    exact ⟨_, rfl, _, _, rfl, rfl, .inr ⟨by decide, by decide⟩, _, rfl, _, _, rfl, rfl, hp, _, rfl, _, _, rfl, rfl, hm, q⟩
def sp_name_by (K : PySem.W.Frag) : Sp := fun vs H Q _ => ∃ k c : Int, vs = [.int k, .int c] ∧ 0 ≤ k ∧ k < 80 ∧ ∀ H', Keep [] H H' → Q (.str (nameBy k c)) H'
theorem S_some (c : Int) : (if mix c 10259 5 = 0 then ("0123456789" : Str) else "abcdefghijklmnopqrstuvwxyz0123456789") = SX.S (someL c) := by
  unfold someL
  split <;> exact (SX.S_tl _).symm
theorem some_len (c : Int) : (SX.S (someL c)).length ≤ 36 := by
  rw [SX.S_len]
  have := manyL_of c
  rcases manyL_c c with e | e <;> omega
theorem join_ones (xs : List Nat) : Txt.join Str.empty (xs.map fun c => SX.S [c]) = SX.S xs := by
  have e : xs.map (fun c => SX.S [c]) = (xs.map fun c => [c]).map SX.S := by
    rw [List.map_map]
    rfl
  rw [e]
  show Txt.join (SX.S []) _ = _
  rw [SX.join_S]
  congr 1
  induction xs with
  | nil => rfl
  | cons c r ih =>
    cases r with
    | nil => rfl
    | cons c2 r2 =>
      show [c] ++ ([] ++ TL.joinL [] ((c2 :: r2).map fun c => [c])) = _
      rw [ih (by rw [List.map_map]; rfl)]
      rfl
theorem cut_to {l : List Nat} {a : Nat} (h : a ≤ l.length) : cutS (SX.S l) none (some (a : Int)) = SX.S (l.take a) := by
  have hs : HT.sIx (SX.S l).length (SX.S l).length (some (a : Int)) = a := by
    rw [SX.S_len]
    unfold HT.sIx
    simp
    rw [if_neg (by omega)]
    omega
  refine TL.ext_tl ?_
  show (l.drop 0).take (HT.sIx _ _ (some (a : Int)) - 0) = l.take a
  rw [hs, List.drop_zero, Nat.sub_zero]
theorem cut_from {l : List Nat} {a : Nat} (h : a ≤ l.length) : cutS (SX.S l) (some (a : Int)) none = SX.S (l.drop a) := by
  have hs : HT.sIx (SX.S l).length 0 (some (a : Int)) = a := by
    rw [SX.S_len]
    unfold HT.sIx
    simp
    rw [if_neg (by omega)]
    omega
  refine TL.ext_tl ?_
  show (l.drop (HT.sIx _ 0 (some (a : Int)))).take ((SX.S l).length - HT.sIx _ 0 (some (a : Int))) = l.drop a
  rw [hs, SX.S_len, List.take_of_length_le (by rw [List.length_drop]; exact Nat.le_refl _)]
theorem c__law_name_by (T : Tx K mg base) : Cal P w K mg base 2 "_law_name_by" (sp_name_by K) := by
  have c__law_mix : Cal P w K mg base 1 "_law_mix" sp_mix := c__law_mix T
  obtain ⟨fd, F⟩ := T.d__law_name_by
  refine ⟨_, fd, ["_law_k", "_law_cell"], okF (k := 1) F sc__law_name_by (fun vs H Q E h => ?_) (fun A outer s H vs Q E hr h => ?_), T.r__law_name_by, F.kp, F.bindsN fun _ _ _ _ _ _ us hl => match us, hl with | [_, _], _ => rfl⟩
  · obtain ⟨k, c, rfl, _⟩ := h
    rfl
  · have nd := sc__law_name_by.nd
    obtain ⟨k, c, rfl, h0, h1, q⟩ := h
    refine ⟨_, (pss_cons (ps_set (i := 2) nd rfl (Or.inr rfl) pe_str)
  (pss_cut (ps_if (pt_cmpR op_eq (pf c__law_mix hr (by decide) (by rfl) p0 (pa_cons (pv 1) (pa_cons pe_int (pa_cons pe_int pa_nil)))) pe_int (nomark _))
  (pss_one (ps_set (i := 2) nd rfl (Or.inr rfl) pe_str))
  pss_nil)
  (pss_cons (ps_set (i := 3) nd rfl (Or.inr rfl) (pe_callB call_len_str (by rfl) T.m_len boot_len (pa_cons (pv 2) pa_nil)))
  (pss_cons (ps_set (i := 4) nd rfl (Or.inl rfl) (pe_ix ix_str (pv 2) (pe_op op_fdiv (pe_op op_add (pv 0) (pe_op op_mod (pv 1) (pv 3))) (pv 3)) (fun _ _ => rfl)))
  (pss_cons (ps_set (i := 5) nd rfl (Or.inl rfl) (pe_ix ix_str (pv 2) (pe_op op_mod (pe_op op_add (pv 0) (pv 1)) (pv 3)) (fun _ _ => rfl)))
  (pss_cons (ps_if (pt_cmpR op_eq (pf c__law_mix hr (by decide) (by rfl) p0 (pa_cons (pv 1) (pa_cons pe_int (pa_cons pe_int pa_nil)))) pe_int (nomark _))
  (pss_cons (ps_set (i := 6) nd rfl (Or.inl rfl) (pe_op op_add pe_int (pf c__law_mix hr (by decide) (by rfl) p0 (pa_cons (pv 1) (pa_cons pe_int (pa_cons pe_int pa_nil))))))
  (pss_cons (ps_set (i := 7) nd rfl (Or.inl rfl) (pf c__law_mix hr (by decide) (by rfl) p0 (pa_cons (pv 1) (pa_cons pe_int (pa_cons (pe_op op_sub (pv 6) pe_int) pa_nil)))))
  (pss_cons (ps_set (i := 9) nd rfl (Or.inl rfl) (pe_join pe_str (pe_lc (own := [("_law_j", 8)]) (g := gName 8) (tt := tYes) rfl nd (pi_range1 (by rfl) T.m_range (pa_cons (pv 6) pa_nil)) (blkOk_by (N := N__law_name_by) (sc := defScope s__law_name_by) (by decide +kernel)) (fun _ _ _ _ _ => (pg_name (i := 8) nd rfl (Or.inl rfl))) (fun _ _ _ _ _ => pts_nil) (fun _ _ _ _ _ => (pe_ix ix_str (pv 2) (pe_op op_mod (pe_op op_add (pe_op op_fdiv (pv 1) pe_int) (pe_op op_mul pe_int (pv 8))) (pv 3)) (fun _ _ => rfl))))))
  (pss_one (ps_ret (pe_op op_add_str (pe_op op_add_str (pe_op op_add_str (pe_slice sl_str (pv 9) po_none (po_some (pv 7))) (pv 4)) (pv 5)) (pe_slice sl_str (pv 9) (po_some (pe_op op_add (pv 7) pe_int)) po_none)))))))
  pss_nil)
  (pss_cut (ps_if (PW.pt (pw_and (pt_cmpR op_lt (pv 0) (pv 3) (nomark _)) (pw_and1 (pt_cmpR op_eq (pf c__law_mix hr (by decide) (by rfl) p0 (pa_cons (pe_op op_add (pv 1) (pe_op op_mul pe_int (pv 0))) (pa_cons pe_int (pa_cons pe_int pa_nil)))) pe_int (nomark _)))))
  (pss_one (ps_ret (pv 5)))
  pss_nil)
  (pss_cons (ps_set (i := 9) nd rfl (Or.inl rfl) (pe_op op_add_str (pv 4) (pv 5)))
  (pss_cons (ps_for (passes_of rfl) rfl (pi_range1 (by rfl) T.m_range (pa_cons (pf c__law_mix hr (by decide) (by rfl) p0 (pa_cons (pe_op op_add (pv 1) (pv 0)) (pa_cons pe_int (pa_cons pe_int pa_nil)))) pa_nil)) (pg_name (i := 8) nd rfl (Or.inl rfl))
  (pss_cons (ps_set (i := 7) nd rfl (Or.inl rfl) (pe_op op_add (pe_op op_add (pe_op op_fdiv (pv 1) pe_int) (pe_op op_mul pe_int (pv 8))) (pe_op op_mul (pv 0) (pv 8))))
  (pss_one (ps_set (i := 9) nd rfl (Or.inl rfl) (pe_op op_add_str (pv 9) (pe_ix ix_str (pv 2) (pe_op op_mod (pv 7) (pv 3)) (fun _ _ => rfl)))))))
  (pss_cons (ps_if (pt_cmpR op_eq (pe_op op_mod (pe_op op_fdiv (pv 1) pe_int) pe_int) pe_int (nomark _))
  (pss_one (ps_ret (pe_revS (pv 9))))
  pss_nil)
  (pss_one (ps_ret (pv 9))))))))))))), ?_⟩
    refine ⟨fun σ' H1 => H = H1 ∧ σ' = [some (.int k), some (.int c), some (.str (SX.S (someL c))), none, none, none, none, none, none, none], ?_, ?_⟩
    · refine ⟨_, rfl, c, 10259, 5, rfl, by decide, by decide, rfl, _, rfl, ?_⟩
      have e := S_some c
      by_cases z : mix c 10259 5 = 0
      · rw [if_pos z] at e
        rw [decide_eq_true (show V.int (mix c 10259 5) = V.int 0 by rw [z])]
        refine iteT ⟨rfl, ?_⟩
        rw [← e]
        rfl
      · rw [if_neg z] at e
        rw [decide_eq_false (show ¬ V.int (mix c 10259 5) = V.int 0 from fun y => z (V.int.inj y))]
        refine iteF ⟨rfl, ?_⟩
        rw [← e]
        rfl
    rintro σ' _ ⟨rfl, rfl⟩
    have hl : ((SX.S (someL c)).length : Int) = manyL c := by rw [SX.S_len]; exact manyL_of c
    have hm := manyL_c c
    have sl : (SX.S (someL c)).length ≤ sizeLine := line_of (some_len c)
    refine ⟨_, rfl, _, rfl, sl, ?_⟩
    rw [hl]
    have m0 : 0 < manyL c := by omega
    have m1 : manyL c < 1073741824 := by omega
    refine ⟨_, rfl, _, rfl, _, rfl, _, rfl, _, _, rfl, rfl, m0, _, _, rfl, rfl, _, rfl, _, _, rfl, rfl, ⟨m0, m1⟩, _, _, sgn c (nearI k c), rfl, rfl, sl, sgn_at (near_ok h0 h1).1 (near_ok h0 h1).2, ?_⟩
    refine ⟨_, rfl, _, rfl, _, rfl, _, _, rfl, rfl, _, rfl, _, _, rfl, rfl, m0, _, _, sgn c (tellI k c), rfl, rfl, sl, sgn_at tell_ok.1 tell_ok.2, ?_⟩
    refine ⟨_, rfl, c, 10303, 2, rfl, by decide, by decide, rfl, _, rfl, ?_⟩
    have n1 : ∀ z : Nat, (SX.S [z]).length = 1 := fun z => SX.S_len _
    by_cases z : mix c 10303 2 = 0
    · rw [decide_eq_true (show V.int (mix c 10303 2) = V.int 0 by rw [z])]
      have b1 := mix_nn (c := c) (p := 10313) (m := 11) (by decide)
      have b2 := mix_nn (c := c) (p := 10321) (m := 2 + mix c 10313 11 - 1) (by omega)
      have eat : mix c 10321 (2 + mix c 10313 11 - 1) = ((atN c : Nat) : Int) := by unfold atN; omega
      refine iteT ⟨_, rfl, c, 10313, 11, rfl, by decide, by decide, _, _, rfl, rfl, ?_⟩
      refine ⟨_, rfl, _, rfl, _, _, rfl, rfl, c, 10321, _, rfl, by decide, by omega, ?_⟩
      refine ⟨⟨_, rfl⟩, _, rfl, 2 + mix c 10313 11, rfl, by omega, by omega, fun D hD => ?_⟩
      refine lc_it walk_range (Pv := fun i H' => Keep [] H H' ∧ H' D = some (.lst ((((List.range i).map fun (j : Nat) => sgn c ((c / 72 + 7 * (0 + (j : Int))) % manyL c)).map fun c => SX.S [c]).map V.str))) ⟨Keep.new hD, upd_same⟩ (fun _ _ _ _ => trivial) ?_ ?_
      · rintro i x H1 H2 hi ⟨k1, hd⟩ ⟨rfl, rfl⟩
        have hi' : i < (2 + mix c 10313 11).toNat := hi
        refine ⟨rfl, ?_⟩
        have hr0 : 0 ≤ (c / 72 + 7 * (0 + (i : Int))) % manyL c := Int.emod_nonneg _ (by omega)
        have hr1 : (c / 72 + 7 * (0 + (i : Int))) % manyL c < manyL c := Int.emod_lt_of_pos _ m0
        refine ⟨_, rfl, _, rfl, _, _, rfl, rfl, ⟨by decide, by decide⟩, _, rfl, _, _, rfl, rfl, .inl ⟨by decide, by decide⟩, _, _, rfl, rfl, _, rfl, _, _, rfl, rfl, m0, _, _, sgn c ((c / 72 + 7 * (0 + (i : Int))) % manyL c), rfl, rfl, sl, sgn_at hr0 hr1, _, hd, ?_, k1.set (.inl hD) hd nt_lst, ?_⟩
        · rw [List.length_map, List.length_map, List.length_map, List.length_range]
          exact small1000 (by omega)
        · rw [upd_same, List.range_succ, List.map_append, List.map_append, List.map_append]
          rfl
      · rintro H1 ⟨k1, hd⟩
        have eb : ((List.range (2 + mix c 10313 11).toNat).map fun (j : Nat) => sgn c ((c / 72 + 7 * (0 + (j : Int))) % manyL c)) = baseL c := rfl
        rw [eb] at hd
        have bl := base_len c
        refine ⟨_, D, _, rfl, rfl, .inl (.inl (.inl hd)), ?_, ?_⟩
        · have : ((baseL c).map fun c => SX.S [c]).map (·.length) = (baseL c).map fun _ => 1 := by
            rw [List.map_map]
            exact List.map_congr_left fun z _ => n1 z
          rw [this, List.length_map, List.map_const', List.sum_replicate_nat]
          show (baseL c).length * 1 + (baseL c).length * 0 ≤ _
          omega
        have ej : Txt.join ("" : Str) ((baseL c).map fun c => SX.S [c]) = SX.S (baseL c) := join_ones _
        rw [ej]
        have l20 : ∀ l : List Nat, l.length ≤ 20 → (SX.S l).length ≤ 20 := fun l h => by rw [SX.S_len]; exact h
        have hb20 : (baseL c).length ≤ 20 := by omega
        have at2 := at_ok c
        rw [eat]
        refine ⟨_, rfl, _, rfl, _, rfl, _, rfl, line_of (l20 _ hb20), ?_⟩
        rw [cut_to (show atN c ≤ (baseL c).length by omega)]
        have ht20 : (SX.S ((baseL c).take (atN c))).length ≤ 20 := l20 _ (by rw [List.length_take]; omega)
        refine ⟨_, rfl, _, _, rfl, rfl, ?_, _, rfl, _, _, rfl, rfl, ?_, ?_⟩
        · have := n1 (sgn c (nearI k c))
          rw [sizeLine_eq]
          show (SX.S ((baseL c).take (atN c))).length + (SX.S [sgn c (nearI k c)]).length ≤ _
          omega
        · have e1 := n1 (sgn c (nearI k c))
          have e2 := n1 (sgn c (tellI k c))
          rw [sizeLine_eq]
          show (SX.S ((baseL c).take (atN c)) ++ SX.S [sgn c (nearI k c)]).length + (SX.S [sgn c (tellI k c)]).length ≤ _
          rw [Str.length_append]
          omega
        refine ⟨_, rfl, _, rfl, _, _, rfl, rfl, _, rfl, _, rfl, line_of (l20 _ hb20), ?_⟩
        have ea2 : ((atN c : Nat) : Int) + 2 = ((atN c + 2 : Nat) : Int) := by omega
        rw [ea2, cut_from at2]
        refine ⟨_, _, rfl, rfl, ?_, ?_⟩
        · have e1 := n1 (sgn c (nearI k c))
          have e2 := n1 (sgn c (tellI k c))
          have e3 : (SX.S ((baseL c).drop (atN c + 2))).length ≤ 20 := l20 _ (by rw [List.length_drop]; omega)
          rw [sizeLine_eq]
          show (SX.S ((baseL c).take (atN c)) ++ SX.S [sgn c (nearI k c)] ++ SX.S [sgn c (tellI k c)]).length + _ ≤ _
          rw [Str.length_append, Str.length_append]
          omega
        · have e := q H1 k1
          unfold nameBy nameL at e
          rw [if_pos z] at e
          have e2 : SX.S ((baseL c).take (atN c)) ++ SX.S [sgn c (nearI k c)] ++ SX.S [sgn c (tellI k c)] ++ SX.S ((baseL c).drop (atN c + 2)) = SX.S ((baseL c).take (atN c) ++ pairL k c ++ (baseL c).drop (atN c + 2)) := by
            rw [SX.S_cat, SX.S_cat, SX.S_cat]
            unfold pairL
            simp
          rw [← e2] at e
          exact e
    · rw [decide_eq_false (show ¬ V.int (mix c 10303 2) = V.int 0 from fun y => z (V.int.inj y))]
      refine iteF ⟨fun σ' H1 => H = H1 ∧ ¬ (k < manyL c ∧ mix (c + 3 * k) 10253 8 = 0) ∧ σ' = [some (.int k), some (.int c), some (.str (SX.S (someL c))), some (.int (manyL c)), some (.str (SX.S [sgn c (nearI k c)])), some (.str (SX.S [sgn c (tellI k c)])), none, none, none, none], ?_, ?_⟩
      · refine ⟨_, rfl, _, rfl, _, _, rfl, rfl, _, rfl, ite2 (fun a => ?_) (fun a => iteF ⟨rfl, fun y => a (decide_eq_true y.1), rfl⟩)⟩
        have a1 : k < manyL c := of_decide_eq_true a
        refine ⟨_, rfl, _, rfl, _, _, rfl, rfl, .inl ⟨by decide, by decide⟩, _, _, rfl, rfl, c + 3 * k, 10253, 8, rfl, by decide, by decide, rfl, _, rfl, ?_⟩
        by_cases y : mix (c + 3 * k) 10253 8 = 0
        · rw [decide_eq_true (show V.int (mix (c + 3 * k) 10253 8) = V.int 0 by rw [y])]
          refine iteT ⟨_, rfl, ?_⟩
          have e := q H (Keep.refl _ _)
          unfold nameBy nameL at e
          rw [if_neg z, if_pos ⟨a1, y⟩] at e
          exact e
        · rw [decide_eq_false (show ¬ V.int (mix (c + 3 * k) 10253 8) = V.int 0 from fun x => y (V.int.inj x))]
          exact iteF ⟨rfl, fun x => y x.2, rfl⟩
      rintro σ' _ ⟨rfl, nn, rfl⟩
      have b2 := mix_nn (c := c + k) (p := 10007) (m := 11) (by decide)
      refine ⟨_, rfl, _, rfl, _, _, rfl, rfl, ?_, ?_⟩
      · rw [n1, n1]
        decide
      refine ⟨_, rfl, _, rfl, _, _, rfl, rfl, c + k, 10007, 11, rfl, by decide, by decide, mix (c + k) 10007 11, rfl, by omega, by omega, ?_⟩
      refine for_it walk_range (fun i σ H' => H = H' ∧ ∃ v7 v8, σ = [some (.int k), some (.int c), some (.str (SX.S (someL c))), some (.int (manyL c)), some (.str (SX.S [sgn c (nearI k c)])), some (.str (SX.S [sgn c (tellI k c)])), none, v7, v8, some (.str (SX.S (pairL k c ++ moreL k c i)))]) ⟨rfl, none, none, ?_⟩ (fun _ _ _ _ _ => trivial) ?_ ?_
      · have e1 : SX.S [sgn c (nearI k c)] ++ SX.S [sgn c (tellI k c)] = SX.S (pairL k c ++ moreL k c 0) := by
          rw [SX.S_cat]
          rfl
        rw [← e1]
        rfl
      · rintro i x σ _ H2 hi ⟨rfl, v7, v8, rfl⟩ ⟨rfl, rfl⟩
        have hi' : i < (mix (c + k) 10007 11).toNat := hi
        have hr0 : 0 ≤ (c / 72 + 7 * (0 + (i : Int)) + k * (0 + (i : Int))) % manyL c := Int.emod_nonneg _ (by omega)
        have hr1 : (c / 72 + 7 * (0 + (i : Int)) + k * (0 + (i : Int))) % manyL c < manyL c := Int.emod_lt_of_pos _ m0
        refine ⟨_, rfl, _, _, rfl, rfl, ⟨by decide, by decide⟩, _, rfl, _, _, rfl, rfl, .inl ⟨by decide, by decide⟩, _, _, rfl, rfl, _, rfl, _, rfl, _, _, rfl, rfl, .inl ⟨by omega, by omega⟩, _, _, rfl, rfl, ?_⟩
        refine ⟨_, rfl, _, rfl, _, rfl, _, rfl, _, _, rfl, rfl, m0, _, _, sgn c ((c / 72 + 7 * (0 + (i : Int)) + k * (0 + (i : Int))) % manyL c), rfl, rfl, sl, sgn_at hr0 hr1, _, _, rfl, rfl, ?_, rfl, ?_⟩
        · have e1 := n1 (sgn c ((c / 72 + 7 * (0 + (i : Int)) + k * (0 + (i : Int))) % manyL c))
          have e2 : (SX.S (pairL k c ++ moreL k c i)).length ≤ 20 := by
            rw [SX.S_len]
            simp [pairL, moreL]
            omega
          rw [sizeLine_eq]
          show (SX.S (pairL k c ++ moreL k c i)).length + (SX.S [_]).length ≤ _
          omega
        · have e1 : SX.S (pairL k c ++ moreL k c i) ++ SX.S [sgn c ((c / 72 + 7 * (0 + (i : Int)) + k * (0 + (i : Int))) % manyL c)] = SX.S (pairL k c ++ moreL k c (i + 1)) := by
            rw [SX.S_cat]
            unfold moreL
            rw [List.range_succ, List.map_append, List.append_assoc]
            rfl
          rw [← e1]
          exact ⟨_, _, rfl⟩
      · rintro σ _ ⟨rfl, v7, v8, rfl⟩
        have e := q H (Keep.refl _ _)
        unfold nameBy nameL at e
        rw [if_neg z, if_neg nn] at e
        have el : pairL k c ++ moreL k c (mix (c + k) 10007 11).toNat = longL k c := rfl
        rw [el]
        have l20 : (SX.S (longL k c)).length ≤ 20 := by
          rw [SX.S_len]
          simp [longL, pairL, moreL]
          omega
        refine ⟨_, rfl, _, _, rfl, rfl, ⟨by decide, by decide⟩, _, _, rfl, rfl, (show (0 : Int) < 2 by decide), rfl, _, rfl, ?_⟩
        by_cases y : c / 36 % 2 = 1
        · rw [if_pos y] at e
          rw [decide_eq_true (show V.int (c / 36 % 2) = V.int 1 by rw [y])]
          exact iteT ⟨_, rfl, _, rfl, line_of l20, e⟩
        · rw [if_neg y] at e
          rw [decide_eq_false (show ¬ V.int (c / 36 % 2) = V.int 1 from fun x => y (V.int.inj x))]
          exact iteF ⟨_, rfl, e⟩
end
end Rr

set_option maxRecDepth 100000
set_option maxHeartbeats 4000000
namespace Rr
open PySem PySem.Spec PyProof.Rows L2
open GxR (TabG Tabbed)
open Evl (pss_cut)
/-! the laws' line, beside the desk's -/
theorem str_ne (a b : Str) : (!decide (V.str a = V.str b)) = decide (a ≠ b) := by
  by_cases e : a = b
  · rw [decide_eq_true (show V.str a = V.str b by rw [e]), decide_eq_false (show ¬ a ≠ b from fun z => z e)]
    rfl
  · rw [decide_eq_false (show ¬ V.str a = V.str b from fun z => e (V.str.inj z)), decide_eq_true e]
    rfl
theorem str_eq (a b : Str) : decide (V.str a = V.str b) = decide (a = b) := by
  by_cases e : a = b
  · rw [decide_eq_true (show V.str a = V.str b by rw [e]), decide_eq_true e]
  · rw [decide_eq_false (show ¬ V.str a = V.str b from fun z => e (V.str.inj z)), decide_eq_false e]
/-- a row put behind another list's rows -/
theorem LnAt.snoc {H : Hp} {ps : List (Addr × Cr)} {t b : Addr} {c : Cr} (hp : ∀ p ∈ ps, RowAt H p.1 p.2) (ht : RowAt H t c) (hb : H b = some (.lst ((ps.map fun p => V.ref p.1) ++ [.ref t]))) : LnAt H b (ps.map (·.2) ++ [c]) :=
  ⟨ps ++ [(t, c)], by rw [List.map_append]; rfl, by rw [hb, List.map_append]; rfl, fun p h => (List.mem_append.mp h).elim (hp p) fun h => by rw [List.mem_singleton.mp h]; exact ht⟩
section
variable {P : Program} {w : World} {K : PySem.W.Frag} {mg : Str → Option Value} {base : Heap}
theorem rows_filter {ps : List (Addr × Cr)} (f : Cr → Bool) : (ps.filter fun p => f p.2).map (·.2) = (ps.map (·.2)).filter f := filter_snd f ps
theorem wake_snoc {D : Dk} (nm : (namesL D.line).Nodup) (cs : List Cr) {c : Cr} (h : c.name ∈ namesL D.line) : (D.wakeAll (cs ++ [c])).line = dropC c.name (D.wakeAll cs).line ++ [⟨c.name, c.rank, .rdy D.now⟩] := by
  have np := names_wakeAll cs D
  rw [wakeAll_snoc, (wakeAll_pr cs D).2.2, move_eq (c := c.as (.rdy D.now)) (np.nodup_iff.mpr nm) (np.mem_iff.mpr h)]
  rfl
theorem wake_len {D : Dk} (cs : List Cr) : (D.wakeAll cs).line.length = D.line.length := len_names (names_wakeAll cs D)
end
end Rr

set_option maxRecDepth 100000
set_option maxHeartbeats 4000000
namespace Rr
open PySem PySem.Spec PyProof.Rows L2
open GxR (TabG Tabbed)
open Evl (pss_cut)
/-! the laws' deeds -/
section
variable {P : Program} {w : World} {K : PySem.W.Frag} {mg : Str → Option Value} {base : Heap}
/-- a deed was done: the desk, and the line beside it -/
def Goes (K : PySem.W.Frag) (H : Hp) (S : List Addr) (d : Addr) (D : Dk) (q : Addr → Hp → Prop) : Prop := ∀ D' S' b H', Deed D D' → Keep S H H' → Sub H S S' → DkAt K H' S' d D' → LnAt H' b D'.line → q b H'
theorem move_line {D : Dk} (nm : (namesL D.line).Nodup) {c : Cr} (hc : c ∈ D.line) (s : Stt) : (D.move (c.as s)).line = dropC c.name D.line ++ [⟨c.name, c.rank, s⟩] := by
  rw [move_eq (c := c.as s) nm (show c.name ∈ namesL D.line from name_in hc)]
  rfl
end
end Rr

set_option maxRecDepth 100000
set_option maxHeartbeats 4000000
namespace Rr
open PySem PySem.Spec PyProof.Rows L2
open GxR (TabG Tabbed)
open Evl (pss_cut)
section
variable {P : Program} {w : World} {K : PySem.W.Frag} {mg : Str → Option Value} {base : Heap}
theorem Goes.of0 {H H1 : Hp} {S : List Addr} {d : Addr} {D : Dk} {q : Addr → Hp → Prop} (g : Goes K H S d D q) (k : Keep [] H H1) : Goes K H1 S d D q :=
  fun D' S' b H' dd k' s' x y => g D' S' b H' dd (k.any.trans k') (fun z hz => (s' z hz).imp_right (k.gone z)) x y
theorem ps_at {ps : List (Addr × Cr)} {z : Int} (h0 : 0 ≤ z) (h : z < ps.length) : ∃ p ∈ ps, atI (ps.map fun p => V.ref p.1) z = some (.ref p.1) := by
  have hl : z.toNat < ps.length := by omega
  refine ⟨ps[z.toNat], List.getElem_mem hl, ?_⟩
  have e := atI_nat (xs := ps.map fun p => V.ref p.1) (j := z.toNat) (v := .ref ps[z.toNat].1) (by rw [List.getElem?_map, List.getElem?_eq_getElem hl]; rfl)
  rw [Int.toNat_of_nonneg h0] at e
  exact e
end
end Rr

set_option maxRecDepth 100000
set_option maxHeartbeats 4000000
namespace Rr
open PySem PySem.Spec PyProof.Rows L2
open GxR (TabG Tabbed)
open Evl (pss_cut)
section
variable {P : Program} {w : World} {K : PySem.W.Frag} {mg : Str → Option Value} {base : Heap}
end
end Rr

set_option maxRecDepth 100000
set_option maxHeartbeats 4000000
namespace Rr
open PySem PySem.Spec PyProof.Rows L2
open GxR (TabG Tabbed)
open Evl (pss_cut)
section
variable {P : Program} {w : World} {K : PySem.W.Frag} {mg : Str → Option Value} {base : Heap}
theorem byN {H : Hp} {E : XK} {d : Addr} {S : List Addr} {D : Dk} {c : Cr} {q : Cr → Prop} (sD : Sound D) (hD : DkAt K H S d D) (hc : c ∈ D.line) (h : q c) : ByN K H E d S D c.name q :=
  ⟨isName_small (sD.ok c hc), hD, fun z => absurd (name_in hc) z, fun c' hc' e => by rw [name_one sD.nm hc' hc e]; exact h⟩
theorem Sound.after {D : Dk} (x : Sound D) : ∀ n, Sound (D.after n)
  | 0 => x
  | n + 1 => (x.after n).turn
theorem after_now (D : Dk) : ∀ n : Nat, (D.after n).now = D.now + n
  | 0 => by show D.now = _; simp
  | n + 1 => by
    show (D.after n).turn.now = _
    rw [turn_now, after_now D n]
    omega
theorem after_pr (D : Dk) : ∀ n : Nat, (D.after n).pace = D.pace ∧ (D.after n).room = D.room
  | 0 => ⟨rfl, rfl⟩
  | n + 1 => ⟨(turn_pr _).1.trans (after_pr D n).1, (turn_pr _).2.trans (after_pr D n).2⟩
def sp_whole : Sp := fun vs H Q _ => ∃ i : Int, vs = [.int i] ∧ Q (.bl true) H
theorem c__law_whole (T : Tx K mg base) : Cal P w K mg base 1 "_law_whole" sp_whole := by
  obtain ⟨fd, F⟩ := T.d__law_whole
  refine ⟨_, fd, ["_law_found"], okF (k := 0) F sc__law_whole (fun vs H Q E h => ?_) (fun A outer s H vs Q E hr h => ?_), T.r__law_whole, F.kp, F.bindsN fun _ _ _ _ _ _ us hl => match us, hl with | [_], _ => rfl⟩
  · obtain ⟨i, rfl, _⟩ := h
    rfl
  · have nd := sc__law_whole.nd
    obtain ⟨i, rfl, q⟩ := h
    refine ⟨_, (pss_one (ps_ret (pe_and (pe_callB call_isi (by rfl) T.m_isinstance (by decide +kernel) (pa_cons (pv 0) (pa_cons (pe_bltn (v := .ty "int") (by rfl) T.m_int (by decide +kernel) rfl) pa_nil))) (pe_one (pe_not (pe_callB call_isi (by rfl) T.m_isinstance (by decide +kernel) (pa_cons (pv 0) (pa_cons (pe_bltn (v := .ty "bool") (by rfl) T.m_bool (by decide +kernel) rfl) pa_nil)))))))), ?_⟩
    refine ⟨_, rfl, _, _, _, _, true, rfl, .ty "int", .base (.int i), kit_ty (by decide +kernel), true, rfl, iteT ?_⟩
    exact ⟨_, rfl, _, _, _, _, false, rfl, .ty "bool", .base (.int i), kit_ty (by decide +kernel), false, rfl, q⟩
def sp_texts (K : PySem.W.Frag) : Sp := fun vs H Q _ => ∃ (a b : Addr) (l : List (Option Str)), vs = [.ref a, .ref b] ∧ H a = some (.lst (l.map fun x => x.elim .non V.str)) ∧ H b = some (.lst (l.map fun x => x.elim .non V.str)) ∧ l.length ≤ 1000 ∧ Q (.bl true) H
theorem c__law_texts (T : Tx K mg base) : Cal P w K mg base 1 "_law_texts" (sp_texts K) := by
  obtain ⟨fd, F⟩ := T.d__law_texts
  refine ⟨_, fd, ["_law_found", "_law_due_here"], okF (k := 0) F sc__law_texts (fun vs H Q E h => ?_) (fun A outer s H vs Q E hr h => ?_), T.r__law_texts, F.kp, F.bindsN fun _ _ _ _ _ _ us hl => match us, hl with | [_, _], _ => rfl⟩
  · obtain ⟨a, b, l, rfl, _⟩ := h
    rfl
  · have nd := sc__law_texts.nd
    obtain ⟨a, b, l, rfl, ha, hb, hl, q⟩ := h
    refine ⟨_, (pss_cons (ps_if (PW.pt (pw_or (pt_not (pt_val (pe_callB call_isi (by rfl) T.m_isinstance (by decide +kernel) (pa_cons (pv 0) (pa_cons (pe_bltn (v := .ty "list") (by rfl) T.m_list (by decide +kernel) rfl) pa_nil))))) (pw_or1 (pt_cmpR op_ne (pe_callB call_len_seq (by rfl) T.m_len boot_len (pa_cons (pv 0) pa_nil)) (pe_callB call_len_seq (by rfl) T.m_len boot_len (pa_cons (pv 1) pa_nil)) (nomark _)))))
  (pss_one (ps_ret pe_bl))
  pss_nil)
  (pss_cons (ps_for (passes_of rfl) rfl (pi_range1 (by rfl) T.m_range (pa_cons (pe_callB call_len_seq (by rfl) T.m_len boot_len (pa_cons (pv 1) pa_nil)) pa_nil)) (pg_name (i := 2) nd rfl (Or.inl rfl))
  (pss_one (ps_if (pt_cmpR op_isN (pe_ix ix_list (pv 1) (pv 2) (fun _ _ => rfl)) pe_non (nomark _))
  (pss_one (ps_if (pt_cmpR op_notN (pe_ix ix_list (pv 0) (pv 2) (fun _ _ => rfl)) pe_non (nomark _))
  (pss_one (ps_ret pe_bl))
  pss_nil))
  (pss_one (ps_if (PW.pt (pw_or (pt_not (pt_val (pe_callB call_isi (by rfl) T.m_isinstance (by decide +kernel) (pa_cons (pe_ix ix_list (pv 0) (pv 2) (fun _ _ => rfl)) (pa_cons (pe_bltn (v := .ty "str") (by rfl) T.m_str (by decide +kernel) rfl) pa_nil))))) (pw_or1 (pt_cmpR op_ne (pe_ix ix_list (pv 0) (pv 2) (fun _ _ => rfl)) (pe_ix ix_list (pv 1) (pv 2) (fun _ _ => rfl)) (nomark _)))))
  (pss_one (ps_ret pe_bl))
  pss_nil)))))
  (pss_one (ps_ret pe_bl)))), ?_⟩
    refine ⟨_, rfl, _, _, _, _, true, rfl, .ty "list", .base (.lst ha), kit_ty (by decide +kernel), true, rfl, iteF ?_⟩
    refine ⟨_, rfl, a, _, rfl, .inl (.inl (.inl ha)), _, rfl, b, _, rfl, .inl (.inl (.inl hb)), rfl, _, rfl, ?_⟩
    rw [decide_eq_true (show V.int ((l.map fun x => x.elim V.non V.str).length : Int) = V.int ((l.map fun x => x.elim V.non V.str).length : Int) from rfl)]
    refine iteF ⟨_, rfl, b, _, rfl, .inl (.inl (.inl hb)), _, rfl, (by omega), (by rw [List.length_map]; omega), ?_⟩
    rw [List.length_map]
    refine for_it walk_range (fun i σ H' => H = H' ∧ ∃ v, σ = [some (.ref a), some (.ref b), v]) ⟨rfl, none, rfl⟩ (fun _ _ _ _ _ => trivial) ?_ ?_
    · rintro i v σ _ H2 hi ⟨rfl, v0, rfl⟩ ⟨rfl, rfl⟩
      have hi' : i < l.length := by
        have : i < ((l.length : Nat) : Int).toNat := by simpa using hi
        omega
      obtain ⟨x, hx⟩ : ∃ x, l[i]? = some x := ⟨_, List.getElem?_eq_getElem hi'⟩
      have hat : atI (l.map fun x => x.elim V.non V.str) (0 + (i : Int)) = some (x.elim V.non V.str) := by
        rw [Int.zero_add]
        exact atI_nat (by rw [List.getElem?_map, hx]; rfl)
      refine ⟨_, rfl, _, rfl, b, _, _, _, rfl, rfl, .inl (.inl hb), hat, rfl, _, rfl, ?_⟩
      cases x with
      | none => exact iteT ⟨_, rfl, _, rfl, a, _, _, _, rfl, rfl, .inl (.inl ha), hat, rfl, _, rfl, iteF ⟨rfl, _, rfl⟩⟩
      | some x =>
        refine iteF ⟨_, rfl, _, rfl, a, _, _, _, rfl, rfl, .inl (.inl ha), hat, _, _, _, _, true, rfl, .ty "str", .base (.str x), kit_ty (by decide +kernel), true, rfl, iteF ?_⟩
        refine ⟨_, rfl, _, rfl, a, _, _, _, rfl, rfl, .inl (.inl ha), hat, _, rfl, _, rfl, b, _, _, _, rfl, rfl, .inl (.inl hb), hat, rfl, _, rfl, ?_⟩
        rw [decide_eq_true (show (some x).elim V.non V.str = (some x).elim V.non V.str from rfl)]
        exact iteF ⟨rfl, _, rfl⟩
    · rintro σ _ ⟨rfl, v0, rfl⟩
      exact q
end
end Rr

set_option maxRecDepth 100000
set_option maxHeartbeats 4000000
namespace Rr
open PySem PySem.Spec PyProof.Rows L2
open L2H (SpP Hot1 RoomH call_isP call_sumP pe_intsP cxH)
open Evl (pss_cut)
section
variable {P : Program} {w : World} {K : PySem.W.Frag} {mg : Str → Option Value} {base : Heap}
def sp_word (K : PySem.W.Frag) : SpP := fun p vs H Q _ => ∃ (d : Str) (i : Nat), errs9[i]? = some d ∧ vs = [.ref p.1] ∧ Zc (.ref (He.ga K d)) none p.2 ∧ (∃ vs, p.2.data = .fields vs) ∧ ∀ (w : Str) H', words9[i]? = some w → Keep [] H H' → Q (.str w) H'
theorem at5 {H : Hp} {a b c : Addr} {o o1 o2 : HO} (n1 : (L2.upd H a o) b = none) (n2 : (L2.upd (L2.upd H a o) b o1) c = none) : (L2.upd (L2.upd (L2.upd H a o) b o1) c o2) a = some o :=
  (upd_ne (ne_of_none ((upd_ne (ne_of_none upd_same n1)).trans upd_same) n2)).trans ((upd_ne (ne_of_none upd_same n1)).trans upd_same)
theorem c__law_word (T : Tx K mg base) : CalP P w K mg base 1 "_law_word" (sp_word K) := by
  obtain ⟨fd, F⟩ := T.d__law_word
  refine ⟨_, fd, ["_law_e"], okP (k := 0) F sc__law_word (fun p vs H Q E h => ?_) (fun A outer s H vs Q E p hot hr h => ?_), T.r__law_word, F.kp, F.bindsN fun _ _ _ _ _ _ us hl => match us, hl with | [_], _ => rfl⟩
  · obtain ⟨d, i, h1, rfl, _⟩ := h
    rfl
  · have nd := sc__law_word.nd
    obtain ⟨d, i, hd, rfl, hz, hf, q⟩ := h
    have e9 := ex9 T.x9 d (List.mem_of_getElem? hd)
    refine ⟨_, (pss_cons (ps_set (i := 1) nd rfl (Or.inl rfl) (pe_lst (pa_cons (pe_callB (call_isP e9.c hz hf List.mem_cons_self) (by rfl) T.m_isinstance (by decide +kernel) (pa_cons (pv 0) (pa_cons (pe_glob (v := .ref (He.ga K "NoName")) rfl T.r_NoName rfl) pa_nil))) (pa_cons (pe_callB (call_isP e9.c hz hf List.mem_cons_self) (by rfl) T.m_isinstance (by decide +kernel) (pa_cons (pv 0) (pa_cons (pe_glob (v := .ref (He.ga K "NoRank")) rfl T.r_NoRank rfl) pa_nil))) (pa_cons (pe_callB (call_isP e9.c hz hf List.mem_cons_self) (by rfl) T.m_isinstance (by decide +kernel) (pa_cons (pv 0) (pa_cons (pe_glob (v := .ref (He.ga K "NoSpan")) rfl T.r_NoSpan rfl) pa_nil))) (pa_cons (pe_callB (call_isP e9.c hz hf List.mem_cons_self) (by rfl) T.m_isinstance (by decide +kernel) (pa_cons (pv 0) (pa_cons (pe_glob (v := .ref (He.ga K "NoDesk")) rfl T.r_NoDesk rfl) pa_nil))) pa_nil))))))
  (pss_cons (ps_set (i := 1) nd rfl (Or.inl rfl) (pe_op op_cat (pv 1) (pe_lst (pa_cons (pe_callB (call_isP e9.c hz hf List.mem_cons_self) (by rfl) T.m_isinstance (by decide +kernel) (pa_cons (pv 0) (pa_cons (pe_glob (v := .ref (He.ga K "Known")) rfl T.r_Known rfl) pa_nil))) (pa_cons (pe_callB (call_isP e9.c hz hf List.mem_cons_self) (by rfl) T.m_isinstance (by decide +kernel) (pa_cons (pv 0) (pa_cons (pe_glob (v := .ref (He.ga K "Unknown")) rfl T.r_Unknown rfl) pa_nil))) (pa_cons (pe_callB (call_isP e9.c hz hf List.mem_cons_self) (by rfl) T.m_isinstance (by decide +kernel) (pa_cons (pv 0) (pa_cons (pe_glob (v := .ref (He.ga K "Full")) rfl T.r_Full rfl) pa_nil))) (pa_cons (pe_callB (call_isP e9.c hz hf List.mem_cons_self) (by rfl) T.m_isinstance (by decide +kernel) (pa_cons (pv 0) (pa_cons (pe_glob (v := .ref (He.ga K "NotReady")) rfl T.r_NotReady rfl) pa_nil))) pa_nil)))))))
  (pss_cons (ps_set (i := 1) nd rfl (Or.inl rfl) (pe_op op_cat (pv 1) (pe_lst (pa_cons (pe_callB (call_isP e9.c hz hf List.mem_cons_self) (by rfl) T.m_isinstance (by decide +kernel) (pa_cons (pv 0) (pa_cons (pe_glob (v := .ref (He.ga K "IsReady")) rfl T.r_IsReady rfl) pa_nil))) pa_nil))))
  (pss_cons (ps_if (PW.pt (pw_or (pt_not (pt_val (pe_callB (call_isP e9.c hz hf List.mem_cons_self) (by rfl) T.m_isinstance (by decide +kernel) (pa_cons (pv 0) (pa_cons (pe_bltn (v := .ty "ValueError") (by rfl) T.m_ValueError (by decide +kernel) rfl) pa_nil))))) (pw_or1 (pt_cmpR op_ne (pe_callB (call_sumP hot List.mem_cons_self) (by rfl) T.m_sum (by decide +kernel) (pa_cons (pe_intsP hot List.mem_cons_self (pv 1) T.m_int rfl (by decide +kernel) (by decide +kernel) (fun _ => rfl) rfl rfl) pa_nil)) pe_int (nomark _)))))
  (pss_one (ps_ret pe_str))
  pss_nil)
  (pss_one (ps_ret (pe_ix ix_list (pe_lst (pa_cons pe_str (pa_cons pe_str (pa_cons pe_str (pa_cons pe_str (pa_cons pe_str (pa_cons pe_str (pa_cons pe_str (pa_cons pe_str (pa_cons pe_str pa_nil)))))))))) (pe_bm PySem.F.plainAttrs_list PySem.F.slot_list_index PySem.F.type_list_index mt_index (pv 1) (pa_cons pe_bl pa_nil)) (fun _ _ => rfl)))))))), ?_⟩
    refine ⟨_, rfl, .ref (He.ga K "NoName"), .ref (He.ga K "NoName"), _, rfl, fun u h => h, e9.is "NoName" (by decide +kernel), _, rfl, .ref (He.ga K "NoRank"), .ref (He.ga K "NoRank"), _, rfl, fun u h => h, e9.is "NoRank" (by decide +kernel), _, rfl, .ref (He.ga K "NoSpan"), .ref (He.ga K "NoSpan"), _, rfl, fun u h => h, e9.is "NoSpan" (by decide +kernel), _, rfl, .ref (He.ga K "NoDesk"), .ref (He.ga K "NoDesk"), _, rfl, fun u h => h, e9.is "NoDesk" (by decide +kernel), (show 4 ≤ sizeLine by decide), fun g1 n1 => ?_⟩
    refine ⟨_, rfl, _, rfl, .ref (He.ga K "Known"), .ref (He.ga K "Known"), _, rfl, fun u h => h, e9.is "Known" (by decide +kernel), _, rfl, .ref (He.ga K "Unknown"), .ref (He.ga K "Unknown"), _, rfl, fun u h => h, e9.is "Unknown" (by decide +kernel), _, rfl, .ref (He.ga K "Full"), .ref (He.ga K "Full"), _, rfl, fun u h => h, e9.is "Full" (by decide +kernel), _, rfl, .ref (He.ga K "NotReady"), .ref (He.ga K "NotReady"), _, rfl, fun u h => h, e9.is "NotReady" (by decide +kernel), (show 4 ≤ sizeLine by decide), fun g2 n2 => ?_⟩
    refine ⟨g1, g2, _, _, rfl, rfl, (upd_ne (ne_of_none upd_same n2)).trans upd_same, upd_same, (show 4 + 4 ≤ sizeLine by decide), fun g3 n3 => ?_⟩
    refine ⟨_, rfl, _, rfl, .ref (He.ga K "IsReady"), .ref (He.ga K "IsReady"), _, rfl, fun u h => h, e9.is "IsReady" (by decide +kernel), (show 1 ≤ sizeLine by decide), fun g4 n4 => ?_⟩
    refine ⟨g3, g4, _, _, rfl, rfl, (upd_ne (ne_of_none upd_same n4)).trans upd_same, upd_same, (show 8 + 1 ≤ sizeLine by decide), fun g5 n5 => ?_⟩
    refine ⟨_, rfl, .ty "ValueError", .type "ValueError", true, rfl, fun u h => h, e9.v, _, rfl, iteF ⟨_, rfl, g5, [decide (d = ("NoName" : Str)), decide (d = ("NoRank" : Str)), decide (d = ("NoSpan" : Str)), decide (d = ("NoDesk" : Str)), decide (d = ("Known" : Str)), decide (d = ("Unknown" : Str)), decide (d = ("Full" : Str)), decide (d = ("NotReady" : Str)), decide (d = ("IsReady" : Str))], rfl, upd_same, (show 9 ≤ sizeLine by decide), fun g6 n6 => ⟨g6, ([decide (d = ("NoName" : Str)), decide (d = ("NoRank" : Str)), decide (d = ("NoSpan" : Str)), decide (d = ("NoDesk" : Str)), decide (d = ("Known" : Str)), decide (d = ("Unknown" : Str)), decide (d = ("Full" : Str)), decide (d = ("NotReady" : Str)), decide (d = ("IsReady" : Str))]).map (fun b => if b then 1 else 0), rfl, upd_same, ?_⟩⟩⟩
    have hs : (([decide (d = ("NoName" : Str)), decide (d = ("NoRank" : Str)), decide (d = ("NoSpan" : Str)), decide (d = ("NoDesk" : Str)), decide (d = ("Known" : Str)), decide (d = ("Unknown" : Str)), decide (d = ("Full" : Str)), decide (d = ("NotReady" : Str)), decide (d = ("IsReady" : Str))]).map (fun b => if b then (1 : Int) else 0)).sum = 1 ∧ ([decide (d = ("NoName" : Str)), decide (d = ("NoRank" : Str)), decide (d = ("NoSpan" : Str)), decide (d = ("NoDesk" : Str)), decide (d = ("Known" : Str)), decide (d = ("Unknown" : Str)), decide (d = ("Full" : Str)), decide (d = ("NotReady" : Str)), decide (d = ("IsReady" : Str))])[i]? = some true ∧ (∀ m, m < i → ([decide (d = ("NoName" : Str)), decide (d = ("NoRank" : Str)), decide (d = ("NoSpan" : Str)), decide (d = ("NoDesk" : Str)), decide (d = ("Known" : Str)), decide (d = ("Unknown" : Str)), decide (d = ("Full" : Str)), decide (d = ("NotReady" : Str)), decide (d = ("IsReady" : Str))])[m]? ≠ some true) ∧ ∃ w, words9[i]? = some w := by
      have hi : i < 9 := (List.getElem?_eq_some_iff.mp hd).1
      have h9 : i = 0 ∨ i = 1 ∨ i = 2 ∨ i = 3 ∨ i = 4 ∨ i = 5 ∨ i = 6 ∨ i = 7 ∨ i = 8 := by omega
      rcases h9 with rfl | rfl | rfl | rfl | rfl | rfl | rfl | rfl | rfl <;> (cases hd; refine ⟨by decide +kernel, by decide +kernel, fun m hm => ?_, _, rfl⟩; revert m; decide +kernel)
    obtain ⟨h1, h2, h3, w9, h4⟩ := hs
    refine ⟨rfl, _, rfl, ?_⟩
    rw [decide_eq_true (by exact congrArg V.int h1)]
    refine iteF ⟨(show 9 ≤ sizeLine by decide), fun g7 n7 => ?_⟩
    refine ⟨_, rfl, ?_⟩
    refine ⟨.inl ⟨rfl, _, .inl (.inl (at5 n6 n7))⟩, g5, ([decide (d = ("NoName" : Str)), decide (d = ("NoRank" : Str)), decide (d = ("NoSpan" : Str)), decide (d = ("NoDesk" : Str)), decide (d = ("Known" : Str)), decide (d = ("Unknown" : Str)), decide (d = ("Full" : Str)), decide (d = ("NotReady" : Str)), decide (d = ("IsReady" : Str))]).map V.bl, .bl true, i, .bl true, rfl, rfl, .inl (.inl (at5 n6 n7)), rfl, rfl, ?_, by decide +kernel, ?_, ?_⟩
    · rw [List.getElem?_map, h2]
      rfl
    · intro m z' hm e
      rw [List.getElem?_map] at e
      cases e1 : ([decide (d = ("NoName" : Str)), decide (d = ("NoRank" : Str)), decide (d = ("NoSpan" : Str)), decide (d = ("NoDesk" : Str)), decide (d = ("Known" : Str)), decide (d = ("Unknown" : Str)), decide (d = ("Full" : Str)), decide (d = ("NotReady" : Str)), decide (d = ("IsReady" : Str))])[m]? with
      | none =>
        rw [e1] at e
        cases e
      | some b =>
        rw [e1] at e
        cases e
        cases b with
        | true => exact absurd e1 (h3 m hm)
        | false => decide +kernel
    · refine ⟨g7, words9.map V.str, (i : Int), .str w9, rfl, rfl, .inl (.inl upd_same), atI_nat (by rw [List.getElem?_map, h4]; rfl), q w9 _ h4 ?_⟩
      exact ((((((Keep.new n1).trans (Keep.new n2)).trans (Keep.new n3)).trans (Keep.new n4)).trans (Keep.new n5)).trans (Keep.new n6)).trans (Keep.new n7)
end
end Rr

set_option maxRecDepth 100000
set_option maxHeartbeats 4000000
namespace Rr
open PySem PySem.Spec PyProof.Rows L2
open L2H (SpP)
open GxR (TabG Tabbed)
open Evl (pss_cut)
/-! what the laws' own files share -/
theorem iteD {p : Prop} [Decidable p] {X Y : Prop} (hp : p) (h : X) : if decide p = true then X else Y := by
  rw [if_pos (decide_eq_true hp)]
  exact h
theorem iteDn {p : Prop} [Decidable p] {X Y : Prop} (hp : ¬ p) (h : Y) : if decide p = true then X else Y := by
  rw [if_neg (by rw [decide_eq_false hp]; simp)]
  exact h
theorem iteE {x : V} {X Y : Prop} (h : Y) : if (!decide (x = x)) = true then X else Y := by
  rw [if_neg (by simp)]
  exact h
theorem told_at (D : Dk) {m i : Nat} (h : i < m) : (D.told m)[i]? = some (nmV (D.after i).pick) := by
  unfold Dk.told
  rw [List.getElem?_map, List.getElem?_range h]
  rfl
theorem at_str {ns : List Str} {i : Nat} {n : Str} (h : ns[i]? = some n) : atI (ns.map V.str) (0 + (i : Int)) = some (V.str n) := by
  rw [Int.zero_add]
  exact atI_nat (by rw [List.getElem?_map, h]; rfl)
theorem at_int {ns : List Int} {i : Nat} {n : Int} (h : ns[i]? = some n) : atI (ns.map V.int) (0 + (i : Int)) = some (V.int n) := by
  rw [Int.zero_add]
  exact atI_nat (by rw [List.getElem?_map, h]; rfl)
def namesOf (sh : Int) (n : Nat) : List Str := (List.range n).map fun (j : Nat) => nameBy (0 + (j : Int)) sh
theorem namesOf_succ (sh : Int) (n : Nat) : namesOf sh (n + 1) = namesOf sh n ++ [nameBy (0 + (n : Int)) sh] := by
  unfold namesOf
  rw [List.range_succ, List.map_append]
  rfl
theorem namesOf_len (sh : Int) (n : Nat) : (namesOf sh n).length = n := by
  unfold namesOf
  rw [List.length_map, List.length_range]
theorem namesOf_at {sh : Int} {n j : Nat} (h : j < n) : (namesOf sh n)[j]? = some (nameBy (0 + (j : Int)) sh) := by
  unfold namesOf
  rw [List.getElem?_map, List.getElem?_range h]
  rfl
theorem namesOf_new {sh : Int} {n : Nat} (h : n < 80) : nameBy (0 + (n : Int)) sh ∉ namesOf sh n := fun z => by
  obtain ⟨j, hj, e⟩ := List.mem_map.mp z
  have hj := List.mem_range.mp hj
  have := name_inj (i := 0 + (j : Int)) (k := 0 + (n : Int)) (c := sh) ⟨by omega, by omega⟩ ⟨by omega, by omega⟩ e
  omega
theorem namesOf_nd {sh : Int} : ∀ {n : Nat}, n ≤ 80 → (namesOf sh n).Nodup
  | 0, _ => List.nodup_nil
  | n + 1, h => by
    rw [namesOf_succ]
    exact nd_snoc (namesOf_nd (by omega)) (namesOf_new (by omega))
theorem at_z {α : Type} {f : α → V} {l : List α} {z : Int} {x : α} (h0 : 0 ≤ z) (h : l[z.toNat]? = some x) : atI (l.map f) z = some (f x) := by
  have e := atI_nat (xs := l.map f) (j := z.toNat) (v := f x) (by rw [List.getElem?_map, h]; rfl)
  rw [Int.toNat_of_nonneg h0] at e
  exact e
theorem ix_z {n : Nat} {z : Int} (h0 : 0 ≤ z) (h : z.toNat < n) : ixN n z = some z.toNat := by
  have e := Evl.ixN_nat h
  rw [Int.toNat_of_nonneg h0] at e
  exact e
section
variable {P : Program} {w : World} {K : PySem.W.Frag} {mg : Str → Option Value} {base : Heap}
/-- a word is told; nothing has changed -/
def Says (H : Hp) (Q : VK) (v : V) : Prop := ∀ H', Keep [] H H' → Q v H'
theorem spw {p : Addr × Obj} {H : Hp} {Q : VK} {E : XK} (i : Nat) {d w : Str} (h1 : errs9[i]? = some d) (h2 : words9[i]? = some w) (hz : Zc (.ref (He.ga K d)) none p.2) (hf : ∃ vs, p.2.data = .fields vs) (q : ∀ H', Keep [] H H' → Q (.str w) H') : sp_word K p [.ref p.1] H Q E :=
  ⟨d, i, h1, rfl, hz, hf, fun w' H' hw k => by
    rw [h2] at hw
    obtain rfl := Option.some.inj hw
    exact q H' k⟩
theorem seqA {H H' H'' : Hp} {S : List Addr} (k : Keep [] H H') (f : ∀ z ∈ S, H z = none) (k' : Keep S H' H'') : Keep [] H H'' := k.trans' k' fun z hz => .inr (f z hz)
theorem subA {H H' : Hp} {S S' : List Addr} (k : Keep [] H H') (f : ∀ z ∈ S, H z = none) (s : Sub H' S S') : ∀ z ∈ S', H z = none := fun z hz => (s z hz).elim (f z) fun y => k.gone z y
theorem txt {a : Addr} {l : List Str} {H : Hp} (ha : H a = some (.lst (l.map V.str))) : H a = some (.lst ((l.map some).map fun x => x.elim .non V.str)) := by
  have e : l.map V.str = (l.map some).map fun x => x.elim .non V.str := by
    rw [List.map_map]
    rfl
  rw [e] at ha
  exact ha
theorem txl {l : List Str} {n : Nat} (h : l.length ≤ n) : (l.map some).length ≤ n := by rw [List.length_map]; exact h
end
end Rr

set_option maxRecDepth 100000
set_option maxHeartbeats 4000000
namespace Rr
open PySem PySem.Spec PyProof.Rows L2
open L2H (SpP)
open GxR (TabG Tabbed)
open Evl (pss_cut)
def sp_law (K : PySem.W.Frag) : Sp := fun vs H Q _ => ∃ (a : Addr) (ns : List Int), vs = [.ref a] ∧ SqL K H a (ns.map V.int) ∧ ns.length ≤ 63 ∧ TabG H (tabN K) ∧ ∀ H', Q (.bl true) H'
theorem eqV_self (x : Str) : eqV (.str x) (.str x) = true := by
  show (x == x) = true
  rw [str_beq]
  exact decide_eq_true rfl
/-- where a name stands in the list -/
theorem idx_of {ns : List Str} (nd : ns.Nodup) {k : Nat} {n : Str} (h : ns[k]? = some n) : ∀ (m : Nat) (z : V), m < k → (ns.map V.str)[m]? = some z → eqV z (.str n) = false := fun m z hm hz => by
  rw [List.getElem?_map] at hz
  cases e : ns[m]? with
  | none =>
    rw [e] at hz
    cases hz
  | some y =>
    rw [e] at hz
    obtain rfl : V.str y = z := Option.some.inj hz
    show (y == n) = false
    rw [str_beq]
    refine decide_eq_false fun q => ?_
    rw [q] at e
    have := nd_at nd e h
    omega
theorem map_at {α : Type} {f : α → V} {l : List α} {k : Nat} {x : α} (h : l[k]? = some x) : (l.map f)[k]? = some (f x) := by rw [List.getElem?_map, h]; rfl
theorem cut_int {ns : List Int} {lo hi : Option Int} {i : Nat} {v : V} (h : (cutV (ns.map V.int) lo hi)[i]? = some v) : ∃ c : Int, v = .int c := by
  have h1 := List.mem_of_getElem? h
  unfold cutV at h1
  obtain ⟨c, _, e⟩ := List.mem_map.mp (List.mem_of_mem_drop (List.mem_of_mem_take h1))
  exact ⟨c, e.symm⟩
theorem empty_small : Small "" := ⟨by decide +kernel, by decide +kernel⟩
section
variable {P : Program} {w : World} {K : PySem.W.Frag} {mg : Str → Option Value} {base : Heap}
def sp_no_desk (K : PySem.W.Frag) : Sp := fun vs H Q _ => ∃ y f : Int, vs = [.int y, .int f] ∧ (0 ≤ y ∧ y < 9) ∧ (0 ≤ f ∧ f < 1000000) ∧ ∀ H', Keep [] H H' → Q (.bl true) H'
theorem c__law_no_desk (T : Tx K mg base) : Cal P w K mg base 3 "_law_no_desk" (sp_no_desk K) := by
  have c__law_word : CalP P w K mg base 1 "_law_word" (sp_word K) := c__law_word T
  have c_Desk : Mak P w K mg base 1 "Desk" (He.ga K "Desk") (sp_Desk K) := c_Desk T
  obtain ⟨fd, F⟩ := T.d__law_no_desk
  refine ⟨_, fd, ["_law_way", "_law_far"], okF (k := 2) F sc__law_no_desk (fun vs H Q E h => ?_) (fun A outer s H vs Q E hr h => ?_), T.r__law_no_desk, F.kp, F.bindsN fun _ _ _ _ _ _ us hl => match us, hl with | [_, _], _ => rfl⟩
  · obtain ⟨y, f, rfl, _⟩ := h
    rfl
  · have nd := sc__law_no_desk.nd
    obtain ⟨y, f, rfl, hy, hf, q⟩ := h
    refine ⟨_, (pss_cut (L2N.ps_try_as (i := 2) rfl rfl nd rfl rfl ⟨rfl, by decide, .inl T.r_DeskError⟩ (L2N.takes_of rfl rfl rfl rfl) (fun W pn xe tk hp => (pss_one (ps_expr (pcS c_Desk hr (by decide) (by rfl) (L2N.passAt tk) (pa_cons (pe_ix (ix_listK (K := K) rfl) (pe_lst (pa_cons pe_int (pa_cons pe_int (pa_cons pe_int (pa_cons pe_int (pa_cons (pe_un un_neg pe_int) (pa_cons pe_int (pa_cons (pe_op op_add pe_int (pv 1)) (pa_cons pe_int (pa_cons (pe_op op_sub pe_int (pv 1)) pa_nil)))))))))) (pv 0) (fun _ _ => rfl)) (pa_cons (pe_ix (ix_listK (K := K) rfl) (pe_lst (pa_cons pe_int (pa_cons pe_int (pa_cons pe_int (pa_cons pe_int (pa_cons pe_int (pa_cons (pe_un un_neg pe_int) (pa_cons pe_int (pa_cons (pe_op op_add pe_int (pv 1)) (pa_cons pe_int pa_nil)))))))))) (pv 0) (fun _ _ => rfl)) pa_nil))))))
  (fun a oe cls d pn hz hf => (pss_one (ps_ret (pe_cmpR op_eq (pfS c__law_word hr (by decide) hz hf (by rfl) (pa_cons (pv 2) pa_nil)) pe_str (nomark _))))))
  (pss_one (ps_ret pe_bl))), ?_⟩
    refine ⟨fun σ' H' => Q (.bl false) H', ?_, fun σ' H' h => h⟩
    have h9 : y = 0 ∨ y = 1 ∨ y = 2 ∨ y = 3 ∨ y = 4 ∨ y = 5 ∨ y = 6 ∨ y = 7 ∨ y = 8 := by omega
    obtain ⟨p, r, hpr, mp, mr, ep, er⟩ : ∃ p r : Int, ¬ ((1 ≤ p ∧ p ≤ 1000) ∧ 1 ≤ r ∧ r ≤ 60) ∧ Mod p ∧ Mod r ∧ atI [V.int 0, V.int 1001, V.int 1, V.int 1000, V.int (-1), V.int 7, V.int (1001 + f), V.int 5, V.int (0 - f)] y = some (.int p) ∧ atI [V.int 60, V.int 1, V.int 0, V.int 61, V.int 5, V.int (-1), V.int 9, V.int (61 + f), V.int 60] y = some (.int r) := by
      rcases h9 with rfl | rfl | rfl | rfl | rfl | rfl | rfl | rfl | rfl
      · exact ⟨0, 60, by decide, ⟨by decide, by decide⟩, ⟨by decide, by decide⟩, rfl, rfl⟩
      · exact ⟨1001, 1, by decide, ⟨by decide, by decide⟩, ⟨by decide, by decide⟩, rfl, rfl⟩
      · exact ⟨1, 0, by decide, ⟨by decide, by decide⟩, ⟨by decide, by decide⟩, rfl, rfl⟩
      · exact ⟨1000, 61, by decide, ⟨by decide, by decide⟩, ⟨by decide, by decide⟩, rfl, rfl⟩
      · exact ⟨-1, 5, by decide, ⟨by decide, by decide⟩, ⟨by decide, by decide⟩, rfl, rfl⟩
      · exact ⟨7, -1, by decide, ⟨by decide, by decide⟩, ⟨by decide, by decide⟩, rfl, rfl⟩
      · exact ⟨1001 + f, 9, by omega, ⟨by omega, by omega⟩, ⟨by decide, by decide⟩, rfl, rfl⟩
      · exact ⟨5, 61 + f, by omega, ⟨by decide, by decide⟩, ⟨by omega, by omega⟩, rfl, rfl⟩
      · exact ⟨0 - f, 60, by omega, ⟨by omega, by omega⟩, ⟨by decide, by decide⟩, rfl, rfl⟩
    refine ⟨1, rfl, _, rfl, _, _, rfl, rfl, _, rfl, _, _, rfl, rfl, (show 9 ≤ sizeLine by decide), fun g1 n1 => ?_⟩
    have k1 : Keep [] H (L2.upd H g1 (.lst [V.int 0, V.int 1001, V.int 1, V.int 1000, V.int (-1), V.int 7, V.int (1001 + f), V.int 5, V.int (0 - f)])) := Keep.new n1
    refine ⟨_, rfl, g1, _, _, .int p, rfl, rfl, .inl (.inl upd_same), ep, ?_⟩
    refine ⟨1, rfl, _, rfl, _, _, rfl, rfl, (show 9 ≤ sizeLine by decide), fun g2 n2 => ?_⟩
    have k2 := k1.trans (Keep.new (o := .lst [V.int 60, V.int 1, V.int 0, V.int 61, V.int 5, V.int (-1), V.int 9, V.int (61 + f), V.int 60]) n2)
    refine ⟨_, rfl, g2, _, _, .int r, rfl, rfl, .inl (.inl upd_same), er, ?_⟩
    intro x dx nx ndx ne
    have k3 := (k2.trans (Keep.new (o := .own x) ndx)).trans (Keep.new (o := .ins (He.ga K "Desk") dx []) ((upd_ne ne.symm).trans nx))
    exact ⟨x, dx, p, r, rfl, mp, mr, upd_same, fun _ => ⟨true, T.x_NoDesk_DeskError, fun _ a ha => ⟨_, rfl, fun oe hz hf => spw 3 rfl rfl hz hf fun H' k => ⟨rfl, q H' (k3.trans k)⟩⟩, fun h => (nomatch h)⟩, fun z => absurd z hpr⟩
def sp_enters (K : PySem.W.Frag) : Sp := fun vs H Q _ => ∃ (d : Addr) (S : List Addr) (D : Dk) (n : Str) (r : Int), vs = [.ref d, .str n, .int r] ∧ Small n ∧ Mod r ∧ TabG H (tabN K) ∧ DkAt K H S d D ∧ Sound D ∧
  (isName n = false → Says H Q (.str "name")) ∧ (isName n = true → ¬ (0 ≤ r ∧ r ≤ 99) → Says H Q (.str "rank")) ∧ (isName n = true → (0 ≤ r ∧ r ≤ 99) → n ∈ namesL D.line → Says H Q (.str "known")) ∧
  (isName n = true → (0 ≤ r ∧ r ≤ 99) → n ∉ namesL D.line → D.room ≤ D.line.length → Says H Q (.str "full")) ∧ (isName n = true → (0 ≤ r ∧ r ≤ 99) → n ∉ namesL D.line → ¬ D.room ≤ D.line.length → Now K H S d (D.enter n r) (Q (.str "")))
theorem c__law_enters (T : Tx K mg base) : Cal P w K mg base 4 "_law_enters" (sp_enters K) := by
  have c__law_word : CalP P w K mg base 1 "_law_word" (sp_word K) := c__law_word T
  have c_Desk_enter : Met P w K mg base 3 (He.ga K "Desk") "enter" (sp_enter K) := c_Desk_enter T
  obtain ⟨fd, F⟩ := T.d__law_enters
  refine ⟨_, fd, ["_law_desk", "_law_name", "_law_rank"], okF (k := 3) F sc__law_enters (fun vs H Q E h => ?_) (fun A outer s H vs Q E hr h => ?_), T.r__law_enters, F.kp, F.bindsN fun _ _ _ _ _ _ us hl => match us, hl with | [_, _, _], _ => rfl⟩
  · obtain ⟨d, S, D, n, r, rfl, _⟩ := h
    rfl
  · have nd := sc__law_enters.nd
    obtain ⟨d, S, D, n, r, rfl, hn, mr, hT, hD, sD, q1, q2, q3, q4, q5⟩ := h
    obtain ⟨L, ln, eS, x⟩ := id hD
    obtain ⟨dx, hd⟩ := id x.desk
    have pr := sD.pr.2
    refine ⟨_, (pss_cut (L2N.ps_try_as (i := 3) rfl rfl nd rfl rfl ⟨rfl, by decide, .inl T.r_DeskError⟩ (L2N.takes_of rfl rfl rfl rfl) (fun W pn xe tk hp => (pss_one (ps_expr (pm c_Desk_enter hr (by decide) (L2N.passAt tk) (pv 0) (pa_cons (pv 1) (pa_cons (pv 2) pa_nil))))))
  (fun a oe cls d pn hz hf => (pss_one (ps_ret (pfS c__law_word hr (by decide) hz hf (by rfl) (pa_cons (pv 3) pa_nil))))))
  (pss_one (ps_ret pe_str))), ?_⟩
    refine ⟨fun σ' H' => Q (.str "") H', ?_, fun σ' H' h => h⟩
    exact ⟨_, rfl, d, dx, _, rfl, hd, rfl, _, rfl, _, rfl, d, S, D, n, r, rfl, hn, mr, hT, hD, pr.2, by omega, fun H1 => ⟨fun k1 e => ⟨true, T.x_NoName_DeskError, fun _ a ha => ⟨_, rfl, fun oe hz hf => spw 0 rfl rfl hz hf fun H' k => q1 e H' (k1.trans k)⟩, fun h => (nomatch h)⟩,
      fun k1 e e2 => ⟨true, T.x_NoRank_DeskError, fun _ a ha => ⟨_, rfl, fun oe hz hf => spw 1 rfl rfl hz hf fun H' k => q2 e e2 H' (k1.trans k)⟩, fun h => (nomatch h)⟩,
      fun k1 e e2 e3 => ⟨true, T.x_Known_DeskError, fun _ a ha => ⟨_, rfl, fun oe hz hf => spw 4 rfl rfl hz hf fun H' k => q3 e e2 e3 H' (k1.trans k)⟩, fun h => (nomatch h)⟩,
      fun k1 e e2 e3 e4 => ⟨true, T.x_Full_DeskError, fun _ a ha => ⟨_, rfl, fun oe hz hf => spw 6 rfl rfl hz hf fun H' k => q4 e e2 e3 e4 H' (k1.trans k)⟩, fun h => (nomatch h)⟩, fun e e2 e3 e4 S' k s x => q5 e e2 e3 e4 H1 S' k s x⟩⟩
def sp_unknown (K : PySem.W.Frag) : Sp := fun vs H Q _ => ∃ (d : Addr) (S : List Addr) (D : Dk) (n : Str) (y : Int), vs = [.ref d, .str n, .int y] ∧ Small n ∧ TabG H (tabN K) ∧ DkAt K H S d D ∧ n ∉ namesL D.line ∧ Says H Q (.bl true)
theorem c__law_unknown (T : Tx K mg base) : Cal P w K mg base 4 "_law_unknown" (sp_unknown K) := by
  have c__law_word : CalP P w K mg base 1 "_law_word" (sp_word K) := c__law_word T
  have c_Desk_sleep : Met P w K mg base 2 (He.ga K "Desk") "sleep" (sp_sleep K) := c_Desk_sleep T
  have c_Desk_wait : Met P w K mg base 3 (He.ga K "Desk") "wait" (sp_wait K) := c_Desk_wait T
  have c_Desk_wake : Met P w K mg base 3 (He.ga K "Desk") "wake" (sp_wake K) := c_Desk_wake T
  have c_Desk_rerank : Met P w K mg base 2 (He.ga K "Desk") "rerank" (sp_rerank K) := c_Desk_rerank T
  have c_Desk_state : Met P w K mg base 2 (He.ga K "Desk") "state" (sp_state K) := c_Desk_state T
  have c_Desk_rank : Met P w K mg base 2 (He.ga K "Desk") "rank" (sp_rank K) := c_Desk_rank T
  have c_Desk_waited : Met P w K mg base 2 (He.ga K "Desk") "waited" (sp_waited K) := c_Desk_waited T
  have c_Desk_within : Met P w K mg base 2 (He.ga K "Desk") "within" (sp_within K) := c_Desk_within T
  have c_Desk_left : Met P w K mg base 2 (He.ga K "Desk") "left" (sp_left K) := c_Desk_left T
  have c_Desk_bell : Met P w K mg base 2 (He.ga K "Desk") "bell" (sp_bell K) := c_Desk_bell T
  have c_Desk_leave : Met P w K mg base 2 (He.ga K "Desk") "leave" (sp_leave K) := c_Desk_leave T
  obtain ⟨fd, F⟩ := T.d__law_unknown
  refine ⟨_, fd, ["_law_desk", "_law_name", "_law_way"], okF (k := 3) F sc__law_unknown (fun vs H Q E h => ?_) (fun A outer s H vs Q E hr h => ?_), T.r__law_unknown, F.kp, F.bindsN fun _ _ _ _ _ _ us hl => match us, hl with | [_, _, _], _ => rfl⟩
  · obtain ⟨d, S, D, n, y, rfl, _⟩ := h
    rfl
  · have nd := sc__law_unknown.nd
    obtain ⟨d, S, D, n, y, rfl, hn, hT, hD, hno, q⟩ := h
    obtain ⟨L, ln, eS, x⟩ := id hD
    obtain ⟨dx, hd⟩ := id x.desk
    refine ⟨_, (pss_cut (L2N.ps_try_as (i := 3) rfl rfl nd rfl rfl ⟨rfl, by decide, .inl T.r_Unknown⟩ (L2N.takes_of rfl rfl rfl rfl) (fun W pn xe tk hp => (pss_one (ps_if (pt_cmpR op_eq (pv 2) pe_int (nomark _))
  (pss_one (ps_expr (pm c_Desk_sleep hr (by decide) (L2N.passAt tk) (pv 0) (pa_cons (pv 1) (pa_cons pe_int pa_nil)))))
  (pss_one (ps_if (pt_cmpR op_eq (pv 2) pe_int (nomark _))
  (pss_one (ps_expr (pm c_Desk_wait hr (by decide) (L2N.passAt tk) (pv 0) (pa_cons (pv 1) (pa_cons pe_str pa_nil)))))
  (pss_one (ps_if (pt_cmpR op_eq (pv 2) pe_int (nomark _))
  (pss_one (ps_expr (pm c_Desk_wake hr (by decide) (L2N.passAt tk) (pv 0) (pa_cons (pv 1) pa_nil))))
  (pss_one (ps_if (pt_cmpR op_eq (pv 2) pe_int (nomark _))
  (pss_one (ps_expr (pm c_Desk_rerank hr (by decide) (L2N.passAt tk) (pv 0) (pa_cons (pv 1) (pa_cons pe_int pa_nil)))))
  (pss_one (ps_if (pt_cmpR op_eq (pv 2) pe_int (nomark _))
  (pss_one (ps_expr (pm c_Desk_state hr (by decide) (L2N.passAt tk) (pv 0) (pa_cons (pv 1) pa_nil))))
  (pss_one (ps_if (pt_cmpR op_eq (pv 2) pe_int (nomark _))
  (pss_one (ps_expr (pm c_Desk_rank hr (by decide) (L2N.passAt tk) (pv 0) (pa_cons (pv 1) pa_nil))))
  (pss_one (ps_if (pt_cmpR op_eq (pv 2) pe_int (nomark _))
  (pss_one (ps_expr (pm c_Desk_waited hr (by decide) (L2N.passAt tk) (pv 0) (pa_cons (pv 1) pa_nil))))
  (pss_one (ps_if (pt_cmpR op_eq (pv 2) pe_int (nomark _))
  (pss_one (ps_expr (pm c_Desk_within hr (by decide) (L2N.passAt tk) (pv 0) (pa_cons (pv 1) pa_nil))))
  (pss_one (ps_if (pt_cmpR op_eq (pv 2) pe_int (nomark _))
  (pss_one (ps_expr (pm c_Desk_left hr (by decide) (L2N.passAt tk) (pv 0) (pa_cons (pv 1) pa_nil))))
  (pss_one (ps_if (pt_cmpR op_eq (pv 2) pe_int (nomark _))
  (pss_one (ps_expr (pm c_Desk_bell hr (by decide) (L2N.passAt tk) (pv 0) (pa_cons (pv 1) pa_nil))))
  (pss_one (ps_expr (pm c_Desk_leave hr (by decide) (L2N.passAt tk) (pv 0) (pa_cons (pv 1) pa_nil)))))))))))))))))))))))))
  (fun a oe cls d pn hz hf => (pss_one (ps_ret (pe_cmpR op_eq (pfS c__law_word hr (by decide) hz hf (by rfl) (pa_cons (pv 3) pa_nil)) pe_str (nomark _))))))
  (pss_one (ps_ret pe_bl))), ?_⟩
    refine ⟨fun σ' H' => Q (.bl false) H', ?_, fun σ' H' h => h⟩
    have no : ∀ {q : Cr → Prop}, ∀ c ∈ D.line, c.name = n → q c := fun {q} c hc e => absurd (name_in hc) (by rw [e]; exact hno)
    refine ⟨_, rfl, rfl, _, rfl, ite2 (fun _ => ?_) (fun _ => ⟨_, rfl, rfl, _, rfl, ite2 (fun _ => ?_) (fun _ => ⟨_, rfl, rfl, _, rfl, ite2 (fun _ => ?_) (fun _ => ⟨_, rfl, rfl, _, rfl, ite2 (fun _ => ?_) (fun _ => ⟨_, rfl, rfl, _, rfl, ite2 (fun _ => ?_) (fun _ => ⟨_, rfl, rfl, _, rfl, ite2 (fun _ => ?_) (fun _ => ⟨_, rfl, rfl, _, rfl, ite2 (fun _ => ?_) (fun _ => ⟨_, rfl, rfl, _, rfl, ite2 (fun _ => ?_) (fun _ => ⟨_, rfl, rfl, _, rfl, ite2 (fun _ => ?_) (fun _ => ⟨_, rfl, rfl, _, rfl, ite2 (fun _ => ?_) (fun _ => ?_)⟩)⟩)⟩)⟩)⟩)⟩)⟩)⟩)⟩)⟩
    · exact ⟨_, rfl, d, dx, _, rfl, hd, rfl, _, rfl, d, S, D, n, 0, rfl, ⟨by decide, by decide⟩, hn, hD, fun _ => ⟨true, T.x_Unknown_Unknown, fun _ a ha => ⟨_, rfl, fun oe hz hf => spw 5 rfl rfl hz hf fun H' k => ⟨rfl, q H' k⟩⟩, fun h => (nomatch h)⟩, no⟩
    · exact ⟨_, rfl, d, dx, _, rfl, hd, rfl, _, rfl, d, S, D, n, "", rfl, empty_small, hT, hn, hD, fun _ => ⟨true, T.x_Unknown_Unknown, fun _ a ha => ⟨_, rfl, fun oe hz hf => spw 5 rfl rfl hz hf fun H' k => ⟨rfl, q H' k⟩⟩, fun h => (nomatch h)⟩, no⟩
    · exact ⟨_, rfl, d, dx, _, rfl, hd, rfl, _, rfl, d, S, D, n, rfl, hn, hD, fun _ => ⟨true, T.x_Unknown_Unknown, fun _ a ha => ⟨_, rfl, fun oe hz hf => spw 5 rfl rfl hz hf fun H' k => ⟨rfl, q H' k⟩⟩, fun h => (nomatch h)⟩, no⟩
    · exact ⟨_, rfl, d, dx, _, rfl, hd, rfl, _, rfl, d, S, D, n, 100, rfl, ⟨by decide, by decide⟩, hn, hD, fun _ => ⟨true, T.x_Unknown_Unknown, fun _ a ha => ⟨_, rfl, fun oe hz hf => spw 5 rfl rfl hz hf fun H' k => ⟨rfl, q H' k⟩⟩, fun h => (nomatch h)⟩, no⟩
    all_goals exact ⟨_, rfl, d, dx, _, rfl, hd, rfl, _, rfl, d, S, D, n, rfl, hn, hD, fun _ => ⟨true, T.x_Unknown_Unknown, fun _ a ha => ⟨_, rfl, fun oe hz hf => spw 5 rfl rfl hz hf fun H' k => ⟨rfl, q H' k⟩⟩, fun h => (nomatch h)⟩, no⟩
/-- the word that is due -/
def dueW (l : List Ent) (room : Int) (n : Str) (r : Int) (g : Bool) : Str := if g = false then "name" else if ¬ (0 ≤ r ∧ r ≤ 99) then "rank" else if n ∈ namesE l then "known" else if room ≤ l.length then "full" else ""
def sp_due (K : PySem.W.Frag) : Sp := fun vs H Q _ => ∃ (a : Addr) (l : List Ent) (m : Int) (n : Str) (r : Int) (gd : Bool), vs = [.ref a, .int m, .str n, .int r, .bl gd] ∧ EnAt H a l ∧ l.length ≤ 60 ∧ Says H Q (.str (dueW l m n r gd))
theorem c__law_due (T : Tx K mg base) : Cal P w K mg base 1 "_law_due" (sp_due K) := by
  obtain ⟨fd, F⟩ := T.d__law_due
  refine ⟨_, fd, ["_law_line", "_law_room", "_law_name", "_law_rank", "_law_good"], okF (k := 0) F sc__law_due (fun vs H Q E h => ?_) (fun A outer s H vs Q E hr h => ?_), T.r__law_due, F.kp, F.bindsN fun _ _ _ _ _ _ us hl => match us, hl with | [_, _, _, _, _], _ => rfl⟩
  · obtain ⟨a, l, m, n, r, gd, rfl, _⟩ := h
    rfl
  · have nd := sc__law_due.nd
    obtain ⟨a, l, m, n, r, gd, rfl, ⟨ps, rfl, ha, hp⟩, l60, q⟩ := h
    rw [List.length_map] at l60
    unfold dueW at q
    refine ⟨_, (pss_cons (ps_if (pt_not (pt_val (pv 4)))
  (pss_one (ps_ret pe_str))
  pss_nil)
  (pss_cons (ps_if (PW.pt (pw_or (pt_cmpR op_lt (pv 3) pe_int (nomark _)) (pw_or1 (pt_cmpR op_gt (pv 3) pe_int (nomark _)))))
  (pss_one (ps_ret pe_str))
  pss_nil)
  (pss_cons (ps_if (pt_cmpR op_in_seq (pv 2) (pe_lc (own := [("_law_one", 5)]) (g := gName 5) (tt := tYes) rfl nd (pi_listK (K := K) rfl (pv 0)) (blkOk_by (N := N__law_due) (sc := defScope s__law_due) (by decide +kernel)) (fun _ _ _ _ _ => (pg_name (i := 5) nd rfl (Or.inl rfl))) (fun _ _ _ _ _ => pts_nil) (fun _ _ _ _ _ => (pe_ix (ix_tupK (K := K) rfl) (pv 5) pe_int (fun _ _ => rfl)))) rfl)
  (pss_one (ps_ret pe_str))
  pss_nil)
  (pss_cons (ps_if (pt_cmpR op_ge (pe_callB call_len_seq (by rfl) T.m_len boot_len (pa_cons (pv 0) pa_nil)) (pv 1) (nomark _))
  (pss_one (ps_ret pe_str))
  pss_nil)
  (pss_one (ps_ret pe_str)))))), ?_⟩
    cases gd with
    | false => exact ⟨_, rfl, _, rfl, iteT (q H (Keep.refl _ _))⟩
    | true =>
    rw [if_neg (by simp)] at q
    refine ⟨_, rfl, _, rfl, iteF ⟨_, rfl, _, _, rfl, rfl, _, rfl, ?_⟩⟩
    by_cases z1 : r < 0
    · rw [if_pos (show ¬ (0 ≤ r ∧ r ≤ 99) by omega)] at q
      exact iteD z1 (iteT (q H (Keep.refl _ _)))
    refine iteDn z1 ⟨_, rfl, _, _, rfl, rfl, _, rfl, ?_⟩
    by_cases z2 : 99 < r
    · rw [if_pos (show ¬ (0 ≤ r ∧ r ≤ 99) by omega)] at q
      exact iteD z2 (q H (Keep.refl _ _))
    rw [if_neg (show ¬ ¬ (0 ≤ r ∧ r ≤ 99) by omega)] at q
    refine iteDn z2 ⟨_, rfl, _, rfl, a, rfl, ⟨_, .inl (.inl ha)⟩, fun g ng => ?_⟩
    refine lc_it (walk_list (K := K) (xs := ps.map fun p => V.ref p.1)) (Pv := fun i H' => Keep [] H H' ∧ H' g = some (.lst ((namesE ((ps.take i).map (·.2))).map V.str))) ⟨Keep.new ng, upd_same⟩ (fun i H' _ p => .inl (.inl (p.1.lst ha List.not_mem_nil))) ?_ ?_
    · rintro i v H8 H9 hi ⟨k8, hg8⟩ ⟨rfl, hv⟩
      rw [List.getElem?_map] at hv
      cases ep : ps[i]? with
      | none =>
        rw [ep] at hv
        cases hv
      | some p =>
        rw [ep] at hv
        obtain rfl : V.ref p.1 = v := Option.some.inj hv
        have ht := k8.tup (hp p (List.mem_of_getElem? ep)) List.not_mem_nil
        have hi' : i < ps.length := (List.getElem?_eq_some_iff.mp ep).1
        refine ⟨rfl, ?_⟩
        refine ⟨_, rfl, p.1, _, _, _, rfl, rfl, .inl (.inl ht), rfl, _, hg8, ?_, k8.set (.inl ng) hg8 nt_lst, ?_⟩
        · rw [List.length_map, namesE_len, List.length_map, List.length_take]
          exact small1000 (by omega)
        · rw [upd_same, namesE_take ep, List.map_append]
          rfl
    rintro H1 ⟨k1, hg⟩
    rw [List.length_map, List.take_of_length_le (Nat.le_refl _)] at hg
    refine ⟨g, _, rfl, .inl (.inl (.inl hg)), rfl, all_str _, _, rfl, ?_⟩
    rw [inV_str]
    by_cases z3 : n ∈ namesE (ps.map (·.2))
    · rw [if_pos z3] at q
      rw [decide_eq_true z3]
      exact iteT (q H1 k1)
    rw [if_neg z3] at q
    rw [decide_eq_false z3]
    have ha1 := k1.lst ha List.not_mem_nil
    refine iteF ⟨_, rfl, a, _, rfl, .inl (.inl (.inl ha1)), _, rfl, _, _, rfl, rfl, _, rfl, ?_⟩
    rw [List.length_map]
    rw [List.length_map] at q
    by_cases z4 : m ≤ (ps.length : Int)
    · rw [if_pos z4] at q
      exact iteD z4 (q H1 k1)
    · rw [if_neg z4] at q
      exact iteDn z4 (q H1 k1)
theorem erase_map {α β : Type} (f : α → β) : ∀ (l : List α) (k : Nat), (l.map f).eraseIdx k = (l.eraseIdx k).map f
  | [], _ => rfl
  | _ :: _, 0 => rfl
  | x :: r, k + 1 => congrArg (List.cons (f x)) (erase_map f r k)
theorem ent_at {ps : List (Addr × Ent)} {z : Int} (h0 : 0 ≤ z) (h : z < ps.length) : ∃ p ∈ ps, atI (ps.map fun p => V.ref p.1) z = some (.ref p.1) := by
  have hl : z.toNat < ps.length := by omega
  refine ⟨ps[z.toNat], List.getElem_mem hl, ?_⟩
  have e := atI_nat (xs := ps.map fun p => V.ref p.1) (j := z.toNat) (v := .ref ps[z.toNat].1) (by rw [List.getElem?_map, List.getElem?_eq_getElem hl]; rfl)
  rw [Int.toNat_of_nonneg h0] at e
  exact e
def sp_lstands (K : PySem.W.Frag) : Sp := fun vs H Q _ => ∃ (d a : Addr) (S : List Addr) (D : Dk) (l : List Ent) (n : Int), vs = [.ref d, .ref a, .int D.pace, .int D.room, .int n] ∧ DkAt K H S d D ∧ Sound D ∧ EnAt H a l ∧ D.line = l.map entC ∧ D.now = 0 ∧ Says H Q (.bl true)
theorem c__law_stands (T : Tx K mg base) : Cal P w K mg base 3 "_law_stands" (sp_lstands K) := by
  have c__law_mix : Cal P w K mg base 1 "_law_mix" sp_mix := c__law_mix T
  have c__law_whole : Cal P w K mg base 1 "_law_whole" sp_whole := c__law_whole T
  have c__law_texts : Cal P w K mg base 1 "_law_texts" (sp_texts K) := c__law_texts T
  have c_Desk_names : Met P w K mg base 1 (He.ga K "Desk") "names" (sp_names K) := c_Desk_names T
  have c_Desk_rank : Met P w K mg base 2 (He.ga K "Desk") "rank" (sp_rank K) := c_Desk_rank T
  have c_Desk_waited : Met P w K mg base 2 (He.ga K "Desk") "waited" (sp_waited K) := c_Desk_waited T
  have c_Desk_state : Met P w K mg base 2 (He.ga K "Desk") "state" (sp_state K) := c_Desk_state T
  obtain ⟨fd, F⟩ := T.d__law_stands
  refine ⟨_, fd, ["_law_desk", "_law_line", "_law_pace", "_law_room", "_law_cell"], okF (k := 2) F sc__law_stands (fun vs H Q E h => ?_) (fun A outer s H vs Q E hr h => ?_), T.r__law_stands, F.kp, F.bindsN fun _ _ _ _ _ _ us hl => match us, hl with | [_, _, _, _, _], _ => rfl⟩
  · obtain ⟨d, a, S, D, l, n, rfl, _⟩ := h
    rfl
  · have nd := sc__law_stands.nd
    obtain ⟨d, a, S, D, l, n, rfl, hD0, sD, hE0, el, now0, q⟩ := h
    obtain ⟨L, ln, eS, x⟩ := id hD0
    obtain ⟨dx, hd⟩ := id x.desk
    have l60 : l.length ≤ 60 := by have := sD.len60; rw [el, List.length_map] at this; exact this
    have enm : namesL D.line = namesE l := by rw [el, namesE_C]
    have okl : ∀ x ∈ l, isName x.1 = true := fun x hx => sD.ok (entC x) (by rw [el]; exact List.mem_map_of_mem hx)
    refine ⟨_, (pss_cons (ps_set (i := 5) nd rfl (Or.inl rfl) (pm0 c_Desk_names hr (by decide) p0 (pv 0)))
  (pss_cons (ps_if (pt_not (pt_val (pf c__law_texts hr (by decide) (by rfl) p0 (pa_cons (pv 5) (pa_cons (pe_lc (own := [("_law_one", 6)]) (g := gName 6) (tt := tYes) rfl nd (pi_listK (K := K) rfl (pv 1)) (blkOk_by (N := N__law_stands) (sc := defScope s__law_stands) (by decide +kernel)) (fun _ _ _ _ _ => (pg_name (i := 6) nd rfl (Or.inl rfl))) (fun _ _ _ _ _ => pts_nil) (fun _ _ _ _ _ => (pe_ix (ix_tupK (K := K) rfl) (pv 6) pe_int (fun _ _ => rfl)))) pa_nil)))))
  (pss_one (ps_ret pe_bl))
  pss_nil)
  (pss_cons (ps_expr (pe_bm PySem.F.plainAttrs_list PySem.F.slot_list_append PySem.F.type_list_append mt_append (pv 5) (pa_cons pe_str pa_nil)))
  (pss_cons (ps_for (passes_of rfl) rfl (pi_list (pe_lst (pa_cons (pe_tup (pa_cons (pe_fld (pv 0) rfl) (pa_cons (pv 2) pa_nil))) (pa_cons (pe_tup (pa_cons (pe_fld (pv 0) rfl) (pa_cons (pv 3) pa_nil))) (pa_cons (pe_tup (pa_cons (pe_fld (pv 0) rfl) (pa_cons pe_int pa_nil))) pa_nil))))) (pg_tup rfl (pgs_cons (pg_name (i := 7) nd rfl (Or.inl rfl)) (pgs_cons (pg_name (i := 8) nd rfl (Or.inl rfl)) pgs_nil)))
  (pss_one (ps_if (PW.pt (pw_or (pt_not (pt_val (pf c__law_whole hr (by decide) (by rfl) p0 (pa_cons (pv 7) pa_nil)))) (pw_or1 (pt_cmpR op_ne (pv 7) (pv 8) (nomark _)))))
  (pss_one (ps_ret pe_bl))
  pss_nil)))
  (pss_cons (ps_if (pt_cmpR (op_eqD hr.units) (pv 1) (pe_lst pa_nil) (nomark _))
  (pss_one (ps_ret pe_bl))
  pss_nil)
  (pss_cons (ps_set (i := 6) nd rfl (Or.inl rfl) (pe_ix ix_list (pv 1) (pf c__law_mix hr (by decide) (by rfl) p0 (pa_cons (pv 4) (pa_cons pe_int (pa_cons (pe_callB call_len_seq (by rfl) T.m_len boot_len (pa_cons (pv 1) pa_nil)) pa_nil)))) (fun _ _ => rfl)))
  (pss_cons (ps_set (i := 9) nd rfl (Or.inl rfl) (pm c_Desk_rank hr (by decide) (pU (L2N.takes_of rfl rfl rfl rfl)) (pv 0) (pa_cons (pe_ix ix_tup (pv 6) pe_int (fun _ _ => rfl)) pa_nil)))
  (pss_cons (ps_set (i := 10) nd rfl (Or.inl rfl) (pm c_Desk_waited hr (by decide) (pU (L2N.takes_of rfl rfl rfl rfl)) (pv 0) (pa_cons (pe_ix ix_tup (pv 6) pe_int (fun _ _ => rfl)) pa_nil)))
  (pss_cons (ps_if (PW.pt (pw_or (pt_not (pt_val (pf c__law_whole hr (by decide) (by rfl) p0 (pa_cons (pv 9) pa_nil)))) (pw_or (pt_not (pt_val (pf c__law_whole hr (by decide) (by rfl) p0 (pa_cons (pv 10) pa_nil)))) (pw_or (pt_cmpR op_ne (pv 9) (pe_ix ix_tup (pv 6) pe_int (fun _ _ => rfl)) (nomark _)) (pw_or1 (pt_cmpR op_ne (pv 10) pe_int (nomark _)))))))
  (pss_one (ps_ret pe_bl))
  pss_nil)
  (pss_one (ps_ret (pe_cmpR op_eq (pm c_Desk_state hr (by decide) (pU (L2N.takes_of rfl rfl rfl rfl)) (pv 0) (pa_cons (pe_ix ix_tup (pv 6) pe_int (fun _ _ => rfl)) pa_nil)) pe_str (nomark _))))))))))))), ?_⟩
    refine ⟨_, rfl, d, dx, _, rfl, hd, rfl, d, S, D, rfl, hD0, fun p np => ?_⟩
    rw [enm]
    have k1 : Keep [] H (L2.upd H p (.lst ((namesE l).map V.str))) := Keep.new np
    have hp1 : (L2.upd H p (.lst ((namesE l).map V.str))) p = some (.lst ((namesE l).map V.str)) := upd_same
    have hE1 := hE0.keep0 k1
    generalize L2.upd H p (.lst ((namesE l).map V.str)) = H1 at *
    obtain ⟨ps, rfl, ha, hp⟩ := id hE1
    have l60' := l60
    rw [List.length_map] at l60'
    refine ⟨_, rfl, _, rfl, a, rfl, ⟨_, .inl (.inl ha)⟩, fun g ng => ?_⟩
    refine lc_it (walk_list (K := K) (xs := ps.map fun p => V.ref p.1)) (Pv := fun i H' => Keep [] H1 H' ∧ H' g = some (.lst ((namesE ((ps.take i).map (·.2))).map V.str))) ⟨Keep.new ng, upd_same⟩ (fun i H' _ p => .inl (.inl (p.1.lst ha List.not_mem_nil))) ?_ ?_
    · rintro i v H8 H9 hi ⟨k8, hg8⟩ ⟨rfl, hv⟩
      rw [List.getElem?_map] at hv
      cases ep : ps[i]? with
      | none =>
        rw [ep] at hv
        cases hv
      | some p =>
        rw [ep] at hv
        obtain rfl : V.ref p.1 = v := Option.some.inj hv
        have ht := k8.tup (hp p (List.mem_of_getElem? ep)) List.not_mem_nil
        have hi' : i < ps.length := (List.getElem?_eq_some_iff.mp ep).1
        refine ⟨rfl, ?_⟩
        refine ⟨_, rfl, p.1, _, _, _, rfl, rfl, .inl (.inl ht), rfl, _, hg8, ?_, k8.set (.inl ng) hg8 nt_lst, ?_⟩
        · rw [List.length_map, namesE_len, List.length_map, List.length_take]
          exact small1000 (by omega)
        · rw [upd_same, namesE_take ep, List.map_append]
          rfl
    rintro H2 ⟨k2, hg⟩
    rw [List.length_map, List.take_of_length_le (Nat.le_refl _)] at hg
    have hp2 := k2.lst hp1 List.not_mem_nil
    refine ⟨p, g, _, rfl, txt hp2, txt hg, txl (by rw [namesE_len]; omega), _, rfl, iteF ?_⟩
    refine ⟨_, rfl, .inl ⟨rfl, _, .inl (.inl hp2)⟩, p, _, _, rfl, rfl, hp2, ?_, ?_⟩
    · rw [List.length_map, namesE_len]
      exact small1000 (by omega)
    have kp := Keep.upd (S := [p]) (o := .lst ((namesE (ps.map (·.2))).map V.str ++ [.str "x"])) hp2 (List.mem_singleton.mpr rfl) nt_lst
    have hD2 := hD0.keep0 (k1.trans k2)
    have hE2 := hE1.keep0 k2
    have hD3 := hD2.keep kp fun z hz y => by
      rw [List.mem_singleton.mp y] at hz
      exact hD2.lst hp2 hz
    have pn : ∀ b o, H b = some o → b ≠ p := fun b o e => ne_of_none e np
    have hE3 : EnAt (L2.upd H2 p (.lst ((namesE (ps.map (·.2))).map V.str ++ [.str "x"]))) a (ps.map (·.2)) := by
      have kk : Keep [] H (L2.upd H2 p (.lst ((namesE (ps.map (·.2))).map V.str ++ [.str "x"]))) := (k1.trans k2).set (.inl np) hp2 nt_lst
      exact hE0.keep0 kk
    have k03 : Keep [] H (L2.upd H2 p (.lst ((namesE (ps.map (·.2))).map V.str ++ [.str "x"]))) := (k1.trans k2).set (.inl np) hp2 nt_lst
    generalize L2.upd H2 p (.lst ((namesE (ps.map (·.2))).map V.str ++ [.str "x"])) = H3 at *
    obtain ⟨L, ln, eS, x⟩ := id hD3
    obtain ⟨dx, hd⟩ := id x.desk
    refine ⟨_, rfl, d, _, _, _, _, rfl, hd, T.cl_Desk, T.na_Desk_pace, rfl, _, rfl, (show 2 ≤ sizeLine by decide), fun t1 nt1 => ?_⟩
    have ka : Keep [] H3 (L2.upd H3 t1 (.tup [.int D.pace, .int D.pace])) := Keep.new nt1
    have ht1 : (L2.upd H3 t1 (.tup [.int D.pace, .int D.pace])) t1 = some (.tup [.int D.pace, .int D.pace]) := upd_same
    generalize L2.upd H3 t1 (.tup [.int D.pace, .int D.pace]) = H4 at *
    have hd4 := ka.old _ _ hd List.not_mem_nil nt_ins
    refine ⟨_, rfl, d, _, _, _, _, rfl, hd4, T.cl_Desk, T.na_Desk_room, rfl, _, rfl, (show 2 ≤ sizeLine by decide), fun t2 nt2 => ?_⟩
    have kb : Keep [] H4 (L2.upd H4 t2 (.tup [.int D.room, .int D.room])) := Keep.new nt2
    have ht2 : (L2.upd H4 t2 (.tup [.int D.room, .int D.room])) t2 = some (.tup [.int D.room, .int D.room]) := upd_same
    generalize L2.upd H4 t2 (.tup [.int D.room, .int D.room]) = H5 at *
    have hd5 := kb.old _ _ hd4 List.not_mem_nil nt_ins
    rw [now0] at hd5
    refine ⟨_, rfl, d, _, _, _, _, rfl, hd5, T.cl_Desk, T.na_Desk_now, rfl, (show 2 ≤ sizeLine by decide), fun t3 nt3 => ?_⟩
    have kc : Keep [] H5 (L2.upd H5 t3 (.tup [.int 0, .int 0])) := Keep.new nt3
    have ht3 : (L2.upd H5 t3 (.tup [.int 0, .int 0])) t3 = some (.tup [.int 0, .int 0]) := upd_same
    generalize L2.upd H5 t3 (.tup [.int 0, .int 0]) = H6 at *
    refine ⟨(show 3 ≤ sizeLine by decide), fun f nf => ?_⟩
    have kd : Keep [] H6 (L2.upd H6 f (.lst [.ref t1, .ref t2, .ref t3])) := Keep.new nf
    have hf : (L2.upd H6 f (.lst [.ref t1, .ref t2, .ref t3])) f = some (.lst [.ref t1, .ref t2, .ref t3]) := upd_same
    generalize L2.upd H6 f (.lst [.ref t1, .ref t2, .ref t3]) = H7 at *
    have ht1' := (kb.trans (kc.trans kd)).tup ht1 List.not_mem_nil
    have ht2' := (kc.trans kd).tup ht2 List.not_mem_nil
    have ht3' := kd.tup ht3 List.not_mem_nil
    have three : ∀ (i : Nat) (v : V), [V.ref t1, V.ref t2, V.ref t3][i]? = some v → ∃ t z, v = .ref t ∧ H7 t = some (.tup [.int z, .int z]) := fun i v h => by
      have hm := List.mem_of_getElem? h
      rcases List.mem_cons.mp hm with rfl | hm
      · exact ⟨_, _, rfl, ht1'⟩
      rcases List.mem_cons.mp hm with rfl | hm
      · exact ⟨_, _, rfl, ht2'⟩
      rw [List.mem_singleton.mp hm]
      exact ⟨_, _, rfl, ht3'⟩
    have k37 := ka.trans (kb.trans (kc.trans kd))
    refine ⟨f, rfl, ⟨_, .inl (.inl hf)⟩, ?_⟩
    refine for_it (walk_list (xs := [V.ref t1, V.ref t2, V.ref t3])) (fun i σ H' => H7 = H' ∧ ∃ v6 v7 v8, σ = [some (.ref d), some (.ref a), some (.int D.pace), some (.int D.room), some (.int n), some (.ref p), v6, v7, v8, none, none]) ⟨rfl, _, _, _, rfl⟩ ?_ ?_ ?_
    · rintro i σ _ _ ⟨rfl, _⟩
      exact .inl (.inl hf)
    · rintro i v σ _ H9 hi ⟨rfl, v6, v7, v8, rfl⟩ ⟨rfl, hv⟩
      obtain ⟨t, z, rfl, ht⟩ := three i v hv
      exact ⟨t, _, rfl, .inl (.inl ht), rfl, _, _, rfl, _, _, rfl, rfl, _, rfl, z, rfl, _, rfl, iteF ⟨_, rfl, _, rfl, rfl, _, rfl, iteE ⟨rfl, _, _, _, rfl⟩⟩⟩
    rintro σ _ ⟨rfl, v6, v7, v8, rfl⟩
    have hE7 := hE3.keep0 k37
    have hD7 := hD3.keep0 k37
    have k07 := k03.trans k37
    refine ⟨_, rfl, (show 0 ≤ sizeLine by decide), fun o no => ?_⟩
    have ko : Keep [] H7 (L2.upd H7 o (.lst [])) := Keep.new no
    have hE8 := hE7.keep0 ko
    have hD8 := hD7.keep0 ko
    have k08 := k07.trans ko
    refine ⟨_, _, hE8.dp, .lst (.inl (.inl upd_same)) .nil, ents_shaped okl, rfl, _, rfl, ?_⟩
    rw [ents_empty]
    generalize L2.upd H7 o (.lst []) = H8 at *
    by_cases ee : ps.map (·.2) = []
    · rw [decide_eq_true ee]
      exact iteT (q H8 k08)
    rw [decide_eq_false ee]
    obtain ⟨qs, eqs, ha8, hq⟩ := id hE8
    have lpos : 0 < qs.length := by
      rcases Nat.eq_zero_or_pos qs.length with z | z
      · rw [eqs, List.length_eq_zero_iff.mp z] at ee
        exact absurd rfl ee
      · exact z
    have hm := mix_nn (c := n) (p := 10061) (m := (qs.length : Int)) (by omega)
    obtain ⟨u, hu, eat⟩ := ent_at hm.1 hm.2
    refine iteF ⟨_, rfl, _, rfl, _, rfl, a, _, rfl, .inl (.inl (.inl ha8)), n, 10061, _, rfl, by decide, by rw [List.length_map]; omega, a, _, _, .ref u.1, rfl, rfl, .inl (.inl ha8), by rw [List.length_map]; exact eat, ?_⟩
    have ht := hq u hu
    have hc : entC u.2 ∈ D.line := by rw [el, eqs]; exact List.mem_map_of_mem (List.mem_map_of_mem hu)
    obtain ⟨t, nm, rk⟩ := u
    obtain ⟨L, ln, eS, x⟩ := id hD8
    obtain ⟨dx, hd⟩ := id x.desk
    refine ⟨_, rfl, d, dx, _, rfl, hd, rfl, _, rfl, t, _, _, _, rfl, rfl, .inl (.inl ht), rfl, d, S, D, nm, rfl, byN (c := entC (nm, rk)) sD hD8 hc ?_⟩
    refine ⟨_, rfl, d, dx, _, rfl, hd, rfl, _, rfl, t, _, _, _, rfl, rfl, .inl (.inl ht), rfl, d, S, D, nm, rfl, byN (c := entC (nm, rk)) sD hD8 hc ⟨fun z => (nomatch z), fun _ => ?_⟩⟩
    refine ⟨_, rfl, rk, rfl, _, rfl, iteF ⟨_, rfl, D.now - 0, rfl, _, rfl, iteF ⟨_, rfl, _, rfl, t, _, _, _, rfl, rfl, .inl (.inl ht), rfl, rfl, _, rfl, iteE ⟨_, rfl, rfl, _, rfl, ?_⟩⟩⟩⟩
    rw [decide_eq_true (show V.int (D.now - (entC (nm, rk)).st.since) = V.int 0 by rw [now0]; rfl)]
    refine iteF ⟨_, rfl, d, dx, _, rfl, hd, rfl, _, rfl, t, _, _, _, rfl, rfl, .inl (.inl ht), rfl, d, S, D, nm, rfl, byN (c := entC (nm, rk)) sD hD8 hc ⟨rfl, q H8 k08⟩⟩
def sp_step (K : PySem.W.Frag) : Sp := fun vs H Q _ => ∃ (d a : Addr) (S : List Addr) (D : Dk) (l : List Ent) (n : Str) (r y : Int), vs = [.ref d, .ref a, .str n, .int r, .int y] ∧ DkAt K H S d D ∧ Sound D ∧ EnAt H a l ∧ D.line = l.map entC ∧ D.now = 0 ∧ TabG H (tabN K) ∧ Small n ∧ Mod r ∧ (0 ≤ y ∧ y < 8) ∧ (y < 6 → isName n = decide (0 < y)) ∧
  ∀ D' S' l' H', Keep (a :: S) H H' → Sub H S S' → DkAt K H' S' d D' → Sound D' → EnAt H' a l' → D'.line = l'.map entC → (D'.pace = D.pace ∧ D'.room = D.room ∧ D'.now = 0) → Q (.bl true) H'
theorem c__law_step (T : Tx K mg base) : Cal P w K mg base 5 "_law_step" (sp_step K) := by
  have c__law_due : Cal P w K mg base 1 "_law_due" (sp_due K) := c__law_due T
  have c__law_enters : Cal P w K mg base 4 "_law_enters" (sp_enters K) := c__law_enters T
  have c__law_unknown : Cal P w K mg base 4 "_law_unknown" (sp_unknown K) := c__law_unknown T
  have c_Desk_leave : Met P w K mg base 2 (He.ga K "Desk") "leave" (sp_leave K) := c_Desk_leave T
  obtain ⟨fd, F⟩ := T.d__law_step
  refine ⟨_, fd, ["_law_desk", "_law_line", "_law_name", "_law_rank", "_law_way"], okF (k := 4) F sc__law_step (fun vs H Q E h => ?_) (fun A outer s H vs Q E hr h => ?_), T.r__law_step, F.kp, F.bindsN fun _ _ _ _ _ _ us hl => match us, hl with | [_, _, _, _, _], _ => rfl⟩
  · obtain ⟨d, a, S, D, l, n, r, y, rfl, _⟩ := h
    rfl
  · have nd := sc__law_step.nd
    obtain ⟨d, a, S, D, l, n, r, y, rfl, hD, sD, hE, el, now0, hT, hn, mr, hy, hg0, q⟩ := h
    obtain ⟨ps, rfl, ha, hp⟩ := id hE
    have l60 : ps.length ≤ 60 := by have := sD.len60; rw [el, List.length_map, List.length_map] at this; exact this
    have enm : namesL D.line = namesE (ps.map (·.2)) := by rw [el, namesE_C]
    have fin : ∀ H', Keep [] H H' → Q (.bl true) H' := fun H' k => q D S _ H' k.any Sub.refl (hD.keep0 k) sD (hE.keep0 k) el ⟨rfl, rfl, now0⟩
    refine ⟨_, (pss_cons (ps_if (pt_cmpR op_eq (pv 4) pe_int (nomark _))
  (pss_cons (ps_if (pt_cmpR op_notIn_seq (pv 2) (pe_lc (own := [("_law_one", 6)]) (g := gName 6) (tt := tYes) rfl nd (pi_listK (K := K) rfl (pv 1)) (blkOk_by (N := N__law_step) (sc := defScope s__law_step) (by decide +kernel)) (fun _ _ _ _ _ => (pg_name (i := 6) nd rfl (Or.inl rfl))) (fun _ _ _ _ _ => pts_nil) (fun _ _ _ _ _ => (pe_ix (ix_tupK (K := K) rfl) (pv 6) pe_int (fun _ _ => rfl)))) rfl)
  (pss_one (ps_ret (pf c__law_unknown hr (by decide) (by rfl) p0 (pa_cons (pv 0) (pa_cons (pv 2) (pa_cons pe_int pa_nil))))))
  pss_nil)
  (pss_cons (ps_expr (pm c_Desk_leave hr (by decide) (pU (L2N.takes_of rfl rfl rfl rfl)) (pv 0) (pa_cons (pv 2) pa_nil)))
  (pss_cons (ps_expr (pe_bm PySem.F.plainAttrs_list PySem.F.slot_list_pop PySem.F.type_list_pop mt_popAt (pv 1) (pa_cons (pe_bm PySem.F.plainAttrs_list PySem.F.slot_list_index PySem.F.type_list_index mt_index (pe_lc (own := [("_law_one", 6)]) (g := gName 6) (tt := tYes) rfl nd (pi_listK (K := K) rfl (pv 1)) (blkOk_by (N := N__law_step) (sc := defScope s__law_step) (by decide +kernel)) (fun _ _ _ _ _ => (pg_name (i := 6) nd rfl (Or.inl rfl))) (fun _ _ _ _ _ => pts_nil) (fun _ _ _ _ _ => (pe_ix (ix_tupK (K := K) rfl) (pv 6) pe_int (fun _ _ => rfl)))) (pa_cons (pv 2) pa_nil)) pa_nil)))
  (pss_one (ps_ret pe_bl)))))
  pss_nil)
  (pss_cons (ps_if (pt_cmpR op_eq (pv 4) pe_int (nomark _))
  (pss_one (ps_ret (pe_or (pe_cmpR op_in_seq (pv 2) (pe_lc (own := [("_law_one", 6)]) (g := gName 6) (tt := tYes) rfl nd (pi_listK (K := K) rfl (pv 1)) (blkOk_by (N := N__law_step) (sc := defScope s__law_step) (by decide +kernel)) (fun _ _ _ _ _ => (pg_name (i := 6) nd rfl (Or.inl rfl))) (fun _ _ _ _ _ => pts_nil) (fun _ _ _ _ _ => (pe_ix (ix_tupK (K := K) rfl) (pv 6) pe_int (fun _ _ => rfl)))) rfl) (pe_one (pf c__law_unknown hr (by decide) (by rfl) p0 (pa_cons (pv 0) (pa_cons (pv 2) (pa_cons (pe_op op_mod (pv 3) pe_int) pa_nil))))))))
  pss_nil)
  (pss_cut (ps_set (i := 5) nd rfl (Or.inl rfl) (pf c__law_due hr (by decide) (by rfl) p0 (pa_cons (pv 1) (pa_cons (pe_fld (pv 0) rfl) (pa_cons (pv 2) (pa_cons (pv 3) (pa_cons (pe_cmpR op_gt (pv 4) pe_int (nomark _)) pa_nil)))))))
  (pss_cons (ps_if (pt_cmpR op_ne (pf c__law_enters hr (by decide) (by rfl) p0 (pa_cons (pv 0) (pa_cons (pv 2) (pa_cons (pv 3) pa_nil)))) (pv 5) (nomark _))
  (pss_one (ps_ret pe_bl))
  pss_nil)
  (pss_cut (ps_if (pt_cmpR op_eq (pv 5) pe_str (nomark _))
  (pss_one (ps_expr (pe_bm PySem.F.plainAttrs_list PySem.F.slot_list_append PySem.F.type_list_append mt_append (pv 1) (pa_cons (pe_tup (pa_cons (pv 2) (pa_cons (pv 3) pa_nil))) pa_nil))))
  pss_nil)
  (pss_one (ps_ret pe_bl))))))), ?_⟩
    refine ⟨_, rfl, rfl, _, rfl, ite2 (fun _ => ?_) (fun z6 => ⟨_, rfl, rfl, _, rfl, ite2 (fun _ => ?_) (fun z7 => ?_)⟩)⟩
    · refine ⟨_, rfl, _, rfl, a, rfl, ⟨_, .inl (.inl ha)⟩, fun g ng => ?_⟩
      refine lc_it (walk_list (K := K) (xs := ps.map fun p => V.ref p.1)) (Pv := fun i H' => Keep [] H H' ∧ H' g = some (.lst ((namesE ((ps.take i).map (·.2))).map V.str))) ⟨Keep.new ng, upd_same⟩ (fun i H' _ p => .inl (.inl (p.1.lst ha List.not_mem_nil))) ?_ ?_
      · rintro i v H8 H9 hi ⟨k8, hg8⟩ ⟨rfl, hv⟩
        rw [List.getElem?_map] at hv
        cases ep : ps[i]? with
        | none =>
          rw [ep] at hv
          cases hv
        | some p =>
          rw [ep] at hv
          obtain rfl : V.ref p.1 = v := Option.some.inj hv
          have ht := k8.tup (hp p (List.mem_of_getElem? ep)) List.not_mem_nil
          have hi' : i < ps.length := (List.getElem?_eq_some_iff.mp ep).1
          refine ⟨rfl, ?_⟩
          refine ⟨_, rfl, p.1, _, _, _, rfl, rfl, .inl (.inl ht), rfl, _, hg8, ?_, k8.set (.inl ng) hg8 nt_lst, ?_⟩
          · rw [List.length_map, namesE_len, List.length_map, List.length_take]
            exact small1000 (by omega)
          · rw [upd_same, namesE_take ep, List.map_append]
            rfl
      rintro H1 ⟨k1, hg⟩
      rw [List.length_map, List.take_of_length_le (Nat.le_refl _)] at hg
      refine ⟨g, _, rfl, .inl (.inl (.inl hg)), rfl, all_str _, _, rfl, ?_⟩
      rw [show (if true = true then !inV (V.str n) ((namesE (ps.map (·.2))).map V.str) else inV (V.str n) ((namesE (ps.map (·.2))).map V.str)) = decide (n ∉ namesE (ps.map (·.2))) by rw [if_pos rfl, inV_str]; simp]
      by_cases em : n ∈ namesE (ps.map (·.2))
      · rw [decide_eq_false (show ¬ n ∉ namesE (ps.map (·.2)) from fun z => z em)]
        obtain ⟨c, hc, en⟩ := List.mem_map.mp (show n ∈ namesL D.line by rw [enm]; exact em)
        subst en
        have hD1 := hD.keep0 k1
        obtain ⟨L, ln, eS, x⟩ := id hD1
        obtain ⟨dx, hd⟩ := id x.desk
        refine iteF ⟨_, rfl, d, dx, _, rfl, hd, rfl, _, rfl, d, S, D, c.name, rfl, byN sD hD1 hc fun H2 S2 k2 s2 hD2 => ?_⟩
        have ha2 := k2.lst (k1.lst ha List.not_mem_nil) (hD1.lst (k1.lst ha List.not_mem_nil))
        have hE2 := (hE.keep0 k1).keepD hD1 k2
        have hp2 : ∀ p ∈ ps, H2 p.1 = some (.tup [.str p.2.1, .int p.2.2]) := fun p h => k2.tup (k1.tup (hp p h) List.not_mem_nil) (hD1.tup (k1.tup (hp p h) List.not_mem_nil))
        obtain ⟨k, hk, ek⟩ := List.getElem_of_mem em
        have ekk : (namesE (ps.map (·.2)))[k]? = some c.name := by rw [List.getElem?_eq_getElem hk, ek]
        have hkl : k < ps.length := by rw [namesE_len, List.length_map] at hk; exact hk
        have ndE : (namesE (ps.map (·.2))).Nodup := by rw [← enm]; exact sD.nm
        refine ⟨_, rfl, .inl ⟨rfl, _, .inl (.inl ha2)⟩, _, rfl, a, rfl, ⟨_, .inl (.inl ha2)⟩, fun g2 ng2 => ?_⟩
        refine lc_it (walk_list (K := K) (xs := ps.map fun p => V.ref p.1)) (Pv := fun i H' => Keep [] H2 H' ∧ H' g2 = some (.lst ((namesE ((ps.take i).map (·.2))).map V.str))) ⟨Keep.new ng2, upd_same⟩ (fun i H' _ p => .inl (.inl (p.1.lst ha2 List.not_mem_nil))) ?_ ?_
        · rintro i v H8 H9 hi ⟨k8, hg8⟩ ⟨rfl, hv⟩
          rw [List.getElem?_map] at hv
          cases ep : ps[i]? with
          | none =>
            rw [ep] at hv
            cases hv
          | some p =>
            rw [ep] at hv
            obtain rfl : V.ref p.1 = v := Option.some.inj hv
            have ht := k8.tup (hp2 p (List.mem_of_getElem? ep)) List.not_mem_nil
            have hi' : i < ps.length := (List.getElem?_eq_some_iff.mp ep).1
            refine ⟨rfl, ?_⟩
            refine ⟨_, rfl, p.1, _, _, _, rfl, rfl, .inl (.inl ht), rfl, _, hg8, ?_, k8.set (.inl ng2) hg8 nt_lst, ?_⟩
            · rw [List.length_map, namesE_len, List.length_map, List.length_take]
              exact small1000 (by omega)
            · rw [upd_same, namesE_take ep, List.map_append]
              rfl
        rintro H3 ⟨k3, hg3⟩
        rw [List.length_map, List.take_of_length_le (Nat.le_refl _)] at hg3
        have ha3 := k3.lst ha2 List.not_mem_nil
        refine ⟨.inl ⟨rfl, _, .inl (.inl hg3)⟩, _, rfl, g2, _, .str c.name, k, .str c.name, rfl, rfl, .inl (.inl hg3), rfl, all_str _, map_at ekk, eqV_self _, idx_of ndE ekk, ?_⟩
        refine ⟨a, _, (k : Int), k, .ref ps[k].1, rfl, rfl, ha3, by omega, by omega, ?_, by rw [List.getElem?_map, List.getElem?_eq_getElem hkl]; rfl, ?_⟩
        · rw [List.length_map]
          exact (ixN_seq (Evl.ixN_nat hkl)).1
        have ke := Keep.upd (S := [a]) (o := .lst ((ps.map fun p => V.ref p.1).eraseIdx k)) ha3 (List.mem_singleton.mpr rfl) nt_lst
        have hD3 := hD2.keep0 k3
        have kk : Keep (a :: S) H H3 := ((k1.any.trans k2).trans k3.any).mono fun z hz => List.mem_cons_of_mem _ hz
        refine q (D.leave c.name) S2 ((ps.map (·.2)).eraseIdx k) _ (kk.trans (ke.mono fun z hz => by rw [List.mem_singleton.mp hz]; exact List.mem_cons_self)) (fun z hz => (s2 z hz).imp_right (k1.gone z)) (hD3.keep ke fun z hz y => by rw [List.mem_singleton.mp y] at hz; exact hD3.lst ha3 hz) ((Deed.leave D c hc).sound sD) ?_ ?_ ⟨rfl, rfl, now0⟩
        · refine ⟨ps.eraseIdx k, (erase_map _ _ _), by rw [upd_same, erase_map], fun p h => ?_⟩
          have h1 := k3.tup (hp2 p (List.mem_of_mem_eraseIdx h)) List.not_mem_nil
          exact (upd_ne fun z => by rw [z, ha3] at h1; cases h1).trans h1
        · show dropC c.name D.line = _
          rw [el]
          exact erase_drop ndE ekk
      · rw [decide_eq_true em]
        exact iteT ⟨_, rfl, _, rfl, d, S, D, n, 10, rfl, hn, k1.tab _ hT, hD.keep0 k1, by rw [enm]; exact em, fun H2 k2 => fin H2 (k1.trans k2)⟩
    · refine ⟨_, rfl, _, rfl, a, rfl, ⟨_, .inl (.inl ha)⟩, fun g ng => ?_⟩
      refine lc_it (walk_list (K := K) (xs := ps.map fun p => V.ref p.1)) (Pv := fun i H' => Keep [] H H' ∧ H' g = some (.lst ((namesE ((ps.take i).map (·.2))).map V.str))) ⟨Keep.new ng, upd_same⟩ (fun i H' _ p => .inl (.inl (p.1.lst ha List.not_mem_nil))) ?_ ?_
      · rintro i v H8 H9 hi ⟨k8, hg8⟩ ⟨rfl, hv⟩
        rw [List.getElem?_map] at hv
        cases ep : ps[i]? with
        | none =>
          rw [ep] at hv
          cases hv
        | some p =>
          rw [ep] at hv
          obtain rfl : V.ref p.1 = v := Option.some.inj hv
          have ht := k8.tup (hp p (List.mem_of_getElem? ep)) List.not_mem_nil
          have hi' : i < ps.length := (List.getElem?_eq_some_iff.mp ep).1
          refine ⟨rfl, ?_⟩
          refine ⟨_, rfl, p.1, _, _, _, rfl, rfl, .inl (.inl ht), rfl, _, hg8, ?_, k8.set (.inl ng) hg8 nt_lst, ?_⟩
          · rw [List.length_map, namesE_len, List.length_map, List.length_take]
            exact small1000 (by omega)
          · rw [upd_same, namesE_take ep, List.map_append]
            rfl
      rintro H1 ⟨k1, hg⟩
      rw [List.length_map, List.take_of_length_le (Nat.le_refl _)] at hg
      refine ⟨g, _, rfl, .inl (.inl (.inl hg)), rfl, all_str _, _, rfl, ?_⟩
      rw [inV_str]
      by_cases em : n ∈ namesE (ps.map (·.2))
      · rw [decide_eq_true em]
        exact iteT (fin H1 k1)
      · rw [decide_eq_false em]
        exact iteF ⟨_, rfl, _, rfl, _, rfl, _, _, rfl, rfl, (show (0 : Int) < 10 by decide), d, S, D, n, _, rfl, hn, k1.tab _ hT, hD.keep0 k1, by rw [enm]; exact em, fun H2 k2 => fin H2 (k1.trans k2)⟩
    · obtain ⟨L, ln, eS, x⟩ := id hD
      obtain ⟨dx, hd⟩ := id x.desk
      refine ⟨fun σ' H' => Keep [] H H' ∧ ∃ w, w = dueW (ps.map (·.2)) D.room n r (decide (0 < y)) ∧ σ' = [some (.ref d), some (.ref a), some (.str n), some (.int r), some (.int y), some (.str w), none], ?_, ?_⟩
      · exact ⟨_, rfl, _, rfl, d, _, _, _, _, rfl, hd, T.cl_Desk, T.na_Desk_room, rfl, _, rfl, _, rfl, _, rfl, _, _, rfl, rfl, a, _, D.room, n, r, decide (0 < y), rfl, hE, by rw [List.length_map]; exact l60, fun H1 k1 => ⟨k1, _, rfl, rfl⟩⟩
      rintro σ' H1 ⟨k1, w, hw, rfl⟩
      have hD1 := hD.keep0 k1
      have el2 : D.line.length = (ps.map (·.2)).length := by rw [el, List.length_map]
      have hgood : isName n = decide (0 < y) := hg0 (by
        have n6 : y ≠ 6 := fun z => z6 (decide_eq_true (by rw [z]))
        have n7 : y ≠ 7 := fun z => z7 (decide_eq_true (by rw [z]))
        omega)
      refine ⟨_, rfl, _, rfl, _, rfl, d, S, D, n, r, rfl, hn, mr, k1.tab _ hT, hD1, sD, fun e H2 k2 => ?_, fun e e2 H2 k2 => ?_, fun e e2 e3 H2 k2 => ?_, fun e e2 e3 e4 H2 k2 => ?_, fun e e2 e3 e4 H2 S2 k2 s2 hD2 => ?_⟩
      · have : w = "name" := by
          rw [hw]
          unfold dueW
          rw [if_pos (by rw [← hgood, e])]
        subst this
        exact ⟨_, rfl, rfl, _, rfl, iteF ⟨fun σ' H' => Q (.bl true) H', ⟨_, rfl, rfl, _, rfl, iteF (fin H2 (k1.trans k2))⟩, fun σ' H' h => h⟩⟩
      · have : w = "rank" := by
          rw [hw]
          unfold dueW
          rw [if_neg (by rw [← hgood, e]; simp), if_pos e2]
        subst this
        exact ⟨_, rfl, rfl, _, rfl, iteF ⟨fun σ' H' => Q (.bl true) H', ⟨_, rfl, rfl, _, rfl, iteF (fin H2 (k1.trans k2))⟩, fun σ' H' h => h⟩⟩
      · have : w = "known" := by
          rw [hw]
          unfold dueW
          rw [if_neg (by rw [← hgood, e]; simp), if_neg (fun z => z e2), if_pos (by rw [← enm]; exact e3)]
        subst this
        exact ⟨_, rfl, rfl, _, rfl, iteF ⟨fun σ' H' => Q (.bl true) H', ⟨_, rfl, rfl, _, rfl, iteF (fin H2 (k1.trans k2))⟩, fun σ' H' h => h⟩⟩
      · have : w = "full" := by
          rw [hw]
          unfold dueW
          rw [if_neg (by rw [← hgood, e]; simp), if_neg (fun z => z e2), if_neg (by rw [← enm]; exact e3), if_pos (by rw [← el2]; exact e4)]
        subst this
        exact ⟨_, rfl, rfl, _, rfl, iteF ⟨fun σ' H' => Q (.bl true) H', ⟨_, rfl, rfl, _, rfl, iteF (fin H2 (k1.trans k2))⟩, fun σ' H' h => h⟩⟩
      · have : w = "" := by
          rw [hw]
          unfold dueW
          rw [if_neg (by rw [← hgood, e]; simp), if_neg (fun z => z e2), if_neg (by rw [← enm]; exact e3), if_neg (by rw [← el2]; exact e4)]
        subst this
        have hE1 := hE.keep0 k1
        have hE2 := hE1.keepD hD1 k2
        obtain ⟨qs, eqs, ha2, hq2⟩ := id hE2
        have lqs : qs.length ≤ 60 := by
          have := congrArg List.length eqs
          rw [List.length_map, List.length_map] at this
          omega
        refine ⟨_, rfl, rfl, _, rfl, iteF ⟨fun σ' H' => Q (.bl true) H', ⟨_, rfl, rfl, _, rfl, iteT ?_⟩, fun σ' H' h => h⟩⟩
        refine ⟨_, rfl, .inl ⟨rfl, _, .inl (.inl ha2)⟩, _, rfl, _, rfl, (show 2 ≤ sizeLine by decide), fun t nt => ?_⟩
        have kt : Keep [] H2 (L2.upd H2 t (.tup [.str n, .int r])) := Keep.new nt
        have ha3 := kt.lst ha2 List.not_mem_nil
        have ht3 : (L2.upd H2 t (.tup [.str n, .int r])) t = some (.tup [.str n, .int r]) := upd_same
        have hD3 := hD2.keep0 kt
        have ta : t ≠ a := (ne_of_none ha2 nt).symm
        refine ⟨a, _, _, rfl, rfl, ha3, by rw [List.length_map]; exact small1000 (by omega), ?_⟩
        have ke := Keep.upd (S := [a]) (o := .lst ((qs.map fun p => V.ref p.1) ++ [.ref t])) ha3 (List.mem_singleton.mpr rfl) nt_lst
        have kk := ((k1.any.trans k2).trans kt.any).mono (S' := a :: S) fun z hz => List.mem_cons_of_mem _ hz
        have dd : Deed D (D.enter n r) := .enter D n r e e2 e3 (by omega)
        refine q (D.enter n r) S2 (ps.map (·.2) ++ [(n, r)]) _ (kk.trans (ke.mono fun z hz => by rw [List.mem_singleton.mp hz]; exact List.mem_cons_self)) (fun z hz => (s2 z hz).imp_right (k1.gone z)) (hD3.keep ke fun z hz y => by rw [List.mem_singleton.mp y] at hz; exact hD3.lst ha3 hz) (dd.sound sD) ?_ ?_ ⟨rfl, rfl, now0⟩
        · refine ⟨qs ++ [(t, (n, r))], by rw [List.map_append, eqs]; rfl, by rw [upd_same, List.map_append]; rfl, fun p h => ?_⟩
          rcases List.mem_append.mp h with h1 | h1
          · have h2 := kt.tup (hq2 p h1) List.not_mem_nil
            exact (upd_ne fun z => by rw [z, ha3] at h2; cases h2).trans h2
          · rw [List.mem_singleton.mp h1]
            exact (upd_ne ta).trans ht3
        · show D.line ++ [⟨n, r, .rdy D.now⟩] = _
          rw [el, now0, List.map_append]
          rfl
/-- the seven ranks -/
theorem rank7 (c : Int) : ∃ r : Int, Mod r ∧ atI [V.int (mix c 10037 100), V.int 0, V.int 99, V.int 42, V.int 100, V.int (-1), V.int 1000000000000] (mix c 10039 7) = some (.int r) := by
  have h := mix_nn (c := c) (p := 10039) (m := 7) (by decide)
  have h2 := mix_nn (c := c) (p := 10037) (m := 100) (by decide)
  have h3 : mix c 10039 7 = 0 ∨ mix c 10039 7 = 1 ∨ mix c 10039 7 = 2 ∨ mix c 10039 7 = 3 ∨ mix c 10039 7 = 4 ∨ mix c 10039 7 = 5 ∨ mix c 10039 7 = 6 := by omega
  rcases h3 with e | e | e | e | e | e | e
  · exact ⟨mix c 10037 100, ⟨by omega, by omega⟩, by rw [e]; rfl⟩
  · exact ⟨0, ⟨by decide, by decide⟩, by rw [e]; rfl⟩
  · exact ⟨99, ⟨by decide, by decide⟩, by rw [e]; rfl⟩
  · exact ⟨42, ⟨by decide, by decide⟩, by rw [e]; rfl⟩
  · exact ⟨100, ⟨by decide, by decide⟩, by rw [e]; rfl⟩
  · exact ⟨-1, ⟨by decide, by decide⟩, by rw [e]; rfl⟩
  · exact ⟨1000000000000, ⟨by decide, by decide⟩, by rw [e]; rfl⟩
theorem odd6 (c : Int) {b : Str} (hb : isName b = true) : ∃ o : Str, Small o ∧ isName o = false ∧ atI [V.str "", V.str "A", V.str "a b", V.str "a_", V.str (b ++ "-"), V.str "abcdefghijklm"] (mix c 10067 6) = some (.str o) := by
  have h := mix_nn (c := c) (p := 10067) (m := 6) (by decide)
  have h3 : mix c 10067 6 = 0 ∨ mix c 10067 6 = 1 ∨ mix c 10067 6 = 2 ∨ mix c 10067 6 = 3 ∨ mix c 10067 6 = 4 ∨ mix c 10067 6 = 5 := by omega
  rcases h3 with e | e | e | e | e | e
  · exact ⟨"", empty_small, empty_noname, by rw [e]; rfl⟩
  · exact ⟨"A", ⟨by decide +kernel, by decide +kernel⟩, by decide +kernel, by rw [e]; rfl⟩
  · exact ⟨"a b", ⟨by decide +kernel, by decide +kernel⟩, by decide +kernel, by rw [e]; rfl⟩
  · exact ⟨"a_", ⟨by decide +kernel, by decide +kernel⟩, by decide +kernel, by rw [e]; rfl⟩
  · exact ⟨b ++ "-", dash_small hb, dash_no, by rw [e]; rfl⟩
  · exact ⟨"abcdefghijklm", ⟨by decide +kernel, by decide +kernel⟩, by decide +kernel, by rw [e]; rfl⟩
theorem ok_law (T : Tx K mg base) {fd : FuncData} (F : FunD K "law" "law" (defArgs s_law) (defBody s_law) (defScope s_law) [] [] (He.fAd K ("law", none)) fd) : FnOk P w K mg base (L2N.CX P w) 8 (He.ga K "law") fd ["_law_script"] (sp_law K) := by
  have c__law_cell_at : Cal P w K mg base 1 "_law_cell_at" (sp_cell K) := c__law_cell_at T
  have c__law_mix : Cal P w K mg base 1 "_law_mix" sp_mix := c__law_mix T
  have c__law_name_by : Cal P w K mg base 2 "_law_name_by" (sp_name_by K) := c__law_name_by T
  have c__law_no_desk : Cal P w K mg base 3 "_law_no_desk" (sp_no_desk K) := c__law_no_desk T
  have c__law_step : Cal P w K mg base 5 "_law_step" (sp_step K) := c__law_step T
  have c__law_stands : Cal P w K mg base 3 "_law_stands" (sp_lstands K) := c__law_stands T
  have c_Desk : Mak P w K mg base 1 "Desk" (He.ga K "Desk") (sp_Desk K) := c_Desk T
  have c_Desk_enter : Met P w K mg base 3 (He.ga K "Desk") "enter" (sp_enter K) := c_Desk_enter T
  refine okF (k := 7) (at_ := ("law", none)) F sc_law (fun vs H Q E h => ?_) (fun A outer s0 H vs Q E hr h => ?_)
  · obtain ⟨a, ns, rfl, _⟩ := h
    rfl
  · have nd := sc_law.nd
    obtain ⟨a, ns, rfl, hS, hlen, hT, q⟩ := h
    refine ⟨_, (pss_cons (ps_set (i := 1) nd rfl (Or.inl rfl) (pf c__law_cell_at hr (by decide) (by rfl) p0 (pa_cons (pv 0) (pa_cons pe_int pa_nil))))
  (pss_cons (ps_set (i := 2) nd rfl (Or.inl rfl) (pe_ix ix_list (pe_lst (pa_cons (pe_op op_add pe_int (pe_op op_mod (pv 1) pe_int)) (pa_cons (pe_op op_add pe_int (pe_op op_mod (pe_op op_fdiv (pv 1) pe_int) pe_int)) pa_nil))) (pe_op op_mod (pf c__law_cell_at hr (by decide) (by rfl) p0 (pa_cons (pv 0) (pa_cons pe_int pa_nil))) pe_int) (fun _ _ => rfl)))
  (pss_cons (ps_set (i := 3) nd rfl (Or.inl rfl) (pe_op op_add pe_int (pe_op op_mod (pe_op op_fdiv (pf c__law_cell_at hr (by decide) (by rfl) p0 (pa_cons (pv 0) (pa_cons pe_int pa_nil))) pe_int) pe_int)))
  (pss_cons (ps_set (i := 4) nd rfl (Or.inl rfl) (pc c_Desk hr (by decide) (by rfl) (L2N.passes_call (L2N.takes_of rfl rfl rfl rfl) fun _ _ _ _ h => h) (pa_cons (pv 3) (pa_cons (pv 2) pa_nil))))
  (pss_cons (ps_set (i := 5) nd rfl (Or.inl rfl) (pe_lst pa_nil))
  (pss_cons (ps_for (passes_of rfl) rfl (pi_range1 (by rfl) T.m_range (pa_cons (pe_op op_mod (pf c__law_cell_at hr (by decide) (by rfl) p0 (pa_cons (pv 0) (pa_cons pe_int pa_nil))) (pe_op op_add (pv 2) pe_int)) pa_nil)) (pg_name (i := 6) nd rfl (Or.inl rfl))
  (pss_cons (ps_expr (pe_bm PySem.F.plainAttrs_list PySem.F.slot_list_append PySem.F.type_list_append mt_append (pv 5) (pa_cons (pe_tup (pa_cons (pf c__law_name_by hr (by decide) (by rfl) p0 (pa_cons (pv 6) (pa_cons (pv 1) pa_nil))) (pa_cons (pe_op op_mod (pe_op op_add (pv 1) (pe_op op_mul pe_int (pv 6))) pe_int) pa_nil))) pa_nil)))
  (pss_one (ps_expr (pm c_Desk_enter hr (by decide) (pU (L2N.takes_of rfl rfl rfl rfl)) (pv 4) (pa_cons (pe_ix ix_tup (pe_ix ix_list (pv 5) (pv 6) (fun _ _ => rfl)) pe_int (fun _ _ => rfl)) (pa_cons (pe_ix ix_tup (pe_ix ix_list (pv 5) (pv 6) (fun _ _ => rfl)) pe_int (fun _ _ => rfl)) pa_nil)))))))
  (pss_cons (ps_for (passes_of rfl) rfl (pi_list (pe_slice sl_list (pv 0) (po_some pe_int) po_none)) (pg_name (i := 7) nd rfl (Or.inl rfl))
  (pss_cons (ps_set (i := 8) nd rfl (Or.inl rfl) (pf c__law_name_by hr (by decide) (by rfl) p0 (pa_cons (pf c__law_mix hr (by decide) (by rfl) p0 (pa_cons (pv 7) (pa_cons pe_int (pa_cons pe_int pa_nil)))) (pa_cons (pv 1) pa_nil))))
  (pss_cut (ps_if (pt_cmpR op_eq (pf c__law_mix hr (by decide) (by rfl) p0 (pa_cons (pv 7) (pa_cons pe_int (pa_cons pe_int pa_nil)))) pe_int (nomark _))
  (pss_one (ps_set (i := 8) nd rfl (Or.inl rfl) (pe_slice sl_str (pv 8) (po_some (pe_un un_neg pe_int)) po_none)))
  pss_nil)
  (pss_cons (ps_set (i := 9) nd rfl (Or.inl rfl) (pe_ix ix_list (pe_lst (pa_cons (pf c__law_mix hr (by decide) (by rfl) p0 (pa_cons (pv 7) (pa_cons pe_int (pa_cons pe_int pa_nil)))) (pa_cons pe_int (pa_cons pe_int (pa_cons pe_int (pa_cons pe_int (pa_cons (pe_un un_neg pe_int) (pa_cons (pe_op op_pow pe_int pe_int) pa_nil)))))))) (pf c__law_mix hr (by decide) (by rfl) p0 (pa_cons (pv 7) (pa_cons pe_int (pa_cons pe_int pa_nil)))) (fun _ _ => rfl)))
  (pss_cons (ps_set (i := 10) nd rfl (Or.inl rfl) (pf c__law_mix hr (by decide) (by rfl) p0 (pa_cons (pv 7) (pa_cons pe_int (pa_cons pe_int pa_nil)))))
  (pss_cut (ps_if (PW.pt (pw_or (pt_cmpR op_eq (pv 10) pe_int (nomark _)) (pw_or1 (PW.pt (pw_and (pt_cmpR op_gt (pv 10) pe_int (nomark _)) (pw_and1 (pt_cmpR op_eq (pf c__law_mix hr (by decide) (by rfl) p0 (pa_cons (pv 7) (pa_cons pe_int (pa_cons pe_int pa_nil)))) pe_int (nomark _))))))))
  (pss_one (ps_set (i := 8) nd rfl (Or.inl rfl) (pe_ix ix_list (pe_lst (pa_cons pe_str (pa_cons pe_str (pa_cons pe_str (pa_cons pe_str (pa_cons (pe_op op_add_str (pv 8) pe_str) (pa_cons pe_str pa_nil))))))) (pf c__law_mix hr (by decide) (by rfl) p0 (pa_cons (pv 7) (pa_cons pe_int (pa_cons pe_int pa_nil)))) (fun _ _ => rfl))))
  pss_nil)
  (pss_one (ps_if (PW.pt (pw_or (pt_not (pt_val (pf c__law_step hr (by decide) (by rfl) p0 (pa_cons (pv 4) (pa_cons (pv 5) (pa_cons (pv 8) (pa_cons (pv 9) (pa_cons (pv 10) pa_nil)))))))) (pw_or1 (pt_not (pt_val (pf c__law_stands hr (by decide) (by rfl) p0 (pa_cons (pv 4) (pa_cons (pv 5) (pa_cons (pv 3) (pa_cons (pv 2) (pa_cons (pv 7) pa_nil)))))))))))
  (pss_one (ps_ret pe_bl))
  pss_nil))))))))
  (pss_cons (ps_if (PW.pt (pw_or (pt_cmpR op_ne (pe_fld (pc c_Desk hr (by decide) (by rfl) (L2N.passes_call (L2N.takes_of rfl rfl rfl rfl) fun _ _ _ _ h => h) (pa_cons pe_int (pa_cons pe_int pa_nil))) rfl) pe_int (nomark _)) (pw_or1 (pt_cmpR op_ne (pe_fld (pc c_Desk hr (by decide) (by rfl) (L2N.passes_call (L2N.takes_of rfl rfl rfl rfl) fun _ _ _ _ h => h) (pa_cons pe_int (pa_cons pe_int pa_nil))) rfl) pe_int (nomark _)))))
  (pss_one (ps_ret pe_bl))
  pss_nil)
  (pss_one (ps_ret (pf c__law_no_desk hr (by decide) (by rfl) p0 (pa_cons (pe_op op_mod (pv 1) pe_int) (pa_cons (pe_op op_mod (pe_op op_fdiv (pv 1) pe_int) (pe_op op_pow pe_int pe_int)) pa_nil))))))))))))), ?_⟩
    refine ⟨_, rfl, a, ns, 0, rfl, hS, by decide, ?_⟩
    generalize hsh : cell ns 0 = sh
    obtain ⟨m, hm, em⟩ : ∃ m : Int, (1 ≤ m ∧ m ≤ 60) ∧ atI [V.int (1 + sh % 4), V.int (1 + sh / 4 % 60)] (cell ns 1 % 2) = some (.int m) := by
      have h2 : cell ns 1 % 2 = 0 ∨ cell ns 1 % 2 = 1 := by omega
      rcases h2 with e | e
      · exact ⟨1 + sh % 4, by omega, by rw [e]; rfl⟩
      · exact ⟨1 + sh / 4 % 60, by omega, by rw [e]; rfl⟩
    refine ⟨_, rfl, _, _, rfl, rfl, (show (0 : Int) < 4 by decide), _, _, rfl, rfl, _, rfl, _, _, rfl, rfl, ⟨by decide, by decide⟩, _, _, rfl, rfl, (show (0 : Int) < 60 by decide), _, _, rfl, rfl, (show 2 ≤ sizeLine by decide), fun g0 n0 => ?_⟩
    have k0 : Keep [] H (L2.upd H g0 (.lst [V.int (1 + sh % 4), V.int (1 + sh / 4 % 60)])) := Keep.new n0
    refine ⟨_, rfl, a, ns, 1, rfl, k0.seq hS (fun _ _ => List.not_mem_nil), by decide, _, _, rfl, rfl, (show (0 : Int) < 2 by decide), g0, _, _, .int m, rfl, rfl, .inl (.inl upd_same), em, ?_⟩
    refine ⟨_, rfl, a, ns, 1, rfl, k0.seq hS (fun _ _ => List.not_mem_nil), by decide, _, _, rfl, rfl, ⟨by decide, by decide⟩, _, _, rfl, rfl, (show (0 : Int) < 1000 by decide), _, _, rfl, rfl, ?_⟩
    have hpc : 1 ≤ 1 + cell ns 1 / 2 % 1000 ∧ 1 + cell ns 1 / 2 % 1000 ≤ 1000 := by omega
    refine ⟨_, rfl, _, rfl, ?_⟩
    intro d dx0 nx0 ndx0 ne0
    refine made_desk (p := 1 + cell ns 1 / 2 % 1000) (r := m) ⟨hpc, hm⟩ (fun S3 H3 k3 hD3 f3 => ⟨rfl, ?_⟩) nx0 ndx0 ne0
    have k03 := (k0.trans k3)
    have f3 : ∀ z ∈ S3, H z = none := fun z hz => k0.gone z (f3 z hz)
    refine ⟨(show 0 ≤ sizeLine by decide), fun b nb => ?_⟩
    have kb0 : Keep [] H3 (L2.upd H3 b (.lst [])) := Keep.new nb
    have k04 := k03.trans kb0
    have nb0 : H b = none := k03.gone b nb
    have hm2 : 0 ≤ cell ns 2 % (m + 1) ∧ cell ns 2 % (m + 1) < m + 1 := ⟨Int.emod_nonneg _ (by omega), Int.emod_lt_of_pos _ (by omega)⟩
    refine ⟨_, rfl, a, ns, 2, rfl, k04.seq hS (fun _ _ => List.not_mem_nil), by decide, _, rfl, _, _, rfl, rfl, _, _, rfl, rfl, (show (0 : Int) < m + 1 by omega), cell ns 2 % (m + 1), rfl, by omega, by omega, ?_⟩
    refine for_it walk_range (fun i σ H' => ∃ v6 S' D' l, σ = [some (.ref a), some (.int sh), some (.int m), some (.int (1 + cell ns 1 / 2 % 1000)), some (.ref d), some (.ref b), v6, none, none, none, none] ∧ Keep [] H H' ∧ (∀ z ∈ S', H z = none) ∧ DkAt K H' S' d D' ∧ Sound D' ∧ EnAt H' b l ∧ D'.line = l.map entC ∧ (D'.pace = (1 + cell ns 1 / 2 % 1000) ∧ D'.room = m ∧ D'.now = 0) ∧ namesE l = namesOf sh i)
      ⟨none, S3, _, [], rfl, k04, f3, hD3.keep0 kb0, ⟨⟨hpc, hm⟩, (show (0 : Int) ≤ 0 by decide), by show (([] : List Cr).length : Int) ≤ m; simp; omega, List.nodup_nil, fun c h => (nomatch h), fun c h => (nomatch h), fun c h => (nomatch h)⟩, ⟨[], rfl, upd_same, fun p h => (nomatch h)⟩, rfl, ⟨rfl, rfl, rfl⟩, rfl⟩ (fun _ _ _ _ _ => trivial) ?_ ?_
    · rintro i v σ H4 H5 hi ⟨v6, S1, D1, l, rfl, k1, f1, hD1, sD1, hE1, el1, ⟨ep1, er1, e01⟩, en1⟩ ⟨rfl, rfl⟩
      have hi' : i < (cell ns 2 % (m + 1)).toNat := hi
      obtain ⟨qs, eqs, hb1, hq1⟩ := id hE1
      have lq : qs.length = i := by
        have := congrArg List.length en1
        rw [namesE_len, namesOf_len, eqs, List.length_map] at this
        exact this
      have nmi := name_ok (k := 0 + (i : Int)) (c := sh) (by omega) (by omega)
      have r9 : 0 ≤ (sh + 7 * (0 + (i : Int))) % 100 ∧ (sh + 7 * (0 + (i : Int))) % 100 ≤ 99 := by omega
      refine ⟨_, rfl, .inl ⟨rfl, _, .inl (.inl hb1)⟩, _, rfl, _, rfl, _, sh, rfl, by omega, by omega, fun H6 k6 => ?_⟩
      have hb6 := k6.lst hb1 List.not_mem_nil
      refine ⟨_, rfl, _, rfl, _, _, rfl, rfl, .inl ⟨by decide, by decide⟩, _, _, rfl, rfl, _, _, rfl, rfl, (show (0 : Int) < 100 by decide), (show 2 ≤ sizeLine by decide), fun t nt => ?_⟩
      have kt : Keep [] H6 (L2.upd H6 t (.tup [.str (nameBy (0 + (i : Int)) sh), .int ((sh + 7 * (0 + (i : Int))) % 100)])) := Keep.new nt
      have hb7 := kt.lst hb6 List.not_mem_nil
      have ht7 : (L2.upd H6 t (.tup [.str (nameBy (0 + (i : Int)) sh), .int ((sh + 7 * (0 + (i : Int))) % 100)])) t = some (.tup [.str (nameBy (0 + (i : Int)) sh), .int ((sh + 7 * (0 + (i : Int))) % 100)]) := upd_same
      have tb : t ≠ b := (ne_of_none hb6 nt).symm
      refine ⟨b, _, _, rfl, rfl, hb7, by rw [List.length_map, lq]; exact small1000 (by omega), ?_⟩
      have ke := Keep.upd (S := [b]) (o := .lst ((qs.map fun p => V.ref p.1) ++ [.ref t])) hb7 (List.mem_singleton.mpr rfl) nt_lst
      have k8 := ((k1.trans k6).trans kt).trans' ke fun z hz => .inr (by rw [List.mem_singleton.mp hz]; exact nb0)
      have hD8 := (hD1.keep0 (k6.trans kt)).keep ke fun z hz y => by
        rw [List.mem_singleton.mp y] at hz
        exact (hD1.keep0 (k6.trans kt)).lst hb7 hz
      have hE8 : EnAt (L2.upd (L2.upd H6 t (.tup [.str (nameBy (0 + (i : Int)) sh), .int ((sh + 7 * (0 + (i : Int))) % 100)])) b (.lst ((qs.map fun p => V.ref p.1) ++ [.ref t]))) b (l ++ [(nameBy (0 + (i : Int)) sh, (sh + 7 * (0 + (i : Int))) % 100)]) := by
        refine ⟨qs ++ [(t, (nameBy (0 + (i : Int)) sh, (sh + 7 * (0 + (i : Int))) % 100))], by rw [List.map_append, eqs]; rfl, by rw [upd_same, List.map_append]; rfl, fun p h => ?_⟩
        rcases List.mem_append.mp h with h1 | h1
        · have h2 := (k6.trans kt).tup (hq1 p h1) List.not_mem_nil
          exact (upd_ne fun z => by rw [z, hb7] at h2; cases h2).trans h2
        · rw [List.mem_singleton.mp h1]
          exact (upd_ne tb).trans ht7
      have hb8 : (L2.upd (L2.upd H6 t (.tup [.str (nameBy (0 + (i : Int)) sh), .int ((sh + 7 * (0 + (i : Int))) % 100)])) b (.lst ((qs.map fun p => V.ref p.1) ++ [.ref t]))) b = some (.lst ((qs.map fun p => V.ref p.1) ++ [.ref t])) := upd_same
      have ht8 : (L2.upd (L2.upd H6 t (.tup [.str (nameBy (0 + (i : Int)) sh), .int ((sh + 7 * (0 + (i : Int))) % 100)])) b (.lst ((qs.map fun p => V.ref p.1) ++ [.ref t]))) t = some (.tup [.str (nameBy (0 + (i : Int)) sh), .int ((sh + 7 * (0 + (i : Int))) % 100)]) := (upd_ne tb).trans ht7
      have hat : atI ((qs.map fun p => V.ref p.1) ++ [V.ref t]) (0 + (i : Int)) = some (.ref t) := by
        rw [Int.zero_add]
        exact atI_nat (by rw [List.getElem?_append_right (by rw [List.length_map, lq]; exact Nat.le_refl _), List.length_map, lq, Nat.sub_self]; rfl)
      obtain ⟨L, ln, eS, x⟩ := id hD8
      obtain ⟨dx, hd⟩ := id x.desk
      have new : nameBy (0 + (i : Int)) sh ∉ namesL D1.line := by
        rw [el1, namesE_C, en1]
        exact namesOf_new (by omega)
      have li : D1.line.length = i := by rw [el1, List.length_map, eqs, List.length_map, lq]
      refine ⟨_, rfl, d, dx, _, rfl, hd, rfl, _, rfl, _, rfl, b, _, _, .ref t, rfl, rfl, .inl (.inl hb8), hat, t, _, _, _, rfl, rfl, .inl (.inl ht8), rfl, _, rfl, _, rfl, b, _, _, .ref t, rfl, rfl, .inl (.inl hb8), hat, t, _, _, _, rfl, rfl, .inl (.inl ht8), rfl, ?_⟩
      refine ⟨d, S1, D1, _, _, rfl, isName_small nmi, ⟨by omega, by omega⟩, k8.tab _ hT, hD8, by omega, by omega, fun H9 => ⟨fun _ z => absurd nmi (by rw [z]; decide), fun _ _ z => absurd r9 z, fun _ _ _ z => absurd z new, fun _ _ _ _ z => absurd z (by omega), fun _ _ _ _ S9 k9 s9 hD9 => ?_⟩⟩
      have dd : Deed D1 (D1.enter (nameBy (0 + (i : Int)) sh) ((sh + 7 * (0 + (i : Int))) % 100)) := .enter D1 _ _ nmi r9 new (by omega)
      refine ⟨_, S9, _, l ++ [(nameBy (0 + (i : Int)) sh, (sh + 7 * (0 + (i : Int))) % 100)], rfl, seqA k8 f1 k9, subA k8 f1 s9, hD9, dd.sound sD1, hE8.keepD hD8 k9, ?_, ⟨ep1, er1, e01⟩, ?_⟩
      · show D1.line ++ [⟨_, _, .rdy D1.now⟩] = _
        rw [el1, e01, List.map_append]
        rfl
      · rw [namesOf_succ, ← en1]
        unfold namesE
        rw [List.map_append]
        rfl
    rintro σ H4 ⟨v6, S1, D1, l1, rfl, k1, f1, hD1, sD1, hE1, el1, e1, en1⟩
    -- the cells
    refine ⟨_, rfl, _, rfl, a, _, rfl, k1.seq hS (fun _ _ => List.not_mem_nil), fun u nu => ⟨u, rfl, ⟨_, .inl (.inl upd_same)⟩, ?_⟩⟩
    have ku : Keep [] H4 (L2.upd H4 u (.lst (cutV (ns.map V.int) (some 3) none))) := Keep.new nu
    obtain ⟨qs1, _, hb1, _⟩ := id hE1
    have ub : u ≠ b := (ne_of_none hb1 nu).symm
    refine for_it (walk_list (xs := cutV (ns.map V.int) (some 3) none)) (fun i σ H' => ∃ v6 v7 v8 v9 v10 S' D' l, σ = [some (.ref a), some (.int sh), some (.int m), some (.int (1 + cell ns 1 / 2 % 1000)), some (.ref d), some (.ref b), v6, v7, v8, v9, v10] ∧ Keep [] H H' ∧ (∀ z ∈ S', H z = none) ∧ DkAt K H' S' d D' ∧ Sound D' ∧ EnAt H' b l ∧ D'.line = l.map entC ∧ (D'.pace = (1 + cell ns 1 / 2 % 1000) ∧ D'.room = m ∧ D'.now = 0) ∧ H' u = some (.lst (cutV (ns.map V.int) (some 3) none)))
      ⟨v6, none, none, none, none, S1, D1, l1, rfl, k1.trans ku, f1, hD1.keep0 ku, sD1, hE1.keep0 ku, el1, e1, upd_same⟩ ?_ ?_ ?_
    · rintro i σ H' _ ⟨v6, v7, v8, v9, v10, S', D', l, rfl, _, _, _, _, _, _, _, h⟩
      exact .inl (.inl h)
    · rintro i v σ H5 H6 hi ⟨v6, v7, v8, v9, v10, S2, D2, l2, rfl, k2, f2, hD2, sD2, hE2, el2, e2, hu2⟩ ⟨rfl, hv⟩
      obtain ⟨c, rfl⟩ := cut_int hv
      have hk := mix_nn (c := c) (p := 10009) (m := 70) (by decide)
      refine ⟨_, rfl, c, 10009, 70, rfl, by decide, by decide, _, rfl, _, sh, rfl, hk.1, by omega, fun H7 k7 => ?_⟩
      have nm7 := name_ok (k := mix c 10009 70) (c := sh) hk.1 (by omega)
      generalize nameBy (mix c 10009 70) sh = n7 at nm7 ⊢
      refine ⟨fun σ' H' => H7 = H' ∧ ∃ n, isName n = true ∧ σ' = [some (.ref a), some (.int sh), some (.int m), some (.int (1 + cell ns 1 / 2 % 1000)), some (.ref d), some (.ref b), v6, some (.int c), some (.str n), v9, v10], ?_, ?_⟩
      · exact ⟨_, rfl, c, 10091, 9, rfl, by decide, by decide, rfl, _, rfl, ite2 (fun _ => ⟨_, rfl, 1, rfl, _, rfl, _, rfl, (isName_small nm7).line, rfl, _, cut_name nm7, rfl⟩) (fun _ => ⟨rfl, n7, nm7, rfl⟩)⟩
      rintro σ' _ ⟨rfl, n, nmn, rfl⟩
      obtain ⟨rk, mrk, erk⟩ := rank7 c
      have e12 : (10 : Int) ^ (12 : Int).toNat = 1000000000000 := by decide +kernel
      refine ⟨_, rfl, c, 10037, 100, rfl, by decide, by decide, 1, rfl, 10, 12, rfl, rfl, ⟨by decide, by decide, by decide +kernel⟩, (show 7 ≤ sizeLine by decide), fun g ng => ?_⟩
      have kg : Keep [] H7 (L2.upd H7 g (.lst [V.int (mix c 10037 100), V.int 0, V.int 99, V.int 42, V.int 100, V.int (-1), V.int ((10 : Int) ^ (12 : Int).toNat)])) := Keep.new ng
      refine ⟨_, rfl, c, 10039, 7, rfl, by decide, by decide, g, _, _, .int rk, rfl, rfl, .inl (.inl upd_same), ?_, ?_⟩
      · rw [← e12] at erk
        exact erk
      have hw := mix_nn (c := c) (p := 10007) (m := 8) (by decide)
      refine ⟨_, rfl, c, 10007, 8, rfl, by decide, by decide, ?_⟩
      have k7g := k7.trans kg
      refine ⟨fun σ' H' => Keep [] H6 H' ∧ ∃ n', Small n' ∧ (mix c 10007 8 < 6 → isName n' = decide (0 < mix c 10007 8)) ∧ σ' = [some (.ref a), some (.int sh), some (.int m), some (.int (1 + cell ns 1 / 2 % 1000)), some (.ref d), some (.ref b), v6, some (.int c), some (.str n'), some (.int rk), some (.int (mix c 10007 8))], ?_, ?_⟩
      · obtain ⟨o, so, no, eo⟩ := odd6 c nmn
        have lb : (n ++ "-" : Str).length ≤ 13 := by
          rw [Str.length_append]
          have := (isName_len nmn).2
          have e : ("-" : Str).length = 1 := by decide +kernel
          omega
        have k5g := k7g
        refine ⟨_, rfl, rfl, _, rfl, ?_⟩
        by_cases z0 : mix c 10007 8 = 0
        · rw [decide_eq_true (show V.int (mix c 10007 8) = V.int 0 by rw [z0])]
          refine iteT (iteT ⟨_, rfl, _, _, rfl, rfl, ?_, (show 6 ≤ sizeLine by decide), fun g2 ng2 => ?_⟩)
          · rw [sizeLine_eq]
            show n.length + ("-" : Str).length ≤ _
            rw [Str.length_append] at lb
            omega
          · exact ⟨_, rfl, c, 10067, 6, rfl, by decide, by decide, g2, _, _, .str o, rfl, rfl, .inl (.inl upd_same), eo, k5g.trans (Keep.new ng2), o, so, fun _ => by rw [no, z0]; rfl, rfl⟩
        · rw [decide_eq_false (show ¬ V.int (mix c 10007 8) = V.int 0 from fun y => z0 (V.int.inj y))]
          refine iteF ⟨_, rfl, _, _, rfl, rfl, _, rfl, ?_⟩
          by_cases z5 : 5 < mix c 10007 8
          · refine iteD z5 ⟨_, rfl, c, 10301, 4, rfl, by decide, by decide, rfl, _, rfl, ite2 (fun _ => ⟨_, rfl, _, _, rfl, rfl, ?_, (show 6 ≤ sizeLine by decide), fun g2 ng2 => ?_⟩) (fun _ => ⟨k5g, n, isName_small nmn, fun z => absurd z (by omega), rfl⟩)⟩
            · rw [sizeLine_eq]
              show n.length + ("-" : Str).length ≤ _
              rw [Str.length_append] at lb
              omega
            · exact ⟨_, rfl, c, 10067, 6, rfl, by decide, by decide, g2, _, _, .str o, rfl, rfl, .inl (.inl upd_same), eo, k5g.trans (Keep.new ng2), o, so, fun z => absurd z (by omega), rfl⟩
          · exact iteDn z5 (iteF ⟨k5g, n, isName_small nmn, fun _ => by rw [nmn, decide_eq_true (by omega)], rfl⟩)
      rintro σ' H8 ⟨k8, n', sn', gn', rfl⟩
      have hD8 := hD2.keep0 k8
      refine ⟨_, rfl, _, rfl, _, rfl, _, rfl, _, rfl, d, b, S2, D2, l2, n', rk, mix c 10007 8, rfl, hD8, sD2, hE2.keep0 k8, el2, e2.2.2, k8.tab _ (k2.tab _ hT), sn', mrk, hw, gn', fun D9 S9 l9 H9 k9 s9 hD9 sD9 hE9 el9 e9 => ⟨_, rfl, iteF ?_⟩⟩
      have k28 := k2.trans k8
      have f2b : ∀ z ∈ b :: S2, H z = none := fun z hz => (List.mem_cons.mp hz).elim (fun y => by rw [y]; exact nb0) (f2 z)
      have hu9 := k9.lst (k8.lst hu2 List.not_mem_nil) fun z => (List.mem_cons.mp z).elim ub (hD8.lst (k8.lst hu2 List.not_mem_nil))
      have pc9 : D9.pace = (1 + cell ns 1 / 2 % 1000) := e9.1.trans e2.1
      have rm9 : D9.room = m := e9.2.1.trans e2.2.1
      refine ⟨_, rfl, _, rfl, _, rfl, _, rfl, _, rfl, d, b, S9, D9, l9, c, ?_, hD9, sD9, hE9, el9, e9.2.2, fun H10 k10 => ⟨_, rfl, iteF ?_⟩⟩
      · rw [pc9, rm9]
      exact ⟨_, _, _, _, _, S9, D9, l9, rfl, (seqA k28 f2b k9).trans k10, subA k28 f2 s9, hD9.keep0 k10, sD9, hE9.keep0 k10, el9, ⟨pc9, rm9, e9.2.2⟩, k10.lst hu9 List.not_mem_nil⟩
    rintro σ H5 ⟨v6, v7, v8, v9, v10, S2, D2, l2, rfl, k2, f2, _⟩
    intro x1 dx1 nx1 ndx1 ne1
    refine made_desk (p := 1000) (r := 60) ⟨by decide, by decide⟩ (fun S6 H6 k6 hD6 f6 => ⟨rfl, ?_⟩) nx1 ndx1 ne1
    obtain ⟨L, ln, eS, x⟩ := id hD6
    obtain ⟨dx, hd⟩ := id x.desk
    refine ⟨x1, _, _, _, _, rfl, hd, T.cl_Desk, T.na_Desk_room, rfl, rfl, _, rfl, iteF ?_⟩
    intro x2 dx2 nx2 ndx2 ne2
    refine made_desk (p := 1) (r := 1) ⟨by decide, by decide⟩ (fun S7 H7 k7 hD7 f7 => ⟨rfl, ?_⟩) nx2 ndx2 ne2
    obtain ⟨L, ln, eS, x⟩ := id hD7
    obtain ⟨dx, hd⟩ := id x.desk
    refine ⟨x2, _, _, _, _, rfl, hd, T.cl_Desk, T.na_Desk_pace, rfl, rfl, _, rfl, iteF ?_⟩
    have e6 : (10 : Int) ^ (6 : Int).toNat = 1000000 := by decide +kernel
    have h9 : 0 ≤ sh % 9 ∧ sh % 9 < 9 := by omega
    have hf : 0 ≤ sh / 9 % 1000000 ∧ sh / 9 % 1000000 < 1000000 := by omega
    exact ⟨_, rfl, _, _, rfl, rfl, (show (0 : Int) < 9 by decide), _, rfl, _, _, rfl, rfl, ⟨by decide, by decide⟩, 10, 6, rfl, rfl, ⟨by decide, by decide, by decide +kernel⟩, sh / 9, 1000000, rfl, congrArg V.int e6, (show (0 : Int) < 1000000 by decide), sh % 9, sh / 9 % 1000000, rfl, h9, hf, fun H8 _ => q H8⟩
theorem law_sp {H : Hp} {a : Addr} {ns : List Int} (tabs : ∀ q ∈ tf, TabG H (He.tabOf K (He.codeOf K q))) (hl : ns.length ≤ 63) (hb : ∀ z ∈ ns, Builtin.Int.intBits z ≤ 1048576) (hS : SqL K H a (ns.map V.int)) :
    sp_law K [.ref a] H (fun v _ => v = .bl true) fun _ _ _ => False := ⟨a, ns, rfl, hS, hl, tabs ("is_name", none) (by simp [tf]), fun _ => rfl⟩
theorem GxR_triples : TriplesOk (#[] : Array Value).toList := by first | exact trivial | simp [TriplesOk] | exact .nil
end
end Rr

set_option maxRecDepth 100000
set_option maxHeartbeats 0
namespace Rr
open PySem PySem.Spec PyProof.Rows L2
/-! ### the head: one run of the top, and what it leaves -/
abbrev RW : PySem.W.OpenRow := PySem.W.OpenLaw.row PySem.Challenge.rw_rrdesk_k04_entering
abbrev hk : PySem.W.Hook := He.hookX 5 fa fn [] tf ex
def ob (s : PySem.W.SharedT) : He.AlX := He.obsX 5 fa fn [] tf ex (HandSHeadRun.getT s)
theorem ob_eq (s : PySem.W.SharedT) : ob s = hk.obs s.abs := He.obsX_eq (HandSHeadRun.getT_eq s)
theorem run (w : World) : HandSHeadRun.RunEq RW (PySem.W.view RW.prog [49]) hk ob 12000 ((["_wall", "READY", "ASLEEP", "WAITING", "Caller", "DeskError", "NoName", "NoRank", "NoSpan", "NoDesk", "Known", "Unknown", "Full", "NotReady", "IsReady", "SIGNS", "MOST_SIGNS", "is_name", "TOP", "aged", "limit", "first", "MOST_PACE", "MOST_ROOM", "MOST_TURNS", "check_name", "check_rank", "check_span", "check_ready", "check_not_ready"] : List Str) ++ (["Desk", "_law_whole", "_law_cell_at", "_law_mix", "_law_name_by", "_law_texts", "_law_word", "_law_no_desk", "_law_enters", "_law_unknown", "_law_due", "_law_stands", "_law_step"] : List Str)) w := by
  intro os
  kernel_rfl
theorem tx_of {w : World} {h : Heap} {K : PySem.W.Frag} {mg : Str → Option Value} {base : Heap} (X : K.In h) (G : h.Ns mainGlobals mg) (c : He.SaysX fa fn [] tf ex w h K) (TB : ∀ p ∈ tf.map (He.cT K), LamX.TabB base mg p.1 p.2) : Tx K mg base := ⟨He.free_ok X G (c.t.d.fact 0 (f := .free "all") rfl),
  He.free_ok X G (c.t.d.fact 1 (f := .free "len") rfl),
  He.free_ok X G (c.t.d.fact 2 (f := .free "enumerate") rfl),
  He.free_ok X G (c.t.d.fact 3 (f := .free "list") rfl),
  He.free_ok X G (c.t.d.fact 4 (f := .free "bool") rfl),
  He.free_ok X G (c.t.d.fact 5 (f := .free "int") rfl),
  He.free_ok X G (c.t.d.fact 6 (f := .free "isinstance") rfl),
  He.free_ok X G (c.t.d.fact 7 (f := .free "range") rfl),
  He.free_ok X G (c.t.d.fact 8 (f := .free "str") rfl),
  He.free_ok X G (c.t.d.fact 9 (f := .free "ValueError") rfl),
  He.free_ok X G (c.t.d.fact 10 (f := .free "sum") rfl),
  He.str_ok X G (c.t.d.fact 11 (f := .str "READY" "ready") rfl),
  He.int_ok X G (c.t.d.fact 12 (f := .int "MOST_SIGNS" 12) rfl),
  He.str_ok X G (c.t.d.fact 13 (f := .str "SIGNS" "abcdefghijklmnopqrstuvwxyz0123456789") rfl),
  He.int_ok X G (c.t.d.fact 14 (f := .int "TOP" 99) rfl),
  He.int_ok X G (c.t.d.fact 15 (f := .int "MOST_TURNS" 1000) rfl),
  He.int_ok X G (c.t.d.fact 16 (f := .int "MOST_PACE" 1000) rfl),
  He.int_ok X G (c.t.d.fact 17 (f := .int "MOST_ROOM" 60) rfl),
  He.str_ok X G (c.t.d.fact 18 (f := .str "ASLEEP" "asleep") rfl),
  He.str_ok X G (c.t.d.fact 19 (f := .str "WAITING" "waiting") rfl),
  He.glo_ok X G (c.t.d.fact 20 (f := .glo "Caller") rfl),
  He.glo_ok X G (c.t.d.fact 21 (f := .glo "DeskError") rfl),
  He.glo_ok X G (c.t.d.fact 22 (f := .glo "NoName") rfl),
  He.glo_ok X G (c.t.d.fact 23 (f := .glo "NoRank") rfl),
  He.glo_ok X G (c.t.d.fact 24 (f := .glo "NoSpan") rfl),
  He.glo_ok X G (c.t.d.fact 25 (f := .glo "NoDesk") rfl),
  He.glo_ok X G (c.t.d.fact 26 (f := .glo "Known") rfl),
  He.glo_ok X G (c.t.d.fact 27 (f := .glo "Unknown") rfl),
  He.glo_ok X G (c.t.d.fact 28 (f := .glo "Full") rfl),
  He.glo_ok X G (c.t.d.fact 29 (f := .glo "NotReady") rfl),
  He.glo_ok X G (c.t.d.fact 30 (f := .glo "IsReady") rfl),
  He.glo_ok X G (c.t.d.fact 31 (f := .glo "Desk") rfl),
  He.exc_ok (c.t.d.fact 32 (f := .exc "DeskError") rfl),
  He.exc_ok (c.t.d.fact 33 (f := .exc "NoName") rfl),
  He.exc_ok (c.t.d.fact 34 (f := .exc "NoRank") rfl),
  He.exc_ok (c.t.d.fact 35 (f := .exc "NoSpan") rfl),
  He.exc_ok (c.t.d.fact 36 (f := .exc "NoDesk") rfl),
  He.exc_ok (c.t.d.fact 37 (f := .exc "Known") rfl),
  He.exc_ok (c.t.d.fact 38 (f := .exc "Unknown") rfl),
  He.exc_ok (c.t.d.fact 39 (f := .exc "Full") rfl),
  He.exc_ok (c.t.d.fact 40 (f := .exc "NotReady") rfl),
  He.exc_ok (c.t.d.fact 41 (f := .exc "IsReady") rfl),
  He.exm_ok (c.t.d.fact 42 (f := .exm "NoName" "DeskError" true) rfl),
  He.exm_ok (c.t.d.fact 43 (f := .exm "NoRank" "DeskError" true) rfl),
  He.exm_ok (c.t.d.fact 44 (f := .exm "NoSpan" "DeskError" true) rfl),
  He.exm_ok (c.t.d.fact 45 (f := .exm "NoDesk" "DeskError" true) rfl),
  He.exm_ok (c.t.d.fact 46 (f := .exm "Known" "DeskError" true) rfl),
  He.exm_ok (c.t.d.fact 47 (f := .exm "Unknown" "DeskError" true) rfl),
  He.exm_ok (c.t.d.fact 48 (f := .exm "Full" "DeskError" true) rfl),
  He.exm_ok (c.t.d.fact 49 (f := .exm "NotReady" "DeskError" true) rfl),
  He.exm_ok (c.t.d.fact 50 (f := .exm "IsReady" "DeskError" true) rfl),
  He.exm_ok (c.t.d.fact 51 (f := .exm "Unknown" "Unknown" true) rfl),
  He.cls_ok (c.t.d.fact 52 (f := .cls "Caller") rfl),
  He.mkr_ok (c.t.d.fact 53 (f := .mkr "Caller") rfl),
  He.noat_ok (c.t.d.fact 54 (f := .noat "Caller" "bell") rfl),
  He.noat_ok (c.t.d.fact 55 (f := .noat "Caller" "due") rfl),
  He.noat_ok (c.t.d.fact 56 (f := .noat "Caller" "name") rfl),
  He.noat_ok (c.t.d.fact 57 (f := .noat "Caller" "rank") rfl),
  He.noat_ok (c.t.d.fact 58 (f := .noat "Caller" "since") rfl),
  He.noat_ok (c.t.d.fact 59 (f := .noat "Caller" "state") rfl),
  He.cls_ok (c.t.d.fact 60 (f := .cls "Desk") rfl),
  He.mkr_ok (c.t.d.fact 61 (f := .mkr "Desk") rfl),
  He.noat_ok (c.t.d.fact 62 (f := .noat "Desk" "_line") rfl),
  He.noat_ok (c.t.d.fact 63 (f := .noat "Desk" "now") rfl),
  He.noat_ok (c.t.d.fact 64 (f := .noat "Desk" "pace") rfl),
  He.noat_ok (c.t.d.fact 65 (f := .noat "Desk" "room") rfl),
  He.meth_ok (c.t.d.fact 66 (f := .meth "Caller" "become") rfl),
  He.glo_ok X G (c.t.d.fact 67 (f := .glo "is_name") rfl),
  He.glo_ok X G (c.t.d.fact 68 (f := .glo "aged") rfl),
  He.glo_ok X G (c.t.d.fact 69 (f := .glo "limit") rfl),
  He.glo_ok X G (c.t.d.fact 70 (f := .glo "first") rfl),
  He.glo_ok X G (c.t.d.fact 71 (f := .glo "check_name") rfl),
  He.glo_ok X G (c.t.d.fact 72 (f := .glo "check_rank") rfl),
  He.glo_ok X G (c.t.d.fact 73 (f := .glo "check_span") rfl),
  He.glo_ok X G (c.t.d.fact 74 (f := .glo "check_ready") rfl),
  He.glo_ok X G (c.t.d.fact 75 (f := .glo "check_not_ready") rfl),
  He.meth_ok (c.t.d.fact 76 (f := .meth "Desk" "enter") rfl),
  He.meth_ok (c.t.d.fact 77 (f := .meth "Desk" "leave") rfl),
  He.meth_ok (c.t.d.fact 78 (f := .meth "Desk" "sleep") rfl),
  He.meth_ok (c.t.d.fact 79 (f := .meth "Desk" "wait") rfl),
  He.meth_ok (c.t.d.fact 80 (f := .meth "Desk" "wake") rfl),
  He.meth_ok (c.t.d.fact 81 (f := .meth "Desk" "rerank") rfl),
  He.meth_ok (c.t.d.fact 82 (f := .meth "Desk" "turn") rfl),
  He.meth_ok (c.t.d.fact 83 (f := .meth "Desk" "names") rfl),
  He.meth_ok (c.t.d.fact 84 (f := .meth "Desk" "ready") rfl),
  He.meth_ok (c.t.d.fact 85 (f := .meth "Desk" "state") rfl),
  He.meth_ok (c.t.d.fact 86 (f := .meth "Desk" "rank") rfl),
  He.meth_ok (c.t.d.fact 87 (f := .meth "Desk" "waited") rfl),
  He.meth_ok (c.t.d.fact 88 (f := .meth "Desk" "within") rfl),
  He.meth_ok (c.t.d.fact 89 (f := .meth "Desk" "left") rfl),
  He.meth_ok (c.t.d.fact 90 (f := .meth "Desk" "bell") rfl),
  He.meth_ok (c.t.d.fact 91 (f := .meth "Desk" "_known") rfl),
  He.meth_ok (c.t.d.fact 92 (f := .meth "Desk" "_waited") rfl),
  He.meth_ok (c.t.d.fact 93 (f := .meth "Desk" "_ready_callers") rfl),
  He.meth_ok (c.t.d.fact 94 (f := .meth "Desk" "_chosen") rfl),
  He.meth_ok (c.t.d.fact 95 (f := .meth "Desk" "_make_ready") rfl),
  He.meth_ok (c.t.d.fact 96 (f := .meth "Desk" "_go_last") rfl),
  He.glo_ok X G (c.t.d.fact 97 (f := .glo "_law_whole") rfl),
  He.glo_ok X G (c.t.d.fact 98 (f := .glo "_law_cell_at") rfl),
  He.glo_ok X G (c.t.d.fact 99 (f := .glo "_law_mix") rfl),
  He.glo_ok X G (c.t.d.fact 100 (f := .glo "_law_name_by") rfl),
  He.glo_ok X G (c.t.d.fact 101 (f := .glo "_law_texts") rfl),
  He.glo_ok X G (c.t.d.fact 102 (f := .glo "_law_word") rfl),
  He.glo_ok X G (c.t.d.fact 103 (f := .glo "_law_no_desk") rfl),
  He.glo_ok X G (c.t.d.fact 104 (f := .glo "_law_enters") rfl),
  He.glo_ok X G (c.t.d.fact 105 (f := .glo "_law_unknown") rfl),
  He.glo_ok X G (c.t.d.fact 106 (f := .glo "_law_due") rfl),
  He.glo_ok X G (c.t.d.fact 107 (f := .glo "_law_stands") rfl),
  He.glo_ok X G (c.t.d.fact 108 (f := .glo "_law_step") rfl),
  He.glo_ok X G (c.t.d.fact 109 (f := .glo "law") rfl),
  c.t.d.def_ 0 rfl,
  c.t.d.def_ 1 rfl,
  c.t.d.def_ 2 rfl,
  c.t.d.def_ 3 rfl,
  c.t.d.def_ 4 rfl,
  c.t.d.def_ 5 rfl,
  c.t.d.def_ 6 rfl,
  c.t.d.def_ 7 rfl,
  c.t.d.def_ 8 rfl,
  c.t.d.def_ 9 rfl,
  c.t.d.def_ 10 rfl,
  c.t.d.def_ 11 rfl,
  c.t.d.def_ 12 rfl,
  c.t.d.def_ 13 rfl,
  c.t.d.def_ 14 rfl,
  c.t.d.def_ 15 rfl,
  c.t.d.def_ 16 rfl,
  c.t.d.def_ 17 rfl,
  c.t.d.def_ 18 rfl,
  c.t.d.def_ 19 rfl,
  c.t.d.def_ 20 rfl,
  c.t.d.def_ 21 rfl,
  c.t.d.def_ 22 rfl,
  c.t.d.def_ 23 rfl,
  c.t.d.def_ 24 rfl,
  c.t.d.def_ 25 rfl,
  c.t.d.def_ 26 rfl,
  c.t.d.def_ 27 rfl,
  c.t.d.def_ 28 rfl,
  c.t.d.def_ 29 rfl,
  c.t.d.def_ 30 rfl,
  c.t.d.def_ 31 rfl,
  c.t.d.def_ 32 rfl,
  c.t.d.def_ 33 rfl,
  c.t.d.def_ 34 rfl,
  c.t.d.def_ 35 rfl,
  c.t.d.def_ 36 rfl,
  c.t.d.def_ 37 rfl,
  c.t.d.def_ 38 rfl,
  c.t.d.def_ 39 rfl,
  c.t.d.def_ 40 rfl,
  c.t.d.def_ 41 rfl,
  c.t.d.def_ 42 rfl,
  c.t.d.def_ 43 rfl,
  c.t.d.def_ 44 rfl,
  c.t.d.def_ 45 rfl,
  (let t := TB (He.cT K ("is_name", none)) (List.mem_map_of_mem (f := He.cT K) (show ((("is_name", none)) : He.Defn) ∈ tf by simp [tf])); ⟨t.code, t.bm, t.gP⟩),
  (by have e := c.more; simp only [ex, Bool.and_eq_true, decide_eq_true_eq] at e; exact e)⟩
theorem nobody {P : Program} {w : World} {H : Hp} {s : Shared} {e : Value} {s' : Shared} (h : L2N.CX P w [] H s (fun _ _ _ => False) e s') : False := by
  obtain ⟨_, _, _, _, _, _, _, _, _, _, _, _, z⟩ := h
  exact z
theorem lawAt {w : World} {h : Heap} {K : PySem.W.Frag} {mg : Str → Option Value} {fa0 : Addr} (X : K.In h) (G : h.Ns mainGlobals mg) (hfa : mg ("law" : Str) = some (.ref fa0)) (c : He.SaysX fa fn [] tf ex w h K) :
    LamX.LawAtS PySem.Challenge.rw_rrdesk_k04_entering w K (L2N.CX (PySem.Challenge.rw_rrdesk_k04_entering).prog w) 8 63 "_law_script" mg fa0 h := by
  have e : fa0 = He.ga K "law" := Value.ref.inj (Option.some.inj (hfa.symm.trans (He.glo_ok X G (c.t.d.facts (f := .glo "law") (by simp [fa])))))
  subst e
  obtain ⟨fd, F⟩ := c.t.d.def_ 45 rfl
  refine ⟨fd, tf.map (He.cT K), sp_law K, fun p hp => ?_, fun p hp => ?_, fun p hp => ?_, fun s u => FunD.bindsA (ps := ["_law_script"]) F (fun _ _ _ _ _ _ us hl => match us, hl with | [_], _ => rfl) s [u] rfl, ?_, fun base hK hG TB => ok_law (tx_of X G c TB) F⟩
  · obtain ⟨q, hq, rfl⟩ := List.mem_map.mp hp
    exact c.empty q hq
  · obtain ⟨q, hq, rfl⟩ := List.mem_map.mp hp
    exact c.out q hq
  · obtain ⟨q, hq, rfl⟩ := List.mem_map.mp hp
    exact PySem.W.codeHd_of_K X (c.hd q hq)
  · intro H a ns hl hb hT hS
    have tabs : ∀ q ∈ tf, GxR.TabG H (He.tabOf K (He.codeOf K q)) := fun q hq => ⟨#[], hT _ (List.mem_map_of_mem hq), GxR_triples⟩
    exact law_sp tabs hl hb hS
end Rr
open PySem PySem.W PySem.Calls PyProof.Rows
theorem PySem.Challenge.cw_rrdesk_k04_entering_holds : PySem.Challenge.rw_rrdesk_k04_entering.Holds := by
  w_on; o_law
  refine HandSHeadRun.head_any (r := OpenLaw.row PySem.Challenge.rw_rrdesk_k04_entering) (q := view (OpenLaw.row PySem.Challenge.rw_rrdesk_k04_entering).prog [49]) (H := Rr.hk) (ob := Rr.ob) (M := 12000) (loose := (["_wall", "READY", "ASLEEP", "WAITING", "Caller", "DeskError", "NoName", "NoRank", "NoSpan", "NoDesk", "Known", "Unknown", "Full", "NotReady", "IsReady", "SIGNS", "MOST_SIGNS", "is_name", "TOP", "aged", "limit", "first", "MOST_PACE", "MOST_ROOM", "MOST_TURNS", "check_name", "check_rank", "check_span", "check_ready", "check_not_ready"] : List Str) ++ (["Desk", "_law_whole", "_law_cell_at", "_law_mix", "_law_name_by", "_law_texts", "_law_word", "_law_no_desk", "_law_enters", "_law_unknown", "_law_due", "_law_stands", "_law_step"] : List Str)) (d := HandSHeadRun.topDef (OpenLaw.row PySem.Challenge.rw_rrdesk_k04_entering).prog 49) (kwd := []) Rr.ob_eq
    (by kernel_rfl) (fun s => by kernel_rfl) Rr.run (by kernel_rfl) (by kernel_rfl) (by kernel_rfl) (by rfl) (by first | assumption | decide +kernel) (by decide +kernel) ⟨rfl, rfl, rfl, rfl, rfl, by decide +kernel⟩ ?hw ?hc
  case hw => w_witness2
  case hc =>
    refine LamX.walk_ofTsE (l := PySem.Challenge.rw_rrdesk_k04_entering) (n := 63) (k := 8) (x := "_law_script") (CX := fun w => L2N.CX (PySem.Challenge.rw_rrdesk_k04_entering).prog w) rfl (by decide) (by kernel_rfl) ⟨rfl, by decide, by decide⟩ ?F (fun _ _ _ _ _ z => Rr.nobody z)
    intro w mg fa h Y G hmg0
    obtain ⟨K, KX, c⟩ := Y
    have hmg : mg ("law" : PySem.Str) = some (.ref fa) := by
      have e : (HandSHeadRun.topDef (OpenLaw.row PySem.Challenge.rw_rrdesk_k04_entering).prog 49).name = ("law" : PySem.Str) := by kernel_rfl
      rw [← e]
      exact hmg0
    exact ⟨K, KX, Rr.lawAt KX G hmg c⟩

