import PyProof.Rows.All
import Wide.All
import OpenK.AllK
import Wide.FinOn
import PyProof.P3Eq
import HandS.ForMost
import HandS.Codes
import HandS.IsInst
import HandS.Evl
import HandS.Walk
import HandS.Defaults
import HandS.ExcCtx
import HandS.HotCalls
import HandS.ExcIs
import HandS.AnyAll
import HandS.DictComp
import HandS.FStr
import HandS.RaiseMore
import HandS.Small
import HandS.EndTab
import HandS.HeadWalk
import HandS.Head2
import HandS.HeadHook4
import HandS.More
import HandS.Conv
import HandS.TryOnly
import PyProof.StrBlock2
import HandS.Lambda
import HandS.SortInts
import HandS.SortKw
import KE.KSortKey
import HandS.MakeKw
import PySem.Challenge.RW_rrdesk_k12_whole_every_deed
set_option Elab.async false
set_option linter.all false
set_option maxRecDepth 100000
set_option maxHeartbeats 4000000
/-! rules of mine over the hand layer -/
namespace Rr
open PySem PySem.Spec PyProof.Rows L2
/-! ### what leaves a def -/
theorem passN {X : Cx} : Passes (L2N.CX X.prog X.w) X E0 := by
  intro _ _ _ _ _ _ _ h
  obtain ⟨_, _, _, _, _, _, _, _, _, _, _, _, z⟩ := h
  exact z.elim
theorem tkN {X : Cx} : L2N.Takes X (fun _ _ _ _ => False) := by
  intro _ _ x
  obtain ⟨_, _, _, _, _, _, _, _, _, _, _, _, _, _, _, _, z⟩ := x
  exact z.elim
/-- nothing is let out, at any slots -/
theorem p0 {X : Cx} (σ : L2.St) : PassesAt (L2N.CX X.prog X.w) X σ ((fun _ => E0 : L2.St → XK) σ) := fun pins H s e s' I c => passN pins σ H s e s' I c
/-- what a callee lets out is let out -/
theorem pU {X : Cx} {E : XK} (tk : L2N.Takes X (fun cls d _ H => E cls d H)) (σ : L2.St) : PassesAt (L2N.CX X.prog X.w) X σ ((fun _ => E : L2.St → XK) σ) := fun pins H s e s' I c =>
  L2N.passes_call tk (fun _ _ _ _ h => h) pins σ H s e s' I c
/-! ### calls: by a def's name, of a method, of a class -/
section
variable (P : Program) (w : World) (K : PySem.W.Frag) (mg : Str → Option Value) (base : Heap)
/-- a def's promise, to be called by its name -/
def Cal (k : Nat) (x : Str) (sp : Sp) : Prop := ∃ (f : Addr) (fd : FuncData) (ps : List Str), FnOk P w K mg base (L2N.CX P w) k f fd ps sp ∧ mg x = some (.ref f) ∧ PySem.W.keepIn K (.ref f) = true ∧ Binds K fd ps []
/-- a method's promise -/
def Met (k : Nat) (C : Addr) (m : Str) (sp : Sp) : Prop := ∃ (f : Addr) (fd : FuncData) (ps : List Str), Cls K C ∧ Meth K C m f ∧ FnOk P w K mg base (L2N.CX P w) k f fd ps sp ∧ Binds K fd ps []
/-- a class that is called; sp: its __init__ -/
def Mak (k : Nat) (x : Str) (C : Addr) (sp : Sp) : Prop := ∃ (f : Addr) (fd : FuncData) (ps : List Str), Mk K C f ∧ FnOk P w K mg base (L2N.CX P w) k f fd ps sp ∧ mg x = some (.ref C) ∧ Binds K fd ps []
/-- a method called with keywords: n values (self too), the names ks -/
def MetK (k : Nat) (C : Addr) (m : Str) (sp : Sp) (n : Nat) (ks : List Str) (gV : List V → List V → List V) : Prop := ∃ (f : Addr) (fd : FuncData) (ps : List Str) (g : List Value → List Value → List Value),
  Cls K C ∧ Meth K C m f ∧ FnOk P w K mg base (L2N.CX P w) k f fd ps sp ∧ KBn K fd ps n ks g gV
end
def tcF (sp : Sp) (E : L2.St → XK) (t : TA) : TE := fun σ H Q => t σ H fun vs H1 => sp vs H1 Q (E σ)
def tcM (sp : Sp) (E : L2.St → XK) (C : Addr) (m : Str) (ta : TE) (t : TA) : TE := fun σ H Q => ta σ H fun x H1 => ∃ a dx fs, x = .ref a ∧ H1 a = some (.ins C dx fs) ∧ fs.lookup m = none ∧ t σ H1 fun vs H2 => sp (x :: vs) H2 Q (E σ)
def tcC (sp : Sp) (C : Addr) (E : L2.St → XK) (t : TA) : TE := fun σ H Q => t σ H fun vs H1 => ∀ x dx, H1 x = none → H1 dx = none → dx ≠ x → sp (.ref x :: vs) (upd (upd H1 dx (.own x)) x (.ins C dx [])) (fun v H2 => v = .non ∧ Q (.ref x) H2) (E σ)
def tcMK (sp : Sp) (E : L2.St → XK) (C : Addr) (m : Str) (n l : Nat) (gV : List V → List V → List V) (ta : TE) (t tk : TA) : TE := fun σ H Q => ta σ H fun x H1 => ∃ a dx fs, x = .ref a ∧ H1 a = some (.ins C dx fs) ∧ fs.lookup m = none ∧
  t σ H1 fun vs H2 => tk σ H2 fun zs H3 => (x :: vs).length = n ∧ zs.length = l ∧ sp (gV (x :: vs) zs) H3 Q (E σ)
section
variable {X : Cx} {k j : Nat} {C : Addr} {x m : Str} {sp : Sp} {E : L2.St → XK} {p pos apos : Pos} {e o : Expr} {es : List Expr} {ta : TE} {t tk : TA}
/-- f(e, ..) -/
theorem pf (c : Cal X.prog X.w X.K X.mg X.base k x sp) (hr : Room j X.A) (hk : k ≤ j) (hg : Gl X x) (hx : ∀ σ, PassesAt (L2N.CX X.prog X.w) X σ (E σ)) (ha : PA X (e :: es) t)
    (hdb : (x == ("__debug__" : Str)) = false := by decide) (he : starEach (e :: es) X.env = (false, eval e X.env) :: starEach es X.env := by rfl) (hpl : (backTo pos (starEach es X.env)).any (·.1) = false := by rfl) :
    PE X (.Call (.Name x p) (e :: es) [] pos) (tcF sp E t) := by
  obtain ⟨f, fd, ps, F, hm, kp, b⟩ := c
  exact pe_callS F (hr.mono hk) hg hm kp b hx ha hdb he hpl
/-- o.m(e, ..) -/
theorem pm {pl : Sem Bool} (c : Met X.prog X.w X.K X.mg X.base k C m sp) (hr : Room j X.A) (hk : k ≤ j) (hx : ∀ σ, PassesAt (L2N.CX X.prog X.w) X σ (E σ)) (ho : PE X o ta) (ha : PA X (e :: es) t)
    (hst : starEach (e :: es) X.env = (false, eval e X.env) :: starEach es X.env := by rfl) (hpl : (backTo pos (starEach es X.env)).any (·.1) = false := by rfl)
    (ht : eval (.Call (.Attribute o m apos) (e :: es) [] pos) X.env = (do
      let r ← eval o X.env
      standAt apos.atName
      let (g, ys) ← holding [r] (getMethod r m pl)
      callWith pos g ys (backTo pos (starEach (e :: es) X.env)) (backToKw pos (keywordEach [] X.env))) := by rfl) :
    PE X (.Call (.Attribute o m apos) (e :: es) [] pos) (tcM sp E C m ta t) := by
  obtain ⟨f, fd, ps, hc, hm, F, b⟩ := c
  refine ⟨fun pins s σ H Q I h => PySem.W.methodCall_KW (pl := pl) (thn (ho.run pins s σ H _ I h) ?_) ht⟩
  rintro u s1 ⟨y, H1, I1, ry, a, dx, fs, rfl, ea, l, q⟩
  obtain rfl : u = Value.ref a := ry
  refine getmeth_ok I1 ea hc hm l (PySem.W.callWith_K (first := [.ref a]) (h₀ := X.base) I.ok.mod.kin hm.kp (thn (ha.run pos pins s1 σ H1 _ I1 q) ?_) hst hpl)
  rintro us s2 ⟨vs, H2, I2, r, q2⟩
  exact ⟨I2.kIn, run_fnS (us := .ref a :: us) (vs := .ref a :: vs) F (hr.mono hk) b (hx σ) I2 (.cons rfl r) q2⟩
/-- o.m() -/
theorem pm0 {pl : Sem Bool} (c : Met X.prog X.w X.K X.mg X.base k C m sp) (hr : Room j X.A) (hk : k ≤ j) (hx : ∀ σ, PassesAt (L2N.CX X.prog X.w) X σ (E σ)) (ho : PE X o ta)
    (ht : eval (.Call (.Attribute o m apos) [] [] pos) X.env = (do
      let r ← eval o X.env
      standAt apos.atName
      let (g, ys) ← holding [r] (getMethod r m pl)
      callWith pos g ys (backTo pos (starEach [] X.env)) (backToKw pos (keywordEach [] X.env))) := by rfl) :
    PE X (.Call (.Attribute o m apos) [] [] pos) (tcM sp E C m ta tNil) := by
  obtain ⟨f, fd, ps, hc, hm, F, b⟩ := c
  refine ⟨fun pins s σ H Q I h => PySem.W.methodCall_KW (pl := pl) (thn (ho.run pins s σ H _ I h) ?_) ht⟩
  rintro u s1 ⟨y, H1, I1, ry, a, dx, fs, rfl, ea, l, q⟩
  obtain rfl : u = Value.ref a := ry
  exact getmeth_ok I1 ea hc hm l (PySem.W.callWith_K0 (first := [.ref a]) I1.kIn hm.kp (run_fnS (us := [.ref a]) (vs := [.ref a]) F (hr.mono hk) b (hx σ) I1 (.cons rfl .nil) q))
/-- o.m(e, .., k = v, ..) -/
theorem pmk {pl : Sem Bool} {kws : List Keyword} {ks : List Str} {n : Nat} {gV : List V → List V → List V} (c : MetK X.prog X.w X.K X.mg X.base k C m sp n ks gV) (hr : Room j X.A) (hk : k ≤ j) (hx : Passes (L2N.CX X.prog X.w) X E0) (ho : PE X o ta) (ha : PA X (e :: es) t) (hkw : PK X kws tk)
    (hall : (backToKw pos (keywordEach kws X.env)).all (·.1.isSome) = true := by rfl) (hks : (backToKw pos (keywordEach kws X.env)).filterMap (·.1) = ks := by rfl)
    (hst : starEach (e :: es) X.env = (false, eval e X.env) :: starEach es X.env := by rfl)
    (hpl : ((backTo pos (starEach (e :: es) X.env)).any (·.1) || (backToKw pos (keywordEach kws X.env)).any (·.1.isNone)) = false := by rfl)
    (ht : eval (.Call (.Attribute o m apos) (e :: es) kws pos) X.env = (do
      let r ← eval o X.env
      standAt apos.atName
      let (g, ys) ← holding [r] (getMethod r m pl)
      callWith pos g ys (backTo pos (starEach (e :: es) X.env)) (backToKw pos (keywordEach kws X.env))) := by rfl) :
    PE X (.Call (.Attribute o m apos) (e :: es) kws pos) (tcMK sp (fun _ => E0) C m n ks.length gV ta t tk) := by
  obtain ⟨f, fd, ps, g, hc, hm, F, b⟩ := c
  refine ⟨fun pins s σ H Q I h => PySem.W.methodCall_KW (pl := pl) (thn (ho.run pins s σ H _ I h) ?_) ht⟩
  rintro u s1 ⟨y, H1, I1, ry, a, dx, fs, rfl, ea, l, q⟩
  obtain rfl : u = Value.ref a := ry
  refine getmeth_ok I1 ea hc hm l (PySem.W.callWith_KW (first := [.ref a]) (h₀ := X.base) I.ok.mod.kin hm.kp hall (thn (ha.run pos pins s1 σ H1 _ I1 q) ?_) hpl hst)
  rintro us s2 ⟨vs, H2, I2, r, q2⟩
  refine thn (hkw.run pos pins s2 σ H2 _ I2 q2) ?_
  rintro ws s3 ⟨zs, H3, I3, rz, l1, l2, q3⟩
  refine ⟨I3.kIn, ?_⟩
  rw [hks]
  exact run_fnN (us := .ref a :: us) (vs := .ref a :: vs) F (hr.mono hk) b hx I3 (.cons rfl r) rz l1 l2 q3
/-- C(e, ..) -/
theorem pc (c : Mak X.prog X.w X.K X.mg X.base k x C sp) (hr : Room j X.A) (hk : k + 1 ≤ j) (hg : Gl X x) {E : XK} (hx : Passes (L2N.CX X.prog X.w) X E) (ha : PA X (e :: es) t)
    (hdb : (x == ("__debug__" : Str)) = false := by decide) (he : starEach (e :: es) X.env = (false, eval e X.env) :: starEach es X.env := by rfl) (hpl : (backTo pos (starEach es X.env)).any (·.1) = false := by rfl) :
    PE X (.Call (.Name x p) (e :: es) [] pos) (tcC sp C (fun _ => E) t) := by
  obtain ⟨f, fd, ps, M, F, hm, b⟩ := c
  refine ⟨fun pins s σ H Q I h => (pe_make M F (hr.mono hk) hg hm b .nil hx ha hdb he hpl).run pins s σ H Q I ?_⟩
  unfold tMake
  unfold tcC at h
  simp only [List.append_nil]
  exact h
/-- an own exception of one argument -/
theorem pmk1 {bmB : List Value} {B newId initId : String} (F : ExcBaseFacts B newId initId bmB) (q : PySem.W.excIn X.K C bmB newId = true) (gC : X.mg x = some (.ref C)) (kC : PySem.W.keepIn X.K (.ref C) = true) (r : Raises X (.ref C)) (hg : Gl X x)
    (he : PE X e ta) (hs : starEach [e] X.env = (false, eval e X.env) :: starEach [] X.env := by rfl) (hdb : (x == ("__debug__" : Str)) = false := by decide) :
    L2N.PMk X (.Call (.Name x p) [e] [] pos) (fun σ H Q => ta σ H fun _ H1 => Q (.ref C) none H1) := by
  intro pins s σ H Q I h
  refine wpAny_Call_Name_kw (ld_glob I hg gC (PySem.W.callWith_K (h₀ := X.base) I.ok.mod.kin kC ?_ hs (by rfl)) hdb)
  rw [hs]
  refine Calls.spliced_cons (thn (he.run pins s σ H _ I h) ?_)
  rintro u s1 ⟨v, H1, I1, r1, q1⟩
  refine Calls.spliced_nil ⟨I1.kIn, ?_⟩
  obtain ⟨_, _, _, _, _, _, _, _, _, _, _, _, _, _, _, _, _, hC, hN, hni, T⟩ := exc_obj I1.kIn q
  exact wpAny_call_exc_subT F T hC hN hni (fun h' a hm => L2N.mk_of I1 hm r q1 (I1.hok.gone hm.new)) (by show 1 ≤ sizeLine; rw [sizeLine_eq]; omega)
end
/-! ### a def with its code object known -/
section
variable {P : Program} {w : World} {K : PySem.W.Frag} {mg : Str → Option Value} {base : Heap} {x qual : Str} {params : Arguments} {body : List Stmt} {scope : Scope} {dvs : List V} {kws : List (Str × V)} {fd : FuncData} {at_ : Str × Option Str}
theorem okF {N ps : List Str} {k : Nat} {sp : Sp} (F : FunD K x qual params body scope dvs kws (He.fAd K at_) fd) (S : FnScope N ps scope) (len : ∀ vs H Q E, sp vs H Q E → vs.length = ps.length)
    (hbody : ∀ (A : Around) (outer : List Env) (s : Shared) (H : Hp) (vs : List V) (Q : VK) (E : XK), Room k (A.deeper (envOfC qual scope s.heap.objs.size (He.fAd K at_) (.ref (He.codeOf K at_)))) → sp vs H Q E →
      ∃ t, PSs (cxOf (L2N.CX P w) P w K mg base N qual scope (He.fAd K at_) (.ref (He.codeOf K at_)) A outer s H E) body t ∧ t { nx := fun _ H' => Q .non H', rt := Q } (start N vs) H) : FnOk P w K mg base (L2N.CX P w) (k + 1) (He.fAd K at_) fd ps sp := by
  obtain ⟨oc, od, dV, kV, doc, pm, an, cdv, ct, osl, rfl, lk, hcd, _, _⟩ := F.ex
  obtain ⟨c, rfl⟩ := He.codeIn_ref hcd
  have ec : He.codeOf K at_ = c := He.codeOf_eq lk rfl
  subst ec
  exact fn_of lk hcd S len hbody
end
end Rr
namespace Rr
open PySem PySem.Spec PyProof.Rows L2
section
variable {X : Cx} {x : Str} {pos : Pos}
/-- a constant of the module -/
theorem pgI {i : Int} (hg : Gl X x) (h : ∃ t, X.mg x = some (.int i t)) (hd : (x == ("__debug__" : Str)) = false := by decide) : PE X (.Name x pos) (tC (.int i)) := by
  obtain ⟨t, h⟩ := h
  exact pe_glob hg h ⟨t, rfl⟩ hd
theorem pgS {z : Str} (hg : Gl X x) (h : ∃ t, X.mg x = some (.str z t)) (hd : (x == ("__debug__" : Str)) = false := by decide) : PE X (.Name x pos) (tC (.str z)) := by
  obtain ⟨t, h⟩ := h
  exact pe_glob hg h ⟨t, rfl⟩ hd
end
/-- a field, within a comprehension -/
theorem pe_fldK {X : Cx} {K : PySem.W.Frag} {e : Expr} {ta : TE} {f : Str} {pos : Pos} (hK : X.K = K) (he : PE X e ta) (hb : attributeBase e f X.env (eval e X.env) = eval e X.env) : PE X (.Attribute e f pos) (tFld K ta f) := by
  subst hK
  exact pe_fld he hb
section
variable {X : Cx} {K : PySem.W.Frag} {tg l : Expr} {tl : TE}
theorem ix_listK (hK : X.K = K) : IxR X (rIxL K) := by
  subst hK
  exact ix_list
theorem ix_tupK (hK : X.K = K) : IxR X (rIxT K) := by
  subst hK
  exact ix_tup
theorem sl_listK (hK : X.K = K) : SlR X (rSlL K) := by
  subst hK
  exact sl_list
theorem pi_listK (hK : X.K = K) (hl : PE X l tl) : PI X tg l (iList K tl) := by
  subst hK
  exact pi_list hl
theorem len_seqK (hK : X.K = K) : CallR X (.builtin "len") (fun xs H Q => ∃ p ys, xs = [.ref p] ∧ (SqL K H p ys ∨ SqT K H p ys) ∧ Q (.int ys.length) H) := by
  subst hK
  exact call_len_seq
theorem in_seqK (hK : X.K = K) : OpR X (compareOp .In) (rIn K false) := by
  subst hK
  exact op_in_seq
theorem isiK (hK : X.K = K) : CallR X (.builtin "isinstance") (rIsi K) := by
  subst hK
  exact call_isi
end
/-- a text, turned round -/
theorem picks_back (c : Array Nat) : ((PySem.Builtin.Str.strSliceIndices none none (-1) c.size).filterMap (c[·]?)) = c.toList.reverse := by
  rw [PyProof.Rows.picked_rev, PyProof.Rows.filterMap_get, List.map_map]
  · refine List.ext_getElem (by simp) fun i h1 h2 => ?_
    have hi : i < c.size := by simpa using h1
    simp only [List.getElem_map, List.getElem_range, Function.comp, List.getElem_reverse, Array.length_toList, Array.getElem_toList]
    have hj : c.size - 1 - i < c.size := by omega
    simp [Array.getD, hj]
  · intro i hi
    obtain ⟨j, hj, rfl⟩ := List.mem_map.mp hi
    have := List.mem_range.mp hj
    omega
def tRevS (te : TE) : TE := fun σ H Q => te σ H fun x H1 => ∃ z, x = .str z ∧ z.length ≤ sizeLine ∧ Q (.str (SX.S z.cps.toList.reverse)) H1
theorem pe_revS {X : Cx} {e : Expr} {te : TE} {k : Nat} {p1 p2 p3 pos : Pos} (he : PE X e te) : PE X (.Subscript e (.Slice none none (some (.UnaryOp .USub (.Constant (.int 1) k p1) p2)) p3) pos) (tRevS te) := by
  constructor
  intro pins s σ H Q I h
  refine Subscript_ (thn (he.run pins s σ H _ I h) ?_)
  rintro v s1 ⟨x, H1, I1, r1, z, rfl, hz, q⟩
  obtain ⟨t, rfl⟩ := r1
  have stp : PO X (some (.UnaryOp .USub (.Constant (.int 1) k p1) p2)) (tPart (tUn (rU fun i => .int (-i)) (tC (.int 1)))) := po_some (pe_un un_neg pe_int)
  refine wpAny_Slice (thn (po_none.run pins s1 σ H1 (fun o H2 => o = none ∧ H2 = H1) I1 ⟨rfl, rfl⟩) ?_)
  rintro vl s2 ⟨_, _, I2, pl, rfl, rfl⟩
  refine thn (po_none.run pins s2 σ _ (fun o H3 => o = none ∧ H3 = _) I2 ⟨rfl, rfl⟩) ?_
  rintro vu s3 ⟨_, _, I3, pu, rfl, rfl⟩
  refine thn (stp.run pins s3 σ _ (fun o H4 => o = some (-1) ∧ H4 = _) I3 ⟨1, rfl, -1, rfl, rfl, rfl⟩) ?_
  rintro vs s4 ⟨_, _, I4, ps, rfl, rfl⟩
  obtain ⟨l, rfl, el⟩ := IsPart.raw pl
  obtain ⟨u, rfl, eu⟩ := IsPart.raw pu
  obtain ⟨n, rfl, en⟩ := IsPart.raw ps
  cases l with
  | some _ => cases el
  | none =>
  cases u with
  | some _ => cases eu
  | none =>
  cases n with
  | none => cases en
  | some m =>
  obtain ⟨i, t2⟩ := m
  have ei : i = -1 := Option.some.inj en
  subst ei
  have J : Inv X pins σ _ { s4 with heap := s4.heap.push { cls := .type "slice", data := .fields #[partValue none, partValue none, partValue (some (-1, t2))] } } := I4.kept (t' := s4.toks) fun b o q => Heap.get?_push_of_some _ q
  refine tail_any (ops := [.str z t, .ref s4.heap.objs.size]) (typeIs_str _ _ _) F.slot_str_getitem.lookup ?_ (by with_unfolding_all rfl)
  have hs := Heap.IsSliceOf.new s4.heap (partValue none) (partValue none) (partValue (some (-1, t2)))
  obtain ⟨os, h1, h2, h3⟩ := hs
  refine wpAny_getItem_str_slice (l := none) (u := none) (st := some (-1, t2)) ⟨os, h1, h2, h3⟩ rfl ?_
  have e : ((PySem.Builtin.Str.strSliceIndices none none (-1) z.length).filterMap (z.cps[·]?)) = z.cps.toList.reverse := picks_back z.cps
  show Made.post (.str ⟨((PySem.Builtin.Str.strSliceIndices none none (-1) z.length).filterMap (z.cps[·]?)).toArray⟩) (EP X pins σ Q) _
  rw [e]
  exact ⟨by rw [show (⟨z.cps.toList.reverse.toArray⟩ : Str).length = z.length by simp [Str.length]]; exact hz, .str _, _, J.tok _, ⟨_, rfl⟩, q⟩
/-- a generator expression's scope, looked at -/
theorem gs_of {env : Env} {scope : Scope} {x : Str} (h : (decide (scope.kind = .function) && (!scope.isCoroutine && (scope.names.all (fun y => !decide (y.2 = .cell) && !decide (y.2 = .free)) && (decide (scope.names.lookup (".0" : Str) = some NameKind.local) && decide (scope.names.lookup x = some .local))))) = true) : GxR.GenS env scope x := by
  simp only [Bool.and_eq_true, decide_eq_true_eq, List.all_eq_true, Bool.not_eq_true', decide_eq_false_iff_not] at h
  obtain ⟨h1, h2, h3, h4, h5⟩ := h
  exact ⟨h1, h2, fun y hy => (h3 y hy).1, h4, h5, fun y hy z => absurd z (h3 y hy).2⟩
end Rr

set_option maxRecDepth 100000
set_option maxHeartbeats 4000000
/-! any, all of a generator expression over a text's signs whose test reads the module's constants -/
namespace Rr
open PySem PySem.Spec PyProof.Rows L2
open GxR (TabB TabG Tabbed GenS Ready trF)
/-- the test of the sign c; the module's names may be read in it -/
def EltG (prog : Program) (w : World) (mg : Str → Option Value) (scope : Scope) (x : Str) (elt : Expr) (pb : Nat → Bool) : Prop :=
  ∀ (env' : Env) (B : Around) (F : Value → Shared → Prop) (c : Nat) (t : Tok) (s' : Shared) (m' : Str → Option Value), env'.scope = scope → env'.globals = mainGlobals → s'.heap.Ns mainGlobals mg → s'.heap.Ns env'.locals m' → m' x = some (.str ⟨#[c]⟩ t) →
    wpAny (model prog w) B (eval elt env') (fun y s'' => y = .bool (pb c) ∧ Keeps s' s'') F s'
/-- c in NAME: NAME a text of the module -/
theorem elt_in {prog : Program} {w : World} {mg : Str → Option Value} {scope : Scope} {x y : Str} {z : Str} {p1 p2 p3 : Pos} (hk : scope.kind = .function) (hl : scope.names.lookup x = some .local) (hy : scope.names.lookup y = some .globalImplicit) (hz : ∃ t, mg y = some (.str z t)) (hd : (x == ("__debug__" : Str)) = false := by decide) (hdy : (y == ("__debug__" : Str)) = false := by decide) :
    EltG prog w mg scope x (.Compare (.Name x p1) [.In] [.Name y p2] p3) (fun c => decide (c ∈ z.cps.toList)) := by
  intro env' B F c t s' m' hs hg hG hn hm
  obtain ⟨tz, hz⟩ := hz
  refine wpAny_Compare1 (wpAny_Name (wpAny_loadName_local (by rw [hs]; exact hk) (show env'.scope.names.lookup x = some .local by rw [hs]; exact hl) hn hm ?_) hd)
  refine Calls.Name_function_global (by rw [hs]; exact hk) (show env'.scope.names.lookup y = some .globalImplicit by rw [hs]; exact hy) (Calls.loadGlobal_global (by rw [hg]; exact hG) hz ?_) hdy
  exact PyProof.Rows.in_str ⟨congrArg Value.bool (PySem.StrLaws.found_one z c), GxR.keeps_refl _⟩
/-- c not in NAME -/
theorem elt_notIn {prog : Program} {w : World} {mg : Str → Option Value} {scope : Scope} {x y : Str} {z : Str} {p1 p2 p3 : Pos} (hk : scope.kind = .function) (hl : scope.names.lookup x = some .local) (hy : scope.names.lookup y = some .globalImplicit) (hz : ∃ t, mg y = some (.str z t)) (hd : (x == ("__debug__" : Str)) = false := by decide) (hdy : (y == ("__debug__" : Str)) = false := by decide) :
    EltG prog w mg scope x (.Compare (.Name x p1) [.NotIn] [.Name y p2] p3) (fun c => !decide (c ∈ z.cps.toList)) := by
  intro env' B F c t s' m' hs hg hG hn hm
  obtain ⟨tz, hz⟩ := hz
  refine wpAny_Compare1 (wpAny_Name (wpAny_loadName_local (by rw [hs]; exact hk) (show env'.scope.names.lookup x = some .local by rw [hs]; exact hl) hn hm ?_) hd)
  refine Calls.Name_function_global (by rw [hs]; exact hk) (show env'.scope.names.lookup y = some .globalImplicit by rw [hs]; exact hy) (Calls.loadGlobal_global (by rw [hg]; exact hG) hz ?_) hdy
  exact PyProof.Rows.notIn_str ⟨congrArg (fun b => Value.bool (!b)) (PySem.StrLaws.found_one z c), GxR.keeps_refl _⟩
section
variable {X : Cx} {pins : List (Addr × Obj)} {σ : L2.St} {H : Hp} {s : Shared} {c P : Addr} {elt iter : Expr} {x : Str} {px p pos gpos : Pos} {scope : Scope} {pb : Nat → Bool} {te : TE} {k : Nat}
/-- the generator is made: what its walk will find -/
theorem gen_signs {Q' : Value → Shared → Prop} {R : Str → Hp → Prop} (hr : Room k X.A) (TB : TabB X.base X.mg c P) (hcode : X.env.code = .ref c) (S : GenS X.env scope x) (hi : PE X iter te) (hel : EltG X.prog X.w X.mg scope x elt pb)
    (hs : ∀ v, genFold iter X.env v = pure v) (I : Inv X pins σ H s) (h : te σ H fun v H1 => ∃ a : Str, v = .str a ∧ TabG H1 P ∧ R a H1) (hQ : ∀ a H1 g s5, R a H1 → Ready X pins σ H1 P a pb g s5 → Q' (.ref g) s5) :
    wpAny (model X.prog X.w) X.A (eval (.GeneratorExp elt [⟨.Name x px, iter, [], 0⟩] scope gpos) X.env) Q' X.xe s := by
  refine wpAny_GeneratorExp_walksQ hr.hd S.co (closure_ok S.free) S.cell S.dot S.loc S.kind (by have := hr.dp; omega) (thn (hi.run pins s σ H _ I h) ?_) hs
  rintro xv s1 ⟨v, H1, I1, r1, a, rfl, ⟨ps, hP, ht⟩, q1⟩
  obtain ⟨t, rfl⟩ := id r1
  refine wpAny_pyIter_str fun it St W hst => ⟨I1.nolimit.push it, ?_⟩
  have atP : s1.heap.get? P = some { cls := .none, data := .fields ps } := I1.hok P _ hP
  have ltP : P < s1.heap.objs.size := Heap.lt_size atP
  have up : ∀ b u, s1.heap.get? b = some u → (s1.heap.push it).get? b = some u := fun b u e => Heap.get?_push_of_some _ e
  have cd : PySem.W.CodeHd (s1.heap.push it) c P := TB.code.keeps fun b u e => up b u (I1.bk b u e)
  have szI : (s1.heap.push it).objs.size = s1.heap.objs.size + 1 := Heap.size_push ..
  have ltS : cStatics < s1.heap.objs.size := by
    obtain ⟨_, hns, _⟩ := I1.nolimit
    exact hns.lt
  have neP : cStatics ≠ P := by
    intro e
    obtain ⟨_, ⟨o', _, _, ho, hd, _⟩, _⟩ := I1.nolimit
    rw [e, atP] at ho
    cases ho
    cases hd
  -- behind the code object: it was found in the table, or the table has grown
  have rest : ∀ (cv : Value) (h3 : Heap) (tk : Nat) (more : Array Value), Heap.ExtBut P (s1.heap.push it) h3 → (s1.heap.push it).objs.size ≤ h3.objs.size → h3.get? P = some { cls := .none, data := .fields (ps ++ more) } → TriplesOk (ps ++ more).toList →
      wpAny (model X.prog X.w) X.A (builtinsFor X.env.globals X.env.builtins) (fun bi s4 =>
        ∃ Ia fp wr n0 Pf St0 pz F, Value.ref s1.heap.objs.size = .ref Ia ∧ (∀ B : Around, B.handled = none → Walks X.prog X.w B Ia fp wr n0 Pf St0) ∧ St0 0 s4.heap ∧ (∀ b ∈ fp, b < s4.heap.objs.size) ∧ s4.heap.NoLimit ∧ cStatics ∉ wr ∧
          (∀ hr' : Heap, (∀ b u, s4.heap.get? b = some u → hr'.get? b = some u) → QuietGen X.prog X.w (genEnv scope (cloFrom X.env.cells scope.names []) s4.heap.objs.size cv bi X.env) x [] elt (List.range s4.heap.objs.size) wr Pf pz F hr') ∧
          (∀ g h5 tk' gs, gs.bare = true → s4.heap.objs.size < g → h5.objs.size = g + 1 → (∀ b u, s4.heap.get? b = some u → h5.get? b = some u) →
            WalksS X.prog X.w X.A.in4 g (g :: s4.heap.objs.size :: List.range s4.heap.objs.size) (s4.heap.objs.size :: wr) (GenOnlyQ s4.gens.size) (passing pz n0 0).length
              (fun j y => ∃ i, (passing pz n0 0)[j]? = some i ∧ F i y) (GenAt X.prog X.w X.A.in4 g s4.gens.size s4.heap.objs.size (List.range s4.heap.objs.size) wr pz n0 F) →
            GenAt X.prog X.w X.A.in4 g s4.gens.size s4.heap.objs.size (List.range s4.heap.objs.size) wr pz n0 F 0 { s4 with gens := s4.gens.push gs, toks := tk', heap := h5 } →
            Q' (.ref g) { s4 with gens := s4.gens.push gs, toks := tk', heap := h5 })) X.xe { s1 with heap := h3, toks := tk } := by
    intro cv h3 tk more ext sz3 at3 ok3
    obtain ⟨bm, ob, e1, e2, e3, e4, e5, e6, e7, e8⟩ := TB.bm
    have old : ∀ b u, b ≠ P → s1.heap.get? b = some u → h3.get? b = some u := fun b u hb e => ext b u hb (up b u e)
    refine wpAny_builtinsFor (m := X.mg) (by rw [I1.ok.glob]; exact ((I1.mod.glob.keeps I1.bk).push it).extBut ext TB.gP) e1 e2 (old _ _ e4 (I1.bk _ _ e5)) e6 e7 e8 ?_
    have one : ∀ b, b ∈ [s1.heap.objs.size] → b = s1.heap.objs.size := fun b hb => List.mem_singleton.mp hb
    refine ⟨s1.heap.objs.size, [s1.heap.objs.size], [s1.heap.objs.size], a.cps.size, SignAt a, St, (fun _ => true), (fun i y => ∃ cc, a.cps[i]? = some cc ∧ y = .bool (pb cc)), rfl, W, ?_, ?_, (I1.nolimit.push it).extBut ext neP, fun z => Nat.ne_of_lt ltS (one _ z), ?_, ?_⟩
    · exact (W X.A hr.hd).frame _ _ _ hst fun b hb u e => ext b u (fun z => Nat.ne_of_lt ltP (z.symm.trans (one b hb))) e
    · intro b hb
      rw [one b hb]
      show s1.heap.objs.size < h3.objs.size
      omega
    · intro hr' khr
      refine ⟨fun B F i v s2 m2 _ _ hn _ _ => ?_, fun B F i v s2 m2 _ hPv _ hn hm hk => ?_⟩
      · simp only [List.forIn_nil]
        exact wpAny_pure ⟨rfl, GxR.keeps_refl _⟩
      · obtain ⟨cc, u, hcc, rfl⟩ := hPv
        refine wpAny_mono (hel _ B F cc u s2 m2 rfl I1.ok.glob ?_ hn hm) (fun y s3 r => ⟨⟨cc, hcc, r.1⟩, r.2⟩) fun _ _ e => e
        obtain ⟨o, es, ep, eo, r⟩ := I1.mod.glob
        have eo1 := I1.bk _ _ eo
        have lo := Heap.lt_size eo1
        refine ⟨o, es, ep, hk mainGlobals (List.mem_range.mpr ?_) (fun z => Nat.ne_of_lt lo (one _ z)) o (khr _ _ (old _ _ TB.gP eo1)), r⟩
        show mainGlobals < h3.objs.size
        exact Nat.lt_of_lt_of_le (Nat.lt_of_lt_of_le (Nat.lt_succ_of_lt lo) (Nat.le_of_eq szI.symm)) sz3
    · intro g h5 tk5 gs hgb hag sz5 k5 W5 hat
      simp only [GxR.passing_true, List.length_range] at W5
      refine hQ a H1 g _ q1 ⟨_, _, _, _, _, W5.in4_1, hat, ?_, fun s' hm => ?_⟩
      · rintro j y sj Qj Ej ⟨i, hij, cc, hcc, rfl⟩ hQj
        obtain ⟨hj, ej⟩ := List.getElem?_eq_some_iff.mp hij
        rw [List.getElem_range] at ej
        subst ej
        have hQ2 : Qj (trF pb a.cps.toList j) sj := hQj
        rw [GxR.trF_some (show a.cps.toList[j]? = some cc by rw [Array.getElem?_toList]; exact hcc)] at hQ2
        exact wpAny_truthy_bool hQ2
      · have nw : ∀ b u, s1.heap.get? b = some u → b ∉ h3.objs.size :: [s1.heap.objs.size] := by
          intro b u e hb
          have hl := Heap.lt_size e
          rcases List.mem_cons.mp hb with z | z
          · rw [z] at hl
            exact absurd (Nat.lt_of_lt_of_le (Nat.lt_succ_of_lt hl) (Nat.le_trans (Nat.le_of_eq szI.symm) sz3)) (Nat.lt_irrefl _)
          · rw [one b z] at hl
            exact Nat.lt_irrefl _ hl
        have J := GxR.inv_tab (more := more) (h' := s'.heap) (g' := s'.gens) (d' := s'.drawn) (t' := s'.toks) I1 hP (fun b u hb e => hm.heap b u (nw b u e) (k5 b u (old b u hb e))) (hm.heap P _ (nw P _ atP) (k5 P _ at3)) (AllBare.movedS (I1.bare.push hgb) hm)
        rw [GxR.sh_eta s1 s' hm.os] at J
        exact ⟨upd H1 P (.tbl (ps ++ more)), ⟨⟨ps ++ more, upd_same, ok3⟩, fun b hb => upd_ne hb⟩, J⟩
  cases hf : codeAmong gpos ps.toList with
  | none =>
    refine wpAny_genexprCodeX hcode (cd.code (up _ _ atP) ht) (cd.tab (up _ _ atP)) hf fun c' h' tk ext hge hlt hco _ htab _ => ?_
    obtain ⟨_, _, _, _, _, _, _, _, _, _, _, _, _, _, _, _, _, _, _, htr, _⟩ := hco
    exact rest _ h' tk _ ext (Nat.le_trans hge (Nat.le_of_lt hlt)) htab.2 htr
  | some cv =>
    refine wpAny_genexprCode_hit hcode (cd.code (up _ _ atP) ht) hf ?_
    exact rest cv (s1.heap.push it) s1.toks #[] (Heap.ExtBut.refl _ _) (Nat.le_refl _) (by rw [Array.append_empty]; exact up _ _ atP) (by rw [Array.append_empty]; exact ht)
/-- all(test for x in e) -/
theorem pe_all (hr : Room k X.A) (hg : Gl X "all") (hm : X.mg "all" = none) (TB : TabB X.base X.mg c P) (hcode : X.env.code = .ref c) (S : GenS X.env scope x) (hi : PE X iter te) (hel : EltG X.prog X.w X.mg scope x elt pb) (hs : ∀ v, genFold iter X.env v = pure v) (hb : bootBuiltins "all" = some (.builtin "all") := by decide +kernel)
    (he : starEach [.GeneratorExp elt [⟨.Name x px, iter, [], 0⟩] scope gpos] X.env = (false, eval (.GeneratorExp elt [⟨.Name x px, iter, [], 0⟩] scope gpos) X.env) :: starEach [] X.env := by rfl) :
    PE X (.Call (.Name "all" p) [.GeneratorExp elt [⟨.Name x px, iter, [], 0⟩] scope gpos] [] pos) (GxR.tAllS P pb te) := by
  refine ⟨fun pins s σ H Q I h => wpAny_Call_Name_kw (ld_blt I hg hm hb (PyProof.Rows.callWith_builtin1 ?_ he (by rfl)))⟩
  rw [he]
  refine Calls.spliced_cons (gen_signs (R := fun a H1 => ∀ H2, Tabbed P H1 H2 → Q (.bl (a.cps.toList.all pb)) H2) hr TB hcode S hi hel hs I h ?_)
  rintro a H1 g s5 hR ⟨fp, wr, G, F, St, W, hst, htr, hI⟩
  refine Calls.spliced_nil (call_all_walkS (W.self 0 _ _ _ hst ⟨g, fp, wr, G, _, F, St, _, rfl, W, hst, htr, fun s' hmv => ?_⟩))
  obtain ⟨H2, hT, J⟩ := hI s' hmv
  refine ⟨.bl _, H2, J, rfl, ?_⟩
  rw [GxR.all_signs a pb]
  exact hR H2 hT
/-- any(test for x in e) -/
theorem pe_any (hr : Room k X.A) (hg : Gl X "any") (hm : X.mg "any" = none) (TB : TabB X.base X.mg c P) (hcode : X.env.code = .ref c) (S : GenS X.env scope x) (hi : PE X iter te) (hel : EltG X.prog X.w X.mg scope x elt pb) (hs : ∀ v, genFold iter X.env v = pure v)
    (he : starEach [.GeneratorExp elt [⟨.Name x px, iter, [], 0⟩] scope gpos] X.env = (false, eval (.GeneratorExp elt [⟨.Name x px, iter, [], 0⟩] scope gpos) X.env) :: starEach [] X.env := by rfl) :
    PE X (.Call (.Name "any" p) [.GeneratorExp elt [⟨.Name x px, iter, [], 0⟩] scope gpos] [] pos) (GxR.tAnyS P pb te) := by
  refine ⟨fun pins s σ H Q I h => wpAny_Call_Name_kw (ld_blt I hg hm boot_any (PyProof.Rows.callWith_builtin1 ?_ he (by rfl)))⟩
  rw [he]
  refine Calls.spliced_cons (gen_signs (R := fun a H1 => ∀ H2, Tabbed P H1 H2 → Q (.bl (a.cps.toList.any pb)) H2) hr TB hcode S hi hel hs I h ?_)
  rintro a H1 g s5 hR ⟨fp, wr, G, F, St, W, hst, htr, hI⟩
  refine Calls.spliced_nil (call_any_walkS (W.self 0 _ _ _ hst ⟨g, fp, wr, G, _, F, St, _, rfl, W, hst, htr, fun s' hmv => ?_⟩))
  obtain ⟨H2, hT, J⟩ := hI s' hmv
  refine ⟨.bl _, H2, J, rfl, ?_⟩
  rw [GxR.any_signs a pb]
  exact hR H2 hT
end
end Rr

set_option maxRecDepth 100000
set_option maxHeartbeats 4000000
/-! the heap's frame; a desk as it stands in the heap -/
namespace Rr
open PySem PySem.Spec PyProof.Rows L2
open GxR (TabG Tabbed)
/-- not a table -/
def NoT (o : HO) : Prop := (∀ ps, o ≠ .tbl ps) ∧ ∀ c q, o ≠ LamX.CodeO c q
/-- the table of Desk.ready's code objects, and its lambda's name -/
abbrev tabR (K : PySem.W.Frag) : Addr := He.tabOf K (He.codeOf K ("Desk", some "ready"))
abbrev qR : Str := "Desk.ready.<locals>.<lambda>"
abbrev LamOk (K : PySem.W.Frag) (H : Hp) : Prop := LamX.TabS H (tabR K) qR
/-- what stands outside of S stays (tables may grow); nothing goes -/
structure Keep (K : PySem.W.Frag) (S : List Addr) (H H' : Hp) : Prop where
  old : ∀ b o, H b = some o → b ∉ S → NoT o → H' b = some o
  tab : ∀ P, TabG H P → TabG H' P
  gone : ∀ b, H' b = none → H b = none
  lam : LamOk K H → LamOk K H'
section
variable {K : PySem.W.Frag}
theorem Keep.refl (S : List Addr) (H : Hp) : Keep K S H H := ⟨fun _ _ h _ _ => h, fun _ h => h, fun _ h => h, id⟩
theorem Keep.trans {S : List Addr} {H H1 H2 : Hp} (a : Keep K S H H1) (b : Keep K S H1 H2) : Keep K S H H2 := ⟨fun c o h n t => b.old c o (a.old c o h n t) n t, fun P h => b.tab P (a.tab P h), fun c h => a.gone c (b.gone c h), fun h => b.lam (a.lam h)⟩
theorem Keep.mono {S S' : List Addr} {H H' : Hp} (k : Keep K S H H') (h : ∀ b ∈ S, b ∈ S') : Keep K S' H H' := ⟨fun b o e n t => k.old b o e (fun z => n (h b z)) t, k.tab, k.gone, k.lam⟩
theorem Keep.any {S : List Addr} {H H' : Hp} (k : Keep K [] H H') : Keep K S H H' := k.mono fun _ h => absurd h List.not_mem_nil
/-- S' may be changed where it is new or stood in S -/
theorem Keep.trans' {S S' : List Addr} {H H1 H2 : Hp} (a : Keep K S H H1) (b : Keep K S' H1 H2) (h : ∀ x ∈ S', x ∈ S ∨ H x = none) : Keep K S H H2 :=
  ⟨fun c o e n t => b.old c o (a.old c o e n t) (fun z => (h c z).elim n fun y => by rw [e] at y; cases y) t, fun P h => b.tab P (a.tab P h), fun c h => a.gone c (b.gone c h), fun h => b.lam (a.lam h)⟩
/-- tables and code objects that stand as they stood -/
theorem tabS_at {H H' : Hp} {P : Addr} {q : Str} (t : LamX.TabS H P q) (h1 : ∀ ps, H P = some (.tbl ps) → H' P = some (.tbl ps)) (h2 : ∀ c, H c = some (LamX.CodeO c q) → H' c = some (LamX.CodeO c q)) : LamX.TabS H' P q := by
  obtain ⟨ps, a1, a2, a3⟩ := t
  refine ⟨ps, h1 _ a1, a2, fun pos cv hc => ?_⟩
  obtain ⟨c, e1, e2⟩ := a3 pos cv hc
  exact ⟨c, e1, h2 c e2⟩
theorem Keep.new {S : List Addr} {H : Hp} {p : Addr} {o : HO} (h : H p = none) : Keep K S H (upd H p o) := by
  have ne : ∀ b u, H b = some u → b ≠ p := fun b u e z => by rw [z, h] at e; cases e
  refine ⟨fun b u e _ _ => by rw [upd_ne (ne b u e)]; exact e, ?_, fun b e => ?_, fun t => tabS_at t (fun ps e => (upd_ne (ne _ _ e)).trans e) fun c e => (upd_ne (ne _ _ e)).trans e⟩
  · rintro P ⟨ps, e, ok⟩
    exact ⟨ps, by rw [upd_ne (ne P _ e)]; exact e, ok⟩
  · by_cases z : b = p
    · rw [z]
      exact h
    · rw [upd_ne z] at e
      exact e
theorem Keep.upd {S : List Addr} {H : Hp} {p : Addr} {o u : HO} (e0 : H p = some u) (hp : p ∈ S) (nt : NoT u) : Keep K S H (upd H p o) := by
  have nT : ∀ P ps, H P = some (.tbl ps) → P ≠ p := fun P ps e z => by
    rw [z, e0] at e
    exact nt.1 ps (Option.some.inj e)
  have nC : ∀ c q, H c = some (LamX.CodeO c q) → c ≠ p := fun c q e z => by
    rw [z, e0] at e
    exact nt.2 _ _ (Option.some.inj e)
  refine ⟨fun b v e n _ => by rw [upd_ne (fun z => n (by rw [z]; exact hp))]; exact e, ?_, fun b e => ?_, fun t => tabS_at t (fun ps e => (upd_ne (nT _ _ e)).trans e) fun c e => (upd_ne (nC _ _ e)).trans e⟩
  · rintro P ⟨ps, e, ok⟩
    exact ⟨ps, (upd_ne (nT _ _ e)).trans e, ok⟩
  · by_cases z : b = p
    · rw [z, upd_same] at e
      cases e
    · rw [upd_ne z] at e
      exact e
theorem codeO_tbl {c : Addr} {q : Str} {ps : Array Value} (h : LamX.CodeO c q = .tbl ps) : False := by
  unfold LamX.CodeO at h
  cases h
theorem Keep.tabbed {S : List Addr} {H H' : Hp} {P : Addr} (t : Tabbed P H H') (hP : TabG H P) (nR : P ≠ tabR K) : Keep K S H H' := by
  obtain ⟨g, k⟩ := t
  obtain ⟨ps0, e0, ok0⟩ := hP
  refine ⟨fun b o e _ nt => ?_, ?_, fun b e => ?_, fun t => tabS_at t (fun ps e => (k _ nR.symm).trans e) fun c e => (k c fun z => ?_).trans e⟩
  · rw [k b (fun z => by rw [z, e0] at e; exact nt.1 ps0 (Option.some.inj e).symm)]
    exact e
  · rintro P' ⟨ps, e, ok⟩
    by_cases z : P' = P
    · rw [z]
      exact g
    · exact ⟨ps, by rw [k P' z]; exact e, ok⟩
  · by_cases z : b = P
    · obtain ⟨ps, e1, _⟩ := g
      rw [z, e1] at e
      cases e
    · rw [← k b z]
      exact e
  · rw [z, e0] at e
    exact codeO_tbl (Option.some.inj e).symm
/-- something else is back at p as it was -/
theorem Keep.back {S : List Addr} {H H' : Hp} {p : Addr} {o u : HO} (e0 : H p = some u) (nt : NoT u) (k : Keep K S (L2.upd H p o) H') (no : NoT o) (hp : p ∉ S) : Keep K S H (L2.upd H' p u) := by
  have nT : ∀ P ps, H P = some (.tbl ps) → P ≠ p := fun P ps e z => by
    rw [z, e0] at e
    exact nt.1 ps (Option.some.inj e)
  have nC : ∀ c q, H c = some (LamX.CodeO c q) → c ≠ p := fun c q e z => by
    rw [z, e0] at e
    exact nt.2 _ _ (Option.some.inj e)
  have at_ : H' p = some o := k.old p o upd_same hp no
  refine ⟨fun b v e n t => ?_, ?_, fun b e => ?_, fun t => ?_⟩
  · by_cases z : b = p
    · rw [z, upd_same, ← e0, ← z]
      exact e
    · rw [upd_ne z]
      exact k.old b v (by rw [upd_ne z]; exact e) n t
  · rintro P ⟨ps, e, ok⟩
    have z := nT P ps e
    obtain ⟨ps', e', ok'⟩ := k.tab P ⟨ps, by rw [upd_ne z]; exact e, ok⟩
    exact ⟨ps', by rw [upd_ne z]; exact e', ok'⟩
  · by_cases z : b = p
    · rw [z, upd_same] at e
      cases e
    · rw [upd_ne z] at e
      have q := k.gone b e
      rw [upd_ne z] at q
      exact q
  · have t2 := k.lam (tabS_at t (fun ps e => (upd_ne (nT _ _ e)).trans e) fun c e => (upd_ne (nC _ _ e)).trans e)
    refine tabS_at t2 (fun ps e => (upd_ne fun z => ?_).trans e) fun c e => (upd_ne fun z => ?_).trans e
    · rw [z, at_] at e
      exact no.1 ps (Option.some.inj e)
    · rw [z, at_] at e
      exact no.2 _ _ (Option.some.inj e)
theorem nt_lst {xs : List V} : NoT (.lst xs) := ⟨(fun _ h => nomatch h), fun c q h => by
  unfold LamX.CodeO at h
  cases h⟩
theorem nt_tup {xs : List V} : NoT (.tup xs) := ⟨(fun _ h => nomatch h), fun c q h => by
  unfold LamX.CodeO at h
  cases h⟩
theorem nt_dK {xs : List (Key × V)} : NoT (.dK xs) := ⟨(fun _ h => nomatch h), fun c q h => by
  unfold LamX.CodeO at h
  cases h⟩
theorem nt_ins {C dx : Addr} {fs : List (Str × V)} : NoT (.ins C dx fs) := ⟨(fun _ h => nomatch h), fun c q h => by
  unfold LamX.CodeO at h
  cases h⟩
theorem nt_frz {o : Obj} {u : HO} : NoT (.frz o u) := ⟨(fun _ h => nomatch h), fun c q h => by
  unfold LamX.CodeO at h
  cases h⟩
theorem Keep.lst {S : List Addr} {H H' : Hp} {p : Addr} {xs : List V} (k : Keep K S H H') (h : H p = some (.lst xs)) (n : p ∉ S) : H' p = some (.lst xs) := k.old _ _ h n nt_lst
theorem Keep.tup {S : List Addr} {H H' : Hp} {p : Addr} {xs : List V} (k : Keep K S H H') (h : H p = some (.tup xs)) (n : p ∉ S) : H' p = some (.tup xs) := k.old _ _ h n nt_tup
theorem Keep.seq {S : List Addr} {K : PySem.W.Frag} {H H' : Hp} {p : Addr} {xs : List V} (k : Keep K S H H') (h : SqL K H p xs) (n : ∀ o, H p = some o → p ∉ S) : SqL K H' p xs := by
  rcases h with (h | ⟨o, h⟩) | h
  · exact .inl (.inl (k.old _ _ h (n _ h) nt_lst))
  · exact .inl (.inr ⟨o, k.old _ _ h (n _ h) nt_frz⟩)
  · exact .inr h

end
/-! ### texts -/
abbrev SIGNSL : List Nat := ("abcdefghijklmnopqrstuvwxyz0123456789" : Str).cps.toList
def isSign (c : Nat) : Bool := decide (c ∈ SIGNSL)
/-- a name -/
def isName (x : Str) : Bool := decide (1 ≤ x.length ∧ x.length ≤ 12) && x.cps.toList.all isSign
/-- a text of moderate size -/
def Small (x : Str) : Prop := x.length ≤ 100000 ∧ ∀ c ∈ x.cps.toList, c < 16 ^ 8
theorem isSign_lt {c : Nat} (h : isSign c = true) : c < 128 := by
  have h1 : ∀ c ∈ SIGNSL, c < 128 := by decide +kernel
  exact h1 c (of_decide_eq_true h)
theorem isName_len {x : Str} (h : isName x = true) : 1 ≤ x.length ∧ x.length ≤ 12 := by
  unfold isName at h
  rw [Bool.and_eq_true] at h
  exact of_decide_eq_true h.1
theorem isName_small {x : Str} (h : isName x = true) : Small x := by
  refine ⟨Nat.le_trans (isName_len h).2 (by decide), fun c hc => ?_⟩
  unfold isName at h
  rw [Bool.and_eq_true] at h
  exact Nat.lt_trans (isSign_lt (List.all_eq_true.mp h.2 c hc)) (by decide)
theorem Small.repr {x : Str} (h : Small x) : (reprText x).length ≤ 1000002 := Nat.le_trans (PySem.StrLaws.reprText_len x h.2) (by have := h.1; omega)
theorem Small.line {x : Str} (h : Small x) : x.length ≤ sizeLine := by
  have := h.1
  rw [sizeLine_eq]
  omega

/-! ### the desk -/
/-- what a caller does -/
inductive Stt where
  | rdy (since : Int) | slp (due : Int) | wtg (bell : Str)
  deriving DecidableEq
def Stt.word : Stt → Str
  | .rdy _ => "ready"
  | .slp _ => "asleep"
  | .wtg _ => "waiting"
def Stt.sinceV : Stt → V
  | .rdy s => .int s
  | _ => .non
def Stt.dueV : Stt → V
  | .slp s => .int s
  | _ => .non
def Stt.bellV : Stt → V
  | .wtg b => .str b
  | _ => .non
structure Cr where
  name : Str
  rank : Int
  st : Stt
  deriving DecidableEq
def Cr.fs (c : Cr) : List (Str × V) := [("name", .str c.name), ("rank", .int c.rank), ("state", .str c.st.word), ("since", c.st.sinceV), ("due", c.st.dueV), ("bell", c.st.bellV)]
structure Dk where
  pace : Int
  room : Int
  now : Int
  line : List Cr
def dFs (p r n : Int) (L : Addr) : List (Str × V) := [("pace", .int p), ("room", .int r), ("now", .int n), ("_line", .ref L)]
abbrev Ln := List (Addr × Cr)
def kvsOf (ln : Ln) : List (Key × V) := ln.map fun p => (Sum.inr p.2.name, .ref p.1)
def namesL (l : List Cr) : List Str := l.map (·.name)
section
variable (K : PySem.W.Frag)
/-- the caller c stands at a -/
def CrAt (H : Hp) (a : Addr) (c : Cr) : Prop := ∃ dx, H a = some (.ins (He.ga K "Caller") dx c.fs)
/-- the desk at d, its line at L, its callers -/
structure DkIn (H : Hp) (d L : Addr) (ln : Ln) (D : Dk) : Prop where
  desk : ∃ dx, H d = some (.ins (He.ga K "Desk") dx (dFs D.pace D.room D.now L))
  line : H L = some (.dK (kvsOf ln))
  crs : ∀ p ∈ ln, CrAt K H p.1 p.2
  eq : ln.map (·.2) = D.line
  nd : (ln.map (·.1)).Nodup
  nm : (namesL D.line).Nodup
  len : D.line.length ≤ 60
  ok : ∀ c ∈ D.line, isName c.name = true
  pr : (1 ≤ D.pace ∧ D.pace ≤ 1000) ∧ 1 ≤ D.room ∧ D.room ≤ 60
/-- .. S: all that is its own -/
def DkAt (H : Hp) (S : List Addr) (d : Addr) (D : Dk) : Prop := ∃ L ln, S = d :: L :: ln.map (·.1) ∧ DkIn K H d L ln D
end
section
variable {K : PySem.W.Frag} {H H' : Hp} {S S' : List Addr} {d L : Addr} {ln : Ln} {D : Dk}
theorem DkIn.keep (x : DkIn K H d L ln D) (k : Keep K S H H') (n : ∀ b ∈ d :: L :: ln.map (·.1), b ∉ S) : DkIn K H' d L ln D := by
  refine ⟨?_, k.old _ _ x.line (n L (by simp)) nt_dK, fun p hp => ?_, x.eq, x.nd, x.nm, x.len, x.ok, x.pr⟩
  · obtain ⟨dx, e⟩ := x.desk
    exact ⟨dx, k.old _ _ e (n d (by simp)) nt_ins⟩
  · obtain ⟨dx, e⟩ := x.crs p hp
    exact ⟨dx, k.old _ _ e (n p.1 (List.mem_cons_of_mem _ (List.mem_cons_of_mem _ (List.mem_map_of_mem hp)))) nt_ins⟩
theorem DkAt.keep (x : DkAt K H S d D) (k : Keep K S' H H') (n : ∀ b ∈ S, b ∉ S') : DkAt K H' S d D := by
  obtain ⟨L, ln, rfl, x⟩ := x
  exact ⟨L, ln, rfl, x.keep k n⟩
theorem DkAt.keep0 (x : DkAt K H S d D) (k : Keep K [] H H') : DkAt K H' S d D := x.keep k fun _ _ => List.not_mem_nil
/-- what is a list or a tuple is none of it -/
theorem DkAt.apart (x : DkAt K H S d D) {p : Addr} {o : HO} (e : H p = some o) (h : (∀ C dx fs, o ≠ .ins C dx fs) ∧ ∀ kvs, o ≠ .dK kvs) : p ∉ S := by
  obtain ⟨L, ln, rfl, x⟩ := x
  intro z
  rcases List.mem_cons.mp z with z | z
  · obtain ⟨dx, q⟩ := x.desk
    rw [z, q] at e
    exact h.1 _ _ _ (Option.some.inj e).symm
  · rcases List.mem_cons.mp z with z | z
    · have q := x.line
      rw [z, q] at e
      exact h.2 _ (Option.some.inj e).symm
    · obtain ⟨y, hy, z⟩ := List.mem_map.mp z
      obtain ⟨dx, q⟩ := x.crs y hy
      rw [← z, q] at e
      exact h.1 _ _ _ (Option.some.inj e).symm
theorem DkAt.lst (x : DkAt K H S d D) {p : Addr} {xs : List V} (e : H p = some (.lst xs)) : p ∉ S := x.apart e ⟨fun _ _ _ h => (nomatch h), fun _ h => (nomatch h)⟩
theorem DkAt.tup (x : DkAt K H S d D) {p : Addr} {xs : List V} (e : H p = some (.tup xs)) : p ∉ S := x.apart e ⟨fun _ _ _ h => (nomatch h), fun _ h => (nomatch h)⟩
theorem DkAt.frz (x : DkAt K H S d D) {p : Addr} {o : Obj} {u : HO} (e : H p = some (.frz o u)) : p ∉ S := x.apart e ⟨fun _ _ _ h => (nomatch h), fun _ h => (nomatch h)⟩
theorem DkAt.sq (x : DkAt K H S d D) {p : Addr} {xs : List V} (e : SqL K H p xs) : ∀ o, H p = some o → SqL K H p xs → (∃ ys, o = .lst ys) ∨ (∃ ob u, o = .frz ob u) → p ∉ S := by
  rintro o ho _ (⟨ys, rfl⟩ | ⟨ob, u, rfl⟩)
  · exact x.lst ho
  · exact x.frz ho
end
/-- S' is of S or new -/
def Sub (H : Hp) (S S' : List Addr) : Prop := ∀ b ∈ S', b ∈ S ∨ H b = none
theorem Sub.refl {H : Hp} {S : List Addr} : Sub H S S := fun _ h => .inl h
end Rr
namespace Rr
open PySem PySem.Spec PyProof.Rows L2
theorem fitN {a b : Str} {k : Nat} (n m : Nat) (ha : a.length ≤ n) (hb : b.length ≤ m) (h : n + m ≤ k := by decide) : (a ++ b).length ≤ k := by
  rw [Str.length_append]
  omega
/-- a text put behind another one -/
theorem fit {a b : Str} (n m : Nat) (ha : a.length ≤ n) (hb : b.length ≤ m) (h : n + m ≤ 16777216 := by decide) : (a ++ b).length ≤ sizeLine := by
  rw [sizeLine_eq]
  exact fitN n m ha hb h
theorem len0 : (Str.empty).length ≤ 0 := Nat.le_refl 0
theorem line_of {a : Str} {n : Nat} (ha : a.length ≤ n) (h : n ≤ 16777216 := by decide) : a.length ≤ sizeLine := by
  rw [sizeLine_eq]
  omega
/-- a whole number that is no monster -/
def Mod (i : Int) : Prop := -18446744073709551616 < i ∧ i < 18446744073709551616
theorem Mod.log {i : Int} (h : Mod i) : i.natAbs.log2 < 1920 := by
  unfold Mod at h
  by_cases z : i.natAbs = 0
  · rw [z]
    decide
  · have h1 : i.natAbs < 2 ^ 64 := by
      rw [show (2 : Nat) ^ 64 = 18446744073709551616 by decide]
      omega
    exact Nat.lt_trans ((Nat.log2_lt z).mpr h1) (by decide)
theorem Mod.len {i : Int} (h : Mod i) : (Str.ofString (toString i)).length ≤ 1921 := int_text_len_1921 h.log
section
variable {X : Cx} {e a b c : Expr} {t t' : TT} {ta tb tc : TE} {pos : Pos}
theorem PT.imp (h : PT X e t) (k : ∀ σ H Q, t' σ H Q → t σ H Q) : PT X e t' := ⟨fun pins s σ H Q I q => h.run pins s σ H Q I (k σ H Q q)⟩
theorem PE.imp {t t' : TE} (h : PE X e t) (k : ∀ σ H Q, t' σ H Q → t σ H Q) : PE X e t' := ⟨fun pins s σ H Q I q => h.run pins s σ H Q I (k σ H Q q)⟩
/-- a <= b <= c of three plain values -/
def tRng (ta tb tc : TE) : TT := fun σ H Q => ∃ i j k : Int, (∀ R : VK, R (.int i) H → ta σ H R) ∧ (∀ R : VK, R (.int j) H → tb σ H R) ∧ (∀ R : VK, R (.int k) H → tc σ H R) ∧ Q (decide (i ≤ j ∧ j ≤ k)) H
theorem pt_rng (ha : PE X a ta) (hb : PE X b tb) (hc : PE X c tc) (hm : lastMarks [CmpOp.LtE, CmpOp.LtE] [b, c] = false := by rfl) : PT X (.Compare a [.LtE, .LtE] [b, c] pos) (tRng ta tb tc) := by
  refine PT.imp (pt_chain op_le op_le ha hb hc (hm := hm)) ?_
  rintro σ H Q ⟨i, j, k, h1, h2, h3, q⟩
  refine h1 _ (h2 _ ⟨i, j, rfl, rfl, _, rfl, ite2 (fun h => h3 _ ⟨j, k, rfl, rfl, _, rfl, ?_⟩) (fun h => ⟨_, rfl, ?_⟩)⟩)
  · have e : decide (j ≤ k) = decide (i ≤ j ∧ j ≤ k) := by
      have := of_decide_eq_true h
      by_cases z : j ≤ k <;> simp [this, z]
    rw [e]
    exact q
  · have e : false = decide (i ≤ j ∧ j ≤ k) := by
      have : ¬ i ≤ j := fun z => h (decide_eq_true z)
      simp [this]
    rw [e]
    exact q
end
end Rr
namespace Rr
open PySem PySem.Spec PyProof.Rows L2
theorem putF_len (f : Str) (v : V) : ∀ fs : List (Str × V), (putF f v fs).length ≤ fs.length + 1
  | [] => Nat.le_refl _
  | (g, x) :: r => by
    unfold putF
    split
    · simp
    · have := putF_len f v r
      simp only [List.length_cons]
      omega
theorem putF_le {f : Str} {v : V} {fs : List (Str × V)} {n : Nat} (h : fs.length ≤ n) : (putF f v fs).length ≤ n + 1 := Nat.le_trans (putF_len f v fs) (by omega)
theorem few {fs : List (Str × V)} {n : Nat} (h : fs.length ≤ n) (k : n < 1000 := by decide) : fs.length < 1000 := by omega
end Rr
namespace Rr
open PySem PySem.Spec PyProof.Rows L2
open GxR (TabG Tabbed)
/-! ### the line as a dict -/
theorem kvs_find (n : Str) : ∀ ln : Ln, valV (kvsOf ln) (Sum.inr n : Key) = (ln.find? fun p => decide (p.2.name = n)).map fun p => V.ref p.1
  | [] => rfl
  | p :: r => by
    show valV ((Sum.inr p.2.name, V.ref p.1) :: kvsOf r) (Sum.inr n : Key) = _
    by_cases e : p.2.name = n
    · rw [valV_pos (congrArg Sum.inr e), List.find?_cons, decide_eq_true e]
      rfl
    · rw [valV_neg (fun z => e (Sum.inr.inj z)), List.find?_cons, decide_eq_false e]
      exact kvs_find n r
theorem kvs_drop (n : Str) : ∀ ln : Ln, dropK (kvsOf ln) (Sum.inr n : Key) = kvsOf (ln.filter fun p => decide (p.2.name ≠ n))
  | [] => rfl
  | p :: r => by
    show dropK ((Sum.inr p.2.name, V.ref p.1) :: kvsOf r) (Sum.inr n : Key) = _
    by_cases e : p.2.name = n
    · rw [dropK_pos (congrArg Sum.inr e), List.filter_cons, if_neg (by simp [e])]
      exact kvs_drop n r
    · rw [dropK_neg (fun z => e (Sum.inr.inj z)), List.filter_cons, if_pos (by simp [e])]
      exact congrArg (List.cons _) (kvs_drop n r)
theorem kvs_keys (ln : Ln) : (kvsOf ln).map (fun kv => kV kv.1) = (namesL (ln.map (·.2))).map V.str := by
  unfold kvsOf namesL
  rw [List.map_map, List.map_map, List.map_map]
  rfl
theorem kvs_len (ln : Ln) : (kvsOf ln).length = ln.length := List.length_map ..
theorem find_none {n : Str} {ln : Ln} (h : n ∉ namesL (ln.map (·.2))) : (ln.find? fun p => decide (p.2.name = n)) = none := by
  refine List.find?_eq_none.mpr fun p hp z => h ?_
  have e : p.2.name = n := of_decide_eq_true z
  rw [← e]
  exact List.mem_map_of_mem (List.mem_map_of_mem hp)
theorem find_some {n : Str} {ln : Ln} (h : n ∈ namesL (ln.map (·.2))) : ∃ p, (ln.find? fun p => decide (p.2.name = n)) = some p ∧ p ∈ ln ∧ p.2.name = n := by
  cases e : ln.find? fun p => decide (p.2.name = n) with
  | none =>
    obtain ⟨c, hc, rfl⟩ := List.mem_map.mp h
    obtain ⟨p, hp, rfl⟩ := List.mem_map.mp hc
    exact absurd (List.find?_eq_none.mp e p hp) (by simp)
  | some p => exact ⟨p, rfl, List.mem_of_find?_eq_some e, of_decide_eq_true (List.find?_some (p := fun p : Addr × Cr => decide (p.2.name = n)) e)⟩
section
variable {K : PySem.W.Frag} {H H' : Hp} {S S' : List Addr} {d L : Addr} {ln : Ln} {D : Dk}
theorem DkIn.dne (x : DkIn K H d L ln D) : d ≠ L := by
  obtain ⟨dx, e⟩ := x.desk
  exact ne_of e x.line (by intro z; cases z)
theorem DkIn.lne (x : DkIn K H d L ln D) {a : Addr} (h : a ∈ ln.map (·.1)) : a ≠ L := by
  obtain ⟨p, hp, rfl⟩ := List.mem_map.mp h
  obtain ⟨dx, e⟩ := x.crs p hp
  exact ne_of e x.line (by intro z; cases z)
theorem DkIn.cne (x : DkIn K H d L ln D) {a : Addr} (h : a ∈ ln.map (·.1)) : a ≠ d := by
  obtain ⟨p, hp, rfl⟩ := List.mem_map.mp h
  obtain ⟨dx, e⟩ := x.crs p hp
  obtain ⟨dy, e2⟩ := x.desk
  refine ne_of e e2 fun z => ?_
  injection z with _ _ z
  exact absurd (congrArg List.length z) (show ¬ (6 = 4) by decide)
/-- a caller more -/
theorem DkIn.add (x : DkIn K H d L ln D) {a : Addr} {c : Cr} (ha : H a = none) {o : HO} {b : Addr} (hb : H b = none) (hba : b ≠ a) {dx : Addr} (hc : c.name ∉ namesL D.line) (hl : D.line.length < 60) (hn : isName c.name = true) :
    DkIn K (upd (upd (upd H b o) a (.ins (He.ga K "Caller") dx c.fs)) L (.dK (putK (kvsOf ln) (Sum.inr c.name) (.ref a)))) d L (ln ++ [(a, c)]) { D with line := D.line ++ [c] } := by
  have nL : ∀ q v, H q = some v → q ≠ b ∧ q ≠ a := fun q v e => ⟨ne_of_none e hb, ne_of_none e ha⟩
  have ndL := nL _ _ x.line
  have new : valV (kvsOf ln) (Sum.inr c.name : Key) = none := by
    rw [kvs_find, find_none (by rw [x.eq]; exact hc)]
    rfl
  refine ⟨?_, ?_, fun p hp => ?_, ?_, ?_, ?_, ?_, fun y hy => ?_, x.pr⟩
  · obtain ⟨dy, e⟩ := x.desk
    obtain ⟨z1, z2⟩ := nL _ _ e
    exact ⟨dy, by rw [upd_ne x.dne, upd_ne z2, upd_ne z1]; exact e⟩
  · rw [upd_same, putK_new _ new]
    unfold kvsOf
    rw [List.map_append]
    rfl
  · rcases List.mem_append.mp hp with hp | hp
    · obtain ⟨dy, e⟩ := x.crs p hp
      obtain ⟨z1, z2⟩ := nL _ _ e
      exact ⟨dy, by rw [upd_ne (x.lne (List.mem_map_of_mem hp)), upd_ne z2, upd_ne z1]; exact e⟩
    · rw [List.mem_singleton.mp hp]
      exact ⟨dx, by rw [upd_ne (fun z => ndL.2 z.symm), upd_same]⟩
  · rw [List.map_append, x.eq]
    rfl
  · rw [List.map_append]
    refine nd_snoc x.nd fun z => ?_
    obtain ⟨p, hp, e⟩ := List.mem_map.mp z
    obtain ⟨dy, e2⟩ := x.crs p hp
    rw [e, ha] at e2
    cases e2
  · show (namesL (D.line ++ [c])).Nodup
    unfold namesL
    rw [List.map_append]
    exact nd_snoc x.nm hc
  · show (D.line ++ [c]).length ≤ 60
    rw [List.length_append]
    simp
    omega
  · rcases List.mem_append.mp hy with h | h
    · exact x.ok y h
    · rw [List.mem_singleton.mp h]
      exact hn
end
end Rr
namespace Rr
open PySem PySem.Spec PyProof.Rows L2
theorem atZ {α : Type} {xs : List α} {z : Int} (h0 : 0 ≤ z) (h : z.toNat < xs.length) : atI xs z = some xs[z.toNat] := by
  have e : atI xs ((z.toNat : Nat) : Int) = xs[z.toNat]? := by
    cases q : xs[z.toNat]? with
    | none => exact absurd (List.getElem?_eq_none_iff.mp q) (by omega)
    | some x => exact atI_nat q
  rw [Int.toNat_of_nonneg h0] at e
  rw [e, List.getElem?_eq_getElem h]
end Rr
namespace Rr
open PySem PySem.Spec PyProof.Rows L2
/-- what is new, or is of S, is written -/
theorem Keep.set {K : PySem.W.Frag} {S : List Addr} {H H1 : Hp} {p : Addr} {o u : HO} (k : Keep K S H H1) (h0 : H p = none ∨ p ∈ S) (e : H1 p = some u) (nt : NoT u) : Keep K S H (L2.upd H1 p o) :=
  k.trans' (S' := [p]) (Keep.upd e (List.mem_singleton.mpr rfl) nt) fun x hx => by
    rw [List.mem_singleton.mp hx]
    exact h0.symm
end Rr

set_option maxRecDepth 100000
set_option maxHeartbeats 4000000
/-! what a desk does, over plain lists; the same in the heap -/
namespace Rr
open PySem PySem.Spec PyProof.Rows L2
open GxR (TabG Tabbed)
/-! ### over lists -/
/-- the caller of c's name becomes c, in its place -/
def setC (c : Cr) (l : List Cr) : List Cr := l.map fun x => if x.name = c.name then c else x
/-- the caller named n goes to the end -/
def lastC (n : Str) (l : List Cr) : List Cr := (l.filter fun x => decide (x.name ≠ n)) ++ l.filter fun x => decide (x.name = n)
def dropC (n : Str) (l : List Cr) : List Cr := l.filter fun x => decide (x.name ≠ n)
def setLn (c : Cr) (l : Ln) : Ln := l.map fun p => if p.2.name = c.name then (p.1, c) else p
def lastLn (n : Str) (l : Ln) : Ln := (l.filter fun p => decide (p.2.name ≠ n)) ++ l.filter fun p => decide (p.2.name = n)
def dropLn (n : Str) (l : Ln) : Ln := l.filter fun p => decide (p.2.name ≠ n)
theorem setLn_snd (c : Cr) (l : Ln) : (setLn c l).map (·.2) = setC c (l.map (·.2)) := by
  unfold setLn setC
  rw [List.map_map, List.map_map]
  refine List.map_congr_left fun p _ => ?_
  show (if p.2.name = c.name then (p.1, c) else p).2 = if p.2.name = c.name then c else p.2
  split <;> rfl
theorem setLn_fst (c : Cr) (l : Ln) : (setLn c l).map (·.1) = l.map (·.1) := by
  unfold setLn
  rw [List.map_map]
  refine List.map_congr_left fun p _ => ?_
  show (if p.2.name = c.name then (p.1, c) else p).1 = p.1
  split <;> rfl
theorem filter_snd (q : Cr → Bool) (l : Ln) : (l.filter fun p => q p.2).map (·.2) = (l.map (·.2)).filter q := by
  induction l with
  | nil => rfl
  | cons p r ih =>
    rw [List.filter_cons, List.map_cons, List.filter_cons]
    split
    · rw [List.map_cons, ih]
    · exact ih
theorem lastLn_snd (n : Str) (l : Ln) : (lastLn n l).map (·.2) = lastC n (l.map (·.2)) := by
  unfold lastLn lastC
  rw [List.map_append, filter_snd (fun c => decide (c.name ≠ n)), filter_snd (fun c => decide (c.name = n))]
theorem dropLn_snd (n : Str) (l : Ln) : (dropLn n l).map (·.2) = dropC n (l.map (·.2)) := filter_snd (fun c => decide (c.name ≠ n)) l
theorem parts_perm {α : Type} (q : α → Bool) : ∀ l : List α, ((l.filter fun x => !q x) ++ l.filter q).Perm l
  | [] => .nil
  | x :: r => by
    rw [List.filter_cons, List.filter_cons]
    cases e : q x with
    | true => exact List.perm_middle.trans ((parts_perm q r).cons x)
    | false => exact (parts_perm q r).cons x
theorem lastC_perm (n : Str) (l : List Cr) : (lastC n l).Perm l := by
  have h := parts_perm (fun x : Cr => decide (x.name = n)) l
  unfold lastC
  have e : (fun x : Cr => decide (x.name ≠ n)) = fun x => !decide (x.name = n) := funext fun x => by simp
  rw [e]
  exact h
theorem lastLn_perm (n : Str) (l : Ln) : (lastLn n l).Perm l := by
  have h := parts_perm (fun x : Addr × Cr => decide (x.2.name = n)) l
  unfold lastLn
  have e : (fun x : Addr × Cr => decide (x.2.name ≠ n)) = fun x => !decide (x.2.name = n) := funext fun x => by simp
  rw [e]
  exact h
theorem setC_names (c : Cr) (l : List Cr) : namesL (setC c l) = namesL l := by
  unfold namesL setC
  rw [List.map_map]
  refine List.map_congr_left fun x _ => ?_
  show (if x.name = c.name then c else x).name = x.name
  split
  · rename_i h
    exact h.symm
  · rfl
theorem setC_len (c : Cr) (l : List Cr) : (setC c l).length = l.length := List.length_map ..
/-- of one name there is one -/
theorem name_one : ∀ {l : List Cr}, (namesL l).Nodup → ∀ {x y : Cr}, x ∈ l → y ∈ l → x.name = y.name → x = y
  | [], _, _, _, h, _, _ => nomatch h
  | c :: r, nd, x, y, hx, hy, e => by
    obtain ⟨n1, n2⟩ := List.nodup_cons.mp (show (c.name :: namesL r).Nodup from nd)
    rcases List.mem_cons.mp hx with a | a
    · rcases List.mem_cons.mp hy with b | b
      · rw [a, b]
      · exact absurd (by rw [← a, e]; exact List.mem_map_of_mem b) n1
    · rcases List.mem_cons.mp hy with b | b
      · exact absurd (by rw [← b, ← e]; exact List.mem_map_of_mem a) n1
      · exact name_one n2 a b e
theorem only_name {l : List Cr} (nd : (namesL l).Nodup) {c : Cr} (h : c ∈ l) : (l.filter fun x => decide (x.name = c.name)) = [c] := by
  induction l with
  | nil => exact nomatch h
  | cons x r ih =>
    obtain ⟨n1, n2⟩ := List.nodup_cons.mp (show (x.name :: namesL r).Nodup from nd)
    rw [List.filter_cons]
    rcases List.mem_cons.mp h with a | a
    · subst a
      rw [if_pos (decide_eq_true rfl)]
      congr 1
      exact List.filter_eq_nil_iff.mpr fun y hy z => n1 (by rw [← of_decide_eq_true z]; exact List.mem_map_of_mem hy)
    · have ne : x.name ≠ c.name := fun z => n1 (by rw [z]; exact List.mem_map_of_mem a)
      rw [if_neg (by simp [ne])]
      exact ih n2 a
/-- changed, then last: the others in their order, then the one -/
theorem last_set {l : List Cr} (nd : (namesL l).Nodup) {c c' : Cr} (h : c ∈ l) (hn : c'.name = c.name) : lastC c'.name (setC c' l) = dropC c'.name l ++ [c'] := by
  unfold lastC dropC
  have h1 : ((setC c' l).filter fun x => decide (x.name ≠ c'.name)) = l.filter fun x => decide (x.name ≠ c'.name) := by
    unfold setC
    rw [List.filter_map]
    have e : ((fun x : Cr => decide (x.name ≠ c'.name)) ∘ fun x => if x.name = c'.name then c' else x) = fun x => decide (x.name ≠ c'.name) := by
      funext x
      show decide ((if x.name = c'.name then c' else x).name ≠ c'.name) = _
      split
      · rename_i q
        simp [q]
      · rfl
    rw [e]
    have e2 : ∀ x ∈ l.filter fun x => decide (x.name ≠ c'.name), (if x.name = c'.name then c' else x) = x := fun x hx => if_neg (of_decide_eq_true (List.mem_filter.mp hx).2)
    rw [List.map_congr_left e2, List.map_id']
  have h2 : ((setC c' l).filter fun x => decide (x.name = c'.name)) = [c'] := only_name (by rw [setC_names]; exact nd) (List.mem_map.mpr ⟨c, h, if_pos hn.symm⟩)
  rw [h1, h2]

/-! ### in the heap -/
section
variable {K : PySem.W.Frag} {H H' : Hp} {S S' : List Addr} {d L a : Addr} {ln : Ln} {D : Dk} {c c' : Cr}
theorem DkIn.one (x : DkIn K H d L ln D) {p q : Addr × Cr} (hp : p ∈ ln) (hq : q ∈ ln) (e : p.2.name = q.2.name) : p = q := by
  have h1 : p.2 = q.2 := name_one x.nm (by rw [← x.eq]; exact List.mem_map_of_mem hp) (by rw [← x.eq]; exact List.mem_map_of_mem hq) e
  have key : ∀ {l : Ln}, (namesL (l.map (·.2))).Nodup → p ∈ l → q ∈ l → p = q := by
    intro l
    induction l with
    | nil => intro _ h; exact nomatch h
    | cons y r ih =>
      intro nd hp hq
      obtain ⟨n1, n2⟩ := List.nodup_cons.mp (show (y.2.name :: namesL (r.map (·.2))).Nodup from nd)
      rcases List.mem_cons.mp hp with a | a
      · rcases List.mem_cons.mp hq with b | b
        · rw [a, b]
        · exact absurd (by rw [← a, e]; exact List.mem_map_of_mem (List.mem_map_of_mem b)) n1
      · rcases List.mem_cons.mp hq with b | b
        · exact absurd (by rw [← b, ← e]; exact List.mem_map_of_mem (List.mem_map_of_mem a)) n1
        · exact ih n2 a b
  exact key (by rw [x.eq]; exact x.nm) hp hq
theorem DkIn.dL (x : DkIn K H d L ln D) (h : a ∈ ln.map (·.1)) : a ≠ d ∧ a ≠ L := ⟨x.cne h, x.lne h⟩
/-- a caller is changed in its place -/
theorem DkIn.set (x : DkIn K H d L ln D) (hp : (a, c) ∈ ln) (hn : c'.name = c.name) {dx : Addr} : DkIn K (upd H a (.ins (He.ga K "Caller") dx c'.fs)) d L (setLn c' ln) { D with line := setC c' D.line } := by
  have ha : a ∈ ln.map (·.1) := List.mem_map_of_mem hp
  obtain ⟨nd, nL⟩ := x.dL ha
  refine ⟨?_, (upd_ne nL.symm).trans (x.line.trans ?_), fun p hp' => ?_, ?_, ?_, ?_, ?_, fun y hy => ?_, x.pr⟩
  · obtain ⟨dy, e⟩ := x.desk
    exact ⟨dy, (upd_ne nd.symm).trans e⟩
  · have e : kvsOf (setLn c' ln) = kvsOf ln := by
      unfold kvsOf setLn
      rw [List.map_map]
      refine List.map_congr_left fun p _ => ?_
      show ((Sum.inr (if p.2.name = c'.name then (p.1, c') else p).2.name : Key), V.ref (if p.2.name = c'.name then (p.1, c') else p).1) = _
      split
      · rename_i q
        rw [q]
      · rfl
    rw [e]
  · obtain ⟨q, hq, rfl⟩ := List.mem_map.mp hp'
    by_cases e : q.2.name = c'.name
    · have eq : q = (a, c) := x.one hq hp (e.trans hn)
      rw [if_pos e, eq]
      exact ⟨dx, upd_same⟩
    · rw [if_neg e]
      obtain ⟨dy, e2⟩ := x.crs q hq
      refine ⟨dy, (upd_ne fun z => ?_).trans e2⟩
      have z1 : q = (a, c) := by
        have key : ∀ {l : Ln}, (l.map (·.1)).Nodup → q ∈ l → (a, c) ∈ l → q = (a, c) := by
          intro l
          induction l with
          | nil => intro _ h; exact nomatch h
          | cons y r ih =>
            intro nd hp hq
            obtain ⟨n1, n2⟩ := List.nodup_cons.mp (show (y.1 :: r.map (·.1)).Nodup from nd)
            rcases List.mem_cons.mp hp with s | s
            · rcases List.mem_cons.mp hq with t | t
              · rw [s, t]
              · exact absurd (by rw [← s, z]; exact List.mem_map_of_mem (f := (·.1)) t) n1
            · rcases List.mem_cons.mp hq with t | t
              · exact absurd (by rw [← t]; show a ∈ _; rw [← z]; exact List.mem_map_of_mem (f := (·.1)) s) n1
              · exact ih n2 s t
        exact key x.nd hq hp
      rw [z1] at e
      exact e hn.symm
  · rw [setLn_snd, x.eq]
  · rw [setLn_fst]
    exact x.nd
  · show (namesL (setC c' D.line)).Nodup
    rw [setC_names]
    exact x.nm
  · show (setC c' D.line).length ≤ 60
    rw [setC_len]
    exact x.len
  · obtain ⟨z, hz, rfl⟩ := List.mem_map.mp (show y ∈ D.line.map _ from hy)
    split
    · rw [hn]
      exact x.ok c (by rw [← x.eq]; exact List.mem_map_of_mem hp)
    · exact x.ok z hz
theorem kvs_last (n : Str) (h : ∃ p ∈ ln, p.2 = c ∧ p.1 = a) (hn : c.name = n) (nd : (namesL (ln.map (·.2))).Nodup) : putK (dropK (kvsOf ln) (Sum.inr n)) (Sum.inr n) (V.ref a) = kvsOf (lastLn n ln) := by
  obtain ⟨p, hp, rfl, rfl⟩ := h
  rw [kvs_drop, putK_new]
  · unfold lastLn
    have e : (ln.filter fun p => decide (p.2.name = n)) = [p] := by
      have key : ∀ {l : Ln}, (namesL (l.map (·.2))).Nodup → p ∈ l → (l.filter fun p => decide (p.2.name = n)) = [p] := by
        intro l
        induction l with
        | nil => intro _ h; exact nomatch h
        | cons y r ih =>
          intro nd hp
          obtain ⟨n1, n2⟩ := List.nodup_cons.mp (show (y.2.name :: namesL (r.map (·.2))).Nodup from nd)
          rw [List.filter_cons]
          rcases List.mem_cons.mp hp with s | s
          · subst s
            rw [if_pos (decide_eq_true hn)]
            congr 1
            exact List.filter_eq_nil_iff.mpr fun z hz q => n1 (by rw [hn, ← of_decide_eq_true q]; exact List.mem_map_of_mem (List.mem_map_of_mem hz))
          · have ne : y.2.name ≠ n := fun z => n1 (by rw [z, ← hn]; exact List.mem_map_of_mem (List.mem_map_of_mem s))
            rw [if_neg (by simp [ne])]
            exact ih n2 s
      exact key nd hp
    rw [e]
    unfold kvsOf
    rw [List.map_append, List.map_cons, List.map_nil, hn]
  · rw [kvs_find, List.find?_eq_none.mpr]
    · rfl
    · intro q hq z
      have := (List.mem_filter.mp hq).2
      simp at this z
      exact this z
/-- a caller goes to the end -/
theorem DkIn.last (x : DkIn K H d L ln D) (hp : (a, c) ∈ ln) : DkIn K (upd (upd H L (.dK (dropK (kvsOf ln) (Sum.inr c.name)))) L (.dK (putK (dropK (kvsOf ln) (Sum.inr c.name)) (Sum.inr c.name) (.ref a)))) d L (lastLn c.name ln) { D with line := lastC c.name D.line } := by
  rw [upd_upd, kvs_last c.name ⟨_, hp, rfl, rfl⟩ rfl (by rw [x.eq]; exact x.nm)]
  refine ⟨?_, upd_same, fun p hp' => ?_, ?_, ?_, ?_, ?_, fun y hy => x.ok y ((lastC_perm _ _).mem_iff.mp hy), x.pr⟩
  · obtain ⟨dy, e⟩ := x.desk
    exact ⟨dy, (upd_ne x.dne).trans e⟩
  · have hp2 : p ∈ ln := (lastLn_perm _ _).mem_iff.mp hp'
    obtain ⟨dy, e2⟩ := x.crs p hp2
    exact ⟨dy, (upd_ne (x.lne (List.mem_map_of_mem hp2))).trans e2⟩
  · rw [lastLn_snd, x.eq]
  · exact ((lastLn_perm _ _).map _).nodup_iff.mpr x.nd
  · exact ((lastC_perm _ _).map _).nodup_iff.mpr x.nm
  · exact Nat.le_trans (Nat.le_of_eq (lastC_perm _ _).length_eq) x.len
/-- a caller leaves -/
theorem DkIn.drop (x : DkIn K H d L ln D) (n : Str) : DkIn K (upd H L (.dK (dropK (kvsOf ln) (Sum.inr n)))) d L (dropLn n ln) { D with line := dropC n D.line } := by
  rw [kvs_drop]
  refine ⟨?_, upd_same, fun p hp' => ?_, ?_, ?_, ?_, ?_, fun y hy => x.ok y (List.mem_filter.mp hy).1, x.pr⟩
  · obtain ⟨dy, e⟩ := x.desk
    exact ⟨dy, (upd_ne x.dne).trans e⟩
  · have hp2 : p ∈ ln := (List.mem_filter.mp hp').1
    obtain ⟨dy, e2⟩ := x.crs p hp2
    exact ⟨dy, (upd_ne (x.lne (List.mem_map_of_mem hp2))).trans e2⟩
  · rw [dropLn_snd, x.eq]
  · exact x.nd.sublist (List.filter_sublist.map _)
  · exact x.nm.sublist (List.filter_sublist.map _)
  · exact Nat.le_trans (List.length_filter_le _ _) x.len
/-- the time is set -/
theorem DkIn.time (x : DkIn K H d L ln D) {n : Int} {dx : Addr} : DkIn K (upd H d (.ins (He.ga K "Desk") dx (dFs D.pace D.room n L))) d L ln { D with now := n } := by
  refine ⟨⟨dx, upd_same⟩, (upd_ne x.dne.symm).trans x.line, fun p hp => ?_, x.eq, x.nd, x.nm, x.len, x.ok, x.pr⟩
  obtain ⟨dy, e2⟩ := x.crs p hp
  exact ⟨dy, (upd_ne (x.cne (List.mem_map_of_mem hp))).trans e2⟩
end
end Rr
namespace Rr
open PySem PySem.Spec PyProof.Rows L2
open GxR (TabG Tabbed)
/-! ### the first of the greatest -/
def pkS {α : Type} (f : α → Int) (s : Nat × Option (Nat × α)) (x : α) : Nat × Option (Nat × α) :=
  (s.1 + 1, match s.2 with
    | none => some (s.1, x)
    | some y => if f y.2 < f x then some (s.1, x) else some y)
def pickI {α : Type} (f : α → Int) (l : List α) : Option (Nat × α) := (l.foldl (pkS f) (0, none)).2
/-- the first of those with the greatest f -/
def pick {α : Type} (f : α → Int) (l : List α) : Option α := (pickI f l).map (·.2)
theorem pk_fst {α : Type} (f : α → Int) : ∀ (l : List α) (s : Nat × Option (Nat × α)), (l.foldl (pkS f) s).1 = s.1 + l.length
  | [], _ => rfl
  | x :: r, s => by
    rw [List.foldl_cons, pk_fst f r, List.length_cons]
    show s.1 + 1 + r.length = _
    omega
theorem pickI_snoc {α : Type} (f : α → Int) (l : List α) (x : α) : pickI f (l ++ [x]) = match pickI f l with
    | none => some (l.length, x)
    | some y => if f y.2 < f x then some (l.length, x) else some y := by
  unfold pickI
  rw [List.foldl_append]
  have h := pk_fst f l (0, none)
  show (match (l.foldl (pkS f) (0, none)).2 with
    | none => some ((l.foldl (pkS f) (0, none)).1, x)
    | some y => if f y.2 < f x then some ((l.foldl (pkS f) (0, none)).1, x) else some y) = _
  rw [h]
  simp
theorem pickI_at {α : Type} (f : α → Int) : ∀ (n : Nat) (l : List α), l.length = n → ∀ {j : Nat} {x : α}, pickI f l = some (j, x) → l[j]? = some x
  | 0, l, hl, j, x, h => by
    rw [List.length_eq_zero_iff.mp hl] at h
    cases h
  | n + 1, l, hl, j, x, h => by
    obtain ⟨r, y, rfl⟩ : ∃ r y, l = r ++ [y] := by
      cases l with
      | nil => cases hl
      | cons a b => exact ⟨_, _, (List.dropLast_concat_getLast (List.cons_ne_nil a b)).symm⟩
    have hr : r.length = n := by simpa using hl
    rw [pickI_snoc] at h
    have new : some (r.length, y) = some (j, x) → (r ++ [y])[j]? = some x := fun e => by
      cases e
      simp
    have old : ∀ {z : Nat × α}, pickI f r = some z → some z = some (j, x) → (r ++ [y])[j]? = some x := fun {z} e1 e2 => by
      rw [Option.some.inj e2] at e1
      have q := pickI_at f n r hr e1
      rw [List.getElem?_append_left (List.getElem?_eq_some_iff.mp q).1]
      exact q
    cases e : pickI f r with
    | none =>
      rw [e] at h
      exact new h
    | some z =>
      rw [e] at h
      have h' : (if f z.2 < f y then some (r.length, y) else some z) = some (j, x) := h
      split at h'
      · exact new h'
      · exact old e h'
theorem pickI_map {α β : Type} (f : β → Int) (g : α → β) : ∀ (n : Nat) (l : List α), l.length = n → pickI f (l.map g) = (pickI (fun x => f (g x)) l).map fun y => (y.1, g y.2)
  | 0, l, hl => by
    rw [List.length_eq_zero_iff.mp hl]
    rfl
  | n + 1, l, hl => by
    obtain ⟨r, y, rfl⟩ : ∃ r y, l = r ++ [y] := by
      cases l with
      | nil => cases hl
      | cons a b => exact ⟨_, _, (List.dropLast_concat_getLast (List.cons_ne_nil a b)).symm⟩
    have hr : r.length = n := by simpa using hl
    rw [List.map_append, List.map_cons, List.map_nil, pickI_snoc, pickI_snoc, pickI_map f g n r hr, List.length_map]
    cases pickI (fun x => f (g x)) r with
    | none => rfl
    | some z =>
      show (if f (g z.2) < f (g y) then some (r.length, g y) else some (z.1, g z.2)) = Option.map _ (if f (g z.2) < f (g y) then some (r.length, y) else some z)
      split <;> rfl
theorem pickI_none {α : Type} {f : α → Int} {l : List α} (h : pickI f l = none) : l = [] := by
  cases l with
  | nil => rfl
  | cons a b =>
    obtain ⟨r, y, e⟩ : ∃ r y, a :: b = r ++ [y] := ⟨_, _, (List.dropLast_concat_getLast (List.cons_ne_nil a b)).symm⟩
    rw [e, pickI_snoc] at h
    cases q : pickI f r with
    | none =>
      rw [q] at h
      cases h
    | some z =>
      rw [q] at h
      have h' : (if f z.2 < f y then some (r.length, y) else some z) = none := h
      split at h' <;> cases h'

/-! ### the desk's deeds -/
def Stt.isRdy : Stt → Bool
  | .rdy _ => true
  | _ => false
/-- since when it is ready -/
def Stt.since : Stt → Int
  | .rdy s => s
  | _ => 0
def readies (l : List Cr) : List Cr := l.filter (·.st.isRdy)
def readyLn (l : Ln) : Ln := l.filter (·.2.st.isRdy)
def agedC (p now : Int) (c : Cr) : Int := c.rank + (now - c.st.since) / p
def Dk.pick (D : Dk) : Option Cr := Rr.pick (agedC D.pace D.now) (readies D.line)
/-- it becomes so, and goes to the end -/
def Dk.move (D : Dk) (c : Cr) : Dk := { D with line := lastC c.name (setC c D.line) }
def Cr.as (c : Cr) (s : Stt) : Cr := { c with st := s }
def Dk.wakeAll (D : Dk) (cs : List Cr) : Dk := cs.foldl (fun D c => D.move (c.as (.rdy D.now))) D
def Dk.leave (D : Dk) (n : Str) : Dk := { D with line := dropC n D.line }
def Dk.ring (D : Dk) (b : Str) : Dk := D.wakeAll (D.line.filter fun c => decide (c.st = .wtg b))
def Dk.setR (D : Dk) (c : Cr) : Dk := { D with line := setC c D.line }
/-- the time grows; whose time to wake has come is ready -/
def Dk.tick (D : Dk) : Dk := ({ D with now := D.now + 1 } : Dk).wakeAll (D.line.filter fun c => decide (c.st = .slp (D.now + 1)))
def Dk.turn (D : Dk) : Dk := match D.pick with
  | none => D.tick
  | some c => D.tick.move (c.as (.rdy (D.now + 1)))
def nmV : Option Cr → V
  | none => .non
  | some c => .str c.name
theorem readyLn_snd (l : Ln) : (readyLn l).map (·.2) = readies (l.map (·.2)) := filter_snd (fun c => c.st.isRdy) l
/-- a dict comprehension over a walk -/
theorem dc_it {J : It} {n : Nat} {G : Hp → Prop} {Y : Nat → Hp → V → Hp → Prop} (w : Walk J n G Y) {g : TG} {tt : TT} {tk tv : TE} {vs : List Nat} {σ : L2.St} {H1 : Hp} {D : Addr} {Qd : Hp → Prop} (Pv : Nat → Hp → Prop) (h0 : Pv 0 (upd H1 D (.dK []))) (hG : ∀ i H, i ≤ n → Pv i H → G H)
    (hs : ∀ i x H H', i < n → Pv i H → Y i H x H' → g x (wipe σ vs) H' fun σ2 H2 => wipe σ2 vs = wipe σ vs ∧ tt σ2 H2 fun b H3 => if b = true then tk σ2 H3 fun y H4 => tv σ2 H4 fun z H5 => ∃ kvs k, y = kV k ∧ H5 D = some (.dK kvs) ∧ kvs.length < sizeLine ∧ Pv (i + 1) (upd H5 D (.dK (putK kvs k z))) else Pv (i + 1) H3)
    (hd : ∀ H, Pv n H → Qd H) :
    ∃ W : Nat → Nat → Hp → Prop, (∃ m, W 0 m (upd H1 D (.dK []))) ∧ ∀ i m H, W i m H → (J.stop i H ∧ Qd H) ∨ (J.go i H ∧ ∃ Nx : Hp → Prop, (∀ H', Nx H' → ∃ m', m' < m ∧ W (i + 1) m' H') ∧
      ∀ x H', J.yld i H x H' → g x (wipe σ vs) H' fun σ2 H2 => wipe σ2 vs = wipe σ vs ∧ tt σ2 H2 fun b H3 => if b = true then tk σ2 H3 fun y H4 => tv σ2 H4 fun z H5 => ∃ kvs k, y = kV k ∧ H5 D = some (.dK kvs) ∧ kvs.length < sizeLine ∧ Nx (upd H5 D (.dK (putK kvs k z))) else Nx H3) := by
  refine ⟨fun i m H => m = n - i ∧ i ≤ n ∧ Pv i H, ⟨n, (Nat.sub_zero n).symm, Nat.zero_le _, h0⟩, ?_⟩
  rintro i m H ⟨rfl, hi, p⟩
  rcases Nat.lt_or_ge i n with hlt | hge
  · exact .inr ⟨w.goes i H hlt (hG i H hi p), Pv (i + 1), fun H' p' => ⟨n - (i + 1), Nat.sub_succ_lt_self n i hlt, rfl, hlt, p'⟩, fun x H' y => hs i x H H' hlt p (w.yields i H x H' hlt (hG i H hi p) y)⟩
  · have e : i = n := Nat.le_antisymm hi hge
    rw [e] at p ⊢
    exact .inl ⟨w.stops H (hG n H (Nat.le_refl _) p), hd H p⟩
end Rr

set_option maxRecDepth 100000
set_option maxHeartbeats 4000000
/-! desks as texts -/
namespace Rr
open PySem PySem.Spec PyProof.Rows L2
open TL (tl tl_append len_tl tl_join joinL numL numL_len numL_ne numL_digits numL_lt numL_step tl_num)
abbrev numT (i : Int) : Str := Str.ofString (toString i)
def Stt.told (now : Int) : Stt → Str
  | .rdy s => numT (now - s)
  | .slp u => numT (u - now)
  | .wtg b => b
def wordsC (now : Int) (c : Cr) : List Str := [c.name, numT c.rank, c.st.word, c.st.told now]
def headD (D : Dk) : List Str := ["desk", numT D.pace, numT D.room, numT D.now]
def rowsD (D : Dk) : List Str := Str.join " " (headD D) :: D.line.map fun c => Str.join " " (wordsC D.now c)
def textD (D : Dk) : Str := Str.join "\n" (rowsD D) ++ "\n"
def GoodSt (now : Int) : Stt → Prop
  | .rdy s => 0 ≤ s ∧ s ≤ now
  | .slp u => 1 ≤ u - now ∧ u - now ≤ 1000
  | .wtg b => isName b = true
structure GoodD (D : Dk) : Prop where
  pr : (1 ≤ D.pace ∧ D.pace ≤ 1000) ∧ 1 ≤ D.room ∧ D.room ≤ 60
  t0 : 0 ≤ D.now
  t1 : D.now < 1000000000000
  len : (D.line.length : Int) ≤ D.room
  nm : (namesL D.line).Nodup
  ok : ∀ c ∈ D.line, isName c.name = true
  rk : ∀ c ∈ D.line, 0 ≤ c.rank ∧ c.rank ≤ 99
  st : ∀ c ∈ D.line, GoodSt D.now c.st
/-- a word: no blank, no line end, short -/
def WordOk (w : Str) : Prop := w.length ≤ 12 ∧ ∀ c ∈ tl w, 33 ≤ c ∧ c < 128
theorem joinL_mem {S : List Nat} {c : Nat} : ∀ {l : List (List Nat)}, c ∈ joinL S l → c ∈ S ∨ ∃ p ∈ l, c ∈ p
  | [], h => nomatch h
  | [p], h => .inr ⟨p, List.mem_singleton.mpr rfl, h⟩
  | p :: q :: r, h => by
    rcases List.mem_append.mp (show c ∈ p ++ (S ++ joinL S (q :: r)) from h) with h | h
    · exact .inr ⟨p, List.mem_cons_self, h⟩
    · rcases List.mem_append.mp h with h | h
      · exact .inl h
      · rcases joinL_mem h with h | ⟨z, hz, h⟩
        · exact .inl h
        · exact .inr ⟨z, List.mem_cons_of_mem _ hz, h⟩
theorem joinL_len {S : List Nat} {m : Nat} : ∀ {l : List (List Nat)}, (∀ p ∈ l, p.length ≤ m) → (joinL S l).length ≤ l.length * (m + S.length)
  | [], _ => Nat.zero_le _
  | [p], h => by
    show p.length ≤ 1 * (m + S.length)
    have := h p (List.mem_singleton.mpr rfl)
    omega
  | p :: q :: r, h => by
    show (p ++ (S ++ joinL S (q :: r))).length ≤ ((q :: r).length + 1) * (m + S.length)
    rw [List.length_append, List.length_append, Nat.add_mul, Nat.one_mul]
    have h1 := h p List.mem_cons_self
    have h2 := joinL_len (S := S) (l := q :: r) fun z hz => h z (List.mem_cons_of_mem _ hz)
    omega
theorem join_len_le {y : Str} {m : Nat} {ws : List Str} (h : ∀ w ∈ ws, w.length ≤ m) : (Str.join y ws).length ≤ ws.length * (m + y.length) := by
  rw [len_tl, tl_join]
  have := joinL_len (S := tl y) (m := m) (l := ws.map tl) fun p hp => by
    obtain ⟨w, hw, rfl⟩ := List.mem_map.mp hp
    rw [← len_tl]
    exact h w hw
  rw [List.length_map, ← len_tl] at this
  exact this
theorem split_word {ws : List Str} (hne : ws ≠ []) (h : ∀ w ∈ ws, WordOk w) : Txt.split (Str.join " " ws) " " = ws := by
  have e := TL.split_join (y := " ") (s := 32) (S := []) (by decide +kernel) (by decide +kernel) hne (parts := ws) fun p hp z => absurd (((h p hp).2 32 z).1) (by decide)
  rw [TL.join_eq] at e
  exact e
theorem row_signs {ws : List Str} (h : ∀ w ∈ ws, WordOk w) : ∀ c ∈ tl (Str.join " " ws), 32 ≤ c ∧ c < 128 := by
  intro c hc
  rw [tl_join] at hc
  rcases joinL_mem hc with z | ⟨p, hp, z⟩
  · have : c = 32 := by simpa using (show c ∈ [32] from z)
    omega
  · obtain ⟨w, hw, rfl⟩ := List.mem_map.mp hp
    have := (h w hw).2 c z
    omega
theorem num_ok {i : Int} (h0 : 0 ≤ i) (h1 : i < 1000000000000) : WordOk (numT i) ∧ 1 ≤ (numT i).length ∧ (∀ c ∈ tl (numT i), 48 ≤ c ∧ c ≤ 57) ∧ intText? (numT i) = some i := by
  obtain ⟨n, rfl⟩ := Int.eq_ofNat_of_zero_le h0
  have e := tl_num n
  have hl : (numL n).length ≤ 12 := numL_len (by decide) (by omega)
  have hd : ∀ c ∈ tl (numT (n : Int)), 48 ≤ c ∧ c ≤ 57 := fun c hc => by
    rw [e] at hc
    exact numL_digits n c hc
  refine ⟨⟨?_, fun c hc => ?_⟩, ?_, hd, TL.int_num (by omega)⟩
  · rw [len_tl, e]
    exact hl
  · have := hd c hc
    omega
  · rw [len_tl, e]
    exact List.length_pos_iff.mpr (numL_ne n)
theorem numL_head : ∀ (k n : Nat), n ≤ k → 1 ≤ n → ∃ c r, numL n = c :: r ∧ 49 ≤ c
  | 0, n, h, h1 => absurd h1 (by omega)
  | k + 1, n, h, h1 => by
    by_cases hn : n < 10
    · exact ⟨_, _, numL_lt hn, by omega⟩
    · obtain ⟨c, r, e, hc⟩ := numL_head k (n / 10) (by omega) (by omega)
      exact ⟨c, r ++ [48 + n % 10], by rw [numL_step (by omega), e]; rfl, hc⟩
theorem num_first {i : Int} (h0 : 0 ≤ i) {c : Nat} {r : List Nat} (e : tl (numT i) = c :: r) (h : c = 48) : numT i = "0" := by
  obtain ⟨n, rfl⟩ := Int.eq_ofNat_of_zero_le h0
  rw [tl_num n] at e
  by_cases hn : n = 0
  · rw [hn]
    decide +kernel
  · obtain ⟨c', r', e', hc⟩ := numL_head n n (Nat.le_refl _) (by omega)
    rw [e'] at e
    injection e with e1 _
    omega
theorem name_word {x : Str} (h : isName x = true) : WordOk x := by
  refine ⟨(isName_len h).2, fun c hc => ?_⟩
  unfold isName at h
  rw [Bool.and_eq_true] at h
  have h1 : ∀ c ∈ SIGNSL, 33 ≤ c ∧ c < 128 := by decide +kernel
  exact h1 c (of_decide_eq_true (List.all_eq_true.mp h.2 c hc))
theorem word_ok : ∀ s : Stt, WordOk s.word
  | .rdy _ => show WordOk "ready" from ⟨by decide +kernel, by decide +kernel⟩
  | .slp _ => show WordOk "asleep" from ⟨by decide +kernel, by decide +kernel⟩
  | .wtg _ => show WordOk "waiting" from ⟨by decide +kernel, by decide +kernel⟩
theorem told_ok {now : Int} {s : Stt} (t1 : now < 1000000000000) (h : GoodSt now s) : WordOk (s.told now) := by
  cases s with
  | rdy s => exact (num_ok (show 0 ≤ now - s by have := h.2; omega) (by have := h.1; omega)).1
  | slp u => exact (num_ok (show 0 ≤ u - now by have := h.1; omega) (by have := h.2; omega)).1
  | wtg b => exact name_word h
theorem wordsC_ok {now : Int} {c : Cr} (t1 : now < 1000000000000) (hn : isName c.name = true) (hr : 0 ≤ c.rank ∧ c.rank ≤ 99) (hs : GoodSt now c.st) : ∀ w ∈ wordsC now c, WordOk w := by
  intro w hw
  rcases List.mem_cons.mp hw with rfl | hw
  · exact name_word hn
  rcases List.mem_cons.mp hw with rfl | hw
  · exact (num_ok hr.1 (by omega)).1
  rcases List.mem_cons.mp hw with rfl | hw
  · exact word_ok _
  rw [List.mem_singleton.mp hw]
  exact told_ok t1 hs
theorem headD_ok {D : Dk} (g : GoodD D) : ∀ w ∈ headD D, WordOk w := by
  obtain ⟨⟨p1, p2⟩, r1, r2⟩ := g.pr
  have t0 := g.t0
  have t1 := g.t1
  intro w hw
  rcases List.mem_cons.mp hw with rfl | hw
  · exact ⟨by decide +kernel, by decide +kernel⟩
  rcases List.mem_cons.mp hw with rfl | hw
  · exact (num_ok (by omega) (by omega)).1
  rcases List.mem_cons.mp hw with rfl | hw
  · exact (num_ok (by omega) (by omega)).1
  rw [List.mem_singleton.mp hw]
  exact (num_ok t0 t1).1
theorem row_of {D : Dk} (g : GoodD D) {r : Str} (h : r ∈ rowsD D) : (∀ c ∈ tl r, 32 ≤ c ∧ c < 128) ∧ r.length ≤ 52 := by
  have key : ∀ ws : List Str, (∀ w ∈ ws, WordOk w) → ws.length = 4 → (∀ c ∈ tl (Str.join " " ws), 32 ≤ c ∧ c < 128) ∧ (Str.join " " ws).length ≤ 52 := fun ws hw hl => by
    refine ⟨row_signs hw, ?_⟩
    have := join_len_le (y := " ") (m := 12) fun w h => (hw w h).1
    rw [hl] at this
    exact this
  rcases List.mem_cons.mp h with rfl | h
  · exact key _ (headD_ok g) rfl
  · obtain ⟨c, hc, rfl⟩ := List.mem_map.mp h
    exact key _ (wordsC_ok g.t1 (g.ok c hc) (g.rk c hc) (g.st c hc)) rfl
theorem rows_len {D : Dk} (g : GoodD D) : (Str.join "\n" (rowsD D)).length ≤ 3233 := by
  have h := join_len_le (y := "\n") (m := 52) (ws := rowsD D) fun r hr => (row_of g hr).2
  have hl : (rowsD D).length ≤ 61 := by
    show (_ :: D.line.map _).length ≤ 61
    rw [List.length_cons, List.length_map]
    have := g.len
    have := g.pr.2.2
    omega
  exact Nat.le_trans h (Nat.le_trans (Nat.mul_le_mul_right _ hl) (by decide))
theorem split_rows {D : Dk} (g : GoodD D) : Txt.split (Str.join "\n" (rowsD D)) "\n" = rowsD D := by
  have e := TL.split_join (y := "\n") (s := 10) (S := []) (by decide +kernel) (by decide +kernel) (parts := rowsD D) (by simp [rowsD]) fun p hp z => absurd (((row_of g hp).1 10 z).1) (by decide)
  rw [TL.join_eq] at e
  exact e
theorem cut_last (a : Str) : cutS (a ++ "\n") none (some (-1)) = a := by
  refine TL.ext_tl ?_
  have hl : (a ++ "\n" : Str).length = a.length + 1 := Str.length_append _ _
  have hs : HT.sIx (a ++ "\n" : Str).length (a ++ "\n" : Str).length (some (-1)) = a.length := by
    rw [hl]
    unfold HT.sIx
    simp
    omega
  show ((tl (a ++ "\n")).drop (HT.sIx _ 0 none)).take (HT.sIx _ _ (some (-1)) - HT.sIx _ 0 none) = tl a
  rw [hs]
  show ((tl (a ++ "\n")).drop 0).take (a.length - 0) = tl a
  rw [List.drop_zero, Nat.sub_zero, tl_append, len_tl, List.take_left]
theorem ends_nl (a : Str) : Txt.endswith (a ++ "\n") "\n" = true := by
  unfold Txt.endswith
  have hl : (a ++ "\n" : Str).length = a.length + 1 := Str.length_append _ _
  have h1 : ("\n" : Str).length = 1 := by decide +kernel
  rw [hl, h1, Bool.and_eq_true]
  refine ⟨decide_eq_true (by omega), ?_⟩
  rw [PySem.StrLaws.subAt_eq]
  show (((tl (a ++ "\n")).drop (a.length + 1 - 1)).take _ == _) = true
  rw [Nat.add_sub_cancel, tl_append, show a.length = (tl a).length from len_tl a, List.drop_left]
  decide +kernel
end Rr

set_option maxRecDepth 100000
set_option maxHeartbeats 4000000
/-! the numbers and names that the laws draw -/
namespace Rr
open PySem PySem.Spec PyProof.Rows L2
def cell (ns : List Int) (k : Int) : Int := ns.getD k.toNat 0
def mix (c p m : Int) : Int := c * 48271 % p % m
theorem mix_nn {c p m : Int} (hm : 0 < m) : 0 ≤ mix c p m ∧ mix c p m < m := ⟨Int.emod_nonneg _ (by omega), Int.emod_lt_of_pos _ hm⟩
/-! names -/
abbrev FIGL : List Nat := ("0123456789" : Str).cps.toList
def someL (c : Int) : List Nat := if mix c 10259 5 = 0 then FIGL else SIGNSL
def manyL (c : Int) : Int := if mix c 10259 5 = 0 then 10 else 36
theorem manyL_of (c : Int) : ((someL c).length : Int) = manyL c := by
  unfold someL manyL
  split <;> decide +kernel
theorem manyL_c (c : Int) : manyL c = 10 ∨ manyL c = 36 := by
  unfold manyL
  split
  · exact .inl rfl
  · exact .inr rfl
/-- the sign at a place, gone round -/
def sgn (c i : Int) : Nat := (someL c).getD i.toNat 48
theorem sgn_at {c i : Int} (h0 : 0 ≤ i) (h1 : i < manyL c) : atI (someL c) i = some (sgn c i) := by
  have hl : i.toNat < (someL c).length := by have := manyL_of c; omega
  rw [atZ h0 hl]
  unfold sgn
  rw [List.getD_eq_getElem?_getD, List.getElem?_eq_getElem hl]
  rfl
theorem sgn_sign {c i : Int} : isSign (sgn c i) = true := by
  have h1 : ∀ z ∈ FIGL, isSign z = true := by decide +kernel
  have h2 : ∀ z ∈ SIGNSL, isSign z = true := by decide +kernel
  have h3 : isSign 48 = true := by decide +kernel
  unfold sgn
  rw [List.getD_eq_getElem?_getD]
  cases e : (someL c)[i.toNat]? with
  | none => exact h3
  | some z =>
    have hz := List.mem_of_getElem? e
    unfold someL at hz
    split at hz
    · exact h1 z hz
    · exact h2 z hz
theorem sgn_inj {c i j : Int} (hi : 0 ≤ i ∧ i < manyL c) (hj : 0 ≤ j ∧ j < manyL c) (h : sgn c i = sgn c j) : i = j := by
  have nd1 : FIGL.Nodup := by decide +kernel
  have nd2 : SIGNSL.Nodup := by decide +kernel
  have nd : (someL c).Nodup := by
    unfold someL
    split
    · exact nd1
    · exact nd2
  have li : i.toNat < (someL c).length := by have := manyL_of c; omega
  have lj : j.toNat < (someL c).length := by have := manyL_of c; omega
  unfold sgn at h
  rw [List.getD_eq_getElem?_getD, List.getD_eq_getElem?_getD, List.getElem?_eq_getElem li, List.getElem?_eq_getElem lj] at h
  have h : (someL c)[i.toNat] = (someL c)[j.toNat] := h
  rcases Nat.lt_trichotomy i.toNat j.toNat with z | z | z
  · exact absurd h (List.pairwise_iff_getElem.mp nd _ _ li lj z)
  · omega
  · exact absurd h.symm (List.pairwise_iff_getElem.mp nd _ _ lj li z)
def nearI (k c : Int) : Int := (k + c % manyL c) / manyL c
def tellI (k c : Int) : Int := (k + c) % manyL c
def baseL (c : Int) : List Nat := (List.range (2 + mix c 10313 11).toNat).map fun (j : Nat) => sgn c ((c / 72 + 7 * (0 + (j : Int))) % manyL c)
def moreL (k c : Int) (n : Nat) : List Nat := (List.range n).map fun (j : Nat) => sgn c ((c / 72 + 7 * (0 + (j : Int)) + k * (0 + (j : Int))) % manyL c)
def atN (c : Int) : Nat := (mix c 10321 (2 + mix c 10313 11 - 1)).toNat
def pairL (k c : Int) : List Nat := [sgn c (nearI k c), sgn c (tellI k c)]
def longL (k c : Int) : List Nat := pairL k c ++ moreL k c (mix (c + k) 10007 11).toNat
def nameL (k c : Int) : List Nat :=
  if mix c 10303 2 = 0 then (baseL c).take (atN c) ++ pairL k c ++ (baseL c).drop (atN c + 2)
  else if k < manyL c ∧ mix (c + 3 * k) 10253 8 = 0 then [sgn c (tellI k c)]
  else if c / 36 % 2 = 1 then (longL k c).reverse else longL k c
def nameBy (k c : Int) : Str := SX.S (nameL k c)
theorem near_ok {k c : Int} (h0 : 0 ≤ k) (h1 : k < 80) : 0 ≤ nearI k c ∧ nearI k c < manyL c := by
  unfold nearI
  rcases manyL_c c with e | e <;> rw [e] <;> omega
theorem tell_ok {k c : Int} : 0 ≤ tellI k c ∧ tellI k c < manyL c := by
  unfold tellI
  rcases manyL_c c with e | e <;> rw [e] <;> omega
theorem base_len (c : Int) : (baseL c).length = (2 + mix c 10313 11).toNat := by
  unfold baseL
  rw [List.length_map, List.length_range]
theorem at_ok (c : Int) : atN c + 2 ≤ (baseL c).length := by
  rw [base_len]
  have h1 := mix_nn (c := c) (p := 10313) (m := 11) (by decide)
  have h2 := mix_nn (c := c) (p := 10321) (m := 2 + mix c 10313 11 - 1) (by omega)
  unfold atN
  omega
theorem take2 {a b : List Nat} {l : List Nat} (h : a = b) : a ++ l = b ++ l := by rw [h]
theorem name_ok {k c : Int} (h0 : 0 ≤ k) (h1 : k < 80) : isName (nameBy k c) = true := by
  have key : ∀ l : List Nat, 1 ≤ l.length → l.length ≤ 12 → (∀ z ∈ l, isSign z = true) → isName (SX.S l) = true := by
    intro l a b h
    unfold isName
    rw [Bool.and_eq_true]
    exact ⟨decide_eq_true (by rw [SX.S_len]; exact ⟨a, b⟩), List.all_eq_true.mpr h⟩
  have hp : ∀ z ∈ pairL k c, isSign z = true := by
    intro z hz
    rcases List.mem_cons.mp hz with rfl | hz
    · exact sgn_sign
    · rw [List.mem_singleton.mp hz]
      exact sgn_sign
  have hb : ∀ z ∈ baseL c, isSign z = true := by
    intro z hz
    obtain ⟨j, _, rfl⟩ := List.mem_map.mp hz
    exact sgn_sign
  have hm : ∀ n, ∀ z ∈ moreL k c n, isSign z = true := by
    intro n z hz
    obtain ⟨j, _, rfl⟩ := List.mem_map.mp hz
    exact sgn_sign
  unfold nameBy nameL
  have m1 := mix_nn (c := c) (p := 10313) (m := 11) (by decide)
  have m2 := mix_nn (c := c + k) (p := 10007) (m := 11) (by decide)
  have ha := at_ok c
  have hbl := base_len c
  split
  · refine key _ ?_ ?_ ?_
    · simp [pairL]
      omega
    · simp [pairL]
      omega
    · intro z hz
      rcases List.mem_append.mp hz with h | h
      · rcases List.mem_append.mp h with h | h
        · exact hb z (List.mem_of_mem_take h)
        · exact hp z h
      · exact hb z (List.mem_of_mem_drop h)
  · have hlong : 1 ≤ (longL k c).length ∧ (longL k c).length ≤ 12 ∧ ∀ z ∈ longL k c, isSign z = true := by
      refine ⟨?_, ?_, ?_⟩
      · simp [longL, pairL]
      · simp [longL, pairL, moreL]
        omega
      · intro z hz
        rcases List.mem_append.mp hz with h | h
        · exact hp z h
        · exact hm _ z h
    split
    · exact key _ (by simp) (by simp) fun z hz => by rw [List.mem_singleton.mp hz]; exact sgn_sign
    · split
      · exact key _ (by rw [List.length_reverse]; exact hlong.1) (by rw [List.length_reverse]; exact hlong.2.1) fun z hz => hlong.2.2 z (List.mem_reverse.mp hz)
      · exact key _ hlong.1 hlong.2.1 hlong.2.2
theorem pair_inj {i k c : Int} (hi : 0 ≤ i ∧ i < 80) (hk : 0 ≤ k ∧ k < 80) (h : pairL i c = pairL k c) : i = k := by
  unfold pairL at h
  injection h with h1 h2
  injection h2 with h2 _
  have e1 := sgn_inj (near_ok hi.1 hi.2) (near_ok hk.1 hk.2) h1
  have e2 := sgn_inj tell_ok tell_ok h2
  unfold nearI at e1
  unfold tellI at e2
  rcases manyL_c c with e | e <;> rw [e] at e1 e2 <;> omega
theorem name_inj {i k c : Int} (hi : 0 ≤ i ∧ i < 80) (hk : 0 ≤ k ∧ k < 80) (h : nameBy i c = nameBy k c) : i = k := by
  have h := SX.S_inj h
  unfold nameL at h
  split at h
  · have h2 := List.append_inj_left' h rfl
    exact pair_inj hi hk (List.append_inj_right h2 rfl)
  · have l2 : ∀ z : Int, 2 ≤ (longL z c).length := fun z => by simp [longL, pairL]
    have ll : longL i c = longL k c → i = k := fun h => by
      unfold longL at h
      have := congrArg (List.take 2) h
      simp [pairL] at this
      exact pair_inj hi hk (by unfold pairL; rw [this.1, this.2])
    have lr : (longL i c).reverse = (longL k c).reverse → i = k := fun h => ll (List.reverse_inj.mp h)
    have lt : ∀ z : Int, (if c / 36 % 2 = 1 then (longL z c).reverse else longL z c).length ≠ 1 := fun z => by
      have := l2 z
      split
      · rw [List.length_reverse]
        omega
      · omega
    by_cases a : i < manyL c ∧ mix (c + 3 * i) 10253 8 = 0
    · rw [if_pos a] at h
      by_cases b : k < manyL c ∧ mix (c + 3 * k) 10253 8 = 0
      · rw [if_pos b] at h
        injection h with h _
        have e2 := sgn_inj tell_ok tell_ok h
        have a1 := a.1
        have b1 := b.1
        unfold tellI at e2
        rcases manyL_c c with e | e <;> rw [e] at e2 a1 b1 <;> omega
      · rw [if_neg b] at h
        exact absurd (congrArg List.length h).symm (lt k)
    · rw [if_neg a] at h
      by_cases b : k < manyL c ∧ mix (c + 3 * k) 10253 8 = 0
      · rw [if_pos b] at h
        exact absurd (congrArg List.length h) (lt i)
      · rw [if_neg b] at h
        split at h
        · exact lr h
        · exact ll h
end Rr

set_option maxRecDepth 100000
set_option maxHeartbeats 4000000
/-! a line as a list of rows; what deeds and turns leave -/
namespace Rr
open PySem PySem.Spec PyProof.Rows L2
def Stt.markV : Stt → V
  | .rdy s => .int s
  | .slp u => .int u
  | .wtg b => .str b
abbrev rowV (c : Cr) : List V := [.str c.name, .int c.rank, .str c.st.word, c.st.markV]
def RowAt (H : Hp) (t : Addr) (c : Cr) : Prop := H t = some (.tup (rowV c))
/-- the list at a holds a row for each of l -/
def LnAt (H : Hp) (a : Addr) (l : List Cr) : Prop := ∃ ps : List (Addr × Cr), l = ps.map (·.2) ∧ H a = some (.lst (ps.map fun p => V.ref p.1)) ∧ ∀ p ∈ ps, RowAt H p.1 p.2
section
variable {K : PySem.W.Frag} {H H' : Hp} {S : List Addr} {a d : Addr} {l : List Cr} {D : Dk}
theorem LnAt.keep (x : LnAt H a l) (k : Keep K S H H') (n : ∀ b o, H b = some o → (∃ xs, o = .lst xs) ∨ (∃ xs, o = .tup xs) → b ∉ S) : LnAt H' a l := by
  obtain ⟨ps, rfl, h, hr⟩ := x
  exact ⟨ps, rfl, k.lst h (n _ _ h (.inl ⟨_, rfl⟩)), fun p hp => k.tup (hr p hp) (n _ _ (hr p hp) (.inr ⟨_, rfl⟩))⟩
theorem LnAt.keep0 (x : LnAt H a l) (k : Keep K [] H H') : LnAt H' a l := x.keep k fun _ _ _ _ => List.not_mem_nil
theorem LnAt.keepD (x : LnAt H a l) (hD : DkAt K H S d D) (k : Keep K S H H') : LnAt H' a l := x.keep k fun b o h q => by
  rcases q with ⟨xs, rfl⟩ | ⟨xs, rfl⟩
  · exact hD.lst h
  · exact hD.tup h
theorem RowAt.keepD {t : Addr} {c : Cr} (x : RowAt H t c) (hD : DkAt K H S d D) (k : Keep K S H H') : RowAt H' t c := k.tup x (hD.tup x)
theorem RowAt.keep0 {t : Addr} {c : Cr} (x : RowAt H t c) (k : Keep K [] H H') : RowAt H' t c := k.tup x List.not_mem_nil
end
/-! ### members -/
theorem mem_last {n : Str} {l : List Cr} {x : Cr} : x ∈ lastC n l ↔ x ∈ l := (lastC_perm n l).mem_iff
theorem mem_setC {c x : Cr} {l : List Cr} (h : x ∈ setC c l) : x = c ∨ (x ∈ l ∧ x.name ≠ c.name) := by
  obtain ⟨y, hy, rfl⟩ := List.mem_map.mp h
  by_cases e : y.name = c.name
  · rw [if_pos e]
    exact .inl rfl
  · rw [if_neg e]
    exact .inr ⟨hy, e⟩
theorem mem_move {D : Dk} {c x : Cr} (h : x ∈ (D.move c).line) : x = c ∨ (x ∈ D.line ∧ x.name ≠ c.name) := mem_setC (mem_last.mp h)
theorem names_move (D : Dk) (c : Cr) : (namesL (D.move c).line).Perm (namesL D.line) := by
  have h := (lastC_perm c.name (setC c D.line)).map (·.name)
  have e : (setC c D.line).map (·.name) = namesL D.line := setC_names c D.line
  rw [e] at h
  exact h
theorem len_move (D : Dk) (c : Cr) : (D.move c).line.length = D.line.length := by
  have := (names_move D c).length_eq
  unfold namesL at this
  rw [List.length_map, List.length_map] at this
  exact this
def moveC (c : Cr) (l : List Cr) : List Cr := dropC c.name l ++ [c]
theorem move_eq {D : Dk} {c : Cr} (nm : (namesL D.line).Nodup) (h : c.name ∈ namesL D.line) : D.move c = { D with line := moveC c D.line } := by
  obtain ⟨c0, h0, e0⟩ := List.mem_map.mp h
  show ({ D with line := lastC c.name (setC c D.line) } : Dk) = _
  rw [last_set nm h0 e0.symm]
  rfl
theorem wakeAll_cons (D : Dk) (c : Cr) (cs : List Cr) : D.wakeAll (c :: cs) = (D.move (c.as (.rdy D.now))).wakeAll cs := rfl
theorem names_wakeAll : ∀ (cs : List Cr) (D : Dk), (namesL (D.wakeAll cs).line).Perm (namesL D.line)
  | [], _ => .refl _
  | c :: r, D => (names_wakeAll r (D.move (c.as (.rdy D.now)))).trans (names_move D _)
theorem mem_wakeAll : ∀ (cs : List Cr) (D : Dk) {x : Cr}, x ∈ (D.wakeAll cs).line → (∃ c ∈ cs, x = c.as (.rdy D.now)) ∨ (x ∈ D.line ∧ ∀ c ∈ cs, x.name ≠ c.name)
  | [], _, _, h => .inr ⟨h, fun c hc => (nomatch hc)⟩
  | c :: r, D, x, h => by
    rcases mem_wakeAll r (D.move (c.as (.rdy D.now))) h with ⟨y, hy, e⟩ | ⟨h1, h2⟩
    · exact .inl ⟨y, List.mem_cons_of_mem _ hy, e⟩
    · rcases mem_move h1 with e | ⟨h3, h4⟩
      · exact .inl ⟨c, List.mem_cons_self, e⟩
      · exact .inr ⟨h3, fun z hz => by
          rcases List.mem_cons.mp hz with rfl | hz
          · exact h4
          · exact h2 z hz⟩
theorem wakeAll_pr : ∀ (cs : List Cr) (D : Dk), (D.wakeAll cs).pace = D.pace ∧ (D.wakeAll cs).room = D.room ∧ (D.wakeAll cs).now = D.now
  | [], _ => ⟨rfl, rfl, rfl⟩
  | c :: r, D => wakeAll_pr r (D.move (c.as (.rdy D.now)))
theorem len_names {l m : List Cr} (h : (namesL l).Perm (namesL m)) : l.length = m.length := by
  have := h.length_eq
  unfold namesL at this
  rw [List.length_map, List.length_map] at this
  exact this
/-! ### what holds of each desk that the laws make -/
def SoundS (now : Int) : Stt → Prop
  | .rdy s => 0 ≤ s ∧ s ≤ now
  | .slp u => now < u ∧ u ≤ now + 1000
  | .wtg b => isName b = true
structure Sound (D : Dk) : Prop where
  pr : (1 ≤ D.pace ∧ D.pace ≤ 1000) ∧ 1 ≤ D.room ∧ D.room ≤ 60
  t0 : 0 ≤ D.now
  len : (D.line.length : Int) ≤ D.room
  nm : (namesL D.line).Nodup
  ok : ∀ c ∈ D.line, isName c.name = true
  rk : ∀ c ∈ D.line, 0 ≤ c.rank ∧ c.rank ≤ 99
  st : ∀ c ∈ D.line, SoundS D.now c.st
theorem Sound.len60 {D : Dk} (x : Sound D) : D.line.length ≤ 60 := by
  have := x.len
  have := x.pr.2.2
  omega
theorem Sound.move {D : Dk} (x : Sound D) {c : Cr} {s : Stt} (hc : c ∈ D.line) (hs : SoundS D.now s) : Sound (D.move (c.as s)) := by
  refine ⟨x.pr, x.t0, ?_, (names_move D _).nodup_iff.mpr x.nm, fun y hy => ?_, fun y hy => ?_, fun y hy => ?_⟩
  · rw [len_move]
    exact x.len
  · rcases mem_move hy with rfl | h
    · exact x.ok c hc
    · exact x.ok y h.1
  · rcases mem_move hy with rfl | h
    · exact x.rk c hc
    · exact x.rk y h.1
  · rcases mem_move hy with rfl | h
    · exact hs
    · exact x.st y h.1
theorem name_in {l : List Cr} {c : Cr} (h : c ∈ l) : c.name ∈ namesL l := List.mem_map_of_mem h
/-- time goes on -/
theorem Sound.tick {D : Dk} (x : Sound D) : Sound D.tick := by
  obtain ⟨p1, p2, p3⟩ := wakeAll_pr (D.line.filter fun c => decide (c.st = .slp (D.now + 1))) { D with now := D.now + 1 }
  have np := names_wakeAll (D.line.filter fun c => decide (c.st = .slp (D.now + 1))) { D with now := D.now + 1 }
  have t0 := x.t0
  have mem : ∀ y ∈ D.tick.line, (∃ c ∈ D.line, y = c.as (.rdy (D.now + 1))) ∨ (y ∈ D.line ∧ y.st ≠ .slp (D.now + 1)) := fun y hy => by
    rcases mem_wakeAll _ _ hy with ⟨c, hc, e⟩ | ⟨h1, h2⟩
    · exact .inl ⟨c, (List.mem_filter.mp hc).1, e⟩
    · exact .inr ⟨h1, fun z => h2 y (List.mem_filter.mpr ⟨h1, decide_eq_true z⟩) rfl⟩
  refine ⟨by rw [show D.tick.pace = D.pace from p1, show D.tick.room = D.room from p2]; exact x.pr, ?_, ?_, np.nodup_iff.mpr x.nm, fun y hy => ?_, fun y hy => ?_, fun y hy => ?_⟩
  · rw [show D.tick.now = D.now + 1 from p3]
    omega
  · rw [show D.tick.room = D.room from p2, show D.tick.line.length = D.line.length from len_names np]
    exact x.len
  · rcases mem y hy with ⟨c, hc, rfl⟩ | ⟨h, _⟩
    · exact x.ok c hc
    · exact x.ok y h
  · rcases mem y hy with ⟨c, hc, rfl⟩ | ⟨h, _⟩
    · exact x.rk c hc
    · exact x.rk y h
  · rw [show D.tick.now = D.now + 1 from p3]
    rcases mem y hy with ⟨c, hc, rfl⟩ | ⟨h, hn⟩
    · exact ⟨by omega, Int.le_refl _⟩
    · have := x.st y h
      obtain ⟨n, r, s⟩ := y
      cases s with
      | rdy s => exact ⟨this.1, by have := this.2; omega⟩
      | slp u =>
        have h1 : D.now < u ∧ u ≤ D.now + 1000 := this
        refine ⟨?_, by omega⟩
        by_cases e : u = D.now + 1
        · exact absurd (by rw [e]) hn
        · omega
      | wtg b => exact this
theorem tick_now (D : Dk) : D.tick.now = D.now + 1 := (wakeAll_pr _ _).2.2
theorem tick_names (D : Dk) : (namesL D.tick.line).Perm (namesL D.line) := names_wakeAll _ _
theorem turn_names (D : Dk) : (namesL D.turn.line).Perm (namesL D.line) := by
  unfold Dk.turn
  split
  · exact tick_names D
  · exact (names_move _ _).trans (tick_names D)
theorem turn_now (D : Dk) : D.turn.now = D.now + 1 := by
  unfold Dk.turn
  split
  · exact tick_now D
  · exact tick_now D
theorem turn_pr (D : Dk) : D.turn.pace = D.pace ∧ D.turn.room = D.room := by
  have h := wakeAll_pr (D.line.filter fun c => decide (c.st = .slp (D.now + 1))) { D with now := D.now + 1 }
  unfold Dk.turn
  split
  · exact ⟨h.1, h.2.1⟩
  · exact ⟨h.1, h.2.1⟩
theorem pickD_mem {D : Dk} {c : Cr} (h : D.pick = some c) : c ∈ D.line ∧ c.st.isRdy = true := by
  unfold Dk.pick pick at h
  cases e : pickI (agedC D.pace D.now) (readies D.line) with
  | none =>
    rw [e] at h
    cases h
  | some y =>
    rw [e] at h
    cases h
    exact List.mem_filter.mp (List.mem_of_getElem? (pickI_at _ _ _ rfl (j := y.1) (x := y.2) e))
/-- who has that name behind the tick -/
theorem tick_at {D : Dk} {c : Cr} (h : c ∈ D.line) : c.name ∈ namesL D.tick.line := (tick_names D).mem_iff.mpr (name_in h)
/-- a ready one stands there behind the tick as it was -/
theorem mem_wakeAll_of : ∀ (cs : List Cr) (D : Dk) {x : Cr}, x ∈ D.line → (∀ c ∈ cs, x.name ≠ c.name) → x ∈ (D.wakeAll cs).line
  | [], _, _, h, _ => h
  | c :: r, D, x, h, n => mem_wakeAll_of r _ (mem_last.mpr (List.mem_map.mpr ⟨x, h, if_neg (n c List.mem_cons_self)⟩)) fun z hz => n z (List.mem_cons_of_mem _ hz)
theorem tick_rdy {D : Dk} (nm : (namesL D.line).Nodup) {c : Cr} (h : c ∈ D.line) (hn : c.st ≠ .slp (D.now + 1)) : c ∈ D.tick.line := by
  refine mem_wakeAll_of _ _ h fun z hz e => ?_
  obtain ⟨h1, h2⟩ := List.mem_filter.mp hz
  rw [name_one nm h h1 e] at hn
  exact hn (of_decide_eq_true h2)
theorem Sound.turn {D : Dk} (x : Sound D) : Sound D.turn := by
  unfold Dk.turn
  split
  · exact x.tick
  · rename_i c e
    obtain ⟨h1, h2⟩ := pickD_mem e
    have t0 := x.t0
    refine x.tick.move (tick_rdy x.nm h1 fun z => by rw [z] at h2; cases h2) ?_
    rw [tick_now]
    exact ⟨by omega, Int.le_refl _⟩
/-! ### deeds -/
/-- the name of twelve z, which no law gives -/
def ZZ : Str := SX.S (List.replicate 12 122)
inductive Deed : Dk → Dk → Prop where
  | refl (D : Dk) : Deed D D
  | trans {D E F : Dk} : Deed D E → Deed E F → Deed D F
  | enter (D : Dk) (n : Str) (r : Int) : isName n = true → 0 ≤ r ∧ r ≤ 99 → n ∉ namesL D.line → (D.line.length : Int) < D.room → n ≠ ZZ → Deed D { D with line := D.line ++ [⟨n, r, .rdy D.now⟩] }
  | leave (D : Dk) (c : Cr) : c ∈ D.line → Deed D (D.leave c.name)
  | sleep (D : Dk) (c : Cr) (m : Int) : c ∈ D.line → c.st.isRdy = true → 1 ≤ m ∧ m ≤ 1000 → Deed D (D.move (c.as (.slp (D.now + m))))
  | wait (D : Dk) (c : Cr) (b : Str) : c ∈ D.line → c.st.isRdy = true → isName b = true → Deed D (D.move (c.as (.wtg b)))
  | wake (D : Dk) (c : Cr) : c ∈ D.line → c.st.isRdy = false → Deed D (D.move (c.as (.rdy D.now)))
  | rerank (D : Dk) (c : Cr) (r : Int) : c ∈ D.line → c.st.isRdy = false → 0 ≤ r ∧ r ≤ 99 → Deed D (D.setR { c with rank := r })
theorem Deed.pr {D E : Dk} (h : Deed D E) : E.pace = D.pace ∧ E.room = D.room ∧ E.now = D.now := by
  induction h with
  | refl _ => exact ⟨rfl, rfl, rfl⟩
  | trans _ _ a b => exact ⟨b.1.trans a.1, b.2.1.trans a.2.1, b.2.2.trans a.2.2⟩
  | _ => exact ⟨rfl, rfl, rfl⟩
theorem Deed.sound {D E : Dk} (h : Deed D E) (x : Sound D) : Sound E := by
  induction h with
  | refl _ => exact x
  | trans _ _ a b => exact b (a x)
  | enter D n r hn hr nn hl hz =>
    refine ⟨x.pr, x.t0, ?_, ?_, fun y hy => ?_, fun y hy => ?_, fun y hy => ?_⟩
    · show ((D.line ++ [_]).length : Int) ≤ D.room
      rw [List.length_append]
      simp
      omega
    · show (namesL (D.line ++ [⟨n, r, .rdy D.now⟩])).Nodup
      unfold namesL
      rw [List.map_append]
      exact nd_snoc x.nm nn
    · rcases List.mem_append.mp hy with h | h
      · exact x.ok y h
      · rw [List.mem_singleton.mp h]
        exact hn
    · rcases List.mem_append.mp hy with h | h
      · exact x.rk y h
      · rw [List.mem_singleton.mp h]
        exact hr
    · rcases List.mem_append.mp hy with h | h
      · exact x.st y h
      · rw [List.mem_singleton.mp h]
        exact ⟨x.t0, Int.le_refl _⟩
  | leave D c hc =>
    refine ⟨x.pr, x.t0, ?_, x.nm.sublist (List.filter_sublist.map _), fun y hy => x.ok y (List.mem_filter.mp hy).1, fun y hy => x.rk y (List.mem_filter.mp hy).1, fun y hy => x.st y (List.mem_filter.mp hy).1⟩
    have h1 := List.length_filter_le (fun y : Cr => decide (y.name ≠ c.name)) D.line
    have h2 := x.len
    show ((D.line.filter fun y => decide (y.name ≠ c.name)).length : Int) ≤ D.room
    omega
  | sleep D c m hc hr hm => exact x.move hc ⟨by omega, by omega⟩
  | wait D c b hc hr hb => exact x.move hc hb
  | wake D c hc hr => exact x.move hc ⟨x.t0, Int.le_refl _⟩
  | rerank D c r hc hr hr9 =>
    refine ⟨x.pr, x.t0, ?_, ?_, fun y hy => ?_, fun y hy => ?_, fun y hy => ?_⟩
    · show ((setC _ D.line).length : Int) ≤ D.room
      rw [setC_len]
      exact x.len
    · show (namesL (setC _ D.line)).Nodup
      rw [setC_names]
      exact x.nm
    · rcases mem_setC hy with rfl | h
      · exact x.ok c hc
      · exact x.ok y h.1
    · rcases mem_setC hy with rfl | h
      · exact hr9
      · exact x.rk y h.1
    · rcases mem_setC hy with rfl | h
      · exact x.st c hc
      · exact x.st y h.1
/-- some that are not ready are made so, one behind the other -/
theorem Deed.wakes : ∀ (cs : List Cr) (D : Dk), (∀ c ∈ cs, c ∈ D.line ∧ c.st.isRdy = false) → (namesL D.line).Nodup → (namesL cs).Nodup → Deed D (D.wakeAll cs)
  | [], D, _, _, _ => .refl D
  | c :: r, D, h, nm, nc => by
    obtain ⟨h1, h2⟩ := h c List.mem_cons_self
    obtain ⟨n1, n2⟩ := List.nodup_cons.mp (show (c.name :: namesL r).Nodup from nc)
    refine .trans (.wake D c h1 h2) (Deed.wakes r (D.move (c.as (.rdy D.now))) (fun z hz => ?_) ((names_move D _).nodup_iff.mpr nm) n2)
    obtain ⟨h3, h4⟩ := h z (List.mem_cons_of_mem _ hz)
    exact ⟨mem_last.mpr (List.mem_map.mpr ⟨z, h3, if_neg fun e => n1 (by rw [show c.name = z.name from e.symm]; exact name_in hz)⟩), h4⟩
theorem Deed.ring (D : Dk) (b : Str) (nm : (namesL D.line).Nodup) : Deed D (D.ring b) :=
  Deed.wakes _ D (fun c hc => ⟨(List.mem_filter.mp hc).1, by rw [of_decide_eq_true (List.mem_filter.mp hc).2]; rfl⟩) nm (nm.sublist (List.filter_sublist.map _))
end Rr

set_option maxRecDepth 100000
set_option maxHeartbeats 4000000
/-! a line as data; names looked up in a list -/
namespace Rr
open PySem PySem.Spec PyProof.Rows L2
def Stt.markD : Stt → PyData
  | .rdy s => .int s
  | .slp u => .int u
  | .wtg b => .str b
def rowP (c : Cr) : PyData := .tuple [.str c.name, .int c.rank, .str c.st.word, c.st.markD]
theorem name_strOk {x : Str} (h : isName x = true) : PyData.strOk x = true := by
  unfold isName at h
  rw [Bool.and_eq_true] at h
  unfold PyData.strOk
  rw [← Array.all_toList]
  exact List.all_eq_true.mpr fun c hc => decide_eq_true (Nat.lt_trans (isSign_lt (List.all_eq_true.mp h.2 c hc)) (by decide))
theorem word_strOk : ∀ s : Stt, PyData.strOk s.word = true
  | .rdy _ => show PyData.strOk "ready" = true by decide +kernel
  | .slp _ => show PyData.strOk "asleep" = true by decide +kernel
  | .wtg _ => show PyData.strOk "waiting" = true by decide +kernel
theorem mark_lay {now : Int} {s : Stt} (h : SoundS now s) : s.markD.canLay0 = true ∧ s.markD.depth = 0 := by
  cases s with
  | rdy s => exact ⟨rfl, rfl⟩
  | slp s => exact ⟨rfl, rfl⟩
  | wtg b => exact ⟨name_strOk h, rfl⟩
theorem row_lay {now : Int} {c : Cr} (hn : isName c.name = true) (hs : SoundS now c.st) : (rowP c).canLay0 = true ∧ (rowP c).depth = 1 := by
  obtain ⟨h1, h2⟩ := mark_lay hs
  unfold rowP
  simp [PyData.canLay0, PyData.canLayAll0, PyData.depth, PyData.depthAll, name_strOk hn, word_strOk, h1, h2]
theorem rows_lay {now : Int} : ∀ {l : List Cr}, (∀ c ∈ l, isName c.name = true ∧ SoundS now c.st) → PyData.canLayAll0 (l.map rowP) = true ∧ PyData.depthAll (l.map rowP) ≤ 1
  | [], _ => ⟨rfl, Nat.zero_le _⟩
  | c :: r, h => by
    obtain ⟨h1, h2⟩ := row_lay (h c List.mem_cons_self).1 (h c List.mem_cons_self).2
    obtain ⟨h3, h4⟩ := rows_lay (l := r) fun z hz => h z (List.mem_cons_of_mem _ hz)
    simp only [List.map_cons, PyData.canLayAll0, PyData.depthAll, h1, h2, h3]
    exact ⟨rfl, by omega⟩
theorem rows_shaped {now : Int} {l : List Cr} (h : ∀ c ∈ l, isName c.name = true ∧ SoundS now c.st) : SeqAt.shaped (.list (l.map rowP)) = true := by
  obtain ⟨h1, h2⟩ := rows_lay h
  unfold SeqAt.shaped
  rw [Bool.and_eq_true]
  refine ⟨h1, decide_eq_true ?_⟩
  show PyData.depthAll (l.map rowP) + 1 ≤ 64
  omega
section
variable {K : PySem.W.Frag} {H : Hp} {a : Addr}
theorem mark_dp (s : Stt) : Dp K H s.markV s.markD := by
  cases s
  · exact .int _
  · exact .int _
  · exact .str _
theorem rows_dp : ∀ {ps : List (Addr × Cr)}, (∀ p ∈ ps, RowAt H p.1 p.2) → DpAll K H (ps.map fun p => V.ref p.1) ((ps.map (·.2)).map rowP)
  | [], _ => .nil
  | p :: r, h => .cons (.tup (.inl (.inl (h p List.mem_cons_self))) (.cons (.str _) (.cons (.int _) (.cons (.str _) (.cons (mark_dp _) .nil))))) (rows_dp fun z hz => h z (List.mem_cons_of_mem _ hz))
theorem LnAt.dp {l : List Cr} (x : LnAt H a l) : Dp K H (.ref a) (.list (l.map rowP)) := by
  obtain ⟨ps, rfl, h, hp⟩ := x
  exact .lst (.inl (.inl h)) (rows_dp hp)
end
theorem eqv_empty (l : List Cr) : PyData.eqv (.list (l.map rowP)) (.list []) = decide (l = []) := by
  cases l with
  | nil => rfl
  | cons c r => rfl
theorem all_str (l : List Str) : (l.map V.str).all flatV = true := by
  rw [List.all_map]
  exact List.all_eq_true.mpr fun _ _ => rfl
theorem str_beq (a b : Str) : (a == b) = decide (a = b) := by
  by_cases e : a = b
  · rw [decide_eq_true e, e]
    exact beq_self_eq_true b
  · rw [decide_eq_false e]
    exact beq_eq_false_iff_ne.mpr e
theorem inV_str (x : Str) (l : List Str) : inV (.str x) (l.map V.str) = decide (x ∈ l) := by
  unfold inV
  rw [List.any_map]
  induction l with
  | nil => rfl
  | cons y r ih =>
    rw [List.any_cons, ih]
    show ((y == x) || decide (x ∈ r)) = _
    rw [str_beq]
    by_cases e : y = x
    · rw [decide_eq_true e, e]
      simp
    · rw [decide_eq_false e, Bool.false_or]
      have : (x ∈ y :: r) ↔ x ∈ r := by simp [Ne.symm e]
      simp [this]
end Rr

set_option maxRecDepth 100000
set_option maxHeartbeats 2000000
/-! a list walked while an exception is handled -/
namespace HotX
open PySem PySem.Spec PyProof.Rows
section
variable {prog : Program} {w : World} {A : Around} {E : Value → Shared → Prop} {s : Shared}
theorem pyNext_list_end_hot {it l x1 : Addr} {i : Nat} {items : Array Value} {Q : Option Value → Shared → Prop} (hot : HotAt A x1 s.heap) (hne : x1 ≠ it)
    (hit : s.heap.IsListIter it l i) (hl : s.heap.IsList l items) (hx : items[i]? = none)
    (hQ : ∀ h', Heap.ExtBut it s.heap h' → Q none { s with heap := h' }) : wpAny (model prog w) A (pyNext (.ref it)) Q E s := by
  obtain ⟨hh, o1, vs1, h1, d1, c1⟩ := hot
  obtain ⟨o, ho, hc, hd⟩ := id hit
  obtain ⟨ol, hol, _, nl, hdl⟩ := hl
  unfold pyNext
  refine wpAny_bind (wpAny_attempt (wpAny_callSpecial?_slot (name := Str.ofString "__next__") hit.typeIs slot_listiter_next
    (wpAny_call_entry slot_listiter_next hit.typeIs entry_listiter_next ?_ (args_listiter_next _))))
  show wpAny _ _ (field (.ref it) 0 >>= _) _ _ s
  refine wpAny_bind (wpAny_field ho hd (x := .ref l) rfl ?_)
  show wpAny _ _ (if (Value.ref l == Value.none) = true then _ else _) _ _ s
  rw [if_neg (show ¬ ((Value.ref l == Value.none) = true) from Bool.false_ne_true)]
  show wpAny _ _ (field (.ref it) 1 >>= _) _ _ s
  refine wpAny_bind (wpAny_field ho hd (x := .int i 0) rfl ?_)
  show wpAny _ _ (seqItems? (.ref l) >>= _) _ _ s
  refine wpAny_bind (wpAny_seqItems hol hdl ?_)
  simp only [Int.toNat_natCast, hx]
  refine wpAny_bind (wpAny_rule (wpAny_bind (wpAny_setField ho hd (by simp) ?_)))
  show wpAny _ _ (newExc (.type "StopIteration") [] >>= _) _ _ _
  refine wpAny_bind ?_
  simp only [newExc, newTuple]
  refine wpAny_bind (wpAny_newObj_type ?_ (by size_fits))
  refine wpAny_bind (m := firstArgMember _ _) (wpAny_of_eq (a := Value.none) (by first | rfl | (simp only [firstArgMember]; rfl)) ?_)
  refine wpAny_newObj_type ?_ (by size_fits)
  have h1' := (Heap.get?_update_other s.heap (Obj.mapFields fun xs => xs.setIfInBounds 0 Value.none) hne.symm).trans h1
  refine raiseNew_hot (x1 := x1) ⟨hh, o1, vs1, Heap.get?_push_of_some _ (Heap.get?_push_of_some _ ?h1), d1, c1⟩ (Nat.ne_of_lt (Heap.lt_size (Heap.get?_push_of_some _ ?h1))) (Heap.get?_push_size _ rfl) rfl (by first | (simp; done) | (simp; omega) | (simp only [Array.size_append]; simp; omega)) ?_
  case h1 => exact h1'
  refine wpAny_bind (wpAny_isInstance (T := "StopIteration") (b := true) ⟨_, Heap.get?_update_self _ (Heap.get?_push_size _ rfl) rfl, rfl⟩ isSubtype_stop ?_)
  refine wpAny_pure (hQ _ fun b o hb e => ?_)
  have e1 := (Heap.get?_update_other s.heap (Obj.mapFields fun xs => xs.setIfInBounds 0 Value.none) (Ne.symm hb)).trans e
  rw [Heap.get?_update_other _ _ (Nat.ne_of_gt (Heap.lt_size (Heap.get?_push_of_some _ e1)))]
  exact Heap.get?_push_of_some _ (Heap.get?_push_of_some _ e1)
end
theorem walks_listHot {prog : Program} {w : World} {A : Around} {I ax x1 : Addr} {o1 : Obj} {vs1 : Array Value} (hh : A.handled = some (.ref x1)) (d1 : o1.data = .fields vs1) (c1 : vs1[2]? = some .none) (hne : ax ≠ I) (hx : x1 ≠ I) (items : Array Value) :
    Walks prog w A I [I, ax, x1] [I] items.size (fun i v => items[i]? = some v) (fun i h => h.IsListIter I ax i ∧ h.IsList ax items ∧ h.get? x1 = some o1) where
  sub := fun b hb => by simp at hb; simp [hb]
  frame := fun _ _ _ st hk => ⟨st.1.at fun o e => hk I (by simp) o e, st.2.1.at fun o e => hk ax (by simp) o e, hk x1 (by simp) o1 st.2.2⟩
  item := fun i s Q E hi st hQ => by
    refine wpAny_pyNext_list_item st.1 st.2.1 (x := items[i]) (by simp [hi]) fun h' hit' hs' => ?_
    exact hQ _ h' s.toks (by simp [hi]) ⟨hit', st.2.1.extBut hs'.extBut hne, hs'.extBut x1 o1 hx st.2.2⟩ fun b o hb e => hs'.extBut b o (fun h => hb (by simp [h])) e
  done := fun s Q E st hQ => pyNext_list_end_hot ⟨hh, o1, vs1, st.2.2, d1, c1⟩ hx st.1 st.2.1 (by simp) fun h' he' => hQ h' s.toks fun b o hb e => he' b o (fun h => hb (by simp [h])) e
  self := fun _ _ _ _ st hQ => wpAny_pyIter_listiter st.1 hQ
section
variable {prog : Program} {w : World} {A : Around} {E : Value → Shared → Prop} {s : Shared} {l x1 : Addr} {its : List Value} {ns : List Int} {Q : Value → Shared → Prop}
theorem sum_intListHot {xs : Array (Int × Tok)} (hot : HotAt A x1 s.heap) (hl : s.heap.IsList l (intItems xs))
    (h : ∀ h' tk t', (∀ b o, s.heap.get? b = some o → h'.get? b = some o) → Q (.int (preSum (numAt xs) xs.size) t') { s with heap := h', toks := tk }) :
    wpAny (model prog w) A (call (.builtin "sum") [.ref l]) Q E s := by
  obtain ⟨hh, o1, vs1, h1, d1, c1⟩ := hot
  have lx : x1 < s.heap.objs.size := Heap.lt_size h1
  refine call_sum_walkG (iter_intList hl fun s₂ e st hfp hlI => ?_)
  subst e
  refine ⟨_, _, _, _, _, _, numAt xs, rfl, walks_listHot (A := A.in1) hh d1 c1 hlI (Nat.ne_of_lt lx) (intItems xs), ⟨st.1, st.2, Heap.get?_push_of_some _ h1⟩, fun b hb => ?_, (fun _ _ => intItems_at), fun h' tk t' hk => ?_⟩
  · rcases List.mem_cons.mp hb with rfl | hb
    · exact hfp _ (by simp)
    · rcases List.mem_cons.mp hb with rfl | hb
      · exact hfp _ (by simp)
      · rw [List.mem_singleton.mp hb, Heap.size_push]
        exact Nat.lt_succ_of_lt lx
  · have := h h' tk t' (old_kept hk)
    simpa [intItems] using this
end
end HotX
namespace L2
open PySem PySem.Spec PyProof.Rows HotX
section
variable {prog : Program} {w : World} {A : Around} {E : Value → Shared → Prop} {s : Shared} {l x1 : Addr} {its : List Value} {ns : List Int} {Q : Value → Shared → Prop}
theorem sum_rawHot (hot : HotAt A x1 s.heap) (hl : s.heap.IsList l its.toArray) (hi : IntsAre its ns)
    (h : ∀ h' tk t', (∀ b o, s.heap.get? b = some o → h'.get? b = some o) → Q (.int ns.sum t') { s with heap := h', toks := tk }) : wpAny (model prog w) A (call (.builtin "sum") [.ref l]) Q E s := by
  obtain ⟨xs, e⟩ := hi.allInts.items
  have hn : numsOf (intItems xs).toList = ns := by rw [← e]; exact hi.numsOf
  rw [nums_intItems] at hn
  rw [e] at hl
  refine sum_intListHot hot hl fun h' tk t' hk => ?_
  have := h h' tk t' hk
  rw [preSum_eq, List.take_of_length_le (by simp), hn]; exact this
end
end L2

set_option maxRecDepth 100000
set_option maxHeartbeats 2000000
/-! a def that is called within an except suite, its promise knowing the exception that is handled -/
namespace L2H
open PySem PySem.Spec PyProof.Rows L2
abbrev SpP := Addr × Obj → Sp
structure FnP (P : Program) (w : World) (K : PySem.W.Frag) (mg : Str → Option Value) (base : Heap) (CX : CXT) (k : Nat) (f : Addr) (fd : FuncData) (ps : List Str) (sp : SpP) : Prop where
  len : ∀ p vs H Q E, sp p vs H Q E → vs.length = ps.length
  run : ∀ (A : Around) (outer : List Env) (s : Shared) (H : Hp) (args : Args) (us : List Value) (vs : List V) (Q : VK) (E : XK) (p : Addr × Obj), RoomH k A → Hot1 A p → PinOk outer H s p → Env0 P w K mg base A outer s H → BindsTo s fd args (ps.zip us) → Vals vs us → sp p vs H Q E →
    codeAny (model P w) A (.call (.ref f) args) (CR CX outer P w H s Q E) s
theorem fn_ofP {CX : CXT} {P : Program} {w : World} {K : PySem.W.Frag} {mg : Str → Option Value} {base : Heap} {k : Nat} {f : Addr} {name qual : Str} {params : Arguments} {body : List Stmt} {scope : Scope} {dV kV doc pm cdv ct oc : Value} {an od : Option Addr}
    {osl : Array (Option Value)} {N ps : List Str} {sp : SpP} (lk : K.lookup f = some ⟨oc, od, .func (PySem.W.fnOf name qual params body scope dV kV doc pm an cdv ct), osl⟩) (hcd : PySem.W.codeIn K cdv qual = true) (S : FnScope N ps scope)
    (len : ∀ p vs H Q E, sp p vs H Q E → vs.length = ps.length)
    (hbody : ∀ (A : Around) (outer : List Env) (s : Shared) (H : Hp) (vs : List V) (Q : VK) (E : XK) (p : Addr × Obj), Hot1 A p → RoomH k (A.deeper (envOfC qual scope s.heap.objs.size f cdv)) → sp p vs H Q E →
      ∃ t, PSs (cxH CX P w K mg base N qual scope f cdv A outer s H E p) body t ∧ t { nx := fun _ H' => Q .non H', rt := Q } (L2.start N vs) H) :
    FnP P w K mg base CX (k + 1) f (PySem.W.fnOf name qual params body scope dV kV doc pm an cdv ct) ps sp where
  len := len
  run := by
    intro A outer s H args us vs Q E p hr hot hpin e0 hb r hsp
    have KX : K.In s.heap := e0.mod.kin.keeps fun b o e => (e0.bs b o e).1
    have lim : s.heap.NoLimit := e0.mod.nolimit.keeps fun b o e => (e0.bs b o e).1
    refine codeAny_call_function hr.depth (KX _ _ lk) rfl S.co S.gen rfl (PySem.W.codeRec_of KX hcd) (hb _ _ _ _ (wpAny_newFunctionEnv_cells S.kind (fun y hy => ?_) fun env he s1 x => ?_))
    · rcases S.par y.1 (List.of_mem_zip (show (y.1, y.2) ∈ ps.zip us from hy)).1 with q | q
      · exact .inl q
      · exact .inr ⟨q, PySem.W.cellsFrom_some _ _ _ (.inl q)⟩
    subst he
    obtain ⟨t, ht, hq⟩ := hbody A outer s H vs Q E p hot (hr.deeper _) hsp
    refine ⟨lim.keeps x.toInCall.keep, codeAny_func (wpAny_mono (ht.run [] s1 (L2.start N vs) H _ (inv_startH S hpin e0 (len _ _ _ _ _ hsp) r x) hq) (fun fl s' hs => ?_) fun _ _ z => z)⟩
    cases fl with
    | ret u =>
      obtain ⟨v, σ', H', J, rv, q⟩ := hs
      exact ⟨v, H', J.os, J.bare, J.base, J.hok, rv, q⟩
    | next =>
      obtain ⟨σ', H', J, q⟩ := hs
      exact ⟨V.non, H', J.os, J.bare, J.base, J.hok, rfl, q⟩
    | brk => exact False.elim hs.choose_spec.choose_spec.2
    | cont => exact False.elim hs.choose_spec.choose_spec.2
section
variable {X : Cx} {CX : CXT} {k : Nat} {f : Addr} {fd : FuncData} {ps : List Str} {sp : SpP} {E : St → XK} {x : Str} {q pos : Pos} {e : Expr} {es : List Expr} {t : TA}
theorem run_fnP {pins : List (Addr × Obj)} {σ : St} {H : Hp} {s : Shared} {Q : VK} {us : List Value} {vs : List V} {p : Addr × Obj} (F : FnP X.prog X.w X.K X.mg X.base CX k f fd ps sp) (hr : RoomH k X.A) (hot : Hot1 X.A p) (hp : p ∈ X.pn) (hb : Binds X.K fd ps []) (hx : PassesAt CX X σ (E σ))
    (I : Inv X pins σ H s) (r : Vals vs us) (h : sp p vs H Q (E σ)) : wpAny (model X.prog X.w) X.A (call (.ref f) us) (EP X pins σ Q) X.xe s := by
  have b := hb s us I.kIn (by rw [List.append_nil, ← r.length]; exact F.len _ _ _ _ _ h)
  rw [List.append_nil] at b
  obtain ⟨g, fr, nl, nf, nc⟩ := I.pin p (List.mem_append_left _ hp)
  refine wpAny_call (codeAny_mono (F.run X.A X.stack s H ⟨us, []⟩ us vs Q (E σ) p hr hot ⟨g, fr, fun hm => (List.mem_cons.mp (I.stkSub p.1 hm)).elim nl nf, nc⟩ I.env0 b r h) fun r s' hq => ?_)
  cases r with
  | error e => exact hx pins H s e s' I hq
  | ok fl =>
    cases fl with
    | ret u => exact I.after hq
    | next => exact False.elim hq
    | brk => exact False.elim hq
    | cont => exact False.elim hq
theorem pe_callP {p : Addr × Obj} (F : FnP X.prog X.w X.K X.mg X.base CX k f fd ps sp) (hr : RoomH k X.A) (hot : Hot1 X.A p) (hp : p ∈ X.pn) (hg : Gl X x) (hm : X.mg x = some (.ref f)) (hk : PySem.W.keepIn X.K (.ref f) = true) (hb : Binds X.K fd ps []) (hx : ∀ σ, PassesAt CX X σ (E σ))
    (ha : PA X (e :: es) t) (hdb : (x == ("__debug__" : Str)) = false := by decide) (he : starEach (e :: es) X.env = (false, eval e X.env) :: starEach es X.env := by rfl) (hpl : (backTo pos (starEach es X.env)).any (·.1) = false := by rfl) :
    PE X (.Call (.Name x q) (e :: es) [] pos) (tCallS (sp p) E t) where
  run := by
    intro pins s σ H Q I h
    exact wpAny_Call_Name_kw (ld_glob I hg hm (PySem.W.callWith_K (h₀ := X.base) I.ok.mod.kin hk (thn (ha.run pos pins s σ H _ I h) fun us s1 ⟨vs, H1, I1, r, q⟩ => ⟨I1.kIn, run_fnP F hr hot hp hb (hx σ) I1 r q⟩) he hpl) hdb)
end
end L2H

set_option maxRecDepth 100000
set_option maxHeartbeats 2000000
/-! isinstance of the exception that is handled, wherever it is pinned -/
namespace L2H
open PySem PySem.Spec PyProof.Rows L2
theorem call_isP {X : Cx} {a D : Addr} {oe : Obj} (C : ExcC X.K D) (hz : Zc (.ref D) none oe) (hf : ∃ vs, oe.data = .fields vs) (hp : (a, oe) ∈ X.pn) : CallR X (.builtin "isinstance") (rIsE X.K D a) := by
  rintro pins s σ H xs us Q I r ⟨c, cv, b, rfl, hcv, e, q⟩
  obtain ⟨oc, od, oda, osl⟩ := oe
  obtain ⟨vs, hv⟩ := hf
  obtain ⟨h1, h2⟩ := hz
  dsimp only at h1 h2 hv
  subst h1 h2 hv
  have hget := (I.pin _ (List.mem_append_left _ hp)).1
  match us, r with
  | [_, _], .cons rx (.cons rt .nil) =>
    cases rx
    obtain rfl := hcv _ rt
    exact PySem.W.kia_one (PySem.W.handS_kitx_exc C.hg C.hk C.hs C.hd C.ha C.hn C.ht C.hm) I.kIn (show PySem.W.InstAt s.heap a _ D none from ⟨hget, rfl, rfl, trivial⟩) e (fun z => nomatch z) fun tk => ⟨.bl b, H, I.kept (t' := tk) fun _ _ z => z, rfl, q⟩
theorem HotAt_of {X : Cx} {pins : List (Addr × Obj)} {σ : St} {H : Hp} {s : Shared} {p : Addr × Obj} (hot : Hot1 X.A p) (hp : p ∈ X.pn) (I : Inv X pins σ H s) : HotX.HotAt X.A p.1 s.heap := by
  obtain ⟨hh, v1, e1, c1⟩ := hot
  exact ⟨hh, p.2, v1, (I.pin p (List.mem_append_left _ hp)).1, e1, c1⟩
/-- sum(xs), xs a list of ints -/
theorem call_sumP {X : Cx} {p : Addr × Obj} (hot : Hot1 X.A p) (hp : p ∈ X.pn) : CallR X (.builtin "sum") (fun xs H Q => ∃ (a : Addr) (ns : List Int), xs = [.ref a] ∧ H a = some (.lst (ns.map V.int)) ∧ Q (.int ns.sum) H) := by
  rintro pins s σ H xs us Q I r ⟨a, ns, rfl, ha, q⟩
  match us, r with
  | [_], .cons rx .nil =>
    cases rx
    obtain ⟨its, rv, pl, hz⟩ := I.list (.inl (.inl ha))
    refine sum_rawHot (HotAt_of hot hp I) pl.isList (ns := ns) (Vals.ints rv) fun h' tk t' hk => ⟨.int ns.sum, H, I.kept (t' := tk) hk, ⟨t', rfl⟩, q⟩
end L2H

set_option maxRecDepth 100000
set_option maxHeartbeats 2000000
/-! [int(x) for x in y] while an exception is handled: y a list of true and false -/
namespace L2H
open PySem PySem.Spec PyProof.Rows L2
theorem bls_at {bs : List Bool} {its : List Value} (r : Vals (bs.map V.bl) its) {i : Nat} {v : Value} (h : its[i]? = some v) : ∃ b, bs[i]? = some b ∧ v = .bool b := by
  have hl := r.length
  rw [List.length_map] at hl
  have hi : i < bs.length := by
    have := (List.getElem?_eq_some_iff.mp h).1
    omega
  obtain ⟨u, hu, ru⟩ := r.get (i := i) (x := V.bl bs[i]) (by rw [List.getElem?_map, List.getElem?_eq_getElem hi]; rfl)
  rw [h] at hu
  cases hu
  exact ⟨bs[i], List.getElem?_eq_getElem hi, ru⟩
theorem ints_of {vs ys : List Value} (h : Paired (fun v y => ∃ (b : Bool) (t : Tok), v = .bool b ∧ y = .int (if b then 1 else 0) t) vs ys) : ∀ {bs : List Bool}, vs.length = bs.length → (∀ (j : Nat) (v : Value), vs[j]? = some v → ∃ b, bs[j]? = some b ∧ v = .bool b) → Vals (bs.map fun b => V.int (if b then 1 else 0)) ys := by
  induction h with
  | nil =>
    intro bs hl _
    cases bs with
    | nil => exact .nil
    | cons _ _ => cases hl
  | cons hd _ ih =>
    intro bs hl hv
    cases bs with
    | nil => cases hl
    | cons b r =>
      obtain ⟨b1, t, e1, e2⟩ := hd
      obtain ⟨b2, e3, e4⟩ := hv 0 _ rfl
      cases e3
      rw [e1] at e4
      cases e4
      exact .cons ⟨t, e2⟩ (ih (Nat.succ.inj hl) fun j v hj => hv (j + 1) v hj)
def tInts (te : TE) : TE := fun σ H Q => te σ H fun v H1 => ∃ (a : Addr) (bs : List Bool), v = .ref a ∧ H1 a = some (.lst (bs.map V.bl)) ∧ bs.length ≤ sizeLine ∧ ∀ b, H1 b = none → Q (.ref b) (upd H1 b (.lst (bs.map fun b => V.int (if b then 1 else 0))))
theorem pe_intsP {X : Cx} {p : Addr × Obj} {iter : Expr} {te : TE} {x : Str} {p1 p2 p3 px pos : Pos} {scope : Scope} (hot : Hot1 X.A p) (hp : p ∈ X.pn) (hi : PE X iter te) (hint : X.mg "int" = none)
    (hk : scope.kind = .function) (hnm : ∀ y ∈ scope.names, scope.names.lookup y.1 = some y.2) (hnf : ∀ y ∈ scope.names, y.2 ≠ .free) (hpc : ∀ h, pushCells h scope.names = h) (hx : scope.names.lookup x = some .local)
    (hg : scope.names.lookup ("int" : Str) = some NameKind.globalImplicit) (hdb : (x == ("__debug__" : Str)) = false := by decide) (hs : ∀ x, foldedSetIterable iter X.env x = pure x := by intro _; rfl) :
    PE X (.ListComp (.Call (.Name "int" p1) [.Name x p2] [] p3) [⟨.Name x px, iter, [], 0⟩] scope pos) (tInts te) where
  run := by
    intro pins s σ H Q I h
    rw [eval_ListComp]
    refine wpAny_comprehension_free (use := none) rfl hs (closure_ok fun y hy e => absurd e (hnf y hy)) hk (fun y hy e => by rw [hnm y hy, e]) (thn (hi.run pins s σ H _ I h) fun u s1 ⟨v, H1, I1, rv, a, bs, ev, ha, hl, q⟩ => ?_)
    subst ev
    cases rv
    obtain ⟨its, rv, pl, hz⟩ := I1.list (.inl (.inl ha))
    have L1 := pl.isList
    refine wpAny_pyIter_list L1 ?_
    refine wpAny_newObj_type (newEnv_comp ?_) (by show 0 ≤ sizeLine; decide)
    obtain ⟨g1, fr1, nl1, nf1, nc1⟩ := I1.pin p (List.mem_append_left _ hp)
    obtain ⟨hh, vs1, d1, c1⟩ := hot
    have la : a < s1.heap.objs.size := by obtain ⟨o, ho, _⟩ := L1; exact Heap.lt_size ho
    have lx : p.1 < s1.heap.objs.size := Heap.lt_size g1
    rw [hpc]
    dsimp only
    generalize e1 : s1.heap.push { cls := .type "list_iterator", data := .fields #[.ref a, .int 0 0] } = h1
    have sz1 : h1.objs.size = s1.heap.objs.size + 1 := by rw [← e1]; exact Heap.size_push ..
    have gi : h1.get? s1.heap.objs.size = some { cls := .type "list_iterator", data := .fields #[.ref a, .int 0 0] } := by rw [← e1]; exact Heap.get?_push_size _ rfl
    have k1 : ∀ b o, s1.heap.get? b = some o → h1.get? b = some o := fun b o e => by rw [← e1]; exact Heap.get?_push_of_some _ e
    generalize e2 : h1.push { cls := .type "list", data := .seq ([] : List Value).toArray } = h2
    have sz2 : h2.objs.size = h1.objs.size + 1 := by rw [← e2]; exact Heap.size_push ..
    have gd : h2.get? h1.objs.size = some { cls := .type "list", data := .seq ([] : List Value).toArray } := by rw [← e2]; exact Heap.get?_push_size _ rfl
    have k2 : ∀ b o, h1.get? b = some o → h2.get? b = some o := fun b o e => by rw [← e2]; exact Heap.get?_push_of_some _ e
    generalize e3 : h2.push { cls := .type "dict", data := .dict #[] } = h3
    have gc : h3.get? h2.objs.size = some { cls := .type "dict", data := .dict #[] } := by rw [← e3]; exact Heap.get?_push_size _ rfl
    have k3 : ∀ b o, h2.get? b = some o → h3.get? b = some o := fun b o e => by rw [← e3]; exact Heap.get?_push_of_some _ e
    have k13 : ∀ b o, s1.heap.get? b = some o → h3.get? b = some o := fun b o e => k3 b o (k2 b o (k1 b o e))
    show codeAny _ _ (.compStart _ 0 (.ref s1.heap.objs.size) (.ref h1.objs.size) (compEnvC scope (cellsFrom (h2.objs.size + 1) scope.names (cloFrom X.env.cells scope.names [])) h2.objs.size X.env)) (compPost _ _ _ none _ _ h2.objs.size) { s1 with heap := h3 }
    generalize hce : compEnvC scope (cellsFrom (h2.objs.size + 1) scope.names (cloFrom X.env.cells scope.names [])) h2.objs.size X.env = cenv
    have hloc : cenv.locals = h2.objs.size := by rw [← hce]; rfl
    have hkd : cenv.scope.kind = .function := by rw [← hce]; exact hk
    have hkx : cenv.kindOf x = some .local := by rw [← hce]; exact lookup_relabel_local (env := X.env) hx
    have hki : cenv.kindOf ("int" : Str) = some .globalImplicit := by rw [← hce]; exact lookup_relS_keep (sc := X.env.scope) (by decide) hg
    have hgl : cenv.globals = X.env.globals := by rw [← hce]; rfl
    have hbl : cenv.builtins = X.env.builtins := by rw [← hce]; rfl
    have st0 : h3.IsListIter s1.heap.objs.size a 0 ∧ h3.IsList a its.toArray ∧ h3.get? p.1 = some p.2 := ⟨⟨_, k3 _ _ (k2 _ _ gi), rfl, rfl⟩, L1.at fun o e => k13 _ o e, k13 _ _ g1⟩
    have W := HotX.walks_listHot (prog := X.prog) (w := X.w) (A := X.A) hh d1 c1 (Nat.ne_of_lt la) (Nat.ne_of_lt lx) its.toArray
    have aux : ∀ {b : Nat}, b < s1.heap.objs.size → b ≠ h2.objs.size ∧ b ≠ s1.heap.objs.size ∧ b ≠ h1.objs.size := fun {b} lb => by omega
    have n12 : h1.objs.size ≠ h2.objs.size := by omega
    have n01 : h1.objs.size ≠ s1.heap.objs.size := by omega
    have n02 : h2.objs.size ≠ s1.heap.objs.size := by omega
    have le1 : s1.heap.objs.size ≤ h1.objs.size := by omega
    refine codeAny_compStart_list ?loop (wpAny_pyIter_listiter st0.1 ?loop)
    have old : ∀ {h' : Heap}, (∀ b o, b ≠ cenv.locals → b ∉ [s1.heap.objs.size] → b ≠ h1.objs.size → h3.get? b = some o → h'.get? b = some o) → ∀ b o, s1.heap.get? b = some o → h'.get? b = some o := fun {h'} hk b o e => by
      have lb := Heap.lt_size e
      exact hk b o (by rw [hloc]; exact (aux lb).1) (fun z => (aux lb).2.1 (List.mem_singleton.mp z)) (aux lb).2.2 (k13 b o e)
    refine codeAny_compLoop_walk W (fun _ => true) (fun v y => ∃ (b : Bool) (t : Tok), v = .bool b ∧ y = .int (if b then 1 else 0) t) hkx (by rw [hkd]; rfl) (by rw [hloc]; exact n12) (fun z => ?_) (fun z => ?_) st0 ⟨_, k3 _ _ gd⟩ (m := fun _ => none) ?ns (fun i v s₂ m₂ hv hns hm hkp ht => ?_) (fun i v s₂ m₂ hv _ hns hm hkp ht => ?_) (fun h' tk m' ys vs hns hil hpl hln hpv hpr hkp => ?_) (by have := hz; rw [rv.length] at this; simpa using this)
    case ns =>
      rw [hloc]
      refine ⟨_, _, _, gc, rfl, ?_, fun name => rfl⟩
      simp [StrKeys]
    · rcases List.mem_cons.mp z with z | z
      · exact n01 z
      · rcases List.mem_cons.mp z with z | z
        · exact (aux la).2.2 z.symm
        · exact (aux lx).2.2 (List.mem_singleton.mp z).symm
    · rw [hloc] at z
      rcases List.mem_cons.mp z with z | z
      · exact n02 z
      · rcases List.mem_cons.mp z with z | z
        · exact (aux la).1 z.symm
        · exact (aux lx).1 (List.mem_singleton.mp z).symm
    · rw [List.forIn_nil]
      exact wpAny_pure ⟨rfl, _, _, rfl, fun _ _ e => e⟩
    · obtain ⟨b, _, rfl⟩ := bls_at rv (by simpa using hv)
      obtain ⟨mb, b1, b2⟩ := I1.mod.blt
      refine wpAny_Call_Name_kw (Calls.Name_function_global hkd hki (Calls.loadGlobal_builtin (by rw [hgl, I1.ok.glob]; exact (I1.mod.glob.keeps I1.bk).keeps (old hkp)) hint (by rw [hbl, I1.ok.blt]; exact (b1.keeps I1.bk).keeps (old hkp)) ((b2 _ (by decide)).trans boot_int) ?_))
      refine PyProof.Rows.callWith_type1 (Calls.spliced_cons (wpAny_Name (wpAny_loadName_local hkd hkx hns hm (Calls.spliced_nil (call_int_bool ⟨⟨b, _, rfl, rfl⟩, _, _, rfl, fun _ _ e => e⟩))) hdb)) rfl rfl
    · have hl2 := rv.length
      rw [List.length_map] at hl2
      refine ⟨m', hloc ▸ hns, fun h'' sb => ⟨.ref h1.objs.size, _, I1.laid (a := h1.objs.size) (o := .lst (bs.map fun b => V.int (if b then 1 else 0))) (t' := tk) (fun b o e => ?_) le1 ⟨?_, ys.toList, ?_⟩, rfl, q _ (I1.hok.fresh le1)⟩⟩
      · have lb := Heap.lt_size e
        exact (sb.2 b (aux lb).1).trans (old hkp b o e)
      · rw [List.length_map]
        exact hl
      · obtain ⟨n, en⟩ := hpl
        rw [show vs.filter (fun _ => true) = vs from List.filter_eq_self.mpr fun _ _ => rfl] at hpr
        refine ⟨n, ints_of hpr (hln.trans (by simpa using hl2.symm)) (fun j v hj => bls_at rv (by simpa using hpv j v hj)), ?_⟩
        rw [Array.toArray_toList]
        exact (sb.2 _ n12).trans en
end L2H

set_option maxRecDepth 100000
set_option maxHeartbeats 2000000
/-! the nine errors of the desk: which class each is, for isinstance -/
namespace Rr
open PySem PySem.Spec PyProof.Rows L2
def errs9 : List Str := ["NoName", "NoRank", "NoSpan", "NoDesk", "Known", "Unknown", "Full", "NotReady", "IsReady"]
def words9 : List Str := ["name", "rank", "span", "desk", "known", "unknown", "full", "awake", "ready"]
def excCB (K : PySem.W.Frag) (D : Addr) : Bool :=
  He.eqO (PySem.W.findIn K (.ref D) "__getattribute__") (some (some (.builtin "BaseException.__getattribute__"))) && (He.eqO (PySem.W.findIn K (.ref D) "__getattr__") (some none) && (decide (PySem.W.subIn K (.ref D) (.type "BaseException") = some true) && (PySem.W.hasDictIn K D &&
  (He.eqO (PySem.W.findIn K (.ref D) "__class__") (some (some (.builtin "object.__class__"))) && (He.eqO (PySem.W.specialIn K (.builtin "object.__class__") "__get__") (some (some (.builtin "getset_descriptor.__get__"))) &&
  (decide (PySem.W.takesIn K (.builtin "object.__class__") = some true) && decide (PySem.W.mroIn K D (.type "object") = some true)))))))
theorem excCB_ok {K : PySem.W.Frag} {D : Addr} (h : excCB K D = true) : ExcC K D := by
  unfold excCB at h
  simp only [Bool.and_eq_true, decide_eq_true_eq] at h
  obtain ⟨h1, h2, h3, h4, h5, h6, h7, h8⟩ := h
  exact ⟨He.eqO_ok h1, He.eqO_ok h2, h3, h4, He.eqO_ok h5, He.eqO_ok h6, h7, h8⟩
def exOk (K : PySem.W.Frag) : Bool := errs9.all fun d => excCB K (He.ga K d) && (decide (PySem.W.kitOne K (.ref (He.ga K d)) (.type "ValueError") = some true) && errs9.all fun c => decide (PySem.W.kitOne K (.ref (He.ga K d)) (.ref (He.ga K c)) = some (decide (d = c))))
structure Ex9 (K : PySem.W.Frag) (d : Str) : Prop where
  c : ExcC K (He.ga K d)
  v : PySem.W.kitOne K (.ref (He.ga K d)) (.type "ValueError") = some true
  is : ∀ c ∈ errs9, PySem.W.kitOne K (.ref (He.ga K d)) (.ref (He.ga K c)) = some (decide (d = c))
theorem ex9 {K : PySem.W.Frag} (h : exOk K = true) : ∀ d ∈ errs9, Ex9 K d := fun d hd => by
  have h := List.all_eq_true.mp h d hd
  simp only [Bool.and_eq_true, decide_eq_true_eq] at h
  obtain ⟨h1, h2, h3⟩ := h
  exact ⟨excCB_ok h1, h2, fun c hc => of_decide_eq_true (List.all_eq_true.mp h3 c hc)⟩
end Rr

set_option maxRecDepth 100000
set_option maxHeartbeats 2000000
/-! a def that is called within an except suite, as R's Cal and okF -/
namespace Rr
open PySem PySem.Spec PyProof.Rows L2 L2H
section
variable {P : Program} {w : World} {K : PySem.W.Frag} {mg : Str → Option Value} {base : Heap}
variable (P w K mg base) in
def CalP (k : Nat) (x : Str) (sp : SpP) : Prop := ∃ (f : Addr) (fd : FuncData) (ps : List Str), FnP P w K mg base (L2N.CX P w) k f fd ps sp ∧ mg x = some (.ref f) ∧ PySem.W.keepIn K (.ref f) = true ∧ Binds K fd ps []
variable {x qual : Str} {params : Arguments} {body : List Stmt} {scope : Scope} {dvs : List V} {kws : List (Str × V)} {at_ : Str × Option Str} {fd : FuncData}
theorem okP {N ps : List Str} {k : Nat} {sp : SpP} (F : FunD K x qual params body scope dvs kws (He.fAd K at_) fd) (S : FnScope N ps scope) (len : ∀ p vs H Q E, sp p vs H Q E → vs.length = ps.length)
    (hbody : ∀ (A : Around) (outer : List Env) (s : Shared) (H : Hp) (vs : List V) (Q : VK) (E : XK) (p : Addr × Obj), Hot1 A p → RoomH k (A.deeper (envOfC qual scope s.heap.objs.size (He.fAd K at_) (.ref (He.codeOf K at_)))) → sp p vs H Q E →
      ∃ t, PSs (cxH (L2N.CX P w) P w K mg base N qual scope (He.fAd K at_) (.ref (He.codeOf K at_)) A outer s H E p) body t ∧ t { nx := fun _ H' => Q .non H', rt := Q } (L2.start N vs) H) : FnP P w K mg base (L2N.CX P w) (k + 1) (He.fAd K at_) fd ps sp := by
  obtain ⟨oc, od, dV, kV, doc, pm, an, cdv, ct, osl, rfl, lk, hcd, _, _⟩ := F.ex
  obtain ⟨c, rfl⟩ := He.codeIn_ref hcd
  obtain rfl := He.codeOf_eq lk rfl
  exact fn_ofP lk hcd S len hbody
end
section
variable {X : Cx} {k j : Nat} {x : Str} {sp : SpP} {E : L2.St → XK} {q pos : Pos} {e : Expr} {es : List Expr} {t : TA}
theorem pfP {p : Addr × Obj} (c : CalP X.prog X.w X.K X.mg X.base k x sp) (hr : RoomH j X.A) (hk : k ≤ j) (hot : Hot1 X.A p) (hp : p ∈ X.pn) (hg : Gl X x) (hx : ∀ σ, PassesAt (L2N.CX X.prog X.w) X σ (E σ)) (ha : PA X (e :: es) t)
    (hdb : (x == ("__debug__" : Str)) = false := by decide) (he : starEach (e :: es) X.env = (false, eval e X.env) :: starEach es X.env := by rfl) (hpl : (backTo pos (starEach es X.env)).any (·.1) = false := by rfl) :
    PE X (.Call (.Name x q) (e :: es) [] pos) (tCallS (sp p) E t) := by
  obtain ⟨f, fd, ps, F, hm, kp, b⟩ := c
  exact pe_callP F (hr.mono hk) hot hp hg hm kp b hx ha hdb he hpl
end
end Rr

set_option maxRecDepth 100000
set_option maxHeartbeats 2000000
/-! within an except suite: a def called that is handed what was caught -/
namespace Rr
open PySem PySem.Spec PyProof.Rows L2 L2H
section
variable {X : Cx} {k j : Nat} {x : Str} {sp : SpP} {q pos : Pos} {e : Expr} {es : List Expr} {t : TA}
/-- the reading says nothing of the object but its class -/
def tCallA (sp : SpP) (a : Addr) (cls : Value) (d : Option Addr) (t : TA) : TE := fun σ H Q => t σ H fun vs H1 => ∀ oe : Obj, Zc cls d oe → (∃ vs, oe.data = .fields vs) → sp (a, oe) vs H1 Q E0
theorem pfS {a : Addr} {oe : Obj} {cls : Value} {d : Option Addr} {pn : List (Addr × Obj)} (c : CalP X.prog X.w X.K X.mg X.base k x sp) (hr : Room j X.A) (hk : k ≤ j) (hz : L2N.Zn cls d oe) (hf : ∃ vs, oe.data = .fields vs) (hg : Gl X x)
    (ha : PA (X.suite a ((a, oe) :: pn)) (e :: es) t)
    (hdb : (x == ("__debug__" : Str)) = false := by decide) (he : starEach (e :: es) X.env = (false, eval e X.env) :: starEach es X.env := by rfl) (hpl : (backTo pos (starEach es X.env)).any (·.1) = false := by rfl) :
    PE (X.suite a ((a, oe) :: pn)) (.Call (.Name x q) (e :: es) [] pos) (tCallA sp a cls d t) := by
  obtain ⟨vs, hd⟩ := id hf
  obtain ⟨f, fd, ps, F, hm, kp, b⟩ := c
  refine ⟨fun pins s σ H Q I h => ?_⟩
  exact wpAny_Call_Name_kw (ld_glob (X := X.suite a ((a, oe) :: pn)) I hg hm (PySem.W.callWith_K (h₀ := X.base) I.ok.mod.kin kp (thn (ha.run pos pins s σ H _ I h) fun us s1 ⟨vs1, H1, I1, r, q⟩ => ⟨I1.kIn, run_fnP (X := X.suite a ((a, oe) :: pn)) (p := (a, oe)) (E := fun _ => E0) F (RoomH.mono ⟨hr.dp, hr.un⟩ hk) ⟨rfl, vs, hd, hz.2.2 vs hd⟩ List.mem_cons_self b (p0 σ) I1 r (q oe hz.zc hf)⟩) he hpl) hdb)
end
end Rr

set_option maxRecDepth 100000
set_option maxHeartbeats 4000000
/-! a text times a whole number -/
namespace Rr
open PySem PySem.Spec PyProof.Rows L2
theorem op_mul_str {X : Cx} : OpR X (binaryOp .Mult) (fun x y H Q => ∃ (z : Str) (i : Int), x = .str z ∧ y = .int i ∧ MulOk z i ∧ Q (.str (Txt.mul z i)) H) := by
  intro pins s σ H x y v u Q I rx ry h
  obtain ⟨z, i, rfl, rfl, ok, q⟩ := h
  obtain ⟨t, rfl⟩ := rx
  obtain ⟨t', rfl⟩ := ry
  exact SB.mul ok fun t'' k => ⟨.str _, H, I.tok k, ⟨t'', rfl⟩, q⟩
theorem mulOk_z : MulOk "z" 12 := by
  unfold MulOk
  decide +kernel
theorem mul_z : Txt.mul "z" 12 = SX.S (List.replicate 12 122) := by decide +kernel
theorem mulOk_b : MulOk "b" 13 := by
  unfold MulOk
  decide +kernel
theorem mul_b : Txt.mul "b" 13 = SX.S (List.replicate 13 98) := by decide +kernel
theorem mulOk_x : MulOk "x" 13 := by
  unfold MulOk
  decide +kernel
theorem mul_x : Txt.mul "x" 13 = SX.S (List.replicate 13 120) := by decide +kernel
end Rr

set_option maxRecDepth 100000
set_option maxHeartbeats 4000000
/-! rules within a comprehension, K given -/
namespace Rr
open PySem PySem.Spec PyProof.Rows L2
section
variable {X : Cx} {K : PySem.W.Frag}
theorem notIn_seqK (hK : X.K = K) : OpR X (compareOp .NotIn) (rIn K true) := by
  subst hK
  exact op_notIn_seq
theorem mt_indexK (hK : X.K = K) : MtR X "list.index" (rIndex K) := by
  subst hK
  exact mt_index
theorem pe_bmK {o e : Expr} {es : List Expr} {to : TE} {t : TA} {name : Str} {apos cpos : Pos} {T id : String} {r : V → List V → Hp → VK → Prop} (hK : X.K = K) (pa : PlainAttrs T) (slot : Slot T name id) (hty : typeOf (.builtin id) = pure (.type "method_descriptor")) (hm : MtR X id r) (ho : PE X o to) (ha : PA X (e :: es) t)
    (hbase : attributeBase o name X.env (eval o X.env) = eval o X.env := by rfl)
    (hfew : ((backTo cpos (starEach (e :: es) X.env)).all (fun x => !x.1) && (backToKw cpos (keywordEach [] X.env)).all (fun x => x.1.isSome)
      && decide ((e :: es).length + ([] : List Keyword).length + (if ([] : List Keyword).isEmpty then 0 else 1) < 30)) = true := by rfl)
    (hline : (apos.endLine == cpos.line) = true := by rfl) (hs : starEach (e :: es) X.env = (false, eval e X.env) :: starEach es X.env := by rfl) (hplain : (backTo cpos (starEach es X.env)).any (·.1) = false := by rfl) :
    PE X (.Call (.Attribute o name apos) (e :: es) [] cpos) (tBM K T r to t) := by
  subst hK
  exact pe_bm pa slot hty hm ho ha hbase hfew hline hs hplain
end
end Rr

set_option maxRecDepth 100000
set_option maxHeartbeats 4000000
/-! a lambda with one parameter, called where it was made -/
namespace Rr
open PySem PySem.Spec PyProof.Rows L2
open LamX (lamCx lamEnv)
/-- the parameter x; captured names and globals besides -/
structure LamP (sc scope : Scope) (x : Str) : Prop where
  kind : scope.kind = .function
  co : scope.isCoroutine = false
  gen : scope.isGenerator = false
  par : scope.names.lookup x = some .local
  own : ∀ y ∈ scope.names, y.2 ≠ .cell ∧ (y.2 = .local → y.1 = x)
  free : ∀ y ∈ scope.names, y.2 = .free → sc.names.lookup y.1 = some .cell ∨ sc.names.lookup y.1 = some .free
def lamPB (sc scope : Scope) (x : Str) : Bool :=
  decide (scope.kind = .function) && (!scope.isCoroutine && (!scope.isGenerator && (decide (scope.names.lookup x = some .local) && scope.names.all fun y => (!decide (y.2 = .cell) && (!decide (y.2 = .local) || decide (y.1 = x))) && (!decide (y.2 = .free) || (decide (sc.names.lookup y.1 = some .cell) || decide (sc.names.lookup y.1 = some .free))))))
theorem lamP_by {sc scope : Scope} {x : Str} (h : lamPB sc scope x = true) : LamP sc scope x := by
  unfold lamPB at h
  simp only [Bool.and_eq_true, Bool.or_eq_true, Bool.not_eq_true', decide_eq_true_eq, decide_eq_false_iff_not, List.all_eq_true] at h
  obtain ⟨g1, g2, g3, g4, g5⟩ := h
  refine ⟨g1, g2, g3, g4, fun y hy => ⟨(g5 y hy).1.1, fun e => ((g5 y hy).1.2).elim (fun z => absurd e z) id⟩, fun y hy e => ?_⟩
  exact ((g5 y hy).2).elim (fun z => absurd e z) id
theorem LamP.has {X : Cx} {scope : Scope} {x : Str} (L : LamP X.env.scope scope x) (ok : X.Ok) : ∀ y ∈ scope.names, y.2 = .free → ∃ c, X.env.cells.lookup y.1 = some c := fun y hy e => (L.free y hy e).elim (fun k => ok.has _ (Or.inl k)) fun k => ok.has _ (Or.inr k)
section
variable {X : Cx} {pins : List (Addr × Obj)} {σ : L2.St} {H : Hp} {s : Shared}
theorem lam_start1 {A : Around} {E : XK} {scope : Scope} {f c' : Addr} {h₁ : Heap} {tk i : Nat} {x : Str} {v : V} {u : Value} (I : Inv X pins σ H s) (L : LamP X.env.scope scope x) (nd : X.N.Nodup) (hi : X.N[i]? = some x) (ru : RelV v u) (hA : A.frames = X.A.frames) (hd : A.handled = none)
    (hns : h₁.Ns s.heap.objs.size fun y => ([(x, u)] : List (Str × Value)).reverse.lookup y) (kp : ∀ b o, s.heap.get? b = some o → h₁.get? b = some o) :
    Inv (lamCx X A X.stack s H E scope f c') [] (σ.set i (some v)) H { s with heap := h₁, toks := tk } := by
  have e0 := I.env0
  have hfr := L.has I.ok
  have up : ∀ {y c}, (cloFrom X.env.cells scope.names []).lookup y = some c → X.env.cells.lookup y = some c := by
    intro y c e
    rcases cloFrom_mem (PySem.mem_of_lookup e) with q | ⟨q1, q2⟩
    · cases q
    obtain ⟨c1, hc⟩ := hfr _ q1 rfl
    have hc : X.env.cells.lookup y = some c1 := hc
    obtain rfl : c = c1 := by rw [q2, hc] <;> rfl
    exact hc
  have get : ∀ {y}, scope.names.lookup y = some .free → ∃ c, (cloFrom X.env.cells scope.names []).lookup y = some c := by
    intro y hl
    exact mem_lookup (cloFrom_has (cells := X.env.cells) (acc := []) (PySem.mem_of_lookup hl))
  have kc : ∀ {c : Addr} {w : Option Value}, s.heap.IsCell c w → h₁.IsCell c w := by
    rintro c w ⟨o, ho, hdt⟩
    exact ⟨o, kp _ _ ho, hdt⟩
  have ok : (lamCx X A X.stack s H E scope f c').Ok := by
    refine { mod := e0.mod, kind := L.kind, glob := rfl, blt := rfl, above := Nat.le_refl _, inj := fun y z c e1 e2 => I.ok.inj y z c (up e1) (up e2), has := fun y hy => ?_, cab := fun y c z _ => ?_, hd := fun _ => hd, frames := ?_, stk := .inr ⟨rfl, rfl⟩, exf := (fun b z => absurd (show b ∈ ([] : List Addr) from z) List.not_mem_nil), bs := e0.bs, bsz := e0.bsz, noex := (fun b _ _ z => absurd (show b ∈ ([] : List Addr) from z) List.not_mem_nil), exfs := (fun b z => absurd (show b ∈ ([] : List Addr) from z) List.not_mem_nil), funs := e0.funs, frf := e0.frf }
    · have hy : scope.names.lookup y = some .cell ∨ scope.names.lookup y = some .free := hy
      exact hy.elim (fun k => absurd rfl (L.own _ (PySem.mem_of_lookup k)).1) get
    · have z : false = true := z
      cases z
    · exact Around.frames_deeper (hA.trans e0.frames)
  refine { ok := ok, os := rfl, bare := e0.bare, base := Un.kept kp, loc := ⟨_, hns, fun j y w e1 e2 e3 => ?_⟩, cell := fun y c e => ?_, free := e0.hok.fresh (Nat.le_refl _), freeC := fun y c e => I.freeC y c (up e), pin := (fun q hq => absurd (show q ∈ ([] : List (Addr × Obj)) ++ [] from hq) (by simp)), hok := e0.hok.kept kp, len := ?_ }
  · have e1 : X.N[j]? = some y := e1
    have e3 : Vis scope y := e3
    by_cases hxy : y = x
    · subst hxy
      obtain rfl : j = i := nodup_ix nd e1 hi
      have hl : j < σ.length := by
        rw [I.len]
        exact (List.getElem?_eq_some_iff.mp e1).1
      rw [List.getElem?_set_self hl] at e2
      cases e2
      refine ⟨u, ru, .inl ⟨L.par, ?_⟩⟩
      show List.lookup y [(y, u)] = some u
      simp [List.lookup]
    · have hfree : scope.names.lookup y = some .free := by
        rcases e3 with k | k | k
        · exact absurd ((L.own _ (PySem.mem_of_lookup k)).2 rfl) hxy
        · exact absurd rfl (L.own _ (PySem.mem_of_lookup k)).1
        · exact k
      have ji : j ≠ i := fun z => hxy (Option.some.inj (e1.symm.trans (by rw [z]; exact hi)))
      rw [List.getElem?_set_ne (fun z => ji z.symm)] at e2
      obtain ⟨m, hn, hl⟩ := I.loc
      have hv := L.free _ (PySem.mem_of_lookup hfree) rfl
      obtain ⟨w1, r1, q1⟩ := hl j y w e1 e2 (hv.elim (fun k => .inr (.inl k)) fun k => .inr (.inr k))
      obtain ⟨c2, h2⟩ := get hfree
      refine ⟨w1, r1, .inr ⟨.inr hfree, c2, h2, ?_⟩⟩
      rcases q1 with ⟨k1, _⟩ | ⟨_, c3, e4, z⟩
      · have k1 : X.env.scope.names.lookup y = some .local := k1
        rcases hv with k2 | k2
        · rw [show X.env.scope.names.lookup y = _ from k2] at k1
          cases k1
        · rw [show X.env.scope.names.lookup y = _ from k2] at k1
          cases k1
      · rw [up h2] at e4
        cases e4
        exact kc z
  · obtain ⟨w1, z⟩ := I.cell y c (up e)
    exact ⟨w1, kc z⟩
  · rw [List.length_set]
    exact I.len
/-- the call of it -/
theorem lam_call1 {A : Around} {scope : Scope} {params : Arguments} {body : Expr} {f c' : Addr} {pm ctv : Value} {i k : Nat} {x : Str} {v : V} {u : Value} {Q : VK} {tb : TE} {G : Value → Shared → Prop} (I : Inv X pins σ H s) (L : LamP X.env.scope scope x) (nd : X.N.Nodup) (hi : X.N[i]? = some x) (ru : RelV v u) (hA : A.frames = X.A.frames)
    (hr : Room (k + 1) A) (hf : s.heap.get? f = some (PySem.W.kla_obj "<lambda>" (X.env.qual ++ "<lambda>") params body scope (cloFrom X.env.cells scope.names []) pm c' ctv)) (hc : H c' = some (LamX.CodeO c' (X.env.qual ++ "<lambda>")))
    (hbind : bindArgs (PySem.W.kla_fn "<lambda>" (X.env.qual ++ "<lambda>") params body scope (cloFrom X.env.cells scope.names []) pm (.ref c') ctv) ⟨[u], []⟩ = pure [(x, u)])
    (hbody : PE (lamCx X A X.stack s H E0 scope f c') body tb) (h : tb (σ.set i (some v)) H Q) : wpAny (model X.prog X.w) A (call (.ref f) [u]) (EP X pins σ Q) G s := by
  obtain ⟨⟨oc, vs, t, hoc, hdc, hvc⟩, _, _⟩ := I.hok c' _ hc
  have rc : codeAny (model X.prog X.w) A (.call (.ref f) ⟨[u], []⟩) (CR (L2.CX X.prog X.w) X.stack X.prog X.w H s Q E0) s := by
    refine PySem.W.kla_callFunE hr.depth hf rfl L.co L.gen rfl ⟨c', oc, vs, t, rfl, hoc, hdc, hvc⟩ ?_
    rw [hbind]
    refine wpAny_pure (wpAny_newFunctionEnv (fun y hy => (L.own y hy).1) (fun y hy => by rw [List.mem_singleton.mp hy]; exact L.par) (fun h₁ hns hsb => ⟨I.nolimit.fresh _ hsb, ?_⟩) L.kind)
    have kp : ∀ b o, s.heap.get? b = some o → h₁.get? b = some o := fun b o e => hsb.extBut b o (show b ≠ _ from Nat.ne_of_lt (Heap.lt_size e)) (Heap.get?_push_of_some _ e)
    have J := lam_start1 (E := E0) (f := f) (c' := c') (tk := s.toks + ([(x, u)] : List (Str × Value)).length) I L nd hi ru hA hr.hd hns kp
    show codeAny _ _ (.expr body (lamEnv X scope s.heap.objs.size f c')) _ _
    refine PySem.W.kla_codeExpr (wpAny_mono (hbody.run [] _ _ H Q J h) (fun w s1 q1 => ?_) fun _ _ q1 => q1)
    obtain ⟨w1, H1, J1, r1, q2⟩ := q1
    exact ⟨w1, H1, J1.os, J1.bare, J1.base, J1.hok, r1, q2⟩
  refine wpAny_call (codeAny_mono rc fun r s1 q1 => ?_)
  rcases r with e1 | fl
  · obtain ⟨_, _, _, _, _, _, _, _, _, _, _, _, z⟩ := q1
    exact z.elim
  rcases fl with _ | _ | _ | w1
  all_goals first
    | exact False.elim q1
    | exact I.after q1
end
end Rr

set_option maxRecDepth 100000
set_option maxHeartbeats 4000000
/-! sorted(callers, key=f): objects by a whole number, the ones of one number in their order -/
namespace Rr
open PySem PySem.Spec PyProof.Rows L2
open SrtO (Srtd Stb)
def ltK (p q : Int × Addr) : Bool := decide (p.1 < q.1)
def adV : Value → Addr
  | .ref a => a
  | _ => 0
def prK (p : Value × Value) : Int × Addr := (SrtO.iv p.1, adV p.2)
theorem zip_prK : ∀ (keys : List Value) (as : List Addr), (keys.zip (as.map Value.ref)).map prK = (keys.map SrtO.iv).zip as
  | [], _ => rfl
  | _ :: _, [] => rfl
  | k :: r, a :: t => congrArg (List.cons (SrtO.iv k, a)) (zip_prK r t)
/-- what the sort of the pairs says of numbers and addresses -/
theorem keyed_out {keys : List Value} {ks : List Int} {as : List Addr} {out : List (Value × Value)} (hk : IntsAre keys ks) (h1 : Srtd (SrtO.lt2 SrtO.ltIv) out) (h2 : Stb (SrtO.lt2 SrtO.ltIv) out (keys.zip (as.map Value.ref))) :
    out.map (·.2) = (out.map prK).map (fun q => Value.ref q.2) ∧ Srtd ltK (out.map prK) ∧ Stb ltK (out.map prK) (ks.zip as) := by
  have e0 : (keys.zip (as.map Value.ref)).map prK = ks.zip as := by
    rw [← SrtO.iv_ints hk]
    exact zip_prK keys as
  refine ⟨?_, ?_, ?_, fun x => ?_⟩
  · rw [List.map_map]
    refine List.map_congr_left fun p hp => ?_
    have hm := (List.of_mem_zip (show (p.1, p.2) ∈ _ from h2.perm.mem_iff.mp hp)).2
    obtain ⟨a, _, e⟩ := List.mem_map.mp hm
    show p.2 = Value.ref (adV p.2)
    rw [← e]
    rfl
  · exact List.pairwise_map.mpr h1
  · rw [← e0]
    exact h2.perm.map prK
  · have e1 : ∀ l : List (Value × Value), (l.map prK).filter (SrtO.eqv ltK x) = (l.filter (SrtO.eqv (SrtO.lt2 SrtO.ltIv) (.int x.1 0, .none))).map prK := fun l => by
      rw [List.filter_map]
      rfl
    rw [← e0, e1, e1, h2.cls]
/-- an object of its own that nothing tells of is written, and told of from now on -/
theorem Inv.tells {X : Cx} {pins : List (Addr × Obj)} {σ : L2.St} {H : Hp} {s : Shared} {h' : Heap} {t' : Nat} {a : Addr} {ys : List V} (I : Inv X pins σ H s) (hn : H a = none) (hL : a ≠ X.env.locals) (h1 : X.s_0.heap.objs.size ≤ a) (h2 : ∀ x c, X.env.cells.lookup x = some c → c ≠ a)
    (h3 : ∀ p ∈ X.pn ++ pins, p.1 ≠ a) (k : ∀ b o, b ≠ a → s.heap.get? b = some o → h'.get? b = some o) (new : ObjOk X.prog X.w (upd H a (.lst ys)) h' a (.lst ys)) : Inv X pins σ (upd H a (.lst ys)) { s with heap := h', toks := t' } := by
  have na : ∀ b u, H b = some u → b ≠ a := fun b u e => ne_of_none e hn
  refine I.step (g' := s.gens) (d' := s.drawn) (ch := [a]) (fun b hb => ?_) (fun b o _ _ hc e _ => k b o (fun z => hc (by rw [z]; exact List.mem_singleton.mpr rfl)) e) (fun b o _ _ hc e _ => ⟨o.slots, k b o (fun z => hc (by rw [z]; exact List.mem_singleton.mpr rfl)) e⟩) (fun b o hc _ n => ?_)
    (fun b o hc e => ⟨o, k b o (fun z => hc (by rw [z]; exact List.mem_singleton.mpr rfl)) e⟩) (fun b xs e => (upd_ne (na _ _ e)).trans e) (fun b o u e => (upd_ne (na _ _ e)).trans e) (fun b ps e => ⟨#[], by rw [upd_ne (na _ _ e), e]; simp⟩) (fun m hm => ?_) (fun b u e => ?_) I.bare
  · obtain rfl := List.mem_singleton.mp hb
    exact ⟨.inr h1, hL, h2, h3⟩
  · exact (upd_ne fun z => hc (by rw [z]; exact List.mem_singleton.mpr rfl)).trans n
  · obtain ⟨o, es, ep, ho, r⟩ := hm
    exact ⟨o, es, ep, k _ o hL.symm ho, r⟩
  · by_cases hb : b = a
    · rw [hb] at e ⊢
      rw [upd_same] at e
      cases e
      exact new
    · rw [upd_ne hb] at e
      refine (I.hok b u e).stay (fun c v hc q => k c v ?_ q) (fun c q => (upd_ne (na _ _ q)).trans q) fun c xs q => (upd_ne (na _ _ q)).trans q
      rcases hc with z | z
      · rw [z]
        exact hb
      · exact na c _ z
section
variable {X : Cx} {pins : List (Addr × Obj)} {σ : L2.St} {H : Hp} {s : Shared} {A : Around} {E : Value → Shared → Prop} {f a kS : Addr} {fo : Obj} {as : List Addr} {ks : List Int} {e1 : Nat} {R : PySem.Fin → Shared → Prop}
abbrev lO (n : Nat) : Obj := { cls := .type "list", data := .seq #[] n }
theorem vals_refsK : ∀ qs : List (Int × Addr), Vals (qs.map fun q => V.ref q.2) (qs.map fun q => Value.ref q.2)
  | [] => .nil
  | _ :: r => .cons rfl (vals_refsK r)
theorem srtd_one {α : Type} {lt : α → α → Bool} : ∀ {l : List α}, l.length < 2 → Srtd lt l
  | [], _ => .nil
  | [_], _ => List.pairwise_singleton _ _
  | _ :: _ :: _, h => absurd h (by simp)
/-- the keys are there: the sort of the pairs, and what it leaves -/
theorem sort_end {keys : List Value} (I : Inv X ((a, lO e1) :: pins) σ H s) (hL : a ≠ X.env.locals) (h1 : X.s_0.heap.objs.size ≤ a) (h2 : ∀ x c, X.env.cells.lookup x = some c → c ≠ a) (h3 : ∀ p ∈ X.pn ++ pins, p.1 ≠ a) (hk : H kS = some (.lst (ks.map V.int))) (hv : Vals (ks.map V.int) keys) (hlen : ks.length = as.length) (hz : as.length ≤ sizeLine)
    (h : ∀ (qs : List (Int × Addr)) (H2 : Hp) (s2 : Shared), Srtd ltK qs → Stb ltK qs (ks.zip as) → (∀ b o, b ≠ a → b ≠ kS → H b = some o → H2 b = some o) → (∀ b, H2 b = none → H b = none) → H2 a = some (.lst (qs.map fun q => V.ref q.2)) → Inv X pins σ H2 s2 → R (.done (.ret .none)) s2) :
    wpAny (model X.prog X.w) A (PyProof.Rows.ksk_end a false (as.map Value.ref).toArray e1 (.ref kS) keys.toArray) R E s := by
  have hka : kS ≠ a := ne_of_none hk (I.pin (a, lO e1) (by simp)).2.1
  have na := (I.pin (a, lO e1) (by simp)).2.1
  have hI : IntsAre keys ks := hv.ints
  have lk : keys.length = ks.length := by have := hv.length; rw [List.length_map] at this; exact this.symm
  have hl2 : (keys.zip (as.map Value.ref)).length = as.length := by rw [List.length_zip, List.length_map]; omega
  have hkz : (keys.toArray.zip (as.map Value.ref).toArray).toList = keys.zip (as.map Value.ref) := by simp
  -- the end, whatever the sort has left
  have fin : ∀ (st : SortSt), Srtd (SrtO.lt2 SrtO.ltIv) (arrOf st).toList → Stb (SrtO.lt2 SrtO.ltIv) (arrOf st).toList (keys.zip (as.map Value.ref)) → failedOf st = none → wpAny (model X.prog X.w) A (PyProof.Rows.ksk_tail a false e1 (.ref kS) st) R E s := by
    intro st o1 o2 hf
    obtain ⟨m1, m2, m3⟩ := keyed_out hI o1 o2
    unfold PyProof.Rows.ksk_tail
    obtain ⟨_, kv, n, rv, ln, eo⟩ := I.lstM hk
    have hkv : kv.length ≤ sizeLine := by rw [← ln, List.length_map]; omega
    refine wpAny_bind (listUpdate_at eo rfl ?_ (by simpa using hkv) (Nat.zero_le _))
    have I1 := I.lset (t' := s.toks) (its' := []) (ys := []) (f := fun _ => #[]) hk eo rfl .nil (Nat.zero_le _)
    refine wpAny_bind (wpAny_letGo ?_)
    have ha1 := (I1.pin (a, lO e1) (by simp)).1
    refine wpAny_bind (seqEpoch_at ha1 rfl ?_)
    have hsz : ((arrOf st).map (·.2)).size = as.length := by
      have := o2.len
      rw [hl2, Array.length_toList] at this
      rw [Array.size_map]
      exact this
    dsimp only
    have eL : ((arrOf st).map (·.2)).toList = ((arrOf st).toList.map prK).map fun q => Value.ref q.2 := by rw [Array.toList_map]; exact m1
    have eA : (arrOf st).map (·.2) = (((arrOf st).toList.map prK).map fun q => Value.ref q.2).toArray := by rw [← eL, Array.toArray_toList]
    have lq : ((arrOf st).toList.map prK).length = as.length := by
      have := m3.len
      rw [List.length_zip] at this
      omega
    refine wpAny_bind (listUpdate_at ha1 rfl ?_ (Nat.zero_le _) (Nat.le_trans (Nat.le_of_eq hsz) (by omega)))
    rw [hf]
    simp only [bne_self_eq_false, Bool.false_eq_true, if_false]
    obtain ⟨c2, hc2⟩ : ∃ c2, ((s.heap.update kS (Obj.mapSeq fun _ => #[])).update a (Obj.mapSeq fun _ => (arrOf st).map (·.2))).get? a = some { cls := .type "list", data := .seq ((arrOf st).map (·.2)) c2 } := ⟨_, get?_update_seq ha1 fun _ => (arrOf st).map (·.2)⟩
    have I2 := Inv.tells (t' := s.toks) (ys := ((arrOf st).toList.map prK).map fun q => V.ref q.2) (I1.pins_of (pins' := pins) fun p hp => I1.pin p (List.mem_append_right _ (List.mem_cons_of_mem _ hp))) (I1.pin (a, lO e1) (by simp)).2.1 hL h1 h2 h3
      (h' := (s.heap.update kS (Obj.mapSeq fun _ => #[])).update a (Obj.mapSeq fun _ => (arrOf st).map (·.2))) (fun b o hb e => (Heap.get?_update_ne _ _ _ _ hb).trans e) ⟨by rw [List.length_map, lq]; exact hz, ((arrOf st).toList.map prK).map fun q => Value.ref q.2, c2, vals_refsK _, by rw [← eA]; exact hc2⟩
    refine wpAny_pure (h ((arrOf st).toList.map prK) _ _ m2 m3 (fun b o hb hb2 e => (upd_ne hb).trans ((upd_ne hb2).trans e)) (fun b e => ?_) upd_same I2)
    by_cases z : b = a
    · rw [z]
      exact na
    · rw [upd_ne z] at e
      by_cases z2 : b = kS
      · rw [z2, upd_same] at e
        cases e
      · rw [upd_ne z2] at e
        exact e
  unfold PyProof.Rows.ksk_end
  simp only [Bool.false_eq_true, if_false]
  by_cases g : (as.map Value.ref).toArray.size < 2
  · rw [if_pos g, if_pos g]
    refine wpAny_bind (wpAny_pure ?_)
    rw [StateT.run_pure]
    refine wpAny_bind (wpAny_pure ?_)
    refine fin _ ?_ ?_ rfl
    · show Srtd _ (keys.toArray.zip (as.map Value.ref).toArray).toList
      rw [hkz]
      have : (keys.zip (as.map Value.ref)).length < 2 := by
        rw [hl2]
        simpa using g
      exact srtd_one this
    · show Stb _ (keys.toArray.zip (as.map Value.ref).toArray).toList _
      rw [hkz]
      exact Stb.refl _
  · rw [if_neg g, if_neg g]
    have g2 : 2 ≤ keys.toArray.size := by
      simp at g ⊢
      omega
    rw [ksk_kind (kz := ks) (by simpa using hI) g2]
    refine wpAny_bind (wpAny_pure ?_)
    have hall : SrtO.AllL (fun p : Keyed => p.1 ∈ keys) (arrOf (SortSt.mk' oneType' (keys.toArray.zip (as.map Value.ref).toArray) #[] 7 none)).toList := fun p hm => by
      have hm : p ∈ (keys.toArray.zip (as.map Value.ref).toArray).toList := hm
      rw [hkz] at hm
      exact (List.of_mem_zip (show (p.1, p.2) ∈ _ from hm)).1
    refine wpAny_bind (wpAny_mono (SrtO.wpS_sortO (st0 := SortSt.mk' oneType' (keys.toArray.zip (as.map Value.ref).toArray) #[] 7 none) (Q := fun _ st' => Srtd (SrtO.lt2 SrtO.ltIv) (arrOf st').toList ∧ Stb (SrtO.lt2 SrtO.ltIv) (arrOf st').toList (keys.toArray.zip (as.map Value.ref).toArray).toList ∧ failedOf st' = none)
      (SrtO.swo2 SrtO.swo_int) (SrtO.int_cmp hI) rfl hall rfl rfl fun st' a1 a2 a3 => ⟨a1, a2, a3⟩) ?_ fun _ _ e => e)
    rintro ⟨⟨⟩, st'⟩ s' ⟨rfl, o1, o2, o3⟩
    rw [hkz] at o2
    exact fin st' o1 o2 o3
end
end Rr

set_option maxRecDepth 100000
set_option maxHeartbeats 4000000
/-! sorted(callers, key=f): the call -/
namespace Rr
open PySem PySem.Spec PyProof.Rows L2
open SrtO (Srtd Stb)
section
variable {X : Cx} {pins : List (Addr × Obj)} {σ : L2.St} {H : Hp} {s : Shared} {A : Around} {E : Value → Shared → Prop} {f a kS l : Addr} {fo : Obj} {as : List Addr} {ks : List Int} {e1 : Nat} {R : PySem.Fin → Shared → Prop}
/-- a call of f with the i-th one gives the i-th number and leaves all as it was -/
def Turns (X : Cx) (A : Around) (pins : List (Addr × Obj)) (σ : L2.St) (f : Addr) (as : List Addr) (ks : List Int) (P : Hp → Prop) : Prop :=
  ∀ (i : Nat) (u : Addr) (k : Int) (H' : Hp) (s' : Shared), as[i]? = some u → ks[i]? = some k → P H' → Inv X pins σ H' s' → wpAny (model X.prog X.w) A (call (.ref f) [.ref u]) (EP X pins σ fun v H2 => v = .int k ∧ H2 = H') (fun _ _ => False) s'
theorem sort_rest (I : Inv X ((a, lO e1) :: (f, fo) :: pins) σ H s) (hL : a ≠ X.env.locals) (h1 : X.s_0.heap.objs.size ≤ a) (h2 : ∀ x c, X.env.cells.lookup x = some c → c ≠ a) (h3 : ∀ p ∈ X.pn ++ ((f, fo) :: pins), p.1 ≠ a) (hk : H kS = some (.lst [])) (hlen : ks.length = as.length) (hz : as.length ≤ sizeLine)
    (turn : Turns X A ((a, lO e1) :: (f, fo) :: pins) σ f as ks fun H' => ∀ b o, b ≠ kS → H b = some o → H' b = some o)
    (h : ∀ (qs : List (Int × Addr)) (H2 : Hp) (s2 : Shared), Srtd ltK qs → Stb ltK qs (ks.zip as) → (∀ b o, b ≠ a → b ≠ kS → H b = some o → H2 b = some o) → (∀ b, H2 b = none → H b = none) → H2 a = some (.lst (qs.map fun q => V.ref q.2)) → Inv X ((f, fo) :: pins) σ H2 s2 → R (.done (.ret .none)) s2) :
    wpAny (model X.prog X.w) A (ksk_rest a (.ref f) false (as.map Value.ref).toArray e1 (.ref kS)) R E s := by
  unfold ksk_rest
  refine wpAny_bind (wpAny_rule ?_)
  rw [List.forIn_toArray]
  refine wpAny_bind (ksk_fold (fun i s' => ∃ H', (∀ b o, b ≠ kS → H b = some o → H' b = some o) ∧ (∀ b, H' b = none → H b = none) ∧ H' kS = some (.lst ((ks.take i).map V.int)) ∧ Inv X ((a, lO e1) :: (f, fo) :: pins) σ H' s') (as.map Value.ref) 0 s ⟨H, fun _ _ _ e => e, fun _ e => e, hk, I⟩ ?step ?done)
  case step =>
    rintro j x s' hx ⟨H', g1, g0, g2, I'⟩
    simp only [Nat.zero_add] at g2 ⊢
    rw [List.getElem?_map] at hx
    cases eu : as[j]? with
    | none =>
      rw [eu] at hx
      cases hx
    | some u =>
      rw [eu] at hx
      obtain rfl : Value.ref u = x := Option.some.inj hx
      have hj : j < as.length := (List.getElem?_eq_some_iff.mp eu).1
      obtain ⟨k, ek⟩ : ∃ k, ks[j]? = some k := ⟨_, List.getElem?_eq_getElem (by omega)⟩
      refine wpAny_bind (wpAny_attempt (wpAny_mono (turn j u k H' s' eu ek g1 I') (fun v s'' he => ?_) fun _ _ z => z.elim))
      obtain ⟨w, H2, I2, rv, ew, eH⟩ := he
      subst ew eH
      obtain ⟨t, rfl⟩ := rv
      dsimp only
      obtain ⟨z, kv, n, rk, ln, eo⟩ := I2.lstM g2
      have lk : kv.length = j := by
        rw [← ln, List.length_map, List.length_take]
        omega
      have et : (ks.take (j + 1)).map V.int = (ks.take j).map V.int ++ [V.int k] := by
        rw [List.take_add_one, ek, List.map_append]
        rfl
      have I3 := I2.lset (t' := s''.toks) (its' := kv ++ [.int k t]) (ys := (ks.take (j + 1)).map V.int) (f := (·.push (.int k t))) g2 eo (by simp) (by rw [et]; exact rk.append (.cons ⟨t, rfl⟩ .nil)) (by rw [List.length_map, List.length_take]; omega)
      refine wpAny_bind (listUpdate_at eo rfl ?_ (by rw [List.size_toArray]; omega) (by rw [Array.size_push, List.size_toArray]; omega))
      refine wpAny_pure ⟨rfl, _, fun b o hb e => (upd_ne hb).trans (g1 b o hb e), fun b e => ?_, upd_same, I3⟩
      by_cases q : b = kS
      · rw [q, upd_same] at e
        cases e
      · rw [upd_ne q] at e
        exact g0 b e
  case done =>
    rintro s' ⟨H', g1, g0, g2, I'⟩
    rw [List.take_of_length_le (by rw [List.length_map]; omega)] at g2
    obtain ⟨z, kv, n, rk, ln, eo⟩ := I'.lstM g2
    refine wpAny_bind (listItems_at eo rfl ?_)
    exact sort_end I' hL h1 h2 h3 g2 rk hlen hz fun qs H2 s2 m1 m2 m3 m4 m5 m6 => h qs H2 s2 m1 m2 (fun b o hb hb2 e => m3 b o hb hb2 (g1 b o hb2 e)) (fun b e => g0 b (m4 b e)) m5 m6
theorem nat_ne1 {b a n : Nat} (h : b < n) (e : a = n + 1) : b ≠ a := by omega
theorem nat_ne2 {a n m : Nat} (e : a = n + 1) (z : m = n + 3) : a ≠ m := by omega
/-- sorted(l, key=f) -/
theorem sorted_key {Q : Value → Shared → Prop} (I : Inv X ((f, fo) :: pins) σ H s) (hl : SqL X.K H l (as.map V.ref)) (hlen : ks.length = as.length)
    (turn : ∀ (a : Addr) (e1 : Nat), Turns X A.in1.in1 ((a, lO e1) :: (f, fo) :: pins) σ f as ks fun H' => ∀ b o, H b = some o → H' b = some o)
    (h : ∀ (p : Addr) (qs : List (Int × Addr)) (H2 : Hp) (s2 : Shared), Srtd ltK qs → Stb ltK qs (ks.zip as) → (∀ b o, H b = some o → H2 b = some o) → (∀ b, H2 b = none → H b = none) → H p = none → H2 p = some (.lst (qs.map fun q => V.ref q.2)) → Inv X ((f, fo) :: pins) σ H2 s2 → Q (.ref p) s2) :
    wpAny (model X.prog X.w) A (call (.builtin "sorted") [.ref l] [(Str.ofString "key", .ref f)]) Q E s := by
  obtain ⟨its, rv, pl, hz⟩ := I.list hl
  obtain rfl := refs_at rv
  rw [List.length_map] at hz
  have hz' : (as.map Value.ref).length ≤ sizeLine := by rw [List.length_map]; exact hz
  refine call_function_entry_kw kind_sorted plain_sorted entry_sorted (ksk_s1 _ _) ?_
  unfold Builtin.«sorted»
  refine wpAny_bind (m := checkCount "sorted" 1 1 _) (wpAny_pure ?_)
  refine wpAny_bind (collect_list pl.isList ?_ hz')
  refine wpAny_bind (wpAny_newList ?_ hz')
  generalize eh1 : (s.heap.push (seqObj "list" #[] 0)).update s.heap.objs.size (Obj.mapSeq (· ++ (as.map Value.ref).toArray)) = h1
  have z1 : h1.objs.size = s.heap.objs.size + 1 := by rw [← eh1, Heap.size_update, size_push']
  have kp1 : ∀ b o, s.heap.get? b = some o → h1.get? b = some o := fun b o q => by
    have lt := Nat.ne_of_lt (Heap.lt_size q)
    rw [← eh1, Heap.get?_update_ne _ _ _ _ lt, Heap.get?_push_ne _ _ _ lt]
    exact q
  show wpAny _ _ _ _ _ { s with heap := h1.push (seqObj "list" (as.map Value.ref).toArray 0) }
  rw [z1]
  have ho : (h1.push (seqObj "list" (as.map Value.ref).toArray 0)).get? (s.heap.objs.size + 1) = some (seqObj "list" (as.map Value.ref).toArray 0) := by
    rw [← z1]
    exact Heap.get?_push_size _ rfl
  refine wpAny_bind (wpAny_holding (wpAny_call_entry_kw slot_list_sort ⟨_, ho, rfl⟩ entry_list_sort ?body (ksk_l1 _ _)))
  case body =>
    show wpAny (model X.prog X.w) A.in1.in1 (Builtin.«list.sort» ⟨[.ref (s.heap.objs.size + 1)], [(Str.ofString "key", .ref f)]⟩) _ _ _
    rw [ksk_t1]
    unfold ksk_tree
    obtain ⟨a, ea⟩ : ∃ a, a = s.heap.objs.size + 1 := ⟨_, rfl⟩
    rw [← ea] at ho ⊢
    generalize eh2 : h1.push (seqObj "list" (as.map Value.ref).toArray 0) = h2 at ho ⊢
    have z2 : h2.objs.size = s.heap.objs.size + 2 := by rw [← eh2, size_push', z1]
    have kp2 : ∀ b o, s.heap.get? b = some o → h2.get? b = some o := fun b o q => by rw [← eh2]; exact Heap.get?_push_of_some _ (kp1 b o q)
    refine wpAny_bind (listItems_at ho rfl ?_)
    refine wpAny_bind (listUpdate_at ho rfl ?_ (by simpa using hz) (Nat.zero_le _))
    obtain ⟨e1, ho1⟩ : ∃ e1, (h2.update a (Obj.mapSeq fun _ => #[])).get? a = some (seqObj "list" #[] e1) := ⟨_, get?_update_seq ho fun _ => #[]⟩
    refine wpAny_bind (seqEpoch_at ho1 rfl ?_)
    refine wpAny_bind (wpAny_newTuple ?_ (by simpa using hz))
    refine wpAny_bind (wpAny_newList ?_ (Nat.zero_le _))
    refine wpAny_holding ?_
    generalize eh3 : (h2.update a (Obj.mapSeq fun _ => #[])).push (seqObj "tuple" (as.map Value.ref).toArray 0) = h3
    have z3 : h3.objs.size = s.heap.objs.size + 3 := by rw [← eh3, size_push', Heap.size_update, z2]
    have lta : ∀ b o, s.heap.get? b = some o → b ≠ a := fun b o q => nat_ne1 (Heap.lt_size q) ea
    have kp3 : ∀ b o, s.heap.get? b = some o → h3.get? b = some o := fun b o q => by
      rw [← eh3]
      exact Heap.get?_push_of_some _ ((Heap.get?_update_ne _ _ _ _ (lta b o q)).trans (kp2 b o q))
    have ho3 : h3.get? a = some (seqObj "list" #[] e1) := by
      rw [← eh3]
      exact Heap.get?_push_of_some _ ho1
    have nk : H h3.objs.size = none := I.hok.fresh (by omega)
    have na : H a = none := I.hok.fresh (by omega)
    have ak : a ≠ h3.objs.size := nat_ne2 ea z3
    have I1 := I.laid (t' := s.toks) (a := h3.objs.size) (o := .lst []) (h' := h3.push (seqObj "list" #[] 0)) (fun b o q => Heap.get?_push_of_some _ (kp3 b o q)) (by omega) ⟨Nat.zero_le _, [], 0, .nil, Heap.get?_push_size _ rfl⟩
    have aL : a ≠ X.env.locals := (nat_ne1 I.lt ea).symm
    have aF : a ∉ X.fs := I.nofs (by omega)
    have hp : ∀ p ∈ X.pn ++ ((f, fo) :: pins), p.1 ≠ a := fun p hm => nat_ne1 (Heap.lt_size (I.pin p hm).1) ea
    have I2 : Inv X ((a, lO e1) :: (f, fo) :: pins) σ _ _ := I1.pins_of fun p hm => by
      rcases List.mem_cons.mp hm with e | hm
      · rw [e]
        exact ⟨Heap.get?_push_of_some _ ho3, (upd_ne ak).trans na, aL, aF, fun v z => by cases z⟩
      · exact I1.pin p (List.mem_append_right _ hm)
    have hc : ∀ x c, X.env.cells.lookup x = some c → c ≠ a := fun x c e z => by
      obtain ⟨v, o, q, _⟩ := I.cell x c e
      exact lta c o q z
    refine sort_rest I2 aL (by have := I.sz; omega) hc hp upd_same hlen hz (fun i u k H' s' e1' e2' g J => turn a e1 i u k H' s' e1' e2' (fun b o e => g b o (ne_of_none e nk) ((upd_ne (ne_of_none e nk)).trans e)) J) fun qs H2 s2 m1 m2 m3 m4 m5 m6 => ⟨_, rfl, ?_⟩
    refine wpAny_pure ⟨_, rfl, ?_⟩
    refine h _ qs H2 s2 m1 m2 (fun b o e => m3 b o (ne_of_none e na) (ne_of_none e nk) ((upd_ne (ne_of_none e nk)).trans e)) (fun b e => ?_) na m5 m6
    have q := m4 b e
    by_cases z : b = h3.objs.size
    · rw [z]
      exact nk
    · rw [upd_ne z] at q
      exact q
end
end Rr

set_option maxRecDepth 100000
set_option maxHeartbeats 4000000
/-! sorted(l, key=lambda x: ..): the whole expression -/
namespace Rr
open PySem PySem.Spec PyProof.Rows L2
open SrtO (Srtd Stb)
open LamX (CodeO TabS TabB lamCx lamEnv)
/-- all but the table at P stays, nothing goes -/
structure ButP (P : Addr) (q : Str) (H H' : Hp) : Prop where
  old : ∀ b o, b ≠ P → H b = some o → H' b = some o
  gone : ∀ b, H' b = none → H b = none
  tab : TabS H' P q
theorem codeO_nt {c : Addr} {q : Str} {ps : Array Value} (h : CodeO c q = .tbl ps) : False := by
  unfold CodeO at h
  cases h
section
variable {X : Cx} {pins : List (Addr × Obj)} {σ : L2.St} {H : Hp} {s : Shared}
theorem lam_make3 {c P : Addr} {params : Arguments} {body : Expr} {scope : Scope} {pos : Pos} {E : Value → Shared → Prop} {Q : Value → Shared → Prop} (I : Inv X pins σ H s) (TB : TabB X.base X.mg c P) (hcode : X.env.code = .ref c)
    (hT : TabS H P (X.env.qual ++ "<lambda>")) (hdef : defaultsOf params X.env = ([], [])) (hfree : ∀ y ∈ scope.names, y.2 = .free → ∃ c, X.env.cells.lookup y.1 = some c)
    (h : ∀ (f c' : Addr) (pm ctv : Value) (H1 : Hp) (s' : Shared), Inv X pins σ H1 s' → ButP P (X.env.qual ++ "<lambda>") H H1 →
      s'.heap.get? f = some (PySem.W.kla_obj "<lambda>" (X.env.qual ++ "<lambda>") params body scope (cloFrom X.env.cells scope.names []) pm c' ctv) → H1 f = none → f ≠ X.env.locals → f ∉ X.fs → H1 c' = some (CodeO c' (X.env.qual ++ "<lambda>")) → Q (.ref f) s') :
    wpAny (model X.prog X.w) X.A (eval (.Lambda params body scope pos) X.env) Q E s := by
  obtain ⟨ps, hP, ht, ha⟩ := hT
  refine PySem.W.kla_eval hdef ?_
  have bP : s.heap.BuiltinsAt X.mg P := TB.bm.keeps I.bk
  have hP' : s.heap.get? P = some { cls := .none, data := .fields ps } := I.hok P _ hP
  cases hc : codeAmong pos ps.toList with
  | none =>
    refine PySem.W.kla_makeFunction (mg := X.mg) (c := c) (P := P) (ps := ps) (closure_ok hfree) I.ok.glob (I.mod.glob.keeps I.bk) hcode (TB.code.keeps I.bk) hP' ht hc TB.gP bP fun c' ctv h' tk hx hge hlt hrec htb => ?_
    obtain ⟨_, oc, vs, t, e2, hoc, hd, hv⟩ := hrec
    cases e2
    have hsz : s.heap.objs.size ≤ h'.objs.size := Nat.le_trans hge (Nat.le_of_lt hlt)
    have nC : H c' = none := I.hok.fresh hge
    have I1 := LamX.inv_table (q := X.env.qual ++ "<lambda>") (t' := tk) (more := #[rawInt pos.line, rawInt pos.col, .ref c']) (h' := h'.push (PySem.W.kla_obj "<lambda>" (X.env.qual ++ "<lambda>") params body scope (cloFrom X.env.cells scope.names []) ((X.mg "__name__").getD .none) c' ctv)) I hP
      (fun b o hb e => Heap.get?_push_of_some _ (hx b o hb e)) (Heap.get?_push_of_some _ htb) hge ⟨oc, vs, t, Heap.get?_push_of_some _ hoc, hd, hv⟩
    have nf : h'.objs.size ≠ c' := Nat.ne_of_gt hlt
    have nfP : h'.objs.size ≠ P := Nat.ne_of_gt (Nat.lt_of_lt_of_le (Heap.lt_size hP') hsz)
    have ex : ∀ b o, b ≠ P → H b = some o → upd (upd H P (.tbl (ps ++ #[rawInt pos.line, rawInt pos.col, .ref c']))) c' (CodeO c' (X.env.qual ++ "<lambda>")) b = some o := fun b o hb e => by
      rw [upd_ne (ne_of_none e nC), upd_ne hb]
      exact e
    refine h _ c' _ ctv _ _ I1 ⟨ex, fun b e => ?_, ⟨_, (upd_ne (ne_of_none hP nC)).trans upd_same, ?_, fun p' cv hcv => ?_⟩⟩ (Heap.get?_push_size _ rfl) ((upd_ne nf).trans ((upd_ne nfP).trans (I.hok.fresh hsz))) (fun z => ?_) (fun z => I.nofs hsz z) upd_same
    · by_cases z : b = c'
      · rw [z]
        exact nC
      · rw [upd_ne z] at e
        by_cases y : b = P
        · rw [y, upd_same] at e
          cases e
        · rw [upd_ne y] at e
          exact e
    · rw [show (ps ++ #[rawInt pos.line, rawInt pos.col, Value.ref c']).toList = ps.toList ++ [rawInt pos.line, rawInt pos.col, .ref c'] by simp]
      exact PySem.TriplesOk_snoc _ _ _ _ ht
    · rw [show (ps ++ #[rawInt pos.line, rawInt pos.col, Value.ref c']).toList = ps.toList ++ [rawInt pos.line, rawInt pos.col, .ref c'] by simp] at hcv
      rcases LamX.among_app _ ht hcv with z | z
      · obtain ⟨c0, e1, e2⟩ := ha p' cv z
        exact ⟨c0, e1, ex _ _ (fun y => by rw [y, hP] at e2; exact codeO_nt (Option.some.inj e2).symm) e2⟩
      · exact ⟨c', z, upd_same⟩
    · have lt := Nat.lt_of_lt_of_le I.lt hsz
      rw [← z] at lt
      exact Nat.lt_irrefl _ lt
  | some cv =>
    obtain ⟨c', rfl, hco⟩ := ha pos cv hc
    refine PySem.W.kla_makeFunctionHit (mg := X.mg) (c := c) (P := P) (ps := ps) (closure_ok hfree) I.ok.glob (I.mod.glob.keeps I.bk) hcode (TB.code.keeps I.bk) hP' ht hc bP fun ctv h' tk hx hsz => ?_
    have I1 : Inv X pins σ H { s with heap := h'.push (PySem.W.kla_obj "<lambda>" (X.env.qual ++ "<lambda>") params body scope (cloFrom X.env.cells scope.names []) ((X.mg "__name__").getD .none) c' ctv), toks := tk } := I.kept fun b o e => Heap.get?_push_of_some _ (hx b o e)
    refine h _ c' _ ctv H _ I1 ⟨fun _ _ _ e => e, fun _ e => e, ps, hP, ht, ha⟩ (Heap.get?_push_size _ rfl) (I.hok.fresh hsz) (fun z => ?_) (fun z => I.nofs hsz z) hco
    have lt := Nat.lt_of_lt_of_le I.lt hsz
    rw [← z] at lt
    exact Nat.lt_irrefl _ lt
end
def tSortK (K : PySem.W.Frag) (P : Addr) (q : Str) (i : Nat) (te tb : TE) : TE := fun σ H Q => te σ H fun v H1 => ∃ (l : Addr) (as : List Addr) (ks : List Int), v = .ref l ∧ SqL K H1 l (as.map V.ref) ∧ (∀ o, H1 l = some o → l ≠ P) ∧ ks.length = as.length ∧ TabS H1 P q ∧
  (∀ (j : Nat) (u : Addr) (k : Int) (H' : Hp), as[j]? = some u → ks[j]? = some k → ButP P q H1 H' → tb (σ.set i (some (.ref u))) H' fun v H2 => v = .int k ∧ H2 = H') ∧
  ∀ (p : Addr) (qs : List (Int × Addr)) (H2 : Hp), Srtd ltK qs → Stb ltK qs (ks.zip as) → ButP P q H1 H2 → H1 p = none → H2 p = some (.lst (qs.map fun q => V.ref q.2)) → Q (.ref p) H2
section
variable {X : Cx} {k i : Nat} {c P : Addr} {e body : Expr} {params : Arguments} {scope : Scope} {x : Str} {te tb : TE} {p lpos kpos pos : Pos}
theorem pe_sortK (hg : Gl X "sorted") (hm : X.mg "sorted" = none) (he : PE X e te) (TB : TabB X.base X.mg c P) (hcode : X.env.code = .ref c) (hr : Room (k + 3) X.A) (L : LamP X.env.scope scope x) (nd : X.N.Nodup) (hi : X.N[i]? = some x) (hdef : defaultsOf params X.env = ([], []))
    (hbind : ∀ (q : Str) (cl : List (Str × Addr)) (pm cv ctv : Value) (u : Value), bindArgs (PySem.W.kla_fn "<lambda>" q params body scope cl pm cv ctv) ⟨[u], []⟩ = pure [(x, u)])
    (hbody : ∀ (A : Around) (s : Shared) (H : Hp) (f c' : Addr), Room k (A.deeper (lamEnv X scope s.heap.objs.size f c')) → PE (lamCx X A X.stack s H E0 scope f c') body tb)
    (hst : backTo pos (starEach [e] X.env) = (false, eval e X.env) :: backTo pos (starEach [] X.env) := by rfl) :
    PE X (.Call (.Name "sorted" p) [e] [⟨some "key", .Lambda params body scope lpos, kpos⟩] pos) (tSortK X.K P (X.env.qual ++ "<lambda>") i te tb) := by
  refine ⟨fun pins s σ H Q I h => ?_⟩
  refine wpAny_Call_Name_kw (ld_blt I hg hm (by rfl) ?_ (by decide) (by decide))
  refine PyProof.Rows.callWith_kw ?_ hst (by rw [hst]; rfl) (by rfl) (by rfl)
  rw [hst]
  refine Calls.spliced_cons (thn (he.run pins s σ H _ I h) ?_)
  rintro u s1 ⟨v, H1, I1, r1, l, as, ks, rfl, hl, lP, hlen, hT, turn, fin⟩
  obtain rfl : u = Value.ref l := r1
  refine Calls.spliced_nil ?_
  show wpAny _ _ (evalAll [do let v ← eval (.Lambda params body scope lpos) X.env; standAt pos; pure v]) _ _ s1
  refine wpAny_evalAll_cons (wpAny_bind (lam_make3 I1 TB hcode hT hdef (L.has I1.ok) fun f c' pm ctv H2 s2 I2 b2 hf hfn hfl hfs hco => wpAny_bind (wpAny_standAt (wpAny_pure (wpAny_evalAll_nil ?_)))))
  show wpAny (model X.prog X.w) X.A (call (.builtin "sorted") [.ref l] [(Str.ofString "key", .ref f)]) _ _ s2
  have I3 : Inv X ((f, PySem.W.kla_obj "<lambda>" (X.env.qual ++ "<lambda>") params body scope (cloFrom X.env.cells scope.names []) pm c' ctv) :: pins) σ H2 s2 := I2.pins_of fun p hp => by
    rcases List.mem_cons.mp hp with e | e
    · rw [e]
      exact ⟨hf, hfn, hfl, hfs, fun v z => by cases z⟩
    · exact I2.pin p (List.mem_append_right _ e)
  have hl2 : SqL X.K H2 l (as.map V.ref) := by
    rcases hl with (z | ⟨o, z⟩) | z
    · exact .inl (.inl (b2.old _ _ (lP _ z) z))
    · exact .inl (.inr ⟨o, b2.old _ _ (lP _ z) z⟩)
    · exact .inr z
  refine sorted_key I3 hl2 hlen (fun a e1 j u kk H' s' eu ek g J => ?_) fun p' qs H3 s3 o1 o2 g3 n3 np hp3 J3 => ?_
  · have bt : ButP P (X.env.qual ++ "<lambda>") H1 H' := by
      refine ⟨fun b o hb e => g b o (b2.old b o hb e), fun b e => ?_, b2.tab.ext g⟩
      cases z : H1 b with
      | none => rfl
      | some o =>
        by_cases y : b = P
        · obtain ⟨ps, e5, _⟩ := b2.tab
          rw [y, g _ _ e5] at e
          cases e
        · rw [g b o (b2.old b o y z)] at e
          cases e
    have hco' := g _ _ hco
    exact lam_call1 (k := k) (c' := c') (x := x) (i := i) J L nd hi (show RelV (.ref u) (.ref u) from rfl) rfl hr.in1.in1 (J.pin (f, _) (List.mem_append_right _ (List.mem_cons_of_mem _ List.mem_cons_self))).1 hco' (hbind _ _ _ _ _ _) (hbody _ _ _ _ _ (hr.in1.in1.deeper _)) (turn j u kk H' eu ek bt)
  · refine ⟨.ref p', H3, J3.pins_of fun p hp => J3.pin p (List.mem_append_right _ (List.mem_cons_of_mem _ hp)), rfl, fin p' qs H3 o1 o2 ⟨fun b o hb e => g3 b o (b2.old b o hb e), fun b e => b2.gone b (n3 b e), b2.tab.ext g3⟩ ?_ hp3⟩
    cases z : H1 p' with
    | none => rfl
    | some o =>
      by_cases y : p' = P
      · obtain ⟨ps, e5, _⟩ := b2.tab
        rw [y, e5] at np
        cases np
      · rw [b2.old p' o y z] at np
        cases np
end
end Rr

set_option maxRecDepth 100000
set_option maxHeartbeats 4000000
/-! the ready callers in the order in which they would be chosen -/
namespace Rr
open PySem PySem.Spec PyProof.Rows L2
open SrtO (Srtd Stb Swo)
section
variable {α β : Type}
/-- by f from above; the ones of one f in their order -/
def insBy (f : α → Int) (x : α) : List α → List α
  | [] => [x]
  | y :: r => if f y ≤ f x then x :: y :: r else y :: insBy f x r
def ordBy (f : α → Int) : List α → List α
  | [] => []
  | x :: r => insBy f x (ordBy f r)
def ltB (f : α → Int) (x y : α) : Bool := decide (f y < f x)
theorem swoB (f : α → Int) : Swo (ltB f) := by
  refine ⟨fun x y h => ?_, fun x y z h1 h2 => ?_⟩
  · have a := of_decide_eq_true (p := f y < f x) h
    exact decide_eq_false (p := f x < f y) (by omega)
  · have a := of_decide_eq_false (p := f x < f y) h1
    have b := of_decide_eq_false (p := f y < f z) h2
    exact decide_eq_false (p := f x < f z) (by omega)
theorem ins_stb (f : α → Int) (x : α) : ∀ l, Stb (ltB f) (insBy f x l) (x :: l)
  | [] => Stb.refl _
  | y :: r => by
    unfold insBy
    by_cases h : f y ≤ f x
    · rw [if_pos h]
      exact Stb.refl _
    · rw [if_neg h]
      have s1 : Stb (ltB f) (y :: insBy f x r) (y :: x :: r) := Stb.app (Stb.refl [y]) (ins_stb f x r)
      have s2 : Stb (ltB f) (y :: x :: r) (x :: y :: r) := Stb.app (Stb.swap (swoB f) (A := [y]) (B := [x]) fun a ha b hb => by
        rw [List.mem_singleton.mp ha, List.mem_singleton.mp hb]
        exact decide_eq_true (by omega)) (Stb.refl r)
      exact s1.trans s2
theorem ord_stb (f : α → Int) : ∀ l, Stb (ltB f) (ordBy f l) l
  | [] => Stb.refl _
  | x :: r => (ins_stb f x _).trans (Stb.app (Stb.refl [x]) (ord_stb f r))
theorem ins_srtd (f : α → Int) (x : α) : ∀ l, Srtd (ltB f) l → Srtd (ltB f) (insBy f x l)
  | [], _ => List.pairwise_singleton _ _
  | y :: r, h => by
    unfold insBy
    obtain ⟨h1, h2⟩ := List.pairwise_cons.mp h
    by_cases c : f y ≤ f x
    · rw [if_pos c]
      refine List.pairwise_cons.mpr ⟨fun z hz => ?_, h⟩
      rcases List.mem_cons.mp hz with e | e
      · rw [e]
        exact decide_eq_false (by omega)
      · have := of_decide_eq_false (p := f y < f z) (h1 z e)
        exact decide_eq_false (by omega)
    · rw [if_neg c]
      refine List.pairwise_cons.mpr ⟨fun z hz => ?_, ins_srtd f x r h2⟩
      rcases List.mem_cons.mp ((ins_stb f x r).perm.mem_iff.mp hz) with e | e
      · rw [e]
        exact decide_eq_false (by omega)
      · exact h1 z e
theorem ord_srtd (f : α → Int) : ∀ l, Srtd (ltB f) (ordBy f l)
  | [] => List.Pairwise.nil
  | x :: r => ins_srtd f x _ (ord_srtd f r)
/-- what is sorted so is it -/
theorem ord_uniq {f : α → Int} {l m : List α} (h1 : Srtd (ltB f) m) (h2 : Stb (ltB f) m l) : m = ordBy f l :=
  SrtO.stb_uniq (swoB f) h1 (ord_srtd f l) (h2.trans ⟨(ord_stb f l).perm.symm, fun x => ((ord_stb f l).cls x).symm⟩)
theorem ord_same {f : α → Int} {l : List α} (h : Srtd (ltB f) l) : ordBy f l = l := (ord_uniq h (Stb.refl l)).symm
theorem ins_map (f : β → Int) (g : α → β) (x : α) : ∀ l, (insBy (fun a => f (g a)) x l).map g = insBy f (g x) (l.map g)
  | [] => rfl
  | y :: r => by
    show (if f (g y) ≤ f (g x) then x :: y :: r else y :: insBy (fun a => f (g a)) x r).map g = if f (g y) ≤ f (g x) then g x :: g y :: r.map g else g y :: insBy f (g x) (r.map g)
    by_cases c : f (g y) ≤ f (g x)
    · rw [if_pos c, if_pos c]
      rfl
    · rw [if_neg c, if_neg c, List.map_cons, ins_map f g x r]
theorem ord_map (f : β → Int) (g : α → β) : ∀ l, (ordBy (fun a => f (g a)) l).map g = ordBy f (l.map g)
  | [] => rfl
  | x :: r => by
    show (insBy (fun a => f (g a)) x (ordBy (fun a => f (g a)) r)).map g = insBy f (g x) (ordBy f (r.map g))
    rw [ins_map, ord_map f g r]
theorem ord_mem (f : α → Int) {l : List α} {x : α} : x ∈ ordBy f l ↔ x ∈ l := (ord_stb f l).perm.mem_iff
theorem ord_len (f : α → Int) (l : List α) : (ordBy f l).length = l.length := (ord_stb f l).len
end
theorem zip_keys (f : Addr × Cr → Int) : ∀ l : List (Addr × Cr), (l.map fun p => -(f p)).zip (l.map (·.1)) = l.map fun p => (-(f p), p.1)
  | [] => rfl
  | x :: r => congrArg (List.cons (-(f x), x.1)) (zip_keys f r)
/-- the sort of the pairs gives that order -/
theorem keyed_ord {f : Addr × Cr → Int} {qs : List (Int × Addr)} {l : List (Addr × Cr)} (h1 : Srtd ltK qs) (h2 : Stb ltK qs ((l.map fun p => -(f p)).zip (l.map (·.1)))) : qs = (ordBy f l).map fun p => (-(f p), p.1) := by
  have sw : Swo ltK := by
    refine ⟨fun x y h => ?_, fun x y z a b => ?_⟩
    · have a := of_decide_eq_true (p := x.1 < y.1) h
      exact decide_eq_false (p := y.1 < x.1) (by omega)
    · have a := of_decide_eq_false (p := y.1 < x.1) a
      have b := of_decide_eq_false (p := z.1 < y.1) b
      exact decide_eq_false (p := z.1 < x.1) (by omega)
  rw [zip_keys] at h2
  have eL : (fun x y : Addr × Cr => ltK ((fun p => (-(f p), p.1)) x) ((fun p => (-(f p), p.1)) y)) = ltB f := funext fun x => funext fun y => decide_eq_decide.mpr (by
    show -(f x) < -(f y) ↔ f y < f x
    omega)
  have s1 : Srtd ltK ((ordBy f l).map fun p => (-(f p), p.1)) := SrtO.srtd_map (lt := ltK) (by rw [eL]; exact ord_srtd f l)
  have s2 : Stb ltK ((ordBy f l).map fun p => (-(f p), p.1)) (l.map fun p => (-(f p), p.1)) := SrtO.Stb.map sw _ (by rw [eL]; exact ord_stb f l)
  exact SrtO.stb_uniq sw h1 s1 (h2.trans ⟨s2.perm.symm, fun x => (s2.cls x).symm⟩)
/-- the names of the ready callers, as they would be chosen -/
def Dk.readyL (D : Dk) : List Str := (ordBy (agedC D.pace D.now) (readies D.line)).map (·.name)
end Rr

set_option maxRecDepth 100000
set_option maxHeartbeats 4000000
/-! lists of names, or of none, compared -/
namespace Rr
open PySem PySem.Spec PyProof.Rows L2
theorem listOfK {X : Cx} {K : PySem.W.Frag} (hK : X.K = K) : CallR X (.type "list") (fun xs H Q => ∃ p ys, xs = [.ref p] ∧ (SqL K H p ys ∨ SqT K H p ys) ∧ ∀ l, H l = none → Q (.ref l) (upd H l (.lst ys))) := by
  subst hK
  exact call_list_of
def optV (x : Option Str) : V := x.elim .non V.str
def optP : Option Str → PyData
  | none => .none
  | some x => .str x
theorem opts_dp {K : PySem.W.Frag} {H : Hp} : ∀ l : List (Option Str), DpAll K H (l.map optV) (l.map optP)
  | [] => .nil
  | none :: r => .cons .non (opts_dp r)
  | some _ :: r => .cons (.str _) (opts_dp r)
theorem opts_lay : ∀ {l : List (Option Str)}, (∀ x, some x ∈ l → isName x = true) → PyData.canLayAll0 (l.map optP) = true ∧ PyData.depthAll (l.map optP) = 0
  | [], _ => ⟨rfl, rfl⟩
  | none :: r, h => by
    obtain ⟨h3, h4⟩ := opts_lay (l := r) fun z hz => h z (List.mem_cons_of_mem _ hz)
    simp only [List.map_cons, optP, PyData.canLayAll0, PyData.depthAll, PyData.canLay0, PyData.depth, h3, h4]
    exact ⟨rfl, rfl⟩
  | some x :: r, h => by
    obtain ⟨h3, h4⟩ := opts_lay (l := r) fun z hz => h z (List.mem_cons_of_mem _ hz)
    simp only [List.map_cons, optP, PyData.canLayAll0, PyData.depthAll, PyData.canLay0, PyData.depth, h3, h4, name_strOk (h x List.mem_cons_self)]
    exact ⟨rfl, rfl⟩
theorem opts_shaped {l : List (Option Str)} (h : ∀ x, some x ∈ l → isName x = true) : SeqAt.shaped (.list (l.map optP)) = true := by
  obtain ⟨h1, h2⟩ := opts_lay h
  unfold SeqAt.shaped
  rw [Bool.and_eq_true]
  refine ⟨h1, decide_eq_true ?_⟩
  show PyData.depthAll (l.map optP) + 1 ≤ 64
  omega
theorem opts_self : ∀ l : List (Option Str), PyData.eqv (.list (l.map optP)) (.list (l.map optP)) = true
  | [] => rfl
  | none :: r => by
    have := opts_self r
    show (PyData.eqv .none .none && PyData.eqvAll (r.map optP) (r.map optP)) = true
    rw [show PyData.eqvAll (r.map optP) (r.map optP) = true from this]
    rfl
  | some x :: r => by
    have := opts_self r
    show ((x == x) && PyData.eqvAll (r.map optP) (r.map optP)) = true
    rw [show PyData.eqvAll (r.map optP) (r.map optP) = true from this, str_beq, decide_eq_true rfl]
    rfl
theorem strs_opt (l : List Str) : l.map V.str = (l.map some).map optV := by
  rw [List.map_map]
  rfl
theorem opts_empty (l : List (Option Str)) : PyData.eqv (.list (l.map optP)) (.list []) = decide (l = []) := by
  cases l with
  | nil => rfl
  | cons c r => rfl
end Rr

set_option maxRecDepth 100000
set_option maxHeartbeats 4000000
/-! what a turn leaves of each caller; who sleeps until when -/
namespace Rr
open PySem PySem.Spec PyProof.Rows L2
theorem tick_mem {D : Dk} {y : Cr} (hy : y ∈ D.tick.line) : (∃ c ∈ D.line, c.st = .slp (D.now + 1) ∧ y = c.as (.rdy (D.now + 1))) ∨ (y ∈ D.line ∧ y.st ≠ .slp (D.now + 1)) := by
  rcases mem_wakeAll _ _ hy with ⟨c, hc, e⟩ | ⟨h1, h2⟩
  · exact .inl ⟨c, (List.mem_filter.mp hc).1, of_decide_eq_true (List.mem_filter.mp hc).2, e⟩
  · exact .inr ⟨h1, fun z => h2 y (List.mem_filter.mpr ⟨h1, decide_eq_true z⟩) rfl⟩
theorem turn_mem {D : Dk} {y : Cr} (hy : y ∈ D.turn.line) : (∃ c ∈ D.line, (c.st.isRdy = true ∨ c.st = .slp (D.now + 1)) ∧ y = c.as (.rdy (D.now + 1))) ∨ (y ∈ D.line ∧ y.st ≠ .slp (D.now + 1)) := by
  have key : ∀ y ∈ D.tick.line, (∃ c ∈ D.line, (c.st.isRdy = true ∨ c.st = .slp (D.now + 1)) ∧ y = c.as (.rdy (D.now + 1))) ∨ (y ∈ D.line ∧ y.st ≠ .slp (D.now + 1)) := fun y hy => by
    rcases tick_mem hy with ⟨c, h1, h2, h3⟩ | h
    · exact .inl ⟨c, h1, .inr h2, h3⟩
    · exact .inr h
  unfold Dk.turn at hy
  cases e : D.pick with
  | none =>
    rw [e] at hy
    exact key y hy
  | some p =>
    rw [e] at hy
    obtain ⟨h1, h2⟩ := pickD_mem e
    rcases mem_move hy with z | ⟨h3, _⟩
    · exact .inl ⟨p, h1, .inl h2, z⟩
    · exact key y h3
/-- each caller stands behind a turn as it stood, or is ready, as it was or became by its time to wake -/
theorem turn_st {D : Dk} (nm : (namesL D.line).Nodup) {c : Cr} (h : c ∈ D.line) : (∃ s, c.as s ∈ D.turn.line ∧ s.isRdy = true ∧ (c.st.isRdy = true ∨ c.st = .slp (D.now + 1))) ∨ (c ∈ D.turn.line ∧ c.st ≠ .slp (D.now + 1)) := by
  obtain ⟨y, hy, e⟩ := List.mem_map.mp ((turn_names D).mem_iff.mpr (name_in h))
  rcases turn_mem hy with ⟨x, hx, hs, rfl⟩ | ⟨h1, h2⟩
  · obtain rfl := name_one nm hx h e
    exact .inl ⟨_, hy, rfl, hs⟩
  · obtain rfl := name_one nm h1 h e
    exact .inr ⟨hy, h2⟩
theorem pickD_none {D : Dk} (h : D.pick = none) : readies D.line = [] := by
  unfold Dk.pick pick at h
  cases e : pickI (agedC D.pace D.now) (readies D.line) with
  | none => exact pickI_none e
  | some y =>
    rw [e] at h
    cases h
/-- the names ns stand in the line; each sleeps until us, or is ready -/
structure Rel (D : Dk) (ns : List Str) (us : List Int) : Prop where
  len : ns.length = us.length
  all : ∀ n ∈ namesL D.line, n ∈ ns
  nd : ns.Nodup
  at_ : ∀ (k : Nat) (n : Str) (u : Int), ns[k]? = some n → us[k]? = some u → ∃ c ∈ D.line, c.name = n ∧ ((D.now < u ∧ c.st = .slp u) ∨ (u ≤ D.now ∧ c.st.isRdy = true))
theorem Rel.turn {D : Dk} {ns : List Str} {us : List Int} (r : Rel D ns us) (nm : (namesL D.line).Nodup) : Rel D.turn ns us := by
  refine ⟨r.len, fun n hn => r.all n ((turn_names D).mem_iff.mp hn), r.nd, fun k n u hk hu => ?_⟩
  obtain ⟨c, hc, rfl, h⟩ := r.at_ k n u hk hu
  rw [turn_now]
  rcases turn_st nm hc with ⟨s, h1, h2, h3⟩ | ⟨h1, h2⟩
  · refine ⟨_, h1, rfl, .inr ⟨?_, h2⟩⟩
    rcases h with ⟨h4, h5⟩ | ⟨h4, h5⟩
    · rcases h3 with h3 | h3
      · rw [h5] at h3
        cases h3
      · rw [h5] at h3
        have := Stt.slp.inj h3
        omega
    · omega
  · refine ⟨c, h1, rfl, ?_⟩
    rcases h with ⟨h4, h5⟩ | ⟨h4, h5⟩
    · refine .inl ⟨?_, h5⟩
      by_cases e : u = D.now + 1
      · exact absurd (by rw [h5, e]) h2
      · omega
    · exact .inr ⟨by omega, h5⟩
def ableK (us : List Int) (now : Int) (k : Nat) : Bool := decide (us.getD k 0 ≤ now)
/-- the names of those that are to be ready -/
def ableL (ns : List Str) (us : List Int) (now : Int) (i : Nat) : List Str := ((List.range i).filter (ableK us now)).map fun k => ns.getD k Str.empty
theorem ableL_succ (ns : List Str) (us : List Int) (now : Int) (i : Nat) : ableL ns us now (i + 1) = ableL ns us now i ++ if ableK us now i then [ns.getD i Str.empty] else [] := by
  unfold ableL
  rw [List.range_succ, List.filter_append, List.map_append]
  congr 1
  rw [List.filter_cons, List.filter_nil]
  split <;> rfl
theorem ableL_len (ns : List Str) (us : List Int) (now : Int) (i : Nat) : (ableL ns us now i).length ≤ i := by
  unfold ableL
  rw [List.length_map]
  exact Nat.le_trans (List.length_filter_le _ _) (Nat.le_of_eq List.length_range)
theorem getD_of {α : Type} {l : List α} {k : Nat} {x d : α} (h : l[k]? = some x) : l.getD k d = x := by
  rw [List.getD_eq_getElem?_getD, h]
  rfl
theorem Rel.able_none {D : Dk} {ns : List Str} {us : List Int} (r : Rel D ns us) (h : D.pick = none) : ableL ns us D.now ns.length = [] := by
  have e := pickD_none h
  unfold ableL
  rw [List.filter_eq_nil_iff.mpr]
  · rfl
  · intro k hk z
    have hk := List.mem_range.mp hk
    obtain ⟨n, hn⟩ : ∃ n, ns[k]? = some n := ⟨_, List.getElem?_eq_getElem hk⟩
    obtain ⟨u, hu⟩ : ∃ u, us[k]? = some u := ⟨_, List.getElem?_eq_getElem (by rw [← r.len]; exact hk)⟩
    unfold ableK at z
    rw [getD_of hu] at z
    have z := of_decide_eq_true z
    obtain ⟨c, hc, _, h⟩ := r.at_ k n u hn hu
    rcases h with ⟨h1, _⟩ | ⟨_, h2⟩
    · omega
    · have : c ∈ readies D.line := List.mem_filter.mpr ⟨hc, h2⟩
      rw [e] at this
      cases this
theorem Rel.able_some {D : Dk} {ns : List Str} {us : List Int} (r : Rel D ns us) (nm : (namesL D.line).Nodup) {c : Cr} (h : D.pick = some c) : c.name ∈ ableL ns us D.now ns.length := by
  obtain ⟨h1, h2⟩ := pickD_mem h
  obtain ⟨k, hk, e⟩ := List.getElem_of_mem (r.all _ (name_in h1))
  have hn : ns[k]? = some c.name := by rw [List.getElem?_eq_getElem hk, e]
  obtain ⟨u, hu⟩ : ∃ u, us[k]? = some u := ⟨_, List.getElem?_eq_getElem (by rw [← r.len]; exact hk)⟩
  obtain ⟨c', hc', e', h3⟩ := r.at_ k _ u hn hu
  obtain rfl := name_one nm hc' h1 e'
  refine List.mem_map.mpr ⟨k, List.mem_filter.mpr ⟨List.mem_range.mpr hk, ?_⟩, getD_of hn⟩
  unfold ableK
  rw [getD_of hu]
  rcases h3 with ⟨_, h4⟩ | ⟨h4, _⟩
  · rw [h4] at h2
    cases h2
  · exact decide_eq_true h4
/-- the caller at k is changed -/
theorem Rel.set {D : Dk} {ns : List Str} {us : List Int} (r : Rel D ns us) (nm : (namesL D.line).Nodup) {k : Nat} {c : Cr} {u : Int} {s : Stt} (hk : ns[k]? = some c.name) (hc : c ∈ D.line) (hs : (D.now < u ∧ s = .slp u) ∨ (u ≤ D.now ∧ s.isRdy = true)) : Rel (D.move (c.as s)) ns (us.set k u) := by
  refine ⟨by rw [List.length_set]; exact r.len, fun n hn => r.all n ((names_move D _).mem_iff.mp hn), r.nd, fun j n v hj hv => ?_⟩
  have hkl : k < ns.length := (List.getElem?_eq_some_iff.mp hk).1
  have e0 : c.as s ∈ (D.move (c.as s)).line := mem_last.mpr (List.mem_map.mpr ⟨c, hc, if_pos rfl⟩)
  by_cases e : j = k
  · subst e
    rw [hk] at hj
    obtain rfl := Option.some.inj hj
    rw [List.getElem?_set_self (by rw [← r.len]; exact hkl)] at hv
    obtain rfl := Option.some.inj hv
    exact ⟨_, e0, rfl, hs⟩
  · rw [List.getElem?_set_ne (fun z => e z.symm)] at hv
    obtain ⟨x, hx, rfl, h⟩ := r.at_ j n v hj hv
    refine ⟨x, mem_last.mpr (List.mem_map.mpr ⟨x, hx, if_neg fun z => e ?_⟩), rfl, h⟩
    have z : x.name = c.name := z
    have h1 := (List.getElem?_eq_some_iff.mp hj)
    have h2 := (List.getElem?_eq_some_iff.mp hk)
    obtain ⟨l1, g1⟩ := h1
    obtain ⟨l2, g2⟩ := h2
    rcases Nat.lt_trichotomy j k with w | w | w
    · exact absurd (g1.trans (z.trans g2.symm)) (List.pairwise_iff_getElem.mp r.nd _ _ l1 l2 w)
    · exact w
    · exact absurd (g2.trans (z.symm.trans g1.symm)) (List.pairwise_iff_getElem.mp r.nd _ _ l2 l1 w)
/-- a text of many signs z is no name of the first twenty -/
theorem not_zz {k c : Int} (h0 : 0 ≤ k) (h1 : k < 29) (l : List Nat) (hl : l.length = 12) (hz : ∀ x ∈ l, x = 122) : nameL k c ≠ l := by
  intro e
  rw [← e] at hl hz
  clear e l
  have inj : ∀ {i j : Int}, sgn c (i % manyL c) = 122 → sgn c (j % manyL c) = 122 → manyL c = 36 ∧ i % 36 = j % 36 := fun {i j} hi hj => by
    have m0 : 0 < manyL c := by rcases manyL_c c with e | e <;> omega
    have e := sgn_inj (c := c) ⟨Int.emod_nonneg i (by omega), Int.emod_lt_of_pos i m0⟩ ⟨Int.emod_nonneg j (by omega), Int.emod_lt_of_pos j m0⟩ (hi.trans hj.symm)
    rcases manyL_c c with e2 | e2
    · exfalso
      unfold manyL at e2
      have e3 : mix c 10259 5 = 0 := by
        by_cases z : mix c 10259 5 = 0
        · exact z
        · rw [if_neg z] at e2
          exact absurd e2 (by decide)
      unfold sgn someL at hi
      rw [if_pos e3, List.getD_eq_getElem?_getD] at hi
      have hF : ∀ z ∈ FIGL, z ≠ 122 := by decide +kernel
      cases q : FIGL[(i % manyL c).toNat]? with
      | none =>
        rw [q] at hi
        exact absurd hi (by decide)
      | some z =>
        rw [q] at hi
        exact hF z (List.mem_of_getElem? q) hi
    · rw [e2] at e
      exact ⟨e2, e⟩
  have p2 : (pairL k c).length = 2 := rfl
  unfold nameL at hl hz
  split at hl
  · rename_i q
    rw [if_pos q] at hz
    have hb := base_len c
    have ha := at_ok c
    rw [List.length_append, List.length_append, List.length_take, List.length_drop, p2] at hl
    have h12 : (baseL c).length = 12 := by omega
    have hget : ∀ j : Nat, j < (2 + mix c 10313 11).toNat → (j < atN c ∨ atN c + 2 ≤ j) → sgn c ((c / 72 + 7 * (0 + (j : Int))) % manyL c) = 122 := fun j hj hja => by
      have e1 : (baseL c)[j]? = some (sgn c ((c / 72 + 7 * (0 + (j : Int))) % manyL c)) := by
        unfold baseL
        rw [List.getElem?_map, List.getElem?_range hj]
        rfl
      refine hz _ ?_
      rcases hja with h | h
      · refine List.mem_append_left _ (List.mem_append_left _ ?_)
        refine List.mem_of_getElem? (i := j) ?_
        rw [List.getElem?_take, if_pos h]
        exact e1
      · refine List.mem_append_right _ ?_
        refine List.mem_of_getElem? (i := j - (atN c + 2)) ?_
        rw [List.getElem?_drop, show atN c + 2 + (j - (atN c + 2)) = j by omega]
        exact e1
    by_cases h2 : 2 ≤ atN c
    · have := inj (hget 0 (by omega) (by omega)) (hget 1 (by omega) (by omega))
      omega
    · have := inj (hget 3 (by omega) (by omega)) (hget 4 (by omega) (by omega))
      omega
  · rename_i q
    rw [if_neg q] at hz
    split at hl
    · exact absurd hl (by simp)
    · rename_i q2
      rw [if_neg q2] at hz
      have hlong : (longL k c).length = 12 ∧ ∀ x ∈ longL k c, x = 122 := by
        split at hl
        · rename_i q3
          rw [if_pos q3] at hz
          rw [List.length_reverse] at hl
          exact ⟨hl, fun x hx => hz x (List.mem_reverse.mpr hx)⟩
        · rename_i q3
          rw [if_neg q3] at hz
          exact ⟨hl, hz⟩
      obtain ⟨g1, g2⟩ := hlong
      have g3 : (moreL k c (mix (c + k) 10007 11).toNat).length = 10 := by
        unfold longL at g1
        rw [List.length_append, p2] at g1
        omega
      have hm : (mix (c + k) 10007 11).toNat = 10 := by
        unfold moreL at g3
        rw [List.length_map, List.length_range] at g3
        exact g3
      have hget : ∀ j : Nat, j < 10 → sgn c ((c / 72 + 7 * (0 + (j : Int)) + k * (0 + (j : Int))) % manyL c) = 122 := fun j hj => by
        refine g2 _ (List.mem_append_right _ (List.mem_of_getElem? (i := j) ?_))
        unfold moreL
        rw [hm, List.getElem?_map, List.getElem?_range hj]
        rfl
      have := inj (hget 0 (by omega)) (hget 1 (by omega))
      simp at this
      omega
theorem zz_no {k c : Int} (h0 : 0 ≤ k) (h1 : k < 29) : nameBy k c ≠ SX.S (List.replicate 12 122) := fun e => not_zz h0 h1 (List.replicate 12 122) List.length_replicate (fun x hx => List.eq_of_mem_replicate hx) (SX.S_inj e)
end Rr

set_option maxRecDepth 100000
set_option maxHeartbeats 4000000
/-! who waits for which bell, beside the desk -/
namespace Rr
open PySem PySem.Spec PyProof.Rows L2
theorem empty_noname : isName "" = false := by decide +kernel
/-- the names ns stand in the line: ready (no bell), or waiting for bs; of ranks rs -/
structure Rel7 (D : Dk) (ns bs : List Str) (rs : List Int) : Prop where
  lb : ns.length = bs.length
  lr : ns.length = rs.length
  all : ∀ n ∈ namesL D.line, n ∈ ns
  nd : ns.Nodup
  at_ : ∀ (k : Nat) (n b : Str) (r : Int), ns[k]? = some n → bs[k]? = some b → rs[k]? = some r → ∃ c ∈ D.line, c.name = n ∧ c.rank = r ∧ ((b = "" ∧ c.st.isRdy = true) ∨ (isName b = true ∧ c.st = .wtg b))
theorem Rel7.get {D : Dk} {ns bs : List Str} {rs : List Int} (x : Rel7 D ns bs rs) {k : Nat} (h : k < ns.length) : ∃ c b, c ∈ D.line ∧ ns[k]? = some c.name ∧ bs[k]? = some b ∧ rs[k]? = some c.rank ∧ ((b = "" ∧ c.st.isRdy = true) ∨ (isName b = true ∧ c.st = .wtg b)) := by
  obtain ⟨n, hn⟩ : ∃ n, ns[k]? = some n := ⟨_, List.getElem?_eq_getElem h⟩
  obtain ⟨b, hb⟩ : ∃ b, bs[k]? = some b := ⟨_, List.getElem?_eq_getElem (by rw [← x.lb]; exact h)⟩
  obtain ⟨r, hr⟩ : ∃ r, rs[k]? = some r := ⟨_, List.getElem?_eq_getElem (by rw [← x.lr]; exact h)⟩
  obtain ⟨c, hc, rfl, rfl, q⟩ := x.at_ k n b r hn hb hr
  exact ⟨c, b, hc, hn, hb, hr, q⟩
theorem Rel7.find {D : Dk} {ns bs : List Str} {rs : List Int} (x : Rel7 D ns bs rs) (nm : (namesL D.line).Nodup) {c : Cr} (h : c ∈ D.line) : ∃ (k : Nat) (b : Str), ns[k]? = some c.name ∧ bs[k]? = some b ∧ rs[k]? = some c.rank ∧ ((b = "" ∧ c.st.isRdy = true) ∨ (isName b = true ∧ c.st = .wtg b)) := by
  obtain ⟨k, hk, e⟩ := List.getElem_of_mem (x.all _ (name_in h))
  obtain ⟨c', b, hc', hn, hb, hr, q⟩ := x.get hk
  have e2 : c'.name = c.name := by
    rw [List.getElem?_eq_getElem hk, e] at hn
    exact (Option.some.inj hn).symm
  obtain rfl := name_one nm hc' h e2
  exact ⟨k, b, hn, hb, hr, q⟩
theorem Rel7.turn {D : Dk} {ns bs : List Str} {rs : List Int} (x : Rel7 D ns bs rs) (nm : (namesL D.line).Nodup) : Rel7 D.turn ns bs rs := by
  refine ⟨x.lb, x.lr, fun n hn => x.all n ((turn_names D).mem_iff.mp hn), x.nd, fun k n b r hk hb hr => ?_⟩
  obtain ⟨c, hc, rfl, rfl, h⟩ := x.at_ k n b r hk hb hr
  rcases turn_st nm hc with ⟨s, h1, h2, h3⟩ | ⟨h1, h2⟩
  · refine ⟨_, h1, rfl, rfl, .inl ⟨?_, h2⟩⟩
    rcases h with ⟨h4, _⟩ | ⟨_, h5⟩
    · exact h4
    · rcases h3 with h3 | h3
      · rw [h5] at h3
        cases h3
      · rw [h5] at h3
        cases h3
  · exact ⟨c, h1, rfl, rfl, h⟩
theorem Rel7.after {D : Dk} {ns bs : List Str} {rs : List Int} (x : Rel7 D ns bs rs) (f : Nat → Dk) (h0 : f 0 = D) (hs : ∀ n, f (n + 1) = (f n).turn) (nm : ∀ n, (namesL (f n).line).Nodup) : ∀ n, Rel7 (f n) ns bs rs
  | 0 => by rw [h0]; exact x
  | n + 1 => by rw [hs]; exact (x.after f h0 hs nm n).turn (nm n)
theorem nd_at {α : Type} {l : List α} (nd : l.Nodup) {j k : Nat} {x : α} (hj : l[j]? = some x) (hk : l[k]? = some x) : j = k := by
  obtain ⟨l1, g1⟩ := List.getElem?_eq_some_iff.mp hj
  obtain ⟨l2, g2⟩ := List.getElem?_eq_some_iff.mp hk
  rcases Nat.lt_trichotomy j k with w | w | w
  · exact absurd (g1.trans g2.symm) (List.pairwise_iff_getElem.mp nd _ _ l1 l2 w)
  · exact w
  · exact absurd (g2.trans g1.symm) (List.pairwise_iff_getElem.mp nd _ _ l2 l1 w)
/-- the caller at k waits -/
theorem Rel7.wait {D : Dk} {ns bs : List Str} {rs : List Int} (x : Rel7 D ns bs rs) (nm : (namesL D.line).Nodup) {k : Nat} {c : Cr} {b : Str} (hk : ns[k]? = some c.name) (hc : c ∈ D.line) (hb : isName b = true) : Rel7 (D.move (c.as (.wtg b))) ns (bs.set k b) rs := by
  refine ⟨by rw [List.length_set]; exact x.lb, x.lr, fun n hn => x.all n ((names_move D _).mem_iff.mp hn), x.nd, fun j n v r hj hv hr => ?_⟩
  have hkl : k < ns.length := (List.getElem?_eq_some_iff.mp hk).1
  have e0 : c.as (.wtg b) ∈ (D.move (c.as (.wtg b))).line := mem_last.mpr (List.mem_map.mpr ⟨c, hc, if_pos rfl⟩)
  by_cases e : j = k
  · subst e
    obtain ⟨c', b', hc', h1, h2, h3, _⟩ := x.get hkl
    rw [hk] at h1
    obtain rfl := name_one nm hc hc' (Option.some.inj h1)
    rw [hk] at hj
    obtain rfl := Option.some.inj hj
    rw [h3] at hr
    obtain rfl := Option.some.inj hr
    rw [List.getElem?_set_self (by rw [← x.lb]; exact hkl)] at hv
    obtain rfl := Option.some.inj hv
    exact ⟨_, e0, rfl, rfl, .inr ⟨hb, rfl⟩⟩
  · rw [List.getElem?_set_ne (fun z => e z.symm)] at hv
    obtain ⟨y, hy, rfl, rfl, h⟩ := x.at_ j n v r hj hv hr
    exact ⟨y, mem_last.mpr (List.mem_map.mpr ⟨y, hy, if_neg fun z => e (nd_at x.nd hj (by rw [hk, show y.name = c.name from z]))⟩), rfl, rfl, h⟩
/-- the caller at k gets another rank -/
theorem Rel7.rank {D : Dk} {ns bs : List Str} {rs : List Int} (x : Rel7 D ns bs rs) (nm : (namesL D.line).Nodup) {k : Nat} {c : Cr} {r0 : Int} (hk : ns[k]? = some c.name) (hc : c ∈ D.line) : Rel7 (D.setR { c with rank := r0 }) ns bs (rs.set k r0) := by
  have hn : namesL (D.setR { c with rank := r0 }).line = namesL D.line := setC_names _ _
  refine ⟨x.lb, by rw [List.length_set]; exact x.lr, fun n h => x.all n (by rw [← hn]; exact h), x.nd, fun j n v r hj hv hr => ?_⟩
  have hkl : k < ns.length := (List.getElem?_eq_some_iff.mp hk).1
  have e0 : ({ c with rank := r0 } : Cr) ∈ (D.setR { c with rank := r0 }).line := List.mem_map.mpr ⟨c, hc, if_pos rfl⟩
  by_cases e : j = k
  · subst e
    obtain ⟨c', b', hc', h1, h2, h3, h4⟩ := x.get hkl
    rw [hk] at h1
    obtain rfl := name_one nm hc hc' (Option.some.inj h1)
    rw [hk] at hj
    obtain rfl := Option.some.inj hj
    rw [h2] at hv
    obtain rfl := Option.some.inj hv
    rw [List.getElem?_set_self (by rw [← x.lr]; exact hkl)] at hr
    obtain rfl := Option.some.inj hr
    exact ⟨_, e0, rfl, rfl, h4⟩
  · rw [List.getElem?_set_ne (fun z => e z.symm)] at hr
    obtain ⟨y, hy, rfl, rfl, h⟩ := x.at_ j n v r hj hv hr
    exact ⟨y, List.mem_map.mpr ⟨y, hy, if_neg fun z => e (nd_at x.nd hj (by rw [hk, show y.name = c.name from z]))⟩, rfl, rfl, h⟩
def waitersC (D : Dk) (b : Str) : List Cr := D.line.filter fun c => decide (c.st = .wtg b)
/-- b0 has rung -/
def unb (b0 b : Str) : Str := if b = b0 then Str.empty else b
/-- a bell rings -/
theorem Rel7.ring {D : Dk} {ns bs : List Str} {rs : List Int} (x : Rel7 D ns bs rs) (nm : (namesL D.line).Nodup) {b0 : Str} (hb0 : isName b0 = true) : Rel7 (D.ring b0) ns (bs.map (unb b0)) rs := by
  have np := names_wakeAll (waitersC D b0) D
  refine ⟨by rw [List.length_map]; exact x.lb, x.lr, fun n hn => x.all n (np.mem_iff.mp hn), x.nd, fun k n v r hk hv hr => ?_⟩
  rw [List.getElem?_map] at hv
  cases hb : bs[k]? with
  | none =>
    rw [hb] at hv
    cases hv
  | some b =>
    rw [hb] at hv
    have hv : (if b = b0 then Str.empty else b) = v := Option.some.inj hv
    obtain ⟨c, hc, rfl, rfl, h⟩ := x.at_ k n b r hk hb hr
    by_cases e : c.st = .wtg b0
    · have eb : b = b0 := by
        rcases h with ⟨_, h⟩ | ⟨_, h⟩
        · rw [e] at h
          cases h
        · rw [e] at h
          exact (Stt.wtg.inj h).symm
      rw [if_pos eb] at hv
      have hcs : c ∈ waitersC D b0 := List.mem_filter.mpr ⟨hc, decide_eq_true e⟩
      obtain ⟨y, hy, en⟩ := List.mem_map.mp (np.mem_iff.mpr (name_in hc))
      rcases mem_wakeAll _ _ hy with ⟨z, hz, rfl⟩ | ⟨_, h2⟩
      · obtain rfl := name_one nm (List.mem_filter.mp hz).1 hc en
        exact ⟨_, hy, rfl, rfl, .inl ⟨hv.symm, rfl⟩⟩
      · exact absurd en (h2 c hcs)
    · refine ⟨c, mem_wakeAll_of _ _ hc fun z hz en => ?_, rfl, rfl, ?_⟩
      · obtain ⟨h1, h2⟩ := List.mem_filter.mp hz
        rw [name_one nm hc h1 en] at e
        exact e (of_decide_eq_true h2)
      · have nb : b ≠ b0 := fun z => by
          rcases h with ⟨h1, _⟩ | ⟨_, h1⟩
          · rw [z] at h1
            rw [h1] at hb0
            rw [empty_noname] at hb0
            cases hb0
          · rw [z] at h1
            exact e h1
        rw [if_neg nb] at hv
        rw [← hv]
        exact h
/-- the names behind some having gone to the end -/
theorem names_moved {D : Dk} (nm : (namesL D.line).Nodup) {c : Cr} (h : c.name ∈ namesL D.line) : namesL (D.move c).line = ((namesL D.line).filter fun n => decide (n ≠ c.name)) ++ [c.name] := by
  rw [move_eq nm h]
  unfold namesL moveC dropC
  rw [List.map_append, List.filter_map]
  rfl
theorem wake_names : ∀ (cs : List Cr) (D : Dk), (namesL D.line).Nodup → (∀ c ∈ cs, c.name ∈ namesL D.line) → (namesL cs).Nodup → namesL (D.wakeAll cs).line = ((namesL D.line).filter fun n => decide (n ∉ namesL cs)) ++ namesL cs
  | [], D, _, _, _ => by
    have e : (fun n => decide (n ∉ namesL [])) = fun _ : Str => true := funext fun n => decide_eq_true (by unfold namesL; simp)
    rw [e, List.filter_eq_self.mpr fun _ _ => rfl]
    unfold namesL
    simp
    rfl
  | c :: r, D, nm, h, nc => by
    obtain ⟨n1, n2⟩ := List.nodup_cons.mp (show (c.name :: namesL r).Nodup from nc)
    have np := names_move D (c.as (.rdy D.now))
    have ih := wake_names r (D.move (c.as (.rdy D.now))) (np.nodup_iff.mpr nm) (fun z hz => np.mem_iff.mpr (h z (List.mem_cons_of_mem _ hz))) n2
    rw [wakeAll_cons, ih, names_moved (c := c.as (.rdy D.now)) nm (h c List.mem_cons_self), List.filter_append, List.filter_filter]
    have e1 : ([(c.as (.rdy D.now)).name].filter fun n => decide (n ∉ namesL r)) = [c.name] := by
      rw [List.filter_cons, List.filter_nil, if_pos (show decide ((c.as (.rdy D.now)).name ∉ namesL r) = true from decide_eq_true n1)]
      rfl
    have e2 : ((namesL D.line).filter fun a => decide (a ∉ namesL r) && decide (a ≠ (c.as (.rdy D.now)).name)) = (namesL D.line).filter fun n => decide (n ∉ namesL (c :: r)) := by
      refine List.filter_congr fun a _ => ?_
      have e3 : namesL (c :: r) = c.name :: namesL r := rfl
      rw [e3]
      by_cases q1 : a = c.name
      · simp [q1]
        intro _
        rfl
      · have q2 : (a ∉ c.name :: namesL r) ↔ a ∉ namesL r := by simp [q1]
        rw [decide_eq_true (show a ≠ (c.as (.rdy D.now)).name from q1), Bool.and_true]
        simp [q1]
    rw [e1, e2, List.append_assoc]
    rfl
theorem ring_names {D : Dk} (nm : (namesL D.line).Nodup) (b : Str) : namesL (D.ring b).line = ((namesL D.line).filter fun n => decide (n ∉ namesL (waitersC D b))) ++ namesL (waitersC D b) :=
  wake_names _ D nm (fun c hc => name_in (List.mem_filter.mp hc).1) (nm.sublist (List.filter_sublist.map _))
end Rr

set_option maxRecDepth 100000
set_option maxHeartbeats 4000000
/-! sorted(xs), pairs of whole numbers -/
namespace Rr
open PySem PySem.Spec PyProof.Rows L2
def rSortedPO (K : PySem.W.Frag) : List V → Hp → VK → Prop := fun vs H Q => ∃ (a : Addr) (ys : List V) (k : V → Int × Int), vs = [V.ref a] ∧ SqL K H a ys ∧ (∀ y ∈ ys, ∃ t, y = V.ref t ∧ H t = some (.tup [.int (k y).1, .int (k y).2])) ∧
  ∀ (p : Addr) zs, SrtO.Srtd (ltP k) zs → SrtO.Stb (ltP k) zs ys → H p = none → Q (.ref p) (upd H p (.lst zs))
theorem cr_sortedPO {X : Cx} : CallR X (.builtin "sorted") (rSortedPO X.K) := by
  intro pins s σ H vs us Q I r h
  obtain ⟨a, ys, k, rfl, hs, hx, q⟩ := h
  obtain ⟨its, rv, hl, hz⟩ := I.list hs
  rw [Vals.ref1 r]
  obtain ⟨e1, e2⟩ := refs_back rv fun x m => by
    obtain ⟨t, e, _⟩ := hx x m
    exact ⟨t, e⟩
  have hp : ∀ v ∈ its, Srt.IsPair s.heap v (k (backV v)).1 (k (backV v)).2 := fun v hv => by
    obtain ⟨t, rfl⟩ := e2 v hv
    have hm : V.ref t ∈ ys := by rw [e1]; exact List.mem_map.mpr ⟨_, hv, rfl⟩
    obtain ⟨t', e, ht⟩ := hx _ hm
    cases e
    obtain ⟨_, its2, r2, o, ho, hc, n, hd⟩ := I.hok _ _ ht
    obtain ⟨u1, u2, rfl, ⟨t1, rfl⟩, ⟨t2, rfl⟩⟩ := vals2 r2
    exact ⟨t, o, t1, t2, n, rfl, ho, hc, hd⟩
  refine SrtO.sorted_ord (SrtO.swo_lex fun u => k (backV u)) hl.isList (by rw [← rv.length]; exact hz) (fun h2 h₁ a' hob keep => SrtO.pairs_sortableO (by omega) (fun v hv => ?_) fun o e => ?_) fun out h1 h2 => ?_
  · obtain ⟨t, o, t1, t2, n, e, ho, hc, hd⟩ := hp v hv
    exact ⟨t, o, t1, t2, n, e, (keep t o ho).2, hc, hd⟩
  · have e' := e.symm.trans hob
    cases e'
    intro c
    exact absurd (Value.type.inj c) (by decide)
  · have h3 : ∀ u ∈ out, ∃ a, u = Value.ref a := fun u hu => e2 u (h2.perm.mem_iff.mp hu)
    obtain ⟨ep, he'⟩ := PyProof.Rows.sortedAll_at s.heap its out.toArray
    have hb : SrtO.Stb (ltP k) (out.map backV) ys := by
      rw [e1]
      exact SrtO.Stb.map (ltP_swo k) backV h2
    have hlen : (out.map backV).length ≤ sizeLine := by
      rw [hb.len]
      exact hz
    exact ⟨.ref _, upd H (s.heap.objs.size + 1) (.lst (out.map backV)), I.laid (t' := s.toks) (fun _ _ => PyProof.Rows.sortedAll_old) (Nat.le_succ _) ⟨hlen, out, ep, vals_back h3, he'⟩, rfl, q _ _ (SrtO.srtd_map h1) hb (I.hok.fresh (Nat.le_succ _))⟩
theorem cr_sortedPOK {X : Cx} {K : PySem.W.Frag} (hK : X.K = K) : CallR X (.builtin "sorted") (rSortedPO K) := by
  subst hK
  exact cr_sortedPO
end Rr

set_option maxRecDepth 100000
set_option maxHeartbeats 4000000
/-! pairs of a number and a place, sorted: the stable order by the number -/
namespace Rr
open PySem PySem.Spec PyProof.Rows L2
open SrtO (Srtd Stb Swo lexB)
section
variable {α : Type}
def enI : Int → List α → List (α × Int)
  | _, [] => []
  | i, c :: r => (c, i) :: enI (i + 1) r
theorem enI_fst : ∀ (i : Int) (l : List α), (enI i l).map (·.1) = l
  | _, [] => rfl
  | i, c :: r => congrArg (List.cons c) (enI_fst (i + 1) r)
theorem enI_ge : ∀ {i : Int} {l : List α} {p : α × Int}, p ∈ enI i l → i ≤ p.2
  | _, [], _, h => nomatch h
  | i, c :: r, p, h => by
    rcases List.mem_cons.mp h with e | h
    · rw [e]
      exact Int.le_refl _
    · have := enI_ge h
      omega
theorem enI_at : ∀ {n : Nat} {l : List α} {p : α × Int}, p ∈ enI (n : Int) l → ∃ j : Nat, p.2 = ((n + j : Nat) : Int) ∧ l[j]? = some p.1
  | _, [], _, h => nomatch h
  | n, c :: r, p, h => by
    rcases List.mem_cons.mp h with e | h
    · rw [e]
      exact ⟨0, rfl, rfl⟩
    · obtain ⟨j, e1, e2⟩ := enI_at (n := n + 1) (show p ∈ enI ((n + 1 : Nat) : Int) r from h)
      exact ⟨j + 1, by rw [e1]; omega, e2⟩
theorem enI_get : ∀ {n : Nat} {l : List α} {j : Nat} {c : α}, l[j]? = some c → (enI (n : Int) l)[j]? = some (c, ((n + j : Nat) : Int))
  | _, [], _, _, h => by simp at h
  | n, a :: r, 0, c, h => by
    cases h
    rfl
  | n, a :: r, j + 1, c, h => by
    have := enI_get (n := n + 1) (l := r) (j := j) (c := c) h
    show (enI ((n : Int) + 1) r)[j]? = _
    rw [show ((n : Int) + 1) = ((n + 1 : Nat) : Int) by omega, this]
    rw [show n + 1 + j = n + (j + 1) by omega]
theorem enI_len : ∀ (i : Int) (l : List α), (enI i l).length = l.length
  | _, [] => rfl
  | i, _ :: r => congrArg Nat.succ (enI_len (i + 1) r)
/-- the pair that is sorted -/
def keyP (f : α → Int) (p : α × Int) : Int × Int := (-(f p.1), p.2)
theorem lex_ins (f : α → Int) (x : α × Int) : ∀ l : List (α × Int), (∀ p ∈ l, x.2 < p.2) → Srtd lexB (l.map (keyP f)) → Srtd lexB ((insBy (fun p : α × Int => f p.1) x l).map (keyP f))
  | [], _, _ => List.pairwise_singleton _ _
  | y :: r, h, s => by
    unfold insBy
    have s' : Srtd lexB (keyP f y :: r.map (keyP f)) := s
    obtain ⟨h1, h2⟩ := List.pairwise_cons.mp s'
    have hxy := h y List.mem_cons_self
    have le : ∀ p ∈ r, f p.1 ≤ f y.1 := fun p hp => by
      have q : ¬ (-(f p.1) < -(f y.1)) := fun z => by
        have q2 := h1 _ (List.mem_map_of_mem (f := keyP f) hp)
        rw [SrtO.lexB_iff.mpr (.inl z)] at q2
        cases q2
      omega
    by_cases c : f y.1 ≤ f x.1
    · rw [if_pos c]
      refine List.pairwise_cons.mpr ⟨fun z hz => ?_, s⟩
      obtain ⟨p, hp, rfl⟩ := List.mem_map.mp hz
      have hp2 := h p hp
      have hp1 : f p.1 ≤ f y.1 := by
        rcases List.mem_cons.mp hp with e | e
        · rw [e]
          exact Int.le_refl _
        · exact le p e
      cases q : lexB (keyP f p) (keyP f x) with
      | false => rfl
      | true =>
        rcases SrtO.lexB_iff.mp q with z | ⟨z1, z2⟩
        · have z : -(f p.1) < -(f x.1) := z
          omega
        · have z2 : p.2 < x.2 := z2
          omega
    · rw [if_neg c]
      refine List.pairwise_cons.mpr ⟨fun z hz => ?_, lex_ins f x r (fun p hp => h p (List.mem_cons_of_mem _ hp)) h2⟩
      obtain ⟨p, hp, rfl⟩ := List.mem_map.mp hz
      rcases List.mem_cons.mp ((ins_stb (fun p : α × Int => f p.1) x r).perm.mem_iff.mp hp) with e | e
      · rw [e]
        cases q : lexB (keyP f x) (keyP f y) with
        | false => rfl
        | true =>
          rcases SrtO.lexB_iff.mp q with z | ⟨z1, z2⟩
          · have z : -(f x.1) < -(f y.1) := z
            omega
          · have z1 : -(f x.1) = -(f y.1) := z1
            omega
      · exact h1 _ (List.mem_map_of_mem e)
theorem lex_ord (f : α → Int) : ∀ (i : Int) (l : List α), Srtd lexB ((ordBy (fun p : α × Int => f p.1) (enI i l)).map (keyP f))
  | _, [] => List.Pairwise.nil
  | i, c :: r => lex_ins f (c, i) _ (fun p hp => by
      have := enI_ge ((ord_mem _).mp hp)
      show i < p.2
      omega) (lex_ord f (i + 1) r)
theorem eqv_lex {p q : Int × Int} (h : SrtO.eqv lexB p q = true) : p = q := by
  obtain ⟨h1, h2⟩ := SrtO.eqv_iff.mp h
  have n1 : ¬ (p.1 < q.1 ∨ (p.1 = q.1 ∧ p.2 < q.2)) := fun z => by
    rw [SrtO.lexB_iff.mpr z] at h1
    cases h1
  have n2 : ¬ (q.1 < p.1 ∨ (q.1 = p.1 ∧ q.2 < p.2)) := fun z => by
    rw [SrtO.lexB_iff.mpr z] at h2
    cases h2
  obtain ⟨a, b⟩ := p
  obtain ⟨c, d⟩ := q
  have e1 : a = c := by
    have m1 : ¬ a < c := fun z => n1 (.inl z)
    have m2 : ¬ c < a := fun z => n2 (.inl z)
    omega
  subst e1
  have e2 : b = d := by
    have m1 : ¬ b < d := fun z => n1 (.inr ⟨rfl, z⟩)
    have m2 : ¬ d < b := fun z => n2 (.inr ⟨rfl, z⟩)
    omega
  rw [e2]
theorem filter_one {β : Type} {p : β → Bool} {x : β} (h : ∀ y, p y = true → x = y) : ∀ l : List β, l.filter p = List.replicate (l.filter p).length x
  | [] => rfl
  | y :: r => by
    rw [List.filter_cons]
    cases e : p y with
    | false => exact filter_one h r
    | true =>
      rw [if_pos rfl, List.length_cons, List.replicate_succ, ← filter_one h r, ← h y e]
theorem stb_perm {l m : List (Int × Int)} (p : l.Perm m) : Stb lexB l m := by
  refine ⟨p, fun x => ?_⟩
  rw [filter_one (x := x) (fun y h => eqv_lex h) l, filter_one (x := x) (fun y h => eqv_lex h) m, (p.filter _).length_eq]
theorem swoL : Swo lexB := by
  refine ⟨fun x y h => ?_, fun x y z h1 h2 => ?_⟩
  · have a := SrtO.lexB_iff.mp h
    exact SrtO.lexB_no.mpr (by omega)
  · have a := SrtO.lexB_no.mp h1
    have b := SrtO.lexB_no.mp h2
    exact SrtO.lexB_no.mpr (by omega)
/-- what the sort of the pairs is -/
theorem lex_uniq {f : α → Int} {l : List α} {zs : List (Int × Int)} (h1 : Srtd lexB zs) (h2 : zs.Perm ((enI 0 l).map (keyP f))) : zs = (ordBy (fun p : α × Int => f p.1) (enI 0 l)).map (keyP f) :=
  SrtO.stb_uniq swoL h1 (lex_ord f 0 l) (stb_perm (h2.trans ((ord_stb (fun p : α × Int => f p.1) (enI 0 l)).perm.map (keyP f)).symm))
end
end Rr

set_option maxRecDepth 100000
set_option maxHeartbeats 4000000
/-! no name of the laws is zzzzzzzzzzzz -/
namespace Rr
open PySem PySem.Spec PyProof.Rows L2
theorem near_z {k c : Int} (h0 : 0 ≤ k) (h1 : k < 80) : sgn c (nearI k c) ≠ 122 := by
  have hF : ∀ z ∈ FIGL, z ≠ 122 := by decide +kernel
  obtain ⟨n0, n1⟩ := near_ok (c := c) h0 h1
  unfold sgn someL
  by_cases q : mix c 10259 5 = 0
  · rw [if_pos q, List.getD_eq_getElem?_getD]
    cases e : FIGL[(nearI k c).toNat]? with
    | none => decide
    | some z => exact hF z (List.mem_of_getElem? e)
  · rw [if_neg q]
    have m36 : manyL c = 36 := by
      unfold manyL
      rw [if_neg q]
    have hb : nearI k c ≤ 3 := by
      unfold nearI
      rw [m36]
      omega
    have h4 : (nearI k c).toNat = 0 ∨ (nearI k c).toNat = 1 ∨ (nearI k c).toNat = 2 ∨ (nearI k c).toNat = 3 := by omega
    rcases h4 with e | e | e | e <;> rw [e] <;> decide +kernel
theorem zz_no2 {k c : Int} (h0 : 0 ≤ k) (h1 : k < 80) : nameBy k c ≠ SX.S (List.replicate 12 122) := fun e => by
  have eL : nameL k c = List.replicate 12 122 := SX.S_inj e
  have len : (nameL k c).length = 12 := by rw [eL]; exact List.length_replicate
  have hp : sgn c (nearI k c) ∈ pairL k c := List.mem_cons_self
  have mem : sgn c (nearI k c) ∈ nameL k c := by
    unfold nameL at len ⊢
    split
    · exact List.mem_append_left _ (List.mem_append_right _ hp)
    · rename_i q
      rw [if_neg q] at len
      split
      · rename_i q2
        rw [if_pos q2] at len
        exact absurd len (by simp)
      · split
        · exact List.mem_reverse.mpr (List.mem_append_left _ hp)
        · exact List.mem_append_left _ hp
  rw [eL] at mem
  exact near_z h0 h1 (List.eq_of_mem_replicate mem)
theorem Deed.noZ {D E : Dk} (h : Deed D E) (x : ZZ ∉ namesL D.line) : ZZ ∉ namesL E.line := by
  induction h with
  | refl _ => exact x
  | trans _ _ a b => exact b (a x)
  | enter D n r hn hr nn hl hz =>
    intro z
    have z : ZZ ∈ namesL (D.line ++ [⟨n, r, .rdy D.now⟩]) := z
    unfold namesL at z
    rw [List.map_append] at z
    rcases List.mem_append.mp z with z | z
    · exact x z
    · exact hz (List.mem_singleton.mp z).symm
  | leave D c hc =>
    intro z
    obtain ⟨c', h1, e⟩ := List.mem_map.mp z
    exact x (by rw [← e]; exact name_in (List.mem_filter.mp h1).1)
  | sleep D c m hc hr hm => exact fun z => x ((names_move D _).mem_iff.mp z)
  | wait D c b hc hr hb => exact fun z => x ((names_move D _).mem_iff.mp z)
  | wake D c hc hr => exact fun z => x ((names_move D _).mem_iff.mp z)
  | rerank D c r hc hr hr9 =>
    intro z
    have z : ZZ ∈ namesL (setC { c with rank := r } D.line) := z
    rw [setC_names] at z
    exact x z
end Rr

set_option maxRecDepth 100000
set_option maxHeartbeats 4000000
namespace Rr
open PySem PySem.Spec PyProof.Rows L2
/-! ### the text -/
def top (i : Nat) : Stmt := PySem.Challenge.pw_rrdesk_k12_whole_every_deed.main.body.getD i (.Pass ⟨0, 0, 0, 0⟩)
abbrev s_Caller___init__ : Stmt := inClass (top 5) 0
abbrev N_Caller___init__ : List Str := ["self", "name", "rank", "since"]
theorem sc_Caller___init__ : FnScope N_Caller___init__ ["self", "name", "rank", "since"] (defScope s_Caller___init__) := ⟨rfl, rfl, rfl, by decide +kernel, rfl, by decide +kernel, by decide +kernel⟩
abbrev s_Caller_become : Stmt := inClass (top 5) 1
abbrev N_Caller_become : List Str := ["self", "state", "since", "due", "bell"]
theorem sc_Caller_become : FnScope N_Caller_become ["self", "state", "since", "due", "bell"] (defScope s_Caller_become) := ⟨rfl, rfl, rfl, by decide +kernel, rfl, by decide +kernel, by decide +kernel⟩
abbrev s_Caller_alike : Stmt := inClass (top 5) 2
abbrev N_Caller_alike : List Str := ["self", "other"]
theorem sc_Caller_alike : FnScope N_Caller_alike ["self"] (defScope s_Caller_alike) := ⟨rfl, rfl, rfl, by decide +kernel, rfl, by decide +kernel, by decide +kernel⟩
abbrev s_is_name : Stmt := top 20
abbrev N_is_name : List Str := ["text"]
theorem sc_is_name : FnScope N_is_name ["text"] (defScope s_is_name) := ⟨rfl, rfl, rfl, by decide +kernel, rfl, by decide +kernel, by decide +kernel⟩
abbrev s_aged : Stmt := top 23
abbrev N_aged : List Str := ["rank", "waited", "pace"]
theorem sc_aged : FnScope N_aged ["rank", "waited", "pace"] (defScope s_aged) := ⟨rfl, rfl, rfl, by decide +kernel, rfl, by decide +kernel, by decide +kernel⟩
abbrev s_first : Stmt := top 24
abbrev N_first : List Str := ["rows", "pace", "place", "best", "at", "rank", "waited", "reached"]
theorem sc_first : FnScope N_first ["rows", "pace"] (defScope s_first) := ⟨rfl, rfl, rfl, by decide +kernel, rfl, by decide +kernel, by decide +kernel⟩
abbrev s_check_name : Stmt := top 29
abbrev N_check_name : List Str := ["text"]
theorem sc_check_name : FnScope N_check_name ["text"] (defScope s_check_name) := ⟨rfl, rfl, rfl, by decide +kernel, rfl, by decide +kernel, by decide +kernel⟩
abbrev s_check_rank : Stmt := top 30
abbrev N_check_rank : List Str := ["rank"]
theorem sc_check_rank : FnScope N_check_rank ["rank"] (defScope s_check_rank) := ⟨rfl, rfl, rfl, by decide +kernel, rfl, by decide +kernel, by decide +kernel⟩
abbrev s_check_span : Stmt := top 31
abbrev N_check_span : List Str := ["many", "least"]
theorem sc_check_span : FnScope N_check_span ["many", "least"] (defScope s_check_span) := ⟨rfl, rfl, rfl, by decide +kernel, rfl, by decide +kernel, by decide +kernel⟩
abbrev s_check_ready : Stmt := top 32
abbrev N_check_ready : List Str := ["caller"]
theorem sc_check_ready : FnScope N_check_ready ["caller"] (defScope s_check_ready) := ⟨rfl, rfl, rfl, by decide +kernel, rfl, by decide +kernel, by decide +kernel⟩
abbrev s_check_not_ready : Stmt := top 33
abbrev N_check_not_ready : List Str := ["caller"]
theorem sc_check_not_ready : FnScope N_check_not_ready ["caller"] (defScope s_check_not_ready) := ⟨rfl, rfl, rfl, by decide +kernel, rfl, by decide +kernel, by decide +kernel⟩
abbrev s_Desk___init__ : Stmt := inClass (top 34) 0
abbrev N_Desk___init__ : List Str := ["self", "pace", "room"]
theorem sc_Desk___init__ : FnScope N_Desk___init__ ["self", "pace", "room"] (defScope s_Desk___init__) := ⟨rfl, rfl, rfl, by decide +kernel, rfl, by decide +kernel, by decide +kernel⟩
abbrev s_Desk_enter : Stmt := inClass (top 34) 1
abbrev N_Desk_enter : List Str := ["self", "name", "rank"]
theorem sc_Desk_enter : FnScope N_Desk_enter ["self", "name", "rank"] (defScope s_Desk_enter) := ⟨rfl, rfl, rfl, by decide +kernel, rfl, by decide +kernel, by decide +kernel⟩
abbrev s_Desk_leave : Stmt := inClass (top 34) 2
abbrev N_Desk_leave : List Str := ["self", "name", "caller"]
theorem sc_Desk_leave : FnScope N_Desk_leave ["self", "name"] (defScope s_Desk_leave) := ⟨rfl, rfl, rfl, by decide +kernel, rfl, by decide +kernel, by decide +kernel⟩
abbrev s_Desk_sleep : Stmt := inClass (top 34) 3
abbrev N_Desk_sleep : List Str := ["self", "name", "many", "caller"]
theorem sc_Desk_sleep : FnScope N_Desk_sleep ["self", "name", "many"] (defScope s_Desk_sleep) := ⟨rfl, rfl, rfl, by decide +kernel, rfl, by decide +kernel, by decide +kernel⟩
abbrev s_Desk_wait : Stmt := inClass (top 34) 4
abbrev N_Desk_wait : List Str := ["self", "name", "bell", "caller"]
theorem sc_Desk_wait : FnScope N_Desk_wait ["self", "name", "bell"] (defScope s_Desk_wait) := ⟨rfl, rfl, rfl, by decide +kernel, rfl, by decide +kernel, by decide +kernel⟩
abbrev s_Desk_wake : Stmt := inClass (top 34) 5
abbrev N_Desk_wake : List Str := ["self", "name", "caller"]
theorem sc_Desk_wake : FnScope N_Desk_wake ["self", "name"] (defScope s_Desk_wake) := ⟨rfl, rfl, rfl, by decide +kernel, rfl, by decide +kernel, by decide +kernel⟩
abbrev s_Desk_ring : Stmt := inClass (top 34) 6
abbrev N_Desk_ring : List Str := ["self", "bell", "woken", "caller"]
theorem sc_Desk_ring : FnScope N_Desk_ring ["self", "bell"] (defScope s_Desk_ring) := ⟨rfl, rfl, rfl, by decide +kernel, rfl, by decide +kernel, by decide +kernel⟩
abbrev s_Desk_rerank : Stmt := inClass (top 34) 7
abbrev N_Desk_rerank : List Str := ["self", "name", "rank", "caller"]
theorem sc_Desk_rerank : FnScope N_Desk_rerank ["self", "name", "rank"] (defScope s_Desk_rerank) := ⟨rfl, rfl, rfl, by decide +kernel, rfl, by decide +kernel, by decide +kernel⟩
abbrev s_Desk_turn : Stmt := inClass (top 34) 8
abbrev N_Desk_turn : List Str := ["self", "ran", "caller"]
theorem sc_Desk_turn : FnScope N_Desk_turn ["self"] (defScope s_Desk_turn) := ⟨rfl, rfl, rfl, by decide +kernel, rfl, by decide +kernel, by decide +kernel⟩
abbrev s_Desk_run : Stmt := inClass (top 34) 9
abbrev N_Desk_run : List Str := ["self", "many", "told", "_"]
theorem sc_Desk_run : FnScope N_Desk_run ["self", "many"] (defScope s_Desk_run) := ⟨rfl, rfl, rfl, by decide +kernel, rfl, by decide +kernel, by decide +kernel⟩
abbrev s_Desk_foretold : Stmt := inClass (top 34) 10
abbrev N_Desk_foretold : List Str := ["self", "many"]
theorem sc_Desk_foretold : FnScope N_Desk_foretold ["self", "many"] (defScope s_Desk_foretold) := ⟨rfl, rfl, rfl, by decide +kernel, rfl, by decide +kernel, by decide +kernel⟩
abbrev s_Desk_names : Stmt := inClass (top 34) 11
abbrev N_Desk_names : List Str := ["self"]
theorem sc_Desk_names : FnScope N_Desk_names ["self"] (defScope s_Desk_names) := ⟨rfl, rfl, rfl, by decide +kernel, rfl, by decide +kernel, by decide +kernel⟩
abbrev s_Desk_ready : Stmt := inClass (top 34) 12
abbrev N_Desk_ready : List Str := ["self", "callers", "chosen", "caller"]
theorem sc_Desk_ready : FnScope N_Desk_ready ["self"] (defScope s_Desk_ready) := ⟨rfl, rfl, rfl, by decide +kernel, rfl, by decide +kernel, by decide +kernel⟩
abbrev s_Desk_state : Stmt := inClass (top 34) 13
abbrev N_Desk_state : List Str := ["self", "name"]
theorem sc_Desk_state : FnScope N_Desk_state ["self", "name"] (defScope s_Desk_state) := ⟨rfl, rfl, rfl, by decide +kernel, rfl, by decide +kernel, by decide +kernel⟩
abbrev s_Desk_rank : Stmt := inClass (top 34) 14
abbrev N_Desk_rank : List Str := ["self", "name"]
theorem sc_Desk_rank : FnScope N_Desk_rank ["self", "name"] (defScope s_Desk_rank) := ⟨rfl, rfl, rfl, by decide +kernel, rfl, by decide +kernel, by decide +kernel⟩
abbrev s_Desk_waited : Stmt := inClass (top 34) 15
abbrev N_Desk_waited : List Str := ["self", "name", "caller"]
theorem sc_Desk_waited : FnScope N_Desk_waited ["self", "name"] (defScope s_Desk_waited) := ⟨rfl, rfl, rfl, by decide +kernel, rfl, by decide +kernel, by decide +kernel⟩
abbrev s_Desk_left : Stmt := inClass (top 34) 17
abbrev N_Desk_left : List Str := ["self", "name", "caller"]
theorem sc_Desk_left : FnScope N_Desk_left ["self", "name"] (defScope s_Desk_left) := ⟨rfl, rfl, rfl, by decide +kernel, rfl, by decide +kernel, by decide +kernel⟩
abbrev s_Desk_bell : Stmt := inClass (top 34) 18
abbrev N_Desk_bell : List Str := ["self", "name"]
theorem sc_Desk_bell : FnScope N_Desk_bell ["self", "name"] (defScope s_Desk_bell) := ⟨rfl, rfl, rfl, by decide +kernel, rfl, by decide +kernel, by decide +kernel⟩
abbrev s_Desk_twin : Stmt := inClass (top 34) 19
abbrev N_Desk_twin : List Str := ["self", "other", "caller"]
theorem sc_Desk_twin : FnScope N_Desk_twin ["self"] (defScope s_Desk_twin) := ⟨rfl, rfl, rfl, by decide +kernel, rfl, by decide +kernel, by decide +kernel⟩
abbrev s_Desk__known : Stmt := inClass (top 34) 20
abbrev N_Desk__known : List Str := ["self", "name", "caller"]
theorem sc_Desk__known : FnScope N_Desk__known ["self", "name"] (defScope s_Desk__known) := ⟨rfl, rfl, rfl, by decide +kernel, rfl, by decide +kernel, by decide +kernel⟩
abbrev s_Desk__waited : Stmt := inClass (top 34) 21
abbrev N_Desk__waited : List Str := ["self", "caller"]
theorem sc_Desk__waited : FnScope N_Desk__waited ["self", "caller"] (defScope s_Desk__waited) := ⟨rfl, rfl, rfl, by decide +kernel, rfl, by decide +kernel, by decide +kernel⟩
abbrev s_Desk__ready_callers : Stmt := inClass (top 34) 22
abbrev N_Desk__ready_callers : List Str := ["self", "caller"]
theorem sc_Desk__ready_callers : FnScope N_Desk__ready_callers ["self"] (defScope s_Desk__ready_callers) := ⟨rfl, rfl, rfl, by decide +kernel, rfl, by decide +kernel, by decide +kernel⟩
abbrev s_Desk__chosen : Stmt := inClass (top 34) 23
abbrev N_Desk__chosen : List Str := ["self", "callers", "place", "caller"]
theorem sc_Desk__chosen : FnScope N_Desk__chosen ["self"] (defScope s_Desk__chosen) := ⟨rfl, rfl, rfl, by decide +kernel, rfl, by decide +kernel, by decide +kernel⟩
abbrev s_Desk__make_ready : Stmt := inClass (top 34) 24
abbrev N_Desk__make_ready : List Str := ["self", "callers", "caller"]
theorem sc_Desk__make_ready : FnScope N_Desk__make_ready ["self", "callers"] (defScope s_Desk__make_ready) := ⟨rfl, rfl, rfl, by decide +kernel, rfl, by decide +kernel, by decide +kernel⟩
abbrev s_Desk__go_last : Stmt := inClass (top 34) 25
abbrev N_Desk__go_last : List Str := ["self", "caller"]
theorem sc_Desk__go_last : FnScope N_Desk__go_last ["self", "caller"] (defScope s_Desk__go_last) := ⟨rfl, rfl, rfl, by decide +kernel, rfl, by decide +kernel, by decide +kernel⟩
abbrev s_shown : Stmt := top 40
abbrev N_shown : List Str := ["desk", "rows", "name"]
theorem sc_shown : FnScope N_shown ["desk"] (defScope s_shown) := ⟨rfl, rfl, rfl, by decide +kernel, rfl, by decide +kernel, by decide +kernel⟩
abbrev s_doing : Stmt := top 41
abbrev N_doing : List Str := ["desk", "name", "state"]
theorem sc_doing : FnScope N_doing ["desk", "name"] (defScope s_doing) := ⟨rfl, rfl, rfl, by decide +kernel, rfl, by decide +kernel, by decide +kernel⟩
abbrev s_read : Stmt := top 42
abbrev N_read : List Str := ["text", "rows", "desk", "row", "refusal"]
theorem sc_read : FnScope N_read ["text"] (defScope s_read) := ⟨rfl, rfl, rfl, by decide +kernel, rfl, by decide +kernel, by decide +kernel⟩
abbrev s_begun : Stmt := top 43
abbrev N_begun : List Str := ["words", "head", "pace", "room", "time", "desk"]
theorem sc_begun : FnScope N_begun ["words"] (defScope s_begun) := ⟨rfl, rfl, rfl, by decide +kernel, rfl, by decide +kernel, by decide +kernel⟩
abbrev s_seat : Stmt := top 44
abbrev N_seat : List Str := ["desk", "words", "name", "rank", "state", "told"]
theorem sc_seat : FnScope N_seat ["desk", "words"] (defScope s_seat) := ⟨rfl, rfl, rfl, by decide +kernel, rfl, by decide +kernel, by decide +kernel⟩
abbrev s_seat_ready : Stmt := top 45
abbrev N_seat_ready : List Str := ["desk", "name", "rank", "waited"]
theorem sc_seat_ready : FnScope N_seat_ready ["desk", "name", "rank", "waited"] (defScope s_seat_ready) := ⟨rfl, rfl, rfl, by decide +kernel, rfl, by decide +kernel, by decide +kernel⟩
abbrev s_words_of : Stmt := top 46
abbrev N_words_of : List Str := ["row", "words"]
theorem sc_words_of : FnScope N_words_of ["row"] (defScope s_words_of) := ⟨rfl, rfl, rfl, by decide +kernel, rfl, by decide +kernel, by decide +kernel⟩
abbrev s_number : Stmt := top 47
abbrev N_number : List Str := ["word"]
theorem sc_number : FnScope N_number ["word"] (defScope s_number) := ⟨rfl, rfl, rfl, by decide +kernel, rfl, by decide +kernel, by decide +kernel⟩
abbrev s__law_whole : Stmt := top 49
abbrev N__law_whole : List Str := ["_law_found"]
theorem sc__law_whole : FnScope N__law_whole ["_law_found"] (defScope s__law_whole) := ⟨rfl, rfl, rfl, by decide +kernel, rfl, by decide +kernel, by decide +kernel⟩
abbrev s__law_cell_at : Stmt := top 50
abbrev N__law_cell_at : List Str := ["_law_script", "_law_k"]
theorem sc__law_cell_at : FnScope N__law_cell_at ["_law_script", "_law_k"] (defScope s__law_cell_at) := ⟨rfl, rfl, rfl, by decide +kernel, rfl, by decide +kernel, by decide +kernel⟩
abbrev s__law_mix : Stmt := top 51
abbrev N__law_mix : List Str := ["_law_cell", "_law_prime", "_law_many_here"]
theorem sc__law_mix : FnScope N__law_mix ["_law_cell", "_law_prime", "_law_many_here"] (defScope s__law_mix) := ⟨rfl, rfl, rfl, by decide +kernel, rfl, by decide +kernel, by decide +kernel⟩
abbrev s__law_name_by : Stmt := top 52
abbrev N__law_name_by : List Str := ["_law_k", "_law_cell", "_law_some", "_law_many_here", "_law_near", "_law_tell", "_law_size", "_law_at", "_law_j", "_law_text"]
theorem sc__law_name_by : FnScope N__law_name_by ["_law_k", "_law_cell"] (defScope s__law_name_by) := ⟨rfl, rfl, rfl, by decide +kernel, rfl, by decide +kernel, by decide +kernel⟩
abbrev s__law_texts : Stmt := top 53
abbrev N__law_texts : List Str := ["_law_found", "_law_due", "_law_k"]
theorem sc__law_texts : FnScope N__law_texts ["_law_found", "_law_due"] (defScope s__law_texts) := ⟨rfl, rfl, rfl, by decide +kernel, rfl, by decide +kernel, by decide +kernel⟩
abbrev s__law_put : Stmt := top 54
abbrev N__law_put : List Str := ["_law_line", "_law_name", "_law_rank", "_law_stand", "_law_mark", "_law_one"]
theorem sc__law_put : FnScope N__law_put ["_law_line", "_law_name", "_law_rank", "_law_stand", "_law_mark"] (defScope s__law_put) := ⟨rfl, rfl, rfl, by decide +kernel, rfl, by decide +kernel, by decide +kernel⟩
abbrev s__law_after : Stmt := top 55
abbrev N__law_after : List Str := ["_law_line", "_law_now", "_law_ran", "_law_made", "_law_one"]
theorem sc__law_after : FnScope N__law_after ["_law_line", "_law_now", "_law_ran"] (defScope s__law_after) := ⟨rfl, rfl, rfl, by decide +kernel, rfl, by decide +kernel, by decide +kernel⟩
abbrev s__law_rank_by : Stmt := top 56
abbrev N__law_rank_by : List Str := ["_law_cell"]
theorem sc__law_rank_by : FnScope N__law_rank_by ["_law_cell"] (defScope s__law_rank_by) := ⟨rfl, rfl, rfl, by decide +kernel, rfl, by decide +kernel, by decide +kernel⟩
abbrev s__law_pace_by : Stmt := top 57
abbrev N__law_pace_by : List Str := ["_law_cell"]
theorem sc__law_pace_by : FnScope N__law_pace_by ["_law_cell"] (defScope s__law_pace_by) := ⟨rfl, rfl, rfl, by decide +kernel, rfl, by decide +kernel, by decide +kernel⟩
abbrev s__law_opened : Stmt := top 58
abbrev N__law_opened : List Str := ["_law_pace", "_law_room", "_law_cell", "_law_far"]
theorem sc__law_opened : FnScope N__law_opened ["_law_pace", "_law_room", "_law_cell"] (defScope s__law_opened) := ⟨rfl, rfl, rfl, by decide +kernel, rfl, by decide +kernel, by decide +kernel⟩
abbrev s__law_crowd : Stmt := top 59
abbrev N__law_crowd : List Str := ["_law_desk", "_law_many_here", "_law_shift", "_law_cell", "_law_line", "_law_k", "_law_rank"]
theorem sc__law_crowd : FnScope N__law_crowd ["_law_desk", "_law_many_here", "_law_shift", "_law_cell"] (defScope s__law_crowd) := ⟨rfl, rfl, rfl, by decide +kernel, rfl, by decide +kernel, by decide +kernel⟩
abbrev s__law_bell_by : Stmt := top 60
abbrev N__law_bell_by : List Str := ["_law_line", "_law_one", "_law_cell", "_law_way"]
theorem sc__law_bell_by : FnScope N__law_bell_by ["_law_line", "_law_one", "_law_cell"] (defScope s__law_bell_by) := ⟨rfl, rfl, rfl, by decide +kernel, rfl, by decide +kernel, by decide +kernel⟩
abbrev s__law_rung : Stmt := top 61
abbrev N__law_rung : List Str := ["_law_line", "_law_now", "_law_bell", "_law_made", "_law_one"]
theorem sc__law_rung : FnScope N__law_rung ["_law_line", "_law_now", "_law_bell"] (defScope s__law_rung) := ⟨rfl, rfl, rfl, by decide +kernel, rfl, by decide +kernel, by decide +kernel⟩
abbrev s__law_slept : Stmt := top 62
abbrev N__law_slept : List Str := ["_law_desk", "_law_line", "_law_now", "_law_one", "_law_cell", "_law_way", "_law_bell", "_law_many_here"]
theorem sc__law_slept : FnScope N__law_slept ["_law_desk", "_law_line", "_law_now", "_law_one", "_law_cell"] (defScope s__law_slept) := ⟨rfl, rfl, rfl, by decide +kernel, rfl, by decide +kernel, by decide +kernel⟩
abbrev s__law_woken : Stmt := top 63
abbrev N__law_woken : List Str := ["_law_desk", "_law_line", "_law_now", "_law_one", "_law_cell", "_law_way", "_law_bell", "_law_rank", "_law_other"]
theorem sc__law_woken : FnScope N__law_woken ["_law_desk", "_law_line", "_law_now", "_law_one", "_law_cell"] (defScope s__law_woken) := ⟨rfl, rfl, rfl, by decide +kernel, rfl, by decide +kernel, by decide +kernel⟩
abbrev s__law_done : Stmt := top 64
abbrev N__law_done : List Str := ["_law_desk", "_law_line", "_law_now", "_law_cell", "_law_shift", "_law_name", "_law_way", "_law_one", "_law_rank", "_law_other"]
theorem sc__law_done : FnScope N__law_done ["_law_desk", "_law_line", "_law_now", "_law_cell", "_law_shift"] (defScope s__law_done) := ⟨rfl, rfl, rfl, by decide +kernel, rfl, by decide +kernel, by decide +kernel⟩
abbrev s__law_told : Stmt := top 65
abbrev N__law_told : List Str := ["_law_desk", "_law_many_here", "_law_cell", "_law_k"]
theorem sc__law_told : FnScope N__law_told ["_law_desk", "_law_many_here", "_law_cell"] (defScope s__law_told) := ⟨rfl, rfl, rfl, by decide +kernel, rfl, by decide +kernel, by decide +kernel⟩
abbrev s__law_few : Stmt := top 66
abbrev N__law_few : List Str := ["_law_cell", "_law_many_here"]
theorem sc__law_few : FnScope N__law_few ["_law_cell", "_law_many_here"] (defScope s__law_few) := ⟨rfl, rfl, rfl, by decide +kernel, rfl, by decide +kernel, by decide +kernel⟩
abbrev s__law_many : Stmt := top 67
abbrev N__law_many : List Str := ["_law_script", "_law_room"]
theorem sc__law_many : FnScope N__law_many ["_law_script", "_law_room"] (defScope s__law_many) := ⟨rfl, rfl, rfl, by decide +kernel, rfl, by decide +kernel, by decide +kernel⟩
abbrev s__law_room_by : Stmt := top 68
abbrev N__law_room_by : List Str := ["_law_cell"]
theorem sc__law_room_by : FnScope N__law_room_by ["_law_cell"] (defScope s__law_room_by) := ⟨rfl, rfl, rfl, by decide +kernel, rfl, by decide +kernel, by decide +kernel⟩
abbrev s__law_started : Stmt := top 69
abbrev N__law_started : List Str := ["_law_pace", "_law_room", "_law_script", "_law_way", "_law_rank", "_law_waited", "_law_text"]
theorem sc__law_started : FnScope N__law_started ["_law_pace", "_law_room", "_law_script"] (defScope s__law_started) := ⟨rfl, rfl, rfl, by decide +kernel, rfl, by decide +kernel, by decide +kernel⟩
abbrev s__law_chosen : Stmt := top 70
abbrev N__law_chosen : List Str := ["_law_line", "_law_now", "_law_pace", "_law_best", "_law_most", "_law_one", "_law_found"]
theorem sc__law_chosen : FnScope N__law_chosen ["_law_line", "_law_now", "_law_pace"] (defScope s__law_chosen) := ⟨rfl, rfl, rfl, by decide +kernel, rfl, by decide +kernel, by decide +kernel⟩
abbrev s__law_word : Stmt := top 71
abbrev N__law_word : List Str := ["_law_e", "_law_found", "_law_one"]
theorem sc__law_word : FnScope N__law_word ["_law_e"] (defScope s__law_word) := ⟨rfl, rfl, rfl, by decide +kernel, rfl, by decide +kernel, by decide +kernel⟩
abbrev s__law_refused : Stmt := top 72
abbrev N__law_refused : List Str := ["_law_desk", "_law_one", "_law_way", "_law_e"]
theorem sc__law_refused : FnScope N__law_refused ["_law_desk", "_law_one", "_law_way"] (defScope s__law_refused) := ⟨rfl, rfl, rfl, by decide +kernel, rfl, by decide +kernel, by decide +kernel⟩
abbrev s__law_good : Stmt := top 73
abbrev N__law_good : List Str := ["_law_desk", "_law_line", "_law_cell", "_law_one", "_law_way", "_law_due"]
theorem sc__law_good : FnScope N__law_good ["_law_desk", "_law_line", "_law_cell"] (defScope s__law_good) := ⟨rfl, rfl, rfl, by decide +kernel, rfl, by decide +kernel, by decide +kernel⟩
abbrev s__law_ahead : Stmt := top 74
abbrev N__law_ahead : List Str := ["_law_line", "_law_now", "_law_pace", "_law_many_here", "_law_due", "_law_k"]
theorem sc__law_ahead : FnScope N__law_ahead ["_law_line", "_law_now", "_law_pace", "_law_many_here"] (defScope s__law_ahead) := ⟨rfl, rfl, rfl, by decide +kernel, rfl, by decide +kernel, by decide +kernel⟩
abbrev s__law_turns : Stmt := top 75
abbrev N__law_turns : List Str := ["_law_desk", "_law_line", "_law_many_here", "_law_pace", "_law_cell", "_law_due"]
theorem sc__law_turns : FnScope N__law_turns ["_law_desk", "_law_line", "_law_many_here", "_law_pace", "_law_cell"] (defScope s__law_turns) := ⟨rfl, rfl, rfl, by decide +kernel, rfl, by decide +kernel, by decide +kernel⟩
abbrev s__law_order : Stmt := top 76
abbrev N__law_order : List Str := ["_law_line", "_law_now", "_law_pace", "_law_able", "_law_rows", "_law_one", "_law_k", "_law_row"]
theorem sc__law_order : FnScope N__law_order ["_law_line", "_law_now", "_law_pace"] (defScope s__law_order) := ⟨rfl, rfl, rfl, by decide +kernel, rfl, by decide +kernel, by decide +kernel⟩
abbrev s__law_lists : Stmt := top 77
abbrev N__law_lists : List Str := ["_law_desk", "_law_line", "_law_now", "_law_pace", "_law_names", "_law_ready", "_law_one"]
theorem sc__law_lists : FnScope N__law_lists ["_law_desk", "_law_line", "_law_now", "_law_pace"] (defScope s__law_lists) := ⟨rfl, rfl, rfl, by decide +kernel, rfl, by decide +kernel, by decide +kernel⟩
abbrev s__law_stands : Stmt := top 78
abbrev N__law_stands : List Str := ["_law_desk", "_law_line", "_law_now", "_law_pace", "_law_cell", "_law_one"]
theorem sc__law_stands : FnScope N__law_stands ["_law_desk", "_law_line", "_law_now", "_law_pace", "_law_cell"] (defScope s__law_stands) := ⟨rfl, rfl, rfl, by decide +kernel, rfl, by decide +kernel, by decide +kernel⟩
abbrev s_law : Stmt := top 79
abbrev N_law : List Str := ["_law_script", "_law_shift", "_law_room", "_law_pace", "_law_desk", "_law_line", "_law_found", "_law_now", "_law_good_here", "_law_last", "_law_k", "_law_many_here"]
theorem sc_law : FnScope N_law ["_law_script"] (defScope s_law) := ⟨rfl, rfl, rfl, by decide +kernel, rfl, by decide +kernel, by decide +kernel⟩
/-! ### what the top has written -/
structure Tx (K : PySem.W.Frag) (mg : Str → Option Value) (base : Heap) : Prop where
  m_all : mg "all" = none
  m_len : mg "len" = none
  m_enumerate : mg "enumerate" = none
  m_range : mg "range" = none
  m_list : mg "list" = none
  m_any : mg "any" = none
  m_int : mg "int" = none
  m_bool : mg "bool" = none
  m_isinstance : mg "isinstance" = none
  m_str : mg "str" = none
  m_min : mg "min" = none
  m_max : mg "max" = none
  m_ValueError : mg "ValueError" = none
  m_sum : mg "sum" = none
  m_sorted : mg "sorted" = none
  h_READY : ∃ t, mg "READY" = some (.str "ready" t)
  h_MOST_SIGNS : ∃ t, mg "MOST_SIGNS" = some (.int 12 t)
  h_SIGNS : ∃ t, mg "SIGNS" = some (.str "abcdefghijklmnopqrstuvwxyz0123456789" t)
  h_TOP : ∃ t, mg "TOP" = some (.int 99 t)
  h_MOST_TURNS : ∃ t, mg "MOST_TURNS" = some (.int 1000 t)
  h_MOST_PACE : ∃ t, mg "MOST_PACE" = some (.int 1000 t)
  h_MOST_ROOM : ∃ t, mg "MOST_ROOM" = some (.int 60 t)
  h_ASLEEP : ∃ t, mg "ASLEEP" = some (.str "asleep" t)
  h_WAITING : ∃ t, mg "WAITING" = some (.str "waiting" t)
  h_HEAD : ∃ t, mg "HEAD" = some (.str "desk" t)
  h_WORDS : ∃ t, mg "WORDS" = some (.int 4 t)
  h_FIGURES : ∃ t, mg "FIGURES" = some (.str "0123456789" t)
  h_MOST_FIGURES : ∃ t, mg "MOST_FIGURES" = some (.int 12 t)
  r_Caller : mg "Caller" = some (.ref (He.ga K "Caller"))
  r_DeskError : mg "DeskError" = some (.ref (He.ga K "DeskError"))
  r_NoName : mg "NoName" = some (.ref (He.ga K "NoName"))
  r_NoRank : mg "NoRank" = some (.ref (He.ga K "NoRank"))
  r_NoSpan : mg "NoSpan" = some (.ref (He.ga K "NoSpan"))
  r_NoDesk : mg "NoDesk" = some (.ref (He.ga K "NoDesk"))
  r_Known : mg "Known" = some (.ref (He.ga K "Known"))
  r_Unknown : mg "Unknown" = some (.ref (He.ga K "Unknown"))
  r_Full : mg "Full" = some (.ref (He.ga K "Full"))
  r_NotReady : mg "NotReady" = some (.ref (He.ga K "NotReady"))
  r_IsReady : mg "IsReady" = some (.ref (He.ga K "IsReady"))
  r_Desk : mg "Desk" = some (.ref (He.ga K "Desk"))
  e_DeskError : PySem.W.excIn K (He.ga K "DeskError") He.veBase "ValueError.__new__" = true ∧ PySem.W.keepIn K (.ref (He.ga K "DeskError")) = true ∧ PySem.W.subIn K (.ref (He.ga K "DeskError")) (.type "BaseException") = some true ∧ PySem.W.typeIn K (.ref (He.ga K "DeskError")) = some (.type "type")
  e_NoName : PySem.W.excIn K (He.ga K "NoName") He.veBase "ValueError.__new__" = true ∧ PySem.W.keepIn K (.ref (He.ga K "NoName")) = true ∧ PySem.W.subIn K (.ref (He.ga K "NoName")) (.type "BaseException") = some true ∧ PySem.W.typeIn K (.ref (He.ga K "NoName")) = some (.type "type")
  e_NoRank : PySem.W.excIn K (He.ga K "NoRank") He.veBase "ValueError.__new__" = true ∧ PySem.W.keepIn K (.ref (He.ga K "NoRank")) = true ∧ PySem.W.subIn K (.ref (He.ga K "NoRank")) (.type "BaseException") = some true ∧ PySem.W.typeIn K (.ref (He.ga K "NoRank")) = some (.type "type")
  e_NoSpan : PySem.W.excIn K (He.ga K "NoSpan") He.veBase "ValueError.__new__" = true ∧ PySem.W.keepIn K (.ref (He.ga K "NoSpan")) = true ∧ PySem.W.subIn K (.ref (He.ga K "NoSpan")) (.type "BaseException") = some true ∧ PySem.W.typeIn K (.ref (He.ga K "NoSpan")) = some (.type "type")
  e_NoDesk : PySem.W.excIn K (He.ga K "NoDesk") He.veBase "ValueError.__new__" = true ∧ PySem.W.keepIn K (.ref (He.ga K "NoDesk")) = true ∧ PySem.W.subIn K (.ref (He.ga K "NoDesk")) (.type "BaseException") = some true ∧ PySem.W.typeIn K (.ref (He.ga K "NoDesk")) = some (.type "type")
  e_Known : PySem.W.excIn K (He.ga K "Known") He.veBase "ValueError.__new__" = true ∧ PySem.W.keepIn K (.ref (He.ga K "Known")) = true ∧ PySem.W.subIn K (.ref (He.ga K "Known")) (.type "BaseException") = some true ∧ PySem.W.typeIn K (.ref (He.ga K "Known")) = some (.type "type")
  e_Unknown : PySem.W.excIn K (He.ga K "Unknown") He.veBase "ValueError.__new__" = true ∧ PySem.W.keepIn K (.ref (He.ga K "Unknown")) = true ∧ PySem.W.subIn K (.ref (He.ga K "Unknown")) (.type "BaseException") = some true ∧ PySem.W.typeIn K (.ref (He.ga K "Unknown")) = some (.type "type")
  e_Full : PySem.W.excIn K (He.ga K "Full") He.veBase "ValueError.__new__" = true ∧ PySem.W.keepIn K (.ref (He.ga K "Full")) = true ∧ PySem.W.subIn K (.ref (He.ga K "Full")) (.type "BaseException") = some true ∧ PySem.W.typeIn K (.ref (He.ga K "Full")) = some (.type "type")
  e_NotReady : PySem.W.excIn K (He.ga K "NotReady") He.veBase "ValueError.__new__" = true ∧ PySem.W.keepIn K (.ref (He.ga K "NotReady")) = true ∧ PySem.W.subIn K (.ref (He.ga K "NotReady")) (.type "BaseException") = some true ∧ PySem.W.typeIn K (.ref (He.ga K "NotReady")) = some (.type "type")
  e_IsReady : PySem.W.excIn K (He.ga K "IsReady") He.veBase "ValueError.__new__" = true ∧ PySem.W.keepIn K (.ref (He.ga K "IsReady")) = true ∧ PySem.W.subIn K (.ref (He.ga K "IsReady")) (.type "BaseException") = some true ∧ PySem.W.typeIn K (.ref (He.ga K "IsReady")) = some (.type "type")
  x_NoName_DeskError : PySem.W.exmOne K (.ref (He.ga K "NoName")) (.ref (He.ga K "DeskError")) = some true
  x_NoRank_DeskError : PySem.W.exmOne K (.ref (He.ga K "NoRank")) (.ref (He.ga K "DeskError")) = some true
  x_NoSpan_DeskError : PySem.W.exmOne K (.ref (He.ga K "NoSpan")) (.ref (He.ga K "DeskError")) = some true
  x_NoDesk_DeskError : PySem.W.exmOne K (.ref (He.ga K "NoDesk")) (.ref (He.ga K "DeskError")) = some true
  x_Known_DeskError : PySem.W.exmOne K (.ref (He.ga K "Known")) (.ref (He.ga K "DeskError")) = some true
  x_Unknown_DeskError : PySem.W.exmOne K (.ref (He.ga K "Unknown")) (.ref (He.ga K "DeskError")) = some true
  x_Full_DeskError : PySem.W.exmOne K (.ref (He.ga K "Full")) (.ref (He.ga K "DeskError")) = some true
  x_NotReady_DeskError : PySem.W.exmOne K (.ref (He.ga K "NotReady")) (.ref (He.ga K "DeskError")) = some true
  x_IsReady_DeskError : PySem.W.exmOne K (.ref (He.ga K "IsReady")) (.ref (He.ga K "DeskError")) = some true
  cl_Caller : Cls K (He.ga K "Caller")
  mk_Caller : Mk K (He.ga K "Caller") (He.fAd K ("Caller", some "__init__"))
  na_Caller_bell : NoAttr K (He.ga K "Caller") "bell"
  na_Caller_due : NoAttr K (He.ga K "Caller") "due"
  na_Caller_name : NoAttr K (He.ga K "Caller") "name"
  na_Caller_rank : NoAttr K (He.ga K "Caller") "rank"
  na_Caller_since : NoAttr K (He.ga K "Caller") "since"
  na_Caller_state : NoAttr K (He.ga K "Caller") "state"
  cl_Desk : Cls K (He.ga K "Desk")
  mk_Desk : Mk K (He.ga K "Desk") (He.fAd K ("Desk", some "__init__"))
  na_Desk__line : NoAttr K (He.ga K "Desk") "_line"
  na_Desk_now : NoAttr K (He.ga K "Desk") "now"
  na_Desk_pace : NoAttr K (He.ga K "Desk") "pace"
  na_Desk_room : NoAttr K (He.ga K "Desk") "room"
  me_Caller_become : Meth K (He.ga K "Caller") "become" (He.fAd K ("Caller", some "become"))
  me_Caller_alike : Meth K (He.ga K "Caller") "alike" (He.fAd K ("Caller", some "alike"))
  r_is_name : mg "is_name" = some (.ref (He.ga K "is_name"))
  r_aged : mg "aged" = some (.ref (He.ga K "aged"))
  r_first : mg "first" = some (.ref (He.ga K "first"))
  r_check_name : mg "check_name" = some (.ref (He.ga K "check_name"))
  r_check_rank : mg "check_rank" = some (.ref (He.ga K "check_rank"))
  r_check_span : mg "check_span" = some (.ref (He.ga K "check_span"))
  r_check_ready : mg "check_ready" = some (.ref (He.ga K "check_ready"))
  r_check_not_ready : mg "check_not_ready" = some (.ref (He.ga K "check_not_ready"))
  me_Desk_enter : Meth K (He.ga K "Desk") "enter" (He.fAd K ("Desk", some "enter"))
  me_Desk_leave : Meth K (He.ga K "Desk") "leave" (He.fAd K ("Desk", some "leave"))
  me_Desk_sleep : Meth K (He.ga K "Desk") "sleep" (He.fAd K ("Desk", some "sleep"))
  me_Desk_wait : Meth K (He.ga K "Desk") "wait" (He.fAd K ("Desk", some "wait"))
  me_Desk_wake : Meth K (He.ga K "Desk") "wake" (He.fAd K ("Desk", some "wake"))
  me_Desk_ring : Meth K (He.ga K "Desk") "ring" (He.fAd K ("Desk", some "ring"))
  me_Desk_rerank : Meth K (He.ga K "Desk") "rerank" (He.fAd K ("Desk", some "rerank"))
  me_Desk_turn : Meth K (He.ga K "Desk") "turn" (He.fAd K ("Desk", some "turn"))
  me_Desk_run : Meth K (He.ga K "Desk") "run" (He.fAd K ("Desk", some "run"))
  me_Desk_foretold : Meth K (He.ga K "Desk") "foretold" (He.fAd K ("Desk", some "foretold"))
  me_Desk_names : Meth K (He.ga K "Desk") "names" (He.fAd K ("Desk", some "names"))
  me_Desk_ready : Meth K (He.ga K "Desk") "ready" (He.fAd K ("Desk", some "ready"))
  me_Desk_state : Meth K (He.ga K "Desk") "state" (He.fAd K ("Desk", some "state"))
  me_Desk_rank : Meth K (He.ga K "Desk") "rank" (He.fAd K ("Desk", some "rank"))
  me_Desk_waited : Meth K (He.ga K "Desk") "waited" (He.fAd K ("Desk", some "waited"))
  me_Desk_left : Meth K (He.ga K "Desk") "left" (He.fAd K ("Desk", some "left"))
  me_Desk_bell : Meth K (He.ga K "Desk") "bell" (He.fAd K ("Desk", some "bell"))
  me_Desk_twin : Meth K (He.ga K "Desk") "twin" (He.fAd K ("Desk", some "twin"))
  me_Desk__known : Meth K (He.ga K "Desk") "_known" (He.fAd K ("Desk", some "_known"))
  me_Desk__waited : Meth K (He.ga K "Desk") "_waited" (He.fAd K ("Desk", some "_waited"))
  me_Desk__ready_callers : Meth K (He.ga K "Desk") "_ready_callers" (He.fAd K ("Desk", some "_ready_callers"))
  me_Desk__chosen : Meth K (He.ga K "Desk") "_chosen" (He.fAd K ("Desk", some "_chosen"))
  me_Desk__make_ready : Meth K (He.ga K "Desk") "_make_ready" (He.fAd K ("Desk", some "_make_ready"))
  me_Desk__go_last : Meth K (He.ga K "Desk") "_go_last" (He.fAd K ("Desk", some "_go_last"))
  r_shown : mg "shown" = some (.ref (He.ga K "shown"))
  r_doing : mg "doing" = some (.ref (He.ga K "doing"))
  r_read : mg "read" = some (.ref (He.ga K "read"))
  r_begun : mg "begun" = some (.ref (He.ga K "begun"))
  r_seat : mg "seat" = some (.ref (He.ga K "seat"))
  r_seat_ready : mg "seat_ready" = some (.ref (He.ga K "seat_ready"))
  r_words_of : mg "words_of" = some (.ref (He.ga K "words_of"))
  r_number : mg "number" = some (.ref (He.ga K "number"))
  r__law_whole : mg "_law_whole" = some (.ref (He.ga K "_law_whole"))
  r__law_cell_at : mg "_law_cell_at" = some (.ref (He.ga K "_law_cell_at"))
  r__law_mix : mg "_law_mix" = some (.ref (He.ga K "_law_mix"))
  r__law_name_by : mg "_law_name_by" = some (.ref (He.ga K "_law_name_by"))
  r__law_texts : mg "_law_texts" = some (.ref (He.ga K "_law_texts"))
  r__law_put : mg "_law_put" = some (.ref (He.ga K "_law_put"))
  r__law_after : mg "_law_after" = some (.ref (He.ga K "_law_after"))
  r__law_rank_by : mg "_law_rank_by" = some (.ref (He.ga K "_law_rank_by"))
  r__law_pace_by : mg "_law_pace_by" = some (.ref (He.ga K "_law_pace_by"))
  r__law_opened : mg "_law_opened" = some (.ref (He.ga K "_law_opened"))
  r__law_crowd : mg "_law_crowd" = some (.ref (He.ga K "_law_crowd"))
  r__law_bell_by : mg "_law_bell_by" = some (.ref (He.ga K "_law_bell_by"))
  r__law_rung : mg "_law_rung" = some (.ref (He.ga K "_law_rung"))
  r__law_slept : mg "_law_slept" = some (.ref (He.ga K "_law_slept"))
  r__law_woken : mg "_law_woken" = some (.ref (He.ga K "_law_woken"))
  r__law_done : mg "_law_done" = some (.ref (He.ga K "_law_done"))
  r__law_told : mg "_law_told" = some (.ref (He.ga K "_law_told"))
  r__law_few : mg "_law_few" = some (.ref (He.ga K "_law_few"))
  r__law_many : mg "_law_many" = some (.ref (He.ga K "_law_many"))
  r__law_room_by : mg "_law_room_by" = some (.ref (He.ga K "_law_room_by"))
  r__law_started : mg "_law_started" = some (.ref (He.ga K "_law_started"))
  r__law_chosen : mg "_law_chosen" = some (.ref (He.ga K "_law_chosen"))
  r__law_word : mg "_law_word" = some (.ref (He.ga K "_law_word"))
  r__law_refused : mg "_law_refused" = some (.ref (He.ga K "_law_refused"))
  r__law_good : mg "_law_good" = some (.ref (He.ga K "_law_good"))
  r__law_ahead : mg "_law_ahead" = some (.ref (He.ga K "_law_ahead"))
  r__law_turns : mg "_law_turns" = some (.ref (He.ga K "_law_turns"))
  r__law_order : mg "_law_order" = some (.ref (He.ga K "_law_order"))
  r__law_lists : mg "_law_lists" = some (.ref (He.ga K "_law_lists"))
  r__law_stands : mg "_law_stands" = some (.ref (He.ga K "_law_stands"))
  r_law : mg "law" = some (.ref (He.ga K "law"))
  d_Caller___init__ : ∃ fd, FunD K "__init__" "Caller.__init__" (defArgs s_Caller___init__) (defBody s_Caller___init__) (defScope s_Caller___init__) [] [] (He.fAd K ("Caller", some "__init__")) fd
  d_Caller_become : ∃ fd, FunD K "become" "Caller.become" (defArgs s_Caller_become) (defBody s_Caller_become) (defScope s_Caller_become) [.non, .non, .non] [] (He.fAd K ("Caller", some "become")) fd
  d_Caller_alike : ∃ fd, FunD K "alike" "Caller.alike" (defArgs s_Caller_alike) (defBody s_Caller_alike) (defScope s_Caller_alike) [] [] (He.fAd K ("Caller", some "alike")) fd
  d_is_name : ∃ fd, FunD K "is_name" "is_name" (defArgs s_is_name) (defBody s_is_name) (defScope s_is_name) [] [] (He.fAd K ("is_name", none)) fd
  d_aged : ∃ fd, FunD K "aged" "aged" (defArgs s_aged) (defBody s_aged) (defScope s_aged) [] [] (He.fAd K ("aged", none)) fd
  d_first : ∃ fd, FunD K "first" "first" (defArgs s_first) (defBody s_first) (defScope s_first) [] [] (He.fAd K ("first", none)) fd
  d_check_name : ∃ fd, FunD K "check_name" "check_name" (defArgs s_check_name) (defBody s_check_name) (defScope s_check_name) [] [] (He.fAd K ("check_name", none)) fd
  d_check_rank : ∃ fd, FunD K "check_rank" "check_rank" (defArgs s_check_rank) (defBody s_check_rank) (defScope s_check_rank) [] [] (He.fAd K ("check_rank", none)) fd
  d_check_span : ∃ fd, FunD K "check_span" "check_span" (defArgs s_check_span) (defBody s_check_span) (defScope s_check_span) [] [] (He.fAd K ("check_span", none)) fd
  d_check_ready : ∃ fd, FunD K "check_ready" "check_ready" (defArgs s_check_ready) (defBody s_check_ready) (defScope s_check_ready) [] [] (He.fAd K ("check_ready", none)) fd
  d_check_not_ready : ∃ fd, FunD K "check_not_ready" "check_not_ready" (defArgs s_check_not_ready) (defBody s_check_not_ready) (defScope s_check_not_ready) [] [] (He.fAd K ("check_not_ready", none)) fd
  d_Desk___init__ : ∃ fd, FunD K "__init__" "Desk.__init__" (defArgs s_Desk___init__) (defBody s_Desk___init__) (defScope s_Desk___init__) [] [] (He.fAd K ("Desk", some "__init__")) fd
  d_Desk_enter : ∃ fd, FunD K "enter" "Desk.enter" (defArgs s_Desk_enter) (defBody s_Desk_enter) (defScope s_Desk_enter) [] [] (He.fAd K ("Desk", some "enter")) fd
  d_Desk_leave : ∃ fd, FunD K "leave" "Desk.leave" (defArgs s_Desk_leave) (defBody s_Desk_leave) (defScope s_Desk_leave) [] [] (He.fAd K ("Desk", some "leave")) fd
  d_Desk_sleep : ∃ fd, FunD K "sleep" "Desk.sleep" (defArgs s_Desk_sleep) (defBody s_Desk_sleep) (defScope s_Desk_sleep) [] [] (He.fAd K ("Desk", some "sleep")) fd
  d_Desk_wait : ∃ fd, FunD K "wait" "Desk.wait" (defArgs s_Desk_wait) (defBody s_Desk_wait) (defScope s_Desk_wait) [] [] (He.fAd K ("Desk", some "wait")) fd
  d_Desk_wake : ∃ fd, FunD K "wake" "Desk.wake" (defArgs s_Desk_wake) (defBody s_Desk_wake) (defScope s_Desk_wake) [] [] (He.fAd K ("Desk", some "wake")) fd
  d_Desk_ring : ∃ fd, FunD K "ring" "Desk.ring" (defArgs s_Desk_ring) (defBody s_Desk_ring) (defScope s_Desk_ring) [] [] (He.fAd K ("Desk", some "ring")) fd
  d_Desk_rerank : ∃ fd, FunD K "rerank" "Desk.rerank" (defArgs s_Desk_rerank) (defBody s_Desk_rerank) (defScope s_Desk_rerank) [] [] (He.fAd K ("Desk", some "rerank")) fd
  d_Desk_turn : ∃ fd, FunD K "turn" "Desk.turn" (defArgs s_Desk_turn) (defBody s_Desk_turn) (defScope s_Desk_turn) [] [] (He.fAd K ("Desk", some "turn")) fd
  d_Desk_run : ∃ fd, FunD K "run" "Desk.run" (defArgs s_Desk_run) (defBody s_Desk_run) (defScope s_Desk_run) [] [] (He.fAd K ("Desk", some "run")) fd
  d_Desk_foretold : ∃ fd, FunD K "foretold" "Desk.foretold" (defArgs s_Desk_foretold) (defBody s_Desk_foretold) (defScope s_Desk_foretold) [] [] (He.fAd K ("Desk", some "foretold")) fd
  d_Desk_names : ∃ fd, FunD K "names" "Desk.names" (defArgs s_Desk_names) (defBody s_Desk_names) (defScope s_Desk_names) [] [] (He.fAd K ("Desk", some "names")) fd
  d_Desk_ready : ∃ fd, FunD K "ready" "Desk.ready" (defArgs s_Desk_ready) (defBody s_Desk_ready) (defScope s_Desk_ready) [] [] (He.fAd K ("Desk", some "ready")) fd
  d_Desk_state : ∃ fd, FunD K "state" "Desk.state" (defArgs s_Desk_state) (defBody s_Desk_state) (defScope s_Desk_state) [] [] (He.fAd K ("Desk", some "state")) fd
  d_Desk_rank : ∃ fd, FunD K "rank" "Desk.rank" (defArgs s_Desk_rank) (defBody s_Desk_rank) (defScope s_Desk_rank) [] [] (He.fAd K ("Desk", some "rank")) fd
  d_Desk_waited : ∃ fd, FunD K "waited" "Desk.waited" (defArgs s_Desk_waited) (defBody s_Desk_waited) (defScope s_Desk_waited) [] [] (He.fAd K ("Desk", some "waited")) fd
  d_Desk_left : ∃ fd, FunD K "left" "Desk.left" (defArgs s_Desk_left) (defBody s_Desk_left) (defScope s_Desk_left) [] [] (He.fAd K ("Desk", some "left")) fd
  d_Desk_bell : ∃ fd, FunD K "bell" "Desk.bell" (defArgs s_Desk_bell) (defBody s_Desk_bell) (defScope s_Desk_bell) [] [] (He.fAd K ("Desk", some "bell")) fd
  d_Desk_twin : ∃ fd, FunD K "twin" "Desk.twin" (defArgs s_Desk_twin) (defBody s_Desk_twin) (defScope s_Desk_twin) [] [] (He.fAd K ("Desk", some "twin")) fd
  d_Desk__known : ∃ fd, FunD K "_known" "Desk._known" (defArgs s_Desk__known) (defBody s_Desk__known) (defScope s_Desk__known) [] [] (He.fAd K ("Desk", some "_known")) fd
  d_Desk__waited : ∃ fd, FunD K "_waited" "Desk._waited" (defArgs s_Desk__waited) (defBody s_Desk__waited) (defScope s_Desk__waited) [] [] (He.fAd K ("Desk", some "_waited")) fd
  d_Desk__ready_callers : ∃ fd, FunD K "_ready_callers" "Desk._ready_callers" (defArgs s_Desk__ready_callers) (defBody s_Desk__ready_callers) (defScope s_Desk__ready_callers) [] [] (He.fAd K ("Desk", some "_ready_callers")) fd
  d_Desk__chosen : ∃ fd, FunD K "_chosen" "Desk._chosen" (defArgs s_Desk__chosen) (defBody s_Desk__chosen) (defScope s_Desk__chosen) [] [] (He.fAd K ("Desk", some "_chosen")) fd
  d_Desk__make_ready : ∃ fd, FunD K "_make_ready" "Desk._make_ready" (defArgs s_Desk__make_ready) (defBody s_Desk__make_ready) (defScope s_Desk__make_ready) [] [] (He.fAd K ("Desk", some "_make_ready")) fd
  d_Desk__go_last : ∃ fd, FunD K "_go_last" "Desk._go_last" (defArgs s_Desk__go_last) (defBody s_Desk__go_last) (defScope s_Desk__go_last) [] [] (He.fAd K ("Desk", some "_go_last")) fd
  d_shown : ∃ fd, FunD K "shown" "shown" (defArgs s_shown) (defBody s_shown) (defScope s_shown) [] [] (He.fAd K ("shown", none)) fd
  d_doing : ∃ fd, FunD K "doing" "doing" (defArgs s_doing) (defBody s_doing) (defScope s_doing) [] [] (He.fAd K ("doing", none)) fd
  d_read : ∃ fd, FunD K "read" "read" (defArgs s_read) (defBody s_read) (defScope s_read) [] [] (He.fAd K ("read", none)) fd
  d_begun : ∃ fd, FunD K "begun" "begun" (defArgs s_begun) (defBody s_begun) (defScope s_begun) [] [] (He.fAd K ("begun", none)) fd
  d_seat : ∃ fd, FunD K "seat" "seat" (defArgs s_seat) (defBody s_seat) (defScope s_seat) [] [] (He.fAd K ("seat", none)) fd
  d_seat_ready : ∃ fd, FunD K "seat_ready" "seat_ready" (defArgs s_seat_ready) (defBody s_seat_ready) (defScope s_seat_ready) [] [] (He.fAd K ("seat_ready", none)) fd
  d_words_of : ∃ fd, FunD K "words_of" "words_of" (defArgs s_words_of) (defBody s_words_of) (defScope s_words_of) [] [] (He.fAd K ("words_of", none)) fd
  d_number : ∃ fd, FunD K "number" "number" (defArgs s_number) (defBody s_number) (defScope s_number) [] [] (He.fAd K ("number", none)) fd
  d__law_whole : ∃ fd, FunD K "_law_whole" "_law_whole" (defArgs s__law_whole) (defBody s__law_whole) (defScope s__law_whole) [] [] (He.fAd K ("_law_whole", none)) fd
  d__law_cell_at : ∃ fd, FunD K "_law_cell_at" "_law_cell_at" (defArgs s__law_cell_at) (defBody s__law_cell_at) (defScope s__law_cell_at) [] [] (He.fAd K ("_law_cell_at", none)) fd
  d__law_mix : ∃ fd, FunD K "_law_mix" "_law_mix" (defArgs s__law_mix) (defBody s__law_mix) (defScope s__law_mix) [] [] (He.fAd K ("_law_mix", none)) fd
  d__law_name_by : ∃ fd, FunD K "_law_name_by" "_law_name_by" (defArgs s__law_name_by) (defBody s__law_name_by) (defScope s__law_name_by) [] [] (He.fAd K ("_law_name_by", none)) fd
  d__law_texts : ∃ fd, FunD K "_law_texts" "_law_texts" (defArgs s__law_texts) (defBody s__law_texts) (defScope s__law_texts) [] [] (He.fAd K ("_law_texts", none)) fd
  d__law_put : ∃ fd, FunD K "_law_put" "_law_put" (defArgs s__law_put) (defBody s__law_put) (defScope s__law_put) [] [] (He.fAd K ("_law_put", none)) fd
  d__law_after : ∃ fd, FunD K "_law_after" "_law_after" (defArgs s__law_after) (defBody s__law_after) (defScope s__law_after) [] [] (He.fAd K ("_law_after", none)) fd
  d__law_rank_by : ∃ fd, FunD K "_law_rank_by" "_law_rank_by" (defArgs s__law_rank_by) (defBody s__law_rank_by) (defScope s__law_rank_by) [] [] (He.fAd K ("_law_rank_by", none)) fd
  d__law_pace_by : ∃ fd, FunD K "_law_pace_by" "_law_pace_by" (defArgs s__law_pace_by) (defBody s__law_pace_by) (defScope s__law_pace_by) [] [] (He.fAd K ("_law_pace_by", none)) fd
  d__law_opened : ∃ fd, FunD K "_law_opened" "_law_opened" (defArgs s__law_opened) (defBody s__law_opened) (defScope s__law_opened) [] [] (He.fAd K ("_law_opened", none)) fd
  d__law_crowd : ∃ fd, FunD K "_law_crowd" "_law_crowd" (defArgs s__law_crowd) (defBody s__law_crowd) (defScope s__law_crowd) [] [] (He.fAd K ("_law_crowd", none)) fd
  d__law_bell_by : ∃ fd, FunD K "_law_bell_by" "_law_bell_by" (defArgs s__law_bell_by) (defBody s__law_bell_by) (defScope s__law_bell_by) [] [] (He.fAd K ("_law_bell_by", none)) fd
  d__law_rung : ∃ fd, FunD K "_law_rung" "_law_rung" (defArgs s__law_rung) (defBody s__law_rung) (defScope s__law_rung) [] [] (He.fAd K ("_law_rung", none)) fd
  d__law_slept : ∃ fd, FunD K "_law_slept" "_law_slept" (defArgs s__law_slept) (defBody s__law_slept) (defScope s__law_slept) [] [] (He.fAd K ("_law_slept", none)) fd
  d__law_woken : ∃ fd, FunD K "_law_woken" "_law_woken" (defArgs s__law_woken) (defBody s__law_woken) (defScope s__law_woken) [] [] (He.fAd K ("_law_woken", none)) fd
  d__law_done : ∃ fd, FunD K "_law_done" "_law_done" (defArgs s__law_done) (defBody s__law_done) (defScope s__law_done) [] [] (He.fAd K ("_law_done", none)) fd
  d__law_told : ∃ fd, FunD K "_law_told" "_law_told" (defArgs s__law_told) (defBody s__law_told) (defScope s__law_told) [] [] (He.fAd K ("_law_told", none)) fd
  d__law_few : ∃ fd, FunD K "_law_few" "_law_few" (defArgs s__law_few) (defBody s__law_few) (defScope s__law_few) [] [] (He.fAd K ("_law_few", none)) fd
  d__law_many : ∃ fd, FunD K "_law_many" "_law_many" (defArgs s__law_many) (defBody s__law_many) (defScope s__law_many) [] [] (He.fAd K ("_law_many", none)) fd
  d__law_room_by : ∃ fd, FunD K "_law_room_by" "_law_room_by" (defArgs s__law_room_by) (defBody s__law_room_by) (defScope s__law_room_by) [] [] (He.fAd K ("_law_room_by", none)) fd
  d__law_started : ∃ fd, FunD K "_law_started" "_law_started" (defArgs s__law_started) (defBody s__law_started) (defScope s__law_started) [] [] (He.fAd K ("_law_started", none)) fd
  d__law_chosen : ∃ fd, FunD K "_law_chosen" "_law_chosen" (defArgs s__law_chosen) (defBody s__law_chosen) (defScope s__law_chosen) [] [] (He.fAd K ("_law_chosen", none)) fd
  d__law_word : ∃ fd, FunD K "_law_word" "_law_word" (defArgs s__law_word) (defBody s__law_word) (defScope s__law_word) [] [] (He.fAd K ("_law_word", none)) fd
  d__law_refused : ∃ fd, FunD K "_law_refused" "_law_refused" (defArgs s__law_refused) (defBody s__law_refused) (defScope s__law_refused) [] [] (He.fAd K ("_law_refused", none)) fd
  d__law_good : ∃ fd, FunD K "_law_good" "_law_good" (defArgs s__law_good) (defBody s__law_good) (defScope s__law_good) [] [] (He.fAd K ("_law_good", none)) fd
  d__law_ahead : ∃ fd, FunD K "_law_ahead" "_law_ahead" (defArgs s__law_ahead) (defBody s__law_ahead) (defScope s__law_ahead) [] [] (He.fAd K ("_law_ahead", none)) fd
  d__law_turns : ∃ fd, FunD K "_law_turns" "_law_turns" (defArgs s__law_turns) (defBody s__law_turns) (defScope s__law_turns) [] [] (He.fAd K ("_law_turns", none)) fd
  d__law_order : ∃ fd, FunD K "_law_order" "_law_order" (defArgs s__law_order) (defBody s__law_order) (defScope s__law_order) [] [] (He.fAd K ("_law_order", none)) fd
  d__law_lists : ∃ fd, FunD K "_law_lists" "_law_lists" (defArgs s__law_lists) (defBody s__law_lists) (defScope s__law_lists) [] [] (He.fAd K ("_law_lists", none)) fd
  d__law_stands : ∃ fd, FunD K "_law_stands" "_law_stands" (defArgs s__law_stands) (defBody s__law_stands) (defScope s__law_stands) [] [] (He.fAd K ("_law_stands", none)) fd
  d_law : ∃ fd, FunD K "law" "law" (defArgs s_law) (defBody s_law) (defScope s_law) [] [] (He.fAd K ("law", none)) fd
  tb_is_name : GxR.TabB base mg (He.codeOf K ("is_name", none)) (He.tabOf K (He.codeOf K ("is_name", none)))
  tb_number : GxR.TabB base mg (He.codeOf K ("number", none)) (He.tabOf K (He.codeOf K ("number", none)))
  tb_Desk_ready : GxR.TabB base mg (He.codeOf K ("Desk", some "ready")) (He.tabOf K (He.codeOf K ("Desk", some "ready")))
  x9 : exOk K = true
  nr_is_name : He.tabOf K (He.codeOf K ("is_name", none)) ≠ He.tabOf K (He.codeOf K ("Desk", some "ready"))
  nr_number : He.tabOf K (He.codeOf K ("number", none)) ≠ He.tabOf K (He.codeOf K ("Desk", some "ready"))
def fa : List He.Fa := [.free "all", .free "len", .free "enumerate", .free "range", .free "list", .free "any", .free "int", .free "bool", .free "isinstance", .free "str", .free "min", .free "max", .free "ValueError", .free "sum", .free "sorted", .str "READY" "ready", .int "MOST_SIGNS" 12, .str "SIGNS" "abcdefghijklmnopqrstuvwxyz0123456789", .int "TOP" 99, .int "MOST_TURNS" 1000, .int "MOST_PACE" 1000, .int "MOST_ROOM" 60, .str "ASLEEP" "asleep", .str "WAITING" "waiting", .str "HEAD" "desk", .int "WORDS" 4, .str "FIGURES" "0123456789", .int "MOST_FIGURES" 12, .glo "Caller", .glo "DeskError", .glo "NoName", .glo "NoRank", .glo "NoSpan", .glo "NoDesk", .glo "Known", .glo "Unknown", .glo "Full", .glo "NotReady", .glo "IsReady", .glo "Desk", .exc "DeskError", .exc "NoName", .exc "NoRank", .exc "NoSpan", .exc "NoDesk", .exc "Known", .exc "Unknown", .exc "Full", .exc "NotReady", .exc "IsReady", .exm "NoName" "DeskError" true, .exm "NoRank" "DeskError" true, .exm "NoSpan" "DeskError" true, .exm "NoDesk" "DeskError" true, .exm "Known" "DeskError" true, .exm "Unknown" "DeskError" true, .exm "Full" "DeskError" true, .exm "NotReady" "DeskError" true, .exm "IsReady" "DeskError" true, .cls "Caller", .mkr "Caller", .noat "Caller" "bell", .noat "Caller" "due", .noat "Caller" "name", .noat "Caller" "rank", .noat "Caller" "since", .noat "Caller" "state", .cls "Desk", .mkr "Desk", .noat "Desk" "_line", .noat "Desk" "now", .noat "Desk" "pace", .noat "Desk" "room", .meth "Caller" "become", .meth "Caller" "alike", .glo "is_name", .glo "aged", .glo "first", .glo "check_name", .glo "check_rank", .glo "check_span", .glo "check_ready", .glo "check_not_ready", .meth "Desk" "enter", .meth "Desk" "leave", .meth "Desk" "sleep", .meth "Desk" "wait", .meth "Desk" "wake", .meth "Desk" "ring", .meth "Desk" "rerank", .meth "Desk" "turn", .meth "Desk" "run", .meth "Desk" "foretold", .meth "Desk" "names", .meth "Desk" "ready", .meth "Desk" "state", .meth "Desk" "rank", .meth "Desk" "waited", .meth "Desk" "left", .meth "Desk" "bell", .meth "Desk" "twin", .meth "Desk" "_known", .meth "Desk" "_waited", .meth "Desk" "_ready_callers", .meth "Desk" "_chosen", .meth "Desk" "_make_ready", .meth "Desk" "_go_last", .glo "shown", .glo "doing", .glo "read", .glo "begun", .glo "seat", .glo "seat_ready", .glo "words_of", .glo "number", .glo "_law_whole", .glo "_law_cell_at", .glo "_law_mix", .glo "_law_name_by", .glo "_law_texts", .glo "_law_put", .glo "_law_after", .glo "_law_rank_by", .glo "_law_pace_by", .glo "_law_opened", .glo "_law_crowd", .glo "_law_bell_by", .glo "_law_rung", .glo "_law_slept", .glo "_law_woken", .glo "_law_done", .glo "_law_told", .glo "_law_few", .glo "_law_many", .glo "_law_room_by", .glo "_law_started", .glo "_law_chosen", .glo "_law_word", .glo "_law_refused", .glo "_law_good", .glo "_law_ahead", .glo "_law_turns", .glo "_law_order", .glo "_law_lists", .glo "_law_stands", .glo "law"]
def fn : List He.DefD := [⟨("Caller", some "__init__"), "__init__", "Caller.__init__", defArgs s_Caller___init__, defBody s_Caller___init__, defScope s_Caller___init__, [], []⟩,
  ⟨("Caller", some "become"), "become", "Caller.become", defArgs s_Caller_become, defBody s_Caller_become, defScope s_Caller_become, [.non, .non, .non], []⟩,
  ⟨("Caller", some "alike"), "alike", "Caller.alike", defArgs s_Caller_alike, defBody s_Caller_alike, defScope s_Caller_alike, [], []⟩,
  ⟨("is_name", none), "is_name", "is_name", defArgs s_is_name, defBody s_is_name, defScope s_is_name, [], []⟩,
  ⟨("aged", none), "aged", "aged", defArgs s_aged, defBody s_aged, defScope s_aged, [], []⟩,
  ⟨("first", none), "first", "first", defArgs s_first, defBody s_first, defScope s_first, [], []⟩,
  ⟨("check_name", none), "check_name", "check_name", defArgs s_check_name, defBody s_check_name, defScope s_check_name, [], []⟩,
  ⟨("check_rank", none), "check_rank", "check_rank", defArgs s_check_rank, defBody s_check_rank, defScope s_check_rank, [], []⟩,
  ⟨("check_span", none), "check_span", "check_span", defArgs s_check_span, defBody s_check_span, defScope s_check_span, [], []⟩,
  ⟨("check_ready", none), "check_ready", "check_ready", defArgs s_check_ready, defBody s_check_ready, defScope s_check_ready, [], []⟩,
  ⟨("check_not_ready", none), "check_not_ready", "check_not_ready", defArgs s_check_not_ready, defBody s_check_not_ready, defScope s_check_not_ready, [], []⟩,
  ⟨("Desk", some "__init__"), "__init__", "Desk.__init__", defArgs s_Desk___init__, defBody s_Desk___init__, defScope s_Desk___init__, [], []⟩,
  ⟨("Desk", some "enter"), "enter", "Desk.enter", defArgs s_Desk_enter, defBody s_Desk_enter, defScope s_Desk_enter, [], []⟩,
  ⟨("Desk", some "leave"), "leave", "Desk.leave", defArgs s_Desk_leave, defBody s_Desk_leave, defScope s_Desk_leave, [], []⟩,
  ⟨("Desk", some "sleep"), "sleep", "Desk.sleep", defArgs s_Desk_sleep, defBody s_Desk_sleep, defScope s_Desk_sleep, [], []⟩,
  ⟨("Desk", some "wait"), "wait", "Desk.wait", defArgs s_Desk_wait, defBody s_Desk_wait, defScope s_Desk_wait, [], []⟩,
  ⟨("Desk", some "wake"), "wake", "Desk.wake", defArgs s_Desk_wake, defBody s_Desk_wake, defScope s_Desk_wake, [], []⟩,
  ⟨("Desk", some "ring"), "ring", "Desk.ring", defArgs s_Desk_ring, defBody s_Desk_ring, defScope s_Desk_ring, [], []⟩,
  ⟨("Desk", some "rerank"), "rerank", "Desk.rerank", defArgs s_Desk_rerank, defBody s_Desk_rerank, defScope s_Desk_rerank, [], []⟩,
  ⟨("Desk", some "turn"), "turn", "Desk.turn", defArgs s_Desk_turn, defBody s_Desk_turn, defScope s_Desk_turn, [], []⟩,
  ⟨("Desk", some "run"), "run", "Desk.run", defArgs s_Desk_run, defBody s_Desk_run, defScope s_Desk_run, [], []⟩,
  ⟨("Desk", some "foretold"), "foretold", "Desk.foretold", defArgs s_Desk_foretold, defBody s_Desk_foretold, defScope s_Desk_foretold, [], []⟩,
  ⟨("Desk", some "names"), "names", "Desk.names", defArgs s_Desk_names, defBody s_Desk_names, defScope s_Desk_names, [], []⟩,
  ⟨("Desk", some "ready"), "ready", "Desk.ready", defArgs s_Desk_ready, defBody s_Desk_ready, defScope s_Desk_ready, [], []⟩,
  ⟨("Desk", some "state"), "state", "Desk.state", defArgs s_Desk_state, defBody s_Desk_state, defScope s_Desk_state, [], []⟩,
  ⟨("Desk", some "rank"), "rank", "Desk.rank", defArgs s_Desk_rank, defBody s_Desk_rank, defScope s_Desk_rank, [], []⟩,
  ⟨("Desk", some "waited"), "waited", "Desk.waited", defArgs s_Desk_waited, defBody s_Desk_waited, defScope s_Desk_waited, [], []⟩,
  ⟨("Desk", some "left"), "left", "Desk.left", defArgs s_Desk_left, defBody s_Desk_left, defScope s_Desk_left, [], []⟩,
  ⟨("Desk", some "bell"), "bell", "Desk.bell", defArgs s_Desk_bell, defBody s_Desk_bell, defScope s_Desk_bell, [], []⟩,
  ⟨("Desk", some "twin"), "twin", "Desk.twin", defArgs s_Desk_twin, defBody s_Desk_twin, defScope s_Desk_twin, [], []⟩,
  ⟨("Desk", some "_known"), "_known", "Desk._known", defArgs s_Desk__known, defBody s_Desk__known, defScope s_Desk__known, [], []⟩,
  ⟨("Desk", some "_waited"), "_waited", "Desk._waited", defArgs s_Desk__waited, defBody s_Desk__waited, defScope s_Desk__waited, [], []⟩,
  ⟨("Desk", some "_ready_callers"), "_ready_callers", "Desk._ready_callers", defArgs s_Desk__ready_callers, defBody s_Desk__ready_callers, defScope s_Desk__ready_callers, [], []⟩,
  ⟨("Desk", some "_chosen"), "_chosen", "Desk._chosen", defArgs s_Desk__chosen, defBody s_Desk__chosen, defScope s_Desk__chosen, [], []⟩,
  ⟨("Desk", some "_make_ready"), "_make_ready", "Desk._make_ready", defArgs s_Desk__make_ready, defBody s_Desk__make_ready, defScope s_Desk__make_ready, [], []⟩,
  ⟨("Desk", some "_go_last"), "_go_last", "Desk._go_last", defArgs s_Desk__go_last, defBody s_Desk__go_last, defScope s_Desk__go_last, [], []⟩,
  ⟨("shown", none), "shown", "shown", defArgs s_shown, defBody s_shown, defScope s_shown, [], []⟩,
  ⟨("doing", none), "doing", "doing", defArgs s_doing, defBody s_doing, defScope s_doing, [], []⟩,
  ⟨("read", none), "read", "read", defArgs s_read, defBody s_read, defScope s_read, [], []⟩,
  ⟨("begun", none), "begun", "begun", defArgs s_begun, defBody s_begun, defScope s_begun, [], []⟩,
  ⟨("seat", none), "seat", "seat", defArgs s_seat, defBody s_seat, defScope s_seat, [], []⟩,
  ⟨("seat_ready", none), "seat_ready", "seat_ready", defArgs s_seat_ready, defBody s_seat_ready, defScope s_seat_ready, [], []⟩,
  ⟨("words_of", none), "words_of", "words_of", defArgs s_words_of, defBody s_words_of, defScope s_words_of, [], []⟩,
  ⟨("number", none), "number", "number", defArgs s_number, defBody s_number, defScope s_number, [], []⟩,
  ⟨("_law_whole", none), "_law_whole", "_law_whole", defArgs s__law_whole, defBody s__law_whole, defScope s__law_whole, [], []⟩,
  ⟨("_law_cell_at", none), "_law_cell_at", "_law_cell_at", defArgs s__law_cell_at, defBody s__law_cell_at, defScope s__law_cell_at, [], []⟩,
  ⟨("_law_mix", none), "_law_mix", "_law_mix", defArgs s__law_mix, defBody s__law_mix, defScope s__law_mix, [], []⟩,
  ⟨("_law_name_by", none), "_law_name_by", "_law_name_by", defArgs s__law_name_by, defBody s__law_name_by, defScope s__law_name_by, [], []⟩,
  ⟨("_law_texts", none), "_law_texts", "_law_texts", defArgs s__law_texts, defBody s__law_texts, defScope s__law_texts, [], []⟩,
  ⟨("_law_put", none), "_law_put", "_law_put", defArgs s__law_put, defBody s__law_put, defScope s__law_put, [], []⟩,
  ⟨("_law_after", none), "_law_after", "_law_after", defArgs s__law_after, defBody s__law_after, defScope s__law_after, [], []⟩,
  ⟨("_law_rank_by", none), "_law_rank_by", "_law_rank_by", defArgs s__law_rank_by, defBody s__law_rank_by, defScope s__law_rank_by, [], []⟩,
  ⟨("_law_pace_by", none), "_law_pace_by", "_law_pace_by", defArgs s__law_pace_by, defBody s__law_pace_by, defScope s__law_pace_by, [], []⟩,
  ⟨("_law_opened", none), "_law_opened", "_law_opened", defArgs s__law_opened, defBody s__law_opened, defScope s__law_opened, [], []⟩,
  ⟨("_law_crowd", none), "_law_crowd", "_law_crowd", defArgs s__law_crowd, defBody s__law_crowd, defScope s__law_crowd, [], []⟩,
  ⟨("_law_bell_by", none), "_law_bell_by", "_law_bell_by", defArgs s__law_bell_by, defBody s__law_bell_by, defScope s__law_bell_by, [], []⟩,
  ⟨("_law_rung", none), "_law_rung", "_law_rung", defArgs s__law_rung, defBody s__law_rung, defScope s__law_rung, [], []⟩,
  ⟨("_law_slept", none), "_law_slept", "_law_slept", defArgs s__law_slept, defBody s__law_slept, defScope s__law_slept, [], []⟩,
  ⟨("_law_woken", none), "_law_woken", "_law_woken", defArgs s__law_woken, defBody s__law_woken, defScope s__law_woken, [], []⟩,
  ⟨("_law_done", none), "_law_done", "_law_done", defArgs s__law_done, defBody s__law_done, defScope s__law_done, [], []⟩,
  ⟨("_law_told", none), "_law_told", "_law_told", defArgs s__law_told, defBody s__law_told, defScope s__law_told, [], []⟩,
  ⟨("_law_few", none), "_law_few", "_law_few", defArgs s__law_few, defBody s__law_few, defScope s__law_few, [], []⟩,
  ⟨("_law_many", none), "_law_many", "_law_many", defArgs s__law_many, defBody s__law_many, defScope s__law_many, [], []⟩,
  ⟨("_law_room_by", none), "_law_room_by", "_law_room_by", defArgs s__law_room_by, defBody s__law_room_by, defScope s__law_room_by, [], []⟩,
  ⟨("_law_started", none), "_law_started", "_law_started", defArgs s__law_started, defBody s__law_started, defScope s__law_started, [], []⟩,
  ⟨("_law_chosen", none), "_law_chosen", "_law_chosen", defArgs s__law_chosen, defBody s__law_chosen, defScope s__law_chosen, [], []⟩,
  ⟨("_law_word", none), "_law_word", "_law_word", defArgs s__law_word, defBody s__law_word, defScope s__law_word, [], []⟩,
  ⟨("_law_refused", none), "_law_refused", "_law_refused", defArgs s__law_refused, defBody s__law_refused, defScope s__law_refused, [], []⟩,
  ⟨("_law_good", none), "_law_good", "_law_good", defArgs s__law_good, defBody s__law_good, defScope s__law_good, [], []⟩,
  ⟨("_law_ahead", none), "_law_ahead", "_law_ahead", defArgs s__law_ahead, defBody s__law_ahead, defScope s__law_ahead, [], []⟩,
  ⟨("_law_turns", none), "_law_turns", "_law_turns", defArgs s__law_turns, defBody s__law_turns, defScope s__law_turns, [], []⟩,
  ⟨("_law_order", none), "_law_order", "_law_order", defArgs s__law_order, defBody s__law_order, defScope s__law_order, [], []⟩,
  ⟨("_law_lists", none), "_law_lists", "_law_lists", defArgs s__law_lists, defBody s__law_lists, defScope s__law_lists, [], []⟩,
  ⟨("_law_stands", none), "_law_stands", "_law_stands", defArgs s__law_stands, defBody s__law_stands, defScope s__law_stands, [], []⟩,
  ⟨("law", none), "law", "law", defArgs s_law, defBody s_law, defScope s_law, [], []⟩]
def tf : List He.Defn := [("is_name", none), ("number", none), ("Desk", some "ready")]
def ex (K : PySem.W.Frag) : Bool := (exOk K) && (decide (He.tabOf K (He.codeOf K ("is_name", none)) ≠ He.tabOf K (He.codeOf K ("Desk", some "ready")))) && (decide (He.tabOf K (He.codeOf K ("number", none)) ≠ He.tabOf K (He.codeOf K ("Desk", some "ready"))))
end Rr

set_option maxRecDepth 100000
set_option maxHeartbeats 0
namespace Rr
open PySem PySem.Spec PyProof.Rows L2
/-! ### the head: one run of the top, and what it leaves -/
abbrev RW : PySem.W.OpenRow := PySem.W.OpenLaw.row PySem.Challenge.rw_rrdesk_k12_whole_every_deed
abbrev hk : PySem.W.Hook := He.hookX 5 fa fn [] tf ex
def ob (s : PySem.W.SharedT) : He.AlX := He.obsX 5 fa fn [] tf ex (HandSHeadRun.getT s)
theorem ob_eq (s : PySem.W.SharedT) : ob s = hk.obs s.abs := He.obsX_eq (HandSHeadRun.getT_eq s)
theorem run (w : World) : HandSHeadRun.RunEq RW (PySem.W.view RW.prog [79]) hk ob 12000 ((["_wall", "READY", "ASLEEP", "WAITING", "Caller", "DeskError", "NoName", "NoRank", "NoSpan", "NoDesk", "Known", "Unknown", "Full", "NotReady", "IsReady", "SIGNS", "MOST_SIGNS", "is_name", "TOP", "aged", "first", "MOST_PACE", "MOST_ROOM", "MOST_TURNS", "check_name", "check_rank", "check_span", "check_ready", "check_not_ready", "Desk"] : List Str) ++ (["HEAD", "WORDS", "FIGURES", "MOST_FIGURES", "shown", "doing", "read", "begun", "seat", "seat_ready", "words_of", "number", "_law_whole", "_law_cell_at", "_law_mix", "_law_name_by", "_law_texts", "_law_put", "_law_after", "_law_rank_by", "_law_pace_by", "_law_opened", "_law_crowd", "_law_bell_by", "_law_rung", "_law_slept", "_law_woken", "_law_done", "_law_told", "_law_few"] : List Str) ++ (["_law_many", "_law_room_by", "_law_started", "_law_chosen", "_law_word", "_law_refused", "_law_good", "_law_ahead", "_law_turns", "_law_order", "_law_lists", "_law_stands"] : List Str)) w := by
  intro os
  kernel_rfl
end Rr

set_option maxRecDepth 100000
set_option maxHeartbeats 4000000
namespace Rr
open PySem PySem.Spec PyProof.Rows L2
open GxR (TabG Tabbed)
section
variable {P : Program} {w : World} {K : PySem.W.Frag} {mg : Str → Option Value} {base : Heap}
abbrev tabN (K : PySem.W.Frag) : Addr := He.tabOf K (He.codeOf K ("is_name", none))
abbrev xc (K : PySem.W.Frag) (x : Str) : Value := .ref (He.ga K x)
def sp_is_name (K : PySem.W.Frag) : Sp := fun vs H Q _ => ∃ x : Str, vs = [.str x] ∧ x.length ≤ sizeLine ∧ TabG H (tabN K) ∧ ∀ H', Keep K [] H H' → Q (.bl (isName x)) H'
theorem isName_of {x : Str} (h1 : 1 ≤ (x.length : Int)) (h2 : (x.length : Int) ≤ 12) : isName x = x.cps.toList.all isSign := by
  unfold isName
  rw [decide_eq_true (show 1 ≤ x.length ∧ x.length ≤ 12 by omega), Bool.true_and]
theorem isName_no {x : Str} (h : ¬ (1 ≤ (x.length : Int) ∧ (x.length : Int) ≤ 12)) : isName x = false := by
  unfold isName
  rw [decide_eq_false (show ¬ (1 ≤ x.length ∧ x.length ≤ 12) by omega), Bool.false_and]
theorem c_is_name (T : Tx K mg base) : Cal P w K mg base 1 "is_name" (sp_is_name K) := by
  obtain ⟨fd, F⟩ := T.d_is_name
  refine ⟨_, fd, ["text"], okF (k := 0) F sc_is_name (fun vs H Q E h => ?_) (fun A outer s H vs Q E hr h => ?_), T.r_is_name, F.kp, F.bindsN fun _ _ _ _ _ _ us hl => match us, hl with | [_], _ => rfl⟩
  · obtain ⟨x, rfl, _⟩ := h
    rfl
  · have nd := sc_is_name.nd
    obtain ⟨x, rfl, hx, hT, q⟩ := h
    refine ⟨_, (pss_cons (ps_if (pt_not (pt_rng pe_int (pe_callB call_len_str (by rfl) T.m_len boot_len (pa_cons (pv 0) pa_nil)) (pgI (by rfl) T.h_MOST_SIGNS)))
  (pss_one (ps_ret pe_bl))
  pss_nil)
  (pss_one (ps_ret (pe_all hr (by rfl) T.m_all T.tb_is_name rfl (gs_of (by decide +kernel)) (pv 0) (elt_in rfl rfl rfl T.h_SIGNS) (fun _ => rfl))))), ?_⟩
    refine ⟨1, _, 12, fun _ z => z, fun _ z => ⟨_, rfl, _, rfl, hx, z⟩, fun _ z => z, ?_⟩
    by_cases e : 1 ≤ (x.length : Int) ∧ (x.length : Int) ≤ 12
    · rw [decide_eq_true e]
      refine iteF ⟨_, rfl, x, rfl, hT, fun H2 t => ?_⟩
      have e2 := q H2 (Keep.tabbed t hT T.nr_is_name)
      rw [isName_of e.1 e.2] at e2
      exact e2
    · rw [decide_eq_false e]
      have e2 := q H (Keep.refl _ _)
      rw [isName_no e] at e2
      exact iteT e2
def sp_check_name (K : PySem.W.Frag) : Sp := fun vs H Q E => ∃ x : Str, vs = [.str x] ∧ Small x ∧ TabG H (tabN K) ∧ ∀ H', Keep K [] H H' → (isName x = false → E (xc K "NoName") none H') ∧ (isName x = true → Q .non H')
theorem c_check_name (T : Tx K mg base) : Cal P w K mg base 2 "check_name" (sp_check_name K) := by
  have c_is_name : Cal P w K mg base 1 "is_name" (sp_is_name K) := c_is_name T
  obtain ⟨fd, F⟩ := T.d_check_name
  refine ⟨_, fd, ["text"], okF (k := 1) F sc_check_name (fun vs H Q E h => ?_) (fun A outer s H vs Q E hr h => ?_), T.r_check_name, F.kp, F.bindsN fun _ _ _ _ _ _ us hl => match us, hl with | [_], _ => rfl⟩
  · obtain ⟨x, rfl, _⟩ := h
    rfl
  · have nd := sc_check_name.nd
    obtain ⟨x, rfl, hx, hT, q⟩ := h
    refine ⟨_, (pss_one (ps_if (pt_not (pt_val (pf c_is_name hr (by decide) (by rfl) p0 (pa_cons (pv 0) pa_nil))))
  (pss_one (L2N.ps_raise rfl (L2N.takes_of rfl rfl rfl rfl) (pmk1 PySem.F.excBase_ValueError T.e_NoName.1 T.r_NoName T.e_NoName.2.1 (raises_own T.e_NoName.2.2.1 T.e_NoName.2.2.2) rfl (pe_joined (.cons (pe_fmtR (pv 0)) (.cons pe_str .nil))))))
  pss_nil)), ?_⟩
    refine ⟨_, rfl, x, rfl, hx.line, hT, fun H2 k2 => ⟨_, rfl, ?_⟩⟩
    cases e : isName x with
    | true => exact iteF ((q H2 k2).2 e)
    | false =>
      have h1 := fitN (k := 1000002) 0 1000002 len0 hx.repr
      exact iteT ⟨_, rfl, .inl ⟨_, rfl, line_of hx.repr, _, rfl, line_of h1, _, rfl, fit 1000002 20 h1 (by decide), (q H2 k2).1 e⟩⟩
def sp_check_rank (K : PySem.W.Frag) : Sp := fun vs H Q E => ∃ r : Int, vs = [.int r] ∧ Mod r ∧ (¬ (0 ≤ r ∧ r ≤ 99) → E (xc K "NoRank") none H) ∧ (0 ≤ r ∧ r ≤ 99 → Q .non H)
theorem c_check_rank (T : Tx K mg base) : Cal P w K mg base 1 "check_rank" (sp_check_rank K) := by
  obtain ⟨fd, F⟩ := T.d_check_rank
  refine ⟨_, fd, ["rank"], okF (k := 0) F sc_check_rank (fun vs H Q E h => ?_) (fun A outer s H vs Q E hr h => ?_), T.r_check_rank, F.kp, F.bindsN fun _ _ _ _ _ _ us hl => match us, hl with | [_], _ => rfl⟩
  · obtain ⟨x, rfl, _⟩ := h
    rfl
  · have nd := sc_check_rank.nd
    obtain ⟨r, rfl, hr9, q1, q2⟩ := h
    refine ⟨_, (pss_one (ps_if (pt_not (pt_rng pe_int (pv 0) (pgI (by rfl) T.h_TOP)))
  (pss_one (L2N.ps_raise rfl (L2N.takes_of rfl rfl rfl rfl) (pmk1 PySem.F.excBase_ValueError T.e_NoRank.1 T.r_NoRank T.e_NoRank.2.1 (raises_own T.e_NoRank.2.2.1 T.e_NoRank.2.2.2) rfl (pe_joined (.cons pe_str (.cons (pe_fmt (pgI (by rfl) T.h_TOP)) (.cons pe_str (.cons (pe_fmt (pv 0)) .nil))))))))
  pss_nil)), ?_⟩
    refine ⟨0, r, 99, fun _ z => z, fun _ z => ⟨_, rfl, z⟩, fun _ z => z, ?_⟩
    by_cases e : 0 ≤ r ∧ r ≤ 99
    · rw [decide_eq_true e]
      exact iteF (q2 e)
    · rw [decide_eq_false e]
      refine iteT ⟨_, rfl, by decide, .inr ⟨99, rfl, by decide, _, rfl, fit 24 4 (by decide) (by decide), _, rfl, fit 28 10 (by decide) (by decide), _, rfl, .inr ⟨r, rfl, hr9.log, _, rfl, fit 40 1921 (by decide) hr9.len, q1 e⟩⟩⟩
/-! ### the makers -/
abbrev rawC (n : Str) (r : Int) (a b c d : V) : List (Str × V) := [("name", .str n), ("rank", .int r), ("state", a), ("since", b), ("due", c), ("bell", d)]
def sp_Caller (K : PySem.W.Frag) : Sp := fun vs H Q _ => ∃ (x dx : Addr) (n : Str) (r : Int) (s : V), vs = [.ref x, .str n, .int r, s] ∧ H x = some (.ins (He.ga K "Caller") dx []) ∧ Q .non (upd H x (.ins (He.ga K "Caller") dx (rawC n r (.str "ready") s .non .non)))
theorem c_Caller (T : Tx K mg base) : Mak P w K mg base 1 "Caller" (He.ga K "Caller") (sp_Caller K) := by
  obtain ⟨fd, F⟩ := T.d_Caller___init__
  refine ⟨_, fd, ["self", "name", "rank", "since"], T.mk_Caller, okF (k := 0) F sc_Caller___init__ (fun vs H Q E h => ?_) (fun A outer s H vs Q E hr h => ?_), T.r_Caller, F.bindsN fun _ _ _ _ _ _ us hl => match us, hl with | [_, _, _, _], _ => rfl⟩
  · obtain ⟨x, dx, n, r, s, rfl, _⟩ := h
    rfl
  · have nd := sc_Caller___init__.nd
    obtain ⟨x, dx, n, r, s, rfl, h0, q⟩ := h
    refine ⟨_, (pss_cons (ps_fld (pv 0) (pv 1) rfl)
  (pss_cons (ps_fld (pv 0) (pv 2) rfl)
  (pss_cons (ps_fld (pv 0) (pgS (by rfl) T.h_READY) rfl)
  (pss_cons (ps_fld (pv 0) (pv 3) rfl)
  (pss_cons (ps_fld (pv 0) pe_non rfl)
  (pss_one (ps_fld (pv 0) pe_non rfl))))))), ?_⟩
    have l0 : ([] : List (Str × V)).length ≤ 0 := Nat.le_refl 0
    refine ⟨_, rfl, _, rfl, x, _, dx, _, rfl, h0, T.cl_Caller, T.na_Caller_name, few l0, ?_⟩
    refine ⟨_, rfl, _, rfl, x, _, dx, _, rfl, upd_same, T.cl_Caller, T.na_Caller_rank, few (putF_le l0), ?_⟩
    refine ⟨_, rfl, x, _, dx, _, rfl, upd_same, T.cl_Caller, T.na_Caller_state, few (putF_le (putF_le l0)), ?_⟩
    refine ⟨_, rfl, _, rfl, x, _, dx, _, rfl, upd_same, T.cl_Caller, T.na_Caller_since, few (putF_le (putF_le (putF_le l0))), ?_⟩
    refine ⟨_, rfl, x, _, dx, _, rfl, upd_same, T.cl_Caller, T.na_Caller_due, few (putF_le (putF_le (putF_le (putF_le l0)))), ?_⟩
    refine ⟨_, rfl, x, _, dx, _, rfl, upd_same, T.cl_Caller, T.na_Caller_bell, few (putF_le (putF_le (putF_le (putF_le (putF_le l0))))), ?_⟩
    simp only [upd_upd]
    exact q
def sp_Desk (K : PySem.W.Frag) : Sp := fun vs H Q E => ∃ (d dx : Addr) (p r : Int), vs = [.ref d, .int p, .int r] ∧ Mod p ∧ Mod r ∧ H d = some (.ins (He.ga K "Desk") dx []) ∧ (¬ ((1 ≤ p ∧ p ≤ 1000) ∧ 1 ≤ r ∧ r ≤ 60) → E (xc K "NoDesk") none H) ∧
  (((1 ≤ p ∧ p ≤ 1000) ∧ 1 ≤ r ∧ r ≤ 60) → ∀ L H', H L = none → Keep K [d] H H' → DkAt K H' [d, L] d ⟨p, r, 0, []⟩ → Q .non H')
theorem c_Desk (T : Tx K mg base) : Mak P w K mg base 1 "Desk" (He.ga K "Desk") (sp_Desk K) := by
  obtain ⟨fd, F⟩ := T.d_Desk___init__
  refine ⟨_, fd, ["self", "pace", "room"], T.mk_Desk, okF (k := 0) F sc_Desk___init__ (fun vs H Q E h => ?_) (fun A outer s H vs Q E hr h => ?_), T.r_Desk, F.bindsN fun _ _ _ _ _ _ us hl => match us, hl with | [_, _, _], _ => rfl⟩
  · obtain ⟨d, dx, p, r, rfl, _⟩ := h
    rfl
  · have nd := sc_Desk___init__.nd
    obtain ⟨d, dx, p, r, rfl, hp9, hr9, h0, q1, q2⟩ := h
    refine ⟨_, (pss_cons (ps_if (pt_not (pt_rng pe_int (pv 1) (pgI (by rfl) T.h_MOST_PACE)))
  (pss_one (L2N.ps_raise rfl (L2N.takes_of rfl rfl rfl rfl) (pmk1 PySem.F.excBase_ValueError T.e_NoDesk.1 T.r_NoDesk T.e_NoDesk.2.1 (raises_own T.e_NoDesk.2.2.1 T.e_NoDesk.2.2.2) rfl (pe_joined (.cons pe_str (.cons (pe_fmt (pgI (by rfl) T.h_MOST_PACE)) (.cons pe_str (.cons (pe_fmt (pv 1)) .nil))))))))
  pss_nil)
  (pss_cons (ps_if (pt_not (pt_rng pe_int (pv 2) (pgI (by rfl) T.h_MOST_ROOM)))
  (pss_one (L2N.ps_raise rfl (L2N.takes_of rfl rfl rfl rfl) (pmk1 PySem.F.excBase_ValueError T.e_NoDesk.1 T.r_NoDesk T.e_NoDesk.2.1 (raises_own T.e_NoDesk.2.2.1 T.e_NoDesk.2.2.2) rfl (pe_joined (.cons pe_str (.cons (pe_fmt (pgI (by rfl) T.h_MOST_ROOM)) (.cons pe_str (.cons (pe_fmt (pv 2)) .nil))))))))
  pss_nil)
  (pss_cons (ps_fld (pv 0) (pv 1) rfl)
  (pss_cons (ps_fld (pv 0) (pv 2) rfl)
  (pss_cons (ps_fld (pv 0) pe_int rfl)
  (pss_one (ps_fld (pv 0) pe_dnewK rfl))))))), ?_⟩
    refine ⟨1, p, 1000, fun _ z => z, fun _ z => ⟨_, rfl, z⟩, fun _ z => z, ?_⟩
    by_cases e1 : 1 ≤ p ∧ p ≤ 1000
    case neg =>
      rw [decide_eq_false e1]
      refine iteT ⟨_, rfl, by decide, .inr ⟨1000, rfl, by decide, _, rfl, fit 24 4 (by decide) (by decide), _, rfl, fit 28 10 (by decide) (by decide), _, rfl, .inr ⟨p, rfl, hp9.log, _, rfl, fit 40 1921 (by decide) hp9.len, q1 fun z => e1 z.1⟩⟩⟩
    rw [decide_eq_true e1]
    refine iteF ⟨1, r, 60, fun _ z => z, fun _ z => ⟨_, rfl, z⟩, fun _ z => z, ?_⟩
    by_cases e2 : 1 ≤ r ∧ r ≤ 60
    case neg =>
      rw [decide_eq_false e2]
      refine iteT ⟨_, rfl, by decide, .inr ⟨60, rfl, by decide, _, rfl, fit 24 4 (by decide) (by decide), _, rfl, fit 28 10 (by decide) (by decide), _, rfl, .inr ⟨r, rfl, hr9.log, _, rfl, fit 40 1921 (by decide) hr9.len, q1 fun z => e2 z.2⟩⟩⟩
    rw [decide_eq_true e2]
    have l0 : ([] : List (Str × V)).length ≤ 0 := Nat.le_refl 0
    refine iteF ⟨_, rfl, _, rfl, d, _, dx, _, rfl, h0, T.cl_Desk, T.na_Desk_pace, few l0, ?_⟩
    refine ⟨_, rfl, _, rfl, d, _, dx, _, rfl, upd_same, T.cl_Desk, T.na_Desk_room, few (putF_le l0), ?_⟩
    refine ⟨_, rfl, d, _, dx, _, rfl, upd_same, T.cl_Desk, T.na_Desk_now, few (putF_le (putF_le l0)), ?_⟩
    simp only [upd_upd]
    intro L hL
    have hL0 : H L = none := (Keep.upd (K := K) (S := [d]) h0 (List.mem_singleton.mpr rfl) nt_ins).gone L hL
    have dL : d ≠ L := ne_of_none h0 hL0
    refine ⟨_, rfl, d, _, dx, _, rfl, (upd_ne dL).trans upd_same, T.cl_Desk, T.na_Desk__line, few (putF_le (putF_le (putF_le l0))), ?_⟩
    refine q2 ⟨e1, e2⟩ L _ hL0 (((Keep.upd h0 (List.mem_singleton.mpr rfl) nt_ins).trans (Keep.new hL)).trans (Keep.upd ((upd_ne dL).trans upd_same) (List.mem_singleton.mpr rfl) nt_ins)) ⟨L, [], rfl, ⟨dx, upd_same⟩, (upd_ne dL.symm).trans upd_same, fun p hp => (nomatch hp), rfl, List.nodup_nil, List.nodup_nil, Nat.zero_le _, fun c hc => (nomatch hc), ⟨e1, e2⟩⟩
/-- a new desk -/
theorem made_desk {H : Hp} {p r : Int} {Q : VK} {E : XK} {x dx : Addr} (ok : (1 ≤ p ∧ p ≤ 1000) ∧ 1 ≤ r ∧ r ≤ 60) (q : ∀ S H', Keep K [] H H' → DkAt K H' S x ⟨p, r, 0, []⟩ → (∀ b ∈ S, H b = none) → Q .non H') (nx : H x = none) (ndx : H dx = none) (ne : dx ≠ x) :
    sp_Desk K [.ref x, .int p, .int r] (upd (upd H dx (.own x)) x (.ins (He.ga K "Desk") dx [])) Q E := by
  have k1 : Keep K [] H (upd (upd H dx (.own x)) x (.ins (He.ga K "Desk") dx [])) := (Keep.new ndx).trans (Keep.new ((upd_ne ne.symm).trans nx))
  refine ⟨x, dx, p, r, rfl, ⟨by omega, by omega⟩, ⟨by omega, by omega⟩, upd_same, fun z => absurd ok z, fun _ L H' hL k hD => q [x, L] H' (k1.trans' k fun b hb => .inr (by rw [List.mem_singleton.mp hb]; exact nx)) hD fun b hb => ?_⟩
  rcases List.mem_cons.mp hb with z | z
  · rw [z]
    exact nx
  · rw [List.mem_singleton.mp z]
    exact k1.gone L hL
/-- who enters -/
def Dk.enter (D : Dk) (n : Str) (r : Int) : Dk := { D with line := D.line ++ [⟨n, r, .rdy D.now⟩] }
def sp_enter (K : PySem.W.Frag) : Sp := fun vs H Q E => ∃ (d : Addr) (S : List Addr) (D : Dk) (n : Str) (r : Int), vs = [.ref d, .str n, .int r] ∧ Small n ∧ Mod r ∧ TabG H (tabN K) ∧ DkAt K H S d D ∧ D.room ≤ 60 ∧ 0 ≤ D.room ∧ ∀ H',
  (Keep K [] H H' → isName n = false → E (xc K "NoName") none H') ∧ (Keep K [] H H' → isName n = true → ¬ (0 ≤ r ∧ r ≤ 99) → E (xc K "NoRank") none H') ∧
  (Keep K [] H H' → isName n = true → (0 ≤ r ∧ r ≤ 99) → n ∈ namesL D.line → E (xc K "Known") none H') ∧ (Keep K [] H H' → isName n = true → (0 ≤ r ∧ r ≤ 99) → n ∉ namesL D.line → D.room ≤ D.line.length → E (xc K "Full") none H') ∧
  (isName n = true → (0 ≤ r ∧ r ≤ 99) → n ∉ namesL D.line → ¬ D.room ≤ D.line.length → ∀ S', Keep K S H H' → Sub H S S' → DkAt K H' S' d (D.enter n r) → Q .non H')
theorem c_Desk_enter (T : Tx K mg base) : Met P w K mg base 3 (He.ga K "Desk") "enter" (sp_enter K) := by
  have c_check_name : Cal P w K mg base 2 "check_name" (sp_check_name K) := c_check_name T
  have c_check_rank : Cal P w K mg base 1 "check_rank" (sp_check_rank K) := c_check_rank T
  have c_Caller : Mak P w K mg base 1 "Caller" (He.ga K "Caller") (sp_Caller K) := c_Caller T
  obtain ⟨fd, F⟩ := T.d_Desk_enter
  refine ⟨_, fd, ["self", "name", "rank"], T.cl_Desk, T.me_Desk_enter, okF (k := 2) F sc_Desk_enter (fun vs H Q E h => ?_) (fun A outer s H vs Q E hr h => ?_), F.bindsN fun _ _ _ _ _ _ us hl => match us, hl with | [_, _, _], _ => rfl⟩
  · obtain ⟨d, S, D, n, r, rfl, _⟩ := h
    rfl
  · have nd := sc_Desk_enter.nd
    obtain ⟨d, S, D, n, r, rfl, hn9, hr9, hT, hD, hr60, hr0, q⟩ := h
    refine ⟨_, (pss_cons (ps_expr (pf c_check_name hr (by decide) (by rfl) (pU (L2N.takes_of rfl rfl rfl rfl)) (pa_cons (pv 1) pa_nil)))
  (pss_cons (ps_expr (pf c_check_rank hr (by decide) (by rfl) (pU (L2N.takes_of rfl rfl rfl rfl)) (pa_cons (pv 2) pa_nil)))
  (pss_cons (ps_if (pt_cmp (pc_din (hu_of hr) (pv 1) (pe_fld (pv 0) rfl)))
  (pss_one (L2N.ps_raise rfl (L2N.takes_of rfl rfl rfl rfl) (pmk1 PySem.F.excBase_ValueError T.e_Known.1 T.r_Known T.e_Known.2.1 (raises_own T.e_Known.2.2.1 T.e_Known.2.2.2) rfl (pe_joined (.cons pe_str (.cons (pe_fmt (pv 1)) (.cons pe_str .nil)))))))
  pss_nil)
  (pss_cons (ps_if (pt_cmpR op_ge (pe_callB call_lenD (by rfl) T.m_len boot_len (pa_cons (pe_fld (pv 0) rfl) pa_nil)) (pe_fld (pv 0) rfl) (nomark _))
  (pss_one (L2N.ps_raise rfl (L2N.takes_of rfl rfl rfl rfl) (pmk1 PySem.F.excBase_ValueError T.e_Full.1 T.r_Full T.e_Full.2.1 (raises_own T.e_Full.2.2.1 T.e_Full.2.2.2) rfl (pe_joined (.cons pe_str (.cons (pe_fmt (pe_fld (pv 0) rfl)) (.cons pe_str .nil)))))))
  pss_nil)
  (pss_one (ps_dput (hu_of hr) (pe_fld (pv 0) rfl) (pv 1) (pc c_Caller hr (by decide) (by rfl) passN (pa_cons (pv 1) (pa_cons (pv 2) (pa_cons (pe_fld (pv 0) rfl) pa_nil)))) rfl)))))), ?_⟩
    refine ⟨_, rfl, n, rfl, hn9, hT, fun H1 k1 => ⟨fun e => (q H1).1 k1 e, fun en => ?_⟩⟩
    refine ⟨_, rfl, r, rfl, hr9, fun e => (q H1).2.1 k1 en e, fun er => ?_⟩
    obtain ⟨L, ln, rfl, x0⟩ := hD
    have x := x0.keep k1 fun _ _ => List.not_mem_nil
    obtain ⟨dx, hd⟩ := id x.desk
    refine ⟨_, rfl, _, rfl, d, _, dx, _, _, rfl, hd, T.cl_Desk, T.na_Desk__line, rfl, L, _, rfl, DGet.k (k := Sum.inr n) x.line, _, rfl, ?_⟩
    by_cases em : n ∈ namesL D.line
    · obtain ⟨p, e1, _⟩ := find_some (ln := ln) (by rw [x.eq]; exact em)
      rw [kvs_find, e1]
      refine iteT ⟨_, rfl, by decide, _, rfl, .inl ⟨n, rfl, hn9.line, _, rfl, fit 30 100000 (by decide) hn9.1, _, rfl, fit 100030 30 (fitN 30 100000 (by decide) hn9.1) (by decide), (q H1).2.2.1 k1 en er em⟩⟩
    · rw [kvs_find, find_none (by rw [x.eq]; exact em)]
      refine iteF ⟨_, rfl, d, _, dx, _, _, rfl, hd, T.cl_Desk, T.na_Desk__line, rfl, L, _, rfl, x.line, _, rfl, d, _, dx, _, _, rfl, hd, T.cl_Desk, T.na_Desk_room, rfl, _, _, rfl, rfl, _, rfl, ?_⟩
      rw [kvs_len]
      have el : ln.length = D.line.length := by rw [← x.eq, List.length_map]
      rw [el]
      by_cases ef : D.room ≤ (D.line.length : Int)
      · rw [decide_eq_true ef]
        have mr : Mod D.room := ⟨by omega, by omega⟩
        refine iteT ⟨_, rfl, by decide, _, rfl, d, _, dx, _, _, rfl, hd, T.cl_Desk, T.na_Desk_room, rfl, .inr ⟨_, rfl, mr.log, _, rfl, fit 30 1921 (by decide) mr.len, _, rfl, fit 2000 30 (fitN 30 1921 (by decide) mr.len) (by decide), (q H1).2.2.2.1 k1 en er em ef⟩⟩
      · rw [decide_eq_false ef]
        refine iteF ⟨_, rfl, _, rfl, _, rfl, d, _, dx, _, _, rfl, hd, T.cl_Desk, T.na_Desk_now, rfl, fun a da na nda ne => ?_⟩
        have nda' : ∀ b o, H1 b = some o → b ≠ da ∧ b ≠ a := fun b o e => ⟨ne_of_none e nda, ne_of_none e na⟩
        refine ⟨a, da, n, r, .int D.now, rfl, upd_same, rfl, ?_⟩
        rw [upd_upd]
        obtain ⟨z1, z2⟩ := nda' _ _ hd
        obtain ⟨y1, y2⟩ := nda' _ _ x.line
        refine ⟨_, rfl, d, _, dx, _, _, rfl, (upd_ne z2).trans ((upd_ne z1).trans hd), T.cl_Desk, T.na_Desk__line, rfl, _, rfl, _, _, rfl, DPut.k (k := Sum.inr n) ((upd_ne y2).trans ((upd_ne y1).trans x.line)) ?_, ?_⟩
        · rw [kvs_len, el]
          exact small1000 (Nat.le_trans x.len (by decide))
        · refine (q _).2.2.2.2 en er em ef (d :: L :: (ln ++ [(a, (⟨n, r, .rdy D.now⟩ : Cr))]).map (·.1)) ?_ ?_ ⟨L, _, rfl, x.add (c := ⟨n, r, .rdy D.now⟩) na nda ne em (by omega) en⟩
          · exact (((k1.any.trans (Keep.new nda)).trans (Keep.new ((upd_ne ne.symm).trans na))).trans (Keep.upd ((upd_ne y2).trans ((upd_ne y1).trans x.line)) (by simp) nt_dK))
          · intro b hb
            rw [List.map_append] at hb
            rcases List.mem_cons.mp hb with z | z
            · exact .inl (by rw [z]; simp)
            · rcases List.mem_cons.mp z with z | z
              · exact .inl (by rw [z]; simp)
              · rcases List.mem_append.mp z with z | z
                · exact .inl (by simp [z])
                · have : b = a := by simpa using z
                  rw [this]
                  exact .inr (k1.gone _ na)
def sp_names (K : PySem.W.Frag) : Sp := fun vs H Q _ => ∃ (d : Addr) (S : List Addr) (D : Dk), vs = [.ref d] ∧ DkAt K H S d D ∧ ∀ p, H p = none → Q (.ref p) (upd H p (.lst ((namesL D.line).map V.str)))
theorem c_Desk_names (T : Tx K mg base) : Met P w K mg base 1 (He.ga K "Desk") "names" (sp_names K) := by
  obtain ⟨fd, F⟩ := T.d_Desk_names
  refine ⟨_, fd, ["self"], T.cl_Desk, T.me_Desk_names, okF (k := 0) F sc_Desk_names (fun vs H Q E h => ?_) (fun A outer s H vs Q E hr h => ?_), F.bindsN fun _ _ _ _ _ _ us hl => match us, hl with | [_], _ => rfl⟩
  · obtain ⟨d, S, D, rfl, _⟩ := h
    rfl
  · have nd := sc_Desk_names.nd
    obtain ⟨d, S, D, rfl, ⟨L, ln, rfl, x⟩, q⟩ := h
    obtain ⟨dx, hd⟩ := id x.desk
    refine ⟨_, (pss_one (ps_ret (pe_callTy (call_listD rfl) (by rfl) T.m_list (by decide +kernel) (pa_cons (pe_fld (pv 0) rfl) pa_nil)))), ?_⟩
    refine ⟨_, rfl, d, _, dx, _, _, rfl, hd, T.cl_Desk, T.na_Desk__line, rfl, L, _, rfl, .inl x.line, ?_⟩
    rw [kvs_keys, x.eq]
    exact q
end
end Rr

set_option maxRecDepth 100000
set_option maxHeartbeats 4000000
namespace Rr
open PySem PySem.Spec PyProof.Rows L2
open GxR (TabG Tabbed)
section
variable {P : Program} {w : World} {K : PySem.W.Frag} {mg : Str → Option Value} {base : Heap}
/-! ### callers -/
def sp_become (K : PySem.W.Frag) : Sp := fun vs H Q _ => ∃ (x dx : Addr) (n : Str) (r : Int) (v1 v2 v3 v4 : V) (st : Stt), vs = [.ref x, .str st.word, st.sinceV, st.dueV, st.bellV] ∧ H x = some (.ins (He.ga K "Caller") dx (rawC n r v1 v2 v3 v4)) ∧ Q .non (upd H x (.ins (He.ga K "Caller") dx (Cr.fs ⟨n, r, st⟩)))
theorem f_become (T : Tx K mg base) {fd : FuncData} (F : FunD K "become" "Caller.become" (defArgs s_Caller_become) (defBody s_Caller_become) (defScope s_Caller_become) [.non, .non, .non] [] (He.fAd K ("Caller", some "become")) fd) :
    FnOk P w K mg base (L2N.CX P w) 1 (He.fAd K ("Caller", some "become")) fd ["self", "state", "since", "due", "bell"] (sp_become K) := by
  refine okF (k := 0) F sc_Caller_become (fun vs H Q E h => ?_) (fun A outer s H vs Q E hr h => ?_)
  · obtain ⟨x, dx, n, r, v1, v2, v3, v4, st, rfl, _⟩ := h
    rfl
  · have nd := sc_Caller_become.nd
    obtain ⟨x, dx, n, r, v1, v2, v3, v4, st, rfl, h0, q⟩ := h
    refine ⟨_, (pss_cons (ps_fld (pv 0) (pv 1) rfl)
  (pss_cons (ps_fld (pv 0) (pv 2) rfl)
  (pss_cons (ps_fld (pv 0) (pv 3) rfl)
  (pss_one (ps_fld (pv 0) (pv 4) rfl))))), ?_⟩
    have l6 : (rawC n r v1 v2 v3 v4).length < 1000 := show 6 < 1000 by decide
    refine ⟨_, rfl, _, rfl, x, _, dx, _, rfl, h0, T.cl_Caller, T.na_Caller_state, l6, ?_⟩
    refine ⟨_, rfl, _, rfl, x, _, dx, _, rfl, upd_same, T.cl_Caller, T.na_Caller_since, (show 6 < 1000 by decide), ?_⟩
    refine ⟨_, rfl, _, rfl, x, _, dx, _, rfl, upd_same, T.cl_Caller, T.na_Caller_due, (show 6 < 1000 by decide), ?_⟩
    refine ⟨_, rfl, _, rfl, x, _, dx, _, rfl, upd_same, T.cl_Caller, T.na_Caller_bell, (show 6 < 1000 by decide), ?_⟩
    simp only [upd_upd]
    exact q
theorem c_Caller_become (T : Tx K mg base) : Met P w K mg base 1 (He.ga K "Caller") "become" (sp_become K) := by
  obtain ⟨fd, F⟩ := T.d_Caller_become
  obtain ⟨ds, rd, b⟩ := F.binds1 (ps := ["self", "state", "since", "due", "bell"]) 5 3 (by simp) rfl fun T kV doc pm an cdv ct us its hl hi => match us, its, hl, hi with | [_, _, _, _, _], [_, _, _], _, _ => ⟨_, rfl, rfl⟩
  cases rd
  exact ⟨_, fd, _, T.cl_Caller, T.me_Caller_become, f_become T F, b⟩
theorem c_Caller_become_since (T : Tx K mg base) : MetK P w K mg base 1 (He.ga K "Caller") "become" (sp_become K) 2 ["since"] (fun vs zs => vs ++ (zs ++ [.non, .non])) := by
  obtain ⟨fd, F⟩ := T.d_Caller_become
  obtain ⟨its, b⟩ := F.kbindsD (ps := ["self", "state", "since", "due", "bell"]) 2 ["since"] (fun us ds zs => us ++ (zs ++ ds.drop 1)) (by simp) (fun r1 r2 r3 => r1.append (r3.append (r2.drop 1)))
    fun T kV doc pm an cdv ct us its ws h1 h2 h3 => match us, its, ws, h1, h2, h3 with | [_, _], [_, _, _], [_], _, _, _ => ⟨_, rfl, rfl⟩
  exact ⟨_, fd, _, _, T.cl_Caller, T.me_Caller_become, f_become T F, b⟩
theorem c_Caller_become_due (T : Tx K mg base) : MetK P w K mg base 1 (He.ga K "Caller") "become" (sp_become K) 2 ["due"] (fun vs zs => vs ++ ([.non] ++ (zs ++ [.non]))) := by
  obtain ⟨fd, F⟩ := T.d_Caller_become
  obtain ⟨its, b⟩ := F.kbindsD (ps := ["self", "state", "since", "due", "bell"]) 2 ["due"] (fun us ds zs => us ++ (ds.take 1 ++ (zs ++ ds.drop 2))) (by simp) (fun r1 r2 r3 => r1.append ((r2.take 1).append (r3.append (r2.drop 2))))
    fun T kV doc pm an cdv ct us its ws h1 h2 h3 => match us, its, ws, h1, h2, h3 with | [_, _], [_, _, _], [_], _, _, _ => ⟨_, rfl, rfl⟩
  exact ⟨_, fd, _, _, T.cl_Caller, T.me_Caller_become, f_become T F, b⟩
theorem c_Caller_become_bell (T : Tx K mg base) : MetK P w K mg base 1 (He.ga K "Caller") "become" (sp_become K) 2 ["bell"] (fun vs zs => vs ++ ([.non, .non] ++ zs)) := by
  obtain ⟨fd, F⟩ := T.d_Caller_become
  obtain ⟨its, b⟩ := F.kbindsD (ps := ["self", "state", "since", "due", "bell"]) 2 ["bell"] (fun us ds zs => us ++ (ds.take 2 ++ zs)) (by simp) (fun r1 r2 r3 => r1.append ((r2.take 2).append r3))
    fun T kV doc pm an cdv ct us its ws h1 h2 h3 => match us, its, ws, h1, h2, h3 with | [_, _], [_, _, _], [_], _, _, _ => ⟨_, rfl, rfl⟩
  exact ⟨_, fd, _, _, T.cl_Caller, T.me_Caller_become, f_become T F, b⟩
/-! ### a desk's own -/
def sp_known (K : PySem.W.Frag) : Sp := fun vs H Q E => ∃ (d L : Addr) (ln : Ln) (D : Dk) (n : Str), vs = [.ref d, .str n] ∧ Small n ∧ DkIn K H d L ln D ∧ (n ∉ namesL D.line → E (xc K "Unknown") none H) ∧ ∀ p ∈ ln, p.2.name = n → Q (.ref p.1) H
theorem c_Desk__known (T : Tx K mg base) : Met P w K mg base 1 (He.ga K "Desk") "_known" (sp_known K) := by
  obtain ⟨fd, F⟩ := T.d_Desk__known
  refine ⟨_, fd, ["self", "name"], T.cl_Desk, T.me_Desk__known, okF (k := 0) F sc_Desk__known (fun vs H Q E h => ?_) (fun A outer s H vs Q E hr h => ?_), F.bindsN fun _ _ _ _ _ _ us hl => match us, hl with | [_, _], _ => rfl⟩
  · obtain ⟨d, L, ln, D, n, rfl, _⟩ := h
    rfl
  · have nd := sc_Desk__known.nd
    obtain ⟨d, L, ln, D, n, rfl, hn, x, q1, q2⟩ := h
    obtain ⟨dx, hd⟩ := id x.desk
    refine ⟨_, (pss_cons (ps_set (i := 2) nd rfl (Or.inl rfl) (pe_dget1 (hu_of hr) (pe_fld (pv 0) rfl) (pv 1) ⟨by rfl, by rfl, by rfl, by rfl⟩))
  (pss_cons (ps_if (pt_cmpR op_isN (pv 2) pe_non (nomark _))
  (pss_one (L2N.ps_raise rfl (L2N.takes_of rfl rfl rfl rfl) (pmk1 PySem.F.excBase_ValueError T.e_Unknown.1 T.r_Unknown T.e_Unknown.2.1 (raises_own T.e_Unknown.2.2.1 T.e_Unknown.2.2.2) rfl (pe_joined (.cons pe_str (.cons (pe_fmtR (pv 1)) .nil))))))
  pss_nil)
  (pss_one (ps_ret (pv 2))))), ?_⟩
    refine ⟨_, rfl, d, _, _, _, _, rfl, hd, T.cl_Desk, T.na_Desk__line, rfl, L, rfl, .inl ⟨_, .inl x.line⟩, _, rfl, _, DGet.k (k := Sum.inr n) x.line, ?_⟩
    rw [kvs_find]
    by_cases em : n ∈ namesL D.line
    · obtain ⟨p, e1, hp, e2⟩ := find_some (ln := ln) (by rw [x.eq]; exact em)
      rw [e1]
      exact ⟨_, rfl, rfl, _, rfl, iteF ⟨_, rfl, q2 p hp e2⟩⟩
    · rw [find_none (by rw [x.eq]; exact em)]
      have h1 := fitN (k := 1000100) 0 1000002 len0 hn.repr
      refine ⟨_, rfl, rfl, _, rfl, iteT ⟨_, rfl, by decide, _, rfl, .inl ⟨_, rfl, line_of hn.repr, _, rfl, fit 100 1000002 (by decide) hn.repr, q1 em⟩⟩⟩
def sp_waitedC (K : PySem.W.Frag) : Sp := fun vs H Q _ => ∃ (d L : Addr) (ln : Ln) (D : Dk) (p : Addr × Cr), vs = [.ref d, .ref p.1] ∧ DkIn K H d L ln D ∧ p ∈ ln ∧ p.2.st.isRdy = true ∧ Q (.int (D.now - p.2.st.since)) H
theorem c_Desk__waited (T : Tx K mg base) : Met P w K mg base 1 (He.ga K "Desk") "_waited" (sp_waitedC K) := by
  obtain ⟨fd, F⟩ := T.d_Desk__waited
  refine ⟨_, fd, ["self", "caller"], T.cl_Desk, T.me_Desk__waited, okF (k := 0) F sc_Desk__waited (fun vs H Q E h => ?_) (fun A outer s H vs Q E hr h => ?_), F.bindsN fun _ _ _ _ _ _ us hl => match us, hl with | [_, _], _ => rfl⟩
  · obtain ⟨d, L, ln, D, p, rfl, _⟩ := h
    rfl
  · have nd := sc_Desk__waited.nd
    obtain ⟨d, L, ln, D, ⟨a, n, r, st⟩, rfl, x, hp, hr1, q⟩ := h
    obtain ⟨dx, hd⟩ := id x.desk
    obtain ⟨dy, hc⟩ := id (x.crs _ hp)
    refine ⟨_, (pss_one (ps_ret (pe_op op_sub (pe_fld (pv 0) rfl) (pe_fld (pv 1) rfl)))), ?_⟩
    cases st with
    | rdy s =>
      exact ⟨_, rfl, d, _, _, _, _, rfl, hd, T.cl_Desk, T.na_Desk_now, rfl, _, rfl, a, _, _, _, _, rfl, hc, T.cl_Caller, T.na_Caller_since, rfl, _, _, rfl, rfl, q⟩
    | slp _ => cases hr1
    | wtg _ => cases hr1
end
end Rr

set_option maxRecDepth 100000
set_option maxHeartbeats 4000000
namespace Rr
open PySem PySem.Spec PyProof.Rows L2
open GxR (TabG Tabbed)
theorem word_rdy (st : Stt) : decide (V.str st.word = V.str "ready") = st.isRdy := by
  cases st
  · exact decide_eq_true rfl
  · exact decide_eq_false fun h => absurd (V.str.inj h) (show ¬ ("asleep" : Str) = "ready" by decide +kernel)
  · exact decide_eq_false fun h => absurd (V.str.inj h) (show ¬ ("waiting" : Str) = "ready" by decide +kernel)
theorem word_len : ∀ st : Stt, st.word.length ≤ 7
  | .rdy _ => show ("ready" : Str).length ≤ 7 by decide +kernel
  | .slp _ => show ("asleep" : Str).length ≤ 7 by decide +kernel
  | .wtg _ => show ("waiting" : Str).length ≤ 7 by decide +kernel
theorem setC_mem {c : Cr} {l : List Cr} (h : c.name ∈ namesL l) : c ∈ setC c l := by
  obtain ⟨x, hx, e⟩ := List.mem_map.mp h
  exact List.mem_map.mpr ⟨x, hx, if_pos e⟩
theorem setLn_mem {a : Addr} {c c' : Cr} {l : Ln} (h : (a, c) ∈ l) (e : c'.name = c.name) : (a, c') ∈ setLn c' l := List.mem_map.mpr ⟨(a, c), h, by rw [if_pos e.symm]⟩
theorem in_names {K : PySem.W.Frag} {H : Hp} {d L : Addr} {ln : Ln} {D : Dk} (x : DkIn K H d L ln D) {p : Addr × Cr} (h : p ∈ ln) : p.2 ∈ D.line ∧ p.2.name ∈ namesL D.line := by
  have : p.2 ∈ D.line := by rw [← x.eq]; exact List.mem_map_of_mem h
  exact ⟨this, List.mem_map_of_mem this⟩
section
variable {P : Program} {w : World} {K : PySem.W.Frag} {mg : Str → Option Value} {base : Heap}
def sp_check_span (K : PySem.W.Frag) : Sp := fun vs H Q E => ∃ m l : Int, vs = [.int m, .int l] ∧ Mod m ∧ Mod l ∧ (¬ (l ≤ m ∧ m ≤ 1000) → E (xc K "NoSpan") none H) ∧ (l ≤ m ∧ m ≤ 1000 → Q .non H)
theorem c_check_span (T : Tx K mg base) : Cal P w K mg base 1 "check_span" (sp_check_span K) := by
  obtain ⟨fd, F⟩ := T.d_check_span
  refine ⟨_, fd, ["many", "least"], okF (k := 0) F sc_check_span (fun vs H Q E h => ?_) (fun A outer s H vs Q E hr h => ?_), T.r_check_span, F.kp, F.bindsN fun _ _ _ _ _ _ us hl => match us, hl with | [_, _], _ => rfl⟩
  · obtain ⟨m, l, rfl, _⟩ := h
    rfl
  · have nd := sc_check_span.nd
    obtain ⟨m, l, rfl, hm, hl, q1, q2⟩ := h
    refine ⟨_, (pss_one (ps_if (pt_not (pt_rng (pv 1) (pv 0) (pgI (by rfl) T.h_MOST_TURNS)))
  (pss_one (L2N.ps_raise rfl (L2N.takes_of rfl rfl rfl rfl) (pmk1 PySem.F.excBase_ValueError T.e_NoSpan.1 T.r_NoSpan T.e_NoSpan.2.1 (raises_own T.e_NoSpan.2.2.1 T.e_NoSpan.2.2.2) rfl (pe_joined (.cons pe_str (.cons (pe_fmt (pv 1)) (.cons pe_str (.cons (pe_fmt (pgI (by rfl) T.h_MOST_TURNS)) (.cons pe_str (.cons (pe_fmt (pv 0)) .nil))))))))))
  pss_nil)), ?_⟩
    refine ⟨l, m, 1000, fun _ z => ⟨_, rfl, z⟩, fun _ z => ⟨_, rfl, z⟩, fun _ z => z, ?_⟩
    by_cases e : l ≤ m ∧ m ≤ 1000
    · rw [decide_eq_true e]
      exact iteF (q2 e)
    · rw [decide_eq_false e]
      refine iteT ⟨_, rfl, by decide, _, rfl, .inr ⟨l, rfl, hl.log, _, rfl, fit 24 1921 (by decide) hl.len, _, rfl, fit 2000 10 (fitN 24 1921 (by decide) hl.len) (by decide), .inr ⟨1000, rfl, by decide, _, rfl, fit 2100 10 (fitN 2000 10 (fitN 24 1921 (by decide) hl.len) (by decide)) (by decide), _, rfl, fit 2200 10 (fitN 2100 10 (fitN 2000 10 (fitN 24 1921 (by decide) hl.len) (by decide)) (by decide)) (by decide), _, rfl, .inr ⟨m, rfl, hm.log, _, rfl, fit 2300 1921 (fitN 2200 10 (fitN 2100 10 (fitN 2000 10 (fitN 24 1921 (by decide) hl.len) (by decide)) (by decide)) (by decide)) hm.len, q1 e⟩⟩⟩⟩
def sp_check_ready (K : PySem.W.Frag) : Sp := fun vs H Q E => ∃ (a : Addr) (c : Cr), vs = [.ref a] ∧ CrAt K H a c ∧ isName c.name = true ∧ (c.st.isRdy = false → E (xc K "NotReady") none H) ∧ (c.st.isRdy = true → Q .non H)
theorem c_check_ready (T : Tx K mg base) : Cal P w K mg base 1 "check_ready" (sp_check_ready K) := by
  obtain ⟨fd, F⟩ := T.d_check_ready
  refine ⟨_, fd, ["caller"], okF (k := 0) F sc_check_ready (fun vs H Q E h => ?_) (fun A outer s H vs Q E hr h => ?_), T.r_check_ready, F.kp, F.bindsN fun _ _ _ _ _ _ us hl => match us, hl with | [_], _ => rfl⟩
  · obtain ⟨a, c, rfl, _⟩ := h
    rfl
  · have nd := sc_check_ready.nd
    obtain ⟨a, c, rfl, ⟨dy, hc⟩, hn, q1, q2⟩ := h
    refine ⟨_, (pss_one (ps_if (pt_cmpR op_ne (pe_fld (pv 0) rfl) (pgS (by rfl) T.h_READY) (nomark _))
  (pss_one (L2N.ps_raise rfl (L2N.takes_of rfl rfl rfl rfl) (pmk1 PySem.F.excBase_ValueError T.e_NotReady.1 T.r_NotReady T.e_NotReady.2.1 (raises_own T.e_NotReady.2.2.1 T.e_NotReady.2.2.2) rfl (pe_joined (.cons (pe_fmt (pe_fld (pv 0) rfl)) (.cons pe_str (.cons (pe_fmt (pe_fld (pv 0) rfl)) .nil)))))))
  pss_nil)), ?_⟩
    refine ⟨_, rfl, a, _, _, _, _, rfl, hc, T.cl_Caller, T.na_Caller_state, rfl, rfl, _, rfl, ?_⟩
    rw [word_rdy]
    have n12 := (isName_len hn).2
    cases e : c.st.isRdy with
    | true => exact iteF (q2 e)
    | false => exact iteT ⟨_, rfl, a, _, _, _, _, rfl, hc, T.cl_Caller, T.na_Caller_name, rfl, .inl ⟨_, rfl, line_of n12, _, rfl, fit 0 12 len0 n12, _, rfl, fit 12 10 (fitN 0 12 len0 n12) (by decide), _, rfl, a, _, _, _, _, rfl, hc, T.cl_Caller, T.na_Caller_state, rfl, .inl ⟨_, rfl, line_of (word_len _), _, rfl, fit 22 7 (fitN 12 10 (fitN 0 12 len0 n12) (by decide)) (word_len _), q1 e⟩⟩⟩
def sp_check_not_ready (K : PySem.W.Frag) : Sp := fun vs H Q E => ∃ (a : Addr) (c : Cr), vs = [.ref a] ∧ CrAt K H a c ∧ isName c.name = true ∧ (c.st.isRdy = true → E (xc K "IsReady") none H) ∧ (c.st.isRdy = false → Q .non H)
theorem c_check_not_ready (T : Tx K mg base) : Cal P w K mg base 1 "check_not_ready" (sp_check_not_ready K) := by
  obtain ⟨fd, F⟩ := T.d_check_not_ready
  refine ⟨_, fd, ["caller"], okF (k := 0) F sc_check_not_ready (fun vs H Q E h => ?_) (fun A outer s H vs Q E hr h => ?_), T.r_check_not_ready, F.kp, F.bindsN fun _ _ _ _ _ _ us hl => match us, hl with | [_], _ => rfl⟩
  · obtain ⟨a, c, rfl, _⟩ := h
    rfl
  · have nd := sc_check_not_ready.nd
    obtain ⟨a, c, rfl, ⟨dy, hc⟩, hn, q1, q2⟩ := h
    refine ⟨_, (pss_one (ps_if (pt_cmpR op_eq (pe_fld (pv 0) rfl) (pgS (by rfl) T.h_READY) (nomark _))
  (pss_one (L2N.ps_raise rfl (L2N.takes_of rfl rfl rfl rfl) (pmk1 PySem.F.excBase_ValueError T.e_IsReady.1 T.r_IsReady T.e_IsReady.2.1 (raises_own T.e_IsReady.2.2.1 T.e_IsReady.2.2.2) rfl (pe_joined (.cons (pe_fmt (pe_fld (pv 0) rfl)) (.cons pe_str .nil))))))
  pss_nil)), ?_⟩
    refine ⟨_, rfl, a, _, _, _, _, rfl, hc, T.cl_Caller, T.na_Caller_state, rfl, rfl, _, rfl, ?_⟩
    rw [word_rdy]
    have n12 := (isName_len hn).2
    cases e : c.st.isRdy with
    | false => exact iteF (q2 e)
    | true => exact iteT ⟨_, rfl, a, _, _, _, _, rfl, hc, T.cl_Caller, T.na_Caller_name, rfl, .inl ⟨_, rfl, line_of n12, _, rfl, fit 0 12 len0 n12, _, rfl, fit 12 10 (fitN 0 12 len0 n12) (by decide), q1 e⟩⟩
/-! ### to the end of the line; ready -/
def sp_go_last (K : PySem.W.Frag) : Sp := fun vs H Q _ => ∃ (d L : Addr) (ln : Ln) (D : Dk) (a : Addr) (c : Cr), vs = [.ref d, .ref a] ∧ DkIn K H d L ln D ∧ (a, c) ∈ ln ∧
  ∀ H', Keep K [L] H H' → DkIn K H' d L (lastLn c.name ln) { D with line := lastC c.name D.line } → Q .non H'
theorem c_Desk__go_last (T : Tx K mg base) : Met P w K mg base 1 (He.ga K "Desk") "_go_last" (sp_go_last K) := by
  obtain ⟨fd, F⟩ := T.d_Desk__go_last
  refine ⟨_, fd, ["self", "caller"], T.cl_Desk, T.me_Desk__go_last, okF (k := 0) F sc_Desk__go_last (fun vs H Q E h => ?_) (fun A outer s H vs Q E hr h => ?_), F.bindsN fun _ _ _ _ _ _ us hl => match us, hl with | [_, _], _ => rfl⟩
  · obtain ⟨d, L, ln, D, a, c, rfl, _⟩ := h
    rfl
  · have nd := sc_Desk__go_last.nd
    obtain ⟨d, L, ln, D, a, c, rfl, x, hp, q⟩ := h
    obtain ⟨dx, hd⟩ := id x.desk
    obtain ⟨dy, hc⟩ := id (x.crs _ hp)
    have dL := x.dL (List.mem_map_of_mem (f := (·.1)) hp)
    refine ⟨_, (pss_cons (ps_ddel (pe_fld (pv 0) rfl) (pe_fld (pv 1) rfl))
  (pss_one (ps_dput (hu_of hr) (pe_fld (pv 0) rfl) (pe_fld (pv 1) rfl) (pv 1) rfl))), ?_⟩
    refine ⟨_, rfl, d, _, _, _, _, rfl, hd, T.cl_Desk, T.na_Desk__line, rfl, _, rfl, a, _, _, _, _, rfl, hc, T.cl_Caller, T.na_Caller_name, rfl, L, _, Sum.inr c.name, rfl, x.line, rfl, ?_, ?_⟩
    · rw [kvs_find]
      obtain ⟨p, e1, _⟩ := find_some (n := c.name) (ln := ln) (by rw [x.eq]; exact (in_names x hp).2)
      rw [e1]
      rfl
    · refine ⟨_, rfl, _, rfl, d, _, _, _, _, rfl, (upd_ne x.dne).trans hd, T.cl_Desk, T.na_Desk__line, rfl, _, rfl, a, _, _, _, _, rfl, (upd_ne dL.2).trans hc, T.cl_Caller, T.na_Caller_name, rfl, _, _, rfl, DPut.k (k := Sum.inr c.name) upd_same ?_, q _ ?_ (x.last hp)⟩
      · rw [kvs_drop, kvs_len]
        refine small1000 (Nat.le_trans (List.length_filter_le _ _) ?_)
        have : ln.length = D.line.length := by rw [← x.eq, List.length_map]
        have := x.len
        omega
      · exact (Keep.upd x.line (by simp) nt_dK).trans (Keep.upd upd_same (by simp) nt_dK)
/-- what becomes of the callers: they stay where they stand, with their names and ranks -/
def Same (ln ln' : Ln) : Prop := (ln'.map (·.1)).Perm (ln.map (·.1)) ∧ ∀ p ∈ ln, ∃ st, (p.1, p.2.as st) ∈ ln'
theorem Same.refl (ln : Ln) : Same ln ln := ⟨.refl _, fun p hp => ⟨p.2.st, hp⟩⟩
theorem Same.trans {l1 l2 l3 : Ln} (h : Same l1 l2) (k : Same l2 l3) : Same l1 l3 := by
  refine ⟨k.1.trans h.1, fun p hp => ?_⟩
  obtain ⟨s1, e1⟩ := h.2 p hp
  obtain ⟨s2, e2⟩ := k.2 _ e1
  exact ⟨s2, e2⟩
theorem Same.own {l l' : Ln} (h : Same l l') {d L b : Addr} : b ∈ d :: L :: l'.map (·.1) ↔ b ∈ d :: L :: l.map (·.1) := by
  simp only [List.mem_cons, h.1.mem_iff]
/-- one is changed and goes to the end -/
def moveLn (c : Cr) (ln : Ln) : Ln := lastLn c.name (setLn c ln)
theorem Same.move {K : PySem.W.Frag} {H : Hp} {d L : Addr} {ln : Ln} {D : Dk} (x : DkIn K H d L ln D) {a : Addr} {c : Cr} {st : Stt} (hp : (a, c) ∈ ln) : Same ln (moveLn (c.as st) ln) := by
  refine ⟨?_, fun p hp' => ?_⟩
  · have := (lastLn_perm (c.as st).name (setLn (c.as st) ln)).map (·.1)
    rw [setLn_fst] at this
    exact this
  · by_cases e : p.2.name = c.name
    · obtain rfl := x.one hp' hp e
      exact ⟨st, (lastLn_perm _ _).mem_iff.mpr (setLn_mem hp' rfl)⟩
    · exact ⟨p.2.st, (lastLn_perm _ _).mem_iff.mpr (List.mem_map.mpr ⟨p, hp', if_neg e⟩)⟩
/-- the same, behind both deeds -/
theorem Keep.moved {S : List Addr} {K : PySem.W.Frag} {H H' : Hp} {d L : Addr} {ln : Ln} {D : Dk} (x : DkIn K H d L ln D) {a : Addr} {c : Cr} {o : HO} (hp : (a, c) ∈ ln) (k : Keep K [L] (L2.upd H a o) H') (hS : ∀ b ∈ d :: L :: ln.map (·.1), b ∈ S) : Keep K S H H' := by
  obtain ⟨dy, hc⟩ := x.crs _ hp
  exact (Keep.upd hc (hS _ (List.mem_cons_of_mem _ (List.mem_cons_of_mem _ (List.mem_map_of_mem (f := (·.1)) hp)))) nt_ins).trans (k.mono fun b hb => hS _ (by rw [List.mem_singleton.mp hb]; simp))
def sp_make_ready (K : PySem.W.Frag) : Sp := fun vs H Q _ => ∃ (d L : Addr) (ln : Ln) (D : Dk) (b : Addr) (ps : List (Addr × Cr)), vs = [.ref d, .ref b] ∧ DkIn K H d L ln D ∧ H b = some (.lst (ps.map fun p => V.ref p.1)) ∧ (∀ p ∈ ps, ∃ st, (p.1, p.2.as st) ∈ ln) ∧
  ∀ H' ln', Keep K (d :: L :: ln.map (·.1)) H H' → Same ln ln' → DkIn K H' d L ln' (D.wakeAll (ps.map (·.2))) → Q .non H'
theorem wakeAll_snoc (D : Dk) (cs : List Cr) (c : Cr) : D.wakeAll (cs ++ [c]) = (D.wakeAll cs).move (c.as (.rdy (D.wakeAll cs).now)) := by
  unfold Dk.wakeAll
  rw [List.foldl_append]
  rfl
theorem wakeAll_now : ∀ (cs : List Cr) (D : Dk), (D.wakeAll cs).now = D.now
  | [], _ => rfl
  | c :: r, D => wakeAll_now r (D.move (c.as (.rdy D.now)))
theorem c_Desk__make_ready (T : Tx K mg base) : Met P w K mg base 2 (He.ga K "Desk") "_make_ready" (sp_make_ready K) := by
  have c_Caller_become_since : MetK P w K mg base 1 (He.ga K "Caller") "become" (sp_become K) 2 ["since"] (fun vs zs => vs ++ (zs ++ [.non, .non])) := c_Caller_become_since T
  have c_Desk__go_last : Met P w K mg base 1 (He.ga K "Desk") "_go_last" (sp_go_last K) := c_Desk__go_last T
  obtain ⟨fd, F⟩ := T.d_Desk__make_ready
  refine ⟨_, fd, ["self", "callers"], T.cl_Desk, T.me_Desk__make_ready, okF (k := 1) F sc_Desk__make_ready (fun vs H Q E h => ?_) (fun A outer s H vs Q E hr h => ?_), F.bindsN fun _ _ _ _ _ _ us hl => match us, hl with | [_, _], _ => rfl⟩
  · obtain ⟨d, L, ln, D, b, ps, rfl, _⟩ := h
    rfl
  · have nd := sc_Desk__make_ready.nd
    obtain ⟨d, L, ln, D, b, ps, rfl, x, hb, hps, q⟩ := h
    have bS : b ∉ d :: L :: ln.map (·.1) := (show DkAt K H (d :: L :: ln.map (·.1)) d D from ⟨L, ln, rfl, x⟩).lst hb
    refine ⟨_, (pss_one (ps_for (passes_of rfl) rfl (pi_list (pv 1)) (pg_name (i := 2) nd rfl (Or.inl rfl))
  (pss_cons (ps_expr (pmk c_Caller_become_since hr (by decide) passN (pv 2) (pa_cons (pgS (by rfl) T.h_READY) pa_nil) (pk_cons (pe_fld (pv 0) rfl) pk_nil)))
  (pss_one (ps_expr (pm c_Desk__go_last hr (by decide) p0 (pv 0) (pa_cons (pv 2) pa_nil))))))), ?_⟩
    refine ⟨_, rfl, b, rfl, ⟨_, .inl (.inl hb)⟩, ?_⟩
    refine for_it (walk_list (xs := ps.map fun p => V.ref p.1)) (fun i σ H' => ∃ v ln', σ = [some (.ref d), some (.ref b), v] ∧ Keep K (d :: L :: ln.map (·.1)) H H' ∧ Same ln ln' ∧ DkIn K H' d L ln' (D.wakeAll ((ps.take i).map (·.2)))) ⟨none, ln, rfl, Keep.refl _ _, Same.refl _, x⟩ ?_ ?_ ?_
    · rintro i σ H' _ ⟨v, ln', rfl, k, _⟩
      exact .inl (.inl (k.lst hb bS))
    · rintro i v σ H1 H2 hi ⟨v0, ln1, rfl, k1, s1, x1⟩ ⟨rfl, hv⟩
      have hi' : i < ps.length := by rw [List.length_map] at hi; exact hi
      obtain ⟨p, hpi⟩ : ∃ p, ps[i]? = some p := ⟨_, List.getElem?_eq_getElem hi'⟩
      rw [List.getElem?_map, hpi] at hv
      obtain rfl : V.ref p.1 = v := Option.some.inj hv
      obtain ⟨st0, hp0⟩ := hps p (List.mem_of_getElem? hpi)
      obtain ⟨st1, hp1⟩ := s1.2 _ hp0
      obtain ⟨dx, hd⟩ := id x1.desk
      obtain ⟨dy, hc⟩ := id (x1.crs _ hp1)
      have e1 : D.wakeAll ((ps.take (i + 1)).map (·.2)) = (D.wakeAll ((ps.take i).map (·.2))).move (p.2.as (.rdy D.now)) := by
        rw [List.take_add_one, hpi, List.map_append]
        show D.wakeAll (_ ++ [p.2]) = _
        rw [wakeAll_snoc, wakeAll_now]
      have en : (D.wakeAll ((ps.take i).map (·.2))).now = D.now := wakeAll_now _ _
      refine ⟨_, rfl, p.1, dy, _, rfl, hc, rfl, _, rfl, d, _, _, _, _, rfl, hd, T.cl_Desk, T.na_Desk_now, rfl, rfl, rfl, p.1, dy, _, _, _, _, _, _, .rdy D.now, ?_, hc, ?_⟩
      · rw [en]
        rfl
      have x2 := x1.set (c' := p.2.as (.rdy D.now)) (dx := dy) hp1 rfl
      obtain ⟨dx2, hd2⟩ := id x2.desk
      refine ⟨_, rfl, d, dx2, _, rfl, hd2, rfl, _, rfl, d, L, _, _, p.1, p.2.as (.rdy D.now), rfl, x2, setLn_mem hp1 rfl, fun H3 k3 x3 => ?_⟩
      refine ⟨_, _, rfl, k1.trans (Keep.moved x1 hp1 k3 fun b hb => s1.own.mp hb), s1.trans (Same.move x1 (st := .rdy D.now) hp1), ?_⟩
      rw [e1]
      exact x3
    · rintro σ H' ⟨v, ln', rfl, k, s, x'⟩
      rw [List.length_map, List.take_of_length_le (Nat.le_refl _)] at x'
      exact q _ _ k s x'
end
end Rr

set_option maxRecDepth 100000
set_option maxHeartbeats 4000000
namespace Rr
open PySem PySem.Spec PyProof.Rows L2
open GxR (TabG Tabbed)
section
variable {P : Program} {w : World} {K : PySem.W.Frag} {mg : Str → Option Value} {base : Heap}
/-- the walked dict's callers, those that a test takes -/
theorem take_filter {α : Type} {l : List α} {i : Nat} {c : α} (h : l[i]? = some c) (f : α → Bool) : (l.take (i + 1)).filter f = (l.take i).filter f ++ if f c then [c] else [] := by
  rw [List.take_add_one, h, List.filter_append]
  show _ ++ List.filter f [c] = _
  rw [List.filter_cons]
  rfl
theorem kvs_at {ln : Ln} {i : Nat} {k : Key} {v : V} (h : (kvsOf ln)[i]? = some (k, v)) : ∃ p, ln[i]? = some p ∧ p ∈ ln ∧ v = .ref p.1 := by
  unfold kvsOf at h
  rw [List.getElem?_map] at h
  cases e : ln[i]? with
  | none =>
    rw [e] at h
    cases h
  | some p =>
    rw [e] at h
    cases h
    exact ⟨p, rfl, List.mem_of_getElem? e, rfl⟩
theorem ln_len {K : PySem.W.Frag} {H : Hp} {d L : Addr} {ln : Ln} {D : Dk} (x : DkIn K H d L ln D) : ln.length = D.line.length := by rw [← x.eq, List.length_map]
def sp_ready_callers (K : PySem.W.Frag) : Sp := fun vs H Q _ => ∃ (d L : Addr) (ln : Ln) (D : Dk), vs = [.ref d] ∧ DkIn K H d L ln D ∧ ∀ b H', Keep K [] H H' → H b = none → H' b = some (.lst ((readyLn ln).map fun p => V.ref p.1)) → Q (.ref b) H'
theorem c_Desk__ready_callers (T : Tx K mg base) : Met P w K mg base 1 (He.ga K "Desk") "_ready_callers" (sp_ready_callers K) := by
  obtain ⟨fd, F⟩ := T.d_Desk__ready_callers
  refine ⟨_, fd, ["self"], T.cl_Desk, T.me_Desk__ready_callers, okF (k := 0) F sc_Desk__ready_callers (fun vs H Q E h => ?_) (fun A outer s H vs Q E hr h => ?_), F.bindsN fun _ _ _ _ _ _ us hl => match us, hl with | [_], _ => rfl⟩
  · obtain ⟨d, L, ln, D, rfl, _⟩ := h
    rfl
  · have nd := sc_Desk__ready_callers.nd
    obtain ⟨d, L, ln, D, rfl, x, q⟩ := h
    obtain ⟨dx, hd⟩ := id x.desk
    refine ⟨_, (pss_one (ps_ret (pe_lock (pe_lc (own := [("caller", 1)]) (g := gName 1) rfl nd (pi_values (pe_fldK (K := K) rfl (pv 0) rfl)) (blkOk_by (N := N_Desk__ready_callers) (sc := defScope s_Desk__ready_callers) (by decide +kernel)) (fun _ _ _ _ _ => (pg_name (i := 1) nd rfl (Or.inl rfl))) (fun _ _ _ _ _ => (pts_one (pt_cmpR op_eq (pe_fldK (K := K) rfl (pv 1) rfl) (pgS (by rfl) T.h_READY) (nomark _)))) (fun _ _ _ _ _ => (pv 1)))))), ?_⟩
    refine ⟨L, _, x.line, trivial, fun od => ?_⟩
    refine ⟨_, rfl, d, _, _, _, _, rfl, (upd_ne x.dne).trans hd, T.cl_Desk, T.na_Desk__line, rfl, L, od, _, rfl, upd_same, fun b nb => ?_⟩
    have bL : b ≠ L := fun z => by rw [z, upd_same] at nb; cases nb
    refine lc_it walk_values (Pv := fun i H' => Keep K [] (upd H L (.frz od (.dK (kvsOf ln)))) H' ∧ H' b = some (.lst (((ln.take i).filter fun p => p.2.st.isRdy).map fun p => V.ref p.1))) ⟨Keep.new nb, upd_same⟩ (fun i H' _ p => p.1.old _ _ upd_same List.not_mem_nil nt_frz) ?_ ?_
    · rintro i v H1 H2 hi ⟨k1, hb1⟩ ⟨rfl, k, hk⟩
      obtain ⟨p, hpi, hp, rfl⟩ := kvs_at hk
      obtain ⟨dy, hc⟩ := id (x.crs _ hp)
      have hc1 := k1.old p.1 _ ((upd_ne (x.lne (List.mem_map_of_mem (f := (·.1)) hp))).trans hc) List.not_mem_nil nt_ins
      refine ⟨rfl, ?_⟩
      refine ⟨_, rfl, p.1, _, _, _, _, rfl, hc1, T.cl_Caller, T.na_Caller_state, rfl, rfl, _, rfl, ?_⟩
      rw [word_rdy, take_filter hpi]
      cases e : p.2.st.isRdy with
      | false =>
        refine iteF ⟨k1, ?_⟩
        rw [if_neg (by simp), List.append_nil]
        exact hb1
      | true =>
        refine iteT ⟨_, rfl, _, hb1, ?_, k1.set (.inl nb) hb1 nt_lst, ?_⟩
        · rw [List.length_map]
          have h1 := List.length_filter_le (fun p : Addr × Cr => p.2.st.isRdy) (ln.take i)
          rw [List.length_take, ln_len x] at h1
          have h2 := x.len
          exact small1000 (by omega)
        · rw [upd_same, if_pos rfl, List.map_append]
          rfl
    · rintro H' ⟨k1, hb1⟩
      have hL := k1.old _ _ upd_same List.not_mem_nil nt_frz
      refine ⟨hL, q _ _ (Keep.back x.line nt_dK k1 nt_frz List.not_mem_nil) ((upd_ne bL).symm.trans nb) ?_⟩
      rw [upd_ne bL, hb1]
      unfold kvsOf
      rw [List.length_map, List.take_of_length_le (Nat.le_refl _)]
      rfl
def sp_aged : Sp := fun vs H Q _ => ∃ r t p : Int, vs = [.int r, .int t, .int p] ∧ 1 ≤ p ∧ p ≤ 1000 ∧ Q (.int (r + t / p)) H
theorem c_aged (T : Tx K mg base) : Cal P w K mg base 1 "aged" sp_aged := by
  obtain ⟨fd, F⟩ := T.d_aged
  refine ⟨_, fd, ["rank", "waited", "pace"], okF (k := 0) F sc_aged (fun vs H Q E h => ?_) (fun A outer s H vs Q E hr h => ?_), T.r_aged, F.kp, F.bindsN fun _ _ _ _ _ _ us hl => match us, hl with | [_, _, _], _ => rfl⟩
  · obtain ⟨r, t, p, rfl, _⟩ := h
    rfl
  · have nd := sc_aged.nd
    obtain ⟨r, t, p, rfl, hp, hp2, q⟩ := h
    refine ⟨_, (pss_cons (ps_if (pt_cmpR op_eq (pv 2) pe_int (nomark _))
  (pss_one (ps_ret (pv 0)))
  pss_nil)
  (pss_one (ps_ret (pe_op op_add (pv 0) (pe_op op_fdiv (pv 1) (pv 2)))))), ?_⟩
    refine ⟨_, rfl, rfl, _, rfl, ?_⟩
    rw [decide_eq_false (show ¬ V.int p = V.int 0 from fun z => by have h := V.int.inj z; rw [h] at hp; exact absurd hp (by decide))]
    exact iteF ⟨_, rfl, _, rfl, _, rfl, _, _, rfl, rfl, ⟨by omega, by omega⟩, _, _, rfl, rfl, q⟩
def placeV {α : Type} : Option (Nat × α) → V
  | none => .non
  | some y => .int y.1
def ageP (p : Int) (x : Int × Int) : Int := x.1 + x.2 / p
def sp_first (K : PySem.W.Frag) : Sp := fun vs H Q _ => ∃ (a : Addr) (ts : List Addr) (rows : List (Int × Int)) (p : Int), vs = [.ref a, .int p] ∧ SqL K H a (ts.map V.ref) ∧ ts.length = rows.length ∧ (∀ (i : Nat) (t : Addr) (x : Int × Int), ts[i]? = some t → rows[i]? = some x → H t = some (.tup [.int x.1, .int x.2])) ∧ 1 ≤ p ∧ p ≤ 1000 ∧
  ∀ H', Keep K [] H H' → Q (placeV (pickI (ageP p) rows)) H'
theorem c_first (T : Tx K mg base) : Cal P w K mg base 2 "first" (sp_first K) := by
  have c_aged : Cal P w K mg base 1 "aged" sp_aged := c_aged T
  obtain ⟨fd, F⟩ := T.d_first
  refine ⟨_, fd, ["rows", "pace"], okF (k := 1) F sc_first (fun vs H Q E h => ?_) (fun A outer s H vs Q E hr h => ?_), T.r_first, F.kp, F.bindsN fun _ _ _ _ _ _ us hl => match us, hl with | [_, _], _ => rfl⟩
  · obtain ⟨a, ts, rows, p, rfl, _⟩ := h
    rfl
  · have nd := sc_first.nd
    obtain ⟨a, ts, rows, p, rfl, hS, hl, hts, hp, hp2, q⟩ := h
    refine ⟨_, (pss_cons (ps_set (i := 2) nd rfl (Or.inl rfl) pe_non)
  (pss_cons (ps_set (i := 3) nd rfl (Or.inl rfl) pe_int)
  (pss_cons (ps_for (passes_of rfl) rfl (pi_enum (by rfl) T.m_enumerate (pa_cons (pv 0) pa_nil)) (pg_tup rfl (pgs_cons (pg_name (i := 4) nd rfl (Or.inl rfl)) (pgs_cons (pg_tup rfl (pgs_cons (pg_name (i := 5) nd rfl (Or.inl rfl)) (pgs_cons (pg_name (i := 6) nd rfl (Or.inl rfl)) pgs_nil))) pgs_nil)))
  (pss_cons (ps_set (i := 7) nd rfl (Or.inl rfl) (pf c_aged hr (by decide) (by rfl) p0 (pa_cons (pv 5) (pa_cons (pv 6) (pa_cons (pv 1) pa_nil)))))
  (pss_one (ps_if (PW.pt (pw_or (pt_cmpR op_isN (pv 2) pe_non (nomark _)) (pw_or1 (pt_cmpR op_gt (pv 7) (pv 3) (nomark _)))))
  (pss_cons (ps_set (i := 2) nd rfl (Or.inl rfl) (pv 4))
  (pss_one (ps_set (i := 3) nd rfl (Or.inl rfl) (pv 7))))
  pss_nil))))
  (pss_one (ps_ret (pv 2)))))), ?_⟩
    refine ⟨_, rfl, a, _, rfl, hS, ?_⟩
    refine for_it (walk_enum (K := K) (a := a) (xs := ts.map V.ref)) (fun i σ H' => Keep K [] H H' ∧ ∃ v4 v5 v6 v7 : Option V, ∃ pl : V, ∃ b : Int, σ = [some (.ref a), some (.int p), some pl, some (.int b), v4, v5, v6, v7] ∧
      match pickI (ageP p) (rows.take i) with
      | none => pl = .non ∧ b = 0
      | some y => pl = .int y.1 ∧ b = ageP p y.2) ⟨Keep.refl _ _, none, none, none, none, .non, 0, rfl, rfl, rfl⟩ ?_ ?_ ?_
    · rintro i σ H' _ ⟨k, _⟩
      exact k.seq hS fun _ _ => List.not_mem_nil
    · rintro i x σ H1 H2 hi ⟨k1, v4, v5, v6, v7, pl, b, rfl, hI⟩ ⟨T2, x1, x2, rfl, hT, rfl, hx1, hx2⟩
      have hir : i < rows.length := by rw [← hl]; rw [List.length_map] at hi; exact hi
      obtain ⟨⟨r, wt⟩, hrw⟩ : ∃ y, rows[i]? = some y := ⟨_, List.getElem?_eq_getElem hir⟩
      obtain ⟨t, ht⟩ : ∃ t, ts[i]? = some t := ⟨_, List.getElem?_eq_getElem (by omega)⟩
      obtain rfl : V.ref t = x2 := Option.some.inj (by rw [← hx2]; show _ = (ts.map V.ref)[i]?; rw [List.getElem?_map, ht]; rfl)
      obtain rfl : V.int i = x1 := Option.some.inj hx1
      have k2 : Keep K [] H (upd H1 T2 (.tup [.int i, .ref t])) := k1.trans (Keep.new hT)
      refine ⟨T2, _, rfl, .inl (.inl upd_same), rfl, _, _, rfl, _, _, rfl, ⟨t, _, rfl, .inl (.inl (k2.tup (hts i t _ ht hrw) List.not_mem_nil)), rfl, _, _, rfl, _, _, rfl, rfl, ?_⟩⟩
      refine ⟨rfl, ?_⟩
      refine ⟨_, rfl, _, rfl, _, rfl, r, wt, p, rfl, hp, hp2, ?_⟩
      have eT : rows.take (i + 1) = rows.take i ++ [(r, wt)] := by rw [List.take_add_one, hrw]; rfl
      have eL : (rows.take i).length = i := by rw [List.length_take]; omega
      refine ⟨_, rfl, rfl, _, rfl, ?_⟩
      cases ep : pickI (ageP p) (rows.take i) with
      | none =>
        rw [ep] at hI
        obtain ⟨rfl, rfl⟩ := hI
        refine iteT (iteT ⟨_, rfl, _, rfl, k2, _, _, _, _, .int i, _, rfl, ?_⟩)
        rw [eT, pickI_snoc, ep, eL]
        exact ⟨rfl, rfl⟩
      | some y =>
        rw [ep] at hI
        obtain ⟨rfl, rfl⟩ := hI
        refine iteF ⟨_, rfl, _, rfl, _, _, rfl, rfl, _, rfl, ite2 (fun c => ?_) (fun c => ?_)⟩
        · have hlt : ageP p y.2 < ageP p (r, wt) := of_decide_eq_true c
          refine ⟨_, rfl, _, rfl, k2, _, _, _, _, .int i, _, rfl, ?_⟩
          rw [eT, pickI_snoc, ep, eL]
          show match (if ageP p y.2 < ageP p (r, wt) then some (i, (r, wt)) else some y) with
            | none => _
            | some y => _
          rw [if_pos hlt]
          exact ⟨rfl, rfl⟩
        · have hge : ¬ ageP p y.2 < ageP p (r, wt) := fun z => c (decide_eq_true z)
          refine ⟨k2, _, _, _, _, .int y.1, _, rfl, ?_⟩
          rw [eT, pickI_snoc, ep, eL]
          show match (if ageP p y.2 < ageP p (r, wt) then some (i, (r, wt)) else some y) with
            | none => _
            | some y => _
          rw [if_neg hge]
          exact ⟨rfl, rfl⟩
    · rintro σ H' ⟨k, v4, v5, v6, v7, pl, b, rfl, hI⟩
      rw [List.length_map, List.take_of_length_le (by omega)] at hI
      have := q _ k
      cases ep : pickI (ageP p) rows with
      | none =>
        rw [ep] at hI this
        obtain ⟨rfl, rfl⟩ := hI
        exact ⟨_, rfl, this⟩
      | some y =>
        rw [ep] at hI this
        obtain ⟨rfl, rfl⟩ := hI
        exact ⟨_, rfl, this⟩
def sp_chosen (K : PySem.W.Frag) : Sp := fun vs H Q _ => ∃ (d L : Addr) (ln : Ln) (D : Dk), vs = [.ref d] ∧ DkIn K H d L ln D ∧ ∀ H', Keep K [] H H' → (D.pick = none → Q .non H') ∧ ∀ p ∈ ln, p.2.st.isRdy = true → D.pick = some p.2 → Q (.ref p.1) H'
theorem c_Desk__chosen (T : Tx K mg base) : Met P w K mg base 3 (He.ga K "Desk") "_chosen" (sp_chosen K) := by
  have c_first : Cal P w K mg base 2 "first" (sp_first K) := c_first T
  have c_Desk__ready_callers : Met P w K mg base 1 (He.ga K "Desk") "_ready_callers" (sp_ready_callers K) := c_Desk__ready_callers T
  have c_Desk__waited : Met P w K mg base 1 (He.ga K "Desk") "_waited" (sp_waitedC K) := c_Desk__waited T
  obtain ⟨fd, F⟩ := T.d_Desk__chosen
  refine ⟨_, fd, ["self"], T.cl_Desk, T.me_Desk__chosen, okF (k := 2) F sc_Desk__chosen (fun vs H Q E h => ?_) (fun A outer s H vs Q E hr h => ?_), F.bindsN fun _ _ _ _ _ _ us hl => match us, hl with | [_], _ => rfl⟩
  · obtain ⟨d, L, ln, D, rfl, _⟩ := h
    rfl
  · have nd := sc_Desk__chosen.nd
    obtain ⟨d, L, ln, D, rfl, x, q⟩ := h
    obtain ⟨dx, hd⟩ := id x.desk
    refine ⟨_, (pss_cons (ps_set (i := 1) nd rfl (Or.inl rfl) (pm0 c_Desk__ready_callers hr (by decide) p0 (pv 0)))
  (pss_cons (ps_set (i := 2) nd rfl (Or.inl rfl) (pf c_first hr (by decide) (by rfl) p0 (pa_cons (pe_lc (own := [("caller", 3)]) (g := gName 3) (tt := tYes) rfl nd (pi_listK (K := K) rfl (pv 1)) (blkOk_by (N := N_Desk__chosen) (sc := defScope s_Desk__chosen) (by decide +kernel)) (fun _ _ _ _ _ => (pg_name (i := 3) nd rfl (Or.inl rfl))) (fun _ _ _ _ _ => pts_nil) (fun _ _ _ _ _ => (pe_tup (pa_cons (pe_fldK (K := K) rfl (pv 3) rfl) (pa_cons (pm c_Desk__waited hr (by decide) p0 (pv 0) (pa_cons (pv 3) pa_nil)) pa_nil))))) (pa_cons (pe_fld (pv 0) rfl) pa_nil))))
  (pss_cons (ps_if (pt_cmpR op_isN (pv 2) pe_non (nomark _))
  (pss_one (ps_ret pe_non))
  pss_nil)
  (pss_one (ps_ret (pe_ix ix_list (pv 1) (pv 2) (fun _ _ => rfl))))))), ?_⟩
    refine ⟨_, rfl, d, _, _, rfl, hd, rfl, d, L, ln, D, rfl, x, fun b H1 k1 nb hb => ?_⟩
    have x1 := x.keep k1 fun _ _ => List.not_mem_nil
    have rl : (readyLn ln).length ≤ 60 := Nat.le_trans (List.length_filter_le _ _) (by rw [ln_len x]; exact x.len)
    refine ⟨_, rfl, b, rfl, ⟨_, .inl (.inl hb)⟩, fun b2 nb2 => ?_⟩
    refine lc_it (walk_list (K := K) (xs := (readyLn ln).map fun p => V.ref p.1)) (Pv := fun i H' => Keep K [] H1 H' ∧ ∃ ts : List Addr, ts.length = i ∧ H' b2 = some (.lst (ts.map V.ref)) ∧ ∀ (j : Nat) (t : Addr) (p : Addr × Cr), ts[j]? = some t → (readyLn ln)[j]? = some p → H' t = some (.tup [.int p.2.rank, .int (D.now - p.2.st.since)]))
      ⟨Keep.new nb2, [], rfl, upd_same, fun j t p h => (nomatch h)⟩ (fun i H' _ p => .inl (.inl (p.1.lst hb List.not_mem_nil))) ?_ ?_
    · rintro i v H2 H3 hi ⟨k2, ts, hl, hb2, hts⟩ ⟨rfl, hv⟩
      rw [List.getElem?_map] at hv
      cases ep : (readyLn ln)[i]? with
      | none =>
        rw [ep] at hv
        cases hv
      | some p =>
        rw [ep] at hv
        obtain rfl : V.ref p.1 = v := Option.some.inj hv
        obtain ⟨hp, hr1⟩ := List.mem_filter.mp (List.mem_of_getElem? ep)
        have x2 := x1.keep k2 fun _ _ => List.not_mem_nil
        obtain ⟨dx2, hd2⟩ := id x2.desk
        obtain ⟨dy, hc⟩ := id (x2.crs _ hp)
        refine ⟨rfl, ?_⟩
        refine ⟨_, rfl, p.1, _, _, _, _, rfl, hc, T.cl_Caller, T.na_Caller_rank, rfl, _, rfl, d, _, _, rfl, hd2, rfl, _, rfl, d, L, ln, D, p, rfl, x2, hp, hr1, (show 2 ≤ sizeLine by decide), fun t nt => ?_⟩
        have b2t : b2 ≠ t := fun z => by rw [← z, hb2] at nt; cases nt
        refine ⟨_, (upd_ne b2t).trans hb2, ?_, ?_, ts ++ [t], ?_, ?_, ?_⟩
        · rw [List.length_map, hl]
          have : i < (readyLn ln).length := (List.getElem?_eq_some_iff.mp ep).1
          exact small1000 (by omega)
        · exact (k2.trans (Keep.new nt)).set (.inl nb2) ((upd_ne b2t).trans hb2) nt_lst
        · rw [List.length_append, hl]
          rfl
        · rw [upd_same, List.map_append]
          rfl
        · intro j t' p' h1 h2
          rcases Nat.lt_or_ge j ts.length with hj | hj
          · rw [List.getElem?_append_left hj] at h1
            have e1 := hts j t' p' h1 h2
            have n1 : t' ≠ b2 := fun z => by rw [z, hb2] at e1; cases e1
            have n2 : t' ≠ t := fun z => by rw [z, nt] at e1; cases e1
            rw [upd_ne n1, upd_ne n2]
            exact e1
          · have hj2 : j = i := by
              have := (List.getElem?_eq_some_iff.mp h1).1
              rw [List.length_append] at this
              simp at this
              omega
            rw [hj2, ← hl, List.getElem?_append_right (Nat.le_refl _), Nat.sub_self] at h1
            obtain rfl : t = t' := Option.some.inj h1
            rw [hj2, ep] at h2
            obtain rfl : p = p' := Option.some.inj h2
            rw [upd_ne (fun z => b2t z.symm), upd_same]
    · rintro H2 ⟨k2, ts, hl, hb2, hts⟩
      rw [List.length_map] at hl
      have x2 := x1.keep k2 fun _ _ => List.not_mem_nil
      obtain ⟨dx2, hd2⟩ := id x2.desk
      refine ⟨_, rfl, d, _, _, _, _, rfl, hd2, T.cl_Desk, T.na_Desk_pace, rfl, b2, ts, (readyLn ln).map (fun p => (p.2.rank, D.now - p.2.st.since)), D.pace, rfl, .inl (.inl hb2), by rw [List.length_map, hl], fun j t y h1 h2 => ?_, x.pr.1.1, x.pr.1.2, fun H3 k3 => ?_⟩
      · rw [List.getElem?_map] at h2
        cases ep : (readyLn ln)[j]? with
        | none =>
          rw [ep] at h2
          cases h2
        | some p =>
          rw [ep] at h2
          cases h2
          exact hts j t p h1 ep
      · have eP : pickI (ageP D.pace) ((readyLn ln).map fun p => (p.2.rank, D.now - p.2.st.since)) = (pickI (fun p : Addr × Cr => agedC D.pace D.now p.2) (readyLn ln)).map fun y => (y.1, (y.2.2.rank, D.now - y.2.2.st.since)) := pickI_map _ _ _ _ rfl
        have eD : D.pick = (pickI (fun p : Addr × Cr => agedC D.pace D.now p.2) (readyLn ln)).map fun y => y.2.2 := by
          unfold Dk.pick Rr.pick
          rw [← x.eq, ← readyLn_snd, pickI_map (agedC D.pace D.now) (fun p : Addr × Cr => p.2) _ _ rfl, Option.map_map]
          rfl
        obtain ⟨q1, q2⟩ := q H3 ((k1.trans k2).trans k3)
        rw [eP]
        cases e : pickI (fun p : Addr × Cr => agedC D.pace D.now p.2) (readyLn ln) with
        | none =>
          rw [e] at eD
          exact ⟨_, rfl, rfl, _, rfl, iteT (q1 eD)⟩
        | some y =>
          rw [e] at eD
          have hy := pickI_at _ _ _ rfl (j := y.1) (x := y.2) e
          obtain ⟨hp, hr1⟩ := List.mem_filter.mp (List.mem_of_getElem? hy)
          refine ⟨_, rfl, rfl, _, rfl, iteF ⟨_, rfl, _, rfl, b, _, _, _, rfl, rfl, .inl (.inl ((k2.trans k3).lst hb List.not_mem_nil)), atI_nat (j := y.1) (by rw [List.getElem?_map, hy]; rfl), q2 y.2 hp hr1 eD⟩⟩
end
end Rr

set_option maxRecDepth 100000
set_option maxHeartbeats 4000000
namespace Rr
open PySem PySem.Spec PyProof.Rows L2
open GxR (TabG Tabbed)
/-! ### what a desk does and tells, by a caller's name -/
section
variable {P : Program} {w : World} {K : PySem.W.Frag} {mg : Str → Option Value} {base : Heap}
theorem of_line {H : Hp} {d L : Addr} {ln : Ln} {D : Dk} (x : DkIn K H d L ln D) {p : Addr × Cr} (hp : p ∈ ln) : p.2 ∈ D.line := (in_names x hp).1
theorem at_line {H : Hp} {d L : Addr} {ln : Ln} {D : Dk} (x : DkIn K H d L ln D) {p : Addr × Cr} (hp : p ∈ ln) : CrAt K H p.1 p.2 ∧ isName p.2.name = true := ⟨x.crs p hp, x.ok _ (of_line x hp)⟩
theorem sub_same {H : Hp} {d L : Addr} {ln ln' : Ln} (s : Same ln ln') : Sub H (d :: L :: ln.map (·.1)) (d :: L :: ln'.map (·.1)) := fun b hb => .inl (s.own.mp hb)
/-- what a desk's method by a caller's name wants of the name and the desk, and what it asks of an unknown one -/
def ByN (K : PySem.W.Frag) (H : Hp) (E : XK) (d : Addr) (S : List Addr) (D : Dk) (n : Str) (q : Cr → Prop) : Prop := Small n ∧ DkAt K H S d D ∧ (n ∉ namesL D.line → E (xc K "Unknown") none H) ∧ ∀ c ∈ D.line, c.name = n → q c
/-- the desk has become D' -/
def Now (K : PySem.W.Frag) (H : Hp) (S : List Addr) (d : Addr) (D' : Dk) (q : Hp → Prop) : Prop := ∀ H' S', Keep K S H H' → Sub H S S' → DkAt K H' S' d D' → q H'
def sp_state (K : PySem.W.Frag) : Sp := fun vs H Q E => ∃ (d : Addr) (S : List Addr) (D : Dk) (n : Str), vs = [.ref d, .str n] ∧ ByN K H E d S D n fun c => Q (.str c.st.word) H
theorem c_Desk_state (T : Tx K mg base) : Met P w K mg base 2 (He.ga K "Desk") "state" (sp_state K) := by
  have c_Desk__known : Met P w K mg base 1 (He.ga K "Desk") "_known" (sp_known K) := c_Desk__known T
  obtain ⟨fd, F⟩ := T.d_Desk_state
  refine ⟨_, fd, ["self", "name"], T.cl_Desk, T.me_Desk_state, okF (k := 1) F sc_Desk_state (fun vs H Q E h => ?_) (fun A outer s H vs Q E hr h => ?_), F.bindsN fun _ _ _ _ _ _ us hl => match us, hl with | [_, _], _ => rfl⟩
  · obtain ⟨d, S, D, n, rfl, _⟩ := h
    rfl
  · have nd := sc_Desk_state.nd
    obtain ⟨d, S, D, n, rfl, hn, ⟨L, ln, rfl, x⟩, q1, q2⟩ := h
    obtain ⟨dx, hd⟩ := id x.desk
    refine ⟨_, (pss_one (ps_ret (pe_fld (pm c_Desk__known hr (by decide) (pU (L2N.takes_of rfl rfl rfl rfl)) (pv 0) (pa_cons (pv 1) pa_nil)) rfl))), ?_⟩
    refine ⟨_, rfl, d, dx, _, rfl, hd, rfl, _, rfl, d, L, ln, D, n, rfl, hn, x, q1, fun p hp en => ?_⟩
    obtain ⟨dy, hc⟩ := id (x.crs _ hp)
    exact ⟨p.1, _, _, _, _, rfl, hc, T.cl_Caller, T.na_Caller_state, rfl, q2 p.2 (of_line x hp) en⟩
def sp_rank (K : PySem.W.Frag) : Sp := fun vs H Q E => ∃ (d : Addr) (S : List Addr) (D : Dk) (n : Str), vs = [.ref d, .str n] ∧ ByN K H E d S D n fun c => Q (.int c.rank) H
theorem c_Desk_rank (T : Tx K mg base) : Met P w K mg base 2 (He.ga K "Desk") "rank" (sp_rank K) := by
  have c_Desk__known : Met P w K mg base 1 (He.ga K "Desk") "_known" (sp_known K) := c_Desk__known T
  obtain ⟨fd, F⟩ := T.d_Desk_rank
  refine ⟨_, fd, ["self", "name"], T.cl_Desk, T.me_Desk_rank, okF (k := 1) F sc_Desk_rank (fun vs H Q E h => ?_) (fun A outer s H vs Q E hr h => ?_), F.bindsN fun _ _ _ _ _ _ us hl => match us, hl with | [_, _], _ => rfl⟩
  · obtain ⟨d, S, D, n, rfl, _⟩ := h
    rfl
  · have nd := sc_Desk_rank.nd
    obtain ⟨d, S, D, n, rfl, hn, ⟨L, ln, rfl, x⟩, q1, q2⟩ := h
    obtain ⟨dx, hd⟩ := id x.desk
    refine ⟨_, (pss_one (ps_ret (pe_fld (pm c_Desk__known hr (by decide) (pU (L2N.takes_of rfl rfl rfl rfl)) (pv 0) (pa_cons (pv 1) pa_nil)) rfl))), ?_⟩
    refine ⟨_, rfl, d, dx, _, rfl, hd, rfl, _, rfl, d, L, ln, D, n, rfl, hn, x, q1, fun p hp en => ?_⟩
    obtain ⟨dy, hc⟩ := id (x.crs _ hp)
    exact ⟨p.1, _, _, _, _, rfl, hc, T.cl_Caller, T.na_Caller_rank, rfl, q2 p.2 (of_line x hp) en⟩
def sp_bell (K : PySem.W.Frag) : Sp := fun vs H Q E => ∃ (d : Addr) (S : List Addr) (D : Dk) (n : Str), vs = [.ref d, .str n] ∧ ByN K H E d S D n fun c => Q c.st.bellV H
theorem c_Desk_bell (T : Tx K mg base) : Met P w K mg base 2 (He.ga K "Desk") "bell" (sp_bell K) := by
  have c_Desk__known : Met P w K mg base 1 (He.ga K "Desk") "_known" (sp_known K) := c_Desk__known T
  obtain ⟨fd, F⟩ := T.d_Desk_bell
  refine ⟨_, fd, ["self", "name"], T.cl_Desk, T.me_Desk_bell, okF (k := 1) F sc_Desk_bell (fun vs H Q E h => ?_) (fun A outer s H vs Q E hr h => ?_), F.bindsN fun _ _ _ _ _ _ us hl => match us, hl with | [_, _], _ => rfl⟩
  · obtain ⟨d, S, D, n, rfl, _⟩ := h
    rfl
  · have nd := sc_Desk_bell.nd
    obtain ⟨d, S, D, n, rfl, hn, ⟨L, ln, rfl, x⟩, q1, q2⟩ := h
    obtain ⟨dx, hd⟩ := id x.desk
    refine ⟨_, (pss_one (ps_ret (pe_fld (pm c_Desk__known hr (by decide) (pU (L2N.takes_of rfl rfl rfl rfl)) (pv 0) (pa_cons (pv 1) pa_nil)) rfl))), ?_⟩
    refine ⟨_, rfl, d, dx, _, rfl, hd, rfl, _, rfl, d, L, ln, D, n, rfl, hn, x, q1, fun p hp en => ?_⟩
    obtain ⟨dy, hc⟩ := id (x.crs _ hp)
    exact ⟨p.1, _, _, _, _, rfl, hc, T.cl_Caller, T.na_Caller_bell, rfl, q2 p.2 (of_line x hp) en⟩
def sp_waited (K : PySem.W.Frag) : Sp := fun vs H Q E => ∃ (d : Addr) (S : List Addr) (D : Dk) (n : Str), vs = [.ref d, .str n] ∧ ByN K H E d S D n fun c => (c.st.isRdy = false → E (xc K "NotReady") none H) ∧ (c.st.isRdy = true → Q (.int (D.now - c.st.since)) H)
theorem c_Desk_waited (T : Tx K mg base) : Met P w K mg base 2 (He.ga K "Desk") "waited" (sp_waited K) := by
  have c_Desk__known : Met P w K mg base 1 (He.ga K "Desk") "_known" (sp_known K) := c_Desk__known T
  have c_Desk__waited : Met P w K mg base 1 (He.ga K "Desk") "_waited" (sp_waitedC K) := c_Desk__waited T
  have c_check_ready : Cal P w K mg base 1 "check_ready" (sp_check_ready K) := c_check_ready T
  obtain ⟨fd, F⟩ := T.d_Desk_waited
  refine ⟨_, fd, ["self", "name"], T.cl_Desk, T.me_Desk_waited, okF (k := 1) F sc_Desk_waited (fun vs H Q E h => ?_) (fun A outer s H vs Q E hr h => ?_), F.bindsN fun _ _ _ _ _ _ us hl => match us, hl with | [_, _], _ => rfl⟩
  · obtain ⟨d, S, D, n, rfl, _⟩ := h
    rfl
  · have nd := sc_Desk_waited.nd
    obtain ⟨d, S, D, n, rfl, hn, ⟨L, ln, rfl, x⟩, q1, q2⟩ := h
    obtain ⟨dx, hd⟩ := id x.desk
    refine ⟨_, (pss_cons (ps_set (i := 2) nd rfl (Or.inl rfl) (pm c_Desk__known hr (by decide) (pU (L2N.takes_of rfl rfl rfl rfl)) (pv 0) (pa_cons (pv 1) pa_nil)))
  (pss_cons (ps_expr (pf c_check_ready hr (by decide) (by rfl) (pU (L2N.takes_of rfl rfl rfl rfl)) (pa_cons (pv 2) pa_nil)))
  (pss_one (ps_ret (pm c_Desk__waited hr (by decide) p0 (pv 0) (pa_cons (pv 2) pa_nil)))))), ?_⟩
    refine ⟨_, rfl, d, dx, _, rfl, hd, rfl, _, rfl, d, L, ln, D, n, rfl, hn, x, q1, fun p hp en => ?_⟩
    obtain ⟨r1, r2⟩ := q2 p.2 (of_line x hp) en
    refine ⟨_, rfl, p.1, p.2, rfl, (at_line x hp).1, (at_line x hp).2, r1, fun er => ?_⟩
    exact ⟨_, rfl, d, dx, _, rfl, hd, rfl, _, rfl, d, L, ln, D, p, rfl, x, hp, er, r2 er⟩
def Stt.leftV (s : Stt) (now : Int) : V := match s with
  | .slp u => .int (u - now)
  | _ => .non
def sp_left (K : PySem.W.Frag) : Sp := fun vs H Q E => ∃ (d : Addr) (S : List Addr) (D : Dk) (n : Str), vs = [.ref d, .str n] ∧ ByN K H E d S D n fun c => Q (c.st.leftV D.now) H
theorem c_Desk_left (T : Tx K mg base) : Met P w K mg base 2 (He.ga K "Desk") "left" (sp_left K) := by
  have c_Desk__known : Met P w K mg base 1 (He.ga K "Desk") "_known" (sp_known K) := c_Desk__known T
  obtain ⟨fd, F⟩ := T.d_Desk_left
  refine ⟨_, fd, ["self", "name"], T.cl_Desk, T.me_Desk_left, okF (k := 1) F sc_Desk_left (fun vs H Q E h => ?_) (fun A outer s H vs Q E hr h => ?_), F.bindsN fun _ _ _ _ _ _ us hl => match us, hl with | [_, _], _ => rfl⟩
  · obtain ⟨d, S, D, n, rfl, _⟩ := h
    rfl
  · have nd := sc_Desk_left.nd
    obtain ⟨d, S, D, n, rfl, hn, ⟨L, ln, rfl, x⟩, q1, q2⟩ := h
    obtain ⟨dx, hd⟩ := id x.desk
    refine ⟨_, (pss_cons (ps_set (i := 2) nd rfl (Or.inl rfl) (pm c_Desk__known hr (by decide) (pU (L2N.takes_of rfl rfl rfl rfl)) (pv 0) (pa_cons (pv 1) pa_nil)))
  (pss_cons (ps_if (pt_cmpR op_isN (pe_fld (pv 2) rfl) pe_non (nomark _))
  (pss_one (ps_ret pe_non))
  pss_nil)
  (pss_one (ps_ret (pe_op op_sub (pe_fld (pv 2) rfl) (pe_fld (pv 0) rfl)))))), ?_⟩
    refine ⟨_, rfl, d, dx, _, rfl, hd, rfl, _, rfl, d, L, ln, D, n, rfl, hn, x, q1, fun p hp en => ?_⟩
    have q3 := q2 p.2 (of_line x hp) en
    obtain ⟨a, m, r, st⟩ := p
    obtain ⟨dy, hc⟩ := id (x.crs _ hp)
    refine ⟨_, rfl, a, _, _, _, _, rfl, hc, T.cl_Caller, T.na_Caller_due, rfl, rfl, _, rfl, ?_⟩
    cases st with
    | slp u => exact iteF ⟨_, rfl, a, _, _, _, _, rfl, hc, T.cl_Caller, T.na_Caller_due, rfl, _, rfl, d, _, _, _, _, rfl, hd, T.cl_Desk, T.na_Desk_now, rfl, _, _, rfl, rfl, q3⟩
    | rdy _ => exact iteT q3
    | wtg _ => exact iteT q3
def sp_leave (K : PySem.W.Frag) : Sp := fun vs H Q E => ∃ (d : Addr) (S : List Addr) (D : Dk) (n : Str), vs = [.ref d, .str n] ∧ ByN K H E d S D n fun _ => Now K H S d (D.leave n) (Q .non)
theorem c_Desk_leave (T : Tx K mg base) : Met P w K mg base 2 (He.ga K "Desk") "leave" (sp_leave K) := by
  have c_Desk__known : Met P w K mg base 1 (He.ga K "Desk") "_known" (sp_known K) := c_Desk__known T
  obtain ⟨fd, F⟩ := T.d_Desk_leave
  refine ⟨_, fd, ["self", "name"], T.cl_Desk, T.me_Desk_leave, okF (k := 1) F sc_Desk_leave (fun vs H Q E h => ?_) (fun A outer s H vs Q E hr h => ?_), F.bindsN fun _ _ _ _ _ _ us hl => match us, hl with | [_, _], _ => rfl⟩
  · obtain ⟨d, S, D, n, rfl, _⟩ := h
    rfl
  · have nd := sc_Desk_leave.nd
    obtain ⟨d, S, D, n, rfl, hn, ⟨L, ln, rfl, x⟩, q1, q2⟩ := h
    obtain ⟨dx, hd⟩ := id x.desk
    refine ⟨_, (pss_cons (ps_set (i := 2) nd rfl (Or.inl rfl) (pm c_Desk__known hr (by decide) (pU (L2N.takes_of rfl rfl rfl rfl)) (pv 0) (pa_cons (pv 1) pa_nil)))
  (pss_one (ps_ddel (pe_fld (pv 0) rfl) (pe_fld (pv 2) rfl)))), ?_⟩
    refine ⟨_, rfl, d, dx, _, rfl, hd, rfl, _, rfl, d, L, ln, D, n, rfl, hn, x, q1, fun p hp en => ?_⟩
    obtain ⟨dy, hc⟩ := id (x.crs _ hp)
    refine ⟨_, rfl, d, _, _, _, _, rfl, hd, T.cl_Desk, T.na_Desk__line, rfl, _, rfl, p.1, _, _, _, _, rfl, hc, T.cl_Caller, T.na_Caller_name, rfl, L, _, Sum.inr p.2.name, rfl, x.line, rfl, ?_, ?_⟩
    · rw [kvs_find]
      obtain ⟨p', e1, _⟩ := find_some (n := p.2.name) (ln := ln) (by rw [x.eq]; exact (in_names x hp).2)
      rw [e1]
      rfl
    · rw [en]
      refine q2 p.2 (of_line x hp) en _ (d :: L :: (dropLn n ln).map (·.1)) (Keep.upd x.line (by simp) nt_dK) (fun b hb => .inl ?_) ⟨L, _, rfl, x.drop n⟩
      rcases List.mem_cons.mp hb with z | z
      · rw [z]
        simp
      · rcases List.mem_cons.mp z with z | z
        · rw [z]
          simp
        · obtain ⟨y, hy, e⟩ := List.mem_map.mp z
          exact List.mem_cons_of_mem _ (List.mem_cons_of_mem _ (List.mem_map.mpr ⟨y, (List.mem_filter.mp hy).1, e⟩))
/-- a caller has become so and has gone to the end -/
theorem moved {H H1 : Hp} {d L : Addr} {ln : Ln} {D : Dk} {a : Addr} {c : Cr} {st : Stt} {o : HO} (x : DkIn K H d L ln D) (hp : (a, c) ∈ ln) (k : Keep K [L] (L2.upd H a o) H1) (x1 : DkIn K H1 d L (moveLn (c.as st) ln) (D.move (c.as st))) {q : Hp → Prop}
    (h : Now K H (d :: L :: ln.map (·.1)) d (D.move (c.as st)) q) : q H1 :=
  h _ _ (Keep.moved x hp k fun _ z => z) (sub_same (Same.move x hp)) ⟨L, _, rfl, x1⟩
def sp_sleep (K : PySem.W.Frag) : Sp := fun vs H Q E => ∃ (d : Addr) (S : List Addr) (D : Dk) (n : Str) (m : Int), vs = [.ref d, .str n, .int m] ∧ Mod m ∧ ByN K H E d S D n fun c => (¬ (1 ≤ m ∧ m ≤ 1000) → E (xc K "NoSpan") none H) ∧ (1 ≤ m ∧ m ≤ 1000 →
  (c.st.isRdy = false → E (xc K "NotReady") none H) ∧ (c.st.isRdy = true → Now K H S d (D.move (c.as (.slp (D.now + m)))) (Q .non)))
theorem c_Desk_sleep (T : Tx K mg base) : Met P w K mg base 2 (He.ga K "Desk") "sleep" (sp_sleep K) := by
  have c_Desk__known : Met P w K mg base 1 (He.ga K "Desk") "_known" (sp_known K) := c_Desk__known T
  have c_check_span : Cal P w K mg base 1 "check_span" (sp_check_span K) := c_check_span T
  have c_check_ready : Cal P w K mg base 1 "check_ready" (sp_check_ready K) := c_check_ready T
  have c_Caller_become_due : MetK P w K mg base 1 (He.ga K "Caller") "become" (sp_become K) 2 ["due"] (fun vs zs => vs ++ ([.non] ++ (zs ++ [.non]))) := c_Caller_become_due T
  have c_Desk__go_last : Met P w K mg base 1 (He.ga K "Desk") "_go_last" (sp_go_last K) := c_Desk__go_last T
  obtain ⟨fd, F⟩ := T.d_Desk_sleep
  refine ⟨_, fd, ["self", "name", "many"], T.cl_Desk, T.me_Desk_sleep, okF (k := 1) F sc_Desk_sleep (fun vs H Q E h => ?_) (fun A outer s H vs Q E hr h => ?_), F.bindsN fun _ _ _ _ _ _ us hl => match us, hl with | [_, _, _], _ => rfl⟩
  · obtain ⟨d, S, D, n, m, rfl, _⟩ := h
    rfl
  · have nd := sc_Desk_sleep.nd
    obtain ⟨d, S, D, n, m, rfl, hm, hn, ⟨L, ln, rfl, x⟩, q1, q2⟩ := h
    obtain ⟨dx, hd⟩ := id x.desk
    refine ⟨_, (pss_cons (ps_set (i := 3) nd rfl (Or.inl rfl) (pm c_Desk__known hr (by decide) (pU (L2N.takes_of rfl rfl rfl rfl)) (pv 0) (pa_cons (pv 1) pa_nil)))
  (pss_cons (ps_expr (pf c_check_span hr (by decide) (by rfl) (pU (L2N.takes_of rfl rfl rfl rfl)) (pa_cons (pv 2) (pa_cons pe_int pa_nil))))
  (pss_cons (ps_expr (pf c_check_ready hr (by decide) (by rfl) (pU (L2N.takes_of rfl rfl rfl rfl)) (pa_cons (pv 3) pa_nil)))
  (pss_cons (ps_expr (pmk c_Caller_become_due hr (by decide) passN (pv 3) (pa_cons (pgS (by rfl) T.h_ASLEEP) pa_nil) (pk_cons (pe_op op_add (pe_fld (pv 0) rfl) (pv 2)) pk_nil)))
  (pss_one (ps_expr (pm c_Desk__go_last hr (by decide) p0 (pv 0) (pa_cons (pv 3) pa_nil)))))))), ?_⟩
    refine ⟨_, rfl, d, dx, _, rfl, hd, rfl, _, rfl, d, L, ln, D, n, rfl, hn, x, q1, fun p hp en => ?_⟩
    obtain ⟨r1, r2⟩ := q2 p.2 (of_line x hp) en
    refine ⟨_, rfl, m, 1, rfl, hm, ⟨by decide, by decide⟩, r1, fun e1 => ?_⟩
    obtain ⟨r3, r4⟩ := r2 e1
    refine ⟨_, rfl, p.1, p.2, rfl, (at_line x hp).1, (at_line x hp).2, r3, fun er => ?_⟩
    obtain ⟨dy, hc⟩ := id (x.crs _ hp)
    refine ⟨_, rfl, p.1, dy, _, rfl, hc, rfl, _, rfl, d, _, _, _, _, rfl, hd, T.cl_Desk, T.na_Desk_now, rfl, _, rfl, _, _, rfl, rfl, rfl, rfl, p.1, dy, _, _, _, _, _, _, .slp (D.now + m), rfl, hc, ?_⟩
    have x2 := x.set (c' := p.2.as (.slp (D.now + m))) (dx := dy) hp rfl
    obtain ⟨dx2, hd2⟩ := id x2.desk
    exact ⟨_, rfl, d, dx2, _, rfl, hd2, rfl, _, rfl, d, L, _, _, p.1, p.2.as (.slp (D.now + m)), rfl, x2, setLn_mem hp rfl, fun H3 k3 x3 => moved x hp k3 x3 (r4 er)⟩
def sp_wait (K : PySem.W.Frag) : Sp := fun vs H Q E => ∃ (d : Addr) (S : List Addr) (D : Dk) (n b : Str), vs = [.ref d, .str n, .str b] ∧ Small b ∧ TabG H (tabN K) ∧ ByN K H E d S D n fun c => (isName b = false → ∀ H', Keep K [] H H' → E (xc K "NoName") none H') ∧ (isName b = true →
  (c.st.isRdy = false → ∀ H', Keep K [] H H' → E (xc K "NotReady") none H') ∧ (c.st.isRdy = true → Now K H S d (D.move (c.as (.wtg b))) (Q .non)))
theorem c_Desk_wait (T : Tx K mg base) : Met P w K mg base 3 (He.ga K "Desk") "wait" (sp_wait K) := by
  have c_Desk__known : Met P w K mg base 1 (He.ga K "Desk") "_known" (sp_known K) := c_Desk__known T
  have c_check_name : Cal P w K mg base 2 "check_name" (sp_check_name K) := c_check_name T
  have c_check_ready : Cal P w K mg base 1 "check_ready" (sp_check_ready K) := c_check_ready T
  have c_Caller_become_bell : MetK P w K mg base 1 (He.ga K "Caller") "become" (sp_become K) 2 ["bell"] (fun vs zs => vs ++ ([.non, .non] ++ zs)) := c_Caller_become_bell T
  have c_Desk__go_last : Met P w K mg base 1 (He.ga K "Desk") "_go_last" (sp_go_last K) := c_Desk__go_last T
  obtain ⟨fd, F⟩ := T.d_Desk_wait
  refine ⟨_, fd, ["self", "name", "bell"], T.cl_Desk, T.me_Desk_wait, okF (k := 2) F sc_Desk_wait (fun vs H Q E h => ?_) (fun A outer s H vs Q E hr h => ?_), F.bindsN fun _ _ _ _ _ _ us hl => match us, hl with | [_, _, _], _ => rfl⟩
  · obtain ⟨d, S, D, n, b, rfl, _⟩ := h
    rfl
  · have nd := sc_Desk_wait.nd
    obtain ⟨d, S, D, n, b, rfl, hb, hT, hn, ⟨L, ln, rfl, x⟩, q1, q2⟩ := h
    obtain ⟨dx, hd⟩ := id x.desk
    refine ⟨_, (pss_cons (ps_set (i := 3) nd rfl (Or.inl rfl) (pm c_Desk__known hr (by decide) (pU (L2N.takes_of rfl rfl rfl rfl)) (pv 0) (pa_cons (pv 1) pa_nil)))
  (pss_cons (ps_expr (pf c_check_name hr (by decide) (by rfl) (pU (L2N.takes_of rfl rfl rfl rfl)) (pa_cons (pv 2) pa_nil)))
  (pss_cons (ps_expr (pf c_check_ready hr (by decide) (by rfl) (pU (L2N.takes_of rfl rfl rfl rfl)) (pa_cons (pv 3) pa_nil)))
  (pss_cons (ps_expr (pmk c_Caller_become_bell hr (by decide) passN (pv 3) (pa_cons (pgS (by rfl) T.h_WAITING) pa_nil) (pk_cons (pv 2) pk_nil)))
  (pss_one (ps_expr (pm c_Desk__go_last hr (by decide) p0 (pv 0) (pa_cons (pv 3) pa_nil)))))))), ?_⟩
    refine ⟨_, rfl, d, dx, _, rfl, hd, rfl, _, rfl, d, L, ln, D, n, rfl, hn, x, q1, fun p hp en => ?_⟩
    obtain ⟨r1, r2⟩ := q2 p.2 (of_line x hp) en
    refine ⟨_, rfl, b, rfl, hb, hT, fun H1 k1 => ⟨fun e => r1 e H1 k1, fun e1 => ?_⟩⟩
    obtain ⟨r3, r4⟩ := r2 e1
    have x1 := x.keep k1 fun _ _ => List.not_mem_nil
    refine ⟨_, rfl, p.1, p.2, rfl, (at_line x1 hp).1, (at_line x1 hp).2, fun e => r3 e H1 k1, fun er => ?_⟩
    obtain ⟨dy, hc⟩ := id (x1.crs _ hp)
    refine ⟨_, rfl, p.1, dy, _, rfl, hc, rfl, _, rfl, rfl, rfl, p.1, dy, _, _, _, _, _, _, .wtg b, rfl, hc, ?_⟩
    have x2 := x1.set (c' := p.2.as (.wtg b)) (dx := dy) hp rfl
    obtain ⟨dx2, hd2⟩ := id x2.desk
    exact ⟨_, rfl, d, dx2, _, rfl, hd2, rfl, _, rfl, d, L, _, _, p.1, p.2.as (.wtg b), rfl, x2, setLn_mem hp rfl, fun H3 k3 x3 => moved x1 hp k3 x3 fun H' S' k s y => r4 er H' S' (k1.any.trans k) (fun z hz => (s z hz).imp_right (k1.gone z)) y⟩
def sp_wake (K : PySem.W.Frag) : Sp := fun vs H Q E => ∃ (d : Addr) (S : List Addr) (D : Dk) (n : Str), vs = [.ref d, .str n] ∧ ByN K H E d S D n fun c => (c.st.isRdy = true → E (xc K "IsReady") none H) ∧ (c.st.isRdy = false → Now K H S d (D.move (c.as (.rdy D.now))) (Q .non))
theorem c_Desk_wake (T : Tx K mg base) : Met P w K mg base 3 (He.ga K "Desk") "wake" (sp_wake K) := by
  have c_Desk__known : Met P w K mg base 1 (He.ga K "Desk") "_known" (sp_known K) := c_Desk__known T
  have c_check_not_ready : Cal P w K mg base 1 "check_not_ready" (sp_check_not_ready K) := c_check_not_ready T
  have c_Desk__make_ready : Met P w K mg base 2 (He.ga K "Desk") "_make_ready" (sp_make_ready K) := c_Desk__make_ready T
  obtain ⟨fd, F⟩ := T.d_Desk_wake
  refine ⟨_, fd, ["self", "name"], T.cl_Desk, T.me_Desk_wake, okF (k := 2) F sc_Desk_wake (fun vs H Q E h => ?_) (fun A outer s H vs Q E hr h => ?_), F.bindsN fun _ _ _ _ _ _ us hl => match us, hl with | [_, _], _ => rfl⟩
  · obtain ⟨d, S, D, n, rfl, _⟩ := h
    rfl
  · have nd := sc_Desk_wake.nd
    obtain ⟨d, S, D, n, rfl, hn, ⟨L, ln, rfl, x⟩, q1, q2⟩ := h
    obtain ⟨dx, hd⟩ := id x.desk
    refine ⟨_, (pss_cons (ps_set (i := 2) nd rfl (Or.inl rfl) (pm c_Desk__known hr (by decide) (pU (L2N.takes_of rfl rfl rfl rfl)) (pv 0) (pa_cons (pv 1) pa_nil)))
  (pss_cons (ps_expr (pf c_check_not_ready hr (by decide) (by rfl) (pU (L2N.takes_of rfl rfl rfl rfl)) (pa_cons (pv 2) pa_nil)))
  (pss_one (ps_expr (pm c_Desk__make_ready hr (by decide) p0 (pv 0) (pa_cons (pe_lst (pa_cons (pv 2) pa_nil)) pa_nil)))))), ?_⟩
    refine ⟨_, rfl, d, dx, _, rfl, hd, rfl, _, rfl, d, L, ln, D, n, rfl, hn, x, q1, fun p hp en => ?_⟩
    obtain ⟨r1, r2⟩ := q2 p.2 (of_line x hp) en
    refine ⟨_, rfl, p.1, p.2, rfl, (at_line x hp).1, (at_line x hp).2, r1, fun er => ?_⟩
    refine ⟨_, rfl, d, dx, _, rfl, hd, rfl, _, rfl, (show 1 ≤ sizeLine by decide), fun b nb => ?_⟩
    have k1 : Keep K [] H (L2.upd H b (.lst [.ref p.1])) := Keep.new nb
    have x1 := x.keep k1 fun _ _ => List.not_mem_nil
    exact ⟨d, L, ln, D, b, [p], rfl, x1, upd_same, fun p' h' => ⟨p'.2.st, by rw [List.mem_singleton.mp h']; exact hp⟩, fun H' ln' k s y => r2 er H' _ (k1.any.trans k) (sub_same s) ⟨L, ln', rfl, y⟩⟩
def sp_rerank (K : PySem.W.Frag) : Sp := fun vs H Q E => ∃ (d : Addr) (S : List Addr) (D : Dk) (n : Str) (r : Int), vs = [.ref d, .str n, .int r] ∧ Mod r ∧ ByN K H E d S D n fun c => (¬ (0 ≤ r ∧ r ≤ 99) → E (xc K "NoRank") none H) ∧ (0 ≤ r ∧ r ≤ 99 →
  (c.st.isRdy = true → E (xc K "IsReady") none H) ∧ (c.st.isRdy = false → Now K H S d (D.setR { c with rank := r }) (Q .non)))
theorem c_Desk_rerank (T : Tx K mg base) : Met P w K mg base 2 (He.ga K "Desk") "rerank" (sp_rerank K) := by
  have c_Desk__known : Met P w K mg base 1 (He.ga K "Desk") "_known" (sp_known K) := c_Desk__known T
  have c_check_rank : Cal P w K mg base 1 "check_rank" (sp_check_rank K) := c_check_rank T
  have c_check_not_ready : Cal P w K mg base 1 "check_not_ready" (sp_check_not_ready K) := c_check_not_ready T
  obtain ⟨fd, F⟩ := T.d_Desk_rerank
  refine ⟨_, fd, ["self", "name", "rank"], T.cl_Desk, T.me_Desk_rerank, okF (k := 1) F sc_Desk_rerank (fun vs H Q E h => ?_) (fun A outer s H vs Q E hr h => ?_), F.bindsN fun _ _ _ _ _ _ us hl => match us, hl with | [_, _, _], _ => rfl⟩
  · obtain ⟨d, S, D, n, r, rfl, _⟩ := h
    rfl
  · have nd := sc_Desk_rerank.nd
    obtain ⟨d, S, D, n, r, rfl, hr9, hn, ⟨L, ln, rfl, x⟩, q1, q2⟩ := h
    obtain ⟨dx, hd⟩ := id x.desk
    refine ⟨_, (pss_cons (ps_set (i := 3) nd rfl (Or.inl rfl) (pm c_Desk__known hr (by decide) (pU (L2N.takes_of rfl rfl rfl rfl)) (pv 0) (pa_cons (pv 1) pa_nil)))
  (pss_cons (ps_expr (pf c_check_rank hr (by decide) (by rfl) (pU (L2N.takes_of rfl rfl rfl rfl)) (pa_cons (pv 2) pa_nil)))
  (pss_cons (ps_expr (pf c_check_not_ready hr (by decide) (by rfl) (pU (L2N.takes_of rfl rfl rfl rfl)) (pa_cons (pv 3) pa_nil)))
  (pss_one (ps_fld (pv 3) (pv 2) rfl))))), ?_⟩
    refine ⟨_, rfl, d, dx, _, rfl, hd, rfl, _, rfl, d, L, ln, D, n, rfl, hn, x, q1, fun p hp en => ?_⟩
    obtain ⟨r1, r2⟩ := q2 p.2 (of_line x hp) en
    refine ⟨_, rfl, r, rfl, hr9, r1, fun e1 => ?_⟩
    obtain ⟨r3, r4⟩ := r2 e1
    refine ⟨_, rfl, p.1, p.2, rfl, (at_line x hp).1, (at_line x hp).2, r3, fun er => ?_⟩
    obtain ⟨dy, hc⟩ := id (x.crs _ hp)
    refine ⟨_, rfl, _, rfl, p.1, _, dy, _, rfl, hc, T.cl_Caller, T.na_Caller_rank, (show 6 < 1000 by decide), ?_⟩
    have x2 := x.set (c' := { p.2 with rank := r }) (dx := dy) hp rfl
    refine r4 er _ _ (Keep.upd hc ?_ nt_ins) (fun b hb => .inl hb) ⟨L, _, ?_, x2⟩
    · exact List.mem_cons_of_mem _ (List.mem_cons_of_mem _ (List.mem_map_of_mem (f := (·.1)) hp))
    · rw [setLn_fst]
theorem bell_eq (st : Stt) (b : Str) : decide (st.bellV = V.str b) = decide (st = .wtg b) := by
  cases st with
  | rdy _ => rfl
  | slp _ => rfl
  | wtg c =>
    by_cases e : c = b
    · rw [e]
      exact (decide_eq_true rfl).trans (decide_eq_true rfl).symm
    · exact (decide_eq_false fun z => e (V.str.inj z)).trans (decide_eq_false fun z => e (Stt.wtg.inj z)).symm
def Dk.waiters (D : Dk) (b : Str) : List Cr := D.line.filter fun c => decide (c.st = .wtg b)
def sp_ring (K : PySem.W.Frag) : Sp := fun vs H Q E => ∃ (d : Addr) (S : List Addr) (D : Dk) (b : Str), vs = [.ref d, .str b] ∧ Small b ∧ TabG H (tabN K) ∧ DkAt K H S d D ∧ (isName b = false → ∀ H', Keep K [] H H' → E (xc K "NoName") none H') ∧ (isName b = true →
  ∀ p, H p = none → Now K H S d (D.ring b) fun H' => H' p = some (.lst ((namesL (D.waiters b)).map V.str)) → Q (.ref p) H')
theorem c_Desk_ring (T : Tx K mg base) : Met P w K mg base 3 (He.ga K "Desk") "ring" (sp_ring K) := by
  have c_check_name : Cal P w K mg base 2 "check_name" (sp_check_name K) := c_check_name T
  have c_Desk__make_ready : Met P w K mg base 2 (He.ga K "Desk") "_make_ready" (sp_make_ready K) := c_Desk__make_ready T
  obtain ⟨fd, F⟩ := T.d_Desk_ring
  refine ⟨_, fd, ["self", "bell"], T.cl_Desk, T.me_Desk_ring, okF (k := 2) F sc_Desk_ring (fun vs H Q E h => ?_) (fun A outer s H vs Q E hr h => ?_), F.bindsN fun _ _ _ _ _ _ us hl => match us, hl with | [_, _], _ => rfl⟩
  · obtain ⟨d, S, D, b, rfl, _⟩ := h
    rfl
  · have nd := sc_Desk_ring.nd
    obtain ⟨d, S, D, b, rfl, hb, hT, ⟨L, ln, rfl, x0⟩, q1, q2⟩ := h
    refine ⟨_, (pss_cons (ps_expr (pf c_check_name hr (by decide) (by rfl) (pU (L2N.takes_of rfl rfl rfl rfl)) (pa_cons (pv 1) pa_nil)))
  (pss_cons (ps_lock (ps_setLc (i := 2) (own := [("caller", 3)]) (g := gName 3) rfl nd rfl rfl (sw_true rfl rfl rfl (by decide +kernel)) (pi_values (pe_fldK (K := K) rfl (pv 0) rfl)) (blkOk_by (N := N_Desk_ring) (sc := defScope s_Desk_ring) (by decide +kernel)) (fun _ _ _ _ _ => (pg_name (i := 3) nd rfl (Or.inl rfl))) (fun _ _ _ _ _ => (pts_one (pt_cmpR op_eq (pe_fldK (K := K) rfl (pv 3) rfl) (pv 1) (nomark _)))) (fun _ _ _ _ _ => (pv 3))))
  (pss_cons (ps_expr (pm c_Desk__make_ready hr (by decide) p0 (pv 0) (pa_cons (pv 2) pa_nil)))
  (pss_one (ps_ret (pe_lc (own := [("caller", 3)]) (g := gName 3) (tt := tYes) rfl nd (pi_listK (K := K) rfl (pv 2)) (blkOk_by (N := N_Desk_ring) (sc := defScope s_Desk_ring) (by decide +kernel)) (fun _ _ _ _ _ => (pg_name (i := 3) nd rfl (Or.inl rfl))) (fun _ _ _ _ _ => pts_nil) (fun _ _ _ _ _ => (pe_fldK (K := K) rfl (pv 3) rfl)))))))), ?_⟩
    refine ⟨_, rfl, b, rfl, hb, hT, fun H1 k1 => ⟨fun e => q1 e H1 k1, fun e1 => ?_⟩⟩
    have x := x0.keep k1 fun _ _ => List.not_mem_nil
    obtain ⟨dx, hd⟩ := id x.desk
    refine ⟨L, _, x.line, trivial, fun od => ?_⟩
    refine ⟨_, rfl, d, _, _, _, _, rfl, (upd_ne x.dne).trans hd, T.cl_Desk, T.na_Desk__line, rfl, L, od, _, rfl, upd_same, fun c nc => ?_⟩
    have cL : c ≠ L := fun z => by rw [z, upd_same] at nc; cases nc
    have nc1 : H1 c = none := (upd_ne cL).symm.trans nc
    refine lc_it walk_values (Pv := fun i H' => Keep K [] (upd H1 L (.frz od (.dK (kvsOf ln)))) H' ∧ H' c = some (.lst (((ln.take i).filter fun p => decide (p.2.st = .wtg b)).map fun p => V.ref p.1))) ⟨Keep.new nc, upd_same⟩ (fun i H' _ p => p.1.old _ _ upd_same List.not_mem_nil nt_frz) ?_ ?_
    · rintro i v H1 H2 hi ⟨k1, hb1⟩ ⟨rfl, k, hk⟩
      obtain ⟨p, hpi, hp, rfl⟩ := kvs_at hk
      obtain ⟨dy, hc⟩ := id (x.crs _ hp)
      have hc1 := k1.old p.1 _ ((upd_ne (x.lne (List.mem_map_of_mem (f := (·.1)) hp))).trans hc) List.not_mem_nil nt_ins
      refine ⟨rfl, ?_⟩
      refine ⟨_, rfl, p.1, _, _, _, _, rfl, hc1, T.cl_Caller, T.na_Caller_bell, rfl, _, rfl, (by cases p.2.st <;> rfl), _, rfl, ?_⟩
      rw [bell_eq, take_filter hpi]
      cases e : decide (p.2.st = .wtg b) with
      | false =>
        refine iteF ⟨k1, ?_⟩
        rw [if_neg (by simp), List.append_nil]
        exact hb1
      | true =>
        refine iteT ⟨_, rfl, _, hb1, ?_, k1.set (.inl nc) hb1 nt_lst, ?_⟩
        · rw [List.length_map]
          have h1 := List.length_filter_le (fun p : Addr × Cr => decide (p.2.st = .wtg b)) (ln.take i)
          rw [List.length_take, ln_len x] at h1
          have h2 := x.len
          exact small1000 (by omega)
        · rw [upd_same, if_pos rfl, List.map_append]
          rfl
    · rintro H2 ⟨k2, hc2⟩
      have hL := k2.old _ _ upd_same List.not_mem_nil nt_frz
      rw [show (kvsOf ln).length = ln.length from kvs_len ln, List.take_of_length_le (Nat.le_refl _)] at hc2
      have k3 : Keep K [] H1 (upd H2 L (.dK (kvsOf ln))) := Keep.back x.line nt_dK k2 nt_frz List.not_mem_nil
      refine ⟨hL, ?_⟩
      have x3 := x.keep k3 fun _ _ => List.not_mem_nil
      obtain ⟨dx3, hd3⟩ := id x3.desk
      have hc3 : (upd H2 L (.dK (kvsOf ln))) c = some (.lst ((ln.filter fun p => decide (p.2.st = .wtg b)).map fun p => V.ref p.1)) := (upd_ne cL).trans hc2
      have cS : c ∉ d :: L :: ln.map (·.1) := (show DkAt K _ (d :: L :: ln.map (·.1)) d D from ⟨L, ln, rfl, x3⟩).lst hc3
      refine ⟨_, rfl, d, dx3, _, rfl, hd3, rfl, _, rfl, d, L, ln, D, c, _, rfl, x3, hc3, fun p hp => ⟨p.2.st, (List.mem_filter.mp hp).1⟩, fun H4 ln4 k4 s4 x4 => ?_⟩
      have hc4 := k4.lst hc3 cS
      refine ⟨_, rfl, c, rfl, ⟨_, .inl (.inl hc4)⟩, fun f nf => ?_⟩
      refine lc_it (walk_list (K := K) (xs := (ln.filter fun p => decide (p.2.st = .wtg b)).map fun p => V.ref p.1)) (Pv := fun i H' => Keep K [] H4 H' ∧ H' f = some (.lst (((ln.filter fun p => decide (p.2.st = .wtg b)).take i).map fun p => V.str p.2.name))) ⟨Keep.new nf, upd_same⟩ (fun i H' _ p => .inl (.inl (p.1.lst hc4 List.not_mem_nil))) ?_ ?_
      · rintro i v H5 H6 hi ⟨k5, hf⟩ ⟨rfl, hv⟩
        rw [List.getElem?_map] at hv
        cases ep : (ln.filter fun p => decide (p.2.st = .wtg b))[i]? with
        | none =>
          rw [ep] at hv
          cases hv
        | some p =>
          rw [ep] at hv
          obtain rfl : V.ref p.1 = v := Option.some.inj hv
          have hp := (List.mem_filter.mp (List.mem_of_getElem? ep)).1
          obtain ⟨st4, hp4⟩ := s4.2 p hp
          obtain ⟨dy, hc⟩ := id ((x4.keep k5 fun _ _ => List.not_mem_nil).crs _ hp4)
          refine ⟨rfl, ?_⟩
          refine ⟨_, rfl, p.1, _, _, _, _, rfl, hc, T.cl_Caller, T.na_Caller_name, rfl, _, hf, ?_, k5.set (.inl nf) hf nt_lst, ?_⟩
          · rw [List.length_map]
            have h1 := List.length_filter_le (fun p : Addr × Cr => decide (p.2.st = .wtg b)) ln
            rw [ln_len x] at h1
            have h2 := x.len
            rw [List.length_take]
            exact small1000 (by omega)
          · rw [upd_same, List.take_add_one, ep, List.map_append]
            rfl
      · rintro H5 ⟨k5, hf⟩
        rw [List.length_map, List.take_of_length_le (Nat.le_refl _)] at hf
        have k13 := k1.trans k3
        have e9 : (ln.filter fun p => decide (p.2.st = .wtg b)).map (·.2) = D.waiters b := by
          rw [filter_snd (fun c => decide (c.st = .wtg b)), x.eq]
          rfl
        rw [e9] at x4
        have nf0 : H f = none := k13.gone _ (k4.gone _ nf)
        refine q2 e1 f nf0 H5 _ ((k13.any.trans k4).trans k5.any) (sub_same s4) ⟨L, ln4, rfl, x4.keep k5 fun _ _ => List.not_mem_nil⟩ ?_
        rw [hf, ← e9]
        unfold namesL
        rw [List.map_map, List.map_map]
        rfl
end
end Rr

set_option maxRecDepth 100000
set_option maxHeartbeats 4000000
namespace Rr
open PySem PySem.Spec PyProof.Rows L2
open GxR (TabG Tabbed)
open Evl (pss_cut)
/-! ### turns, a twin -/
theorem due_eq (st : Stt) (n : Int) : decide (st.dueV = V.int n) = decide (st = .slp n) := by
  cases st with
  | rdy _ => rfl
  | wtg _ => rfl
  | slp c =>
    by_cases e : c = n
    · rw [e]
      exact (decide_eq_true rfl).trans (decide_eq_true rfl).symm
    · exact (decide_eq_false fun z => e (V.int.inj z)).trans (decide_eq_false fun z => e (Stt.slp.inj z)).symm
theorem pick_mem {D : Dk} {c : Cr} (h : D.pick = some c) : c ∈ D.line ∧ c.st.isRdy = true := by
  unfold Dk.pick pick at h
  cases e : pickI (agedC D.pace D.now) (readies D.line) with
  | none =>
    rw [e] at h
    cases h
  | some y =>
    rw [e] at h
    cases h
    exact List.mem_filter.mp (List.mem_of_getElem? (pickI_at _ _ _ rfl (j := y.1) (x := y.2) e))
/-- the desk behind n turns; what they tell -/
def Dk.after (D : Dk) : Nat → Dk
  | 0 => D
  | n + 1 => (D.after n).turn
def Dk.told (D : Dk) (n : Nat) : List V := (List.range n).map fun i => nmV (D.after i).pick
theorem told_snoc (D : Dk) (n : Nat) : D.told (n + 1) = D.told n ++ [nmV (D.after n).pick] := by
  unfold Dk.told
  rw [List.range_succ, List.map_append]
  rfl
theorem told_len (D : Dk) (n : Nat) : (D.told n).length = n := by
  unfold Dk.told
  rw [List.length_map, List.length_range]
section
variable {P : Program} {w : World} {K : PySem.W.Frag} {mg : Str → Option Value} {base : Heap}
def sp_turn (K : PySem.W.Frag) : Sp := fun vs H Q _ => ∃ (d : Addr) (S : List Addr) (D : Dk), vs = [.ref d] ∧ DkAt K H S d D ∧ Now K H S d D.turn (Q (nmV D.pick))
theorem c_Desk_turn (T : Tx K mg base) : Met P w K mg base 4 (He.ga K "Desk") "turn" (sp_turn K) := by
  have c_Desk__chosen : Met P w K mg base 3 (He.ga K "Desk") "_chosen" (sp_chosen K) := c_Desk__chosen T
  have c_Desk__make_ready : Met P w K mg base 2 (He.ga K "Desk") "_make_ready" (sp_make_ready K) := c_Desk__make_ready T
  obtain ⟨fd, F⟩ := T.d_Desk_turn
  refine ⟨_, fd, ["self"], T.cl_Desk, T.me_Desk_turn, okF (k := 3) F sc_Desk_turn (fun vs H Q E h => ?_) (fun A outer s H vs Q E hr h => ?_), F.bindsN fun _ _ _ _ _ _ us hl => match us, hl with | [_], _ => rfl⟩
  · obtain ⟨d, S, D, rfl, _⟩ := h
    rfl
  · have nd := sc_Desk_turn.nd
    obtain ⟨d, S, D, rfl, ⟨L, ln, rfl, x0⟩, q⟩ := h
    obtain ⟨dx0, hd0⟩ := id x0.desk
    refine ⟨_, (pss_cut (ps_set (i := 1) nd rfl (Or.inl rfl) (pm0 c_Desk__chosen hr (by decide) p0 (pv 0)))
  (pss_cons (ps_fldaug (pv 0) pe_int in_add)
  (pss_cons (ps_expr (pm c_Desk__make_ready hr (by decide) p0 (pv 0) (pa_cons (pe_lock (pe_lc (own := [("caller", 2)]) (g := gName 2) rfl nd (pi_values (pe_fldK (K := K) rfl (pv 0) rfl)) (blkOk_by (N := N_Desk_turn) (sc := defScope s_Desk_turn) (by decide +kernel)) (fun _ _ _ _ _ => (pg_name (i := 2) nd rfl (Or.inl rfl))) (fun _ _ _ _ _ => (pts_one (pt_cmpR op_eq (pe_fldK (K := K) rfl (pv 2) rfl) (pe_fldK (K := K) rfl (pv 0) rfl) (nomark _)))) (fun _ _ _ _ _ => (pv 2)))) pa_nil)))
  (pss_cut (ps_if (pt_cmpR op_isN (pv 1) pe_non (nomark _))
  (pss_one (ps_ret pe_non))
  pss_nil)
  (pss_cons (ps_expr (pm c_Desk__make_ready hr (by decide) p0 (pv 0) (pa_cons (pe_lst (pa_cons (pv 1) pa_nil)) pa_nil)))
  (pss_one (ps_ret (pe_fld (pv 1) rfl)))))))), ?_⟩
    refine ⟨fun σ' H1 => Keep K [] H H1 ∧ ∃ v, σ' = [some (.ref d), some v, none] ∧ ((D.pick = none ∧ v = .non) ∨ ∃ p ∈ ln, D.pick = some p.2 ∧ v = .ref p.1), ?_, ?_⟩
    · refine ⟨_, rfl, d, dx0, _, rfl, hd0, rfl, d, L, ln, D, rfl, x0, fun H1 k1 => ⟨fun e => ⟨k1, _, rfl, .inl ⟨e, rfl⟩⟩, fun p hp _ e => ⟨k1, _, rfl, .inr ⟨p, hp, e, rfl⟩⟩⟩⟩
    rintro σ' H1 ⟨k1, v, rfl, hv⟩
    have x := x0.keep k1 fun _ _ => List.not_mem_nil
    obtain ⟨dx, hd⟩ := id x.desk
    refine ⟨_, rfl, d, _, _, _, _, rfl, hd, T.cl_Desk, T.na_Desk_now, rfl, _, _, rfl, rfl, _, _, hd, (show 4 < 1000 by decide), ?_⟩
    have k2 : Keep K (d :: L :: ln.map (·.1)) H1 (L2.upd H1 d (.ins (He.ga K "Desk") dx (putF "now" (.int (D.now + 1)) (dFs D.pace D.room D.now L)))) := Keep.upd hd (by simp) nt_ins
    have x2 : DkIn K (L2.upd H1 d (.ins (He.ga K "Desk") dx (putF "now" (.int (D.now + 1)) (dFs D.pace D.room D.now L)))) d L ln { D with now := D.now + 1 } := x.time (n := D.now + 1) (dx := dx)
    obtain ⟨dx2, hd2⟩ := id x2.desk
    refine ⟨_, rfl, d, dx2, _, rfl, hd2, rfl, ?_⟩
    refine ⟨L, _, x2.line, trivial, fun od => ?_⟩
    refine ⟨_, rfl, d, _, _, _, _, rfl, (upd_ne x2.dne).trans hd2, T.cl_Desk, T.na_Desk__line, rfl, L, od, _, rfl, upd_same, fun c nc => ?_⟩
    have cL : c ≠ L := fun z => by rw [z, upd_same] at nc; cases nc
    generalize hH2 : L2.upd H1 d (.ins (He.ga K "Desk") dx (putF "now" (.int (D.now + 1)) (dFs D.pace D.room D.now L))) = H2 at *
    have nc2 : H2 c = none := (upd_ne cL).symm.trans nc
    refine lc_it walk_values (Pv := fun i H' => Keep K [] (upd H2 L (.frz od (.dK (kvsOf ln)))) H' ∧ H' c = some (.lst (((ln.take i).filter fun p => decide (p.2.st = .slp (D.now + 1))).map fun p => V.ref p.1))) ⟨Keep.new nc, upd_same⟩ (fun i H' _ p => p.1.old _ _ upd_same List.not_mem_nil nt_frz) ?_ ?_
    · rintro i v H3 H4 hi ⟨k3, hb3⟩ ⟨rfl, k, hk⟩
      obtain ⟨p, hpi, hp, rfl⟩ := kvs_at hk
      obtain ⟨dy, hc⟩ := id (x2.crs _ hp)
      have hc3 := k3.old p.1 _ ((upd_ne (x2.lne (List.mem_map_of_mem (f := (·.1)) hp))).trans hc) List.not_mem_nil nt_ins
      have hd3 := k3.old d _ ((upd_ne x2.dne).trans hd2) List.not_mem_nil nt_ins
      refine ⟨rfl, ?_⟩
      refine ⟨_, rfl, p.1, _, _, _, _, rfl, hc3, T.cl_Caller, T.na_Caller_due, rfl, _, rfl, d, _, _, _, _, rfl, hd3, T.cl_Desk, T.na_Desk_now, rfl, (by cases p.2.st <;> rfl), _, rfl, ?_⟩
      rw [due_eq, take_filter hpi]
      cases e : decide (p.2.st = .slp (D.now + 1)) with
      | false =>
        refine iteF ⟨k3, ?_⟩
        rw [if_neg (by simp), List.append_nil]
        exact hb3
      | true =>
        refine iteT ⟨_, rfl, _, hb3, ?_, k3.set (.inl nc) hb3 nt_lst, ?_⟩
        · rw [List.length_map]
          have h1 := List.length_filter_le (fun p : Addr × Cr => decide (p.2.st = .slp (D.now + 1))) (ln.take i)
          rw [List.length_take, ln_len x] at h1
          have h2 := x.len
          exact small1000 (by omega)
        · rw [upd_same, if_pos rfl, List.map_append]
          rfl
    rintro H3 ⟨k3, hc3⟩
    have hL := k3.old _ _ upd_same List.not_mem_nil nt_frz
    rw [show (kvsOf ln).length = ln.length from kvs_len ln, List.take_of_length_le (Nat.le_refl _)] at hc3
    have k4 : Keep K [] H2 (upd H3 L (.dK (kvsOf ln))) := Keep.back x2.line nt_dK k3 nt_frz List.not_mem_nil
    refine ⟨hL, ?_⟩
    have x4 := x2.keep k4 fun _ _ => List.not_mem_nil
    have hc4 : (upd H3 L (.dK (kvsOf ln))) c = some (.lst ((ln.filter fun p => decide (p.2.st = .slp (D.now + 1))).map fun p => V.ref p.1)) := (upd_ne cL).trans hc3
    refine ⟨d, L, ln, _, c, _, rfl, x4, hc4, fun p hp => ⟨p.2.st, (List.mem_filter.mp hp).1⟩, fun H5 ln5 k5 s5 x5 => ?_⟩
    have eT : (ln.filter fun p => decide (p.2.st = .slp (D.now + 1))).map (·.2) = D.line.filter fun c => decide (c.st = .slp (D.now + 1)) := by
      rw [filter_snd (fun c => decide (c.st = .slp (D.now + 1))), x.eq]
    rw [eT] at x5
    have x5 : DkIn K H5 d L ln5 D.tick := x5
    have kA : Keep K (d :: L :: ln.map (·.1)) H H5 := ((k1.any.trans k2).trans k4.any).trans k5
    have eN : D.tick.now = D.now + 1 := wakeAll_now _ _
    refine ⟨fun σ' H6 => H5 = H6 ∧ ∃ p ∈ ln, σ' = [some (.ref d), some (.ref p.1), none] ∧ D.pick = some p.2, ?_, ?_⟩
    · rcases hv with ⟨e, rfl⟩ | ⟨p, hp, e, rfl⟩
      · refine ⟨_, rfl, rfl, _, rfl, iteT ?_⟩
        have q1 := q H5 (d :: L :: ln5.map (·.1)) kA (sub_same s5) ⟨L, ln5, rfl, by unfold Dk.turn; rw [e]; exact x5⟩
        rw [e] at q1
        exact q1
      · exact ⟨_, rfl, rfl, _, rfl, iteF ⟨rfl, p, hp, rfl, e⟩⟩
    rintro σ' _ ⟨rfl, p, hp, rfl, e⟩
    obtain ⟨st5, hp5⟩ := s5.2 p hp
    obtain ⟨dx5, hd5⟩ := id x5.desk
    refine ⟨_, rfl, d, dx5, _, rfl, hd5, rfl, _, rfl, (show 1 ≤ sizeLine by decide), fun b nb => ?_⟩
    have k6 : Keep K [] H5 (L2.upd H5 b (.lst [.ref p.1])) := Keep.new nb
    have x6 := x5.keep k6 fun _ _ => List.not_mem_nil
    refine ⟨d, L, ln5, D.tick, b, [p], rfl, x6, upd_same, fun p' h' => ⟨st5, by rw [List.mem_singleton.mp h']; exact hp5⟩, fun H7 ln7 k7 s7 x7 => ?_⟩
    obtain ⟨st7, hp7⟩ := (s5.trans s7).2 p hp
    obtain ⟨dy, hc⟩ := id (x7.crs _ hp7)
    refine ⟨_, rfl, p.1, _, _, _, _, rfl, hc, T.cl_Caller, T.na_Caller_name, rfl, ?_⟩
    have q1 := q H7 (d :: L :: ln7.map (·.1)) ((kA.trans k6.any).trans (k7.mono fun z hz => s5.own.mp hz)) (sub_same (s5.trans s7)) ⟨L, ln7, rfl, by
      unfold Dk.turn
      rw [e]
      show DkIn K H7 d L ln7 (D.tick.move (p.2.as (.rdy (D.now + 1))))
      rw [← eN]
      exact x7⟩
    rw [e] at q1
    exact q1
def sp_run (K : PySem.W.Frag) : Sp := fun vs H Q E => ∃ (d : Addr) (S : List Addr) (D : Dk) (m : Int), vs = [.ref d, .int m] ∧ Mod m ∧ DkAt K H S d D ∧ (¬ (0 ≤ m ∧ m ≤ 1000) → E (xc K "NoSpan") none H) ∧ (0 ≤ m ∧ m ≤ 1000 →
  ∀ p, H p = none → Now K H S d (D.after m.toNat) fun H' => H' p = some (.lst (D.told m.toNat)) → Q (.ref p) H')
theorem Keep.subs {H H1 H2 : Hp} {S S1 : List Addr} (k : Keep K S H H1) (s : Sub H S S1) (k2 : Keep K S1 H1 H2) : Keep K S H H2 := k.trans' k2 s
theorem Sub.trans {H H1 : Hp} {S S1 S2 : List Addr} (a : Sub H S S1) (k : Keep K S H H1) (b : Sub H1 S1 S2) : Sub H S S2 := fun z hz => (b z hz).elim (a z) fun h => .inr (k.gone z h)
theorem c_Desk_run (T : Tx K mg base) : Met P w K mg base 5 (He.ga K "Desk") "run" (sp_run K) := by
  have c_check_span : Cal P w K mg base 1 "check_span" (sp_check_span K) := c_check_span T
  have c_Desk_turn : Met P w K mg base 4 (He.ga K "Desk") "turn" (sp_turn K) := c_Desk_turn T
  obtain ⟨fd, F⟩ := T.d_Desk_run
  refine ⟨_, fd, ["self", "many"], T.cl_Desk, T.me_Desk_run, okF (k := 4) F sc_Desk_run (fun vs H Q E h => ?_) (fun A outer s H vs Q E hr h => ?_), F.bindsN fun _ _ _ _ _ _ us hl => match us, hl with | [_, _], _ => rfl⟩
  · obtain ⟨d, S, D, m, rfl, _⟩ := h
    rfl
  · have nd := sc_Desk_run.nd
    obtain ⟨d, S, D, m, rfl, hm, hD, q1, q2⟩ := h
    refine ⟨_, (pss_cons (ps_expr (pf c_check_span hr (by decide) (by rfl) (pU (L2N.takes_of rfl rfl rfl rfl)) (pa_cons (pv 1) (pa_cons pe_int pa_nil))))
  (pss_cons (ps_set (i := 2) nd rfl (Or.inl rfl) (pe_lst pa_nil))
  (pss_cons (ps_for (passes_of rfl) rfl (pi_range1 (by rfl) T.m_range (pa_cons (pv 1) pa_nil)) (pg_name (i := 3) nd rfl (Or.inl rfl))
  (pss_one (ps_expr (pe_bm PySem.F.plainAttrs_list PySem.F.slot_list_append PySem.F.type_list_append mt_append (pv 2) (pa_cons (pm0 c_Desk_turn hr (by decide) p0 (pv 0)) pa_nil)))))
  (pss_one (ps_ret (pv 2)))))), ?_⟩
    refine ⟨_, rfl, m, 0, rfl, hm, ⟨by decide, by decide⟩, q1, fun e1 => ?_⟩
    refine ⟨(show 0 ≤ sizeLine by decide), fun p np => ?_⟩
    refine ⟨_, rfl, m, rfl, by omega, by omega, ?_⟩
    refine for_it walk_range (fun i σ H' => ∃ v S', σ = [some (.ref d), some (.int m), some (.ref p), v] ∧ Keep K S H H' ∧ Sub H S S' ∧ DkAt K H' S' d (D.after i) ∧ H' p = some (.lst (D.told i))) ⟨none, S, rfl, Keep.new np, Sub.refl, hD.keep0 (Keep.new np), upd_same⟩ (fun _ _ _ _ _ => trivial) ?_ ?_
    · rintro i v σ H1 H2 hi ⟨v0, S1, rfl, k1, s1, hD1, hp1⟩ ⟨rfl, rfl⟩
      obtain ⟨L, ln, eS, x⟩ := id hD1
      obtain ⟨dx, hd⟩ := id x.desk
      refine ⟨_, rfl, .inl ⟨rfl, _, .inl (.inl hp1)⟩, _, rfl, d, dx, _, rfl, hd, rfl, d, S1, D.after i, rfl, hD1, fun H3 S3 k3 s3 hD3 => ?_⟩
      have pS : p ∉ S1 := hD1.lst hp1
      have hp3 := k3.lst hp1 pS
      refine ⟨p, _, _, rfl, rfl, hp3, ?_, _, S3, rfl, (k1.subs s1 k3).set (.inl np) hp3 nt_lst, s1.trans k1 s3, ?_, ?_⟩
      · rw [told_len]
        have : i < m.toNat := hi
        exact Nat.lt_of_lt_of_le (show i < 1001 by omega) (by decide)
      · exact hD3.keep (S' := [p]) (Keep.upd hp3 (List.mem_singleton.mpr rfl) nt_lst) fun b hb z => by rw [List.mem_singleton.mp z] at hb; exact hD3.lst hp3 hb
      · rw [upd_same, told_snoc]
    · rintro σ H1 ⟨v0, S1, rfl, k1, s1, hD1, hp1⟩
      exact ⟨_, rfl, q2 e1 p np H1 S1 k1 s1 hD1 hp1⟩
def sp_alike (K : PySem.W.Frag) : Sp := fun vs H Q _ => ∃ (x : Addr) (c : Cr), vs = [.ref x] ∧ CrAt K H x c ∧ ∀ y H', H y = none → Keep K [] H H' → CrAt K H' y c → Q (.ref y) H'
theorem c_Caller_alike (T : Tx K mg base) : Met P w K mg base 3 (He.ga K "Caller") "alike" (sp_alike K) := by
  have c_Caller : Mak P w K mg base 1 "Caller" (He.ga K "Caller") (sp_Caller K) := c_Caller T
  have c_Caller_become : Met P w K mg base 1 (He.ga K "Caller") "become" (sp_become K) := c_Caller_become T
  obtain ⟨fd, F⟩ := T.d_Caller_alike
  refine ⟨_, fd, ["self"], T.cl_Caller, T.me_Caller_alike, okF (k := 2) F sc_Caller_alike (fun vs H Q E h => ?_) (fun A outer s H vs Q E hr h => ?_), F.bindsN fun _ _ _ _ _ _ us hl => match us, hl with | [_], _ => rfl⟩
  · obtain ⟨x, c, rfl, _⟩ := h
    rfl
  · have nd := sc_Caller_alike.nd
    obtain ⟨x, c, rfl, ⟨dx, hx⟩, q⟩ := h
    refine ⟨_, (pss_cons (ps_set (i := 1) nd rfl (Or.inl rfl) (pc c_Caller hr (by decide) (by rfl) passN (pa_cons (pe_fld (pv 0) rfl) (pa_cons (pe_fld (pv 0) rfl) (pa_cons (pe_fld (pv 0) rfl) pa_nil)))))
  (pss_cons (ps_expr (pm c_Caller_become hr (by decide) p0 (pv 1) (pa_cons (pe_fld (pv 0) rfl) (pa_cons (pe_fld (pv 0) rfl) (pa_cons (pe_fld (pv 0) rfl) (pa_cons (pe_fld (pv 0) rfl) pa_nil))))))
  (pss_one (ps_ret (pv 1))))), ?_⟩
    refine ⟨_, rfl, x, _, _, _, _, rfl, hx, T.cl_Caller, T.na_Caller_name, rfl, _, rfl, x, _, _, _, _, rfl, hx, T.cl_Caller, T.na_Caller_rank, rfl, _, rfl, x, _, _, _, _, rfl, hx, T.cl_Caller, T.na_Caller_since, rfl, fun y dy ny ndy ne => ?_⟩
    refine ⟨y, dy, c.name, c.rank, c.st.sinceV, rfl, upd_same, rfl, ?_⟩
    rw [upd_upd]
    have xy : x ≠ y := ne_of_none hx ny
    have xd : x ≠ dy := ne_of_none hx ndy
    have hx1 : (upd (upd H dy (.own y)) y (.ins (He.ga K "Caller") dy (rawC c.name c.rank (.str "ready") c.st.sinceV .non .non))) x = some (.ins (He.ga K "Caller") dx c.fs) := (upd_ne xy).trans ((upd_ne xd).trans hx)
    refine ⟨_, rfl, y, dy, _, rfl, upd_same, rfl, _, rfl, x, _, _, _, _, rfl, hx1, T.cl_Caller, T.na_Caller_state, rfl, _, rfl, x, _, _, _, _, rfl, hx1, T.cl_Caller, T.na_Caller_since, rfl, _, rfl, x, _, _, _, _, rfl, hx1, T.cl_Caller, T.na_Caller_due, rfl, _, rfl, x, _, _, _, _, rfl, hx1, T.cl_Caller, T.na_Caller_bell, rfl, y, dy, c.name, c.rank, _, _, _, _, c.st, rfl, upd_same, ?_⟩
    rw [upd_upd]
    exact ⟨_, rfl, q y _ ny ((Keep.new ndy).trans (Keep.new ((upd_ne ne.symm).trans ny))) ⟨dy, upd_same⟩⟩
def sp_twin (K : PySem.W.Frag) : Sp := fun vs H Q _ => ∃ (d : Addr) (S : List Addr) (D : Dk), vs = [.ref d] ∧ DkAt K H S d D ∧ ∀ e S' H', Keep K [] H H' → (∀ b ∈ S', H b = none) → DkAt K H' S' e D → Q (.ref e) H'
theorem c_Desk_twin (T : Tx K mg base) : Met P w K mg base 4 (He.ga K "Desk") "twin" (sp_twin K) := by
  have c_Desk : Mak P w K mg base 1 "Desk" (He.ga K "Desk") (sp_Desk K) := c_Desk T
  have c_Caller_alike : Met P w K mg base 3 (He.ga K "Caller") "alike" (sp_alike K) := c_Caller_alike T
  obtain ⟨fd, F⟩ := T.d_Desk_twin
  refine ⟨_, fd, ["self"], T.cl_Desk, T.me_Desk_twin, okF (k := 3) F sc_Desk_twin (fun vs H Q E h => ?_) (fun A outer s H vs Q E hr h => ?_), F.bindsN fun _ _ _ _ _ _ us hl => match us, hl with | [_], _ => rfl⟩
  · obtain ⟨d, S, D, rfl, _⟩ := h
    rfl
  · have nd := sc_Desk_twin.nd
    obtain ⟨d, S, D, rfl, ⟨L, ln, rfl, x0⟩, q⟩ := h
    obtain ⟨dx0, hd0⟩ := id x0.desk
    refine ⟨_, (pss_cons (ps_set (i := 1) nd rfl (Or.inl rfl) (pc c_Desk hr (by decide) (by rfl) (L2N.passes_call (L2N.takes_of rfl rfl rfl rfl) fun _ _ _ _ h => h) (pa_cons (pe_fld (pv 0) rfl) (pa_cons (pe_fld (pv 0) rfl) pa_nil))))
  (pss_cons (ps_fld (pv 1) (pe_fld (pv 0) rfl) rfl)
  (pss_cons (ps_fld (pv 1) (pe_lock (pe_dc (own := [("caller", 2)]) (g := gName 2) (tt := tYes) rfl nd (pi_values (pe_fldK (K := K) rfl (pv 0) rfl)) (blkOk_by (N := N_Desk_twin) (sc := defScope s_Desk_twin) (by decide +kernel)) (fun _ _ _ _ _ => (pg_name (i := 2) nd rfl (Or.inl rfl))) (fun _ _ _ _ _ => pts_nil) (fun _ _ _ _ _ => (pe_fldK (K := K) rfl (pv 2) rfl)) (fun _ _ _ _ _ => (pm0 c_Caller_alike hr (by decide) p0 (pv 2))))) rfl)
  (pss_one (ps_ret (pv 1)))))), ?_⟩
    refine ⟨_, rfl, d, _, _, _, _, rfl, hd0, T.cl_Desk, T.na_Desk_pace, rfl, _, rfl, d, _, _, _, _, rfl, hd0, T.cl_Desk, T.na_Desk_room, rfl, ?_⟩
    intro e dx ne_ ndx ne
    refine made_desk (p := D.pace) (r := D.room) x0.pr (fun S1 H1 k1 hE hF => ⟨rfl, ?_⟩) ne_ ndx ne
    obtain ⟨L1, ln1, rfl, y1⟩ := hE
    have x1 := x0.keep k1 fun _ _ => List.not_mem_nil
    obtain ⟨dx1, hd1⟩ := id x1.desk
    obtain ⟨de, he⟩ := id y1.desk
    refine ⟨_, rfl, d, _, _, _, _, rfl, hd1, T.cl_Desk, T.na_Desk_now, rfl, _, rfl, e, _, de, _, rfl, he, T.cl_Desk, T.na_Desk_now, (show 4 < 1000 by decide), ?_⟩
    have k2 : Keep K [] H (L2.upd H1 e (.ins (He.ga K "Desk") de (putF "now" (.int D.now) (dFs (⟨D.pace, D.room, 0, []⟩ : Dk).pace (⟨D.pace, D.room, 0, []⟩ : Dk).room (⟨D.pace, D.room, 0, []⟩ : Dk).now L1)))) := k1.set (.inl ne_) he nt_ins
    have x2 := x0.keep k2 fun _ _ => List.not_mem_nil
    have e2 : (L2.upd H1 e (.ins (He.ga K "Desk") de (putF "now" (.int D.now) (dFs (⟨D.pace, D.room, 0, []⟩ : Dk).pace (⟨D.pace, D.room, 0, []⟩ : Dk).room (⟨D.pace, D.room, 0, []⟩ : Dk).now L1)))) e = some (.ins (He.ga K "Desk") de (dFs D.pace D.room D.now L1)) := upd_same
    generalize hH2 : L2.upd H1 e (.ins (He.ga K "Desk") de (putF "now" (.int D.now) (dFs (⟨D.pace, D.room, 0, []⟩ : Dk).pace (⟨D.pace, D.room, 0, []⟩ : Dk).room (⟨D.pace, D.room, 0, []⟩ : Dk).now L1))) = H2 at *
    obtain ⟨dx2, hd2⟩ := id x2.desk
    refine ⟨L, _, x2.line, trivial, fun od => ?_⟩
    refine ⟨_, rfl, d, _, _, _, _, rfl, (upd_ne x2.dne).trans hd2, T.cl_Desk, T.na_Desk__line, rfl, L, od, _, rfl, upd_same, fun c nc => ?_⟩
    have cL : c ≠ L := fun z => by rw [z, upd_same] at nc; cases nc
    have nc2 : H2 c = none := (upd_ne cL).symm.trans nc
    have eL : e ≠ L := fun z => by rw [z, x2.line] at e2; cases e2
    refine dc_it walk_values (fun i H' => Keep K [] (upd H2 L (.frz od (.dK (kvsOf ln)))) H' ∧ ∃ l2 : Ln, l2.map (·.2) = (ln.take i).map (·.2) ∧ H' c = some (.dK (kvsOf l2)) ∧ (∀ q ∈ l2, CrAt K H' q.1 q.2 ∧ H2 q.1 = none) ∧ (l2.map (·.1)).Nodup) ⟨Keep.new nc, [], rfl, upd_same, fun q hq => (nomatch hq), List.nodup_nil⟩ (fun i H' _ p => p.1.old _ _ upd_same List.not_mem_nil nt_frz) ?_ ?_
    · rintro i v H3 H4 hi ⟨k3, l2, hl, hc3, hq3, hn3⟩ ⟨rfl, k, hk⟩
      obtain ⟨p, hpi, hp, rfl⟩ := kvs_at hk
      obtain ⟨dy, hc⟩ := id (x2.crs _ hp)
      have hp3 := k3.old p.1 _ ((upd_ne (x2.lne (List.mem_map_of_mem (f := (·.1)) hp))).trans hc) List.not_mem_nil nt_ins
      refine ⟨rfl, ?_⟩
      refine ⟨_, rfl, p.1, _, _, _, _, rfl, hp3, T.cl_Caller, T.na_Caller_name, rfl, _, rfl, p.1, dy, _, rfl, hp3, rfl, p.1, p.2, rfl, ⟨dy, hp3⟩, fun y H5 ny k5 hy5 => ?_⟩
      have hc5 : H5 c = some (.dK (kvsOf l2)) := k5.old _ _ hc3 List.not_mem_nil nt_dK
      obtain ⟨dy5, hy5'⟩ := id hy5
      have cy : y ≠ c := fun z => by rw [z, hc5] at hy5'; cases hy5'
      have new : valV (kvsOf l2) (Sum.inr p.2.name : Key) = none := by
        rw [kvs_find, find_none]
        · rfl
        · rw [hl]
          intro z
          have nm := x2.nm
          rw [← x2.eq] at nm
          have hi' : i < ln.length := (List.getElem?_eq_some_iff.mp hpi).1
          have e3 : ln = ln.take i ++ (p :: ln.drop (i + 1)) := by
            have e4 := (List.take_append_drop i ln).symm
            rw [List.drop_eq_getElem_cons hi'] at e4
            rw [(List.getElem?_eq_some_iff.mp hpi).2] at e4
            exact e4
          rw [e3] at nm
          unfold namesL at nm z
          rw [List.map_append, List.map_append] at nm
          exact (List.nodup_append.mp nm).2.2 _ z _ (by simp) rfl
      refine ⟨kvsOf l2, Sum.inr p.2.name, rfl, hc5, ?_, ?_, l2 ++ [(y, p.2)], ?_, ?_, ?_, ?_⟩
      · rw [kvs_len]
        have e3 := congrArg List.length hl
        rw [List.length_map, List.length_map, List.length_take] at e3
        have := ln_len x2
        have := x2.len
        exact small1000 (by omega)
      · exact (k3.trans k5).set (.inl nc) hc5 nt_dK
      · rw [List.map_append, hl, List.take_add_one, hpi, List.map_append]
        rfl
      · rw [upd_same, putK_new _ new]
        unfold kvsOf
        rw [List.map_append]
        rfl
      · intro z hz
        rcases List.mem_append.mp hz with h | h
        · obtain ⟨⟨dz, h1⟩, h2⟩ := hq3 z h
          have h3 := k5.old _ _ h1 List.not_mem_nil nt_ins
          exact ⟨⟨dz, (upd_ne (fun w => by rw [w, hc5] at h3; cases h3)).trans h3⟩, h2⟩
        · rw [List.mem_singleton.mp h]
          refine ⟨⟨dy5, (upd_ne cy).trans hy5'⟩, ?_⟩
          have h3 := k3.gone y ny
          by_cases w : y = L
          · rw [w, upd_same] at h3
            cases h3
          · exact (upd_ne w).symm.trans h3
      · rw [List.map_append]
        refine nd_snoc hn3 fun z => ?_
        obtain ⟨r, hr, er⟩ := List.mem_map.mp z
        obtain ⟨⟨dz, h1⟩, _⟩ := hq3 r hr
        have er : r.1 = y := er
        rw [er, ny] at h1
        cases h1
    · rintro H3 ⟨k3, l2, hl, hc3, hq3, hn3⟩
      have hL := k3.old _ _ upd_same List.not_mem_nil nt_frz
      rw [show (kvsOf ln).length = ln.length from kvs_len ln, List.take_of_length_le (Nat.le_refl _), x2.eq] at hl
      have k4 : Keep K [] H2 (upd H3 L (.dK (kvsOf ln))) := Keep.back x2.line nt_dK k3 nt_frz List.not_mem_nil
      refine ⟨hL, ?_⟩
      have e4 := k4.old _ _ e2 List.not_mem_nil nt_ins
      have hc4 : (upd H3 L (.dK (kvsOf ln))) c = some (.dK (kvsOf l2)) := (upd_ne cL).trans hc3
      have ce : c ≠ e := fun z => by rw [z, e4] at hc4; cases hc4
      have kF : Keep K [] H (L2.upd (upd H3 L (.dK (kvsOf ln))) e (.ins (He.ga K "Desk") de (dFs D.pace D.room D.now c))) := (k2.trans k4).set (.inl ne_) e4 nt_ins
      refine ⟨_, rfl, e, _, de, _, rfl, e4, T.cl_Desk, T.na_Desk__line, (show 4 < 1000 by decide), _, rfl, q e (e :: c :: l2.map (·.1)) _ kF ?_ ⟨c, l2, rfl, ⟨de, upd_same⟩, (upd_ne ce).trans hc4, fun z hz => ?_, hl, hn3, x2.nm, x2.len, x2.ok, x2.pr⟩⟩
      · intro b hb
        rcases List.mem_cons.mp hb with z | z
        · rw [z]
          exact ne_
        · rcases List.mem_cons.mp z with z | z
          · rw [z]
            exact k2.gone _ nc2
          · obtain ⟨r, hr, rfl⟩ := List.mem_map.mp z
            exact k2.gone _ (hq3 r hr).2
      · obtain ⟨⟨dz, h1⟩, h2⟩ := hq3 z hz
        have z1 : z.1 ≠ L := fun w => by rw [w, hL] at h1; cases h1
        have z2 : z.1 ≠ e := fun w => by rw [w, e2] at h2; cases h2
        exact ⟨dz, (upd_ne z2).trans ((upd_ne z1).trans h1)⟩
def sp_foretold (K : PySem.W.Frag) : Sp := fun vs H Q E => ∃ (d : Addr) (S : List Addr) (D : Dk) (m : Int), vs = [.ref d, .int m] ∧ Mod m ∧ DkAt K H S d D ∧ (¬ (0 ≤ m ∧ m ≤ 1000) → ∀ H', Keep K [] H H' → E (xc K "NoSpan") none H') ∧ (0 ≤ m ∧ m ≤ 1000 →
  ∀ p H', H p = none → Keep K [] H H' → H' p = some (.lst (D.told m.toNat)) → Q (.ref p) H')
theorem c_Desk_foretold (T : Tx K mg base) : Met P w K mg base 6 (He.ga K "Desk") "foretold" (sp_foretold K) := by
  have c_Desk_run : Met P w K mg base 5 (He.ga K "Desk") "run" (sp_run K) := c_Desk_run T
  have c_Desk_twin : Met P w K mg base 4 (He.ga K "Desk") "twin" (sp_twin K) := c_Desk_twin T
  obtain ⟨fd, F⟩ := T.d_Desk_foretold
  refine ⟨_, fd, ["self", "many"], T.cl_Desk, T.me_Desk_foretold, okF (k := 5) F sc_Desk_foretold (fun vs H Q E h => ?_) (fun A outer s H vs Q E hr h => ?_), F.bindsN fun _ _ _ _ _ _ us hl => match us, hl with | [_, _], _ => rfl⟩
  · obtain ⟨d, S, D, m, rfl, _⟩ := h
    rfl
  · have nd := sc_Desk_foretold.nd
    obtain ⟨d, S, D, m, rfl, hm, hD, q1, q2⟩ := h
    obtain ⟨L, ln, eS, x⟩ := id hD
    obtain ⟨dx, hd⟩ := id x.desk
    refine ⟨_, (pss_one (ps_ret (pm c_Desk_run hr (by decide) (pU (L2N.takes_of rfl rfl rfl rfl)) (pm0 c_Desk_twin hr (by decide) p0 (pv 0)) (pa_cons (pv 1) pa_nil)))), ?_⟩
    refine ⟨_, rfl, d, dx, _, rfl, hd, rfl, d, S, D, rfl, hD, fun e S1 H1 k1 n1 hE => ?_⟩
    obtain ⟨L1, ln1, eS1, y⟩ := id hE
    obtain ⟨de, he⟩ := id y.desk
    refine ⟨e, de, _, rfl, he, rfl, _, rfl, e, S1, D, m, rfl, hm, hE, fun z => q1 z H1 k1, fun z p np H2 S2 k2 s2 hE2 hp => q2 z p H2 (k1.gone p np) (k1.trans' k2 fun b hb => .inr (n1 b hb)) hp⟩
end
end Rr

set_option maxRecDepth 100000
set_option maxHeartbeats 4000000
namespace Rr
open PySem PySem.Spec PyProof.Rows L2
open GxR (TabG Tabbed)
open Evl (pss_cut)
open TL (tl tl_append len_tl)
/-- a statement that is not come to -/
theorem ps_never {X : Cx} {st : Stmt} : PS X st (fun _ _ _ => False) := ⟨fun _ _ _ _ _ _ h => h.elim⟩
theorem pss_never {X : Cx} {st : Stmt} : PSs X [st] (fun _ _ _ => False) := pss_one ps_never
section
variable {P : Program} {w : World} {K : PySem.W.Frag} {mg : Str → Option Value} {base : Heap}
abbrev tabM (K : PySem.W.Frag) : Addr := He.tabOf K (He.codeOf K ("number", none))
def sp_number (K : PySem.W.Frag) : Sp := fun vs H Q _ => ∃ i : Int, vs = [.str (numT i)] ∧ 0 ≤ i ∧ i < 1000000000000 ∧ TabG H (tabM K) ∧ ∀ H', Keep K [] H H' → Q (.int i) H'
theorem c_number (T : Tx K mg base) : Cal P w K mg base 1 "number" (sp_number K) := by
  obtain ⟨fd, F⟩ := T.d_number
  refine ⟨_, fd, ["word"], okF (k := 0) F sc_number (fun vs H Q E h => ?_) (fun A outer s H vs Q E hr h => ?_), T.r_number, F.kp, F.bindsN fun _ _ _ _ _ _ us hl => match us, hl with | [_], _ => rfl⟩
  · obtain ⟨i, rfl, _⟩ := h
    rfl
  · have nd := sc_number.nd
    obtain ⟨i, rfl, h0, h1, hT, q⟩ := h
    obtain ⟨⟨l12, _⟩, l1, hd, hi⟩ := num_ok h0 h1
    generalize hw : numT i = x at *
    refine ⟨_, (pss_cons (ps_if (pt_not (pt_rng pe_int (pe_callB call_len_str (by rfl) T.m_len boot_len (pa_cons (pv 0) pa_nil)) (pgI (by rfl) T.h_MOST_FIGURES)))
  (pss_one (L2N.ps_raise rfl (L2N.takes_of rfl rfl rfl rfl) (pmk1 PySem.F.excBase_ValueError T.e_NoDesk.1 T.r_NoDesk T.e_NoDesk.2.1 (raises_own T.e_NoDesk.2.2.1 T.e_NoDesk.2.2.2) rfl (pe_joined (.cons pe_str (.cons (pe_fmt (pgI (by rfl) T.h_MOST_FIGURES)) (.cons pe_str (.cons (pe_fmtR (pv 0)) .nil))))))))
  pss_nil)
  (pss_cons (ps_if (pt_val (pe_any hr (by rfl) T.m_any T.tb_number rfl (gs_of (by decide +kernel)) (pv 0) (elt_notIn rfl rfl rfl T.h_FIGURES) (fun _ => rfl)))
  (pss_one (L2N.ps_raise rfl (L2N.takes_of rfl rfl rfl rfl) (pmk1 PySem.F.excBase_ValueError T.e_NoDesk.1 T.r_NoDesk T.e_NoDesk.2.1 (raises_own T.e_NoDesk.2.2.1 T.e_NoDesk.2.2.2) rfl (pe_joined (.cons (pe_fmtR (pv 0)) (.cons pe_str .nil))))))
  pss_nil)
  (pss_cons (ps_if (PW.pt (pw_and (pt_cmpR op_eq (pe_ix ix_str (pv 0) pe_int (fun _ _ => rfl)) pe_str (nomark _)) (pw_and1 (pt_cmpR op_ne (pv 0) pe_str (nomark _)))))
  (pss_one (L2N.ps_raise rfl (L2N.takes_of rfl rfl rfl rfl) (pmk1 PySem.F.excBase_ValueError T.e_NoDesk.1 T.r_NoDesk T.e_NoDesk.2.1 (raises_own T.e_NoDesk.2.2.1 T.e_NoDesk.2.2.2) rfl (pe_joined (.cons (pe_fmtR (pv 0)) (.cons pe_str .nil))))))
  pss_nil)
  (pss_one (ps_ret (pe_callTy call_int_str (by rfl) T.m_int (by decide +kernel) (pa_cons (pv 0) pa_nil))))))), ?_⟩
    refine ⟨1, _, 12, fun _ z => z, fun _ z => ⟨_, rfl, _, rfl, line_of l12, z⟩, fun _ z => z, ?_⟩
    rw [decide_eq_true (show 1 ≤ (x.length : Int) ∧ (x.length : Int) ≤ 12 by omega)]
    refine iteF ⟨_, rfl, x, rfl, hT, fun H2 t => ?_⟩
    have hany : (x.cps.toList.any fun c => !decide (c ∈ ("0123456789" : Str).cps.toList)) = false := by
      refine List.any_eq_false.mpr fun c hc z => ?_
      have h48 : ∀ c : Nat, 48 ≤ c → c ≤ 57 → c ∈ ("0123456789" : Str).cps.toList := by
        intro c a b
        have : c = 48 ∨ c = 49 ∨ c = 50 ∨ c = 51 ∨ c = 52 ∨ c = 53 ∨ c = 54 ∨ c = 55 ∨ c = 56 ∨ c = 57 := by omega
        rcases this with rfl | rfl | rfl | rfl | rfl | rfl | rfl | rfl | rfl | rfl <;> decide +kernel
      have := h48 c (hd c hc).1 (hd c hc).2
      rw [decide_eq_true this] at z
      cases z
    have k2 : Keep K [] H H2 := Keep.tabbed t hT T.nr_number
    refine ⟨_, rfl, ?_⟩
    rw [hany]
    obtain ⟨c, r, ec⟩ : ∃ c r, tl x = c :: r := by
      cases e : tl x with
      | nil =>
        rw [len_tl, e] at l1
        exact absurd l1 (by decide)
      | cons c r => exact ⟨c, r, rfl⟩
    have hat : atI x.cps.toList (0 : Int) = some c := atI_nat (j := 0) (by show (tl x)[0]? = _; rw [ec]; rfl)
    have last : ∃ a n, [V.str x] = [V.str a] ∧ intText? a = some n ∧ a.length ≤ 640 ∧ Q (V.int n) H2 := ⟨x, i, rfl, hi, by omega, q H2 k2⟩
    refine iteF ⟨_, rfl, x, _, c, rfl, rfl, line_of l12, hat, rfl, _, rfl, ite2 (fun e => ?_) (fun e => iteF ⟨_, rfl, last⟩)⟩
    have e1 : c = 48 := by
      have e2 := V.str.inj (of_decide_eq_true e)
      have e3 := congrArg (fun z : Str => z.cps.toList) e2
      have e4 : [c] = [48] := e3
      exact List.head_eq_of_cons_eq e4
    have e2 : x = "0" := by
      rw [← hw]
      exact num_first h0 (by rw [hw]; exact ec) e1
    refine ⟨_, rfl, rfl, _, rfl, ?_⟩
    rw [decide_eq_true (show V.str x = V.str "0" by rw [e2])]
    exact iteF ⟨_, rfl, last⟩
def sp_words_of (K : PySem.W.Frag) : Sp := fun vs H Q _ => ∃ ws : List Str, vs = [.str (Str.join " " ws)] ∧ ws.length = 4 ∧ (∀ w ∈ ws, WordOk w) ∧ ∀ p, H p = none → Q (.ref p) (upd H p (.lst (ws.map V.str)))
theorem c_words_of (T : Tx K mg base) : Cal P w K mg base 1 "words_of" (sp_words_of K) := by
  obtain ⟨fd, F⟩ := T.d_words_of
  refine ⟨_, fd, ["row"], okF (k := 0) F sc_words_of (fun vs H Q E h => ?_) (fun A outer s H vs Q E hr h => ?_), T.r_words_of, F.kp, F.bindsN fun _ _ _ _ _ _ us hl => match us, hl with | [_], _ => rfl⟩
  · obtain ⟨ws, rfl, _⟩ := h
    rfl
  · have nd := sc_words_of.nd
    obtain ⟨ws, rfl, hl, hw, q⟩ := h
    refine ⟨_, (pss_cons (ps_set (i := 1) nd rfl (Or.inl rfl) (pe_split (pv 0) pe_str))
  (pss_cons (ps_if (pt_cmpR op_ne (pe_callB call_len_seq (by rfl) T.m_len boot_len (pa_cons (pv 1) pa_nil)) (pgI (by rfl) T.h_WORDS) (nomark _))
  (pss_one (L2N.ps_raise rfl (L2N.takes_of rfl rfl rfl rfl) (pmk1 PySem.F.excBase_ValueError T.e_NoDesk.1 T.r_NoDesk T.e_NoDesk.2.1 (raises_own T.e_NoDesk.2.2.1 T.e_NoDesk.2.2.2) rfl (pe_joined (.cons pe_str (.cons (pe_fmt (pgI (by rfl) T.h_WORDS)) (.cons pe_str (.cons (pe_fmtR (pv 0)) .nil))))))))
  pss_nil)
  (pss_one (ps_ret (pv 1))))), ?_⟩
    have hlen : (Str.join " " ws).length ≤ 52 := by
      have := join_len_le (y := " ") (m := 12) fun w h => (hw w h).1
      rw [hl] at this
      exact this
    refine ⟨_, rfl, ⟨_, rfl⟩, _, _, rfl, rfl, (by decide +kernel), ?_, fun p np => ?_⟩
    · rw [sizeLine_eq]
      omega
    rw [split_word (by intro z; rw [z] at hl; cases hl) hw]
    refine ⟨_, rfl, p, _, rfl, .inl (.inl (.inl upd_same)), rfl, _, rfl, ?_⟩
    rw [List.length_map, hl]
    exact iteF ⟨_, rfl, q p np⟩
def sp_begun (K : PySem.W.Frag) : Sp := fun vs H Q _ => ∃ (a : Addr) (p r n : Int), vs = [.ref a] ∧ SqL K H a [.str "desk", .str (numT p), .str (numT r), .str (numT n)] ∧ ((1 ≤ p ∧ p ≤ 1000) ∧ 1 ≤ r ∧ r ≤ 60) ∧ 0 ≤ n ∧ n < 1000000000000 ∧ TabG H (tabM K) ∧
  ∀ d S' H', Keep K [] H H' → (∀ b ∈ S', H b = none) → DkAt K H' S' d ⟨p, r, n, []⟩ → Q (.ref d) H'
theorem c_begun (T : Tx K mg base) : Cal P w K mg base 3 "begun" (sp_begun K) := by
  have c_number : Cal P w K mg base 1 "number" (sp_number K) := c_number T
  have c_Desk : Mak P w K mg base 1 "Desk" (He.ga K "Desk") (sp_Desk K) := c_Desk T
  obtain ⟨fd, F⟩ := T.d_begun
  refine ⟨_, fd, ["words"], okF (k := 2) F sc_begun (fun vs H Q E h => ?_) (fun A outer s H vs Q E hr h => ?_), T.r_begun, F.kp, F.bindsN fun _ _ _ _ _ _ us hl => match us, hl with | [_], _ => rfl⟩
  · obtain ⟨a, p, r, n, rfl, _⟩ := h
    rfl
  · have nd := sc_begun.nd
    obtain ⟨a, p, r, n, rfl, hS, hpr, n0, n1, hT, q⟩ := h
    obtain ⟨⟨p0, p1⟩, r0, r1⟩ := hpr
    refine ⟨_, (pss_cons (ps_asg (pv 0) (pg_lst rfl (pgs_cons (pg_name (i := 1) nd rfl (Or.inl rfl)) (pgs_cons (pg_name (i := 2) nd rfl (Or.inl rfl)) (pgs_cons (pg_name (i := 3) nd rfl (Or.inl rfl)) (pgs_cons (pg_name (i := 4) nd rfl (Or.inl rfl)) pgs_nil))))))
  (pss_cons (ps_if (pt_cmpR op_ne (pv 1) (pgS (by rfl) T.h_HEAD) (nomark _))
  (pss_one (L2N.ps_raise rfl (L2N.takes_of rfl rfl rfl rfl) (pmk1 PySem.F.excBase_ValueError T.e_NoDesk.1 T.r_NoDesk T.e_NoDesk.2.1 (raises_own T.e_NoDesk.2.2.1 T.e_NoDesk.2.2.2) rfl (pe_joined (.cons pe_str (.cons (pe_fmtR (pv 1)) .nil))))))
  pss_nil)
  (pss_cons (ps_set (i := 5) nd rfl (Or.inl rfl) (pc c_Desk hr (by decide) (by rfl) (L2N.passes_call (L2N.takes_of rfl rfl rfl rfl) fun _ _ _ _ h => h) (pa_cons (pf c_number hr (by decide) (by rfl) (pU (L2N.takes_of rfl rfl rfl rfl)) (pa_cons (pv 2) pa_nil)) (pa_cons (pf c_number hr (by decide) (by rfl) (pU (L2N.takes_of rfl rfl rfl rfl)) (pa_cons (pv 3) pa_nil)) pa_nil))))
  (pss_cons (ps_fld (pv 5) (pf c_number hr (by decide) (by rfl) (pU (L2N.takes_of rfl rfl rfl rfl)) (pa_cons (pv 4) pa_nil)) rfl)
  (pss_one (ps_ret (pv 5))))))), ?_⟩
    refine ⟨_, rfl, a, _, rfl, hS, rfl, _, _, rfl, _, _, rfl, _, _, rfl, _, _, rfl, rfl, ?_⟩
    refine ⟨_, rfl, rfl, _, rfl, ?_⟩
    refine iteF ⟨_, rfl, p, rfl, by omega, by omega, hT, fun H1 k1 => ⟨_, rfl, r, rfl, by omega, by omega, k1.tab _ hT, fun H2 k2 => ?_⟩⟩
    intro d dx nd0 ndx ne
    refine made_desk (p := p) (r := r) ⟨⟨p0, p1⟩, r0, r1⟩ (fun S H3 k3 hD hF => ⟨rfl, ?_⟩) nd0 ndx ne
    have k13 := (k1.trans k2).trans k3
    refine ⟨_, rfl, n, rfl, n0, n1, k13.tab _ hT, fun H4 k4 => ?_⟩
    obtain ⟨L, ln, rfl, x⟩ := hD.keep0 k4
    obtain ⟨dy, hd⟩ := id x.desk
    refine ⟨_, rfl, d, _, dy, _, rfl, hd, T.cl_Desk, T.na_Desk_now, (show 4 < 1000 by decide), _, rfl, ?_⟩
    have hF2 : ∀ b ∈ d :: L :: ln.map (·.1), H b = none := fun b hb => (k1.trans k2).gone b (hF b hb)
    exact q d _ _ ((k13.trans k4).set (.inl (hF2 d (by simp))) hd nt_ins) hF2 ⟨L, ln, rfl, x.time (n := n) (dx := dy)⟩
theorem enter_move (D : Dk) {n : Str} (r : Int) (s : Stt) (h : n ∉ namesL D.line) (nm : (namesL D.line).Nodup) : (D.enter n r).move ((⟨n, r, .rdy D.now⟩ : Cr).as s) = { D with line := D.line ++ [⟨n, r, s⟩] } := by
  show ({ D with line := lastC n (setC ⟨n, r, s⟩ (D.line ++ [⟨n, r, .rdy D.now⟩])) } : Dk) = _
  congr 1
  have nd : (namesL (D.line ++ [⟨n, r, .rdy D.now⟩])).Nodup := by
    unfold namesL
    rw [List.map_append]
    exact nd_snoc nm h
  have e := last_set (l := D.line ++ [⟨n, r, .rdy D.now⟩]) nd (c := ⟨n, r, .rdy D.now⟩) (c' := ⟨n, r, s⟩) (by simp) rfl
  rw [show lastC n (setC ⟨n, r, s⟩ (D.line ++ [⟨n, r, .rdy D.now⟩])) = dropC n (D.line ++ [⟨n, r, .rdy D.now⟩]) ++ [⟨n, r, s⟩] from e]
  congr 1
  unfold dropC
  rw [List.filter_append, List.filter_cons, if_neg (by simp), List.filter_nil, List.append_nil]
  refine List.filter_eq_self.mpr fun c hc => decide_eq_true fun z => h ?_
  rw [← z]
  exact List.mem_map_of_mem hc
def sp_seat_ready (K : PySem.W.Frag) : Sp := fun vs H Q _ => ∃ (d : Addr) (S : List Addr) (D : Dk) (n : Str) (r w : Int), vs = [.ref d, .str n, .int r, .int w] ∧ DkAt K H S d D ∧ TabG H (tabN K) ∧ isName n = true ∧ (0 ≤ r ∧ r ≤ 99) ∧ n ∉ namesL D.line ∧ (D.line.length : Int) < D.room ∧ w ≤ D.now ∧
  Now K H S d { D with line := D.line ++ [⟨n, r, .rdy (D.now - w)⟩] } (Q .non)
theorem c_seat_ready (T : Tx K mg base) : Cal P w K mg base 4 "seat_ready" (sp_seat_ready K) := by
  have c_Desk_enter : Met P w K mg base 3 (He.ga K "Desk") "enter" (sp_enter K) := c_Desk_enter T
  obtain ⟨fd, F⟩ := T.d_seat_ready
  refine ⟨_, fd, ["desk", "name", "rank", "waited"], okF (k := 3) F sc_seat_ready (fun vs H Q E h => ?_) (fun A outer s H vs Q E hr h => ?_), T.r_seat_ready, F.kp, F.bindsN fun _ _ _ _ _ _ us hl => match us, hl with | [_, _, _, _], _ => rfl⟩
  · obtain ⟨d, S, D, n, r, w, rfl, _⟩ := h
    rfl
  · have nd := sc_seat_ready.nd
    obtain ⟨d, S, D, n, r, w, rfl, ⟨L, ln, rfl, x⟩, hT, hn, hr9, nn, hl, hw, q⟩ := h
    obtain ⟨dx, hd⟩ := id x.desk
    refine ⟨_, (pss_cons (ps_if (pt_cmpR op_gt (pv 3) (pe_fld (pv 0) rfl) (nomark _))
  (pss_one (L2N.ps_raise rfl (L2N.takes_of rfl rfl rfl rfl) (pmk1 PySem.F.excBase_ValueError T.e_NoDesk.1 T.r_NoDesk T.e_NoDesk.2.1 (raises_own T.e_NoDesk.2.2.1 T.e_NoDesk.2.2.2) rfl (pe_joined (.cons (pe_fmtR (pv 1)) (.cons pe_str .nil))))))
  pss_nil)
  (pss_cons (ps_fldaug (pv 0) (pv 3) in_sub)
  (pss_cons (ps_expr (pm c_Desk_enter hr (by decide) (pU (L2N.takes_of rfl rfl rfl rfl)) (pv 0) (pa_cons (pv 1) (pa_cons (pv 2) pa_nil))))
  (pss_one (ps_fldaug (pv 0) (pv 3) in_add))))), ?_⟩
    refine ⟨_, rfl, _, rfl, d, _, _, _, _, rfl, hd, T.cl_Desk, T.na_Desk_now, rfl, _, _, rfl, rfl, _, rfl, ?_⟩
    rw [decide_eq_false (show ¬ D.now < w by omega)]
    refine iteF ⟨_, rfl, d, _, _, _, _, rfl, hd, T.cl_Desk, T.na_Desk_now, rfl, _, rfl, _, _, rfl, rfl, _, _, hd, (show 4 < 1000 by decide), ?_⟩
    have k1 : Keep K (d :: L :: ln.map (·.1)) H (L2.upd H d (.ins (He.ga K "Desk") dx (putF "now" (.int (D.now - w)) (dFs D.pace D.room D.now L)))) := Keep.upd hd (by simp) nt_ins
    have x1 : DkIn K (L2.upd H d (.ins (He.ga K "Desk") dx (putF "now" (.int (D.now - w)) (dFs D.pace D.room D.now L)))) d L ln { D with now := D.now - w } := x.time (n := D.now - w) (dx := dx)
    obtain ⟨dx1, hd1⟩ := id x1.desk
    generalize hH1 : L2.upd H d (.ins (He.ga K "Desk") dx (putF "now" (.int (D.now - w)) (dFs D.pace D.room D.now L))) = H1 at *
    refine ⟨_, rfl, d, dx1, _, rfl, hd1, rfl, _, rfl, _, rfl, d, _, { D with now := D.now - w }, n, r, rfl, isName_small hn, ⟨by omega, by omega⟩, k1.tab _ hT, ⟨L, ln, rfl, x1⟩, x.pr.2.2, (by have := x.pr.2.1; show 0 ≤ D.room; omega), fun H2 => ⟨?_, ?_, ?_, ?_, ?_⟩⟩
    · intro _ h
      rw [hn] at h
      cases h
    · intro _ _ h
      exact absurd hr9 h
    · intro _ _ _ h
      exact absurd h nn
    · intro _ _ _ _ h
      exact absurd (show D.room ≤ (D.line.length : Int) from h) (by omega)
    · intro _ _ _ _ S2 k2 s2 hD2
      obtain ⟨L2', ln2, rfl, x2⟩ := hD2
      obtain ⟨dx2, hd2⟩ := id x2.desk
      refine ⟨_, rfl, d, _, _, _, _, rfl, hd2, T.cl_Desk, T.na_Desk_now, rfl, _, rfl, _, _, rfl, rfl, _, _, hd2, (show 4 < 1000 by decide), ?_⟩
      have e : D.now - w + w = D.now := by omega
      have x3 := x2.time (n := D.now - w + w) (dx := dx2)
      rw [e] at x3
      refine q _ (d :: L2' :: ln2.map (·.1)) ((k1.trans k2).set (.inr (by simp)) hd2 nt_ins) (fun b hb => (s2 b hb).imp_right (k1.gone b)) ⟨L2', ln2, rfl, ?_⟩
      show DkIn K (L2.upd H2 d (.ins (He.ga K "Desk") dx2 (dFs D.pace D.room (D.now - w + w) L2'))) d L2' ln2 _
      rw [e]
      exact x3
def sp_seat (K : PySem.W.Frag) : Sp := fun vs H Q _ => ∃ (d : Addr) (S : List Addr) (D : Dk) (a : Addr) (c : Cr), vs = [.ref d, .ref a] ∧ DkAt K H S d D ∧ SqL K H a ((wordsC D.now c).map V.str) ∧ (0 ≤ D.now ∧ D.now < 1000000000000) ∧ TabG H (tabN K) ∧ TabG H (tabM K) ∧ isName c.name = true ∧ (0 ≤ c.rank ∧ c.rank ≤ 99) ∧ GoodSt D.now c.st ∧ c.name ∉ namesL D.line ∧ (D.line.length : Int) < D.room ∧
  Now K H S d { D with line := D.line ++ [c] } (Q .non)
theorem c_seat (T : Tx K mg base) : Cal P w K mg base 5 "seat" (sp_seat K) := by
  have c_number : Cal P w K mg base 1 "number" (sp_number K) := c_number T
  have c_seat_ready : Cal P w K mg base 4 "seat_ready" (sp_seat_ready K) := c_seat_ready T
  have c_Desk_enter : Met P w K mg base 3 (He.ga K "Desk") "enter" (sp_enter K) := c_Desk_enter T
  have c_Desk_sleep : Met P w K mg base 2 (He.ga K "Desk") "sleep" (sp_sleep K) := c_Desk_sleep T
  have c_Desk_wait : Met P w K mg base 3 (He.ga K "Desk") "wait" (sp_wait K) := c_Desk_wait T
  obtain ⟨fd, F⟩ := T.d_seat
  refine ⟨_, fd, ["desk", "words"], okF (k := 4) F sc_seat (fun vs H Q E h => ?_) (fun A outer s H vs Q E hr h => ?_), T.r_seat, F.kp, F.bindsN fun _ _ _ _ _ _ us hl => match us, hl with | [_, _], _ => rfl⟩
  · obtain ⟨d, S, D, a, c, rfl, _⟩ := h
    rfl
  · have nd := sc_seat.nd
    obtain ⟨d, S, D, a, ⟨n, r, st⟩, rfl, hD, hS, ⟨t0, t1⟩, hT, hM, hn, hr9, hs, nn, hl, q⟩ := h
    obtain ⟨L, ln, eS, x⟩ := id hD
    obtain ⟨dx, hd⟩ := id x.desk
    have hr10 : 0 ≤ r ∧ r ≤ 99 := hr9
    refine ⟨_, (pss_cons (ps_asg (pv 1) (pg_lst rfl (pgs_cons (pg_name (i := 2) nd rfl (Or.inl rfl)) (pgs_cons (pg_name (i := 3) nd rfl (Or.inl rfl)) (pgs_cons (pg_name (i := 4) nd rfl (Or.inl rfl)) (pgs_cons (pg_name (i := 5) nd rfl (Or.inl rfl)) pgs_nil))))))
  (pss_cons (ps_if (pt_cmpR op_eq (pv 4) (pgS (by rfl) T.h_READY) (nomark _))
  (pss_cons (ps_expr (pf c_seat_ready hr (by decide) (by rfl) (pU (L2N.takes_of rfl rfl rfl rfl)) (pa_cons (pv 0) (pa_cons (pv 2) (pa_cons (pf c_number hr (by decide) (by rfl) (pU (L2N.takes_of rfl rfl rfl rfl)) (pa_cons (pv 3) pa_nil)) (pa_cons (pf c_number hr (by decide) (by rfl) (pU (L2N.takes_of rfl rfl rfl rfl)) (pa_cons (pv 5) pa_nil)) pa_nil))))))
  (pss_one ps_retN))
  pss_nil)
  (pss_cons (ps_expr (pm c_Desk_enter hr (by decide) (pU (L2N.takes_of rfl rfl rfl rfl)) (pv 0) (pa_cons (pv 2) (pa_cons (pf c_number hr (by decide) (by rfl) (pU (L2N.takes_of rfl rfl rfl rfl)) (pa_cons (pv 3) pa_nil)) pa_nil))))
  (pss_one (ps_if (pt_cmpR op_eq (pv 4) (pgS (by rfl) T.h_ASLEEP) (nomark _))
  (pss_one (ps_expr (pm c_Desk_sleep hr (by decide) (pU (L2N.takes_of rfl rfl rfl rfl)) (pv 0) (pa_cons (pv 2) (pa_cons (pf c_number hr (by decide) (by rfl) (pU (L2N.takes_of rfl rfl rfl rfl)) (pa_cons (pv 5) pa_nil)) pa_nil)))))
  (pss_one (ps_if (pt_cmpR op_eq (pv 4) (pgS (by rfl) T.h_WAITING) (nomark _))
  (pss_one (ps_expr (pm c_Desk_wait hr (by decide) (pU (L2N.takes_of rfl rfl rfl rfl)) (pv 0) (pa_cons (pv 2) (pa_cons (pv 5) pa_nil)))))
  (pss_one (L2N.ps_raise rfl (L2N.takes_of rfl rfl rfl rfl) (pmk1 PySem.F.excBase_ValueError T.e_NoDesk.1 T.r_NoDesk T.e_NoDesk.2.1 (raises_own T.e_NoDesk.2.2.1 T.e_NoDesk.2.2.2) rfl (pe_joined (.cons (pe_fmtR (pv 4)) (.cons pe_str .nil))))))))))))), ?_⟩
    refine ⟨_, rfl, a, _, rfl, hS, rfl, _, _, rfl, _, _, rfl, _, _, rfl, _, _, rfl, rfl, ?_⟩
    refine ⟨_, rfl, rfl, _, rfl, ?_⟩
    rw [word_rdy]
    cases st with
    | rdy s =>
      obtain ⟨g1, g2⟩ : 0 ≤ s ∧ s ≤ D.now := hs
      refine iteT ⟨_, rfl, _, rfl, _, rfl, r, rfl, hr10.1, by omega, hM, fun H1 k1 => ⟨_, rfl, D.now - s, rfl, by omega, by omega, k1.tab _ hM, fun H2 k2 => ?_⟩⟩
      have k12 := k1.trans k2
      refine ⟨d, S, D, n, r, D.now - s, rfl, hD.keep0 k12, k12.tab _ hT, hn, hr9, nn, hl, by omega, fun H3 S3 k3 s3 hD3 => ?_⟩
      refine q H3 S3 (k12.any.trans k3) (fun b hb => (s3 b hb).imp_right (k12.gone b)) ?_
      rw [show D.now - (D.now - s) = s by omega] at hD3
      exact hD3
    | slp u =>
      obtain ⟨g1, g2⟩ : 1 ≤ u - D.now ∧ u - D.now ≤ 1000 := hs
      refine iteF ⟨_, rfl, d, dx, _, rfl, hd, rfl, _, rfl, _, rfl, r, rfl, hr10.1, by omega, hM, fun H1 k1 => ?_⟩
      refine ⟨d, S, D, n, r, rfl, isName_small hn, ⟨by omega, by omega⟩, k1.tab _ hT, hD.keep0 k1, x.pr.2.2, (by have := x.pr.2.1; omega), fun H2 => ⟨fun _ h => absurd hn (by rw [h]; decide), fun _ _ h => absurd hr10 h, fun _ _ _ h => absurd h nn, fun _ _ _ _ h => absurd h (by omega), fun _ _ _ _ S2 k2' s2' hD2 => ?_⟩⟩
      have k2 : Keep K S H H2 := k1.any.trans k2'
      have s2 : Sub H S S2 := fun b hb => (s2' b hb).imp_right (k1.gone b)
      obtain ⟨L2', ln2, eS2, x2⟩ := id hD2
      obtain ⟨dx2, hd2⟩ := id x2.desk
      refine ⟨_, rfl, rfl, _, rfl, ?_⟩
      rw [decide_eq_true (show V.str ((Cr.st ⟨n, r, .slp u⟩).word) = V.str "asleep" from rfl)]
      refine iteT ⟨_, rfl, d, dx2, _, rfl, hd2, rfl, _, rfl, _, rfl, u - D.now, rfl, by omega, by omega, k2.tab _ hM, fun H3 k3 => ?_⟩
      refine ⟨d, S2, D.enter n r, n, u - D.now, rfl, ⟨by omega, by omega⟩, isName_small hn, hD2.keep0 k3, fun z => absurd (show n ∈ namesL (D.enter n r).line by unfold namesL Dk.enter; rw [List.map_append]; exact List.mem_append_right _ (List.mem_singleton.mpr rfl)) z, fun c hc ec => ⟨fun z => absurd ⟨g1, g2⟩ z, fun _ => ?_⟩⟩
      obtain rfl : c = ⟨n, r, .rdy D.now⟩ := name_one x2.nm hc (by show _ ∈ D.line ++ [_]; simp) ec
      refine ⟨fun z => (nomatch z), fun _ H4 S4 k4 s4 hD4 => ?_⟩
      refine q H4 S4 ((k2.trans k3.any).trans' k4 s2) (fun b hb => (s4 b hb).elim (s2 b) fun z => .inr (k2.gone b (k3.gone b z))) ?_
      have e := enter_move D r (.slp (D.now + (u - D.now))) nn x.nm
      rw [show D.now + (u - D.now) = u by omega] at e
      have e2 : DkAt K H4 S4 d ((D.enter n r).move ((⟨n, r, .rdy D.now⟩ : Cr).as (.slp (D.now + (u - D.now))))) := hD4
      rw [show D.now + (u - D.now) = u by omega, e] at e2
      exact e2
    | wtg b =>
      have hb : isName b = true := hs
      refine iteF ⟨_, rfl, d, dx, _, rfl, hd, rfl, _, rfl, _, rfl, r, rfl, hr10.1, by omega, hM, fun H1 k1 => ?_⟩
      refine ⟨d, S, D, n, r, rfl, isName_small hn, ⟨by omega, by omega⟩, k1.tab _ hT, hD.keep0 k1, x.pr.2.2, (by have := x.pr.2.1; omega), fun H2 => ⟨fun _ h => absurd hn (by rw [h]; decide), fun _ _ h => absurd hr10 h, fun _ _ _ h => absurd h nn, fun _ _ _ _ h => absurd h (by omega), fun _ _ _ _ S2 k2' s2' hD2 => ?_⟩⟩
      have k2 : Keep K S H H2 := k1.any.trans k2'
      have s2 : Sub H S S2 := fun b hb => (s2' b hb).imp_right (k1.gone b)
      obtain ⟨L2', ln2, eS2, x2⟩ := id hD2
      obtain ⟨dx2, hd2⟩ := id x2.desk
      refine ⟨_, rfl, rfl, _, rfl, ?_⟩
      rw [decide_eq_false (show ¬ V.str ((Cr.st ⟨n, r, .wtg b⟩).word) = V.str "asleep" from fun z => absurd (V.str.inj z) (show ¬ ("waiting" : Str) = "asleep" by decide +kernel))]
      refine iteF ⟨_, rfl, rfl, _, rfl, ?_⟩
      rw [decide_eq_true (show V.str ((Cr.st ⟨n, r, .wtg b⟩).word) = V.str "waiting" from rfl)]
      refine iteT ⟨_, rfl, d, dx2, _, rfl, hd2, rfl, _, rfl, _, rfl, d, S2, D.enter n r, n, b, rfl, isName_small hb, k2.tab _ hT, isName_small hn, hD2, fun z => absurd (show n ∈ namesL (D.enter n r).line by unfold namesL Dk.enter; rw [List.map_append]; exact List.mem_append_right _ (List.mem_singleton.mpr rfl)) z, fun c hc ec => ⟨fun z => absurd hb (by rw [z]; decide), fun _ => ?_⟩⟩
      obtain rfl : c = ⟨n, r, .rdy D.now⟩ := name_one x2.nm hc (by show _ ∈ D.line ++ [_]; simp) ec
      refine ⟨fun z => (nomatch z), fun _ H4 S4 k4 s4 hD4 => ?_⟩
      refine q H4 S4 (k2.trans' k4 s2) (fun b hb => (s4 b hb).elim (s2 b) fun z => .inr (k2.gone b z)) ?_
      have e2 : DkAt K H4 S4 d ((D.enter n r).move ((⟨n, r, .rdy D.now⟩ : Cr).as (.wtg b))) := hD4
      rw [enter_move D r (.wtg b) nn x.nm] at e2
      exact e2
/-- the desk that the first i callers make -/
def Dk.cut (D : Dk) (i : Nat) : Dk := { D with line := D.line.take i }
def sp_read (K : PySem.W.Frag) : Sp := fun vs H Q _ => ∃ D : Dk, vs = [.str (textD D)] ∧ GoodD D ∧ TabG H (tabN K) ∧ TabG H (tabM K) ∧ ∀ d S' H', Keep K [] H H' → (∀ b ∈ S', H b = none) → DkAt K H' S' d D → Q (.ref d) H'
theorem c_read (T : Tx K mg base) : Cal P w K mg base 6 "read" (sp_read K) := by
  have c_words_of : Cal P w K mg base 1 "words_of" (sp_words_of K) := c_words_of T
  have c_begun : Cal P w K mg base 3 "begun" (sp_begun K) := c_begun T
  have c_seat : Cal P w K mg base 5 "seat" (sp_seat K) := c_seat T
  obtain ⟨fd, F⟩ := T.d_read
  refine ⟨_, fd, ["text"], okF (k := 5) F sc_read (fun vs H Q E h => ?_) (fun A outer s H vs Q E hr h => ?_), T.r_read, F.kp, F.bindsN fun _ _ _ _ _ _ us hl => match us, hl with | [_], _ => rfl⟩
  · obtain ⟨D, rfl, _⟩ := h
    rfl
  · have nd := sc_read.nd
    obtain ⟨D, rfl, g, hT, hM, q⟩ := h
    refine ⟨_, (pss_cons (ps_if (pt_not (pt_val (pe_m1 PySem.F.slot_str_endswith PySem.F.type_str_endswith mt_endswith (pv 0) pe_str)))
  (pss_one (L2N.ps_raise rfl (L2N.takes_of rfl rfl rfl rfl) (pmk1 PySem.F.excBase_ValueError T.e_NoDesk.1 T.r_NoDesk T.e_NoDesk.2.1 (raises_own T.e_NoDesk.2.2.1 T.e_NoDesk.2.2.2) rfl pe_str)))
  pss_nil)
  (pss_cons (ps_set (i := 1) nd rfl (Or.inl rfl) (pe_split (pe_slice sl_str (pv 0) po_none (po_some (pe_un un_neg pe_int))) pe_str))
  (pss_cut (L2N.ps_try_as (i := 4) rfl rfl nd rfl rfl ⟨rfl, by decide, .inl T.r_DeskError⟩ (L2N.takes_of rfl rfl rfl rfl) (fun W pn xe tk hp => (pss_cons (ps_set (i := 2) nd rfl (Or.inl rfl) (pf c_begun hr (by decide) (by rfl) (L2N.passAt tk) (pa_cons (pf c_words_of hr (by decide) (by rfl) (L2N.passAt tk) (pa_cons (pe_ix (ix_listK (K := K) rfl) (pv 1) pe_int (fun _ _ => rfl)) pa_nil)) pa_nil)))
  (pss_one (ps_for hp rfl (pi_listK (K := K) rfl (pe_slice (sl_listK (K := K) rfl) (pv 1) (po_some pe_int) po_none)) (pg_name (i := 3) nd rfl (Or.inl rfl))
  (pss_one (ps_expr (pf c_seat hr (by decide) (by rfl) (L2N.passAt tk) (pa_cons (pv 2) (pa_cons (pf c_words_of hr (by decide) (by rfl) (L2N.passAt tk) (pa_cons (pv 3) pa_nil)) pa_nil)))))))))
  (fun a oe cls d pn hz hf => (pss_one ps_never)))
  (pss_one (ps_ret (pv 2)))))), ?_⟩
    have rl := rows_len g
    have tl1 : (textD D).length ≤ 3234 := by
      unfold textD
      rw [Str.length_append]
      have : ("\n" : Str).length = 1 := by decide +kernel
      omega
    refine ⟨_, rfl, ⟨_, rfl⟩, _, _, rfl, rfl, _, rfl, ?_⟩
    rw [show Txt.endswith (textD D) "\n" = true from ends_nl _]
    refine iteF ⟨_, rfl, _, rfl, _, rfl, _, rfl, line_of tl1, ⟨_, rfl⟩, _, _, rfl, rfl, (by decide +kernel), ?_, fun p np => ?_⟩
    · refine Nat.le_trans (Nat.add_le_add_right (cutS_length _ _ _) 2) ?_
      rw [sizeLine_eq]
      omega
    have ec0 : cutS (textD D) none (some (-(1 : Int))) = Str.join "\n" (rowsD D) := cut_last _
    rw [ec0, split_rows g]
    have kp : Keep K [] H (L2.upd H p (.lst ((rowsD D).map V.str))) := Keep.new np
    refine ⟨fun σ' H' => ∃ d S' v, σ' = [some (.str (textD D)), some (.ref p), some (.ref d), v, none] ∧ Keep K [] H H' ∧ (∀ b ∈ S', H b = none) ∧ DkAt K H' S' d D, ?_, ?_⟩
    · refine ⟨_, rfl, p, _, _, _, rfl, rfl, .inl (.inl upd_same), atI_nat (j := 0) rfl, headD D, rfl, rfl, headD_ok g, fun p2 np2 => ?_⟩
      have k2 := kp.trans (Keep.new (o := .lst ((headD D).map V.str)) np2)
      refine ⟨p2, D.pace, D.room, D.now, rfl, .inl (.inl upd_same), g.pr, g.t0, g.t1, k2.tab _ hM, fun d S1 H1 k1 f1 hD1 => ?_⟩
      have pp2 : p ≠ p2 := fun z => by rw [← z, upd_same] at np2; cases np2
      have hp1 : H1 p = some (.lst ((rowsD D).map V.str)) := k1.lst ((upd_ne pp2).trans upd_same) List.not_mem_nil
      refine ⟨_, rfl, _, rfl, p, _, rfl, .inl (.inl hp1), fun p3 np3 => ?_⟩
      have ec : cutV ((rowsD D).map V.str) (some 1) none = D.line.map fun c => V.str (Str.join " " (wordsC D.now c)) := by
        unfold cutV rowsD
        simp [HT.sIx]
        rw [List.take_of_length_le (by simp)]
        rfl
      rw [ec]
      refine ⟨p3, rfl, ⟨_, .inl (.inl upd_same)⟩, ?_⟩
      have k3 : Keep K [] H (L2.upd H1 p3 (.lst (D.line.map fun c => V.str (Str.join " " (wordsC D.now c))))) := (k2.trans k1).trans (Keep.new np3)
      refine for_it (walk_list (xs := D.line.map fun c => V.str (Str.join " " (wordsC D.now c)))) (fun i σ H' => ∃ v S', σ = [some (.str (textD D)), some (.ref p), some (.ref d), v, none] ∧ Keep K [] H H' ∧ (∀ b ∈ S', H b = none) ∧ DkAt K H' S' d (D.cut i) ∧ H' p3 = some (.lst (D.line.map fun c => V.str (Str.join " " (wordsC D.now c)))))
        ⟨none, S1, rfl, k3, fun b hb => k2.gone b (f1 b hb), hD1.keep0 (Keep.new np3), upd_same⟩ ?_ ?_ ?_
      · rintro i σ H' _ ⟨v, S', rfl, _, _, _, h⟩
        exact .inl (.inl h)
      · rintro i v σ H4 H5 hi ⟨v0, S4, rfl, k4, f4, hD4, hp4⟩ ⟨rfl, hv⟩
        have hi' : i < D.line.length := by rw [List.length_map] at hi; exact hi
        obtain ⟨c, hc⟩ : ∃ c, D.line[i]? = some c := ⟨_, List.getElem?_eq_getElem hi'⟩
        rw [List.getElem?_map, hc] at hv
        obtain rfl : V.str (Str.join " " (wordsC D.now c)) = v := Option.some.inj hv
        have hm := List.mem_of_getElem? hc
        have e3 : D.line = D.line.take i ++ (c :: D.line.drop (i + 1)) := by
          have e4 := (List.take_append_drop i D.line).symm
          rw [List.drop_eq_getElem_cons hi', (List.getElem?_eq_some_iff.mp hc).2] at e4
          exact e4
        refine ⟨_, rfl, _, rfl, wordsC D.now c, rfl, rfl, wordsC_ok g.t1 (g.ok c hm) (g.rk c hm) (g.st c hm), fun a na => ?_⟩
        have k5 := k4.trans (Keep.new (o := .lst ((wordsC D.now c).map V.str)) na)
        refine ⟨d, S4, D.cut i, a, c, rfl, hD4.keep0 (Keep.new na), .inl (.inl upd_same), ⟨g.t0, g.t1⟩, k5.tab _ hT, k5.tab _ hM, g.ok c hm, g.rk c hm, g.st c hm, ?_, ?_, fun H6 S6 k6 s6 hD6 => ?_⟩
        · intro z
          have nm := g.nm
          rw [e3] at nm
          unfold namesL at nm
          rw [List.map_append] at nm
          exact (List.nodup_append.mp nm).2.2 _ z _ (by simp) rfl
        · show ((D.line.take i).length : Int) < D.room
          have := g.len
          rw [List.length_take]
          omega
        · have hp5 : (L2.upd H5 a (.lst ((wordsC D.now c).map V.str))) p3 = some (.lst (D.line.map fun c => V.str (Str.join " " (wordsC D.now c)))) := (upd_ne (ne_of_none hp4 na)).trans hp4
          refine ⟨_, S6, rfl, k5.trans' k6 fun b hb => .inr (f4 b hb), fun b hb => (s6 b hb).elim (f4 b) fun z => k5.gone b z, ?_, k6.lst hp5 ((hD4.keep0 (Keep.new na)).lst hp5)⟩
          have e5 : D.cut (i + 1) = { D.cut i with line := (D.cut i).line ++ [c] } := by
            show ({ D with line := D.line.take (i + 1) } : Dk) = { D with line := D.line.take i ++ [c] }
            rw [List.take_add_one, hc]
            rfl
          rw [e5]
          exact hD6
      · rintro σ H4 ⟨v0, S4, rfl, k4, f4, hD4, hp4⟩
        refine ⟨d, S4, _, rfl, k4, f4, ?_⟩
        rw [List.length_map] at hD4
        have e6 : D.cut D.line.length = D := by
          show ({ D with line := D.line.take D.line.length } : Dk) = D
          rw [List.take_of_length_le (Nat.le_refl _)]
        rw [e6] at hD4
        exact hD4
    · rintro σ' H' ⟨d, S', v, rfl, k, f, hD⟩
      exact ⟨_, rfl, q d S' H' k f hD⟩
end
end Rr

set_option maxRecDepth 100000
set_option maxHeartbeats 4000000
/-! Desk.ready -/
namespace Rr
open PySem PySem.Spec PyProof.Rows L2
open SrtO (Srtd Stb)
/-- the lambda was made -/
theorem Keep.ofBut {K : PySem.W.Frag} {S : List Addr} {H H' : Hp} (b : ButP (tabR K) qR H H') (hT : LamOk K H) : Keep K S H H' := by
  obtain ⟨ps0, e0, _⟩ := hT
  refine ⟨fun x o e _ nt => b.old x o (fun z => by rw [z, e0] at e; exact nt.1 ps0 (Option.some.inj e).symm) e, fun P t => ?_, b.gone, fun _ => b.tab⟩
  by_cases z : P = tabR K
  · rw [z]
    obtain ⟨ps, e, ok, _⟩ := b.tab
    exact ⟨ps, e, ok⟩
  · obtain ⟨ps, e, ok⟩ := t
    exact ⟨ps, b.old P _ z e, ok⟩
section
variable {P : Program} {w : World} {K : PySem.W.Frag} {mg : Str → Option Value} {base : Heap}
def sp_ready (K : PySem.W.Frag) : Sp := fun vs H Q _ => ∃ (d : Addr) (S : List Addr) (D : Dk), vs = [.ref d] ∧ DkAt K H S d D ∧ LamOk K H ∧ ∀ b H', Keep K [] H H' → H b = none → H' b = some (.lst (D.readyL.map V.str)) → Q (.ref b) H'
theorem c_Desk_ready (T : Tx K mg base) : Met P w K mg base 5 (He.ga K "Desk") "ready" (sp_ready K) := by
  have c_aged : Cal P w K mg base 1 "aged" sp_aged := c_aged T
  have c_Desk__ready_callers : Met P w K mg base 1 (He.ga K "Desk") "_ready_callers" (sp_ready_callers K) := c_Desk__ready_callers T
  have c_Desk__waited : Met P w K mg base 1 (He.ga K "Desk") "_waited" (sp_waitedC K) := c_Desk__waited T
  obtain ⟨fd, F⟩ := T.d_Desk_ready
  refine ⟨_, fd, ["self"], T.cl_Desk, T.me_Desk_ready, okF (k := 4) F sc_Desk_ready (fun vs H Q E h => ?_) (fun A outer s H vs Q E hr h => ?_), F.bindsN fun _ _ _ _ _ _ us hl => match us, hl with | [_], _ => rfl⟩
  · obtain ⟨d, S, D, rfl, _⟩ := h
    rfl
  · have nd := sc_Desk_ready.nd
    obtain ⟨d, S, D, rfl, ⟨L, ln, rfl, x⟩, hT, q⟩ := h
    obtain ⟨dx, hd⟩ := id x.desk
    have TB : LamX.TabB base mg (He.codeOf K ("Desk", some "ready")) (tabR K) := ⟨T.tb_Desk_ready.code, T.tb_Desk_ready.bm, T.tb_Desk_ready.gP⟩
    refine ⟨_, (pss_cons (ps_set (i := 1) nd rfl (Or.inl rfl) (pm0 c_Desk__ready_callers hr (by decide) p0 (pv 0)))
  (pss_cons (ps_set (i := 2) nd rfl (Or.inl rfl) (pe_sortK (k := 1) (i := 3) (x := "caller") (P := tabR K) rfl T.m_sorted (pv 1) TB rfl hr (lamP_by (show lamPB (defScope s_Desk_ready) _ _ = true by decide +kernel)) nd rfl rfl (fun _ _ _ _ _ _ => rfl)
    (fun A s H f c' hr' => pe_un un_neg (pf c_aged hr' (by decide) (by rfl) p0 (pa_cons (pe_fldK (K := K) rfl (pv 3) rfl) (pa_cons (pm c_Desk__waited hr' (by decide) p0 (pv 0) (pa_cons (pv 3) pa_nil)) (pa_cons (pe_fldK (K := K) rfl (pv 0) rfl) pa_nil)))))))
  (pss_one (ps_ret (pe_lc (own := [("caller", 3)]) (g := gName 3) (tt := tYes) rfl nd (pi_listK (K := K) rfl (pv 2)) (blkOk_by (N := N_Desk_ready) (sc := defScope s_Desk_ready) (by decide +kernel)) (fun _ _ _ _ _ => (pg_name (i := 3) nd rfl (Or.inl rfl))) (fun _ _ _ _ _ => pts_nil) (fun _ _ _ _ _ => (pe_fldK (K := K) rfl (pv 3) rfl))))))), ?_⟩
    refine ⟨_, rfl, d, _, _, rfl, hd, rfl, d, L, ln, D, rfl, x, fun b H1 k1 nb hb => ?_⟩
    have x1 := x.keep k1 fun _ _ => List.not_mem_nil
    have hT1 := k1.lam hT
    have nt1 : ∀ p o, H1 p = some o → NoT o → p ≠ tabR K := fun p o e nt z => by
      obtain ⟨ps, e0, _⟩ := hT1
      rw [z, e0] at e
      exact nt.1 ps (Option.some.inj e).symm
    have rl : (readyLn ln).length ≤ 60 := Nat.le_trans (List.length_filter_le _ _) (by rw [ln_len x]; exact x.len)
    refine ⟨_, rfl, b, (readyLn ln).map (·.1), (readyLn ln).map fun p => -(agedC D.pace D.now p.2), rfl, ?_, fun o e => ?_, by rw [List.length_map, List.length_map], hT1, ?_, ?_⟩
    · rw [List.map_map]
      exact .inl (.inl hb)
    · rw [hb] at e
      cases e
      exact nt1 b _ hb nt_lst
    · intro j u k H2 h1 h2 b2
      rw [List.getElem?_map] at h1 h2
      cases ep : (readyLn ln)[j]? with
      | none =>
        rw [ep] at h1
        cases h1
      | some p =>
        rw [ep] at h1 h2
        obtain rfl : p.1 = u := Option.some.inj h1
        obtain rfl : -(agedC D.pace D.now p.2) = k := Option.some.inj h2
        obtain ⟨hp, hr1⟩ := List.mem_filter.mp (List.mem_of_getElem? ep)
        have k2 : Keep K [] H1 H2 := Keep.ofBut b2 hT1
        have x2 := x1.keep k2 fun _ _ => List.not_mem_nil
        obtain ⟨dx2, hd2⟩ := id x2.desk
        obtain ⟨dy, hc⟩ := id (x2.crs _ hp)
        refine ⟨_, rfl, p.1, _, _, _, _, rfl, hc, T.cl_Caller, T.na_Caller_rank, rfl, _, rfl, d, _, _, rfl, hd2, rfl, _, rfl, d, L, ln, D, p, rfl, x2, hp, hr1, _, rfl, d, _, _, _, _, rfl, hd2, T.cl_Desk, T.na_Desk_pace, rfl, p.2.rank, _, D.pace, rfl, x.pr.1.1, x.pr.1.2, _, rfl, rfl, rfl⟩
    · intro p qs H2 o1 o2 b2 np hp2
      have k2 : Keep K [] H1 H2 := Keep.ofBut b2 hT1
      have x2 := x1.keep k2 fun _ _ => List.not_mem_nil
      have eq := keyed_ord (f := fun p => agedC D.pace D.now p.2) o1 o2
      have hp3 : H2 p = some (.lst ((ordBy (fun p : Addr × Cr => agedC D.pace D.now p.2) (readyLn ln)).map fun p => V.ref p.1)) := by
        rw [hp2, eq, List.map_map]
        rfl
      have eL : ((ordBy (fun p : Addr × Cr => agedC D.pace D.now p.2) (readyLn ln)).map (·.2.name)) = D.readyL := by
        show _ = (ordBy (agedC D.pace D.now) (readies D.line)).map (·.name)
        rw [← x.eq]
        unfold readies
        rw [List.filter_map, ← ord_map, List.map_map]
        rfl
      have oL : (ordBy (fun p : Addr × Cr => agedC D.pace D.now p.2) (readyLn ln)).length ≤ 60 := by
        rw [ord_len]
        exact rl
      have oM : ∀ {p}, p ∈ ordBy (fun p : Addr × Cr => agedC D.pace D.now p.2) (readyLn ln) → p ∈ ln := fun hm => (List.mem_filter.mp ((ord_mem _).mp hm)).1
      generalize ordBy (fun p : Addr × Cr => agedC D.pace D.now p.2) (readyLn ln) = os at hp3 eL oL oM
      refine ⟨_, rfl, p, rfl, ⟨_, .inl (.inl hp3)⟩, fun b2 nb2 => ?_⟩
      refine lc_it (walk_list (K := K) (xs := os.map fun p => V.ref p.1)) (Pv := fun i H' => Keep K [] H2 H' ∧ H' b2 = some (.lst (((os.take i).map (·.2.name)).map V.str)))
        ⟨Keep.new nb2, upd_same⟩ (fun i H' _ p => .inl (.inl (p.1.lst hp3 List.not_mem_nil))) ?_ ?_
      · rintro i v H3 H4 hi ⟨k3, hb3⟩ ⟨rfl, hv⟩
        rw [List.getElem?_map] at hv
        cases ep : os[i]? with
        | none =>
          rw [ep] at hv
          cases hv
        | some p' =>
          rw [ep] at hv
          obtain rfl : V.ref p'.1 = v := Option.some.inj hv
          have x3 := x2.keep k3 fun _ _ => List.not_mem_nil
          obtain ⟨dy, hc⟩ := id (x3.crs _ (oM (List.mem_of_getElem? ep)))
          refine ⟨rfl, ?_⟩
          refine ⟨_, rfl, p'.1, _, _, _, _, rfl, hc, T.cl_Caller, T.na_Caller_name, rfl, _, hb3, ?_, k3.set (.inl nb2) hb3 nt_lst, ?_⟩
          · rw [List.length_map, List.length_map, List.length_take]
            exact small1000 (by omega)
          · rw [upd_same, List.take_add_one, ep, List.map_append, List.map_append]
            rfl
      · rintro H3 ⟨k3, hb3⟩
        rw [List.length_map, List.take_of_length_le (Nat.le_refl _), eL] at hb3
        exact q b2 H3 (k1.trans (k2.trans k3)) (k1.gone _ (k2.gone _ nb2)) hb3
end
end Rr

set_option maxRecDepth 100000
set_option maxHeartbeats 4000000
/-! a desk's text -/
namespace Rr
open PySem PySem.Spec PyProof.Rows L2
open TL (tl tl_append len_tl tl_join joinL)
theorem byG {K : PySem.W.Frag} {H : Hp} {E : XK} {d : Addr} {S : List Addr} {D : Dk} {c : Cr} {q : Cr → Prop} (g : GoodD D) (hD : DkAt K H S d D) (hc : c ∈ D.line) (h : q c) : ByN K H E d S D c.name q :=
  ⟨isName_small (g.ok c hc), hD, fun z => absurd (name_in hc) z, fun c' hc' e => by rw [name_one g.nm hc' hc e]; exact h⟩
theorem sum_le {m : Nat} : ∀ {l : List Str}, (∀ r ∈ l, r.length ≤ m) → (l.map (·.length)).sum ≤ l.length * m
  | [], _ => Nat.zero_le _
  | x :: r, h => by
    rw [List.map_cons, List.sum_cons, List.length_cons, Nat.add_mul, Nat.one_mul]
    have h1 := h x List.mem_cons_self
    have h2 := sum_le (l := r) fun z hz => h z (List.mem_cons_of_mem _ hz)
    omega
/-- four words, put together -/
theorem four_words (a b c d : Str) : Str.empty ++ a ++ " " ++ b ++ " " ++ (Str.empty ++ c ++ " " ++ d) = Str.join " " [a, b, c, d] := by
  refine TL.ext_tl ?_
  rw [tl_join]
  simp only [tl_append]
  show ([] ++ tl a ++ tl " " ++ tl b ++ tl " " ++ ([] ++ tl c ++ tl " " ++ tl d) : List Nat) = tl a ++ (tl " " ++ (tl b ++ (tl " " ++ (tl c ++ (tl " " ++ tl d)))))
  simp
theorem four_words2 (a b c d : Str) : Str.empty ++ a ++ " " ++ b ++ " " ++ c ++ " " ++ d = Str.join " " [a, b, c, d] := by
  refine TL.ext_tl ?_
  rw [tl_join]
  simp only [tl_append]
  show ([] ++ tl a ++ tl " " ++ tl b ++ tl " " ++ tl c ++ tl " " ++ tl d : List Nat) = tl a ++ (tl " " ++ (tl b ++ (tl " " ++ (tl c ++ (tl " " ++ tl d)))))
  simp
theorem le1 : (" " : Str).length ≤ 1 := by decide +kernel
section
variable {P : Program} {w : World} {K : PySem.W.Frag} {mg : Str → Option Value} {base : Heap}
def sp_doing (K : PySem.W.Frag) : Sp := fun vs H Q _ => ∃ (d : Addr) (S : List Addr) (D : Dk) (c : Cr), vs = [.ref d, .str c.name] ∧ DkAt K H S d D ∧ GoodD D ∧ c ∈ D.line ∧ Q (.str (Str.empty ++ c.st.word ++ " " ++ c.st.told D.now)) H
theorem c_doing (T : Tx K mg base) : Cal P w K mg base 3 "doing" (sp_doing K) := by
  have c_Desk_left : Met P w K mg base 2 (He.ga K "Desk") "left" (sp_left K) := c_Desk_left T
  have c_Desk_bell : Met P w K mg base 2 (He.ga K "Desk") "bell" (sp_bell K) := c_Desk_bell T
  have c_Desk_state : Met P w K mg base 2 (He.ga K "Desk") "state" (sp_state K) := c_Desk_state T
  have c_Desk_waited : Met P w K mg base 2 (He.ga K "Desk") "waited" (sp_waited K) := c_Desk_waited T
  obtain ⟨fd, F⟩ := T.d_doing
  refine ⟨_, fd, ["desk", "name"], okF (k := 2) F sc_doing (fun vs H Q E h => ?_) (fun A outer s H vs Q E hr h => ?_), T.r_doing, F.kp, F.bindsN fun _ _ _ _ _ _ us hl => match us, hl with | [_, _], _ => rfl⟩
  · obtain ⟨d, S, D, c, rfl, _⟩ := h
    rfl
  · have nd := sc_doing.nd
    obtain ⟨d, S, D, c, rfl, hD, g, hc, q⟩ := h
    obtain ⟨L, ln, eS, x⟩ := id hD
    obtain ⟨dx, hd⟩ := id x.desk
    have w1 : c.st.word.length ≤ 12 := (word_ok c.st).1
    have w2 : (c.st.told D.now).length ≤ 12 := (told_ok g.t1 (g.st c hc)).1
    have a1 := fitN (k := 12) 0 12 len0 w1
    have a2 := fitN (k := 13) 12 1 a1 le1
    have a3 := fitN (k := 25) 13 12 a2 w2
    refine ⟨_, (pss_cons (ps_set (i := 2) nd rfl (Or.inl rfl) (pm c_Desk_state hr (by decide) (pU (L2N.takes_of rfl rfl rfl rfl)) (pv 0) (pa_cons (pv 1) pa_nil)))
  (pss_cons (ps_if (pt_cmpR op_eq (pv 2) (pgS (by rfl) T.h_READY) (nomark _))
  (pss_one (ps_ret (pe_joined (.cons (pe_fmt (pv 2)) (.cons pe_str (.cons (pe_fmt (pm c_Desk_waited hr (by decide) (pU (L2N.takes_of rfl rfl rfl rfl)) (pv 0) (pa_cons (pv 1) pa_nil))) .nil))))))
  pss_nil)
  (pss_cons (ps_if (pt_cmpR op_eq (pv 2) (pgS (by rfl) T.h_ASLEEP) (nomark _))
  (pss_one (ps_ret (pe_joined (.cons (pe_fmt (pv 2)) (.cons pe_str (.cons (pe_fmt (pm c_Desk_left hr (by decide) (pU (L2N.takes_of rfl rfl rfl rfl)) (pv 0) (pa_cons (pv 1) pa_nil))) .nil))))))
  pss_nil)
  (pss_one (ps_ret (pe_joined (.cons (pe_fmt (pv 2)) (.cons pe_str (.cons (pe_fmt (pm c_Desk_bell hr (by decide) (pU (L2N.takes_of rfl rfl rfl rfl)) (pv 0) (pa_cons (pv 1) pa_nil))) .nil))))))))), ?_⟩
    refine ⟨_, rfl, d, dx, _, rfl, hd, rfl, _, rfl, d, S, D, c.name, rfl, byG g hD hc ?_⟩
    refine ⟨_, rfl, rfl, _, rfl, ?_⟩
    rw [word_rdy]
    have gs := g.st c hc
    have t0 := g.t0
    have t1 := g.t1
    obtain ⟨n, r, st⟩ := c
    cases st with
    | rdy s =>
      refine iteT ⟨_, rfl, .inl ⟨_, rfl, line_of w1, _, rfl, line_of a1, _, rfl, line_of a2, _, rfl, d, dx, _, rfl, hd, rfl, _, rfl, d, S, D, n, rfl, byG (c := ⟨n, r, .rdy s⟩) g hD hc ⟨fun z => (nomatch z), fun _ => .inr ⟨_, rfl, ?_, _, rfl, line_of a3, q⟩⟩⟩⟩
      exact Mod.log (i := D.now - s) ⟨by have := gs.2; omega, by have := gs.1; omega⟩
    | slp u =>
      refine iteF ⟨_, rfl, rfl, _, rfl, iteT ⟨_, rfl, .inl ⟨_, rfl, line_of w1, _, rfl, line_of a1, _, rfl, line_of a2, _, rfl, d, dx, _, rfl, hd, rfl, _, rfl, d, S, D, n, rfl, byG (c := ⟨n, r, .slp u⟩) g hD hc (.inr ⟨_, rfl, ?_, _, rfl, line_of a3, q⟩)⟩⟩⟩
      exact Mod.log (i := u - D.now) ⟨by have := gs.1; omega, by have := gs.2; omega⟩
    | wtg b =>
      exact iteF ⟨_, rfl, rfl, _, rfl, iteF ⟨_, rfl, .inl ⟨_, rfl, line_of w1, _, rfl, line_of a1, _, rfl, line_of a2, _, rfl, d, dx, _, rfl, hd, rfl, _, rfl, d, S, D, n, rfl, byG (c := ⟨n, r, .wtg b⟩) g hD hc (.inl ⟨_, rfl, line_of w2, _, rfl, line_of a3, q⟩)⟩⟩⟩
def sp_shown (K : PySem.W.Frag) : Sp := fun vs H Q _ => ∃ (d : Addr) (S : List Addr) (D : Dk), vs = [.ref d] ∧ DkAt K H S d D ∧ GoodD D ∧ ∀ H', Keep K [] H H' → Q (.str (textD D)) H'
theorem c_shown (T : Tx K mg base) : Cal P w K mg base 4 "shown" (sp_shown K) := by
  have c_doing : Cal P w K mg base 3 "doing" (sp_doing K) := c_doing T
  have c_Desk_names : Met P w K mg base 1 (He.ga K "Desk") "names" (sp_names K) := c_Desk_names T
  have c_Desk_rank : Met P w K mg base 2 (He.ga K "Desk") "rank" (sp_rank K) := c_Desk_rank T
  obtain ⟨fd, F⟩ := T.d_shown
  refine ⟨_, fd, ["desk"], okF (k := 3) F sc_shown (fun vs H Q E h => ?_) (fun A outer s H vs Q E hr h => ?_), T.r_shown, F.kp, F.bindsN fun _ _ _ _ _ _ us hl => match us, hl with | [_], _ => rfl⟩
  · obtain ⟨d, S, D, rfl, _⟩ := h
    rfl
  · have nd := sc_shown.nd
    obtain ⟨d, S, D, rfl, hD, g, q⟩ := h
    obtain ⟨L, ln, eS, x⟩ := id hD
    obtain ⟨dx, hd⟩ := id x.desk
    obtain ⟨⟨p1, p2⟩, r1, r2⟩ := g.pr
    have t0 := g.t0
    have t1 := g.t1
    have hk := headD_ok g
    have w0 : ("desk" : Str).length ≤ 12 := (hk "desk" (by simp [headD])).1
    have w1 : (numT D.pace).length ≤ 12 := (hk (numT D.pace) (by simp [headD])).1
    have w2 : (numT D.room).length ≤ 12 := (hk (numT D.room) (by simp [headD])).1
    have w3 : (numT D.now).length ≤ 12 := (hk (numT D.now) (by simp [headD])).1
    have a0 := fitN (k := 12) 0 12 len0 w0
    have a1 := fitN (k := 13) 12 1 a0 le1
    have a2 := fitN (k := 25) 13 12 a1 w1
    have a3 := fitN (k := 26) 25 1 a2 le1
    have a4 := fitN (k := 38) 26 12 a3 w2
    have a5 := fitN (k := 39) 38 1 a4 le1
    have a6 := fitN (k := 51) 39 12 a5 w3
    refine ⟨_, (pss_cons (ps_set (i := 1) nd rfl (Or.inl rfl) (pe_lst (pa_cons (pe_joined (.cons (pe_fmt (pgS (by rfl) T.h_HEAD)) (.cons pe_str (.cons (pe_fmt (pe_fld (pv 0) rfl)) (.cons pe_str (.cons (pe_fmt (pe_fld (pv 0) rfl)) (.cons pe_str (.cons (pe_fmt (pe_fld (pv 0) rfl)) .nil)))))))) pa_nil)))
  (pss_cons (ps_for (passes_of rfl) rfl (pi_list (pm0 c_Desk_names hr (by decide) p0 (pv 0))) (pg_name (i := 2) nd rfl (Or.inl rfl))
  (pss_one (ps_expr (pe_bm PySem.F.plainAttrs_list PySem.F.slot_list_append PySem.F.type_list_append mt_append (pv 1) (pa_cons (pe_joined (.cons (pe_fmt (pv 2)) (.cons pe_str (.cons (pe_fmt (pm c_Desk_rank hr (by decide) (pU (L2N.takes_of rfl rfl rfl rfl)) (pv 0) (pa_cons (pv 2) pa_nil))) (.cons pe_str (.cons (pe_fmt (pf c_doing hr (by decide) (by rfl) p0 (pa_cons (pv 0) (pa_cons (pv 2) pa_nil)))) .nil)))))) pa_nil)))))
  (pss_one (ps_ret (pe_op op_add_str (pe_join pe_str (pv 1)) pe_str))))), ?_⟩
    refine .inl ⟨_, rfl, line_of w0, _, rfl, line_of a0, _, rfl, line_of a1, _, rfl, d, _, _, _, _, rfl, hd, T.cl_Desk, T.na_Desk_pace, rfl, .inr ⟨_, rfl, Mod.log (i := D.pace) ⟨by omega, by omega⟩, _, rfl, line_of a2, _, rfl, line_of a3, _, rfl, d, _, _, _, _, rfl, hd, T.cl_Desk, T.na_Desk_room, rfl, .inr ⟨_, rfl, Mod.log (i := D.room) ⟨by omega, by omega⟩, _, rfl, line_of a4, _, rfl, line_of a5, _, rfl, d, _, _, _, _, rfl, hd, T.cl_Desk, T.na_Desk_now, rfl, .inr ⟨_, rfl, Mod.log (i := D.now) ⟨by omega, by omega⟩, _, rfl, line_of a6, (show 1 ≤ sizeLine by decide), fun b nb => ?_⟩⟩⟩⟩
    have e0 : Str.empty ++ "desk" ++ " " ++ Str.ofString (toString D.pace) ++ " " ++ Str.ofString (toString D.room) ++ " " ++ Str.ofString (toString D.now) = Str.join " " (headD D) := four_words2 _ _ _ _
    rw [e0]
    have kb : Keep K [] H (L2.upd H b (.lst [V.str (Str.join " " (headD D))])) := Keep.new nb
    have hb0 : (L2.upd H b (.lst [V.str (Str.join " " (headD D))])) b = some (.lst ([Str.join " " (headD D)].map V.str)) := upd_same
    generalize L2.upd H b (.lst [V.str (Str.join " " (headD D))]) = H1 at kb hb0 ⊢
    have hD1 := hD.keep0 kb
    obtain ⟨L1, ln1, eS1, x1⟩ := id hD1
    obtain ⟨dx1, hd1⟩ := id x1.desk
    refine ⟨_, rfl, d, dx1, _, rfl, hd1, rfl, d, S, D, rfl, hD1, fun p np => ⟨p, rfl, ⟨_, .inl (.inl upd_same)⟩, ?_⟩⟩
    have kp : Keep K [] H1 (L2.upd H1 p (.lst ((namesL D.line).map V.str))) := Keep.new np
    have hp0 : (L2.upd H1 p (.lst ((namesL D.line).map V.str))) p = some (.lst ((namesL D.line).map V.str)) := upd_same
    have hb1 := kp.lst hb0 List.not_mem_nil
    generalize L2.upd H1 p (.lst ((namesL D.line).map V.str)) = H2 at kp hp0 hb1 ⊢
    have k02 := kb.trans kp
    have bp : b ≠ p := fun z => by
      rw [z, np] at hb0
      cases hb0
    have l60 : D.line.length ≤ 60 := by have := g.len; omega
    refine for_it (walk_list (xs := (namesL D.line).map V.str)) (fun i σ H' => ∃ v, σ = [some (.ref d), some (.ref b), v] ∧ Keep K [] H H' ∧ H' p = some (.lst ((namesL D.line).map V.str)) ∧ H' b = some (.lst ((Str.join " " (headD D) :: (D.line.take i).map fun c => Str.join " " (wordsC D.now c)).map V.str)))
      ⟨none, rfl, k02, hp0, hb1⟩ ?_ ?_ ?_
    · rintro i σ H' _ ⟨v, rfl, _, h, _⟩
      exact .inl (.inl h)
    · rintro i v σ H3 H4 hi ⟨v0, rfl, k3, hp3, hb3⟩ ⟨rfl, hv⟩
      unfold namesL at hv
      rw [List.map_map, List.getElem?_map] at hv
      cases ec : D.line[i]? with
      | none =>
        rw [ec] at hv
        cases hv
      | some c =>
        rw [ec] at hv
        obtain rfl : V.str c.name = v := Option.some.inj hv
        have hc := List.mem_of_getElem? ec
        have hD3 := hD.keep0 k3
        obtain ⟨L3, ln3, eS3, x3⟩ := id hD3
        obtain ⟨dx3, hd3⟩ := id x3.desk
        have wk := wordsC_ok t1 (g.ok c hc) (g.rk c hc) (g.st c hc)
        have v1 : c.name.length ≤ 12 := (wk c.name (by simp [wordsC])).1
        have v2 : (numT c.rank).length ≤ 12 := (wk (numT c.rank) (by simp [wordsC])).1
        have v3 : c.st.word.length ≤ 12 := (wk c.st.word (by simp [wordsC])).1
        have v4 : (c.st.told D.now).length ≤ 12 := (wk (c.st.told D.now) (by simp [wordsC])).1
        have b0 := fitN (k := 12) 0 12 len0 v1
        have b1 := fitN (k := 13) 12 1 b0 le1
        have b2 := fitN (k := 25) 13 12 b1 v2
        have b3 := fitN (k := 26) 25 1 b2 le1
        have c0 := fitN (k := 12) 0 12 len0 v3
        have c1 := fitN (k := 13) 12 1 c0 le1
        have c2 := fitN (k := 25) 13 12 c1 v4
        have b4 := fitN (k := 51) 26 25 b3 c2
        have rk := g.rk c hc
        refine ⟨_, rfl, .inl ⟨rfl, _, .inl (.inl hb3)⟩, _, rfl, .inl ⟨_, rfl, line_of v1, _, rfl, line_of b0, _, rfl, line_of b1, _, rfl, d, dx3, _, rfl, hd3, rfl, _, rfl, d, S, D, c.name, rfl, byG g hD3 hc ?_⟩⟩
        refine .inr ⟨_, rfl, Mod.log (i := c.rank) ⟨by omega, by omega⟩, _, rfl, line_of b2, _, rfl, line_of b3, _, rfl, _, rfl, d, S, D, c, rfl, hD3, g, hc, .inl ⟨_, rfl, line_of c2, _, rfl, line_of b4, ?_⟩⟩
        have er : Str.empty ++ c.name ++ " " ++ Str.ofString (toString c.rank) ++ " " ++ (Str.empty ++ c.st.word ++ " " ++ c.st.told D.now) = Str.join " " (wordsC D.now c) := four_words _ _ _ _
        rw [er]
        refine ⟨b, _, _, rfl, rfl, hb3, ?_, _, rfl, k3.set (.inl nb) hb3 nt_lst, ?_, ?_⟩
        · rw [List.length_map, List.length_cons, List.length_map, List.length_take]
          exact small1000 (by omega)
        · exact (upd_ne bp.symm).trans hp3
        · rw [upd_same, List.take_add_one, ec, List.map_cons, List.map_cons, List.map_append, List.map_append]
          rfl
    · rintro σ H3 ⟨v, rfl, k3, hp3, hb3⟩
      have eT : (D.line.take ((namesL D.line).map V.str).length) = D.line := by
        unfold namesL
        rw [List.length_map, List.length_map, List.take_of_length_le (Nat.le_refl _)]
      rw [eT] at hb3
      have hb3 : H3 b = some (.lst ((rowsD D).map V.str)) := hb3
      have rl : (rowsD D).length ≤ 61 := by
        show (_ :: D.line.map _).length ≤ 61
        rw [List.length_cons, List.length_map]
        omega
      have sm := sum_le (m := 52) (l := rowsD D) fun r hr => (row_of g hr).2
      refine ⟨⟨_, rfl⟩, _, rfl, _, b, rowsD D, rfl, rfl, .inl (.inl (.inl hb3)), ?_, ?_⟩
      · have : ("\n" : Str).length = 1 := by decide +kernel
        rw [this]
        have := Nat.mul_le_mul_right 52 rl
        omega
      · rw [TL.join_eq]
        have := rows_len g
        have nl : ("\n" : Str).length = 1 := by decide +kernel
        refine ⟨_, _, rfl, rfl, ?_, q H3 k3⟩
        rw [nl, sizeLine_eq]
        omega
end
end Rr

set_option maxRecDepth 100000
set_option maxHeartbeats 4000000
namespace Rr
open PySem PySem.Spec PyProof.Rows L2
open GxR (TabG Tabbed)
open Evl (pss_cut)
open TL (tl tl_append len_tl)
/-! the laws' words: cells, numbers, names -/
def paceBy (c : Int) : Int := ([1, 2, 3, 1 + mix c 10067 1000] : List Int).getD (mix c 10069 4).toNat 1
theorem pace_ok (c : Int) : 1 ≤ paceBy c ∧ paceBy c ≤ 1000 := by
  have h := mix_nn (c := c) (p := 10069) (m := 4) (by decide)
  have h2 := mix_nn (c := c) (p := 10067) (m := 1000) (by decide)
  have h3 : (mix c 10069 4).toNat = 0 ∨ (mix c 10069 4).toNat = 1 ∨ (mix c 10069 4).toNat = 2 ∨ (mix c 10069 4).toNat = 3 := by omega
  unfold paceBy
  rcases h3 with e | e | e | e <;> rw [e] <;> simp <;> omega
section
variable {P : Program} {w : World} {K : PySem.W.Frag} {mg : Str → Option Value} {base : Heap}
def sp_cell (K : PySem.W.Frag) : Sp := fun vs H Q _ => ∃ (a : Addr) (ns : List Int) (k : Int), vs = [.ref a, .int k] ∧ SqL K H a (ns.map V.int) ∧ 0 ≤ k ∧ Q (.int (cell ns k)) H
theorem c__law_cell_at (T : Tx K mg base) : Cal P w K mg base 1 "_law_cell_at" (sp_cell K) := by
  obtain ⟨fd, F⟩ := T.d__law_cell_at
  refine ⟨_, fd, ["_law_script", "_law_k"], okF (k := 0) F sc__law_cell_at (fun vs H Q E h => ?_) (fun A outer s H vs Q E hr h => ?_), T.r__law_cell_at, F.kp, F.bindsN fun _ _ _ _ _ _ us hl => match us, hl with | [_, _], _ => rfl⟩
  · obtain ⟨a, ns, k, rfl, _⟩ := h
    rfl
  · have nd := sc__law_cell_at.nd
    obtain ⟨a, ns, z, rfl, hS, hz, q⟩ := h
    obtain ⟨k, rfl⟩ : ∃ k : Nat, z = k := ⟨z.toNat, by omega⟩
    refine ⟨_, (pss_cons (ps_if (pt_cmpR op_lt (pv 1) (pe_callB call_len_seq (by rfl) T.m_len boot_len (pa_cons (pv 0) pa_nil)) (nomark _))
  (pss_one (ps_ret (pe_ix ix_list (pv 0) (pv 1) (fun _ _ => rfl))))
  pss_nil)
  (pss_one (ps_ret pe_int))), ?_⟩
    refine ⟨_, rfl, _, rfl, a, _, rfl, .inl hS, _, _, rfl, rfl, _, rfl, ite2 (fun e => ?_) (fun e => ?_)⟩
    · have e0 : (k : Int) < ((ns.map V.int).length : Int) := of_decide_eq_true e
      rw [List.length_map] at e0
      have hk : k < ns.length := by omega
      refine ⟨_, rfl, _, rfl, a, _, _, _, rfl, rfl, hS, atI_nat (j := k) (by rw [List.getElem?_map, List.getElem?_eq_getElem hk]; rfl), ?_⟩
      have e1 : cell ns k = ns[k] := by
        unfold cell
        rw [Int.toNat_natCast, List.getD_eq_getElem?_getD, List.getElem?_eq_getElem hk]
        rfl
      rw [e1] at q
      exact q
    · have e0 : ¬ (k : Int) < ((ns.map V.int).length : Int) := fun z => e (decide_eq_true z)
      rw [List.length_map] at e0
      have e1 : cell ns k = 0 := by
        unfold cell
        rw [Int.toNat_natCast, List.getD_eq_getElem?_getD, List.getElem?_eq_none (by omega)]
        rfl
      rw [e1] at q
      exact q
def sp_mix : Sp := fun vs H Q _ => ∃ c p m : Int, vs = [.int c, .int p, .int m] ∧ 0 < p ∧ 0 < m ∧ Q (.int (mix c p m)) H
theorem c__law_mix (T : Tx K mg base) : Cal P w K mg base 1 "_law_mix" sp_mix := by
  obtain ⟨fd, F⟩ := T.d__law_mix
  refine ⟨_, fd, ["_law_cell", "_law_prime", "_law_many_here"], okF (k := 0) F sc__law_mix (fun vs H Q E h => ?_) (fun A outer s H vs Q E hr h => ?_), T.r__law_mix, F.kp, F.bindsN fun _ _ _ _ _ _ us hl => match us, hl with | [_, _, _], _ => rfl⟩
  · obtain ⟨c, p, m, rfl, _⟩ := h
    rfl
  · have nd := sc__law_mix.nd
    obtain ⟨c, p, m, rfl, hp, hm, q⟩ := h
    refine ⟨_, (pss_one (ps_ret (pe_op op_mod (pe_op op_mod (pe_op op_mul (pv 0) pe_int) (pv 1)) (pv 2)))), ?_⟩
    exact ⟨_, rfl, _, _, rfl, rfl, .inr ⟨by decide, by decide⟩, _, rfl, _, _, rfl, rfl, hp, _, rfl, _, _, rfl, rfl, hm, q⟩
def sp_pace_by (K : PySem.W.Frag) : Sp := fun vs H Q _ => ∃ c : Int, vs = [.int c] ∧ ∀ H', Keep K [] H H' → Q (.int (paceBy c)) H'
theorem c__law_pace_by (T : Tx K mg base) : Cal P w K mg base 2 "_law_pace_by" (sp_pace_by K) := by
  have c__law_mix : Cal P w K mg base 1 "_law_mix" sp_mix := c__law_mix T
  obtain ⟨fd, F⟩ := T.d__law_pace_by
  refine ⟨_, fd, ["_law_cell"], okF (k := 1) F sc__law_pace_by (fun vs H Q E h => ?_) (fun A outer s H vs Q E hr h => ?_), T.r__law_pace_by, F.kp, F.bindsN fun _ _ _ _ _ _ us hl => match us, hl with | [_], _ => rfl⟩
  · obtain ⟨c, rfl, _⟩ := h
    rfl
  · have nd := sc__law_pace_by.nd
    obtain ⟨c, rfl, k⟩ := h
    refine ⟨_, (pss_one (ps_ret (pe_ix ix_list (pe_lst (pa_cons pe_int (pa_cons pe_int (pa_cons pe_int (pa_cons (pe_op op_add pe_int (pf c__law_mix hr (by decide) (by rfl) p0 (pa_cons (pv 0) (pa_cons pe_int (pa_cons pe_int pa_nil))))) pa_nil))))) (pf c__law_mix hr (by decide) (by rfl) p0 (pa_cons (pv 0) (pa_cons pe_int (pa_cons pe_int pa_nil)))) (fun _ _ => rfl)))), ?_⟩
    refine ⟨_, rfl, c, 10067, 1000, rfl, by decide, by decide, _, _, rfl, rfl, (by show 4 ≤ sizeLine; decide), fun q hq => ?_⟩
    refine ⟨_, rfl, c, 10069, 4, rfl, by decide, by decide, q, _, _, .int (paceBy c), rfl, rfl, .inl (.inl upd_same), ?_, k _ (Keep.new hq)⟩
    have h := mix_nn (c := c) (p := 10069) (m := 4) (by decide)
    have h3 : (mix c 10069 4) = 0 ∨ (mix c 10069 4) = 1 ∨ (mix c 10069 4) = 2 ∨ (mix c 10069 4) = 3 := by omega
    unfold paceBy
    rcases h3 with e | e | e | e <;> rw [e] <;> rfl
def sp_rank_by (K : PySem.W.Frag) : Sp := fun vs H Q _ => ∃ c : Int, vs = [.int c] ∧ ∀ r H', Keep K [] H H' → 0 ≤ r ∧ r ≤ 99 → Q (.int r) H'
theorem c__law_rank_by (T : Tx K mg base) : Cal P w K mg base 2 "_law_rank_by" (sp_rank_by K) := by
  have c__law_mix : Cal P w K mg base 1 "_law_mix" sp_mix := c__law_mix T
  obtain ⟨fd, F⟩ := T.d__law_rank_by
  refine ⟨_, fd, ["_law_cell"], okF (k := 1) F sc__law_rank_by (fun vs H Q E h => ?_) (fun A outer s H vs Q E hr h => ?_), T.r__law_rank_by, F.kp, F.bindsN fun _ _ _ _ _ _ us hl => match us, hl with | [_], _ => rfl⟩
  · obtain ⟨c, rfl, _⟩ := h
    rfl
  · have nd := sc__law_rank_by.nd
    obtain ⟨c, rfl, k⟩ := h
    refine ⟨_, (pss_one (ps_ret (pe_ix ix_list (pe_lst (pa_cons (pf c__law_mix hr (by decide) (by rfl) p0 (pa_cons (pv 0) (pa_cons pe_int (pa_cons pe_int pa_nil)))) (pa_cons (pe_op op_sub pe_int (pf c__law_mix hr (by decide) (by rfl) p0 (pa_cons (pv 0) (pa_cons pe_int (pa_cons pe_int pa_nil))))) (pa_cons pe_int (pa_cons pe_int pa_nil))))) (pf c__law_mix hr (by decide) (by rfl) p0 (pa_cons (pv 0) (pa_cons pe_int (pa_cons pe_int pa_nil)))) (fun _ _ => rfl)))), ?_⟩
    have h := mix_nn (c := c) (p := 10061) (m := 4) (by decide)
    have h1 := mix_nn (c := c) (p := 10037) (m := 100) (by decide)
    have h2 := mix_nn (c := c) (p := 10039) (m := 3) (by decide)
    have h3 : (mix c 10061 4) = 0 ∨ (mix c 10061 4) = 1 ∨ (mix c 10061 4) = 2 ∨ (mix c 10061 4) = 3 := by omega
    refine ⟨_, rfl, c, 10037, 100, rfl, by decide, by decide, _, rfl, c, 10039, 3, rfl, by decide, by decide, _, _, rfl, rfl, (by show 4 ≤ sizeLine; decide), fun q hq => ?_⟩
    refine ⟨_, rfl, c, 10061, 4, rfl, by decide, by decide, q, _, _, .int (([mix c 10037 100, 99 - mix c 10039 3, 0, 97] : List Int).getD (mix c 10061 4).toNat 0), rfl, rfl, .inl (.inl upd_same), ?_, k _ _ (Keep.new hq) ?_⟩
    · rcases h3 with e | e | e | e <;> rw [e] <;> rfl
    · rcases h3 with e | e | e | e <;> rw [e] <;> simp <;> omega
def sp_room_by (K : PySem.W.Frag) : Sp := fun vs H Q _ => ∃ c : Int, vs = [.int c] ∧ ∀ r H', Keep K [] H H' → 1 ≤ r ∧ r ≤ 60 → Q (.int r) H'
theorem c__law_room_by (T : Tx K mg base) : Cal P w K mg base 1 "_law_room_by" (sp_room_by K) := by
  obtain ⟨fd, F⟩ := T.d__law_room_by
  refine ⟨_, fd, ["_law_cell"], okF (k := 0) F sc__law_room_by (fun vs H Q E h => ?_) (fun A outer s H vs Q E hr h => ?_), T.r__law_room_by, F.kp, F.bindsN fun _ _ _ _ _ _ us hl => match us, hl with | [_], _ => rfl⟩
  · obtain ⟨c, rfl, _⟩ := h
    rfl
  · have nd := sc__law_room_by.nd
    obtain ⟨c, rfl, k⟩ := h
    refine ⟨_, (pss_one (ps_ret (pe_ix ix_list (pe_lst (pa_cons (pe_op op_add pe_int (pe_op op_mod (pe_op op_fdiv (pv 0) pe_int) pe_int)) (pa_cons pe_int (pa_cons (pe_op op_add pe_int (pe_op op_mod (pe_op op_fdiv (pv 0) pe_int) pe_int)) pa_nil)))) (pe_op op_mod (pv 0) pe_int) (fun _ _ => rfl)))), ?_⟩
    have h3 : c % 3 = 0 ∨ c % 3 = 1 ∨ c % 3 = 2 := by omega
    refine ⟨_, rfl, _, _, rfl, rfl, ⟨by decide, by decide⟩, _, _, rfl, rfl, (show (0 : Int) < 4 by decide), _, _, rfl, rfl, _, rfl, _, _, rfl, rfl, ⟨by decide, by decide⟩, _, _, rfl, rfl, (show (0 : Int) < 60 by decide), _, _, rfl, rfl, (by show 3 ≤ sizeLine; decide), fun q hq => ?_⟩
    refine ⟨_, rfl, _, _, rfl, rfl, (show (0 : Int) < 3 by decide), q, _, _, .int (([1 + c / 3 % 4, 7, 1 + c / 3 % 60] : List Int).getD (c % 3).toNat 0), rfl, rfl, .inl (.inl upd_same), ?_, k _ _ (Keep.new hq) ?_⟩
    · rcases h3 with e | e | e <;> rw [e] <;> rfl
    · rcases h3 with e | e | e <;> rw [e] <;> simp <;> omega
def sp_name_by (K : PySem.W.Frag) : Sp := fun vs H Q _ => ∃ k c : Int, vs = [.int k, .int c] ∧ 0 ≤ k ∧ k < 80 ∧ ∀ H', Keep K [] H H' → Q (.str (nameBy k c)) H'
theorem S_some (c : Int) : (if mix c 10259 5 = 0 then ("0123456789" : Str) else "abcdefghijklmnopqrstuvwxyz0123456789") = SX.S (someL c) := by
  unfold someL
  split <;> exact (SX.S_tl _).symm
theorem some_len (c : Int) : (SX.S (someL c)).length ≤ 36 := by
  rw [SX.S_len]
  have := manyL_of c
  rcases manyL_c c with e | e <;> omega
theorem join_ones (xs : List Nat) : Txt.join Str.empty (xs.map fun c => SX.S [c]) = SX.S xs := by
  have e : xs.map (fun c => SX.S [c]) = (xs.map fun c => [c]).map SX.S := by
    rw [List.map_map]
    rfl
  rw [e]
  show Txt.join (SX.S []) _ = _
  rw [SX.join_S]
  congr 1
  induction xs with
  | nil => rfl
  | cons c r ih =>
    cases r with
    | nil => rfl
    | cons c2 r2 =>
      show [c] ++ ([] ++ TL.joinL [] ((c2 :: r2).map fun c => [c])) = _
      rw [ih (by rw [List.map_map]; rfl)]
      rfl
theorem cut_to {l : List Nat} {a : Nat} (h : a ≤ l.length) : cutS (SX.S l) none (some (a : Int)) = SX.S (l.take a) := by
  have hs : HT.sIx (SX.S l).length (SX.S l).length (some (a : Int)) = a := by
    rw [SX.S_len]
    unfold HT.sIx
    simp
    rw [if_neg (by omega)]
    omega
  refine TL.ext_tl ?_
  show (l.drop 0).take (HT.sIx _ _ (some (a : Int)) - 0) = l.take a
  rw [hs, List.drop_zero, Nat.sub_zero]
theorem cut_from {l : List Nat} {a : Nat} (h : a ≤ l.length) : cutS (SX.S l) (some (a : Int)) none = SX.S (l.drop a) := by
  have hs : HT.sIx (SX.S l).length 0 (some (a : Int)) = a := by
    rw [SX.S_len]
    unfold HT.sIx
    simp
    rw [if_neg (by omega)]
    omega
  refine TL.ext_tl ?_
  show (l.drop (HT.sIx _ 0 (some (a : Int)))).take ((SX.S l).length - HT.sIx _ 0 (some (a : Int))) = l.drop a
  rw [hs, SX.S_len, List.take_of_length_le (by rw [List.length_drop]; exact Nat.le_refl _)]
theorem c__law_name_by (T : Tx K mg base) : Cal P w K mg base 2 "_law_name_by" (sp_name_by K) := by
  have c__law_mix : Cal P w K mg base 1 "_law_mix" sp_mix := c__law_mix T
  obtain ⟨fd, F⟩ := T.d__law_name_by
  refine ⟨_, fd, ["_law_k", "_law_cell"], okF (k := 1) F sc__law_name_by (fun vs H Q E h => ?_) (fun A outer s H vs Q E hr h => ?_), T.r__law_name_by, F.kp, F.bindsN fun _ _ _ _ _ _ us hl => match us, hl with | [_, _], _ => rfl⟩
  · obtain ⟨k, c, rfl, _⟩ := h
    rfl
  · have nd := sc__law_name_by.nd
    obtain ⟨k, c, rfl, h0, h1, q⟩ := h
    refine ⟨_, (pss_cons (ps_set (i := 2) nd rfl (Or.inr rfl) pe_str)
  (pss_cut (ps_if (pt_cmpR op_eq (pf c__law_mix hr (by decide) (by rfl) p0 (pa_cons (pv 1) (pa_cons pe_int (pa_cons pe_int pa_nil)))) pe_int (nomark _))
  (pss_one (ps_set (i := 2) nd rfl (Or.inr rfl) pe_str))
  pss_nil)
  (pss_cons (ps_set (i := 3) nd rfl (Or.inr rfl) (pe_callB call_len_str (by rfl) T.m_len boot_len (pa_cons (pv 2) pa_nil)))
  (pss_cons (ps_set (i := 4) nd rfl (Or.inl rfl) (pe_ix ix_str (pv 2) (pe_op op_fdiv (pe_op op_add (pv 0) (pe_op op_mod (pv 1) (pv 3))) (pv 3)) (fun _ _ => rfl)))
  (pss_cons (ps_set (i := 5) nd rfl (Or.inl rfl) (pe_ix ix_str (pv 2) (pe_op op_mod (pe_op op_add (pv 0) (pv 1)) (pv 3)) (fun _ _ => rfl)))
  (pss_cons (ps_if (pt_cmpR op_eq (pf c__law_mix hr (by decide) (by rfl) p0 (pa_cons (pv 1) (pa_cons pe_int (pa_cons pe_int pa_nil)))) pe_int (nomark _))
  (pss_cons (ps_set (i := 6) nd rfl (Or.inl rfl) (pe_op op_add pe_int (pf c__law_mix hr (by decide) (by rfl) p0 (pa_cons (pv 1) (pa_cons pe_int (pa_cons pe_int pa_nil))))))
  (pss_cons (ps_set (i := 7) nd rfl (Or.inl rfl) (pf c__law_mix hr (by decide) (by rfl) p0 (pa_cons (pv 1) (pa_cons pe_int (pa_cons (pe_op op_sub (pv 6) pe_int) pa_nil)))))
  (pss_cons (ps_set (i := 9) nd rfl (Or.inl rfl) (pe_join pe_str (pe_lc (own := [("_law_j", 8)]) (g := gName 8) (tt := tYes) rfl nd (pi_range1 (by rfl) T.m_range (pa_cons (pv 6) pa_nil)) (blkOk_by (N := N__law_name_by) (sc := defScope s__law_name_by) (by decide +kernel)) (fun _ _ _ _ _ => (pg_name (i := 8) nd rfl (Or.inl rfl))) (fun _ _ _ _ _ => pts_nil) (fun _ _ _ _ _ => (pe_ix ix_str (pv 2) (pe_op op_mod (pe_op op_add (pe_op op_fdiv (pv 1) pe_int) (pe_op op_mul pe_int (pv 8))) (pv 3)) (fun _ _ => rfl))))))
  (pss_one (ps_ret (pe_op op_add_str (pe_op op_add_str (pe_op op_add_str (pe_slice sl_str (pv 9) po_none (po_some (pv 7))) (pv 4)) (pv 5)) (pe_slice sl_str (pv 9) (po_some (pe_op op_add (pv 7) pe_int)) po_none)))))))
  pss_nil)
  (pss_cut (ps_if (PW.pt (pw_and (pt_cmpR op_lt (pv 0) (pv 3) (nomark _)) (pw_and1 (pt_cmpR op_eq (pf c__law_mix hr (by decide) (by rfl) p0 (pa_cons (pe_op op_add (pv 1) (pe_op op_mul pe_int (pv 0))) (pa_cons pe_int (pa_cons pe_int pa_nil)))) pe_int (nomark _)))))
  (pss_one (ps_ret (pv 5)))
  pss_nil)
  (pss_cons (ps_set (i := 9) nd rfl (Or.inl rfl) (pe_op op_add_str (pv 4) (pv 5)))
  (pss_cons (ps_for (passes_of rfl) rfl (pi_range1 (by rfl) T.m_range (pa_cons (pf c__law_mix hr (by decide) (by rfl) p0 (pa_cons (pe_op op_add (pv 1) (pv 0)) (pa_cons pe_int (pa_cons pe_int pa_nil)))) pa_nil)) (pg_name (i := 8) nd rfl (Or.inl rfl))
  (pss_cons (ps_set (i := 7) nd rfl (Or.inl rfl) (pe_op op_add (pe_op op_add (pe_op op_fdiv (pv 1) pe_int) (pe_op op_mul pe_int (pv 8))) (pe_op op_mul (pv 0) (pv 8))))
  (pss_one (ps_set (i := 9) nd rfl (Or.inl rfl) (pe_op op_add_str (pv 9) (pe_ix ix_str (pv 2) (pe_op op_mod (pv 7) (pv 3)) (fun _ _ => rfl)))))))
  (pss_cons (ps_if (pt_cmpR op_eq (pe_op op_mod (pe_op op_fdiv (pv 1) pe_int) pe_int) pe_int (nomark _))
  (pss_one (ps_ret (pe_revS (pv 9))))
  pss_nil)
  (pss_one (ps_ret (pv 9))))))))))))), ?_⟩
    refine ⟨fun σ' H1 => H = H1 ∧ σ' = [some (.int k), some (.int c), some (.str (SX.S (someL c))), none, none, none, none, none, none, none], ?_, ?_⟩
    · refine ⟨_, rfl, c, 10259, 5, rfl, by decide, by decide, rfl, _, rfl, ?_⟩
      have e := S_some c
      by_cases z : mix c 10259 5 = 0
      · rw [if_pos z] at e
        rw [decide_eq_true (show V.int (mix c 10259 5) = V.int 0 by rw [z])]
        refine iteT ⟨rfl, ?_⟩
        rw [← e]
        rfl
      · rw [if_neg z] at e
        rw [decide_eq_false (show ¬ V.int (mix c 10259 5) = V.int 0 from fun y => z (V.int.inj y))]
        refine iteF ⟨rfl, ?_⟩
        rw [← e]
        rfl
    rintro σ' _ ⟨rfl, rfl⟩
    have hl : ((SX.S (someL c)).length : Int) = manyL c := by rw [SX.S_len]; exact manyL_of c
    have hm := manyL_c c
    have sl : (SX.S (someL c)).length ≤ sizeLine := line_of (some_len c)
    refine ⟨_, rfl, _, rfl, sl, ?_⟩
    rw [hl]
    have m0 : 0 < manyL c := by omega
    have m1 : manyL c < 1073741824 := by omega
    refine ⟨_, rfl, _, rfl, _, rfl, _, rfl, _, _, rfl, rfl, m0, _, _, rfl, rfl, _, rfl, _, _, rfl, rfl, ⟨m0, m1⟩, _, _, sgn c (nearI k c), rfl, rfl, sl, sgn_at (near_ok h0 h1).1 (near_ok h0 h1).2, ?_⟩
    refine ⟨_, rfl, _, rfl, _, rfl, _, _, rfl, rfl, _, rfl, _, _, rfl, rfl, m0, _, _, sgn c (tellI k c), rfl, rfl, sl, sgn_at tell_ok.1 tell_ok.2, ?_⟩
    refine ⟨_, rfl, c, 10303, 2, rfl, by decide, by decide, rfl, _, rfl, ?_⟩
    have n1 : ∀ z : Nat, (SX.S [z]).length = 1 := fun z => SX.S_len _
    by_cases z : mix c 10303 2 = 0
    · rw [decide_eq_true (show V.int (mix c 10303 2) = V.int 0 by rw [z])]
      have b1 := mix_nn (c := c) (p := 10313) (m := 11) (by decide)
      have b2 := mix_nn (c := c) (p := 10321) (m := 2 + mix c 10313 11 - 1) (by omega)
      have eat : mix c 10321 (2 + mix c 10313 11 - 1) = ((atN c : Nat) : Int) := by unfold atN; omega
      refine iteT ⟨_, rfl, c, 10313, 11, rfl, by decide, by decide, _, _, rfl, rfl, ?_⟩
      refine ⟨_, rfl, _, rfl, _, _, rfl, rfl, c, 10321, _, rfl, by decide, by omega, ?_⟩
      refine ⟨⟨_, rfl⟩, _, rfl, 2 + mix c 10313 11, rfl, by omega, by omega, fun D hD => ?_⟩
      refine lc_it walk_range (Pv := fun i H' => Keep K [] H H' ∧ H' D = some (.lst ((((List.range i).map fun (j : Nat) => sgn c ((c / 72 + 7 * (0 + (j : Int))) % manyL c)).map fun c => SX.S [c]).map V.str))) ⟨Keep.new hD, upd_same⟩ (fun _ _ _ _ => trivial) ?_ ?_
      · rintro i x H1 H2 hi ⟨k1, hd⟩ ⟨rfl, rfl⟩
        have hi' : i < (2 + mix c 10313 11).toNat := hi
        refine ⟨rfl, ?_⟩
        have hr0 : 0 ≤ (c / 72 + 7 * (0 + (i : Int))) % manyL c := Int.emod_nonneg _ (by omega)
        have hr1 : (c / 72 + 7 * (0 + (i : Int))) % manyL c < manyL c := Int.emod_lt_of_pos _ m0
        refine ⟨_, rfl, _, rfl, _, _, rfl, rfl, ⟨by decide, by decide⟩, _, rfl, _, _, rfl, rfl, .inl ⟨by decide, by decide⟩, _, _, rfl, rfl, _, rfl, _, _, rfl, rfl, m0, _, _, sgn c ((c / 72 + 7 * (0 + (i : Int))) % manyL c), rfl, rfl, sl, sgn_at hr0 hr1, _, hd, ?_, k1.set (.inl hD) hd nt_lst, ?_⟩
        · rw [List.length_map, List.length_map, List.length_map, List.length_range]
          exact small1000 (by omega)
        · rw [upd_same, List.range_succ, List.map_append, List.map_append, List.map_append]
          rfl
      · rintro H1 ⟨k1, hd⟩
        have eb : ((List.range (2 + mix c 10313 11).toNat).map fun (j : Nat) => sgn c ((c / 72 + 7 * (0 + (j : Int))) % manyL c)) = baseL c := rfl
        rw [eb] at hd
        have bl := base_len c
        refine ⟨_, D, _, rfl, rfl, .inl (.inl (.inl hd)), ?_, ?_⟩
        · have : ((baseL c).map fun c => SX.S [c]).map (·.length) = (baseL c).map fun _ => 1 := by
            rw [List.map_map]
            exact List.map_congr_left fun z _ => n1 z
          rw [this, List.length_map, List.map_const', List.sum_replicate_nat]
          show (baseL c).length * 1 + (baseL c).length * 0 ≤ _
          omega
        have ej : Txt.join ("" : Str) ((baseL c).map fun c => SX.S [c]) = SX.S (baseL c) := join_ones _
        rw [ej]
        have l20 : ∀ l : List Nat, l.length ≤ 20 → (SX.S l).length ≤ 20 := fun l h => by rw [SX.S_len]; exact h
        have hb20 : (baseL c).length ≤ 20 := by omega
        have at2 := at_ok c
        rw [eat]
        refine ⟨_, rfl, _, rfl, _, rfl, _, rfl, line_of (l20 _ hb20), ?_⟩
        rw [cut_to (show atN c ≤ (baseL c).length by omega)]
        have ht20 : (SX.S ((baseL c).take (atN c))).length ≤ 20 := l20 _ (by rw [List.length_take]; omega)
        refine ⟨_, rfl, _, _, rfl, rfl, ?_, _, rfl, _, _, rfl, rfl, ?_, ?_⟩
        · have := n1 (sgn c (nearI k c))
          rw [sizeLine_eq]
          show (SX.S ((baseL c).take (atN c))).length + (SX.S [sgn c (nearI k c)]).length ≤ _
          omega
        · have e1 := n1 (sgn c (nearI k c))
          have e2 := n1 (sgn c (tellI k c))
          rw [sizeLine_eq]
          show (SX.S ((baseL c).take (atN c)) ++ SX.S [sgn c (nearI k c)]).length + (SX.S [sgn c (tellI k c)]).length ≤ _
          rw [Str.length_append]
          omega
        refine ⟨_, rfl, _, rfl, _, _, rfl, rfl, _, rfl, _, rfl, line_of (l20 _ hb20), ?_⟩
        have ea2 : ((atN c : Nat) : Int) + 2 = ((atN c + 2 : Nat) : Int) := by omega
        rw [ea2, cut_from at2]
        refine ⟨_, _, rfl, rfl, ?_, ?_⟩
        · have e1 := n1 (sgn c (nearI k c))
          have e2 := n1 (sgn c (tellI k c))
          have e3 : (SX.S ((baseL c).drop (atN c + 2))).length ≤ 20 := l20 _ (by rw [List.length_drop]; omega)
          rw [sizeLine_eq]
          show (SX.S ((baseL c).take (atN c)) ++ SX.S [sgn c (nearI k c)] ++ SX.S [sgn c (tellI k c)]).length + _ ≤ _
          rw [Str.length_append, Str.length_append]
          omega
        · have e := q H1 k1
          unfold nameBy nameL at e
          rw [if_pos z] at e
          have e2 : SX.S ((baseL c).take (atN c)) ++ SX.S [sgn c (nearI k c)] ++ SX.S [sgn c (tellI k c)] ++ SX.S ((baseL c).drop (atN c + 2)) = SX.S ((baseL c).take (atN c) ++ pairL k c ++ (baseL c).drop (atN c + 2)) := by
            rw [SX.S_cat, SX.S_cat, SX.S_cat]
            unfold pairL
            simp
          rw [← e2] at e
          exact e
    · rw [decide_eq_false (show ¬ V.int (mix c 10303 2) = V.int 0 from fun y => z (V.int.inj y))]
      refine iteF ⟨fun σ' H1 => H = H1 ∧ ¬ (k < manyL c ∧ mix (c + 3 * k) 10253 8 = 0) ∧ σ' = [some (.int k), some (.int c), some (.str (SX.S (someL c))), some (.int (manyL c)), some (.str (SX.S [sgn c (nearI k c)])), some (.str (SX.S [sgn c (tellI k c)])), none, none, none, none], ?_, ?_⟩
      · refine ⟨_, rfl, _, rfl, _, _, rfl, rfl, _, rfl, ite2 (fun a => ?_) (fun a => iteF ⟨rfl, fun y => a (decide_eq_true y.1), rfl⟩)⟩
        have a1 : k < manyL c := of_decide_eq_true a
        refine ⟨_, rfl, _, rfl, _, _, rfl, rfl, .inl ⟨by decide, by decide⟩, _, _, rfl, rfl, c + 3 * k, 10253, 8, rfl, by decide, by decide, rfl, _, rfl, ?_⟩
        by_cases y : mix (c + 3 * k) 10253 8 = 0
        · rw [decide_eq_true (show V.int (mix (c + 3 * k) 10253 8) = V.int 0 by rw [y])]
          refine iteT ⟨_, rfl, ?_⟩
          have e := q H (Keep.refl _ _)
          unfold nameBy nameL at e
          rw [if_neg z, if_pos ⟨a1, y⟩] at e
          exact e
        · rw [decide_eq_false (show ¬ V.int (mix (c + 3 * k) 10253 8) = V.int 0 from fun x => y (V.int.inj x))]
          exact iteF ⟨rfl, fun x => y x.2, rfl⟩
      rintro σ' _ ⟨rfl, nn, rfl⟩
      have b2 := mix_nn (c := c + k) (p := 10007) (m := 11) (by decide)
      refine ⟨_, rfl, _, rfl, _, _, rfl, rfl, ?_, ?_⟩
      · rw [n1, n1]
        decide
      refine ⟨_, rfl, _, rfl, _, _, rfl, rfl, c + k, 10007, 11, rfl, by decide, by decide, mix (c + k) 10007 11, rfl, by omega, by omega, ?_⟩
      refine for_it walk_range (fun i σ H' => H = H' ∧ ∃ v7 v8, σ = [some (.int k), some (.int c), some (.str (SX.S (someL c))), some (.int (manyL c)), some (.str (SX.S [sgn c (nearI k c)])), some (.str (SX.S [sgn c (tellI k c)])), none, v7, v8, some (.str (SX.S (pairL k c ++ moreL k c i)))]) ⟨rfl, none, none, ?_⟩ (fun _ _ _ _ _ => trivial) ?_ ?_
      · have e1 : SX.S [sgn c (nearI k c)] ++ SX.S [sgn c (tellI k c)] = SX.S (pairL k c ++ moreL k c 0) := by
          rw [SX.S_cat]
          rfl
        rw [← e1]
        rfl
      · rintro i x σ _ H2 hi ⟨rfl, v7, v8, rfl⟩ ⟨rfl, rfl⟩
        have hi' : i < (mix (c + k) 10007 11).toNat := hi
        have hr0 : 0 ≤ (c / 72 + 7 * (0 + (i : Int)) + k * (0 + (i : Int))) % manyL c := Int.emod_nonneg _ (by omega)
        have hr1 : (c / 72 + 7 * (0 + (i : Int)) + k * (0 + (i : Int))) % manyL c < manyL c := Int.emod_lt_of_pos _ m0
        refine ⟨_, rfl, _, _, rfl, rfl, ⟨by decide, by decide⟩, _, rfl, _, _, rfl, rfl, .inl ⟨by decide, by decide⟩, _, _, rfl, rfl, _, rfl, _, rfl, _, _, rfl, rfl, .inl ⟨by omega, by omega⟩, _, _, rfl, rfl, ?_⟩
        refine ⟨_, rfl, _, rfl, _, rfl, _, rfl, _, _, rfl, rfl, m0, _, _, sgn c ((c / 72 + 7 * (0 + (i : Int)) + k * (0 + (i : Int))) % manyL c), rfl, rfl, sl, sgn_at hr0 hr1, _, _, rfl, rfl, ?_, rfl, ?_⟩
        · have e1 := n1 (sgn c ((c / 72 + 7 * (0 + (i : Int)) + k * (0 + (i : Int))) % manyL c))
          have e2 : (SX.S (pairL k c ++ moreL k c i)).length ≤ 20 := by
            rw [SX.S_len]
            simp [pairL, moreL]
            omega
          rw [sizeLine_eq]
          show (SX.S (pairL k c ++ moreL k c i)).length + (SX.S [_]).length ≤ _
          omega
        · have e1 : SX.S (pairL k c ++ moreL k c i) ++ SX.S [sgn c ((c / 72 + 7 * (0 + (i : Int)) + k * (0 + (i : Int))) % manyL c)] = SX.S (pairL k c ++ moreL k c (i + 1)) := by
            rw [SX.S_cat]
            unfold moreL
            rw [List.range_succ, List.map_append, List.append_assoc]
            rfl
          rw [← e1]
          exact ⟨_, _, rfl⟩
      · rintro σ _ ⟨rfl, v7, v8, rfl⟩
        have e := q H (Keep.refl _ _)
        unfold nameBy nameL at e
        rw [if_neg z, if_neg nn] at e
        have el : pairL k c ++ moreL k c (mix (c + k) 10007 11).toNat = longL k c := rfl
        rw [el]
        have l20 : (SX.S (longL k c)).length ≤ 20 := by
          rw [SX.S_len]
          simp [longL, pairL, moreL]
          omega
        refine ⟨_, rfl, _, _, rfl, rfl, ⟨by decide, by decide⟩, _, _, rfl, rfl, (show (0 : Int) < 2 by decide), rfl, _, rfl, ?_⟩
        by_cases y : c / 36 % 2 = 1
        · rw [if_pos y] at e
          rw [decide_eq_true (show V.int (c / 36 % 2) = V.int 1 by rw [y])]
          exact iteT ⟨_, rfl, _, rfl, line_of l20, e⟩
        · rw [if_neg y] at e
          rw [decide_eq_false (show ¬ V.int (c / 36 % 2) = V.int 1 from fun x => y (V.int.inj x))]
          exact iteF ⟨_, rfl, e⟩
end
end Rr

set_option maxRecDepth 100000
set_option maxHeartbeats 4000000
namespace Rr
open PySem PySem.Spec PyProof.Rows L2
open GxR (TabG Tabbed)
open Evl (pss_cut)
/-! the laws' line, beside the desk's -/
theorem str_ne (a b : Str) : (!decide (V.str a = V.str b)) = decide (a ≠ b) := by
  by_cases e : a = b
  · rw [decide_eq_true (show V.str a = V.str b by rw [e]), decide_eq_false (show ¬ a ≠ b from fun z => z e)]
    rfl
  · rw [decide_eq_false (show ¬ V.str a = V.str b from fun z => e (V.str.inj z)), decide_eq_true e]
    rfl
theorem str_eq (a b : Str) : decide (V.str a = V.str b) = decide (a = b) := by
  by_cases e : a = b
  · rw [decide_eq_true (show V.str a = V.str b by rw [e]), decide_eq_true e]
  · rw [decide_eq_false (show ¬ V.str a = V.str b from fun z => e (V.str.inj z)), decide_eq_false e]
/-- a row put behind another list's rows -/
theorem LnAt.snoc {H : Hp} {ps : List (Addr × Cr)} {t b : Addr} {c : Cr} (hp : ∀ p ∈ ps, RowAt H p.1 p.2) (ht : RowAt H t c) (hb : H b = some (.lst ((ps.map fun p => V.ref p.1) ++ [.ref t]))) : LnAt H b (ps.map (·.2) ++ [c]) :=
  ⟨ps ++ [(t, c)], by rw [List.map_append]; rfl, by rw [hb, List.map_append]; rfl, fun p h => (List.mem_append.mp h).elim (hp p) fun h => by rw [List.mem_singleton.mp h]; exact ht⟩
section
variable {P : Program} {w : World} {K : PySem.W.Frag} {mg : Str → Option Value} {base : Heap}
theorem rows_filter {ps : List (Addr × Cr)} (f : Cr → Bool) : (ps.filter fun p => f p.2).map (·.2) = (ps.map (·.2)).filter f := filter_snd f ps
def sp_put (K : PySem.W.Frag) : Sp := fun vs H Q _ => ∃ (a : Addr) (l : List Cr) (n : Str) (r : Int) (st : Stt), vs = [.ref a, .str n, .int r, .str st.word, st.markV] ∧ LnAt H a l ∧ l.length ≤ 60 ∧ ∀ b H', Keep K [] H H' → LnAt H' b (dropC n l ++ [⟨n, r, st⟩]) → Q (.ref b) H'
theorem c__law_put (T : Tx K mg base) : Cal P w K mg base 1 "_law_put" (sp_put K) := by
  obtain ⟨fd, F⟩ := T.d__law_put
  refine ⟨_, fd, ["_law_line", "_law_name", "_law_rank", "_law_stand", "_law_mark"], okF (k := 0) F sc__law_put (fun vs H Q E h => ?_) (fun A outer s H vs Q E hr h => ?_), T.r__law_put, F.kp, F.bindsN fun _ _ _ _ _ _ us hl => match us, hl with | [_, _, _, _, _], _ => rfl⟩
  · obtain ⟨a, l, n, r, st, rfl, _⟩ := h
    rfl
  · have nd := sc__law_put.nd
    obtain ⟨a, l, n, r, st, rfl, ⟨ps, rfl, ha, hp⟩, hl, q⟩ := h
    rw [List.length_map] at hl
    refine ⟨_, (pss_one (ps_ret (pe_op op_cat (pe_lc (own := [("_law_one", 5)]) (g := gName 5) rfl nd (pi_listK (K := K) rfl (pv 0)) (blkOk_by (N := N__law_put) (sc := defScope s__law_put) (by decide +kernel)) (fun _ _ _ _ _ => (pg_name (i := 5) nd rfl (Or.inl rfl))) (fun _ _ _ _ _ => (pts_one (pt_cmpR op_ne (pe_ix (ix_tupK (K := K) rfl) (pv 5) pe_int (fun _ _ => rfl)) (pv 1) (nomark _)))) (fun _ _ _ _ _ => (pv 5))) (pe_lst (pa_cons (pe_tup (pa_cons (pv 1) (pa_cons (pv 2) (pa_cons (pv 3) (pa_cons (pv 4) pa_nil))))) pa_nil))))), ?_⟩
    refine ⟨_, rfl, a, rfl, ⟨_, .inl (.inl ha)⟩, fun D hD => ?_⟩
    refine lc_it (walk_list (K := K) (xs := ps.map fun p => V.ref p.1)) (Pv := fun i H' => Keep K [] H H' ∧ H' D = some (.lst (((ps.take i).filter fun p => decide (p.2.name ≠ n)).map fun p => V.ref p.1))) ⟨Keep.new hD, upd_same⟩ (fun i H' _ p => .inl (.inl (p.1.lst ha List.not_mem_nil))) ?_ ?_
    · rintro i v H1 H2 hi ⟨k1, hd⟩ ⟨rfl, hv⟩
      rw [List.getElem?_map] at hv
      cases ep : ps[i]? with
      | none =>
        rw [ep] at hv
        cases hv
      | some p =>
        rw [ep] at hv
        obtain rfl : V.ref p.1 = v := Option.some.inj hv
        have ht := (hp p (List.mem_of_getElem? ep)).keep0 k1
        refine ⟨rfl, ?_⟩
        refine ⟨_, rfl, p.1, _, _, _, rfl, rfl, .inl (.inl ht), rfl, _, rfl, rfl, _, rfl, ?_⟩
        rw [str_ne, take_filter ep]
        cases e : decide (p.2.name ≠ n) with
        | false =>
          refine iteF ⟨k1, ?_⟩
          rw [if_neg (by simp), List.append_nil]
          exact hd
        | true =>
          refine iteT ⟨_, rfl, _, hd, ?_, k1.set (.inl hD) hd nt_lst, ?_⟩
          · rw [List.length_map]
            have h1 := List.length_filter_le (fun p : Addr × Cr => decide (p.2.name ≠ n)) (ps.take i)
            rw [List.length_take] at h1
            exact small1000 (by omega)
          · rw [upd_same, if_pos rfl, List.map_append]
            rfl
    · rintro H1 ⟨k1, hd⟩
      rw [List.length_map, List.take_of_length_le (Nat.le_refl _)] at hd
      refine ⟨_, rfl, _, rfl, _, rfl, _, rfl, (show 4 ≤ sizeLine by decide), fun t nt => ⟨(show 1 ≤ sizeLine by decide), fun b nb => ?_⟩⟩
      have k2 : Keep K [] H1 (L2.upd (L2.upd H1 t (.tup [.str n, .int r, .str st.word, st.markV])) b (.lst [.ref t])) := (Keep.new nt).trans (Keep.new nb)
      have hd2 := k2.lst hd List.not_mem_nil
      have ht2 : (L2.upd (L2.upd H1 t (.tup [.str n, .int r, .str st.word, st.markV])) b (.lst [.ref t])) t = some (.tup [.str n, .int r, .str st.word, st.markV]) := (upd_ne (ne_of_none upd_same nb)).trans upd_same
      refine ⟨D, b, _, _, rfl, rfl, hd2, upd_same, ?_, fun e ne => ?_⟩
      · rw [List.length_map]
        have h1 := List.length_filter_le (fun p : Addr × Cr => decide (p.2.name ≠ n)) ps
        exact Nat.le_trans (Nat.add_le_add_right (Nat.le_trans h1 hl) 1) (show 60 + 1 ≤ sizeLine by decide)
      · have k3 := (k1.trans k2).trans (Keep.new (o := .lst (((ps.filter fun p => decide (p.2.name ≠ n)).map fun p => V.ref p.1) ++ [.ref t])) ne)
        have e1 := rows_filter (ps := ps) (fun c => decide (c.name ≠ n))
        refine q e _ k3 ?_
        unfold dropC
        rw [← e1]
        exact LnAt.snoc (fun p h => (hp p (List.mem_filter.mp h).1).keep0 k3) (show RowAt _ t ⟨n, r, st⟩ from (upd_ne (ne_of_none ht2 ne)).trans ht2) upd_same
theorem wake_snoc {D : Dk} (nm : (namesL D.line).Nodup) (cs : List Cr) {c : Cr} (h : c.name ∈ namesL D.line) : (D.wakeAll (cs ++ [c])).line = dropC c.name (D.wakeAll cs).line ++ [⟨c.name, c.rank, .rdy D.now⟩] := by
  have np := names_wakeAll cs D
  rw [wakeAll_snoc, (wakeAll_pr cs D).2.2, move_eq (c := c.as (.rdy D.now)) (np.nodup_iff.mpr nm) (np.mem_iff.mpr h)]
  rfl
theorem wake_len {D : Dk} (cs : List Cr) : (D.wakeAll cs).line.length = D.line.length := len_names (names_wakeAll cs D)
def sp_rung (K : PySem.W.Frag) : Sp := fun vs H Q _ => ∃ (a : Addr) (D : Dk) (bell : Str), vs = [.ref a, .int D.now, .str bell] ∧ LnAt H a D.line ∧ D.line.length ≤ 60 ∧ (namesL D.line).Nodup ∧ ∀ b H', Keep K [] H H' → LnAt H' b (D.ring bell).line → Q (.ref b) H'
theorem c__law_rung (T : Tx K mg base) : Cal P w K mg base 2 "_law_rung" (sp_rung K) := by
  have c__law_put : Cal P w K mg base 1 "_law_put" (sp_put K) := c__law_put T
  obtain ⟨fd, F⟩ := T.d__law_rung
  refine ⟨_, fd, ["_law_line", "_law_now", "_law_bell"], okF (k := 1) F sc__law_rung (fun vs H Q E h => ?_) (fun A outer s H vs Q E hr h => ?_), T.r__law_rung, F.kp, F.bindsN fun _ _ _ _ _ _ us hl => match us, hl with | [_, _, _], _ => rfl⟩
  · obtain ⟨a, D, bell, rfl, _⟩ := h
    rfl
  · have nd := sc__law_rung.nd
    obtain ⟨a, D, bell, rfl, hL, hl, nm, q⟩ := h
    obtain ⟨ps, el, ha, hp⟩ := id hL
    refine ⟨_, (pss_cons (ps_set (i := 3) nd rfl (Or.inl rfl) (pv 0))
  (pss_cons (ps_for (passes_of rfl) rfl (pi_list (pv 0)) (pg_name (i := 4) nd rfl (Or.inl rfl))
  (pss_one (ps_if (PW.pt (pw_and (pt_cmpR op_eq (pe_ix ix_tup (pv 4) pe_int (fun _ _ => rfl)) pe_str (nomark _)) (pw_and1 (pt_cmpR op_eq (pe_ix ix_tup (pv 4) pe_int (fun _ _ => rfl)) (pv 2) (nomark _)))))
  (pss_one (ps_set (i := 3) nd rfl (Or.inl rfl) (pf c__law_put hr (by decide) (by rfl) p0 (pa_cons (pv 3) (pa_cons (pe_ix ix_tup (pv 4) pe_int (fun _ _ => rfl)) (pa_cons (pe_ix ix_tup (pv 4) pe_int (fun _ _ => rfl)) (pa_cons pe_str (pa_cons (pv 1) pa_nil))))))))
  pss_nil)))
  (pss_one (ps_ret (pv 3))))), ?_⟩
    refine ⟨_, rfl, _, rfl, a, rfl, ⟨_, .inl (.inl ha)⟩, ?_⟩
    refine for_it (walk_list (xs := ps.map fun p => V.ref p.1)) (fun i σ H' => ∃ v b, σ = [some (.ref a), some (.int D.now), some (.str bell), some (.ref b), v] ∧ Keep K [] H H' ∧ LnAt H' b (D.wakeAll ((D.line.take i).filter fun c => decide (c.st = .wtg bell))).line) ⟨none, a, rfl, Keep.refl _ _, hL⟩ ?_ ?_ ?_
    · rintro i σ H' _ ⟨v, b, rfl, k, _⟩
      exact .inl (.inl (k.lst ha List.not_mem_nil))
    · rintro i v σ H1 H2 hi ⟨v0, b, rfl, k1, hb⟩ ⟨rfl, hv⟩
      rw [List.getElem?_map] at hv
      cases ep : ps[i]? with
      | none =>
        rw [ep] at hv
        cases hv
      | some p =>
        rw [ep] at hv
        obtain rfl : V.ref p.1 = v := Option.some.inj hv
        have ec : D.line[i]? = some p.2 := by rw [el, List.getElem?_map, ep]; rfl
        have hm : p.2 ∈ D.line := List.mem_of_getElem? ec
        have ht := (hp p (List.mem_of_getElem? ep)).keep0 k1
        obtain ⟨t, c⟩ := p
        have no : decide (c.st = .wtg bell) = false → LnAt H2 b (D.wakeAll ((D.line.take (i + 1)).filter fun c => decide (c.st = .wtg bell))).line := fun e => by
          rw [take_filter ec, e]
          simpa using hb
        refine ⟨_, rfl, t, _, _, _, rfl, rfl, .inl (.inl ht), rfl, rfl, _, rfl, ?_⟩
        obtain ⟨n, r, st⟩ := c
        cases st with
        | rdy s => exact iteF (iteF ⟨_, _, rfl, k1, no rfl⟩)
        | slp s => exact iteF (iteF ⟨_, _, rfl, k1, no rfl⟩)
        | wtg b2 =>
          refine iteT ⟨_, rfl, t, _, _, _, rfl, rfl, .inl (.inl ht), rfl, _, rfl, rfl, _, rfl, ?_⟩
          have e0 : decide ((t, (⟨n, r, .wtg b2⟩ : Cr)).snd.st.markV = V.str bell) = decide (b2 = bell) := str_eq _ _
          rw [e0]
          by_cases e : b2 = bell
          · rw [decide_eq_true e]
            refine iteT ⟨_, rfl, _, rfl, t, _, _, _, rfl, rfl, .inl (.inl ht), rfl, _, rfl, t, _, _, _, rfl, rfl, .inl (.inl ht), rfl, _, rfl, b, _, n, r, .rdy D.now, rfl, hb, by rw [wake_len]; exact hl, fun b3 H3 k3 h3 => ⟨_, b3, rfl, k1.trans k3, ?_⟩⟩
            rw [take_filter ec, decide_eq_true (show Stt.wtg b2 = .wtg bell by rw [e]), if_pos rfl, wake_snoc nm _ (name_in hm)]
            exact h3
          · rw [decide_eq_false e]
            exact iteF ⟨_, _, rfl, k1, no (decide_eq_false fun z => e (Stt.wtg.inj z))⟩
    · rintro σ H1 ⟨v0, b, rfl, k1, hb⟩
      rw [List.length_map, List.take_of_length_le (by rw [el, List.length_map]; exact Nat.le_refl _)] at hb
      exact ⟨_, rfl, q b H1 k1 hb⟩
def sp_after (K : PySem.W.Frag) : Sp := fun vs H Q _ => ∃ (a : Addr) (D : Dk), vs = [.ref a, .int D.now, nmV D.pick] ∧ LnAt H a D.line ∧ Sound D ∧ ∀ b H', Keep K [] H H' → LnAt H' b D.turn.line → Q (.ref b) H'
theorem c__law_after (T : Tx K mg base) : Cal P w K mg base 2 "_law_after" (sp_after K) := by
  have c__law_put : Cal P w K mg base 1 "_law_put" (sp_put K) := c__law_put T
  obtain ⟨fd, F⟩ := T.d__law_after
  refine ⟨_, fd, ["_law_line", "_law_now", "_law_ran"], okF (k := 1) F sc__law_after (fun vs H Q E h => ?_) (fun A outer s H vs Q E hr h => ?_), T.r__law_after, F.kp, F.bindsN fun _ _ _ _ _ _ us hl => match us, hl with | [_, _, _], _ => rfl⟩
  · obtain ⟨a, D, rfl, _⟩ := h
    rfl
  · have nd := sc__law_after.nd
    obtain ⟨a, D, rfl, hL, sD, q⟩ := h
    obtain ⟨ps, el, ha, hp⟩ := id hL
    have hl := sD.len60
    refine ⟨_, (pss_cons (ps_set (i := 3) nd rfl (Or.inl rfl) (pv 0))
  (pss_cons (ps_for (passes_of rfl) rfl (pi_list (pv 0)) (pg_name (i := 4) nd rfl (Or.inl rfl))
  (pss_one (ps_if (PW.pt (pw_and (pt_cmpR op_eq (pe_ix ix_tup (pv 4) pe_int (fun _ _ => rfl)) pe_str (nomark _)) (pw_and1 (pt_cmpR op_le (pe_ix ix_tup (pv 4) pe_int (fun _ _ => rfl)) (pe_op op_add (pv 1) pe_int) (nomark _)))))
  (pss_one (ps_set (i := 3) nd rfl (Or.inl rfl) (pf c__law_put hr (by decide) (by rfl) p0 (pa_cons (pv 3) (pa_cons (pe_ix ix_tup (pv 4) pe_int (fun _ _ => rfl)) (pa_cons (pe_ix ix_tup (pv 4) pe_int (fun _ _ => rfl)) (pa_cons pe_str (pa_cons (pe_op op_add (pv 1) pe_int) pa_nil))))))))
  pss_nil)))
  (pss_cons (ps_for (passes_of rfl) rfl (pi_list (pv 0)) (pg_name (i := 4) nd rfl (Or.inl rfl))
  (pss_one (ps_if (pt_cmpR op_eq (pe_ix ix_tup (pv 4) pe_int (fun _ _ => rfl)) (pv 2) (nomark _))
  (pss_one (ps_set (i := 3) nd rfl (Or.inl rfl) (pf c__law_put hr (by decide) (by rfl) p0 (pa_cons (pv 3) (pa_cons (pv 2) (pa_cons (pe_ix ix_tup (pv 4) pe_int (fun _ _ => rfl)) (pa_cons pe_str (pa_cons (pe_op op_add (pv 1) pe_int) pa_nil))))))))
  pss_nil)))
  (pss_one (ps_ret (pv 3)))))), ?_⟩
    refine ⟨_, rfl, _, rfl, a, rfl, ⟨_, .inl (.inl ha)⟩, ?_⟩
    refine for_it (walk_list (xs := ps.map fun p => V.ref p.1)) (fun i σ H' => ∃ v b, σ = [some (.ref a), some (.int D.now), some (nmV D.pick), some (.ref b), v] ∧ Keep K [] H H' ∧ LnAt H' b (({ D with now := D.now + 1 } : Dk).wakeAll ((D.line.take i).filter fun c => decide (c.st = .slp (D.now + 1)))).line) ⟨none, a, rfl, Keep.refl _ _, hL⟩ ?_ ?_ ?_
    · rintro i σ H' _ ⟨v, b, rfl, k, _⟩
      exact .inl (.inl (k.lst ha List.not_mem_nil))
    · rintro i v σ H1 H2 hi ⟨v0, b, rfl, k1, hb⟩ ⟨rfl, hv⟩
      rw [List.getElem?_map] at hv
      cases ep : ps[i]? with
      | none =>
        rw [ep] at hv
        cases hv
      | some p =>
        rw [ep] at hv
        obtain rfl : V.ref p.1 = v := Option.some.inj hv
        have ec : D.line[i]? = some p.2 := by rw [el, List.getElem?_map, ep]; rfl
        have hm : p.2 ∈ D.line := List.mem_of_getElem? ec
        have ht := (hp p (List.mem_of_getElem? ep)).keep0 k1
        have hs := sD.st p.2 hm
        obtain ⟨t, c⟩ := p
        have no : decide (c.st = .slp (D.now + 1)) = false → LnAt H2 b (({ D with now := D.now + 1 } : Dk).wakeAll ((D.line.take (i + 1)).filter fun c => decide (c.st = .slp (D.now + 1)))).line := fun e => by
          rw [take_filter ec, e]
          simpa using hb
        refine ⟨_, rfl, t, _, _, _, rfl, rfl, .inl (.inl ht), rfl, rfl, _, rfl, ?_⟩
        obtain ⟨n, r, st⟩ := c
        cases st with
        | rdy s => exact iteF (iteF ⟨_, _, rfl, k1, no rfl⟩)
        | wtg s => exact iteF (iteF ⟨_, _, rfl, k1, no rfl⟩)
        | slp u =>
          have hu : D.now < u ∧ u ≤ D.now + 1000 := hs
          refine iteT ⟨_, rfl, t, _, _, _, rfl, rfl, .inl (.inl ht), rfl, _, rfl, _, _, rfl, rfl, _, _, rfl, rfl, _, rfl, ite2 (fun z => ?_) (fun z => ?_)⟩
          · have z2 : u ≤ D.now + 1 := of_decide_eq_true z
            have e : u = D.now + 1 := by omega
            refine ⟨_, rfl, _, rfl, t, _, _, _, rfl, rfl, .inl (.inl ht), rfl, _, rfl, t, _, _, _, rfl, rfl, .inl (.inl ht), rfl, _, rfl, _, _, rfl, rfl, b, _, n, r, .rdy (D.now + 1), rfl, hb, by rw [wake_len]; exact hl, fun b3 H3 k3 h3 => ⟨_, b3, rfl, k1.trans k3, ?_⟩⟩
            rw [take_filter ec, decide_eq_true (show Stt.slp u = .slp (D.now + 1) by rw [e]), if_pos rfl, wake_snoc (D := { D with now := D.now + 1 }) sD.nm _ (name_in hm)]
            exact h3
          · exact ⟨_, _, rfl, k1, no (decide_eq_false fun y => z (decide_eq_true (by have := Stt.slp.inj y; omega)))⟩
    rintro σ H1 ⟨v0, b, rfl, k1, hb⟩
    rw [List.length_map, List.take_of_length_le (by rw [el, List.length_map]; exact Nat.le_refl _)] at hb
    have hb : LnAt H1 b D.tick.line := hb
    have ha1 := k1.lst ha List.not_mem_nil
    have tn : D.tick.now = D.now + 1 := tick_now D
    have tl : D.tick.line.length ≤ 60 := by rw [len_names (tick_names D)]; exact hl
    have tm : (namesL D.tick.line).Nodup := (tick_names D).nodup_iff.mpr sD.nm
    refine ⟨_, rfl, a, rfl, ⟨_, .inl (.inl ha1)⟩, ?_⟩
    refine for_it (walk_list (xs := ps.map fun p => V.ref p.1)) (fun i σ H' => ∃ v b, σ = [some (.ref a), some (.int D.now), some (nmV D.pick), some (.ref b), v] ∧ Keep K [] H H' ∧ LnAt H' b (D.tick.wakeAll ((D.line.take i).filter fun c => decide (V.str c.name = nmV D.pick))).line) ⟨v0, b, rfl, k1, hb⟩ ?_ ?_ ?_
    · rintro i σ H' _ ⟨v, b, rfl, k, _⟩
      exact .inl (.inl (k.lst ha List.not_mem_nil))
    · rintro i v σ H2 H3 hi ⟨v1, b2, rfl, k2, hb2⟩ ⟨rfl, hv⟩
      rw [List.getElem?_map] at hv
      cases ep : ps[i]? with
      | none =>
        rw [ep] at hv
        cases hv
      | some p =>
        rw [ep] at hv
        obtain rfl : V.ref p.1 = v := Option.some.inj hv
        have ec : D.line[i]? = some p.2 := by rw [el, List.getElem?_map, ep]; rfl
        have hm : p.2 ∈ D.line := List.mem_of_getElem? ec
        have ht := (hp p (List.mem_of_getElem? ep)).keep0 k2
        refine ⟨_, rfl, p.1, _, _, _, rfl, rfl, .inl (.inl ht), rfl, _, rfl, (by cases D.pick <;> rfl), _, rfl, ?_⟩
        cases e : decide (V.str p.2.name = nmV D.pick) with
        | false =>
          refine iteF ⟨_, _, rfl, k2, ?_⟩
          rw [take_filter ec, e]
          simpa using hb2
        | true =>
          have e1 : V.str p.2.name = nmV D.pick := of_decide_eq_true e
          refine iteT ⟨_, rfl, _, rfl, _, rfl, p.1, _, _, _, rfl, rfl, .inl (.inl ht), rfl, _, rfl, _, _, rfl, rfl, b2, _, p.2.name, p.2.rank, .rdy (D.now + 1), by rw [← e1]; rfl, hb2, by rw [wake_len]; exact tl, fun b3 H3 k3 h3 => ⟨_, b3, rfl, k2.trans k3, ?_⟩⟩
          rw [take_filter ec, e, if_pos rfl, wake_snoc tm _ (tick_at hm), tn]
          exact h3
    · rintro σ H2 ⟨v1, b2, rfl, k2, hb2⟩
      rw [List.length_map, List.take_of_length_le (by rw [el, List.length_map]; exact Nat.le_refl _)] at hb2
      refine ⟨_, rfl, q b2 H2 k2 ?_⟩
      unfold Dk.turn
      cases e : D.pick with
      | none =>
        rw [e] at hb2
        have e2 : (D.line.filter fun c => decide (V.str c.name = nmV none)) = [] := List.filter_eq_nil_iff.mpr fun c _ z => by cases of_decide_eq_true z
        rw [e2] at hb2
        exact hb2
      | some c =>
        rw [e] at hb2
        have e2 : (D.line.filter fun x => decide (V.str x.name = nmV (some c))) = [c] := by
          have := only_name sD.nm (pickD_mem e).1
          rw [← this]
          refine List.filter_congr fun x _ => ?_
          exact str_eq _ _
        rw [e2] at hb2
        have hb3 : LnAt H2 b2 (D.tick.move (c.as (.rdy D.tick.now))).line := hb2
        rw [tn] at hb3
        exact hb3
end
end Rr

set_option maxRecDepth 100000
set_option maxHeartbeats 4000000
namespace Rr
open PySem PySem.Spec PyProof.Rows L2
open GxR (TabG Tabbed)
open Evl (pss_cut)
/-! the laws' deeds -/
section
variable {P : Program} {w : World} {K : PySem.W.Frag} {mg : Str → Option Value} {base : Heap}
/-- a deed was done: the desk, and the line beside it -/
def Goes (K : PySem.W.Frag) (H : Hp) (S : List Addr) (d : Addr) (D : Dk) (q : Addr → Hp → Prop) : Prop := ∀ D' S' b H', Deed D D' → Keep K S H H' → Sub H S S' → DkAt K H' S' d D' → LnAt H' b D'.line → q b H'
theorem move_line {D : Dk} (nm : (namesL D.line).Nodup) {c : Cr} (hc : c ∈ D.line) (s : Stt) : (D.move (c.as s)).line = dropC c.name D.line ++ [⟨c.name, c.rank, s⟩] := by
  rw [move_eq (c := c.as s) nm (show c.name ∈ namesL D.line from name_in hc)]
  rfl
def sp_bell_by (K : PySem.W.Frag) : Sp := fun vs H Q _ => ∃ (a t : Addr) (l : List Cr) (c : Cr) (n : Int), vs = [.ref a, .ref t, .int n] ∧ LnAt H a l ∧ l ≠ [] ∧ (∀ x ∈ l, isName x.name = true) ∧ RowAt H t c ∧ isName c.name = true ∧ ∀ b H', Keep K [] H H' → isName b = true → Q (.str b) H'
theorem c__law_bell_by (T : Tx K mg base) : Cal P w K mg base 3 "_law_bell_by" (sp_bell_by K) := by
  have c__law_mix : Cal P w K mg base 1 "_law_mix" sp_mix := c__law_mix T
  have c__law_name_by : Cal P w K mg base 2 "_law_name_by" (sp_name_by K) := c__law_name_by T
  obtain ⟨fd, F⟩ := T.d__law_bell_by
  refine ⟨_, fd, ["_law_line", "_law_one", "_law_cell"], okF (k := 2) F sc__law_bell_by (fun vs H Q E h => ?_) (fun A outer s H vs Q E hr h => ?_), T.r__law_bell_by, F.kp, F.bindsN fun _ _ _ _ _ _ us hl => match us, hl with | [_, _, _], _ => rfl⟩
  · obtain ⟨a, t, l, c, n, rfl, _⟩ := h
    rfl
  · have nd := sc__law_bell_by.nd
    obtain ⟨a, t, l, c, n, rfl, ⟨ps, rfl, ha, hp⟩, hne, hok, ht, hc, q⟩ := h
    refine ⟨_, (pss_cons (ps_set (i := 3) nd rfl (Or.inl rfl) (pf c__law_mix hr (by decide) (by rfl) p0 (pa_cons (pv 2) (pa_cons pe_int (pa_cons pe_int pa_nil)))))
  (pss_cons (ps_if (pt_cmpR op_eq (pv 3) pe_int (nomark _))
  (pss_one (ps_ret (pe_ix ix_tup (pv 1) pe_int (fun _ _ => rfl))))
  pss_nil)
  (pss_cons (ps_if (pt_cmpR op_eq (pv 3) pe_int (nomark _))
  (pss_one (ps_ret (pe_ix ix_tup (pe_ix ix_list (pv 0) pe_int (fun _ _ => rfl)) pe_int (fun _ _ => rfl))))
  pss_nil)
  (pss_one (ps_ret (pf c__law_name_by hr (by decide) (by rfl) p0 (pa_cons (pf c__law_mix hr (by decide) (by rfl) p0 (pa_cons (pv 2) (pa_cons pe_int (pa_cons pe_int pa_nil)))) (pa_cons (pe_op op_mod (pv 2) pe_int) pa_nil)))))))), ?_⟩
    refine ⟨_, rfl, n, 10193, 8, rfl, by decide, by decide, _, rfl, rfl, _, rfl, ite2 (fun _ => ?_) (fun _ => ?_)⟩
    · exact ⟨_, rfl, t, _, _, _, rfl, rfl, .inl (.inl ht), rfl, q _ H (Keep.refl _ _) hc⟩
    refine ⟨_, rfl, rfl, _, rfl, ite2 (fun _ => ?_) (fun _ => ?_)⟩
    · cases ps with
      | nil => exact absurd rfl hne
      | cons p r =>
        have h1 := hp p List.mem_cons_self
        exact ⟨_, rfl, a, _, _, _, rfl, rfl, .inl (.inl ha), atI_nat (j := 0) rfl, p.1, _, _, _, rfl, rfl, .inl (.inl h1), rfl, q _ H (Keep.refl _ _) (hok p.2 (by simp))⟩
    · have hm := mix_nn (c := n) (p := 10099) (m := 3) (by decide)
      refine ⟨_, rfl, n, 10099, 3, rfl, by decide, by decide, _, rfl, _, _, rfl, rfl, (show (0 : Int) < 5 by decide), _, _, rfl, hm.1, by omega, fun H1 k1 => q _ H1 k1 (name_ok hm.1 (by omega))⟩
def sp_slept (K : PySem.W.Frag) : Sp := fun vs H Q _ => ∃ (d a t : Addr) (S : List Addr) (D : Dk) (c : Cr) (n : Int), vs = [.ref d, .ref a, .int D.now, .ref t, .int n] ∧ DkAt K H S d D ∧ Sound D ∧ LnAt H a D.line ∧ RowAt H t c ∧ c ∈ D.line ∧ c.st.isRdy = true ∧ TabG H (tabN K) ∧ Goes K H S d D fun b H' => Q (.ref b) H'
theorem c__law_slept (T : Tx K mg base) : Cal P w K mg base 4 "_law_slept" (sp_slept K) := by
  have c__law_mix : Cal P w K mg base 1 "_law_mix" sp_mix := c__law_mix T
  have c__law_put : Cal P w K mg base 1 "_law_put" (sp_put K) := c__law_put T
  have c__law_rung : Cal P w K mg base 2 "_law_rung" (sp_rung K) := c__law_rung T
  have c__law_bell_by : Cal P w K mg base 3 "_law_bell_by" (sp_bell_by K) := c__law_bell_by T
  have c_Desk_ring : Met P w K mg base 3 (He.ga K "Desk") "ring" (sp_ring K) := c_Desk_ring T
  have c_Desk_wait : Met P w K mg base 3 (He.ga K "Desk") "wait" (sp_wait K) := c_Desk_wait T
  have c_Desk_sleep : Met P w K mg base 2 (He.ga K "Desk") "sleep" (sp_sleep K) := c_Desk_sleep T
  obtain ⟨fd, F⟩ := T.d__law_slept
  refine ⟨_, fd, ["_law_desk", "_law_line", "_law_now", "_law_one", "_law_cell"], okF (k := 3) F sc__law_slept (fun vs H Q E h => ?_) (fun A outer s H vs Q E hr h => ?_), T.r__law_slept, F.kp, F.bindsN fun _ _ _ _ _ _ us hl => match us, hl with | [_, _, _, _, _], _ => rfl⟩
  · obtain ⟨d, a, t, S, D, c, n, rfl, _⟩ := h
    rfl
  · have nd := sc__law_slept.nd
    obtain ⟨d, a, t, S, D, c, n, rfl, hD, sD, hL, ht, hc, hr1, hT, q⟩ := h
    have hw := mix_nn (c := n) (p := 10093) (m := 3) (by decide)
    refine ⟨_, (pss_cons (ps_set (i := 5) nd rfl (Or.inl rfl) (pf c__law_mix hr (by decide) (by rfl) p0 (pa_cons (pv 4) (pa_cons pe_int (pa_cons pe_int pa_nil)))))
  (pss_cons (ps_if (pt_cmpR op_eq (pv 5) pe_int (nomark _))
  (pss_cons (ps_set (i := 6) nd rfl (Or.inl rfl) (pf c__law_bell_by hr (by decide) (by rfl) p0 (pa_cons (pv 1) (pa_cons (pv 3) (pa_cons (pv 4) pa_nil)))))
  (pss_cut (ps_if (pt_cmpR op_eq (pf c__law_mix hr (by decide) (by rfl) p0 (pa_cons (pv 4) (pa_cons pe_int (pa_cons pe_int pa_nil)))) pe_int (nomark _))
  (pss_cons (ps_expr (pm c_Desk_ring hr (by decide) (pU (L2N.takes_of rfl rfl rfl rfl)) (pv 0) (pa_cons (pv 6) pa_nil)))
  (pss_one (ps_set (i := 1) nd rfl (Or.inl rfl) (pf c__law_rung hr (by decide) (by rfl) p0 (pa_cons (pv 1) (pa_cons (pv 2) (pa_cons (pv 6) pa_nil)))))))
  pss_nil)
  (pss_cons (ps_if (pt_cmpR op_notN (pm c_Desk_wait hr (by decide) (pU (L2N.takes_of rfl rfl rfl rfl)) (pv 0) (pa_cons (pe_ix ix_tup (pv 3) pe_int (fun _ _ => rfl)) (pa_cons (pv 6) pa_nil))) pe_non (nomark _))
  (pss_one (ps_ret pe_non))
  pss_nil)
  (pss_one (ps_ret (pf c__law_put hr (by decide) (by rfl) p0 (pa_cons (pv 1) (pa_cons (pe_ix ix_tup (pv 3) pe_int (fun _ _ => rfl)) (pa_cons (pe_ix ix_tup (pv 3) pe_int (fun _ _ => rfl)) (pa_cons pe_str (pa_cons (pv 6) pa_nil)))))))))))
  pss_nil)
  (pss_cons (ps_set (i := 7) nd rfl (Or.inl rfl) (pe_ix ix_list (pe_lst (pa_cons (pe_op op_add pe_int (pf c__law_mix hr (by decide) (by rfl) p0 (pa_cons (pv 4) (pa_cons pe_int (pa_cons pe_int pa_nil))))) (pa_cons (pe_op op_add pe_int (pf c__law_mix hr (by decide) (by rfl) p0 (pa_cons (pv 4) (pa_cons pe_int (pa_cons pe_int pa_nil))))) pa_nil))) (pe_op op_sub (pv 5) pe_int) (fun _ _ => rfl)))
  (pss_cons (ps_if (pt_cmpR op_notN (pm c_Desk_sleep hr (by decide) (pU (L2N.takes_of rfl rfl rfl rfl)) (pv 0) (pa_cons (pe_ix ix_tup (pv 3) pe_int (fun _ _ => rfl)) (pa_cons (pv 7) pa_nil))) pe_non (nomark _))
  (pss_one (ps_ret pe_non))
  pss_nil)
  (pss_one (ps_ret (pf c__law_put hr (by decide) (by rfl) p0 (pa_cons (pv 1) (pa_cons (pe_ix ix_tup (pv 3) pe_int (fun _ _ => rfl)) (pa_cons (pe_ix ix_tup (pv 3) pe_int (fun _ _ => rfl)) (pa_cons pe_str (pa_cons (pe_op op_add (pv 2) (pv 7)) pa_nil)))))))))))), ?_⟩
    refine ⟨_, rfl, n, 10093, 3, rfl, by decide, by decide, ?_⟩
    by_cases z : mix n 10093 3 = 0
    · refine ⟨_, rfl, rfl, _, rfl, ?_⟩
      rw [decide_eq_true (show V.int (mix n 10093 3) = V.int 0 by rw [z])]
      refine iteT ⟨_, rfl, _, rfl, _, rfl, a, t, D.line, c, n, rfl, hL, (by intro e; rw [e] at hc; cases hc), sD.ok, ht, sD.ok c hc, fun b H1 k1 hb => ?_⟩
      refine ⟨fun σ' H2 => ∃ a2 D2 S2, σ' = [some (.ref d), some (.ref a2), some (.int D.now), some (.ref t), some (.int n), some (.int (mix n 10093 3)), some (.str b), none] ∧ Deed D D2 ∧ Keep K S H H2 ∧ Sub H S S2 ∧ DkAt K H2 S2 d D2 ∧ LnAt H2 a2 D2.line ∧ c ∈ D2.line, ?_, ?_⟩
      · refine ⟨_, rfl, n, 10211, 2, rfl, by decide, by decide, rfl, _, rfl, ite2 (fun _ => ?_) (fun _ => ⟨a, D, S, rfl, .refl D, k1.any, Sub.refl, hD.keep0 k1, hL.keep0 k1, hc⟩)⟩
        obtain ⟨L, ln, eS, x⟩ := id (hD.keep0 k1)
        obtain ⟨dx, hd⟩ := id x.desk
        refine ⟨_, rfl, d, dx, _, rfl, hd, rfl, _, rfl, d, S, D, b, rfl, isName_small hb, k1.tab _ hT, hD.keep0 k1, fun z => absurd hb (by rw [z]; decide), fun _ p np H3 S3 k3 s3 hD3 hp3 => ?_⟩
        have hL3 := (hL.keep0 k1).keepD (hD.keep0 k1) k3
        refine ⟨_, rfl, _, rfl, _, rfl, a, D, b, rfl, hL3, sD.len60, sD.nm, fun a2 H4 k4 h4 => ⟨a2, D.ring b, S3, rfl, Deed.ring D b sD.nm, (k1.any.trans k3).trans k4.any, fun y hy => (s3 y hy).imp_right (k1.gone y), hD3.keep0 k4, h4, ?_⟩⟩
        refine mem_wakeAll_of _ _ hc fun y hy e => ?_
        obtain ⟨h1, h2⟩ := List.mem_filter.mp hy
        rw [name_one sD.nm hc h1 e] at hr1
        rw [of_decide_eq_true h2] at hr1
        cases hr1
      rintro σ' H2 ⟨a2, D2, S2, rfl, dd, k2, s2, hD2, hL2, hc2⟩
      have sD2 := dd.sound sD
      have ht2 := ht.keepD hD k2
      obtain ⟨L, ln, eS, x⟩ := id hD2
      obtain ⟨dx, hd⟩ := id x.desk
      refine ⟨_, rfl, d, dx, _, rfl, hd, rfl, _, rfl, t, _, _, _, rfl, rfl, .inl (.inl ht2), rfl, _, rfl, d, S2, D2, c.name, b, rfl, isName_small hb, k2.tab _ hT, isName_small (sD2.ok c hc2), hD2, fun z => absurd (name_in hc2) z, fun c' hc' e => ⟨fun z => absurd hb (by rw [z]; decide), fun _ => ?_⟩⟩
      obtain rfl := name_one sD2.nm hc' hc2 e
      refine ⟨fun z => absurd hr1 (by rw [z]; decide), fun _ H5 S5 k5 s5 hD5 => ?_⟩
      have ht5 := ht2.keepD hD2 k5
      refine ⟨rfl, _, rfl, iteF ?_⟩
      refine ⟨_, rfl, _, rfl, t, _, _, _, rfl, rfl, .inl (.inl ht5), rfl, _, rfl, t, _, _, _, rfl, rfl, .inl (.inl ht5), rfl, _, rfl, a2, D2.line, c'.name, c'.rank, .wtg b, rfl, hL2.keepD hD2 k5, sD2.len60, fun b6 H6 k6 h6 => ?_⟩
      refine q _ S5 b6 H6 (.trans dd (.wait D2 c' b hc2 hr1 hb)) ((k2.subs s2 k5).trans k6.any) (s2.trans k2 s5) (hD5.keep0 k6) ?_
      rw [move_line sD2.nm hc2]
      exact h6
    · refine ⟨_, rfl, rfl, _, rfl, ?_⟩
      rw [decide_eq_false (show ¬ V.int (mix n 10093 3) = V.int 0 from fun y => z (V.int.inj y))]
      have h12 : mix n 10093 3 = 1 ∨ mix n 10093 3 = 2 := by omega
      have hx := mix_nn (c := n) (p := 10103) (m := 9) (by decide)
      have hy := mix_nn (c := n) (p := 10111) (m := 1000) (by decide)
      obtain ⟨m, hm, em⟩ : ∃ m : Int, (1 ≤ m ∧ m ≤ 1000) ∧ atI [V.int (1 + mix n 10103 9), V.int (1 + mix n 10111 1000)] (mix n 10093 3 - 1) = some (.int m) := by
        rcases h12 with e | e
        · exact ⟨1 + mix n 10103 9, by omega, by rw [e]; rfl⟩
        · exact ⟨1 + mix n 10111 1000, by omega, by rw [e]; rfl⟩
      refine iteF ⟨_, rfl, n, 10103, 9, rfl, by decide, by decide, _, _, rfl, rfl, _, rfl, n, 10111, 1000, rfl, by decide, by decide, _, _, rfl, rfl, (show 2 ≤ sizeLine by decide), fun g ng => ?_⟩
      refine ⟨_, rfl, _, _, rfl, rfl, g, _, _, .int m, rfl, rfl, .inl (.inl upd_same), em, ?_⟩
      have k1 : Keep K [] H (L2.upd H g (.lst [.int (1 + mix n 10103 9), .int (1 + mix n 10111 1000)])) := Keep.new ng
      have ht1 := ht.keep0 k1
      have hD1 := hD.keep0 k1
      obtain ⟨L, ln, eS, x⟩ := id hD1
      obtain ⟨dx, hd⟩ := id x.desk
      refine ⟨_, rfl, d, dx, _, rfl, hd, rfl, _, rfl, t, _, _, _, rfl, rfl, .inl (.inl ht1), rfl, _, rfl, d, S, D, c.name, m, rfl, ⟨by omega, by omega⟩, isName_small (sD.ok c hc), hD1, fun z => absurd (name_in hc) z, fun c' hc' e => ⟨fun z => absurd hm z, fun _ => ?_⟩⟩
      obtain rfl := name_one sD.nm hc' hc e
      refine ⟨fun z => absurd hr1 (by rw [z]; decide), fun _ H5 S5 k5 s5 hD5 => ?_⟩
      have ht5 := ht1.keepD hD1 k5
      refine ⟨rfl, _, rfl, iteF ?_⟩
      refine ⟨_, rfl, _, rfl, t, _, _, _, rfl, rfl, .inl (.inl ht5), rfl, _, rfl, t, _, _, _, rfl, rfl, .inl (.inl ht5), rfl, _, rfl, _, rfl, _, _, rfl, rfl, a, D.line, c'.name, c'.rank, .slp (D.now + m), rfl, (hL.keep0 k1).keepD hD1 k5, sD.len60, fun b6 H6 k6 h6 => ?_⟩
      refine q _ S5 b6 H6 (.sleep D c' m hc hr1 hm) ((k1.any.trans k5).trans k6.any) (fun y hy => (s5 y hy).imp_right (k1.gone y)) (hD5.keep0 k6) ?_
      rw [move_line sD.nm hc]
      exact h6
def sp_woken (K : PySem.W.Frag) : Sp := fun vs H Q _ => ∃ (d a t : Addr) (S : List Addr) (D : Dk) (c : Cr) (n : Int), vs = [.ref d, .ref a, .int D.now, .ref t, .int n] ∧ DkAt K H S d D ∧ Sound D ∧ LnAt H a D.line ∧ RowAt H t c ∧ c ∈ D.line ∧ c.st.isRdy = false ∧ TabG H (tabN K) ∧ Goes K H S d D fun b H' => Q (.ref b) H'
theorem c__law_woken (T : Tx K mg base) : Cal P w K mg base 4 "_law_woken" (sp_woken K) := by
  have c__law_mix : Cal P w K mg base 1 "_law_mix" sp_mix := c__law_mix T
  have c__law_put : Cal P w K mg base 1 "_law_put" (sp_put K) := c__law_put T
  have c__law_rung : Cal P w K mg base 2 "_law_rung" (sp_rung K) := c__law_rung T
  have c__law_rank_by : Cal P w K mg base 2 "_law_rank_by" (sp_rank_by K) := c__law_rank_by T
  have c__law_bell_by : Cal P w K mg base 3 "_law_bell_by" (sp_bell_by K) := c__law_bell_by T
  have c_Desk_ring : Met P w K mg base 3 (He.ga K "Desk") "ring" (sp_ring K) := c_Desk_ring T
  have c_Desk_rerank : Met P w K mg base 2 (He.ga K "Desk") "rerank" (sp_rerank K) := c_Desk_rerank T
  have c_Desk_wake : Met P w K mg base 3 (He.ga K "Desk") "wake" (sp_wake K) := c_Desk_wake T
  obtain ⟨fd, F⟩ := T.d__law_woken
  refine ⟨_, fd, ["_law_desk", "_law_line", "_law_now", "_law_one", "_law_cell"], okF (k := 3) F sc__law_woken (fun vs H Q E h => ?_) (fun A outer s H vs Q E hr h => ?_), T.r__law_woken, F.kp, F.bindsN fun _ _ _ _ _ _ us hl => match us, hl with | [_, _, _, _, _], _ => rfl⟩
  · obtain ⟨d, a, t, S, D, c, n, rfl, _⟩ := h
    rfl
  · have nd := sc__law_woken.nd
    obtain ⟨d, a, t, S, D, c, n, rfl, hD, sD, hL, ht, hc, hr1, hT, q⟩ := h
    refine ⟨_, (pss_cons (ps_set (i := 5) nd rfl (Or.inl rfl) (pf c__law_mix hr (by decide) (by rfl) p0 (pa_cons (pv 4) (pa_cons pe_int (pa_cons pe_int pa_nil)))))
  (pss_cons (ps_if (pt_cmpR op_eq (pv 5) pe_int (nomark _))
  (pss_cons (ps_set (i := 6) nd rfl (Or.inl rfl) (pf c__law_bell_by hr (by decide) (by rfl) p0 (pa_cons (pv 1) (pa_cons (pv 3) (pa_cons (pv 4) pa_nil)))))
  (pss_cut (ps_if (PW.pt (pw_and (pt_cmpR op_eq (pe_ix ix_tup (pv 3) pe_int (fun _ _ => rfl)) pe_str (nomark _)) (pw_and1 (pt_cmpR op_eq (pf c__law_mix hr (by decide) (by rfl) p0 (pa_cons (pv 4) (pa_cons pe_int (pa_cons pe_int pa_nil)))) pe_int (nomark _)))))
  (pss_one (ps_set (i := 6) nd rfl (Or.inl rfl) (pe_ix ix_tup (pv 3) pe_int (fun _ _ => rfl))))
  pss_nil)
  (pss_cons (ps_expr (pm c_Desk_ring hr (by decide) (pU (L2N.takes_of rfl rfl rfl rfl)) (pv 0) (pa_cons (pv 6) pa_nil)))
  (pss_one (ps_ret (pf c__law_rung hr (by decide) (by rfl) p0 (pa_cons (pv 1) (pa_cons (pv 2) (pa_cons (pv 6) pa_nil)))))))))
  pss_nil)
  (pss_cons (ps_if (pt_cmpR op_eq (pv 5) pe_int (nomark _))
  (pss_cons (ps_set (i := 7) nd rfl (Or.inr rfl) (pf c__law_rank_by hr (by decide) (by rfl) p0 (pa_cons (pv 4) pa_nil)))
  (pss_cons (ps_if (pt_cmpR op_notN (pm c_Desk_rerank hr (by decide) (pU (L2N.takes_of rfl rfl rfl rfl)) (pv 0) (pa_cons (pe_ix ix_tup (pv 3) pe_int (fun _ _ => rfl)) (pa_cons (pv 7) pa_nil))) pe_non (nomark _))
  (pss_one (ps_ret pe_non))
  pss_nil)
  (pss_one (ps_ret (pe_lc (own := [("_law_other", 8)]) (g := gName 8) (tt := tYes) rfl nd (pi_listK (K := K) rfl (pv 1)) (blkOk_by (N := N__law_woken) (sc := defScope s__law_woken) (by decide +kernel)) (fun _ _ _ _ _ => (pg_name (i := 8) nd rfl (Or.inl rfl))) (fun _ _ _ _ _ => pts_nil) (fun _ _ _ _ _ => (pe_ix (ix_listK (K := K) rfl) (pe_lst (pa_cons (pv 8) (pa_cons (pe_tup (pa_cons (pe_ix (ix_tupK (K := K) rfl) (pv 3) pe_int (fun _ _ => rfl)) (pa_cons (pv 7) (pa_cons (pe_ix (ix_tupK (K := K) rfl) (pv 3) pe_int (fun _ _ => rfl)) (pa_cons (pe_ix (ix_tupK (K := K) rfl) (pv 3) pe_int (fun _ _ => rfl)) pa_nil))))) pa_nil))) (pe_callTy call_int1 (by rfl) T.m_int (by decide +kernel) (pa_cons (pe_cmpR op_eq (pe_ix (ix_tupK (K := K) rfl) (pv 8) pe_int (fun _ _ => rfl)) (pe_ix (ix_tupK (K := K) rfl) (pv 3) pe_int (fun _ _ => rfl)) (nomark _)) pa_nil)) (fun _ _ => rfl))))))))
  pss_nil)
  (pss_cons (ps_if (pt_cmpR op_notN (pm c_Desk_wake hr (by decide) (pU (L2N.takes_of rfl rfl rfl rfl)) (pv 0) (pa_cons (pe_ix ix_tup (pv 3) pe_int (fun _ _ => rfl)) pa_nil)) pe_non (nomark _))
  (pss_one (ps_ret pe_non))
  pss_nil)
  (pss_one (ps_ret (pf c__law_put hr (by decide) (by rfl) p0 (pa_cons (pv 1) (pa_cons (pe_ix ix_tup (pv 3) pe_int (fun _ _ => rfl)) (pa_cons (pe_ix ix_tup (pv 3) pe_int (fun _ _ => rfl)) (pa_cons pe_str (pa_cons (pv 2) pa_nil)))))))))))), ?_⟩
    refine ⟨_, rfl, n, 10093, 3, rfl, by decide, by decide, ?_⟩
    refine ⟨_, rfl, rfl, _, rfl, ite2 (fun _ => ?_) (fun _ => ?_)⟩
    · refine ⟨_, rfl, _, rfl, _, rfl, a, t, D.line, c, n, rfl, hL, (by intro e; rw [e] at hc; cases hc), sD.ok, ht, sD.ok c hc, fun b0 H1 k1 hb0 => ?_⟩
      have ht1 := ht.keep0 k1
      refine ⟨fun σ' H2 => H1 = H2 ∧ ∃ b, isName b = true ∧ σ' = [some (.ref d), some (.ref a), some (.int D.now), some (.ref t), some (.int n), some (.int (mix n 10093 3)), some (.str b), none, none], ?_, ?_⟩
      · refine ⟨_, rfl, t, _, _, _, rfl, rfl, .inl (.inl ht1), rfl, rfl, _, rfl, ?_⟩
        have hs := sD.st c hc
        obtain ⟨nm, r, st⟩ := c
        cases st with
        | rdy s => exact iteF (iteF ⟨rfl, b0, hb0, rfl⟩)
        | slp s => exact iteF (iteF ⟨rfl, b0, hb0, rfl⟩)
        | wtg b2 =>
          refine iteT ⟨_, rfl, n, 10211, 2, rfl, by decide, by decide, rfl, _, rfl, ite2 (fun _ => ?_) (fun _ => ⟨rfl, b0, hb0, rfl⟩)⟩
          exact ⟨_, rfl, t, _, _, _, rfl, rfl, .inl (.inl ht1), rfl, rfl, b2, hs, rfl⟩
      rintro σ' _ ⟨rfl, b, hb, rfl⟩
      obtain ⟨L, ln, eS, x⟩ := id (hD.keep0 k1)
      obtain ⟨dx, hd⟩ := id x.desk
      refine ⟨_, rfl, d, dx, _, rfl, hd, rfl, _, rfl, d, S, D, b, rfl, isName_small hb, k1.tab _ hT, hD.keep0 k1, fun z => absurd hb (by rw [z]; decide), fun _ p np H3 S3 k3 s3 hD3 hp3 => ?_⟩
      have hL3 := (hL.keep0 k1).keepD (hD.keep0 k1) k3
      refine ⟨_, rfl, _, rfl, _, rfl, a, D, b, rfl, hL3, sD.len60, sD.nm, fun a2 H4 k4 h4 => q _ S3 a2 H4 (Deed.ring D b sD.nm) ((k1.any.trans k3).trans k4.any) (fun y hy => (s3 y hy).imp_right (k1.gone y)) (hD3.keep0 k4) h4⟩
    refine ⟨_, rfl, rfl, _, rfl, ite2 (fun _ => ?_) (fun _ => ?_)⟩
    · refine ⟨_, rfl, n, rfl, fun r H1 k1 hr9 => ?_⟩
      have ht1 := ht.keep0 k1
      have hD1 := hD.keep0 k1
      obtain ⟨L, ln, eS, x⟩ := id hD1
      obtain ⟨dx, hd⟩ := id x.desk
      refine ⟨_, rfl, d, dx, _, rfl, hd, rfl, _, rfl, t, _, _, _, rfl, rfl, .inl (.inl ht1), rfl, _, rfl, d, S, D, c.name, r, rfl, ⟨by omega, by omega⟩, isName_small (sD.ok c hc), hD1, fun z => absurd (name_in hc) z, fun c' hc' e => ⟨fun z => absurd hr9 z, fun _ => ?_⟩⟩
      obtain rfl := name_one sD.nm hc' hc e
      refine ⟨fun z => absurd hr1 (by rw [z]; decide), fun _ H5 S5 k5 s5 hD5 => ?_⟩
      have ht5 := ht1.keepD hD1 k5
      have hL5 := (hL.keep0 k1).keepD hD1 k5
      have fin : ∀ b H6, Keep K [] H5 H6 → LnAt H6 b (D.setR { c' with rank := r }).line → Q (.ref b) H6 := fun b H6 k6 h6 =>
        q _ S5 b H6 (.rerank D c' r hc hr1 hr9) ((k1.any.trans k5).trans k6.any) (fun y hy => (s5 y hy).imp_right (k1.gone y)) (hD5.keep0 k6) h6
      obtain ⟨ps, el, ha5, hp5⟩ := id hL5
      have hl60 := sD.len60
      rw [el, List.length_map] at hl60
      refine ⟨rfl, _, rfl, iteF ?_⟩
      refine ⟨_, rfl, a, rfl, ⟨_, .inl (.inl ha5)⟩, fun b nb => ?_⟩
      refine lc_it (walk_list (K := K) (xs := ps.map fun p => V.ref p.1)) (Pv := fun i H' => Keep K [] H5 H' ∧ ∃ qs : List (Addr × Cr), qs.map (·.2) = setC { c' with rank := r } ((ps.take i).map (·.2)) ∧ H' b = some (.lst (qs.map fun p => V.ref p.1)) ∧ ∀ p ∈ qs, RowAt H' p.1 p.2) ⟨Keep.new nb, [], rfl, upd_same, fun p hp => (nomatch hp)⟩ (fun i H' _ p => .inl (.inl (p.1.lst ha5 List.not_mem_nil))) ?_ ?_
      · rintro i v H6 H7 hi ⟨k6, qs, eq6, hb6, hq6⟩ ⟨rfl, hv⟩
        rw [List.getElem?_map] at hv
        cases ep : ps[i]? with
        | none =>
          rw [ep] at hv
          cases hv
        | some p =>
          rw [ep] at hv
          obtain rfl : V.ref p.1 = v := Option.some.inj hv
          have hpr := (hp5 p (List.mem_of_getElem? ep)).keep0 k6
          have ht6 := ht5.keep0 k6
          refine ⟨rfl, ?_⟩
          refine ⟨_, rfl, _, rfl, t, _, _, _, rfl, rfl, .inl (.inl ht6), rfl, _, rfl, _, rfl, t, _, _, _, rfl, rfl, .inl (.inl ht6), rfl, _, rfl, t, _, _, _, rfl, rfl, .inl (.inl ht6), rfl, (show 4 ≤ sizeLine by decide), fun t2 nt2 => ⟨(show 2 ≤ sizeLine by decide), fun g ng => ?_⟩⟩
          have k7 : Keep K [] H7 (L2.upd (L2.upd H7 t2 (.tup [.str c'.name, .int r, .str c'.st.word, c'.st.markV])) g (.lst [.ref p.1, .ref t2])) := (Keep.new nt2).trans (Keep.new ng)
          have hpr7 := hpr.keep0 k7
          have ht7 := ht6.keep0 k7
          have ht2 : RowAt (L2.upd (L2.upd H7 t2 (.tup [.str c'.name, .int r, .str c'.st.word, c'.st.markV])) g (.lst [.ref p.1, .ref t2])) t2 { c' with rank := r } := (upd_ne (ne_of_none upd_same ng)).trans upd_same
          have hb7 := k7.lst hb6 List.not_mem_nil
          have lq : qs.length ≤ 60 := by
            have e9 := congrArg List.length eq6
            rw [List.length_map, setC_len, List.length_map, List.length_take] at e9
            omega
          have go : ∀ (u : Addr) (y : Cr), RowAt (L2.upd (L2.upd H7 t2 (.tup [.str c'.name, .int r, .str c'.st.word, c'.st.markV])) g (.lst [.ref p.1, .ref t2])) u y → y = (if p.2.name = c'.name then { c' with rank := r } else p.2) →
              ∃ acc, (L2.upd (L2.upd H7 t2 (.tup [.str c'.name, .int r, .str c'.st.word, c'.st.markV])) g (.lst [.ref p.1, .ref t2])) b = some (.lst acc) ∧ acc.length < sizeLine ∧
              (Keep K [] H5 (L2.upd (L2.upd (L2.upd H7 t2 (.tup [.str c'.name, .int r, .str c'.st.word, c'.st.markV])) g (.lst [.ref p.1, .ref t2])) b (.lst (acc ++ [.ref u]))) ∧ ∃ qs : List (Addr × Cr), qs.map (·.2) = setC { c' with rank := r } ((ps.take (i + 1)).map (·.2)) ∧
                (L2.upd (L2.upd (L2.upd H7 t2 (.tup [.str c'.name, .int r, .str c'.st.word, c'.st.markV])) g (.lst [.ref p.1, .ref t2])) b (.lst (acc ++ [.ref u]))) b = some (.lst (qs.map fun p => V.ref p.1)) ∧ ∀ p' ∈ qs, RowAt (L2.upd (L2.upd (L2.upd H7 t2 (.tup [.str c'.name, .int r, .str c'.st.word, c'.st.markV])) g (.lst [.ref p.1, .ref t2])) b (.lst (acc ++ [.ref u]))) p'.1 p'.2) := by
            intro u y hu ey
            refine ⟨_, hb7, by rw [List.length_map]; exact small1000 (by omega), (k6.trans k7).set (.inl nb) hb7 nt_lst, qs ++ [(u, y)], ?_, ?_, fun p' hp' => ?_⟩
            · rw [List.map_append, eq6, List.take_add_one, ep]
              show setC _ _ ++ [y] = setC _ ((ps.take i ++ [p]).map (·.2))
              rw [List.map_append, ey]
              unfold setC
              rw [List.map_append]
              rfl
            · rw [upd_same, List.map_append]
              rfl
            · have row : RowAt (L2.upd (L2.upd H7 t2 (.tup [.str c'.name, .int r, .str c'.st.word, c'.st.markV])) g (.lst [.ref p.1, .ref t2])) p'.1 p'.2 := by
                rcases List.mem_append.mp hp' with h | h
                · exact (hq6 p' h).keep0 k7
                · rw [List.mem_singleton.mp h]
                  exact hu
              exact (upd_ne (fun z => by rw [RowAt, z, hb7] at row; cases row)).trans row
          refine ⟨_, rfl, p.1, _, _, _, rfl, rfl, .inl (.inl hpr7), rfl, _, rfl, t, _, _, _, rfl, rfl, .inl (.inl ht7), rfl, rfl, ?_⟩
          rw [str_eq]
          by_cases e9 : p.2.name = c'.name
          · rw [decide_eq_true e9]
            exact .inr ⟨true, rfl, g, _, (1 : Int), .ref t2, rfl, rfl, .inl (.inl upd_same), rfl, go t2 _ ht2 (by rw [if_pos e9])⟩
          · rw [decide_eq_false e9]
            exact .inr ⟨false, rfl, g, _, (0 : Int), .ref p.1, rfl, rfl, .inl (.inl upd_same), rfl, go p.1 _ hpr7 (by rw [if_neg e9])⟩
      · rintro H6 ⟨k6, qs, eq6, hb6, hq6⟩
        refine fin b H6 k6 ⟨qs, ?_, hb6, hq6⟩
        rw [List.length_map, List.take_of_length_le (Nat.le_refl _), ← el] at eq6
        exact eq6.symm
    · have ht1 := ht
      obtain ⟨L, ln, eS, x⟩ := id hD
      obtain ⟨dx, hd⟩ := id x.desk
      refine ⟨_, rfl, d, dx, _, rfl, hd, rfl, _, rfl, t, _, _, _, rfl, rfl, .inl (.inl ht1), rfl, d, S, D, c.name, rfl, isName_small (sD.ok c hc), hD, fun z => absurd (name_in hc) z, fun c' hc' e => ?_⟩
      obtain rfl := name_one sD.nm hc' hc e
      refine ⟨fun z => absurd hr1 (by rw [z]; decide), fun _ H5 S5 k5 s5 hD5 => ?_⟩
      have ht5 := ht1.keepD hD k5
      refine ⟨rfl, _, rfl, iteF ?_⟩
      refine ⟨_, rfl, _, rfl, t, _, _, _, rfl, rfl, .inl (.inl ht5), rfl, _, rfl, t, _, _, _, rfl, rfl, .inl (.inl ht5), rfl, _, rfl, a, D.line, c'.name, c'.rank, .rdy D.now, rfl, hL.keepD hD k5, sD.len60, fun b6 H6 k6 h6 => ?_⟩
      refine q _ S5 b6 H6 (.wake D c' hc hr1) (k5.trans k6.any) s5 (hD5.keep0 k6) ?_
      rw [move_line sD.nm hc]
      exact h6
def sp_told (K : PySem.W.Frag) : Sp := fun vs H Q _ => ∃ (d : Addr) (S : List Addr) (D : Dk) (m n : Int), vs = [.ref d, .int m, .int n] ∧ DkAt K H S d D ∧ (0 ≤ m ∧ m ≤ 1000) ∧ ∀ p S' H', Keep K S H H' → Sub H S S' → DkAt K H' S' d (D.after m.toNat) → H' p = some (.lst (D.told m.toNat)) → Q (.ref p) H'
theorem c__law_told (T : Tx K mg base) : Cal P w K mg base 6 "_law_told" (sp_told K) := by
  have c__law_mix : Cal P w K mg base 1 "_law_mix" sp_mix := c__law_mix T
  have c_Desk_turn : Met P w K mg base 4 (He.ga K "Desk") "turn" (sp_turn K) := c_Desk_turn T
  have c_Desk_run : Met P w K mg base 5 (He.ga K "Desk") "run" (sp_run K) := c_Desk_run T
  obtain ⟨fd, F⟩ := T.d__law_told
  refine ⟨_, fd, ["_law_desk", "_law_many_here", "_law_cell"], okF (k := 5) F sc__law_told (fun vs H Q E h => ?_) (fun A outer s H vs Q E hr h => ?_), T.r__law_told, F.kp, F.bindsN fun _ _ _ _ _ _ us hl => match us, hl with | [_, _, _], _ => rfl⟩
  · obtain ⟨d, S, D, m, n, rfl, _⟩ := h
    rfl
  · have nd := sc__law_told.nd
    obtain ⟨d, S, D, m, n, rfl, hD, hm, q⟩ := h
    obtain ⟨L, ln, eS, x⟩ := id hD
    obtain ⟨dx, hd⟩ := id x.desk
    refine ⟨_, (pss_cons (ps_if (pt_cmpR op_eq (pf c__law_mix hr (by decide) (by rfl) p0 (pa_cons (pv 2) (pa_cons pe_int (pa_cons pe_int pa_nil)))) pe_int (nomark _))
  (pss_one (ps_ret (pe_lc (own := [("_law_k", 3)]) (g := gName 3) (tt := tYes) rfl nd (pi_range1 (by rfl) T.m_range (pa_cons (pv 1) pa_nil)) (blkOk_by (N := N__law_told) (sc := defScope s__law_told) (by decide +kernel)) (fun _ _ _ _ _ => (pg_name (i := 3) nd rfl (Or.inl rfl))) (fun _ _ _ _ _ => pts_nil) (fun _ _ _ _ _ => (pm0 c_Desk_turn hr (by decide) p0 (pv 0))))))
  pss_nil)
  (pss_one (ps_ret (pm c_Desk_run hr (by decide) (pU (L2N.takes_of rfl rfl rfl rfl)) (pv 0) (pa_cons (pv 1) pa_nil))))), ?_⟩
    refine ⟨_, rfl, n, 10223, 3, rfl, by decide, by decide, rfl, _, rfl, ite2 (fun _ => ?_) (fun _ => ?_)⟩
    · refine ⟨_, rfl, m, rfl, by omega, by omega, fun p np => ?_⟩
      refine lc_it walk_range (Pv := fun i H' => ∃ S', Keep K S H H' ∧ Sub H S S' ∧ DkAt K H' S' d (D.after i) ∧ H' p = some (.lst (D.told i))) ⟨S, Keep.new np, Sub.refl, hD.keep0 (Keep.new np), upd_same⟩ (fun _ _ _ _ => trivial) ?_ ?_
      · rintro i v H1 H2 hi ⟨S1, k1, s1, hD1, hp1⟩ ⟨rfl, rfl⟩
        obtain ⟨L1, ln1, eS1, x1⟩ := id hD1
        obtain ⟨dx1, hd1⟩ := id x1.desk
        refine ⟨rfl, ?_⟩
        refine ⟨_, rfl, d, dx1, _, rfl, hd1, rfl, d, S1, D.after i, rfl, hD1, fun H3 S3 k3 s3 hD3 => ?_⟩
        have hp3 := k3.lst hp1 (hD1.lst hp1)
        refine ⟨_, hp3, ?_, S3, (k1.subs s1 k3).set (.inl np) hp3 nt_lst, s1.trans k1 s3, ?_, ?_⟩
        · rw [told_len]
          have : i < m.toNat := hi
          exact Nat.lt_of_lt_of_le (show i < 1001 by omega) (by decide)
        · exact hD3.keep (S' := [p]) (Keep.upd hp3 (List.mem_singleton.mpr rfl) nt_lst) fun b hb z => by rw [List.mem_singleton.mp z] at hb; exact hD3.lst hp3 hb
        · rw [upd_same, told_snoc]
      · rintro H1 ⟨S1, k1, s1, hD1, hp1⟩
        exact q p S1 H1 k1 s1 hD1 hp1
    · exact ⟨_, rfl, d, dx, _, rfl, hd, rfl, _, rfl, d, S, D, m, rfl, ⟨by omega, by omega⟩, hD, fun z => absurd hm z, fun _ p np H1 S1 k1 s1 hD1 hp1 => q p S1 H1 k1 s1 hD1 hp1⟩
def sp_few : Sp := fun vs H Q _ => ∃ n m : Int, vs = [.int n, .int m] ∧ 0 ≤ m ∧ m ≤ 60 ∧ ∀ r : Int, 0 ≤ r ∧ r ≤ 1000 → Q (.int r) H
theorem c__law_few (T : Tx K mg base) : Cal P w K mg base 2 "_law_few" sp_few := by
  have c__law_mix : Cal P w K mg base 1 "_law_mix" sp_mix := c__law_mix T
  obtain ⟨fd, F⟩ := T.d__law_few
  refine ⟨_, fd, ["_law_cell", "_law_many_here"], okF (k := 1) F sc__law_few (fun vs H Q E h => ?_) (fun A outer s H vs Q E hr h => ?_), T.r__law_few, F.kp, F.bindsN fun _ _ _ _ _ _ us hl => match us, hl with | [_, _], _ => rfl⟩
  · obtain ⟨n, m, rfl, _⟩ := h
    rfl
  · have nd := sc__law_few.nd
    obtain ⟨n, m, rfl, m0, m60, q⟩ := h
    refine ⟨_, (pss_cut (ps_if (PW.pt (pw_and (pt_cmpR op_lt (pv 1) pe_int (nomark _)) (pw_and1 (pt_cmpR op_eq (pf c__law_mix hr (by decide) (by rfl) p0 (pa_cons (pv 0) (pa_cons pe_int (pa_cons pe_int pa_nil)))) pe_int (nomark _)))))
  (pss_one (ps_ret (pe_op op_add pe_int (pf c__law_mix hr (by decide) (by rfl) p0 (pa_cons (pv 0) (pa_cons pe_int (pa_cons pe_int pa_nil)))))))
  pss_nil)
  (pss_cons (ps_if (pt_cmpR op_eq (pf c__law_mix hr (by decide) (by rfl) p0 (pa_cons (pv 0) (pa_cons pe_int (pa_cons pe_int pa_nil)))) pe_int (nomark _))
  (pss_one (ps_ret (pf c__law_mix hr (by decide) (by rfl) p0 (pa_cons (pv 0) (pa_cons pe_int (pa_cons (pe_op op_add pe_int (pe_op op_fdiv pe_int (pe_op op_add (pv 1) pe_int))) pa_nil))))))
  pss_nil)
  (pss_one (ps_ret (pf c__law_mix hr (by decide) (by rfl) p0 (pa_cons (pv 0) (pa_cons pe_int (pa_cons pe_int pa_nil)))))))), ?_⟩
    refine ⟨fun σ' H1 => H = H1 ∧ σ' = [some (.int n), some (.int m)], ?_, ?_⟩
    · refine ⟨_, rfl, _, _, rfl, rfl, _, rfl, ite2 (fun _ => ?_) (fun _ => iteF ⟨rfl, rfl⟩)⟩
      have h1 := mix_nn (c := n) (p := 10163) (m := 701) (by decide)
      exact ⟨_, rfl, n, 10267, 300, rfl, by decide, by decide, rfl, _, rfl, ite2 (fun _ => ⟨_, rfl, n, 10163, 701, rfl, by decide, by decide, _, _, rfl, rfl, q _ (by omega)⟩) (fun _ => ⟨rfl, rfl⟩)⟩
    rintro σ' _ ⟨rfl, rfl⟩
    have hd : 0 ≤ 200 / (m + 1) := Int.ediv_nonneg (by decide) (by omega)
    have hd2 : 200 / (m + 1) ≤ 200 := Int.ediv_le_self _ (by decide)
    have h2 := mix_nn (c := n) (p := 10163) (m := 2 + 200 / (m + 1)) (by omega)
    have h3 := mix_nn (c := n) (p := 10163) (m := 5) (by decide)
    refine ⟨_, rfl, n, 10159, 5, rfl, by decide, by decide, rfl, _, rfl, ite2 (fun _ => ?_) (fun _ => ?_)⟩
    · exact ⟨_, rfl, _, rfl, _, _, rfl, rfl, _, _, rfl, rfl, ⟨by omega, by omega⟩, _, _, rfl, rfl, n, 10163, _, rfl, by decide, by omega, q _ (by omega)⟩
    · exact ⟨_, rfl, n, 10163, 5, rfl, by decide, by decide, q _ (by omega)⟩
def sp_many (K : PySem.W.Frag) : Sp := fun vs H Q _ => ∃ (a : Addr) (ns : List Int) (m : Int), vs = [.ref a, .int m] ∧ SqL K H a (ns.map V.int) ∧ 1 ≤ m ∧ m ≤ 60 ∧ ∀ r : Int, 0 ≤ r ∧ r ≤ m → Q (.int r) H
theorem c__law_many (T : Tx K mg base) : Cal P w K mg base 2 "_law_many" (sp_many K) := by
  have c__law_cell_at : Cal P w K mg base 1 "_law_cell_at" (sp_cell K) := c__law_cell_at T
  obtain ⟨fd, F⟩ := T.d__law_many
  refine ⟨_, fd, ["_law_script", "_law_room"], okF (k := 1) F sc__law_many (fun vs H Q E h => ?_) (fun A outer s H vs Q E hr h => ?_), T.r__law_many, F.kp, F.bindsN fun _ _ _ _ _ _ us hl => match us, hl with | [_, _], _ => rfl⟩
  · obtain ⟨a, ns, m, rfl, _⟩ := h
    rfl
  · have nd := sc__law_many.nd
    obtain ⟨a, ns, m, rfl, hS, m1, m60, q⟩ := h
    refine ⟨_, (pss_cons (ps_if (pt_cmpR op_eq (pe_op op_mod (pe_op op_fdiv (pf c__law_cell_at hr (by decide) (by rfl) p0 (pa_cons (pv 0) (pa_cons pe_int pa_nil))) pe_int) pe_int) pe_int (nomark _))
  (pss_one (ps_ret (pe_op op_mod (pe_op op_fdiv (pf c__law_cell_at hr (by decide) (by rfl) p0 (pa_cons (pv 0) (pa_cons pe_int pa_nil))) pe_int) (pe_op op_add (pv 1) pe_int))))
  pss_nil)
  (pss_one (ps_ret (pe_callB (call_min2 rfl) (by rfl) T.m_min (by decide +kernel) (pa_cons (pv 1) (pa_cons (pe_op op_mod (pf c__law_cell_at hr (by decide) (by rfl) p0 (pa_cons (pv 0) (pa_cons pe_int pa_nil))) pe_int) pa_nil)))))), ?_⟩
    refine ⟨_, rfl, a, ns, 1, rfl, hS, by decide, _, _, rfl, rfl, ⟨by decide, by decide⟩, _, _, rfl, rfl, (show (0 : Int) < 4 by decide), rfl, _, rfl, ite2 (fun _ => ?_) (fun _ => ?_)⟩
    · have h1 : 0 ≤ cell ns 1 / 28 % (m + 1) := Int.emod_nonneg _ (by omega)
      have h2 : cell ns 1 / 28 % (m + 1) < m + 1 := Int.emod_lt_of_pos _ (by omega)
      exact ⟨_, rfl, a, ns, 1, rfl, hS, by decide, _, _, rfl, rfl, ⟨by decide, by decide⟩, _, rfl, _, _, rfl, rfl, _, _, rfl, rfl, by omega, q _ ⟨h1, by omega⟩⟩
    · have h1 : 0 ≤ cell ns 1 % 7 := Int.emod_nonneg _ (by decide)
      refine ⟨_, rfl, _, rfl, a, ns, 1, rfl, hS, by decide, _, _, rfl, rfl, (show (0 : Int) < 7 by decide), _, _, rfl, q _ ?_⟩
      split <;> omega
end
end Rr

set_option maxRecDepth 100000
set_option maxHeartbeats 4000000
namespace Rr
open PySem PySem.Spec PyProof.Rows L2
open GxR (TabG Tabbed)
open Evl (pss_cut)
section
variable {P : Program} {w : World} {K : PySem.W.Frag} {mg : Str → Option Value} {base : Heap}
theorem Goes.of0 {H H1 : Hp} {S : List Addr} {d : Addr} {D : Dk} {q : Addr → Hp → Prop} (g : Goes K H S d D q) (k : Keep K [] H H1) : Goes K H1 S d D q :=
  fun D' S' b H' dd k' s' x y => g D' S' b H' dd (k.any.trans k') (fun z hz => (s' z hz).imp_right (k.gone z)) x y
theorem ps_at {ps : List (Addr × Cr)} {z : Int} (h0 : 0 ≤ z) (h : z < ps.length) : ∃ p ∈ ps, atI (ps.map fun p => V.ref p.1) z = some (.ref p.1) := by
  have hl : z.toNat < ps.length := by omega
  refine ⟨ps[z.toNat], List.getElem_mem hl, ?_⟩
  have e := atI_nat (xs := ps.map fun p => V.ref p.1) (j := z.toNat) (v := .ref ps[z.toNat].1) (by rw [List.getElem?_map, List.getElem?_eq_getElem hl]; rfl)
  rw [Int.toNat_of_nonneg h0] at e
  exact e
def sp_done (K : PySem.W.Frag) : Sp := fun vs H Q _ => ∃ (d a : Addr) (S : List Addr) (D : Dk) (n sh : Int), vs = [.ref d, .ref a, .int D.now, .int n, .int sh] ∧ DkAt K H S d D ∧ Sound D ∧ LnAt H a D.line ∧ TabG H (tabN K) ∧ Goes K H S d D fun b H' => Q (.ref b) H'
theorem c__law_done (T : Tx K mg base) : Cal P w K mg base 5 "_law_done" (sp_done K) := by
  have c__law_mix : Cal P w K mg base 1 "_law_mix" sp_mix := c__law_mix T
  have c__law_name_by : Cal P w K mg base 2 "_law_name_by" (sp_name_by K) := c__law_name_by T
  have c__law_rank_by : Cal P w K mg base 2 "_law_rank_by" (sp_rank_by K) := c__law_rank_by T
  have c__law_slept : Cal P w K mg base 4 "_law_slept" (sp_slept K) := c__law_slept T
  have c__law_woken : Cal P w K mg base 4 "_law_woken" (sp_woken K) := c__law_woken T
  have c_Desk_enter : Met P w K mg base 3 (He.ga K "Desk") "enter" (sp_enter K) := c_Desk_enter T
  have c_Desk_leave : Met P w K mg base 2 (He.ga K "Desk") "leave" (sp_leave K) := c_Desk_leave T
  obtain ⟨fd, F⟩ := T.d__law_done
  refine ⟨_, fd, ["_law_desk", "_law_line", "_law_now", "_law_cell", "_law_shift"], okF (k := 4) F sc__law_done (fun vs H Q E h => ?_) (fun A outer s H vs Q E hr h => ?_), T.r__law_done, F.kp, F.bindsN fun _ _ _ _ _ _ us hl => match us, hl with | [_, _, _, _, _], _ => rfl⟩
  · obtain ⟨d, a, S, D, n, sh, rfl, _⟩ := h
    rfl
  · have nd := sc__law_done.nd
    obtain ⟨d, a, S, D, n, sh, rfl, hD, sD, hL, hT, q⟩ := h
    obtain ⟨L, ln, eS, x⟩ := id hD
    obtain ⟨dx, hd⟩ := id x.desk
    refine ⟨_, (pss_cons (ps_set (i := 5) nd rfl (Or.inl rfl) (pf c__law_name_by hr (by decide) (by rfl) p0 (pa_cons (pf c__law_mix hr (by decide) (by rfl) p0 (pa_cons (pv 3) (pa_cons pe_int (pa_cons (pe_op op_add pe_int (pe_fld (pv 0) rfl)) pa_nil)))) (pa_cons (pv 4) pa_nil))))
  (pss_cons (ps_set (i := 6) nd rfl (Or.inl rfl) (pf c__law_mix hr (by decide) (by rfl) p0 (pa_cons (pv 3) (pa_cons pe_int (pa_cons pe_int pa_nil)))))
  (pss_cut (ps_if (PW.pt (pw_and (pt_cmpR op_lt (pv 6) pe_int (nomark _)) (pw_and (pt_cmpR op_lt (pe_callB call_len_seq (by rfl) T.m_len boot_len (pa_cons (pv 1) pa_nil)) (pe_fld (pv 0) rfl) (nomark _)) (pw_and1 (pt_cmpR op_notIn_seq (pv 5) (pe_lc (own := [("_law_one", 7)]) (g := gName 7) (tt := tYes) rfl nd (pi_listK (K := K) rfl (pv 1)) (blkOk_by (N := N__law_done) (sc := defScope s__law_done) (by decide +kernel)) (fun _ _ _ _ _ => (pg_name (i := 7) nd rfl (Or.inl rfl))) (fun _ _ _ _ _ => pts_nil) (fun _ _ _ _ _ => (pe_ix (ix_tupK (K := K) rfl) (pv 7) pe_int (fun _ _ => rfl)))) rfl)))))
  (pss_cons (ps_set (i := 8) nd rfl (Or.inl rfl) (pf c__law_rank_by hr (by decide) (by rfl) p0 (pa_cons (pv 3) pa_nil)))
  (pss_cons (ps_if (pt_cmpR op_notN (pm c_Desk_enter hr (by decide) (pU (L2N.takes_of rfl rfl rfl rfl)) (pv 0) (pa_cons (pv 5) (pa_cons (pv 8) pa_nil))) pe_non (nomark _))
  (pss_one (ps_ret pe_non))
  pss_nil)
  (pss_one (ps_ret (pe_op op_cat (pv 1) (pe_lst (pa_cons (pe_tup (pa_cons (pv 5) (pa_cons (pv 8) (pa_cons pe_str (pa_cons (pv 2) pa_nil))))) pa_nil)))))))
  pss_nil)
  (pss_cons (ps_if (pt_cmpR (op_eqD hr.units) (pv 1) (pe_lst pa_nil) (nomark _))
  (pss_one (ps_ret (pv 1)))
  pss_nil)
  (pss_cons (ps_set (i := 7) nd rfl (Or.inr rfl) (pe_ix ix_list (pv 1) (pf c__law_mix hr (by decide) (by rfl) p0 (pa_cons (pv 3) (pa_cons pe_int (pa_cons (pe_callB call_len_seq (by rfl) T.m_len boot_len (pa_cons (pv 1) pa_nil)) pa_nil)))) (fun _ _ => rfl)))
  (pss_cut (ps_if (PW.pt (pw_and (pt_cmpR op_eq (pv 6) pe_int (nomark _)) (pw_and1 (pt_cmpR op_eq (pf c__law_mix hr (by decide) (by rfl) p0 (pa_cons (pv 3) (pa_cons pe_int (pa_cons pe_int pa_nil)))) pe_int (nomark _)))))
  (pss_cons (ps_if (pt_cmpR op_notN (pm c_Desk_leave hr (by decide) (pU (L2N.takes_of rfl rfl rfl rfl)) (pv 0) (pa_cons (pe_ix ix_tup (pv 7) pe_int (fun _ _ => rfl)) pa_nil)) pe_non (nomark _))
  (pss_one (ps_ret pe_non))
  pss_nil)
  (pss_one (ps_ret (pe_lc (own := [("_law_other", 9)]) (g := gName 9) rfl nd (pi_listK (K := K) rfl (pv 1)) (blkOk_by (N := N__law_done) (sc := defScope s__law_done) (by decide +kernel)) (fun _ _ _ _ _ => (pg_name (i := 9) nd rfl (Or.inl rfl))) (fun _ _ _ _ _ => (pts_one (pt_cmpR op_ne (pe_ix (ix_tupK (K := K) rfl) (pv 9) pe_int (fun _ _ => rfl)) (pe_ix (ix_tupK (K := K) rfl) (pv 7) pe_int (fun _ _ => rfl)) (nomark _)))) (fun _ _ _ _ _ => (pv 9))))))
  pss_nil)
  (pss_cons (ps_if (pt_cmpR op_eq (pe_ix ix_tup (pv 7) pe_int (fun _ _ => rfl)) pe_str (nomark _))
  (pss_one (ps_ret (pf c__law_slept hr (by decide) (by rfl) p0 (pa_cons (pv 0) (pa_cons (pv 1) (pa_cons (pv 2) (pa_cons (pv 7) (pa_cons (pv 3) pa_nil))))))))
  pss_nil)
  (pss_one (ps_ret (pf c__law_woken hr (by decide) (by rfl) p0 (pa_cons (pv 0) (pa_cons (pv 1) (pa_cons (pv 2) (pa_cons (pv 7) (pa_cons (pv 3) pa_nil))))))))))))))), ?_⟩
    have hk := mix_nn (c := n) (p := 10133) (m := 2 + D.room) (by have := sD.pr.2.1; omega)
    have hr60 := sD.pr.2.2
    refine ⟨_, rfl, _, rfl, d, _, _, _, _, rfl, hd, T.cl_Desk, T.na_Desk_room, rfl, _, _, rfl, rfl, n, 10133, _, rfl, by decide, by have := sD.pr.2.1; omega, _, rfl, _, sh, rfl, hk.1, by omega, fun H1 k1 => ?_⟩
    have nmk := name_ok (k := mix n 10133 (2 + D.room)) (c := sh) hk.1 (by omega)
    have nzz : nameBy (mix n 10133 (2 + D.room)) sh ≠ ZZ := zz_no2 hk.1 (by omega)
    generalize nameBy (mix n 10133 (2 + D.room)) sh = nw at nmk nzz ⊢
    refine ⟨_, rfl, n, 10139, 5, rfl, by decide, by decide, ?_⟩
    refine ⟨fun σ' H2 => Keep K [] H H2 ∧ σ' = [some (.ref d), some (.ref a), some (.int D.now), some (.int n), some (.int sh), some (.str nw), some (.int (mix n 10139 5)), none, none, none], ?_, ?_⟩
    · refine ⟨_, rfl, _, _, rfl, rfl, _, rfl, ite2 (fun _ => ?_) (fun _ => iteF ⟨k1, rfl⟩)⟩
      have hD1 := hD.keep0 k1
      have hL1 := hL.keep0 k1
      have hd1 := k1.old _ _ hd List.not_mem_nil nt_ins
      obtain ⟨ps, el, ha, hp⟩ := id hL1
      have hl60 := sD.len60
      have elen : D.line.length = ps.length := by rw [el, List.length_map]
      refine ⟨_, rfl, a, _, rfl, .inl (.inl (.inl ha)), _, rfl, d, _, _, _, _, rfl, hd1, T.cl_Desk, T.na_Desk_room, rfl, _, _, rfl, rfl, _, rfl, ite2 (fun hlt => ?_) (fun _ => iteF ⟨k1, rfl⟩)⟩
      have hlt : ((ps.map fun p => V.ref p.1).length : Int) < D.room := of_decide_eq_true hlt
      rw [List.length_map] at hlt
      refine ⟨_, rfl, _, rfl, a, rfl, ⟨_, .inl (.inl ha)⟩, fun g ng => ?_⟩
      refine lc_it (walk_list (K := K) (xs := ps.map fun p => V.ref p.1)) (Pv := fun i H' => Keep K [] H1 H' ∧ H' g = some (.lst ((namesL ((ps.take i).map (·.2))).map V.str))) ⟨Keep.new ng, upd_same⟩ (fun i H' _ p => .inl (.inl (p.1.lst ha List.not_mem_nil))) ?_ ?_
      · rintro i v H2 H3 hi ⟨k2, hg⟩ ⟨rfl, hv⟩
        rw [List.getElem?_map] at hv
        cases ep : ps[i]? with
        | none =>
          rw [ep] at hv
          cases hv
        | some p =>
          rw [ep] at hv
          obtain rfl : V.ref p.1 = v := Option.some.inj hv
          have ht := (hp p (List.mem_of_getElem? ep)).keep0 k2
          refine ⟨rfl, ?_⟩
          refine ⟨_, rfl, p.1, _, _, _, rfl, rfl, .inl (.inl ht), rfl, _, hg, ?_, k2.set (.inl ng) hg nt_lst, ?_⟩
          · unfold namesL
            rw [List.length_map, List.length_map, List.length_map, List.length_take]
            exact small1000 (by omega)
          · rw [upd_same, List.take_add_one, ep]
            unfold namesL
            simp
      · rintro H2 ⟨k2, hg⟩
        rw [List.length_map, List.take_of_length_le (Nat.le_refl _), ← el] at hg
        have k12 := k1.trans k2
        refine ⟨g, _, rfl, .inl (.inl (.inl hg)), rfl, all_str _, _, rfl, ?_⟩
        rw [inV_str]
        by_cases em : nw ∈ namesL D.line
        · rw [decide_eq_true em]
          exact iteF ⟨k12, rfl⟩
        rw [decide_eq_false em]
        refine iteT ⟨_, rfl, n, rfl, fun r H3 k3 hr9 => ?_⟩
        have k13 := k12.trans k3
        have hd3 := k13.old _ _ hd List.not_mem_nil nt_ins
        refine ⟨_, rfl, d, dx, _, rfl, hd3, rfl, _, rfl, _, rfl, d, S, D, nw, r, rfl, isName_small nmk, ⟨by omega, by omega⟩, k13.tab _ hT, hD.keep0 k13, hr60, (by have := sD.pr.2.1; omega), fun H4 => ⟨fun _ z => absurd nmk (by rw [z]; decide), fun _ _ z => absurd hr9 z, fun _ _ _ z => absurd z em, fun _ _ _ _ z => absurd z (by omega), fun _ _ _ _ S4 k4 s4 hD4 => ?_⟩⟩
        have hL4 := (hL.keep0 k13).keepD (hD.keep0 k13) k4
        obtain ⟨ps4, el4, ha4, hp4⟩ := id hL4
        have elen4 : D.line.length = ps4.length := by rw [el4, List.length_map]
        refine ⟨rfl, _, rfl, iteF ?_⟩
        refine ⟨_, rfl, _, rfl, _, rfl, _, rfl, (show 4 ≤ sizeLine by decide), fun t nt => ⟨(show 1 ≤ sizeLine by decide), fun b nb => ?_⟩⟩
        have k5 : Keep K [] H4 (L2.upd (L2.upd H4 t (.tup [.str nw, .int r, .str "ready", .int D.now])) b (.lst [.ref t])) := (Keep.new nt).trans (Keep.new nb)
        have ha5 := k5.lst ha4 List.not_mem_nil
        have ht5 : RowAt (L2.upd (L2.upd H4 t (.tup [.str nw, .int r, .str "ready", .int D.now])) b (.lst [.ref t])) t ⟨nw, r, .rdy D.now⟩ := (upd_ne (ne_of_none upd_same nb)).trans upd_same
        refine ⟨a, b, _, _, rfl, rfl, ha5, upd_same, ?_, fun e ne => ?_⟩
        · rw [List.length_map]
          exact Nat.le_trans (Nat.add_le_add_right (show ps4.length ≤ 60 by omega) 1) (show 60 + 1 ≤ sizeLine by decide)
        · have k6 := k5.trans (Keep.new (o := .lst ((ps4.map fun p => V.ref p.1) ++ [.ref t])) ne)
          refine q _ S4 e _ (.enter D nw r nmk hr9 em (by omega) nzz) ((k13.any.trans k4).trans k6.any) (fun y hy => (s4 y hy).imp_right (k13.gone y)) (hD4.keep0 k6) ?_
          show LnAt _ e (D.line ++ [⟨nw, r, .rdy D.now⟩])
          rw [el4]
          exact LnAt.snoc (fun p h => (hp4 p h).keep0 k6) ((upd_ne (ne_of_none ht5 ne)).trans ht5) upd_same
    rintro σ' H2 ⟨k2, rfl⟩
    have q := q.of0 k2
    have hD2 := hD.keep0 k2
    have hL2 := hL.keep0 k2
    have hT2 := k2.tab _ hT
    have hd2 := k2.old _ _ hd List.not_mem_nil nt_ins
    have shp := rows_shaped (now := D.now) (l := D.line) fun c hc => ⟨sD.ok c hc, sD.st c hc⟩
    refine ⟨_, rfl, (show 0 ≤ sizeLine by decide), fun g ng => ?_⟩
    have k3 : Keep K [] H2 (L2.upd H2 g (.lst [])) := Keep.new ng
    have q := q.of0 k3
    have hD := hD2.keep0 k3
    have hL := hL2.keep0 k3
    have hT := k3.tab _ hT2
    have hd := k3.old _ _ hd2 List.not_mem_nil nt_ins
    refine ⟨_, _, hL.dp, .lst (.inl (.inl upd_same)) .nil, shp, rfl, _, rfl, ?_⟩
    rw [eqv_empty]
    generalize L2.upd H2 g (.lst []) = H3 at *
    by_cases ee : D.line = []
    · rw [decide_eq_true ee]
      exact iteT ⟨_, rfl, q D S a H3 (.refl D) (Keep.refl _ _) Sub.refl hD hL⟩
    rw [decide_eq_false ee]
    refine iteF ?_
    obtain ⟨ps, el, ha, hp⟩ := id hL
    have elen : D.line.length = ps.length := by rw [el, List.length_map]
    have lpos : 0 < ps.length := by
      rw [← elen]
      exact List.length_pos_iff.mpr ee
    have hm := mix_nn (c := n) (p := 10141) (m := (ps.length : Int)) (by omega)
    obtain ⟨p, hpm, eat⟩ := ps_at hm.1 hm.2
    have hl60 := sD.len60
    refine ⟨_, rfl, _, rfl, _, rfl, a, _, rfl, .inl (.inl (.inl ha)), n, 10141, _, rfl, by decide, by rw [List.length_map]; omega, a, _, _, .ref p.1, rfl, rfl, .inl (.inl ha), by rw [List.length_map]; exact eat, ?_⟩
    have ht : RowAt H3 p.1 p.2 := hp p hpm
    have hc : p.2 ∈ D.line := by rw [el]; exact List.mem_map_of_mem hpm
    obtain ⟨t, c⟩ := p
    refine ⟨fun σ' H4 => H3 = H4 ∧ σ' = [some (.ref d), some (.ref a), some (.int D.now), some (.int n), some (.int sh), some (.str nw), some (.int (mix n 10139 5)), some (.ref t), none, none], ?_, ?_⟩
    · refine ⟨_, rfl, rfl, _, rfl, ite2 (fun _ => ?_) (fun _ => iteF ⟨rfl, rfl⟩)⟩
      refine ⟨_, rfl, n, 10151, 3, rfl, by decide, by decide, rfl, _, rfl, ite2 (fun _ => ?_) (fun _ => ⟨rfl, rfl⟩)⟩
      refine ⟨_, rfl, d, dx, _, rfl, hd, rfl, _, rfl, t, _, _, _, rfl, rfl, .inl (.inl ht), rfl, d, S, D, c.name, rfl, isName_small (sD.ok c hc), hD, fun z => absurd (name_in hc) z, fun c' hc' e H5 S5 k5 s5 hD5 => ?_⟩
      have hL5 := hL.keepD hD k5
      have ht5 := ht.keepD hD k5
      obtain ⟨ps5, el5, ha5, hp5⟩ := id hL5
      have elen5 : D.line.length = ps5.length := by rw [el5, List.length_map]
      refine ⟨rfl, _, rfl, iteF ?_⟩
      refine ⟨_, rfl, a, rfl, ⟨_, .inl (.inl ha5)⟩, fun b nb => ?_⟩
      refine lc_it (walk_list (K := K) (xs := ps5.map fun p => V.ref p.1)) (Pv := fun i H' => Keep K [] H5 H' ∧ H' b = some (.lst (((ps5.take i).filter fun p => decide (p.2.name ≠ c.name)).map fun p => V.ref p.1))) ⟨Keep.new nb, upd_same⟩ (fun i H' _ p => .inl (.inl (p.1.lst ha5 List.not_mem_nil))) ?_ ?_
      · rintro i v H6 H7 hi ⟨k6, hb⟩ ⟨rfl, hv⟩
        rw [List.getElem?_map] at hv
        cases ep : ps5[i]? with
        | none =>
          rw [ep] at hv
          cases hv
        | some p =>
          rw [ep] at hv
          obtain rfl : V.ref p.1 = v := Option.some.inj hv
          have hpr := (hp5 p (List.mem_of_getElem? ep)).keep0 k6
          have ht6 := ht5.keep0 k6
          refine ⟨rfl, ?_⟩
          refine ⟨_, rfl, p.1, _, _, _, rfl, rfl, .inl (.inl hpr), rfl, _, rfl, t, _, _, _, rfl, rfl, .inl (.inl ht6), rfl, rfl, _, rfl, ?_⟩
          rw [str_ne, take_filter ep]
          cases e9 : decide (p.2.name ≠ c.name) with
          | false =>
            refine iteF ⟨k6, ?_⟩
            rw [if_neg (by simp), List.append_nil]
            exact hb
          | true =>
            refine iteT ⟨_, rfl, _, hb, ?_, k6.set (.inl nb) hb nt_lst, ?_⟩
            · rw [List.length_map]
              have h1 := List.length_filter_le (fun p : Addr × Cr => decide (p.2.name ≠ c.name)) (ps5.take i)
              rw [List.length_take] at h1
              exact small1000 (by omega)
            · rw [upd_same, if_pos rfl, List.map_append]
              rfl
      · rintro H6 ⟨k6, hb⟩
        rw [List.length_map, List.take_of_length_le (Nat.le_refl _)] at hb
        refine q _ S5 b H6 (.leave D c hc) (k5.trans k6.any) s5 (hD5.keep0 k6) ⟨ps5.filter fun p => decide (p.2.name ≠ c.name), ?_, hb, fun p h => (hp5 p (List.mem_filter.mp h).1).keep0 k6⟩
        rw [rows_filter (fun x => decide (x.name ≠ c.name)), ← el5]
        rfl
    rintro σ' _ ⟨rfl, rfl⟩
    refine ⟨_, rfl, t, _, _, _, rfl, rfl, .inl (.inl ht), rfl, rfl, _, rfl, ?_⟩
    rw [word_rdy]
    cases er : c.st.isRdy with
    | true => exact iteT ⟨_, rfl, _, rfl, _, rfl, _, rfl, _, rfl, d, a, t, S, D, c, n, rfl, hD, sD, hL, ht, hc, er, hT, q⟩
    | false => exact iteF ⟨_, rfl, _, rfl, _, rfl, _, rfl, _, rfl, d, a, t, S, D, c, n, rfl, hD, sD, hL, ht, hc, er, hT, q⟩
end
end Rr

set_option maxRecDepth 100000
set_option maxHeartbeats 4000000
namespace Rr
open PySem PySem.Spec PyProof.Rows L2
open GxR (TabG Tabbed)
open Evl (pss_cut)
section
variable {P : Program} {w : World} {K : PySem.W.Frag} {mg : Str → Option Value} {base : Heap}
def sp_opened (K : PySem.W.Frag) : Sp := fun vs H Q _ => ∃ p r c : Int, vs = [.int p, .int r, .int c] ∧ ((1 ≤ p ∧ p ≤ 1000) ∧ 1 ≤ r ∧ r ≤ 60) ∧ TabG H (tabN K) ∧ TabG H (tabM K) ∧ ∀ d n S' H', Keep K [] H H' → (∀ b ∈ S', H b = none) → 0 ≤ n ∧ n < 999999900000 → DkAt K H' S' d ⟨p, r, n, []⟩ → Q (.ref d) H'
theorem text_opened (p r n : Int) : ("desk " : Str) ++ numT p ++ " " ++ numT r ++ " " ++ numT n ++ "\n" = textD ⟨p, r, n, []⟩ := by
  refine TL.ext_tl ?_
  show _ = TL.tl (Str.join " " ["desk", numT p, numT r, numT n] ++ "\n")
  simp only [TL.tl_append, TL.tl_join, List.map_cons, List.map_nil, TL.joinL]
  have e1 : TL.tl ("desk " : Str) = TL.tl ("desk" : Str) ++ TL.tl (" " : Str) := by decide +kernel
  simp only [e1, List.append_assoc]
theorem c__law_opened (T : Tx K mg base) : Cal P w K mg base 7 "_law_opened" (sp_opened K) := by
  have c_Desk : Mak P w K mg base 1 "Desk" (He.ga K "Desk") (sp_Desk K) := c_Desk T
  have c_read : Cal P w K mg base 6 "read" (sp_read K) := c_read T
  obtain ⟨fd, F⟩ := T.d__law_opened
  refine ⟨_, fd, ["_law_pace", "_law_room", "_law_cell"], okF (k := 6) F sc__law_opened (fun vs H Q E h => ?_) (fun A outer s H vs Q E hr h => ?_), T.r__law_opened, F.kp, F.bindsN fun _ _ _ _ _ _ us hl => match us, hl with | [_, _, _], _ => rfl⟩
  · obtain ⟨p, r, c, rfl, _⟩ := h
    rfl
  · have nd := sc__law_opened.nd
    obtain ⟨p, r, c, rfl, hpr, hT, hM, q⟩ := h
    obtain ⟨⟨p0, p1⟩, r0, r1⟩ := id hpr
    refine ⟨_, (pss_cons (ps_set (i := 3) nd rfl (Or.inl rfl) (pe_ix ix_list (pe_lst (pa_cons pe_int (pa_cons (pe_op op_mod (pe_op op_fdiv (pv 2) pe_int) pe_int) (pa_cons (pe_op op_mod (pe_op op_fdiv (pv 2) pe_int) (pe_op op_sub (pe_op op_pow pe_int pe_int) (pe_op op_pow pe_int pe_int))) (pa_cons pe_int pa_nil))))) (pe_op op_mod (pv 2) pe_int) (fun _ _ => rfl)))
  (pss_cons (ps_if (pt_cmpR op_eq (pv 3) pe_int (nomark _))
  (pss_one (ps_ret (pc c_Desk hr (by decide) (by rfl) (L2N.passes_call (L2N.takes_of rfl rfl rfl rfl) fun _ _ _ _ h => h) (pa_cons (pv 0) (pa_cons (pv 1) pa_nil)))))
  pss_nil)
  (pss_one (ps_ret (pf c_read hr (by decide) (by rfl) (pU (L2N.takes_of rfl rfl rfl rfl)) (pa_cons (pe_op op_add_str (pe_op op_add_str (pe_op op_add_str (pe_op op_add_str (pe_op op_add_str (pe_op op_add_str pe_str (pe_callTy call_str_int (by rfl) T.m_str (by decide +kernel) (pa_cons (pv 0) pa_nil))) pe_str) (pe_callTy call_str_int (by rfl) T.m_str (by decide +kernel) (pa_cons (pv 1) pa_nil))) pe_str) (pe_callTy call_str_int (by rfl) T.m_str (by decide +kernel) (pa_cons (pv 3) pa_nil))) pe_str) pa_nil)))))), ?_⟩
    have h4 : c % 4 = 0 ∨ c % 4 = 1 ∨ c % 4 = 2 ∨ c % 4 = 3 := by omega
    have x1 : 0 ≤ c / 4 % 1000 ∧ c / 4 % 1000 < 1000 := ⟨Int.emod_nonneg _ (by decide), Int.emod_lt_of_pos _ (by decide)⟩
    have x2 : 0 ≤ c / 4 % 999999900000 ∧ c / 4 % 999999900000 < 999999900000 := ⟨Int.emod_nonneg _ (by decide), Int.emod_lt_of_pos _ (by decide)⟩
    have e12 : (10 : Int) ^ (12 : Int).toNat - (10 : Int) ^ (5 : Int).toNat = 999999900000 := by decide +kernel
    obtain ⟨f, hf, ef⟩ : ∃ f : Int, (0 ≤ f ∧ f < 999999900000) ∧ atI [V.int 0, V.int (c / 4 % 1000), V.int (c / 4 % 999999900000), V.int 0] (c % 4) = some (.int f) := by
      rcases h4 with e | e | e | e
      · exact ⟨0, by decide, by rw [e]; rfl⟩
      · exact ⟨c / 4 % 1000, by omega, by rw [e]; rfl⟩
      · exact ⟨c / 4 % 999999900000, x2, by rw [e]; rfl⟩
      · exact ⟨0, by decide, by rw [e]; rfl⟩
    refine ⟨_, rfl, _, _, rfl, rfl, ⟨by decide, by decide⟩, _, _, rfl, rfl, (show (0 : Int) < 1000 by decide), _, rfl, _, _, rfl, rfl, ⟨by decide, by decide⟩, 10, 12, rfl, rfl, ⟨by decide, by decide, by decide +kernel⟩, 10, 5, rfl, rfl, ⟨by decide, by decide, by decide +kernel⟩, _, _, rfl, rfl, c / 4, 999999900000, rfl, congrArg V.int e12, (show (0 : Int) < 999999900000 by decide), (show 4 ≤ sizeLine by decide), fun g ng => ?_⟩
    have k1 : Keep K [] H (L2.upd H g (.lst [.int 0, .int (c / 4 % 1000), .int (c / 4 % 999999900000), .int 0])) := Keep.new ng
    refine ⟨_, rfl, _, _, rfl, rfl, (show (0 : Int) < 4 by decide), g, _, _, .int f, rfl, rfl, .inl (.inl upd_same), ef, ?_⟩
    refine ⟨_, rfl, rfl, _, rfl, ?_⟩
    by_cases z : f = 0
    · rw [decide_eq_true (show V.int f = V.int 0 by rw [z])]
      refine iteT ⟨_, rfl, _, rfl, ?_⟩
      intro d dx n1 n2 ne
      refine made_desk (p := p) (r := r) hpr (fun S H2 k2 hD hF => ⟨rfl, q d 0 S H2 (k1.trans k2) (fun b hb => k1.gone b (hF b hb)) (by decide) hD⟩) n1 n2 ne
    · rw [decide_eq_false (show ¬ V.int f = V.int 0 from fun y => z (V.int.inj y))]
      have mp : Mod p := ⟨by omega, by omega⟩
      have mr : Mod r := ⟨by omega, by omega⟩
      have mf : Mod f := ⟨by omega, by omega⟩
      have gd : GoodD ⟨p, r, f, []⟩ := ⟨hpr, hf.1, by show f < _; omega, by show (([] : List Cr).length : Int) ≤ r; simp; omega, List.nodup_nil, fun c h => (nomatch h), fun c h => (nomatch h), fun c h => (nomatch h)⟩
      have lp : (Str.ofString (toString p)).length ≤ 12 := (num_ok (i := p) (by omega) (by omega)).1.1
      have lr : (Str.ofString (toString r)).length ≤ 12 := (num_ok (i := r) (by omega) (by omega)).1.1
      have lf : (Str.ofString (toString f)).length ≤ 12 := (num_ok (i := f) (by omega) (by omega)).1.1
      have l5 : ("desk " : Str).length = 5 := by decide +kernel
      have l1 : (" " : Str).length = 1 := by decide +kernel
      have ln1 : ("\n" : Str).length = 1 := by decide +kernel
      refine iteF ⟨_, rfl, _, rfl, mp.log, _, _, rfl, rfl, ?_, _, _, rfl, rfl, ?_, _, rfl, _, rfl, mr.log, _, _, rfl, rfl, ?_, _, _, rfl, rfl, ?_, _, rfl, _, rfl, mf.log, _, _, rfl, rfl, ?_, _, _, rfl, rfl, ?_, ⟨p, r, f, []⟩, ?_, gd, k1.tab _ hT, k1.tab _ hM, fun d S' H' k hS hD => q d f S' H' (k1.trans k) (fun b hb => k1.gone b (hS b hb)) hf hD⟩
      all_goals first
        | (show [V.str _] = [V.str _]; exact congrArg (fun z => [V.str z]) (text_opened p r f))
        | (rw [sizeLine_eq]; show (_ : Str).length + (_ : Str).length ≤ _; (try simp only [Str.length_append]); omega)
def sp_crowd (K : PySem.W.Frag) : Sp := fun vs H Q _ => ∃ (d : Addr) (S : List Addr) (p r n m sh c : Int), vs = [.ref d, .int m, .int sh, .int c] ∧ DkAt K H S d ⟨p, r, n, []⟩ ∧ 0 ≤ n ∧ (0 ≤ m ∧ m ≤ r) ∧ TabG H (tabN K) ∧
  ∀ D' S' b H', Keep K S H H' → Sub H S S' → DkAt K H' S' d D' → LnAt H' b D'.line → Sound D' → (D'.pace = p ∧ D'.room = r ∧ D'.now = n) → (∀ x ∈ D'.line, x.st = .rdy n) → ZZ ∉ namesL D'.line → Q (.ref b) H'
theorem c__law_crowd (T : Tx K mg base) : Cal P w K mg base 4 "_law_crowd" (sp_crowd K) := by
  have c__law_name_by : Cal P w K mg base 2 "_law_name_by" (sp_name_by K) := c__law_name_by T
  have c__law_rank_by : Cal P w K mg base 2 "_law_rank_by" (sp_rank_by K) := c__law_rank_by T
  have c_Desk_enter : Met P w K mg base 3 (He.ga K "Desk") "enter" (sp_enter K) := c_Desk_enter T
  obtain ⟨fd, F⟩ := T.d__law_crowd
  refine ⟨_, fd, ["_law_desk", "_law_many_here", "_law_shift", "_law_cell"], okF (k := 3) F sc__law_crowd (fun vs H Q E h => ?_) (fun A outer s H vs Q E hr h => ?_), T.r__law_crowd, F.kp, F.bindsN fun _ _ _ _ _ _ us hl => match us, hl with | [_, _, _, _], _ => rfl⟩
  · obtain ⟨d, S, p, r, n, m, sh, c, rfl, _⟩ := h
    rfl
  · have nd := sc__law_crowd.nd
    obtain ⟨d, S, p, r, n, m, sh, c, rfl, hD, n0, hm, hT, q⟩ := h
    obtain ⟨L, ln, eS, x⟩ := id hD
    have hpr : (1 ≤ p ∧ p ≤ 1000) ∧ 1 ≤ r ∧ r ≤ 60 := x.pr
    have hr60 := hpr.2.2
    refine ⟨_, (pss_cons (ps_set (i := 4) nd rfl (Or.inl rfl) (pe_lst pa_nil))
  (pss_cons (ps_for (passes_of rfl) rfl (pi_range1 (by rfl) T.m_range (pa_cons (pv 1) pa_nil)) (pg_name (i := 5) nd rfl (Or.inl rfl))
  (pss_cons (ps_set (i := 6) nd rfl (Or.inl rfl) (pf c__law_rank_by hr (by decide) (by rfl) p0 (pa_cons (pe_op op_add (pv 3) (pe_op op_mul pe_int (pv 5))) pa_nil)))
  (pss_cons (ps_expr (pm c_Desk_enter hr (by decide) (pU (L2N.takes_of rfl rfl rfl rfl)) (pv 0) (pa_cons (pf c__law_name_by hr (by decide) (by rfl) p0 (pa_cons (pv 5) (pa_cons (pv 2) pa_nil))) (pa_cons (pv 6) pa_nil))))
  (pss_one (ps_expr (pe_bm PySem.F.plainAttrs_list PySem.F.slot_list_append PySem.F.type_list_append mt_append (pv 4) (pa_cons (pe_tup (pa_cons (pf c__law_name_by hr (by decide) (by rfl) p0 (pa_cons (pv 5) (pa_cons (pv 2) pa_nil))) (pa_cons (pv 6) (pa_cons pe_str (pa_cons (pe_fld (pv 0) rfl) pa_nil))))) pa_nil)))))))
  (pss_one (ps_ret (pv 4))))), ?_⟩
    refine ⟨(show 0 ≤ sizeLine by decide), fun b nb => ?_⟩
    refine ⟨_, rfl, m, rfl, by omega, by omega, ?_⟩
    have s0 : Sound ⟨p, r, n, []⟩ := ⟨hpr, n0, by show (([] : List Cr).length : Int) ≤ r; simp; omega, List.nodup_nil, fun c h => (nomatch h), fun c h => (nomatch h), fun c h => (nomatch h)⟩
    refine for_it walk_range (fun i σ H' => ∃ v5 v6 S' D', σ = [some (.ref d), some (.int m), some (.int sh), some (.int c), some (.ref b), v5, v6] ∧ Keep K S H H' ∧ Sub H S S' ∧ DkAt K H' S' d D' ∧ LnAt H' b D'.line ∧ Sound D' ∧ (D'.pace = p ∧ D'.room = r ∧ D'.now = n) ∧ (∀ x ∈ D'.line, x.st = .rdy n) ∧ namesL D'.line = (List.range i).map fun (j : Nat) => nameBy (0 + (j : Int)) sh)
      ⟨none, none, S, _, rfl, Keep.new nb, Sub.refl, hD.keep0 (Keep.new nb), ⟨[], rfl, upd_same, fun p hp => (nomatch hp)⟩, s0, ⟨rfl, rfl, rfl⟩, fun x hx => (nomatch hx), rfl⟩ (fun _ _ _ _ _ => trivial) ?_ ?_
    · rintro i v σ H1 H2 hi ⟨v5, v6, S1, D1, rfl, k1, s1, hD1, hL1, sD1, ⟨e1, e2, e3⟩, hr1, hn1⟩ ⟨rfl, rfl⟩
      have hi' : i < m.toNat := hi
      have li : D1.line.length = i := by
        have := congrArg List.length hn1
        unfold namesL at this
        rw [List.length_map, List.length_map, List.length_range] at this
        exact this
      have nmi := name_ok (k := 0 + (i : Int)) (c := sh) (by omega) (by omega)
      have new : nameBy (0 + (i : Int)) sh ∉ namesL D1.line := by
        rw [hn1]
        intro z
        obtain ⟨j, hj, e⟩ := List.mem_map.mp z
        have hj := List.mem_range.mp hj
        have := name_inj (i := 0 + (j : Int)) (k := 0 + (i : Int)) (c := sh) ⟨by omega, by omega⟩ ⟨by omega, by omega⟩ e
        omega
      refine ⟨_, rfl, _, rfl, _, _, rfl, rfl, .inl ⟨by decide, by decide⟩, _, _, rfl, rfl, _, rfl, fun rk H3 k3 hrk => ?_⟩
      have hD3 := hD1.keep0 k3
      obtain ⟨L3, ln3, eS3, x3⟩ := id hD3
      obtain ⟨dx3, hd3⟩ := id x3.desk
      refine ⟨_, rfl, d, dx3, _, rfl, hd3, rfl, _, rfl, _, rfl, _, sh, rfl, by omega, by omega, fun H4 k4 => ⟨_, rfl, ?_⟩⟩
      have k34 := k3.trans k4
      have hT4 : TabG H4 (tabN K) := k34.tab _ (k1.tab _ hT)
      refine ⟨d, S1, D1, _, rk, rfl, isName_small nmi, ⟨by omega, by omega⟩, hT4, hD1.keep0 k34, sD1.pr.2.2, (by have := sD1.pr.2.1; omega), fun H5 => ⟨fun _ z => absurd nmi (by rw [z]; decide), fun _ _ z => absurd hrk z, fun _ _ _ z => absurd z new, fun _ _ _ _ z => absurd z (by omega), fun _ _ _ _ S5 k5 s5 hD5 => ?_⟩⟩
      have dd : Deed D1 (D1.enter (nameBy (0 + (i : Int)) sh) rk) := .enter D1 _ rk nmi hrk new (by omega) (zz_no2 (by omega) (by omega))
      have sD5 := dd.sound sD1
      have hL5 := (hL1.keep0 k34).keepD (hD1.keep0 k34) k5
      have kk5 : Keep K S H H5 := (k1.trans k34.any).trans' k5 fun z hz => s1 z hz
      have ss5 : Sub H S S5 := fun z hz => (s5 z hz).elim (s1 z) fun y => .inr (k1.gone z (k34.gone z y))
      obtain ⟨ps, el, hb5, hp5⟩ := id hL5
      refine ⟨_, rfl, .inl ⟨rfl, _, .inl (.inl hb5)⟩, _, rfl, _, rfl, _, sh, rfl, by omega, by omega, fun H6 k6 => ⟨_, rfl, ?_⟩⟩
      obtain ⟨L6, ln6, eS6, x6⟩ := id (hD5.keep0 k6)
      obtain ⟨dx6, hd6⟩ := id x6.desk
      refine ⟨_, rfl, d, _, _, _, _, rfl, hd6, T.cl_Desk, T.na_Desk_now, rfl, (show 4 ≤ sizeLine by decide), fun t nt => ?_⟩
      have k7 : Keep K [] H6 (L2.upd H6 t (.tup [.str (nameBy (0 + (i : Int)) sh), .int rk, .str "ready", .int D1.now])) := Keep.new nt
      have k67 := k6.trans k7
      have hb7 := k67.lst hb5 List.not_mem_nil
      have bS : b ∉ S5 := hD5.lst hb5
      have kF : Keep K S H (L2.upd (L2.upd H6 t (.tup [.str (nameBy (0 + (i : Int)) sh), .int rk, .str "ready", .int D1.now])) b (.lst ((ps.map fun p => V.ref p.1) ++ [.ref t]))) := (kk5.trans k67.any).set (.inl nb) hb7 nt_lst
      have kB : Keep K [b] (L2.upd H6 t (.tup [.str (nameBy (0 + (i : Int)) sh), .int rk, .str "ready", .int D1.now])) (L2.upd (L2.upd H6 t (.tup [.str (nameBy (0 + (i : Int)) sh), .int rk, .str "ready", .int D1.now])) b (.lst ((ps.map fun p => V.ref p.1) ++ [.ref t]))) := Keep.upd hb7 (List.mem_singleton.mpr rfl) nt_lst
      have nb7 : ∀ (z : Addr) (xs : List V), (L2.upd H6 t (.tup [.str (nameBy (0 + (i : Int)) sh), .int rk, .str "ready", .int D1.now])) z = some (.tup xs) → z ∉ [b] := fun z xs h y => by
        rw [List.mem_singleton.mp y, hb7] at h
        cases h
      refine ⟨b, _, _, rfl, rfl, hb7, ?_, _, _, S5, D1.enter (nameBy (0 + (i : Int)) sh) rk, rfl, kF, ss5, (hD5.keep0 k67).keep kB fun z hz y => by rw [List.mem_singleton.mp y] at hz; exact bS hz, ?_, sD5, ⟨e1, e2, e3⟩, ?_, ?_⟩
      · rw [List.length_map]
        have : ps.length = i := by rw [← li, el, List.length_map]
        exact small1000 (by omega)
      · show LnAt _ b (D1.line ++ [⟨_, rk, .rdy D1.now⟩])
        rw [el]
        refine LnAt.snoc (fun p h => kB.tup ((hp5 p h).keep0 k67) (nb7 _ _ ((hp5 p h).keep0 k67))) (kB.tup (p := t) upd_same (nb7 t _ upd_same)) upd_same
      · intro y hy
        rcases List.mem_append.mp hy with h | h
        · exact hr1 y h
        · rw [List.mem_singleton.mp h, ← e3]
      · show namesL (D1.line ++ [_]) = _
        unfold namesL at hn1 ⊢
        rw [List.map_append, hn1, List.range_succ, List.map_append]
        rfl
    · rintro σ H1 ⟨v5, v6, S1, D1, rfl, k1, s1, hD1, hL1, sD1, e, hr1, hn1⟩
      refine ⟨_, rfl, q D1 S1 b H1 k1 s1 hD1 hL1 sD1 e hr1 fun z => ?_⟩
      rw [hn1] at z
      obtain ⟨j, hj, e2⟩ := List.mem_map.mp z
      have hj := List.mem_range.mp hj
      exact zz_no2 (k := 0 + (j : Int)) (c := sh) (by omega) (by omega) e2
end
end Rr

set_option maxRecDepth 100000
set_option maxHeartbeats 4000000
namespace Rr
open PySem PySem.Spec PyProof.Rows L2
open GxR (TabG Tabbed)
open Evl (pss_cut)
section
variable {P : Program} {w : World} {K : PySem.W.Frag} {mg : Str → Option Value} {base : Heap}
theorem byN {H : Hp} {E : XK} {d : Addr} {S : List Addr} {D : Dk} {c : Cr} {q : Cr → Prop} (sD : Sound D) (hD : DkAt K H S d D) (hc : c ∈ D.line) (h : q c) : ByN K H E d S D c.name q :=
  ⟨isName_small (sD.ok c hc), hD, fun z => absurd (name_in hc) z, fun c' hc' e => by rw [name_one sD.nm hc' hc e]; exact h⟩
theorem Sound.after {D : Dk} (x : Sound D) : ∀ n, Sound (D.after n)
  | 0 => x
  | n + 1 => (x.after n).turn
theorem after_now (D : Dk) : ∀ n : Nat, (D.after n).now = D.now + n
  | 0 => by show D.now = _; simp
  | n + 1 => by
    show (D.after n).turn.now = _
    rw [turn_now, after_now D n]
    omega
theorem after_pr (D : Dk) : ∀ n : Nat, (D.after n).pace = D.pace ∧ (D.after n).room = D.room
  | 0 => ⟨rfl, rfl⟩
  | n + 1 => ⟨(turn_pr _).1.trans (after_pr D n).1, (turn_pr _).2.trans (after_pr D n).2⟩
def sp_whole : Sp := fun vs H Q _ => ∃ i : Int, vs = [.int i] ∧ Q (.bl true) H
theorem c__law_whole (T : Tx K mg base) : Cal P w K mg base 1 "_law_whole" sp_whole := by
  obtain ⟨fd, F⟩ := T.d__law_whole
  refine ⟨_, fd, ["_law_found"], okF (k := 0) F sc__law_whole (fun vs H Q E h => ?_) (fun A outer s H vs Q E hr h => ?_), T.r__law_whole, F.kp, F.bindsN fun _ _ _ _ _ _ us hl => match us, hl with | [_], _ => rfl⟩
  · obtain ⟨i, rfl, _⟩ := h
    rfl
  · have nd := sc__law_whole.nd
    obtain ⟨i, rfl, q⟩ := h
    refine ⟨_, (pss_one (ps_ret (pe_and (pe_callB call_isi (by rfl) T.m_isinstance (by decide +kernel) (pa_cons (pv 0) (pa_cons (pe_bltn (v := .ty "int") (by rfl) T.m_int (by decide +kernel) rfl) pa_nil))) (pe_one (pe_not (pe_callB call_isi (by rfl) T.m_isinstance (by decide +kernel) (pa_cons (pv 0) (pa_cons (pe_bltn (v := .ty "bool") (by rfl) T.m_bool (by decide +kernel) rfl) pa_nil)))))))), ?_⟩
    refine ⟨_, rfl, _, _, _, _, true, rfl, .ty "int", .base (.int i), kit_ty (by decide +kernel), true, rfl, iteT ?_⟩
    exact ⟨_, rfl, _, _, _, _, false, rfl, .ty "bool", .base (.int i), kit_ty (by decide +kernel), false, rfl, q⟩
def sp_texts (K : PySem.W.Frag) : Sp := fun vs H Q _ => ∃ (a b : Addr) (l : List (Option Str)), vs = [.ref a, .ref b] ∧ H a = some (.lst (l.map fun x => x.elim .non V.str)) ∧ H b = some (.lst (l.map fun x => x.elim .non V.str)) ∧ l.length ≤ 1000 ∧ Q (.bl true) H
theorem c__law_texts (T : Tx K mg base) : Cal P w K mg base 1 "_law_texts" (sp_texts K) := by
  obtain ⟨fd, F⟩ := T.d__law_texts
  refine ⟨_, fd, ["_law_found", "_law_due"], okF (k := 0) F sc__law_texts (fun vs H Q E h => ?_) (fun A outer s H vs Q E hr h => ?_), T.r__law_texts, F.kp, F.bindsN fun _ _ _ _ _ _ us hl => match us, hl with | [_, _], _ => rfl⟩
  · obtain ⟨a, b, l, rfl, _⟩ := h
    rfl
  · have nd := sc__law_texts.nd
    obtain ⟨a, b, l, rfl, ha, hb, hl, q⟩ := h
    refine ⟨_, (pss_cons (ps_if (PW.pt (pw_or (pt_not (pt_val (pe_callB call_isi (by rfl) T.m_isinstance (by decide +kernel) (pa_cons (pv 0) (pa_cons (pe_bltn (v := .ty "list") (by rfl) T.m_list (by decide +kernel) rfl) pa_nil))))) (pw_or1 (pt_cmpR op_ne (pe_callB call_len_seq (by rfl) T.m_len boot_len (pa_cons (pv 0) pa_nil)) (pe_callB call_len_seq (by rfl) T.m_len boot_len (pa_cons (pv 1) pa_nil)) (nomark _)))))
  (pss_one (ps_ret pe_bl))
  pss_nil)
  (pss_cons (ps_for (passes_of rfl) rfl (pi_range1 (by rfl) T.m_range (pa_cons (pe_callB call_len_seq (by rfl) T.m_len boot_len (pa_cons (pv 1) pa_nil)) pa_nil)) (pg_name (i := 2) nd rfl (Or.inl rfl))
  (pss_one (ps_if (pt_cmpR op_isN (pe_ix ix_list (pv 1) (pv 2) (fun _ _ => rfl)) pe_non (nomark _))
  (pss_one (ps_if (pt_cmpR op_notN (pe_ix ix_list (pv 0) (pv 2) (fun _ _ => rfl)) pe_non (nomark _))
  (pss_one (ps_ret pe_bl))
  pss_nil))
  (pss_one (ps_if (PW.pt (pw_or (pt_not (pt_val (pe_callB call_isi (by rfl) T.m_isinstance (by decide +kernel) (pa_cons (pe_ix ix_list (pv 0) (pv 2) (fun _ _ => rfl)) (pa_cons (pe_bltn (v := .ty "str") (by rfl) T.m_str (by decide +kernel) rfl) pa_nil))))) (pw_or1 (pt_cmpR op_ne (pe_ix ix_list (pv 0) (pv 2) (fun _ _ => rfl)) (pe_ix ix_list (pv 1) (pv 2) (fun _ _ => rfl)) (nomark _)))))
  (pss_one (ps_ret pe_bl))
  pss_nil)))))
  (pss_one (ps_ret pe_bl)))), ?_⟩
    refine ⟨_, rfl, _, _, _, _, true, rfl, .ty "list", .base (.lst ha), kit_ty (by decide +kernel), true, rfl, iteF ?_⟩
    refine ⟨_, rfl, a, _, rfl, .inl (.inl (.inl ha)), _, rfl, b, _, rfl, .inl (.inl (.inl hb)), rfl, _, rfl, ?_⟩
    rw [decide_eq_true (show V.int ((l.map fun x => x.elim V.non V.str).length : Int) = V.int ((l.map fun x => x.elim V.non V.str).length : Int) from rfl)]
    refine iteF ⟨_, rfl, b, _, rfl, .inl (.inl (.inl hb)), _, rfl, (by omega), (by rw [List.length_map]; omega), ?_⟩
    rw [List.length_map]
    refine for_it walk_range (fun i σ H' => H = H' ∧ ∃ v, σ = [some (.ref a), some (.ref b), v]) ⟨rfl, none, rfl⟩ (fun _ _ _ _ _ => trivial) ?_ ?_
    · rintro i v σ _ H2 hi ⟨rfl, v0, rfl⟩ ⟨rfl, rfl⟩
      have hi' : i < l.length := by
        have : i < ((l.length : Nat) : Int).toNat := by simpa using hi
        omega
      obtain ⟨x, hx⟩ : ∃ x, l[i]? = some x := ⟨_, List.getElem?_eq_getElem hi'⟩
      have hat : atI (l.map fun x => x.elim V.non V.str) (0 + (i : Int)) = some (x.elim V.non V.str) := by
        rw [Int.zero_add]
        exact atI_nat (by rw [List.getElem?_map, hx]; rfl)
      refine ⟨_, rfl, _, rfl, b, _, _, _, rfl, rfl, .inl (.inl hb), hat, rfl, _, rfl, ?_⟩
      cases x with
      | none => exact iteT ⟨_, rfl, _, rfl, a, _, _, _, rfl, rfl, .inl (.inl ha), hat, rfl, _, rfl, iteF ⟨rfl, _, rfl⟩⟩
      | some x =>
        refine iteF ⟨_, rfl, _, rfl, a, _, _, _, rfl, rfl, .inl (.inl ha), hat, _, _, _, _, true, rfl, .ty "str", .base (.str x), kit_ty (by decide +kernel), true, rfl, iteF ?_⟩
        refine ⟨_, rfl, _, rfl, a, _, _, _, rfl, rfl, .inl (.inl ha), hat, _, rfl, _, rfl, b, _, _, _, rfl, rfl, .inl (.inl hb), hat, rfl, _, rfl, ?_⟩
        rw [decide_eq_true (show (some x).elim V.non V.str = (some x).elim V.non V.str from rfl)]
        exact iteF ⟨rfl, _, rfl⟩
    · rintro σ _ ⟨rfl, v0, rfl⟩
      exact q
end
end Rr

set_option maxRecDepth 100000
set_option maxHeartbeats 4000000
namespace Rr
open PySem PySem.Spec PyProof.Rows L2
open L2H (SpP Hot1 RoomH call_isP call_sumP pe_intsP cxH)
open Evl (pss_cut)
section
variable {P : Program} {w : World} {K : PySem.W.Frag} {mg : Str → Option Value} {base : Heap}
def sp_word (K : PySem.W.Frag) : SpP := fun p vs H Q _ => ∃ (d : Str) (i : Nat), errs9[i]? = some d ∧ vs = [.ref p.1] ∧ Zc (.ref (He.ga K d)) none p.2 ∧ (∃ vs, p.2.data = .fields vs) ∧ ∀ (w : Str) H', words9[i]? = some w → Keep K [] H H' → Q (.str w) H'
theorem at5 {H : Hp} {a b c : Addr} {o o1 o2 : HO} (n1 : (L2.upd H a o) b = none) (n2 : (L2.upd (L2.upd H a o) b o1) c = none) : (L2.upd (L2.upd (L2.upd H a o) b o1) c o2) a = some o :=
  (upd_ne (ne_of_none ((upd_ne (ne_of_none upd_same n1)).trans upd_same) n2)).trans ((upd_ne (ne_of_none upd_same n1)).trans upd_same)
theorem c__law_word (T : Tx K mg base) : CalP P w K mg base 1 "_law_word" (sp_word K) := by
  obtain ⟨fd, F⟩ := T.d__law_word
  refine ⟨_, fd, ["_law_e"], okP (k := 0) F sc__law_word (fun p vs H Q E h => ?_) (fun A outer s H vs Q E p hot hr h => ?_), T.r__law_word, F.kp, F.bindsN fun _ _ _ _ _ _ us hl => match us, hl with | [_], _ => rfl⟩
  · obtain ⟨d, i, h1, rfl, _⟩ := h
    rfl
  · have nd := sc__law_word.nd
    obtain ⟨d, i, hd, rfl, hz, hf, q⟩ := h
    have e9 := ex9 T.x9 d (List.mem_of_getElem? hd)
    refine ⟨_, (pss_cons (ps_set (i := 1) nd rfl (Or.inl rfl) (pe_lst (pa_cons (pe_callB (call_isP e9.c hz hf List.mem_cons_self) (by rfl) T.m_isinstance (by decide +kernel) (pa_cons (pv 0) (pa_cons (pe_glob (v := .ref (He.ga K "NoName")) rfl T.r_NoName rfl) pa_nil))) (pa_cons (pe_callB (call_isP e9.c hz hf List.mem_cons_self) (by rfl) T.m_isinstance (by decide +kernel) (pa_cons (pv 0) (pa_cons (pe_glob (v := .ref (He.ga K "NoRank")) rfl T.r_NoRank rfl) pa_nil))) (pa_cons (pe_callB (call_isP e9.c hz hf List.mem_cons_self) (by rfl) T.m_isinstance (by decide +kernel) (pa_cons (pv 0) (pa_cons (pe_glob (v := .ref (He.ga K "NoSpan")) rfl T.r_NoSpan rfl) pa_nil))) (pa_cons (pe_callB (call_isP e9.c hz hf List.mem_cons_self) (by rfl) T.m_isinstance (by decide +kernel) (pa_cons (pv 0) (pa_cons (pe_glob (v := .ref (He.ga K "NoDesk")) rfl T.r_NoDesk rfl) pa_nil))) pa_nil))))))
  (pss_cons (ps_set (i := 1) nd rfl (Or.inl rfl) (pe_op op_cat (pv 1) (pe_lst (pa_cons (pe_callB (call_isP e9.c hz hf List.mem_cons_self) (by rfl) T.m_isinstance (by decide +kernel) (pa_cons (pv 0) (pa_cons (pe_glob (v := .ref (He.ga K "Known")) rfl T.r_Known rfl) pa_nil))) (pa_cons (pe_callB (call_isP e9.c hz hf List.mem_cons_self) (by rfl) T.m_isinstance (by decide +kernel) (pa_cons (pv 0) (pa_cons (pe_glob (v := .ref (He.ga K "Unknown")) rfl T.r_Unknown rfl) pa_nil))) (pa_cons (pe_callB (call_isP e9.c hz hf List.mem_cons_self) (by rfl) T.m_isinstance (by decide +kernel) (pa_cons (pv 0) (pa_cons (pe_glob (v := .ref (He.ga K "Full")) rfl T.r_Full rfl) pa_nil))) (pa_cons (pe_callB (call_isP e9.c hz hf List.mem_cons_self) (by rfl) T.m_isinstance (by decide +kernel) (pa_cons (pv 0) (pa_cons (pe_glob (v := .ref (He.ga K "NotReady")) rfl T.r_NotReady rfl) pa_nil))) pa_nil)))))))
  (pss_cons (ps_set (i := 1) nd rfl (Or.inl rfl) (pe_op op_cat (pv 1) (pe_lst (pa_cons (pe_callB (call_isP e9.c hz hf List.mem_cons_self) (by rfl) T.m_isinstance (by decide +kernel) (pa_cons (pv 0) (pa_cons (pe_glob (v := .ref (He.ga K "IsReady")) rfl T.r_IsReady rfl) pa_nil))) pa_nil))))
  (pss_cons (ps_if (PW.pt (pw_or (pt_not (pt_val (pe_callB (call_isP e9.c hz hf List.mem_cons_self) (by rfl) T.m_isinstance (by decide +kernel) (pa_cons (pv 0) (pa_cons (pe_bltn (v := .ty "ValueError") (by rfl) T.m_ValueError (by decide +kernel) rfl) pa_nil))))) (pw_or1 (pt_cmpR op_ne (pe_callB (call_sumP hot List.mem_cons_self) (by rfl) T.m_sum (by decide +kernel) (pa_cons (pe_intsP hot List.mem_cons_self (pv 1) T.m_int rfl (by decide +kernel) (by decide +kernel) (fun _ => rfl) rfl rfl) pa_nil)) pe_int (nomark _)))))
  (pss_one (ps_ret pe_str))
  pss_nil)
  (pss_one (ps_ret (pe_ix ix_list (pe_lst (pa_cons pe_str (pa_cons pe_str (pa_cons pe_str (pa_cons pe_str (pa_cons pe_str (pa_cons pe_str (pa_cons pe_str (pa_cons pe_str (pa_cons pe_str pa_nil)))))))))) (pe_bm PySem.F.plainAttrs_list PySem.F.slot_list_index PySem.F.type_list_index mt_index (pv 1) (pa_cons pe_bl pa_nil)) (fun _ _ => rfl)))))))), ?_⟩
    refine ⟨_, rfl, .ref (He.ga K "NoName"), .ref (He.ga K "NoName"), _, rfl, fun u h => h, e9.is "NoName" (by decide +kernel), _, rfl, .ref (He.ga K "NoRank"), .ref (He.ga K "NoRank"), _, rfl, fun u h => h, e9.is "NoRank" (by decide +kernel), _, rfl, .ref (He.ga K "NoSpan"), .ref (He.ga K "NoSpan"), _, rfl, fun u h => h, e9.is "NoSpan" (by decide +kernel), _, rfl, .ref (He.ga K "NoDesk"), .ref (He.ga K "NoDesk"), _, rfl, fun u h => h, e9.is "NoDesk" (by decide +kernel), (show 4 ≤ sizeLine by decide), fun g1 n1 => ?_⟩
    refine ⟨_, rfl, _, rfl, .ref (He.ga K "Known"), .ref (He.ga K "Known"), _, rfl, fun u h => h, e9.is "Known" (by decide +kernel), _, rfl, .ref (He.ga K "Unknown"), .ref (He.ga K "Unknown"), _, rfl, fun u h => h, e9.is "Unknown" (by decide +kernel), _, rfl, .ref (He.ga K "Full"), .ref (He.ga K "Full"), _, rfl, fun u h => h, e9.is "Full" (by decide +kernel), _, rfl, .ref (He.ga K "NotReady"), .ref (He.ga K "NotReady"), _, rfl, fun u h => h, e9.is "NotReady" (by decide +kernel), (show 4 ≤ sizeLine by decide), fun g2 n2 => ?_⟩
    refine ⟨g1, g2, _, _, rfl, rfl, (upd_ne (ne_of_none upd_same n2)).trans upd_same, upd_same, (show 4 + 4 ≤ sizeLine by decide), fun g3 n3 => ?_⟩
    refine ⟨_, rfl, _, rfl, .ref (He.ga K "IsReady"), .ref (He.ga K "IsReady"), _, rfl, fun u h => h, e9.is "IsReady" (by decide +kernel), (show 1 ≤ sizeLine by decide), fun g4 n4 => ?_⟩
    refine ⟨g3, g4, _, _, rfl, rfl, (upd_ne (ne_of_none upd_same n4)).trans upd_same, upd_same, (show 8 + 1 ≤ sizeLine by decide), fun g5 n5 => ?_⟩
    refine ⟨_, rfl, .ty "ValueError", .type "ValueError", true, rfl, fun u h => h, e9.v, _, rfl, iteF ⟨_, rfl, g5, [decide (d = ("NoName" : Str)), decide (d = ("NoRank" : Str)), decide (d = ("NoSpan" : Str)), decide (d = ("NoDesk" : Str)), decide (d = ("Known" : Str)), decide (d = ("Unknown" : Str)), decide (d = ("Full" : Str)), decide (d = ("NotReady" : Str)), decide (d = ("IsReady" : Str))], rfl, upd_same, (show 9 ≤ sizeLine by decide), fun g6 n6 => ⟨g6, ([decide (d = ("NoName" : Str)), decide (d = ("NoRank" : Str)), decide (d = ("NoSpan" : Str)), decide (d = ("NoDesk" : Str)), decide (d = ("Known" : Str)), decide (d = ("Unknown" : Str)), decide (d = ("Full" : Str)), decide (d = ("NotReady" : Str)), decide (d = ("IsReady" : Str))]).map (fun b => if b then 1 else 0), rfl, upd_same, ?_⟩⟩⟩
    have hs : (([decide (d = ("NoName" : Str)), decide (d = ("NoRank" : Str)), decide (d = ("NoSpan" : Str)), decide (d = ("NoDesk" : Str)), decide (d = ("Known" : Str)), decide (d = ("Unknown" : Str)), decide (d = ("Full" : Str)), decide (d = ("NotReady" : Str)), decide (d = ("IsReady" : Str))]).map (fun b => if b then (1 : Int) else 0)).sum = 1 ∧ ([decide (d = ("NoName" : Str)), decide (d = ("NoRank" : Str)), decide (d = ("NoSpan" : Str)), decide (d = ("NoDesk" : Str)), decide (d = ("Known" : Str)), decide (d = ("Unknown" : Str)), decide (d = ("Full" : Str)), decide (d = ("NotReady" : Str)), decide (d = ("IsReady" : Str))])[i]? = some true ∧ (∀ m, m < i → ([decide (d = ("NoName" : Str)), decide (d = ("NoRank" : Str)), decide (d = ("NoSpan" : Str)), decide (d = ("NoDesk" : Str)), decide (d = ("Known" : Str)), decide (d = ("Unknown" : Str)), decide (d = ("Full" : Str)), decide (d = ("NotReady" : Str)), decide (d = ("IsReady" : Str))])[m]? ≠ some true) ∧ ∃ w, words9[i]? = some w := by
      have hi : i < 9 := (List.getElem?_eq_some_iff.mp hd).1
      have h9 : i = 0 ∨ i = 1 ∨ i = 2 ∨ i = 3 ∨ i = 4 ∨ i = 5 ∨ i = 6 ∨ i = 7 ∨ i = 8 := by omega
      rcases h9 with rfl | rfl | rfl | rfl | rfl | rfl | rfl | rfl | rfl <;> (cases hd; refine ⟨by decide +kernel, by decide +kernel, fun m hm => ?_, _, rfl⟩; revert m; decide +kernel)
    obtain ⟨h1, h2, h3, w9, h4⟩ := hs
    refine ⟨rfl, _, rfl, ?_⟩
    rw [decide_eq_true (by exact congrArg V.int h1)]
    refine iteF ⟨(show 9 ≤ sizeLine by decide), fun g7 n7 => ?_⟩
    refine ⟨_, rfl, ?_⟩
    refine ⟨.inl ⟨rfl, _, .inl (.inl (at5 n6 n7))⟩, g5, ([decide (d = ("NoName" : Str)), decide (d = ("NoRank" : Str)), decide (d = ("NoSpan" : Str)), decide (d = ("NoDesk" : Str)), decide (d = ("Known" : Str)), decide (d = ("Unknown" : Str)), decide (d = ("Full" : Str)), decide (d = ("NotReady" : Str)), decide (d = ("IsReady" : Str))]).map V.bl, .bl true, i, .bl true, rfl, rfl, .inl (.inl (at5 n6 n7)), rfl, rfl, ?_, by decide +kernel, ?_, ?_⟩
    · rw [List.getElem?_map, h2]
      rfl
    · intro m z' hm e
      rw [List.getElem?_map] at e
      cases e1 : ([decide (d = ("NoName" : Str)), decide (d = ("NoRank" : Str)), decide (d = ("NoSpan" : Str)), decide (d = ("NoDesk" : Str)), decide (d = ("Known" : Str)), decide (d = ("Unknown" : Str)), decide (d = ("Full" : Str)), decide (d = ("NotReady" : Str)), decide (d = ("IsReady" : Str))])[m]? with
      | none =>
        rw [e1] at e
        cases e
      | some b =>
        rw [e1] at e
        cases e
        cases b with
        | true => exact absurd e1 (h3 m hm)
        | false => decide +kernel
    · refine ⟨g7, words9.map V.str, (i : Int), .str w9, rfl, rfl, .inl (.inl upd_same), atI_nat (by rw [List.getElem?_map, h4]; rfl), q w9 _ h4 ?_⟩
      exact ((((((Keep.new n1).trans (Keep.new n2)).trans (Keep.new n3)).trans (Keep.new n4)).trans (Keep.new n5)).trans (Keep.new n6)).trans (Keep.new n7)
end
end Rr

set_option maxRecDepth 100000
set_option maxHeartbeats 4000000
namespace Rr
open PySem PySem.Spec PyProof.Rows L2
open GxR (TabG Tabbed)
open Evl (pss_cut)
/-! what the laws' own files share -/
theorem iteD {p : Prop} [Decidable p] {X Y : Prop} (hp : p) (h : X) : if decide p = true then X else Y := by
  rw [if_pos (decide_eq_true hp)]
  exact h
theorem iteDn {p : Prop} [Decidable p] {X Y : Prop} (hp : ¬ p) (h : Y) : if decide p = true then X else Y := by
  rw [if_neg (by rw [decide_eq_false hp]; simp)]
  exact h
theorem iteE {x : V} {X Y : Prop} (h : Y) : if (!decide (x = x)) = true then X else Y := by
  rw [if_neg (by simp)]
  exact h
theorem told_at (D : Dk) {m i : Nat} (h : i < m) : (D.told m)[i]? = some (nmV (D.after i).pick) := by
  unfold Dk.told
  rw [List.getElem?_map, List.getElem?_range h]
  rfl
theorem at_str {ns : List Str} {i : Nat} {n : Str} (h : ns[i]? = some n) : atI (ns.map V.str) (0 + (i : Int)) = some (V.str n) := by
  rw [Int.zero_add]
  exact atI_nat (by rw [List.getElem?_map, h]; rfl)
theorem at_int {ns : List Int} {i : Nat} {n : Int} (h : ns[i]? = some n) : atI (ns.map V.int) (0 + (i : Int)) = some (V.int n) := by
  rw [Int.zero_add]
  exact atI_nat (by rw [List.getElem?_map, h]; rfl)
def namesOf (sh : Int) (n : Nat) : List Str := (List.range n).map fun (j : Nat) => nameBy (0 + (j : Int)) sh
theorem namesOf_succ (sh : Int) (n : Nat) : namesOf sh (n + 1) = namesOf sh n ++ [nameBy (0 + (n : Int)) sh] := by
  unfold namesOf
  rw [List.range_succ, List.map_append]
  rfl
theorem namesOf_len (sh : Int) (n : Nat) : (namesOf sh n).length = n := by
  unfold namesOf
  rw [List.length_map, List.length_range]
theorem namesOf_at {sh : Int} {n j : Nat} (h : j < n) : (namesOf sh n)[j]? = some (nameBy (0 + (j : Int)) sh) := by
  unfold namesOf
  rw [List.getElem?_map, List.getElem?_range h]
  rfl
theorem namesOf_new {sh : Int} {n : Nat} (h : n < 80) : nameBy (0 + (n : Int)) sh ∉ namesOf sh n := fun z => by
  obtain ⟨j, hj, e⟩ := List.mem_map.mp z
  have hj := List.mem_range.mp hj
  have := name_inj (i := 0 + (j : Int)) (k := 0 + (n : Int)) (c := sh) ⟨by omega, by omega⟩ ⟨by omega, by omega⟩ e
  omega
theorem namesOf_nd {sh : Int} : ∀ {n : Nat}, n ≤ 80 → (namesOf sh n).Nodup
  | 0, _ => List.nodup_nil
  | n + 1, h => by
    rw [namesOf_succ]
    exact nd_snoc (namesOf_nd (by omega)) (namesOf_new (by omega))
theorem at_z {α : Type} {f : α → V} {l : List α} {z : Int} {x : α} (h0 : 0 ≤ z) (h : l[z.toNat]? = some x) : atI (l.map f) z = some (f x) := by
  have e := atI_nat (xs := l.map f) (j := z.toNat) (v := f x) (by rw [List.getElem?_map, h]; rfl)
  rw [Int.toNat_of_nonneg h0] at e
  exact e
theorem ix_z {n : Nat} {z : Int} (h0 : 0 ≤ z) (h : z.toNat < n) : ixN n z = some z.toNat := by
  have e := Evl.ixN_nat h
  rw [Int.toNat_of_nonneg h0] at e
  exact e
section
variable {P : Program} {w : World} {K : PySem.W.Frag} {mg : Str → Option Value} {base : Heap}
/-- a word is told; nothing has changed -/
def Says (H : Hp) (Q : VK) (v : V) : Prop := ∀ H', Keep K [] H H' → Q v H'
theorem seqA {H H' H'' : Hp} {S : List Addr} (k : Keep K [] H H') (f : ∀ z ∈ S, H z = none) (k' : Keep K S H' H'') : Keep K [] H H'' := k.trans' k' fun z hz => .inr (f z hz)
theorem subA {H H' : Hp} {S S' : List Addr} (k : Keep K [] H H') (f : ∀ z ∈ S, H z = none) (s : Sub H' S S') : ∀ z ∈ S', H z = none := fun z hz => (s z hz).elim (f z) fun y => k.gone z y
theorem txt {a : Addr} {l : List Str} {H : Hp} (ha : H a = some (.lst (l.map V.str))) : H a = some (.lst ((l.map some).map fun x => x.elim .non V.str)) := by
  have e : l.map V.str = (l.map some).map fun x => x.elim .non V.str := by
    rw [List.map_map]
    rfl
  rw [e] at ha
  exact ha
theorem txl {l : List Str} {n : Nat} (h : l.length ≤ n) : (l.map some).length ≤ n := by rw [List.length_map]; exact h
end
/-- what is a desk's own is told of -/
theorem DkAt.live {K : PySem.W.Frag} {H : Hp} {S : List Addr} {d : Addr} {D : Dk} (x : DkAt K H S d D) {b : Addr} (h : b ∈ S) : H b ≠ none := by
  obtain ⟨L, ln, rfl, x⟩ := x
  rcases List.mem_cons.mp h with e | h
  · obtain ⟨dx, hd⟩ := x.desk
    rw [e, hd]
    simp
  · rcases List.mem_cons.mp h with e | h
    · rw [e, x.line]
      simp
    · obtain ⟨p, hp, rfl⟩ := List.mem_map.mp h
      obtain ⟨dy, hc⟩ := x.crs p hp
      rw [hc]
      simp
theorem Sub.transG {H H1 : Hp} {S S1 S2 : List Addr} (a : Sub H S S1) (g : ∀ c, H1 c = none → H c = none) (b : Sub H1 S1 S2) : Sub H S S2 := fun z hz => (b z hz).elim (a z) fun h => .inr (g z h)
end Rr

set_option maxRecDepth 100000
set_option maxHeartbeats 4000000
namespace Rr
open PySem PySem.Spec PyProof.Rows L2
open L2H (SpP)
open GxR (TabG Tabbed)
open Evl (pss_cut)
section
variable {P : Program} {w : World} {K : PySem.W.Frag} {mg : Str → Option Value} {base : Heap}
theorem spw {p : Addr × Obj} {H : Hp} {Q : VK} {E : XK} (i : Nat) {d w : Str} (h1 : errs9[i]? = some d) (h2 : words9[i]? = some w) (hz : Zc (.ref (He.ga K d)) none p.2) (hf : ∃ vs, p.2.data = .fields vs) (q : ∀ H', Keep K [] H H' → Q (.str w) H') : sp_word K p [.ref p.1] H Q E :=
  ⟨d, i, h1, rfl, hz, hf, fun w' H' hw k => by
    rw [h2] at hw
    obtain rfl := Option.some.inj hw
    exact q H' k⟩
end
end Rr

set_option maxRecDepth 100000
set_option maxHeartbeats 4000000
namespace Rr
open PySem PySem.Spec PyProof.Rows L2
open GxR (TabG Tabbed)
open Evl (pss_cut)
/-! turns, told and written down -/
theorem pick_none {D : Dk} (h : D.pick = none) : readies D.line = [] := by
  unfold Dk.pick pick at h
  cases e : pickI (agedC D.pace D.now) (readies D.line) with
  | none => exact pickI_none e
  | some y =>
    rw [e] at h
    cases h
theorem cut_int {ns : List Int} {lo hi : Option Int} {i : Nat} {v : V} (h : (cutV (ns.map V.int) lo hi)[i]? = some v) : ∃ c : Int, v = .int c := by
  have h1 := List.mem_of_getElem? h
  unfold cutV at h1
  obtain ⟨c, _, e⟩ := List.mem_map.mp (List.mem_of_mem_drop (List.mem_of_mem_take h1))
  exact ⟨c, e.symm⟩
theorem told_opt (D : Dk) (n : Nat) : D.told n = ((List.range n).map fun i => ((D.after i).pick).map (·.name)).map fun x => x.elim .non V.str := by
  unfold Dk.told
  rw [List.map_map]
  refine List.map_congr_left fun i _ => ?_
  show nmV (D.after i).pick = (((D.after i).pick).map (·.name)).elim .non V.str
  cases (D.after i).pick <;> rfl
section
variable {P : Program} {w : World} {K : PySem.W.Frag} {mg : Str → Option Value} {base : Heap}
end
end Rr

set_option maxRecDepth 100000
set_option maxHeartbeats 4000000
namespace Rr
open PySem PySem.Spec PyProof.Rows L2
open GxR (TabG Tabbed)
/-! desks' lists, as the laws compare them -/
theorem Sound.good {D : Dk} (x : Sound D) (h : D.now < 1000000000000) : GoodD D := by
  refine ⟨x.pr, x.t0, h, x.len, x.nm, x.ok, x.rk, fun c hc => ?_⟩
  have hs := x.st c hc
  obtain ⟨n, r, st⟩ := c
  cases st with
  | rdy s => exact hs
  | slp u =>
    have hs : D.now < u ∧ u ≤ D.now + 1000 := hs
    exact ⟨by omega, by omega⟩
  | wtg b => exact hs
theorem some_names {ns : List Str} (h : ∀ n ∈ ns, isName n = true) : ∀ x, some x ∈ ns.map some → isName x = true := fun x hx => by
  obtain ⟨z, hz, e⟩ := List.mem_map.mp hx
  rw [← Option.some.inj e]
  exact h z hz
def toldO (D : Dk) (n : Nat) : List (Option Str) := (List.range n).map fun i => ((D.after i).pick).map (·.name)
theorem toldO_V (D : Dk) (n : Nat) : D.told n = (toldO D n).map optV := told_opt D n
theorem toldO_ok {D : Dk} (s : Sound D) (n : Nat) : ∀ x, some x ∈ toldO D n → isName x = true := fun x hx => by
  obtain ⟨i, _, e⟩ := List.mem_map.mp hx
  cases ep : (D.after i).pick with
  | none =>
    rw [ep] at e
    cases e
  | some c =>
    rw [ep] at e
    rw [← Option.some.inj e]
    exact (s.after i).ok c (pickD_mem ep).1
theorem names_ok {D : Dk} (s : Sound D) : ∀ n ∈ namesL D.line, isName n = true := fun n hn => by
  obtain ⟨c, hc, rfl⟩ := List.mem_map.mp hn
  exact s.ok c hc
theorem ready_in {D : Dk} {n : Str} (h : n ∈ D.readyL) : ∃ c ∈ D.line, c.name = n ∧ c.st.isRdy = true := by
  obtain ⟨c, hc, rfl⟩ := List.mem_map.mp h
  obtain ⟨h1, h2⟩ := List.mem_filter.mp ((ord_mem _).mp hc)
  exact ⟨c, h1, rfl, h2⟩
theorem ready_ok {D : Dk} (s : Sound D) : ∀ n ∈ D.readyL, isName n = true := fun n hn => by
  obtain ⟨c, hc, rfl, _⟩ := ready_in hn
  exact s.ok c hc
theorem at0 (v : V) (l : List V) : atI (v :: l) 0 = some v := atI_nat (xs := v :: l) (j := 0) rfl
theorem toldO_len (D : Dk) (n : Nat) : (toldO D n).length = n := by
  unfold toldO
  rw [List.length_map, List.length_range]
end Rr

set_option maxRecDepth 100000
set_option maxHeartbeats 4000000
namespace Rr
open PySem PySem.Spec PyProof.Rows L2
open L2H (SpP)
open GxR (TabG Tabbed)
open Evl (pss_cut)
theorem nmV_ref {o : Option Cr} {a : Addr} (h : V.ref a = nmV o) : False := by
  cases o <;> cases h
section
variable {P : Program} {w : World} {K : PySem.W.Frag} {mg : Str → Option Value} {base : Heap}
theorem readies_take {l : List Cr} {i : Nat} {c : Cr} (h : l[i]? = some c) : readies (l.take (i + 1)) = readies (l.take i) ++ if c.st.isRdy then [c] else [] := take_filter h (·.st.isRdy)
def sp_lchosen (K : PySem.W.Frag) : Sp := fun vs H Q _ => ∃ (a : Addr) (D : Dk), vs = [.ref a, .int D.now, .int D.pace] ∧ LnAt H a D.line ∧ Sound D ∧ Q (nmV D.pick) H
theorem c__law_chosen (T : Tx K mg base) : Cal P w K mg base 1 "_law_chosen" (sp_lchosen K) := by
  obtain ⟨fd, F⟩ := T.d__law_chosen
  refine ⟨_, fd, ["_law_line", "_law_now", "_law_pace"], okF (k := 0) F sc__law_chosen (fun vs H Q E h => ?_) (fun A outer s H vs Q E hr h => ?_), T.r__law_chosen, F.kp, F.bindsN fun _ _ _ _ _ _ us hl => match us, hl with | [_, _, _], _ => rfl⟩
  · obtain ⟨a, D, rfl, _⟩ := h
    rfl
  · have nd := sc__law_chosen.nd
    obtain ⟨a, D, rfl, hL, sD, q⟩ := h
    obtain ⟨ps, el, ha, hp⟩ := id hL
    have lps : ps.length = D.line.length := by rw [el, List.length_map]
    refine ⟨_, (pss_cons (ps_set (i := 3) nd rfl (Or.inl rfl) pe_non)
  (pss_cons (ps_set (i := 4) nd rfl (Or.inl rfl) pe_int)
  (pss_cons (ps_for (passes_of rfl) rfl (pi_list (pv 0)) (pg_name (i := 5) nd rfl (Or.inl rfl))
  (pss_one (ps_if (pt_cmpR op_eq (pe_ix ix_tup (pv 5) pe_int (fun _ _ => rfl)) pe_str (nomark _))
  (pss_cons (ps_set (i := 6) nd rfl (Or.inl rfl) (pe_op op_add (pe_ix ix_tup (pv 5) pe_int (fun _ _ => rfl)) (pe_op op_fdiv (pe_op op_sub (pv 1) (pe_ix ix_tup (pv 5) pe_int (fun _ _ => rfl))) (pv 2))))
  (pss_one (ps_if (PW.pt (pw_or (pt_cmpR op_isN (pv 3) pe_non (nomark _)) (pw_or1 (pt_cmpR op_gt (pv 6) (pv 4) (nomark _)))))
  (pss_cons (ps_set (i := 3) nd rfl (Or.inl rfl) (pe_ix ix_tup (pv 5) pe_int (fun _ _ => rfl)))
  (pss_one (ps_set (i := 4) nd rfl (Or.inl rfl) (pv 6))))
  pss_nil)))
  pss_nil)))
  (pss_one (ps_ret (pv 3)))))), ?_⟩
    refine ⟨_, rfl, a, rfl, ⟨_, .inl (.inl ha)⟩, ?_⟩
    refine for_it (walk_list (xs := ps.map fun p => V.ref p.1)) (fun i σ H' => H' = H ∧ ∃ bst mst v5 v6, σ = [some (.ref a), some (.int D.now), some (.int D.pace), some bst, some (.int mst), v5, v6] ∧ match pickI (agedC D.pace D.now) (readies (D.line.take i)) with
      | none => bst = .non ∧ mst = 0
      | some y => bst = .str y.2.name ∧ mst = agedC D.pace D.now y.2) ⟨rfl, .non, 0, none, none, rfl, rfl, rfl⟩ (fun i σ H' _ h => by rw [h.1]; exact .inl (.inl ha)) ?_ ?_
    · rintro i v σ H2 H3 hi ⟨hH, bst, mst, v5, v6, rfl, hI⟩ ⟨hH2, hv⟩
      obtain rfl : H2 = H3 := by first | exact hH2 | exact hH2.symm
      subst hH
      rw [List.getElem?_map] at hv
      cases ep : ps[i]? with
      | none =>
        rw [ep] at hv
        cases hv
      | some q1 =>
        rw [ep] at hv
        obtain rfl : V.ref q1.1 = v := Option.some.inj hv
        have ht := hp q1 (List.mem_of_getElem? ep)
        have ec : D.line[i]? = some q1.2 := by
          rw [el, List.getElem?_map, ep]
          rfl
        have eR := readies_take ec
        obtain ⟨ad, n, r, st⟩ := q1
        refine ⟨_, rfl, ad, _, _, _, rfl, rfl, .inl (.inl ht), rfl, rfl, _, rfl, ?_⟩
        rw [word_rdy]
        cases st with
        | rdy s =>
          have eR : readies (D.line.take (i + 1)) = readies (D.line.take i) ++ [⟨n, r, .rdy s⟩] := eR
          refine iteT ⟨_, rfl, ad, _, _, _, rfl, rfl, .inl (.inl ht), rfl, _, rfl, _, rfl, ad, _, _, _, rfl, rfl, .inl (.inl ht), rfl, _, _, rfl, rfl, _, rfl, _, _, rfl, rfl, ⟨by have := sD.pr.1.1; omega, by have := sD.pr.1.2; omega⟩, _, _, rfl, rfl, ?_⟩
          have eF : r + (D.now - s) / D.pace = agedC D.pace D.now ⟨n, r, .rdy s⟩ := rfl
          cases e : pickI (agedC D.pace D.now) (readies (D.line.take i)) with
          | none =>
            rw [e] at hI
            obtain ⟨rfl, rfl⟩ := hI
            refine ⟨_, rfl, rfl, _, rfl, iteT ⟨_, rfl, ad, _, _, _, rfl, rfl, .inl (.inl ht), rfl, _, rfl, rfl, .str n, _, _, _, rfl, ?_⟩⟩
            rw [eR, pickI_snoc, e]
            exact ⟨rfl, rfl⟩
          | some y =>
            rw [e] at hI
            obtain ⟨rfl, rfl⟩ := hI
            refine ⟨_, rfl, rfl, _, rfl, iteF ⟨_, rfl, _, rfl, _, _, rfl, rfl, _, rfl, ite2 (fun c => ?_) (fun c => ?_)⟩⟩
            · have c : agedC D.pace D.now y.2 < agedC D.pace D.now ⟨n, r, .rdy s⟩ := of_decide_eq_true c
              refine ⟨_, rfl, ad, _, _, _, rfl, rfl, .inl (.inl ht), rfl, _, rfl, rfl, .str n, _, _, _, rfl, ?_⟩
              rw [eR, pickI_snoc, e]
              show match (if agedC D.pace D.now y.2 < agedC D.pace D.now ⟨n, r, .rdy s⟩ then some ((readies (D.line.take i)).length, (⟨n, r, .rdy s⟩ : Cr)) else some y) with
                | none => _
                | some y => _
              rw [if_pos c]
              exact ⟨rfl, rfl⟩
            · have c : ¬ agedC D.pace D.now y.2 < agedC D.pace D.now ⟨n, r, .rdy s⟩ := fun z => c (decide_eq_true z)
              refine ⟨rfl, .str y.2.name, _, _, _, rfl, ?_⟩
              rw [eR, pickI_snoc, e]
              show match (if agedC D.pace D.now y.2 < agedC D.pace D.now ⟨n, r, .rdy s⟩ then some ((readies (D.line.take i)).length, (⟨n, r, .rdy s⟩ : Cr)) else some y) with
                | none => _
                | some y => _
              rw [if_neg c]
              exact ⟨rfl, rfl⟩
        | slp u =>
          have eR : readies (D.line.take (i + 1)) = readies (D.line.take i) ++ [] := eR
          rw [List.append_nil] at eR
          refine iteF ⟨rfl, bst, mst, _, _, rfl, ?_⟩
          rw [eR]
          exact hI
        | wtg b =>
          have eR : readies (D.line.take (i + 1)) = readies (D.line.take i) ++ [] := eR
          rw [List.append_nil] at eR
          refine iteF ⟨rfl, bst, mst, _, _, rfl, ?_⟩
          rw [eR]
          exact hI
    · rintro σ H2 ⟨hH, bst, mst, v5, v6, rfl, hI⟩
      subst hH
      rw [List.length_map, lps, List.take_of_length_le (Nat.le_refl _)] at hI
      have e2 : nmV D.pick = bst := by
        unfold Dk.pick pick
        cases e : pickI (agedC D.pace D.now) (readies D.line) with
        | none =>
          rw [e] at hI
          exact hI.1.symm
        | some y =>
          rw [e] at hI
          exact hI.1.symm
      rw [e2] at q
      exact ⟨_, rfl, q⟩
def sp_ahead (K : PySem.W.Frag) : Sp := fun vs H Q _ => ∃ (a : Addr) (D : Dk) (m : Int), vs = [.ref a, .int D.now, .int D.pace, .int m] ∧ LnAt H a D.line ∧ Sound D ∧ (0 ≤ m ∧ m ≤ 1000) ∧
  ∀ t u b H', Keep K [] H H' → H' t = some (.tup [.ref u, .ref b]) → H' u = some (.lst (D.told m.toNat)) → LnAt H' b (D.after m.toNat).line → Q (.ref t) H'
theorem c__law_ahead (T : Tx K mg base) : Cal P w K mg base 3 "_law_ahead" (sp_ahead K) := by
  have c__law_chosen : Cal P w K mg base 1 "_law_chosen" (sp_lchosen K) := c__law_chosen T
  have c__law_after : Cal P w K mg base 2 "_law_after" (sp_after K) := c__law_after T
  obtain ⟨fd, F⟩ := T.d__law_ahead
  refine ⟨_, fd, ["_law_line", "_law_now", "_law_pace", "_law_many_here"], okF (k := 2) F sc__law_ahead (fun vs H Q E h => ?_) (fun A outer s H vs Q E hr h => ?_), T.r__law_ahead, F.kp, F.bindsN fun _ _ _ _ _ _ us hl => match us, hl with | [_, _, _, _], _ => rfl⟩
  · obtain ⟨a, D, m, rfl, _⟩ := h
    rfl
  · have nd := sc__law_ahead.nd
    obtain ⟨a, D, m, rfl, hL, sD, hm, q⟩ := h
    refine ⟨_, (pss_cons (ps_set (i := 4) nd rfl (Or.inl rfl) (pe_lst pa_nil))
  (pss_cons (ps_for (passes_of rfl) rfl (pi_range1 (by rfl) T.m_range (pa_cons (pv 3) pa_nil)) (pg_name (i := 5) nd rfl (Or.inl rfl))
  (pss_cons (ps_expr (pe_bm PySem.F.plainAttrs_list PySem.F.slot_list_append PySem.F.type_list_append mt_append (pv 4) (pa_cons (pf c__law_chosen hr (by decide) (by rfl) p0 (pa_cons (pv 0) (pa_cons (pv 1) (pa_cons (pv 2) pa_nil)))) pa_nil)))
  (pss_cons (ps_set (i := 0) nd rfl (Or.inl rfl) (pf c__law_after hr (by decide) (by rfl) p0 (pa_cons (pv 0) (pa_cons (pv 1) (pa_cons (pe_ix ix_list (pv 4) (pv 5) (fun _ _ => rfl)) pa_nil)))))
  (pss_one (ps_set (i := 1) nd rfl (Or.inl rfl) (pe_op op_add (pv 1) pe_int))))))
  (pss_one (ps_ret (pe_tup (pa_cons (pv 4) (pa_cons (pv 0) pa_nil))))))), ?_⟩
    refine ⟨(show 0 ≤ sizeLine by decide), fun u nu => ⟨_, rfl, m, rfl, by omega, by omega, ?_⟩⟩
    have ku : Keep K [] H (L2.upd H u (.lst [])) := Keep.new nu
    have hau : a ≠ u := fun z => by
      obtain ⟨ps, _, ha, _⟩ := hL
      rw [z, nu] at ha
      cases ha
    refine for_it walk_range (fun i σ H' => ∃ b v5, σ = [some (.ref b), some (.int (D.after i).now), some (.int D.pace), some (.int m), some (.ref u), v5] ∧ b ≠ u ∧ Keep K [] H H' ∧ LnAt H' b (D.after i).line ∧ H' u = some (.lst (D.told i))) ⟨a, none, rfl, hau, ku, hL.keep0 ku, upd_same⟩ (fun _ _ _ _ _ => trivial) ?_ ?_
    · rintro i v σ H1 H2 hi ⟨b, v5, rfl, nbu, k1, hL1, hu1⟩ ⟨rfl, rfl⟩
      have hi' : i < m.toNat := hi
      have sDi := sD.after i
      have pr := after_pr D i
      refine ⟨_, rfl, .inl ⟨rfl, _, .inl (.inl hu1)⟩, _, rfl, _, rfl, _, rfl, b, D.after i, by rw [pr.1], hL1, sDi, ?_⟩
      have ku2 := k1.set (o := .lst (D.told i ++ [nmV (D.after i).pick])) (.inl nu) hu1 nt_lst
      refine ⟨u, _, _, rfl, rfl, hu1, ?_, ?_⟩
      · rw [told_len]
        exact Nat.lt_of_lt_of_le (show i < 1001 by omega) (by decide)
      have hu2 : (L2.upd H2 u (.lst (D.told i ++ [nmV (D.after i).pick]))) u = some (.lst (D.told (i + 1))) := by
        rw [upd_same, told_snoc]
      have hL2 : LnAt (L2.upd H2 u (.lst (D.told i ++ [nmV (D.after i).pick]))) b (D.after i).line := by
        obtain ⟨ps, el, hb, hp⟩ := hL1
        refine ⟨ps, el, (upd_ne nbu).trans hb, fun p hm => (upd_ne fun z => ?_).trans (hp p hm)⟩
        have h1 : H2 p.1 = some (.tup (rowV p.2)) := hp p hm
        rw [z, hu1] at h1
        cases h1
      generalize L2.upd H2 u (.lst (D.told i ++ [nmV (D.after i).pick])) = HX at ku2 hu2 hL2 ⊢
      have at_ : atI (D.told (i + 1)) (0 + (i : Int)) = some (nmV (D.after i).pick) := by
        rw [Int.zero_add]
        exact atI_nat (told_at D (Nat.lt_succ_self i))
      refine ⟨_, rfl, _, rfl, _, rfl, _, rfl, u, _, _, _, rfl, rfl, .inl (.inl hu2), at_, b, D.after i, rfl, hL2, sDi, fun b' H3 k3 hL3 => ?_⟩
      have hu3 := k3.lst hu2 List.not_mem_nil
      refine ⟨_, rfl, _, _, rfl, rfl, ?_⟩
      have en : (D.after (i + 1)).now = (D.after i).now + 1 := turn_now _
      rw [en]
      refine ⟨b', _, rfl, fun z => ?_, ku2.trans k3, hL3, hu3⟩
      obtain ⟨ps, _, hb, _⟩ := hL3
      rw [z, hu3] at hb
      have e := HO.lst.inj (Option.some.inj hb)
      rw [told_snoc] at e
      have hm : nmV (D.after i).pick ∈ ps.map fun p => V.ref p.1 := by
        rw [← e]
        exact List.mem_append_right _ (List.mem_singleton.mpr rfl)
      obtain ⟨p, _, e2⟩ := List.mem_map.mp hm
      exact nmV_ref e2
    · rintro σ H1 ⟨b, v5, rfl, nbu, k1, hL1, hu1⟩
      refine ⟨_, rfl, _, rfl, (show 2 ≤ sizeLine by decide), fun t nt => ?_⟩
      have kt : Keep K [] H1 (L2.upd H1 t (.tup [.ref u, .ref b])) := Keep.new nt
      exact q t u b _ (k1.trans kt) upd_same (kt.lst hu1 List.not_mem_nil) (hL1.keep0 kt)
def sp_lturns (K : PySem.W.Frag) : Sp := fun vs H Q _ => ∃ (d a : Addr) (S : List Addr) (D : Dk) (m c : Int), vs = [.ref d, .ref a, .int m, .int D.pace, .int c] ∧ DkAt K H S d D ∧ Sound D ∧ LnAt H a D.line ∧ (0 ≤ m ∧ m ≤ 1000) ∧
  ∀ S' b H', Keep K S H H' → Sub H S S' → DkAt K H' S' d (D.after m.toNat) → LnAt H' b (D.after m.toNat).line → Q (.ref b) H'
theorem c__law_turns (T : Tx K mg base) : Cal P w K mg base 7 "_law_turns" (sp_lturns K) := by
  have c__law_ahead : Cal P w K mg base 3 "_law_ahead" (sp_ahead K) := c__law_ahead T
  have c__law_told : Cal P w K mg base 6 "_law_told" (sp_told K) := c__law_told T
  have c__law_texts : Cal P w K mg base 1 "_law_texts" (sp_texts K) := c__law_texts T
  obtain ⟨fd, F⟩ := T.d__law_turns
  refine ⟨_, fd, ["_law_desk", "_law_line", "_law_many_here", "_law_pace", "_law_cell"], okF (k := 6) F sc__law_turns (fun vs H Q E h => ?_) (fun A outer s H vs Q E hr h => ?_), T.r__law_turns, F.kp, F.bindsN fun _ _ _ _ _ _ us hl => match us, hl with | [_, _, _, _, _], _ => rfl⟩
  · obtain ⟨d, a, S, D, m, c, rfl, _⟩ := h
    rfl
  · have nd := sc__law_turns.nd
    obtain ⟨d, a, S, D, m, c, rfl, hD, sD, hL, hm, q⟩ := h
    obtain ⟨L, ln, eS, x⟩ := id hD
    obtain ⟨dx, hd⟩ := id x.desk
    refine ⟨_, (pss_cons (ps_asg (pf c__law_ahead hr (by decide) (by rfl) p0 (pa_cons (pv 1) (pa_cons (pe_fld (pv 0) rfl) (pa_cons (pv 3) (pa_cons (pv 2) pa_nil))))) (pg_tup rfl (pgs_cons (pg_name (i := 5) nd rfl (Or.inl rfl)) (pgs_cons (pg_name (i := 1) nd rfl (Or.inl rfl)) pgs_nil))))
  (pss_cons (ps_if (pt_not (pt_val (pf c__law_texts hr (by decide) (by rfl) p0 (pa_cons (pf c__law_told hr (by decide) (by rfl) p0 (pa_cons (pv 0) (pa_cons (pv 2) (pa_cons (pv 4) pa_nil)))) (pa_cons (pv 5) pa_nil)))))
  (pss_one (ps_ret pe_non))
  pss_nil)
  (pss_one (ps_ret (pv 1))))), ?_⟩
    refine ⟨_, rfl, _, rfl, d, _, _, _, _, rfl, hd, T.cl_Desk, T.na_Desk_now, rfl, _, rfl, _, rfl, a, D, m, rfl, hL, sD, hm, fun t u b H1 k1 ht hu hb => ?_⟩
    have hD1 := hD.keep0 k1
    refine ⟨t, _, rfl, .inl (.inl ht), rfl, _, _, rfl, _, _, rfl, rfl, ?_⟩
    refine ⟨_, rfl, _, rfl, _, rfl, d, S, D, m, c, rfl, hD1, hm, fun p S2 H2 k2 s2 hD2 hp => ?_⟩
    have hu2 := k2.lst hu (hD1.lst hu)
    rw [toldO_V] at hp hu2
    refine ⟨_, rfl, p, u, _, rfl, hp, hu2, by rw [toldO_len]; omega, _, rfl, iteF ⟨_, rfl, ?_⟩⟩
    exact q S2 b H2 (k1.any.trans k2) (fun z hz => (s2 z hz).imp_right (k1.gone z)) hD2 (hb.keepD hD1 k2)
def kOf (H : Hp) : V → Int × Int
  | .ref t => match H t with
    | some (.tup [.int x, .int y]) => (x, y)
    | _ => (0, 0)
  | _ => (0, 0)
theorem kOf_at {H : Hp} {t : Addr} {x y : Int} (h : H t = some (.tup [.int x, .int y])) : kOf H (.ref t) = (x, y) := by
  simp only [kOf, h]
def sp_lorder (K : PySem.W.Frag) : Sp := fun vs H Q _ => ∃ (a : Addr) (D : Dk), vs = [.ref a, .int D.now, .int D.pace] ∧ LnAt H a D.line ∧ Sound D ∧ ∀ b H', Keep K [] H H' → H' b = some (.lst (D.readyL.map V.str)) → Q (.ref b) H'
theorem c__law_order (T : Tx K mg base) : Cal P w K mg base 1 "_law_order" (sp_lorder K) := by
  obtain ⟨fd, F⟩ := T.d__law_order
  refine ⟨_, fd, ["_law_line", "_law_now", "_law_pace"], okF (k := 0) F sc__law_order (fun vs H Q E h => ?_) (fun A outer s H vs Q E hr h => ?_), T.r__law_order, F.kp, F.bindsN fun _ _ _ _ _ _ us hl => match us, hl with | [_, _, _], _ => rfl⟩
  · obtain ⟨a, D, rfl, _⟩ := h
    rfl
  · have nd := sc__law_order.nd
    obtain ⟨a, D, rfl, hL, sD, q⟩ := h
    obtain ⟨ps, el, ha, hp⟩ := id hL
    have l60 := sD.len60
    have lps : ps.length = D.line.length := by rw [el, List.length_map]
    refine ⟨_, (pss_cons (ps_set (i := 3) nd rfl (Or.inr rfl) (pe_lc (own := [("_law_one", 5)]) (g := gName 5) rfl nd (pi_listK (K := K) rfl (pv 0)) (blkOk_by (N := N__law_order) (sc := defScope s__law_order) (by decide +kernel)) (fun _ _ _ _ _ => (pg_name (i := 5) nd rfl (Or.inl rfl))) (fun _ _ _ _ _ => (pts_one (pt_cmpR op_eq (pe_ix (ix_tupK (K := K) rfl) (pv 5) pe_int (fun _ _ => rfl)) pe_str (nomark _)))) (fun _ _ _ _ _ => (pv 5))))
  (pss_cons (ps_setLc (i := 4) (own := [("_law_k", 6), ("_law_one", 5)]) (g := gTup K 2 (gCons (gName 6) (gCons (gName 5) gNil))) (tt := tYes) rfl nd rfl rfl (sw_true rfl rfl rfl (by decide +kernel)) (pi_enum (by rfl) T.m_enumerate (pa_cons (pv 3) pa_nil)) (blkOk_by (N := N__law_order) (sc := defScope s__law_order) (by decide +kernel)) (fun _ _ _ _ _ => (pg_tup rfl (pgs_cons (pg_name (i := 6) nd rfl (Or.inl rfl)) (pgs_cons (pg_name (i := 5) nd rfl (Or.inl rfl)) pgs_nil)))) (fun _ _ _ _ _ => pts_nil) (fun _ _ _ _ _ => (pe_tup (pa_cons (pe_op op_sub (pe_op op_sub pe_int (pe_ix (ix_tupK (K := K) rfl) (pv 5) pe_int (fun _ _ => rfl))) (pe_op op_fdiv (pe_op op_sub (pv 1) (pe_ix (ix_tupK (K := K) rfl) (pv 5) pe_int (fun _ _ => rfl))) (pv 2))) (pa_cons (pv 6) pa_nil)))))
  (pss_one (ps_ret (pe_lc (own := [("_law_row", 7)]) (g := gName 7) (tt := tYes) rfl nd (pi_listK (K := K) rfl (pe_callB cr_sortedPO (by rfl) T.m_sorted (by decide +kernel) (pa_cons (pv 4) pa_nil))) (blkOk_by (N := N__law_order) (sc := defScope s__law_order) (by decide +kernel)) (fun _ _ _ _ _ => (pg_name (i := 7) nd rfl (Or.inl rfl))) (fun _ _ _ _ _ => pts_nil) (fun _ _ _ _ _ => (pe_ix (ix_tupK (K := K) rfl) (pe_ix (ix_listK (K := K) rfl) (pv 3) (pe_ix (ix_tupK (K := K) rfl) (pv 7) pe_int (fun _ _ => rfl)) (fun _ _ => rfl)) pe_int (fun _ _ => rfl)))))))), ?_⟩
    refine ⟨_, rfl, a, rfl, ⟨_, .inl (.inl ha)⟩, fun g ng => ?_⟩
    refine lc_it (walk_list (K := K) (xs := ps.map fun p => V.ref p.1)) (Pv := fun i H' => Keep K [] H H' ∧ H' g = some (.lst (((ps.take i).filter fun p => p.2.st.isRdy).map fun p => V.ref p.1))) ⟨Keep.new ng, upd_same⟩ (fun i H' _ p => .inl (.inl (p.1.lst ha List.not_mem_nil))) ?_ ?_
    · rintro i v H1 H2 hi ⟨k1, hg⟩ ⟨rfl, hv⟩
      rw [List.getElem?_map] at hv
      cases ep : ps[i]? with
      | none =>
        rw [ep] at hv
        cases hv
      | some q1 =>
        rw [ep] at hv
        obtain rfl : V.ref q1.1 = v := Option.some.inj hv
        have ht := (hp q1 (List.mem_of_getElem? ep)).keep0 k1
        refine ⟨rfl, ?_⟩
        refine ⟨_, rfl, q1.1, _, _, _, rfl, rfl, .inl (.inl ht), rfl, rfl, _, rfl, ?_⟩
        rw [word_rdy, take_filter ep]
        cases e : q1.2.st.isRdy with
        | false =>
          refine iteF ⟨k1, ?_⟩
          rw [if_neg (by simp), List.append_nil]
          exact hg
        | true =>
          refine iteT ⟨_, rfl, _, hg, ?_, k1.set (.inl ng) hg nt_lst, ?_⟩
          · rw [List.length_map]
            have h1 := List.length_filter_le (fun p : Addr × Cr => p.2.st.isRdy) (ps.take i)
            rw [List.length_take] at h1
            exact small1000 (by omega)
          · rw [upd_same, if_pos rfl, List.map_append]
            rfl
    rintro H1 ⟨k1, hg⟩
    rw [List.length_map, List.take_of_length_le (Nat.le_refl _)] at hg
    have hrow : ∀ p ∈ ps.filter (fun p => p.2.st.isRdy), RowAt H1 p.1 p.2 := fun p hm => (hp p (List.mem_filter.mp hm).1).keep0 k1
    have hst : ∀ p ∈ ps.filter (fun p => p.2.st.isRdy), ∃ s, p.2.st = .rdy s := fun p hm => by
      have h1 := (List.mem_filter.mp hm).2
      cases e : p.2.st with
      | rdy s => exact ⟨s, rfl⟩
      | slp u =>
        rw [e] at h1
        cases h1
      | wtg b =>
        rw [e] at h1
        cases h1
    have eR : (ps.filter (fun p => p.2.st.isRdy)).map (·.2) = readies D.line := by
      rw [el]
      unfold readies
      rw [List.filter_map]
      rfl
    have lr : (ps.filter (fun p => p.2.st.isRdy)).length ≤ 60 := Nat.le_trans (List.length_filter_le _ _) (by omega)
    generalize ps.filter (fun p => p.2.st.isRdy) = rs at hg hrow hst eR lr
    -- the rows
    refine ⟨_, rfl, g, _, rfl, .inl (.inl hg), fun h nh => ?_⟩
    refine lc_it (walk_enum (K := K) (a := g) (xs := rs.map fun p => V.ref p.1)) (Pv := fun i H' => Keep K [] H1 H' ∧ ∃ ts : List Addr, ts.length = i ∧ H' h = some (.lst (ts.map V.ref)) ∧ ∀ (j : Nat) (t : Addr) (p : Addr × Cr), ts[j]? = some t → rs[j]? = some p → H' t = some (.tup [.int (-(agedC D.pace D.now p.2)), .int (j : Int)]))
      ⟨Keep.new nh, [], rfl, upd_same, fun j t p h => by simp at h⟩ (fun i H' _ p => .inl (.inl (p.1.lst hg List.not_mem_nil))) ?_ ?_
    · rintro i x H2 H3 hi ⟨k2, ts, lt, hh, hts⟩ ⟨T2, x1, x2, rfl, hT, rfl, hx1, hx2⟩
      have hx2 : (rs.map fun p => V.ref p.1)[i]? = some x2 := hx2
      rw [List.getElem?_map] at hx2
      cases ep : rs[i]? with
      | none =>
        rw [ep] at hx2
        cases hx2
      | some q1 =>
        rw [ep] at hx2
        obtain rfl : V.ref q1.1 = x2 := Option.some.inj hx2
        obtain rfl : V.int i = x1 := Option.some.inj hx1
        have kT : Keep K [] H2 (L2.upd H2 T2 (.tup [.int i, .ref q1.1])) := Keep.new hT
        have ht : (L2.upd H2 T2 (.tup [.int i, .ref q1.1])) q1.1 = some (.tup (rowV q1.2)) := kT.tup (k2.tup (hrow q1 (List.mem_of_getElem? ep)) List.not_mem_nil) List.not_mem_nil
        obtain ⟨s, es⟩ := hst q1 (List.mem_of_getElem? ep)
        obtain ⟨ad, n, r, st⟩ := q1
        obtain rfl : st = .rdy s := es
        have hi6 : i < 60 := by
          have := (List.getElem?_eq_some_iff.mp ep).1
          omega
        refine ⟨T2, _, rfl, .inl (.inl upd_same), rfl, _, _, rfl, _, _, rfl, rfl, rfl, ?_⟩
        refine ⟨_, rfl, ad, _, _, _, rfl, rfl, .inl (.inl ht), rfl, _, _, rfl, rfl, _, rfl, _, rfl, ad, _, _, _, rfl, rfl, .inl (.inl ht), rfl, _, _, rfl, rfl, _, rfl, _, _, rfl, rfl, ⟨by have := sD.pr.1.1; omega, by have := sD.pr.1.2; omega⟩, _, _, rfl, rfl, _, rfl, (show 2 ≤ sizeLine by decide), fun t nt => ?_⟩
        have kt : Keep K [] (L2.upd H2 T2 (.tup [.int i, .ref ad])) (L2.upd (L2.upd H2 T2 (.tup [.int i, .ref ad])) t (.tup [.int (0 - r - (D.now - s) / D.pace), .int i])) := Keep.new nt
        have hh3 := (kT.trans kt).lst hh List.not_mem_nil
        have nht : t ≠ h := fun z => by
          have h1 := kT.lst hh List.not_mem_nil
          rw [z] at nt
          rw [nt] at h1
          cases h1
        refine ⟨_, hh3, ?_, ((k2.trans kT).trans kt).set (.inl nh) hh3 nt_lst, ts ++ [t], ?_, ?_, ?_⟩
        · rw [List.length_map, lt]
          exact small1000 (by omega)
        · rw [List.length_append, lt]
          rfl
        · rw [upd_same, List.map_append]
          rfl
        · intro j t' p' h1 h2
          rcases Nat.lt_or_ge j ts.length with hj | hj
          · rw [List.getElem?_append_left hj] at h1
            have e1 := (kT.trans kt).tup (hts j t' p' h1 h2) List.not_mem_nil
            refine (upd_ne fun z => ?_).trans e1
            rw [z, hh3] at e1
            cases e1
          · rw [List.getElem?_append_right hj] at h1
            have ej : j = ts.length := by
              have := (List.getElem?_eq_some_iff.mp h1).1
              simp at this
              omega
            rw [ej, Nat.sub_self] at h1
            obtain rfl : t = t' := Option.some.inj h1
            rw [ej, lt, ep] at h2
            obtain rfl : (ad, (⟨n, r, .rdy s⟩ : Cr)) = p' := Option.some.inj h2
            refine (upd_ne nht).trans (upd_same.trans ?_)
            rw [ej, lt]
            have ev : 0 - r - (D.now - s) / D.pace = -(agedC D.pace D.now ⟨n, r, .rdy s⟩) := by
              show 0 - r - (D.now - s) / D.pace = -(r + (D.now - s) / D.pace)
              omega
            exact congrArg (fun z : Int => some (HO.tup [V.int z, V.int (i : Int)])) ev
    rintro H2 ⟨k2, ts, lt, hh, hts⟩
    have lt : ts.length = rs.length := by rw [lt, List.length_map]
    have hg2 := k2.lst hg List.not_mem_nil
    have kAt : ∀ (j : Nat) (t : Addr), ts[j]? = some t → ∃ p, rs[j]? = some p ∧ kOf H2 (.ref t) = (-(agedC D.pace D.now p.2), (j : Int)) ∧ H2 t = some (.tup [.int (-(agedC D.pace D.now p.2)), .int (j : Int)]) := fun j t ht => by
      have hj := (List.getElem?_eq_some_iff.mp ht).1
      obtain ⟨p, hp'⟩ : ∃ p, rs[j]? = some p := ⟨_, List.getElem?_eq_getElem (by omega)⟩
      have h1 := hts j t p ht hp'
      exact ⟨p, hp', kOf_at h1, h1⟩
    refine ⟨_, rfl, h, ts.map V.ref, kOf H2, rfl, .inl (.inl hh), fun y hy => ?_, fun p zs o1 o2 np => ?_⟩
    · obtain ⟨t, ht, rfl⟩ := List.mem_map.mp hy
      obtain ⟨j, hj⟩ := List.getElem?_of_mem ht
      obtain ⟨p, _, e1, e2⟩ := kAt j t hj
      exact ⟨t, rfl, by rw [e1]; exact e2⟩
    have ePerm : (ts.map V.ref).map (kOf H2) = (enI 0 rs).map (keyP fun p : Addr × Cr => agedC D.pace D.now p.2) := by
      refine List.ext_getElem? fun j => ?_
      rw [List.map_map, List.getElem?_map, List.getElem?_map]
      cases et : ts[j]? with
      | none =>
        have h1 := List.getElem?_eq_none_iff.mp et
        rw [List.getElem?_eq_none_iff.mpr (by rw [enI_len]; omega)]
        rfl
      | some t =>
        obtain ⟨p, e0, e1, _⟩ := kAt j t et
        rw [show (enI (0 : Int) rs)[j]? = _ from enI_get (n := 0) e0]
        show some (kOf H2 (.ref t)) = some (-(agedC D.pace D.now p.2), ((0 + j : Nat) : Int))
        rw [e1, Nat.zero_add]
    have eZ := lex_uniq (f := fun p : Addr × Cr => agedC D.pace D.now p.2) (l := rs) (SrtO.srtd_map (lt := SrtO.lexB) (f := kOf H2) o1) (by rw [← ePerm]; exact o2.perm.map (kOf H2))
    have eN : D.readyL = (ordBy (fun p : (Addr × Cr) × Int => agedC D.pace D.now p.1.2) (enI 0 rs)).map fun q => q.1.2.name := by
      have h1 := ord_map (fun p : Addr × Cr => agedC D.pace D.now p.2) (fun q : (Addr × Cr) × Int => q.1) (enI 0 rs)
      rw [enI_fst] at h1
      have h2 := ord_map (agedC D.pace D.now) (fun p : Addr × Cr => p.2) rs
      rw [eR, ← h1, List.map_map] at h2
      unfold Dk.readyL
      rw [← h2, List.map_map]
      rfl
    have lz : zs.length = rs.length := by rw [o2.perm.length_eq, List.length_map, lt]
    have lN : D.readyL.length = rs.length := by rw [eN, List.length_map, ord_len, enI_len]
    have kp : Keep K [] H2 (L2.upd H2 p (.lst zs)) := Keep.new np
    have hp3 : (L2.upd H2 p (.lst zs)) p = some (.lst zs) := upd_same
    generalize L2.upd H2 p (.lst zs) = H3 at kp hp3
    refine ⟨p, rfl, ⟨_, .inl (.inl hp3)⟩, fun b nb => ?_⟩
    refine lc_it (walk_list (K := K) (xs := zs)) (Pv := fun i H' => Keep K [] H3 H' ∧ H' b = some (.lst ((D.readyL.take i).map V.str))) ⟨Keep.new nb, upd_same⟩ (fun i H' _ p => .inl (.inl (p.1.lst hp3 List.not_mem_nil))) ?_ ?_
    · rintro i v H4 H5 hi ⟨k4, hb⟩ ⟨rfl, hv⟩
      have hm := o2.perm.mem_iff.mp (List.mem_of_getElem? hv)
      obtain ⟨t, ht, rfl⟩ := List.mem_map.mp hm
      obtain ⟨j, hj⟩ := List.getElem?_of_mem ht
      obtain ⟨q1, e0, e1, e2⟩ := kAt j t hj
      have ez2 := congrArg (fun l => l[i]?) eZ
      have ez2 : (zs.map (kOf H2))[i]? = ((ordBy (fun p : (Addr × Cr) × Int => agedC D.pace D.now p.1.2) (enI 0 rs)).map (keyP fun p : Addr × Cr => agedC D.pace D.now p.2))[i]? := ez2
      rw [List.getElem?_map, List.getElem?_map, hv] at ez2
      cases eo : (ordBy (fun p : (Addr × Cr) × Int => agedC D.pace D.now p.1.2) (enI 0 rs))[i]? with
      | none =>
        rw [eo] at ez2
        cases ez2
      | some o =>
        rw [eo] at ez2
        have ez3 : kOf H2 (.ref t) = (-(agedC D.pace D.now o.1.2), o.2) := Option.some.inj ez2
        rw [e1] at ez3
        have ej : (j : Int) = o.2 := congrArg Prod.snd ez3
        obtain ⟨j0, f1, f2⟩ := enI_at (n := 0) (show o ∈ enI ((0 : Nat) : Int) rs from (ord_mem _).mp (List.mem_of_getElem? eo))
        have ej0 : j0 = j := by omega
        rw [ej0, e0] at f2
        have eo1 : q1 = o.1 := Option.some.inj f2
        have er : D.readyL[i]? = some q1.2.name := by
          rw [eN, List.getElem?_map, eo, eo1]
          rfl
        have k34 := kp.trans k4
        have ht4 := k34.tup e2 List.not_mem_nil
        have hg4 := k34.lst hg2 List.not_mem_nil
        have hr4 : H5 q1.1 = some (.tup (rowV q1.2)) := k34.tup (k2.tup (hrow q1 (List.mem_of_getElem? e0)) List.not_mem_nil) List.not_mem_nil
        refine ⟨rfl, ?_⟩
        refine ⟨_, rfl, _, rfl, t, _, _, .int (j : Int), rfl, rfl, .inl (.inl ht4), rfl, g, _, _, .ref q1.1, rfl, rfl, .inl (.inl hg4), atI_nat (by rw [List.getElem?_map, e0]; rfl), q1.1, _, _, .str q1.2.name, rfl, rfl, .inl (.inl hr4), rfl, _, hb, ?_, k4.set (.inl nb) hb nt_lst, ?_⟩
        · rw [List.length_map, List.length_take]
          exact small1000 (by omega)
        · rw [upd_same, List.take_add_one, er, List.map_append]
          rfl
    rintro H4 ⟨k4, hb⟩
    rw [lz, ← lN, List.take_of_length_le (Nat.le_refl _)] at hb
    exact q b H4 (((k1.trans k2).trans kp).trans k4) hb
def sp_llists (K : PySem.W.Frag) : Sp := fun vs H Q _ => ∃ (d a : Addr) (S : List Addr) (D : Dk), vs = [.ref d, .ref a, .int D.now, .int D.pace] ∧ DkAt K H S d D ∧ Sound D ∧ LnAt H a D.line ∧ LamOk K H ∧ ∀ H', Keep K [] H H' → Q (.bl true) H'
theorem c__law_lists (T : Tx K mg base) : Cal P w K mg base 6 "_law_lists" (sp_llists K) := by
  have c__law_texts : Cal P w K mg base 1 "_law_texts" (sp_texts K) := c__law_texts T
  have c__law_order : Cal P w K mg base 1 "_law_order" (sp_lorder K) := c__law_order T
  have c_Desk_names : Met P w K mg base 1 (He.ga K "Desk") "names" (sp_names K) := c_Desk_names T
  have c_Desk_ready : Met P w K mg base 5 (He.ga K "Desk") "ready" (sp_ready K) := c_Desk_ready T
  obtain ⟨fd, F⟩ := T.d__law_lists
  refine ⟨_, fd, ["_law_desk", "_law_line", "_law_now", "_law_pace"], okF (k := 5) F sc__law_lists (fun vs H Q E h => ?_) (fun A outer s H vs Q E hr h => ?_), T.r__law_lists, F.kp, F.bindsN fun _ _ _ _ _ _ us hl => match us, hl with | [_, _, _, _], _ => rfl⟩
  · obtain ⟨d, a, S, D, rfl, _⟩ := h
    rfl
  · have nd := sc__law_lists.nd
    obtain ⟨d, a, S, D, rfl, hD, sD, hL, hLam, q⟩ := h
    obtain ⟨L, ln, eS, x⟩ := id hD
    obtain ⟨dx, hd⟩ := id x.desk
    obtain ⟨ps, el, ha, hps⟩ := id hL
    have l60 := sD.len60
    have elen : D.line.length = ps.length := by rw [el, List.length_map]
    have lnm : (namesL D.line).length = D.line.length := List.length_map ..
    refine ⟨_, (pss_cons (ps_set (i := 4) nd rfl (Or.inl rfl) (pm0 c_Desk_names hr (by decide) p0 (pv 0)))
  (pss_cons (ps_set (i := 5) nd rfl (Or.inl rfl) (pm0 c_Desk_ready hr (by decide) p0 (pv 0)))
  (pss_cons (ps_if (PW.pt (pw_or (pt_not (pt_val (pf c__law_texts hr (by decide) (by rfl) p0 (pa_cons (pv 4) (pa_cons (pe_lc (own := [("_law_one", 6)]) (g := gName 6) (tt := tYes) rfl nd (pi_listK (K := K) rfl (pv 1)) (blkOk_by (N := N__law_lists) (sc := defScope s__law_lists) (by decide +kernel)) (fun _ _ _ _ _ => (pg_name (i := 6) nd rfl (Or.inl rfl))) (fun _ _ _ _ _ => pts_nil) (fun _ _ _ _ _ => (pe_ix (ix_tupK (K := K) rfl) (pv 6) pe_int (fun _ _ => rfl)))) pa_nil))))) (pw_or1 (pt_not (pt_val (pf c__law_texts hr (by decide) (by rfl) p0 (pa_cons (pv 5) (pa_cons (pf c__law_order hr (by decide) (by rfl) p0 (pa_cons (pv 1) (pa_cons (pv 2) (pa_cons (pv 3) pa_nil)))) pa_nil))))))))
  (pss_one (ps_ret pe_bl))
  pss_nil)
  (pss_cons (ps_expr (pe_bm0 PySem.F.plainAttrs_list PySem.F.slot_list_clear PySem.F.type_list_clear mt_clear (pv 4)))
  (pss_cons (ps_expr (pe_bm0 PySem.F.plainAttrs_list PySem.F.slot_list_clear PySem.F.type_list_clear mt_clear (pv 5)))
  (pss_one (ps_ret (pf c__law_texts hr (by decide) (by rfl) p0 (pa_cons (pm0 c_Desk_names hr (by decide) p0 (pv 0)) (pa_cons (pe_lc (own := [("_law_one", 6)]) (g := gName 6) (tt := tYes) rfl nd (pi_listK (K := K) rfl (pv 1)) (blkOk_by (N := N__law_lists) (sc := defScope s__law_lists) (by decide +kernel)) (fun _ _ _ _ _ => (pg_name (i := 6) nd rfl (Or.inl rfl))) (fun _ _ _ _ _ => pts_nil) (fun _ _ _ _ _ => (pe_ix (ix_tupK (K := K) rfl) (pv 6) pe_int (fun _ _ => rfl)))) pa_nil)))))))))), ?_⟩
    refine ⟨_, rfl, d, dx, _, rfl, hd, rfl, d, S, D, rfl, hD, fun p np => ?_⟩
    have k1 : Keep K [] H (L2.upd H p (.lst ((namesL D.line).map V.str))) := Keep.new np
    have hp1 : (L2.upd H p (.lst ((namesL D.line).map V.str))) p = some (.lst ((namesL D.line).map V.str)) := upd_same
    generalize L2.upd H p (.lst ((namesL D.line).map V.str)) = H1 at k1 hp1 ⊢
    have hD1 := hD.keep0 k1
    obtain ⟨L1, ln1, eS1, x1⟩ := id hD1
    obtain ⟨dx1, hd1⟩ := id x1.desk
    refine ⟨_, rfl, d, dx1, _, rfl, hd1, rfl, d, S, D, rfl, hD1, k1.lam hLam, fun r H2 k2 nr hr' => ?_⟩
    have k02 := k1.trans k2
    have hL2 := hL.keep0 k02
    have hp2 := k2.lst hp1 List.not_mem_nil
    have ha2 := k02.lst ha List.not_mem_nil
    have hps2 : ∀ p ∈ ps, RowAt H2 p.1 p.2 := fun p hm => (hps p hm).keep0 k02
    refine ⟨_, rfl, _, rfl, a, rfl, ⟨_, .inl (.inl ha2)⟩, fun g ng => ?_⟩
    refine lc_it (walk_list (K := K) (xs := ps.map fun p => V.ref p.1)) (Pv := fun i H' => Keep K [] H2 H' ∧ H' g = some (.lst ((namesL ((ps.take i).map (·.2))).map V.str))) ⟨Keep.new ng, upd_same⟩ (fun i H' _ p => .inl (.inl (p.1.lst ha2 List.not_mem_nil))) ?_ ?_
    · rintro i v Hx Hy hi ⟨kx, hg⟩ ⟨rfl, hv⟩
      rw [List.getElem?_map] at hv
      cases ep : ps[i]? with
      | none =>
        rw [ep] at hv
        cases hv
      | some q1 =>
        rw [ep] at hv
        obtain rfl : V.ref q1.1 = v := Option.some.inj hv
        have ht := (hps2 q1 (List.mem_of_getElem? ep)).keep0 kx
        refine ⟨rfl, ?_⟩
        refine ⟨_, rfl, q1.1, _, _, _, rfl, rfl, .inl (.inl ht), rfl, _, hg, ?_, kx.set (.inl ng) hg nt_lst, ?_⟩
        · unfold namesL
          rw [List.length_map, List.length_map, List.length_map, List.length_take]
          exact small1000 (by omega)
        · rw [upd_same, List.take_add_one, ep]
          unfold namesL
          simp
    rintro H3 ⟨k3, hg⟩
    rw [List.length_map, List.take_of_length_le (Nat.le_refl _), ← el] at hg
    have hp3 := k3.lst hp2 List.not_mem_nil
    refine ⟨p, g, (namesL D.line).map some, rfl, txt hp3, txt hg, txl (by omega), _, rfl, iteF ?_⟩
    have hr3 := k3.lst hr' List.not_mem_nil
    have lR : D.readyL.length ≤ 1000 := by
      unfold Dk.readyL
      rw [List.length_map, ord_len]
      have := List.length_filter_le (fun c : Cr => c.st.isRdy) D.line
      show (D.line.filter fun c => c.st.isRdy).length ≤ 1000
      omega
    refine ⟨_, rfl, _, rfl, _, rfl, _, rfl, a, D, rfl, hL2.keep0 k3, sD, fun b H4 k4 hb => ?_⟩
    have hr4 := k4.lst hr3 List.not_mem_nil
    have hp4 := k4.lst hp3 List.not_mem_nil
    refine ⟨r, b, D.readyL.map some, rfl, txt hr4, txt hb, txl lR, _, rfl, iteF ?_⟩
    have k04 := (k02.trans k3).trans k4
    have hD4 := hD.keep0 k04
    have hL4 := hL.keep0 k04
    -- the lists are its own
    have nrp : r ≠ p := fun z => by
      rw [z, hp1] at nr
      cases nr
    refine ⟨_, rfl, .inl ⟨rfl, _, .inl (.inl hp4)⟩, p, _, rfl, rfl, hp4, ?_⟩
    have k5 : Keep K [p] H4 (L2.upd H4 p (.lst [])) := Keep.upd hp4 (List.mem_singleton.mpr rfl) nt_lst
    have k05 := k04.trans' k5 fun z hz => .inr (by rw [List.mem_singleton.mp hz]; exact np)
    have hr5 := k5.lst hr4 fun z => nrp (List.mem_singleton.mp z)
    generalize L2.upd H4 p (.lst []) = H5 at k5 k05 hr5 ⊢
    refine ⟨_, rfl, .inl ⟨rfl, _, .inl (.inl hr5)⟩, r, _, rfl, rfl, hr5, ?_⟩
    have k6 : Keep K [r] H5 (L2.upd H5 r (.lst [])) := Keep.upd hr5 (List.mem_singleton.mpr rfl) nt_lst
    have k06 := k05.trans' k6 fun z hz => .inr (by rw [List.mem_singleton.mp hz]; exact k1.gone _ nr)
    generalize L2.upd H5 r (.lst []) = H6 at k6 k06 ⊢
    have hD6 := hD.keep0 k06
    obtain ⟨L6, ln6, eS6, x6⟩ := id hD6
    obtain ⟨dx6, hd6⟩ := id x6.desk
    refine ⟨_, rfl, d, dx6, _, rfl, hd6, rfl, d, S, D, rfl, hD6, fun p7 np7 => ?_⟩
    have k7 : Keep K [] H6 (L2.upd H6 p7 (.lst ((namesL D.line).map V.str))) := Keep.new np7
    have hp7 : (L2.upd H6 p7 (.lst ((namesL D.line).map V.str))) p7 = some (.lst ((namesL D.line).map V.str)) := upd_same
    generalize L2.upd H6 p7 (.lst ((namesL D.line).map V.str)) = H7 at k7 hp7 ⊢
    have k07 := k06.trans k7
    have ha7 := k07.lst ha List.not_mem_nil
    have hps7 : ∀ p ∈ ps, RowAt H7 p.1 p.2 := fun p hm => (hps p hm).keep0 k07
    refine ⟨_, rfl, a, rfl, ⟨_, .inl (.inl ha7)⟩, fun g7 ng7 => ?_⟩
    refine lc_it (walk_list (K := K) (xs := ps.map fun p => V.ref p.1)) (Pv := fun i H' => Keep K [] H7 H' ∧ H' g7 = some (.lst ((namesL ((ps.take i).map (·.2))).map V.str))) ⟨Keep.new ng7, upd_same⟩ (fun i H' _ p => .inl (.inl (p.1.lst ha7 List.not_mem_nil))) ?_ ?_
    · rintro i v Hx Hy hi ⟨kx, hg⟩ ⟨rfl, hv⟩
      rw [List.getElem?_map] at hv
      cases ep : ps[i]? with
      | none =>
        rw [ep] at hv
        cases hv
      | some q1 =>
        rw [ep] at hv
        obtain rfl : V.ref q1.1 = v := Option.some.inj hv
        have ht := (hps7 q1 (List.mem_of_getElem? ep)).keep0 kx
        refine ⟨rfl, ?_⟩
        refine ⟨_, rfl, q1.1, _, _, _, rfl, rfl, .inl (.inl ht), rfl, _, hg, ?_, kx.set (.inl ng7) hg nt_lst, ?_⟩
        · unfold namesL
          rw [List.length_map, List.length_map, List.length_map, List.length_take]
          exact small1000 (by omega)
        · rw [upd_same, List.take_add_one, ep]
          unfold namesL
          simp
    rintro H8 ⟨k8, hg8⟩
    rw [List.length_map, List.take_of_length_le (Nat.le_refl _), ← el] at hg8
    exact ⟨p7, g7, (namesL D.line).map some, rfl, txt (k8.lst hp7 List.not_mem_nil), txt hg8, txl (by omega), q H8 (k07.trans k8)⟩
def sp_lstands (K : PySem.W.Frag) : Sp := fun vs H Q _ => ∃ (d a : Addr) (S : List Addr) (D : Dk) (c : Int), vs = [.ref d, .ref a, .int D.now, .int D.pace, .int c] ∧ DkAt K H S d D ∧ Sound D ∧ LnAt H a D.line ∧ LamOk K H ∧ ∀ H', Keep K [] H H' → Q (.bl true) H'
theorem c__law_stands (T : Tx K mg base) : Cal P w K mg base 7 "_law_stands" (sp_lstands K) := by
  have c__law_mix : Cal P w K mg base 1 "_law_mix" sp_mix := c__law_mix T
  have c__law_whole : Cal P w K mg base 1 "_law_whole" sp_whole := c__law_whole T
  have c__law_texts : Cal P w K mg base 1 "_law_texts" (sp_texts K) := c__law_texts T
  have c__law_lists : Cal P w K mg base 6 "_law_lists" (sp_llists K) := c__law_lists T
  have c__law_ahead : Cal P w K mg base 3 "_law_ahead" (sp_ahead K) := c__law_ahead T
  have c_Desk_foretold : Met P w K mg base 6 (He.ga K "Desk") "foretold" (sp_foretold K) := c_Desk_foretold T
  have c_Desk_rank : Met P w K mg base 2 (He.ga K "Desk") "rank" (sp_rank K) := c_Desk_rank T
  have c_Desk_left : Met P w K mg base 2 (He.ga K "Desk") "left" (sp_left K) := c_Desk_left T
  have c_Desk_bell : Met P w K mg base 2 (He.ga K "Desk") "bell" (sp_bell K) := c_Desk_bell T
  have c_Desk_state : Met P w K mg base 2 (He.ga K "Desk") "state" (sp_state K) := c_Desk_state T
  have c_Desk_waited : Met P w K mg base 2 (He.ga K "Desk") "waited" (sp_waited K) := c_Desk_waited T
  obtain ⟨fd, F⟩ := T.d__law_stands
  refine ⟨_, fd, ["_law_desk", "_law_line", "_law_now", "_law_pace", "_law_cell"], okF (k := 6) F sc__law_stands (fun vs H Q E h => ?_) (fun A outer s H vs Q E hr h => ?_), T.r__law_stands, F.kp, F.bindsN fun _ _ _ _ _ _ us hl => match us, hl with | [_, _, _, _, _], _ => rfl⟩
  · obtain ⟨d, a, S, D, c, rfl, _⟩ := h
    rfl
  · have nd := sc__law_stands.nd
    obtain ⟨d, a, S, D, c, rfl, hD, sD, hL, hLam, q⟩ := h
    refine ⟨_, (pss_cons (ps_if (PW.pt (pw_or (pt_not (pt_val (pf c__law_lists hr (by decide) (by rfl) p0 (pa_cons (pv 0) (pa_cons (pv 1) (pa_cons (pv 2) (pa_cons (pv 3) pa_nil))))))) (pw_or (pt_not (pt_val (pf c__law_whole hr (by decide) (by rfl) p0 (pa_cons (pe_fld (pv 0) rfl) pa_nil)))) (pw_or1 (pt_cmpR op_ne (pe_fld (pv 0) rfl) (pv 2) (nomark _))))))
  (pss_one (ps_ret pe_bl))
  pss_nil)
  (pss_cons (ps_if (pt_not (pt_val (pf c__law_texts hr (by decide) (by rfl) p0 (pa_cons (pm c_Desk_foretold hr (by decide) (pU (L2N.takes_of rfl rfl rfl rfl)) (pv 0) (pa_cons pe_int pa_nil)) (pa_cons (pe_ix ix_tup (pf c__law_ahead hr (by decide) (by rfl) p0 (pa_cons (pv 1) (pa_cons (pv 2) (pa_cons (pv 3) (pa_cons pe_int pa_nil))))) pe_int (fun _ _ => rfl)) pa_nil)))))
  (pss_one (ps_ret pe_bl))
  pss_nil)
  (pss_cons (ps_if (pt_cmpR (op_eqD hr.units) (pv 1) (pe_lst pa_nil) (nomark _))
  (pss_one (ps_ret pe_bl))
  pss_nil)
  (pss_cons (ps_set (i := 5) nd rfl (Or.inl rfl) (pe_ix ix_list (pv 1) (pf c__law_mix hr (by decide) (by rfl) p0 (pa_cons (pv 4) (pa_cons pe_int (pa_cons (pe_callB call_len_seq (by rfl) T.m_len boot_len (pa_cons (pv 1) pa_nil)) pa_nil)))) (fun _ _ => rfl)))
  (pss_cons (ps_if (PW.pt (pw_or (pt_cmpR op_ne (pm c_Desk_state hr (by decide) (pU (L2N.takes_of rfl rfl rfl rfl)) (pv 0) (pa_cons (pe_ix ix_tup (pv 5) pe_int (fun _ _ => rfl)) pa_nil)) (pe_ix ix_tup (pv 5) pe_int (fun _ _ => rfl)) (nomark _)) (pw_or (pt_not (pt_val (pf c__law_whole hr (by decide) (by rfl) p0 (pa_cons (pm c_Desk_rank hr (by decide) (pU (L2N.takes_of rfl rfl rfl rfl)) (pv 0) (pa_cons (pe_ix ix_tup (pv 5) pe_int (fun _ _ => rfl)) pa_nil)) pa_nil)))) (pw_or1 (pt_cmpR op_ne (pm c_Desk_rank hr (by decide) (pU (L2N.takes_of rfl rfl rfl rfl)) (pv 0) (pa_cons (pe_ix ix_tup (pv 5) pe_int (fun _ _ => rfl)) pa_nil)) (pe_ix ix_tup (pv 5) pe_int (fun _ _ => rfl)) (nomark _))))))
  (pss_one (ps_ret pe_bl))
  pss_nil)
  (pss_cons (ps_if (pt_cmpR op_eq (pe_ix ix_tup (pv 5) pe_int (fun _ _ => rfl)) pe_str (nomark _))
  (pss_one (ps_ret (pe_and (pe_cmpR op_eq (pm c_Desk_waited hr (by decide) (pU (L2N.takes_of rfl rfl rfl rfl)) (pv 0) (pa_cons (pe_ix ix_tup (pv 5) pe_int (fun _ _ => rfl)) pa_nil)) (pe_op op_sub (pv 2) (pe_ix ix_tup (pv 5) pe_int (fun _ _ => rfl))) (nomark _)) (pe_and (pe_cmpR op_isN (pm c_Desk_left hr (by decide) (pU (L2N.takes_of rfl rfl rfl rfl)) (pv 0) (pa_cons (pe_ix ix_tup (pv 5) pe_int (fun _ _ => rfl)) pa_nil)) pe_non (nomark _)) (pe_one (pe_cmpR op_isN (pm c_Desk_bell hr (by decide) (pU (L2N.takes_of rfl rfl rfl rfl)) (pv 0) (pa_cons (pe_ix ix_tup (pv 5) pe_int (fun _ _ => rfl)) pa_nil)) pe_non (nomark _)))))))
  pss_nil)
  (pss_cons (ps_if (pt_cmpR op_eq (pe_ix ix_tup (pv 5) pe_int (fun _ _ => rfl)) pe_str (nomark _))
  (pss_one (ps_ret (pe_and (pe_cmpR op_eq (pm c_Desk_left hr (by decide) (pU (L2N.takes_of rfl rfl rfl rfl)) (pv 0) (pa_cons (pe_ix ix_tup (pv 5) pe_int (fun _ _ => rfl)) pa_nil)) (pe_op op_sub (pe_ix ix_tup (pv 5) pe_int (fun _ _ => rfl)) (pv 2)) (nomark _)) (pe_one (pe_cmpR op_isN (pm c_Desk_bell hr (by decide) (pU (L2N.takes_of rfl rfl rfl rfl)) (pv 0) (pa_cons (pe_ix ix_tup (pv 5) pe_int (fun _ _ => rfl)) pa_nil)) pe_non (nomark _))))))
  pss_nil)
  (pss_one (ps_ret (pe_and (pe_cmpR op_eq (pm c_Desk_bell hr (by decide) (pU (L2N.takes_of rfl rfl rfl rfl)) (pv 0) (pa_cons (pe_ix ix_tup (pv 5) pe_int (fun _ _ => rfl)) pa_nil)) (pe_ix ix_tup (pv 5) pe_int (fun _ _ => rfl)) (nomark _)) (pe_one (pe_cmpR op_isN (pm c_Desk_left hr (by decide) (pU (L2N.takes_of rfl rfl rfl rfl)) (pv 0) (pa_cons (pe_ix ix_tup (pv 5) pe_int (fun _ _ => rfl)) pa_nil)) pe_non (nomark _))))))))))))), ?_⟩
    refine ⟨_, rfl, _, rfl, _, rfl, _, rfl, d, a, S, D, rfl, hD, sD, hL, hLam, fun H1 k1 => ⟨_, rfl, iteF ?_⟩⟩
    have hD1 := hD.keep0 k1
    have hL1 := hL.keep0 k1
    obtain ⟨L1, ln1, eS1, x1⟩ := id hD1
    obtain ⟨dx1, hd1⟩ := id x1.desk
    refine ⟨_, rfl, d, _, _, _, _, rfl, hd1, T.cl_Desk, T.na_Desk_now, rfl, D.now, rfl, _, rfl, iteF ?_⟩
    refine ⟨_, rfl, d, _, _, _, _, rfl, hd1, T.cl_Desk, T.na_Desk_now, rfl, _, rfl, rfl, _, rfl, iteE ?_⟩
    refine ⟨_, rfl, d, dx1, _, rfl, hd1, rfl, d, S, D, 2, rfl, ⟨by decide, by decide⟩, hD1, fun z => absurd (by decide) z, fun _ f H2 nf k2 hf => ?_⟩
    have hf : H2 f = some (.lst (D.told 2)) := hf
    refine ⟨_, rfl, _, rfl, _, rfl, a, D, 2, rfl, hL1.keep0 k2, sD, by decide, fun t u b H3 k3 ht hu hb => ?_⟩
    have hu : H3 u = some (.lst (D.told 2)) := hu
    refine ⟨t, _, _, .ref u, rfl, rfl, .inl (.inl ht), rfl, ?_⟩
    have hf3 := k3.lst hf List.not_mem_nil
    rw [toldO_V] at hf3 hu
    refine ⟨f, u, _, rfl, hf3, hu, by rw [toldO_len]; decide, _, rfl, iteF ?_⟩
    have k03 := (k1.trans k2).trans k3
    have hD3 := hD.keep0 k03
    have hL3 := hL.keep0 k03
    refine ⟨_, rfl, (show 0 ≤ sizeLine by decide), fun e ne => ?_⟩
    have ke : Keep K [] H3 (L2.upd H3 e (.lst [])) := Keep.new ne
    refine ⟨_, _, (hL3.keep0 ke).dp, .lst (.inl (.inl upd_same)) .nil, rows_shaped (now := D.now) (fun c hc => ⟨sD.ok c hc, sD.st c hc⟩), rfl, ?_⟩
    rw [eqv_empty]
    have k04 := k03.trans ke
    have hD4 := hD.keep0 k04
    have hL4 := hL.keep0 k04
    generalize L2.upd H3 e (.lst []) = H4 at k04 hD4 hL4 ⊢
    refine ⟨_, rfl, ?_⟩
    by_cases eL : D.line = []
    · exact iteD eL (q H4 k04)
    refine iteDn eL ?_
    obtain ⟨ps, el, ha, hps⟩ := id hL4
    have elen : D.line.length = ps.length := by rw [el, List.length_map]
    have lpos : 0 < (ps.length : Int) := by
      have : D.line.length ≠ 0 := fun z => eL (List.length_eq_zero_iff.mp z)
      omega
    have hm := mix_nn (c := c) (p := 10177) lpos
    obtain ⟨q1, hq1, eat⟩ := ps_at hm.1 hm.2
    obtain ⟨L4, ln4, eS4, x4⟩ := id hD4
    obtain ⟨dx, hd⟩ := id x4.desk
    refine ⟨_, rfl, _, rfl, _, rfl, a, _, rfl, .inl (.inl (.inl ha)), c, 10177, _, rfl, by decide, by rw [List.length_map]; exact lpos, ?_⟩
    rw [List.length_map]
    refine ⟨a, _, _, .ref q1.1, rfl, rfl, .inl (.inl ha), eat, ?_⟩
    have ht := hps q1 hq1
    have hc : q1.2 ∈ D.line := by rw [el]; exact List.mem_map_of_mem hq1
    obtain ⟨t1, cc⟩ := q1
    refine ⟨_, rfl, d, dx, _, rfl, hd, rfl, _, rfl, t1, _, _, _, rfl, rfl, .inl (.inl ht), rfl, d, S, D, cc.name, rfl, byN sD hD4 hc ⟨_, rfl, t1, _, _, _, rfl, rfl, .inl (.inl ht), rfl, rfl, _, rfl, iteE ?_⟩⟩
    refine ⟨_, rfl, d, dx, _, rfl, hd, rfl, _, rfl, t1, _, _, _, rfl, rfl, .inl (.inl ht), rfl, d, S, D, cc.name, rfl, byN sD hD4 hc ⟨cc.rank, rfl, _, rfl, iteF ?_⟩⟩
    refine ⟨_, rfl, d, dx, _, rfl, hd, rfl, _, rfl, t1, _, _, _, rfl, rfl, .inl (.inl ht), rfl, d, S, D, cc.name, rfl, byN sD hD4 hc ⟨_, rfl, t1, _, _, _, rfl, rfl, .inl (.inl ht), rfl, rfl, _, rfl, iteE ?_⟩⟩
    refine ⟨_, rfl, t1, _, _, _, rfl, rfl, .inl (.inl ht), rfl, rfl, _, rfl, ?_⟩
    rw [word_rdy]
    obtain ⟨n, r, st⟩ := cc
    cases st with
    | rdy s =>
      refine iteT ⟨_, rfl, d, dx, _, rfl, hd, rfl, _, rfl, t1, _, _, _, rfl, rfl, .inl (.inl ht), rfl, d, S, D, n, rfl, byN (c := ⟨n, r, .rdy s⟩) sD hD4 hc ⟨fun z => (nomatch z), fun _ => ?_⟩⟩
      refine ⟨_, rfl, _, rfl, t1, _, _, _, rfl, rfl, .inl (.inl ht), rfl, _, _, rfl, rfl, rfl, _, rfl, iteD rfl ?_⟩
      refine ⟨_, rfl, d, dx, _, rfl, hd, rfl, _, rfl, t1, _, _, _, rfl, rfl, .inl (.inl ht), rfl, d, S, D, n, rfl, byN (c := ⟨n, r, .rdy s⟩) sD hD4 hc ⟨rfl, _, rfl, iteD rfl ?_⟩⟩
      exact ⟨_, rfl, d, dx, _, rfl, hd, rfl, _, rfl, t1, _, _, _, rfl, rfl, .inl (.inl ht), rfl, d, S, D, n, rfl, byN (c := ⟨n, r, .rdy s⟩) sD hD4 hc ⟨rfl, q H4 k04⟩⟩
    | slp u =>
      refine iteF ⟨_, rfl, t1, _, _, _, rfl, rfl, .inl (.inl ht), rfl, rfl, _, rfl, iteT ?_⟩
      refine ⟨_, rfl, d, dx, _, rfl, hd, rfl, _, rfl, t1, _, _, _, rfl, rfl, .inl (.inl ht), rfl, d, S, D, n, rfl, byN (c := ⟨n, r, .slp u⟩) sD hD4 hc ?_⟩
      refine ⟨_, rfl, t1, _, _, _, rfl, rfl, .inl (.inl ht), rfl, _, rfl, _, _, rfl, rfl, rfl, _, rfl, iteD rfl ?_⟩
      exact ⟨_, rfl, d, dx, _, rfl, hd, rfl, _, rfl, t1, _, _, _, rfl, rfl, .inl (.inl ht), rfl, d, S, D, n, rfl, byN (c := ⟨n, r, .slp u⟩) sD hD4 hc ⟨rfl, q H4 k04⟩⟩
    | wtg b =>
      refine iteF ⟨_, rfl, t1, _, _, _, rfl, rfl, .inl (.inl ht), rfl, rfl, _, rfl, iteF ?_⟩
      refine ⟨_, rfl, d, dx, _, rfl, hd, rfl, _, rfl, t1, _, _, _, rfl, rfl, .inl (.inl ht), rfl, d, S, D, n, rfl, byN (c := ⟨n, r, .wtg b⟩) sD hD4 hc ⟨_, rfl, t1, _, _, _, rfl, rfl, .inl (.inl ht), rfl, rfl, _, rfl, iteD rfl ?_⟩⟩
      exact ⟨_, rfl, d, dx, _, rfl, hd, rfl, _, rfl, t1, _, _, _, rfl, rfl, .inl (.inl ht), rfl, d, S, D, n, rfl, byN (c := ⟨n, r, .wtg b⟩) sD hD4 hc ⟨rfl, q H4 k04⟩⟩
def dueR : Int → Str
  | 0 => "known"
  | 1 => "full"
  | 2 => "span"
  | 3 => "awake"
  | 4 => "name"
  | 5 => "awake"
  | 6 => "ready"
  | 7 => "ready"
  | 8 => "rank"
  | 9 => "name"
  | _ => "span"
def sp_refused (K : PySem.W.Frag) : Sp := fun vs H Q _ => ∃ (d t : Addr) (S : List Addr) (D : Dk) (c : Cr) (y : Int), vs = [.ref d, .ref t, .int y] ∧ DkAt K H S d D ∧ Sound D ∧ RowAt H t c ∧ c ∈ D.line ∧ TabG H (tabN K) ∧ ZZ ∉ namesL D.line ∧ (0 ≤ y ∧ y < 12) ∧ (y = 1 → D.room ≤ D.line.length) ∧ (y = 3 ∨ y = 5 → c.st.isRdy = false) ∧ (y = 6 ∨ y = 7 → c.st.isRdy = true) ∧ ∀ H', Keep K [] H H' → Q (.str (dueR y)) H'
theorem c__law_refused (T : Tx K mg base) : Cal P w K mg base 7 "_law_refused" (sp_refused K) := by
  have c__law_word : CalP P w K mg base 1 "_law_word" (sp_word K) := c__law_word T
  have c_Desk_enter : Met P w K mg base 3 (He.ga K "Desk") "enter" (sp_enter K) := c_Desk_enter T
  have c_Desk_sleep : Met P w K mg base 2 (He.ga K "Desk") "sleep" (sp_sleep K) := c_Desk_sleep T
  have c_Desk_wait : Met P w K mg base 3 (He.ga K "Desk") "wait" (sp_wait K) := c_Desk_wait T
  have c_Desk_wake : Met P w K mg base 3 (He.ga K "Desk") "wake" (sp_wake K) := c_Desk_wake T
  have c_Desk_rerank : Met P w K mg base 2 (He.ga K "Desk") "rerank" (sp_rerank K) := c_Desk_rerank T
  have c_Desk_ring : Met P w K mg base 3 (He.ga K "Desk") "ring" (sp_ring K) := c_Desk_ring T
  have c_Desk_run : Met P w K mg base 5 (He.ga K "Desk") "run" (sp_run K) := c_Desk_run T
  have c_Desk_foretold : Met P w K mg base 6 (He.ga K "Desk") "foretold" (sp_foretold K) := c_Desk_foretold T
  obtain ⟨fd, F⟩ := T.d__law_refused
  refine ⟨_, fd, ["_law_desk", "_law_one", "_law_way"], okF (k := 6) F sc__law_refused (fun vs H Q E h => ?_) (fun A outer s H vs Q E hr h => ?_), T.r__law_refused, F.kp, F.bindsN fun _ _ _ _ _ _ us hl => match us, hl with | [_, _, _], _ => rfl⟩
  · obtain ⟨d, t, S, D, c, y, rfl, _⟩ := h
    rfl
  · have nd := sc__law_refused.nd
    obtain ⟨d, t, S, D, c, y, rfl, hD, sD, ht, hc, hT, hz, hy, y1, y3, y6, q⟩ := h
    obtain ⟨L, ln, eS, x⟩ := id hD
    obtain ⟨dx, hd⟩ := id x.desk
    refine ⟨_, (pss_cut (L2N.ps_try_as (i := 3) rfl rfl nd rfl rfl ⟨rfl, by decide, .inl T.r_DeskError⟩ (L2N.takes_of rfl rfl rfl rfl) (fun W pn xe tk hp => (pss_one (ps_if (pt_cmpR op_eq (pv 2) pe_int (nomark _))
  (pss_one (ps_expr (pm c_Desk_enter hr (by decide) (L2N.passAt tk) (pv 0) (pa_cons (pe_ix (ix_tupK (K := K) rfl) (pv 1) pe_int (fun _ _ => rfl)) (pa_cons pe_int pa_nil)))))
  (pss_one (ps_if (pt_cmpR op_eq (pv 2) pe_int (nomark _))
  (pss_one (ps_expr (pm c_Desk_enter hr (by decide) (L2N.passAt tk) (pv 0) (pa_cons (pe_op op_mul_str pe_str pe_int) (pa_cons pe_int pa_nil)))))
  (pss_one (ps_if (pt_cmpR op_eq (pv 2) pe_int (nomark _))
  (pss_one (ps_expr (pm c_Desk_sleep hr (by decide) (L2N.passAt tk) (pv 0) (pa_cons (pe_ix (ix_tupK (K := K) rfl) (pv 1) pe_int (fun _ _ => rfl)) (pa_cons pe_int pa_nil)))))
  (pss_one (ps_if (pt_cmpR op_eq (pv 2) pe_int (nomark _))
  (pss_one (ps_expr (pm c_Desk_sleep hr (by decide) (L2N.passAt tk) (pv 0) (pa_cons (pe_ix (ix_tupK (K := K) rfl) (pv 1) pe_int (fun _ _ => rfl)) (pa_cons pe_int pa_nil)))))
  (pss_one (ps_if (pt_cmpR op_eq (pv 2) pe_int (nomark _))
  (pss_one (ps_expr (pm c_Desk_wait hr (by decide) (L2N.passAt tk) (pv 0) (pa_cons (pe_ix (ix_tupK (K := K) rfl) (pv 1) pe_int (fun _ _ => rfl)) (pa_cons (pe_ix (ix_listK (K := K) rfl) (pe_lst (pa_cons pe_str (pa_cons (pe_op op_mul_str pe_str pe_int) (pa_cons pe_str pa_nil)))) (pe_op op_mod (pe_callB call_len_str (by rfl) T.m_len boot_len (pa_cons (pe_ix (ix_tupK (K := K) rfl) (pv 1) pe_int (fun _ _ => rfl)) pa_nil)) pe_int) (fun _ _ => rfl)) pa_nil)))))
  (pss_one (ps_if (pt_cmpR op_eq (pv 2) pe_int (nomark _))
  (pss_one (ps_expr (pm c_Desk_wait hr (by decide) (L2N.passAt tk) (pv 0) (pa_cons (pe_ix (ix_tupK (K := K) rfl) (pv 1) pe_int (fun _ _ => rfl)) (pa_cons pe_str pa_nil)))))
  (pss_one (ps_if (pt_cmpR op_eq (pv 2) pe_int (nomark _))
  (pss_one (ps_expr (pm c_Desk_wake hr (by decide) (L2N.passAt tk) (pv 0) (pa_cons (pe_ix (ix_tupK (K := K) rfl) (pv 1) pe_int (fun _ _ => rfl)) pa_nil))))
  (pss_one (ps_if (pt_cmpR op_eq (pv 2) pe_int (nomark _))
  (pss_one (ps_expr (pm c_Desk_rerank hr (by decide) (L2N.passAt tk) (pv 0) (pa_cons (pe_ix (ix_tupK (K := K) rfl) (pv 1) pe_int (fun _ _ => rfl)) (pa_cons pe_int pa_nil)))))
  (pss_one (ps_if (pt_cmpR op_eq (pv 2) pe_int (nomark _))
  (pss_one (ps_expr (pm c_Desk_rerank hr (by decide) (L2N.passAt tk) (pv 0) (pa_cons (pe_ix (ix_tupK (K := K) rfl) (pv 1) pe_int (fun _ _ => rfl)) (pa_cons pe_int pa_nil)))))
  (pss_one (ps_if (pt_cmpR op_eq (pv 2) pe_int (nomark _))
  (pss_one (ps_expr (pm c_Desk_ring hr (by decide) (L2N.passAt tk) (pv 0) (pa_cons pe_str pa_nil))))
  (pss_one (ps_if (pt_cmpR op_eq (pv 2) pe_int (nomark _))
  (pss_one (ps_expr (pm c_Desk_run hr (by decide) (L2N.passAt tk) (pv 0) (pa_cons pe_int pa_nil))))
  (pss_one (ps_expr (pm c_Desk_foretold hr (by decide) (L2N.passAt tk) (pv 0) (pa_cons (pe_op op_sub pe_int pe_int) pa_nil)))))))))))))))))))))))))))
  (fun a oe cls d pn hz hf => (pss_one (ps_ret (pfS c__law_word hr (by decide) hz hf (by rfl) (pa_cons (pv 3) pa_nil))))))
  (pss_one (ps_ret pe_str))), ?_⟩
    refine ⟨fun σ' H' => Q (.str "") H', ?_, fun σ' H' h => h⟩
    have eq : ∀ {n : Int}, decide (V.int y = V.int n) = true → y = n := fun e => V.int.inj (of_decide_eq_true e)
    have nm : isName c.name = true := sD.ok c hc
    have sm := isName_small nm
    have pr := sD.pr.2
    have mem := name_in hc
    have ms : ∀ {q : Cr → Prop}, q c → ∀ c' ∈ D.line, c'.name = c.name → q c' := fun {q} h c' hc' e => by rw [name_one sD.nm hc' hc e]; exact h
    have zzn : isName ZZ = true := by decide +kernel
    have bn : isName "bell" = true := by decide +kernel
    have nA : ¬ isName "A" = true := by decide +kernel
    have smA : Small "A" := ⟨by decide +kernel, by decide +kernel⟩
    refine ⟨_, rfl, rfl, _, rfl, ite2 (fun e => ?_) (fun n0 => ⟨_, rfl, rfl, _, rfl, ite2 (fun e => ?_) (fun n1 => ⟨_, rfl, rfl, _, rfl, ite2 (fun e => ?_) (fun n2 => ⟨_, rfl, rfl, _, rfl, ite2 (fun e => ?_) (fun n3 => ⟨_, rfl, rfl, _, rfl, ite2 (fun e => ?_) (fun n4 => ⟨_, rfl, rfl, _, rfl, ite2 (fun e => ?_) (fun n5 => ⟨_, rfl, rfl, _, rfl, ite2 (fun e => ?_) (fun n6 => ⟨_, rfl, rfl, _, rfl, ite2 (fun e => ?_) (fun n7 => ⟨_, rfl, rfl, _, rfl, ite2 (fun e => ?_) (fun n8 => ⟨_, rfl, rfl, _, rfl, ite2 (fun e => ?_) (fun n9 => ⟨_, rfl, rfl, _, rfl, ite2 (fun e => ?_) (fun n10 => ?_)⟩)⟩)⟩)⟩)⟩)⟩)⟩)⟩)⟩)⟩)⟩
    · obtain rfl := eq e
      exact ⟨_, rfl, d, dx, _, rfl, hd, rfl, _, rfl, t, _, _, _, rfl, rfl, .inl (.inl ht), rfl, d, S, D, c.name, 5, rfl, sm, ⟨by decide, by decide⟩, hT, hD, by omega, by omega, fun H1 => ⟨fun _ z => absurd nm (by rw [z]; decide), fun _ _ z => absurd (by decide) z, fun k1 _ _ _ => ⟨true, T.x_Known_DeskError, fun _ a ha => ⟨_, rfl, fun oe hz hf => spw 4 rfl rfl hz hf fun H' k => q H' (k1.trans k)⟩, fun h => (nomatch h)⟩, fun _ _ _ z => absurd mem z, fun _ _ z => absurd mem z⟩⟩
    · obtain rfl := eq e
      have zz1 : isName (Txt.mul "z" 12) = true := by
        rw [mul_z]
        exact zzn
      have zz2 : Txt.mul "z" 12 ∉ namesL D.line := by
        rw [mul_z]
        exact hz
      exact ⟨_, rfl, d, dx, _, rfl, hd, rfl, "z", 12, rfl, rfl, mulOk_z, d, S, D, Txt.mul "z" 12, 5, rfl, isName_small zz1, ⟨by decide, by decide⟩, hT, hD, by omega, by omega, fun H1 => ⟨fun _ z => absurd zz1 (by rw [z]; decide), fun _ _ z => absurd (by decide) z, fun _ _ _ z => absurd z zz2, fun k1 _ _ _ _ => ⟨true, T.x_Full_DeskError, fun _ a ha => ⟨_, rfl, fun oe hz hf => spw 6 rfl rfl hz hf fun H' k => q H' (k1.trans k)⟩, fun h => (nomatch h)⟩, fun _ _ _ z => absurd (y1 rfl) z⟩⟩
    · obtain rfl := eq e
      exact ⟨_, rfl, d, dx, _, rfl, hd, rfl, _, rfl, t, _, _, _, rfl, rfl, .inl (.inl ht), rfl, d, S, D, c.name, 1001, rfl, ⟨by decide, by decide⟩, sm, hD, fun z => absurd mem z, ms ⟨fun _ => ⟨true, T.x_NoSpan_DeskError, fun _ a ha => ⟨_, rfl, fun oe hz hf => spw 2 rfl rfl hz hf fun H' k => q H' k⟩, fun h => (nomatch h)⟩, fun z => absurd z (by decide)⟩⟩
    · obtain rfl := eq e
      exact ⟨_, rfl, d, dx, _, rfl, hd, rfl, _, rfl, t, _, _, _, rfl, rfl, .inl (.inl ht), rfl, d, S, D, c.name, 1, rfl, ⟨by decide, by decide⟩, sm, hD, fun z => absurd mem z, ms ⟨fun z => absurd (by decide) z, fun _ => ⟨fun _ => ⟨true, T.x_NotReady_DeskError, fun _ a ha => ⟨_, rfl, fun oe hz hf => spw 7 rfl rfl hz hf fun H' k => q H' k⟩, fun h => (nomatch h)⟩, fun z => absurd z (by rw [y3 (.inl rfl)]; decide)⟩⟩⟩
    · obtain rfl := eq e
      refine ⟨_, rfl, d, dx, _, rfl, hd, rfl, _, rfl, t, _, _, _, rfl, rfl, .inl (.inl ht), rfl, "b", 13, rfl, rfl, mulOk_b, (show 3 ≤ sizeLine by decide), fun f nf => ?_⟩
      have kf : Keep K [] H (L2.upd H f (.lst [.str "", .str (Txt.mul "b" 13), .str "B"])) := Keep.new nf
      have htf := ht.keep0 kf
      obtain ⟨bb, hbb, nb, sb⟩ : ∃ bb : Str, atI [V.str "", .str (Txt.mul "b" 13), .str "B"] ((c.name.length : Int) % 3) = some (.str bb) ∧ isName bb = false ∧ Small bb := by
        have h3 : (c.name.length : Int) % 3 = 0 ∨ (c.name.length : Int) % 3 = 1 ∨ (c.name.length : Int) % 3 = 2 := by omega
        rcases h3 with e | e | e <;> rw [e]
        · exact ⟨"", rfl, by decide +kernel, ⟨by decide +kernel, by decide +kernel⟩⟩
        · exact ⟨Txt.mul "b" 13, rfl, by decide +kernel, ⟨by decide +kernel, by decide +kernel⟩⟩
        · exact ⟨"B", rfl, by decide +kernel, ⟨by decide +kernel, by decide +kernel⟩⟩
      refine ⟨_, rfl, t, _, _, _, rfl, rfl, .inl (.inl htf), rfl, _, rfl, sm.line, _, _, rfl, rfl, (show (0 : Int) < 3 by decide), f, _, _, .str bb, rfl, rfl, .inl (.inl upd_same), hbb, ?_⟩
      exact ⟨d, S, D, c.name, bb, rfl, sb, kf.tab _ hT, sm, hD.keep0 kf, fun z => absurd mem z, ms ⟨fun _ H1 k1 => ⟨true, T.x_NoName_DeskError, fun _ a ha => ⟨_, rfl, fun oe hz hf => spw 0 rfl rfl hz hf fun H' k => q H' ((kf.trans k1).trans k)⟩, fun h => (nomatch h)⟩, fun z => absurd z (by rw [nb]; decide)⟩⟩
    · obtain rfl := eq e
      exact ⟨_, rfl, d, dx, _, rfl, hd, rfl, _, rfl, t, _, _, _, rfl, rfl, .inl (.inl ht), rfl, d, S, D, c.name, "bell", rfl, isName_small bn, hT, sm, hD, fun z => absurd mem z, ms ⟨fun z => absurd bn (by rw [z]; decide), fun _ => ⟨fun _ H1 k1 => ⟨true, T.x_NotReady_DeskError, fun _ a ha => ⟨_, rfl, fun oe hz hf => spw 7 rfl rfl hz hf fun H' k => q H' (k1.trans k)⟩, fun h => (nomatch h)⟩, fun z => absurd z (by rw [y3 (.inr rfl)]; decide)⟩⟩⟩
    · obtain rfl := eq e
      exact ⟨_, rfl, d, dx, _, rfl, hd, rfl, _, rfl, t, _, _, _, rfl, rfl, .inl (.inl ht), rfl, d, S, D, c.name, rfl, sm, hD, fun z => absurd mem z, ms ⟨fun _ => ⟨true, T.x_IsReady_DeskError, fun _ a ha => ⟨_, rfl, fun oe hz hf => spw 8 rfl rfl hz hf fun H' k => q H' k⟩, fun h => (nomatch h)⟩, fun z => absurd z (by rw [y6 (.inl rfl)]; decide)⟩⟩
    · obtain rfl := eq e
      exact ⟨_, rfl, d, dx, _, rfl, hd, rfl, _, rfl, t, _, _, _, rfl, rfl, .inl (.inl ht), rfl, d, S, D, c.name, 5, rfl, ⟨by decide, by decide⟩, sm, hD, fun z => absurd mem z, ms ⟨fun z => absurd (by decide) z, fun _ => ⟨fun _ => ⟨true, T.x_IsReady_DeskError, fun _ a ha => ⟨_, rfl, fun oe hz hf => spw 8 rfl rfl hz hf fun H' k => q H' k⟩, fun h => (nomatch h)⟩, fun z => absurd z (by rw [y6 (.inr rfl)]; decide)⟩⟩⟩
    · obtain rfl := eq e
      exact ⟨_, rfl, d, dx, _, rfl, hd, rfl, _, rfl, t, _, _, _, rfl, rfl, .inl (.inl ht), rfl, d, S, D, c.name, 100, rfl, ⟨by decide, by decide⟩, sm, hD, fun z => absurd mem z, ms ⟨fun _ => ⟨true, T.x_NoRank_DeskError, fun _ a ha => ⟨_, rfl, fun oe hz hf => spw 1 rfl rfl hz hf fun H' k => q H' k⟩, fun h => (nomatch h)⟩, fun z => absurd z (by decide)⟩⟩
    · obtain rfl := eq e
      exact ⟨_, rfl, d, dx, _, rfl, hd, rfl, d, S, D, "A", rfl, smA, hT, hD, fun _ H1 k1 => ⟨true, T.x_NoName_DeskError, fun _ a ha => ⟨_, rfl, fun oe hz hf => spw 0 rfl rfl hz hf fun H' k => q H' (k1.trans k)⟩, fun h => (nomatch h)⟩, fun z => absurd z nA⟩
    · obtain rfl := eq e
      exact ⟨_, rfl, d, dx, _, rfl, hd, rfl, d, S, D, 1001, rfl, ⟨by decide, by decide⟩, hD, fun _ => ⟨true, T.x_NoSpan_DeskError, fun _ a ha => ⟨_, rfl, fun oe hz hf => spw 2 rfl rfl hz hf fun H' k => q H' k⟩, fun h => (nomatch h)⟩, fun z => absurd z (by decide)⟩
    · have ne : ∀ {n : Int}, ¬ decide (V.int y = V.int n) = true → y ≠ n := fun h z => h (by rw [z]; exact decide_eq_true rfl)
      have m0 := ne n0
      have m1 := ne n1
      have m2 := ne n2
      have m3 := ne n3
      have m4 := ne n4
      have m5 := ne n5
      have m6 := ne n6
      have m7 := ne n7
      have m8 := ne n8
      have m9 := ne n9
      have m10 := ne n10
      obtain rfl : y = 11 := by omega
      exact ⟨_, rfl, d, dx, _, rfl, hd, rfl, _, _, rfl, rfl, d, S, D, 0 - 1, rfl, ⟨by decide, by decide⟩, hD, fun _ H1 k1 => ⟨true, T.x_NoSpan_DeskError, fun _ a ha => ⟨_, rfl, fun oe hz hf => spw 2 rfl rfl hz hf fun H' k => q H' (k1.trans k)⟩, fun h => (nomatch h)⟩, fun z => absurd z (by decide)⟩
theorem inV2 (y a b : Int) : inV (.int y) [.int a, .int b] = decide (y = a ∨ y = b) := by
  show ((a == y) || ((b == y) || false)) = _
  have h : ∀ z : Int, (z == y) = decide (y = z) := fun z => by
    by_cases e : y = z
    · rw [e]
      simp
    · rw [decide_eq_false e]
      exact beq_eq_false_iff_ne.mpr (Ne.symm e)
  rw [Bool.or_false, h, h, Bool.decide_or]
/-- the ways that may be asked for of that one -/
def WayOk (D : Dk) (c : Cr) (y : Int) : Prop := (0 ≤ y ∧ y < 12) ∧ (y = 1 → D.room ≤ D.line.length) ∧ (y = 3 ∨ y = 5 → c.st.isRdy = false) ∧ (y = 6 ∨ y = 7 → c.st.isRdy = true)
def sp_good (K : PySem.W.Frag) : Sp := fun vs H Q _ => ∃ (d a : Addr) (S : List Addr) (D : Dk) (n : Int), vs = [.ref d, .ref a, .int n] ∧ DkAt K H S d D ∧ Sound D ∧ LnAt H a D.line ∧ D.line ≠ [] ∧ TabG H (tabN K) ∧ ZZ ∉ namesL D.line ∧ ∀ H', Keep K [] H H' → Q (.bl true) H'
theorem c__law_good (T : Tx K mg base) : Cal P w K mg base 8 "_law_good" (sp_good K) := by
  have c__law_mix : Cal P w K mg base 1 "_law_mix" sp_mix := c__law_mix T
  have c__law_refused : Cal P w K mg base 7 "_law_refused" (sp_refused K) := c__law_refused T
  obtain ⟨fd, F⟩ := T.d__law_good
  refine ⟨_, fd, ["_law_desk", "_law_line", "_law_cell"], okF (k := 7) F sc__law_good (fun vs H Q E h => ?_) (fun A outer s H vs Q E hr h => ?_), T.r__law_good, F.kp, F.bindsN fun _ _ _ _ _ _ us hl => match us, hl with | [_, _, _], _ => rfl⟩
  · obtain ⟨d, a, S, D, n, rfl, _⟩ := h
    rfl
  · have nd := sc__law_good.nd
    obtain ⟨d, a, S, D, n, rfl, hD, sD, hL, ne, hT, hz, q⟩ := h
    obtain ⟨L, ln, eS, x⟩ := id hD
    obtain ⟨dx, hd⟩ := id x.desk
    obtain ⟨ps, el, ha, hps⟩ := id hL
    have elen : D.line.length = ps.length := by rw [el, List.length_map]
    have lpos : 0 < (ps.length : Int) := by
      have : D.line.length ≠ 0 := fun z => ne (List.length_eq_zero_iff.mp z)
      omega
    have hm := mix_nn (c := n) (p := 10271) lpos
    obtain ⟨q1, hq1, eat⟩ := ps_at hm.1 hm.2
    refine ⟨_, (pss_cons (ps_set (i := 3) nd rfl (Or.inl rfl) (pe_ix ix_list (pv 1) (pf c__law_mix hr (by decide) (by rfl) p0 (pa_cons (pv 2) (pa_cons pe_int (pa_cons (pe_callB call_len_seq (by rfl) T.m_len boot_len (pa_cons (pv 1) pa_nil)) pa_nil)))) (fun _ _ => rfl)))
  (pss_cons (ps_set (i := 4) nd rfl (Or.inl rfl) (pf c__law_mix hr (by decide) (by rfl) p0 (pa_cons (pv 2) (pa_cons pe_int (pa_cons pe_int pa_nil)))))
  (pss_cut (ps_if (PW.pt (pw_or (PW.pt (pw_and (pt_cmpR op_eq (pv 4) pe_int (nomark _)) (pw_and1 (pt_cmpR op_lt (pe_callB call_len_seq (by rfl) T.m_len boot_len (pa_cons (pv 1) pa_nil)) (pe_fld (pv 0) rfl) (nomark _))))) (pw_or (PW.pt (pw_and (pt_cmpR op_in_seq (pv 4) (pe_lst (pa_cons pe_int (pa_cons pe_int pa_nil))) rfl) (pw_and1 (pt_cmpR op_eq (pe_ix ix_tup (pv 3) pe_int (fun _ _ => rfl)) pe_str (nomark _))))) (pw_or1 (PW.pt (pw_and (pt_cmpR op_in_seq (pv 4) (pe_lst (pa_cons pe_int (pa_cons pe_int pa_nil))) rfl) (pw_and1 (pt_cmpR op_ne (pe_ix ix_tup (pv 3) pe_int (fun _ _ => rfl)) pe_str (nomark _)))))))))
  (pss_one (ps_set (i := 4) nd rfl (Or.inl rfl) pe_int))
  pss_nil)
  (pss_cons (ps_set (i := 5) nd rfl (Or.inl rfl) (pe_ix ix_list (pe_lst (pa_cons pe_str (pa_cons pe_str (pa_cons pe_str (pa_cons pe_str (pa_cons pe_str (pa_cons pe_str (pa_cons pe_str (pa_cons pe_str (pa_cons pe_str (pa_cons pe_str (pa_cons pe_str (pa_cons pe_str pa_nil))))))))))))) (pv 4) (fun _ _ => rfl)))
  (pss_one (ps_ret (pe_cmpR op_eq (pf c__law_refused hr (by decide) (by rfl) p0 (pa_cons (pv 0) (pa_cons (pv 3) (pa_cons (pv 4) pa_nil)))) (pv 5) (nomark _)))))))), ?_⟩
    refine ⟨_, rfl, _, rfl, _, rfl, a, _, rfl, .inl (.inl (.inl ha)), n, 10271, _, rfl, by decide, by rw [List.length_map]; exact lpos, ?_⟩
    rw [List.length_map]
    refine ⟨a, _, _, .ref q1.1, rfl, rfl, .inl (.inl ha), eat, ?_⟩
    have ht := hps q1 hq1
    have hc : q1.2 ∈ D.line := by rw [el]; exact List.mem_map_of_mem hq1
    refine ⟨_, rfl, n, 10273, 12, rfl, by decide, by decide, ?_⟩
    have hw := mix_nn (c := n) (p := 10273) (m := 12) (by decide)
    refine ⟨fun σ' H' => ∃ y, σ' = [some (.ref d), some (.ref a), some (.int n), some (.ref q1.1), some (.int y), none] ∧ Keep K [] H H' ∧ WayOk D q1.2 y, ?_, ?_⟩
    · generalize mix n 10273 12 = y at hw ⊢
      have eq : ∀ {n : Int}, decide (V.int y = V.int n) = true → y = n := fun e => V.int.inj (of_decide_eq_true e)
      have zero : WayOk D q1.2 0 := ⟨⟨by decide, by decide⟩, fun z => absurd z (by decide), fun z => absurd z (by decide), fun z => absurd z (by decide)⟩
      refine ⟨_, rfl, rfl, _, rfl, ite2 (fun e => ?_) (fun e => ?_)⟩
      · refine ⟨_, rfl, a, _, rfl, .inl (.inl (.inl ha)), _, rfl, d, _, _, _, _, rfl, hd, T.cl_Desk, T.na_Desk_room, rfl, _, _, rfl, rfl, _, rfl, ite2 (fun hlt => ?_) (fun hlt => ?_)⟩
        · exact ⟨0, rfl, Keep.refl _ _, zero⟩
        · have f1 : y = 1 → D.room ≤ D.line.length := fun _ => by
            have h : ¬ ((ps.map fun p => V.ref p.1).length : Int) < D.room := fun z => hlt (decide_eq_true z)
            rw [List.length_map] at h
            omega
          refine ⟨_, rfl, (show 2 ≤ sizeLine by decide), fun g ng => ?_⟩
          have kg : Keep K [] H (L2.upd H g (.lst [V.int 3, V.int 5])) := Keep.new ng
          have htg := ht.keep0 kg
          refine ⟨g, _, rfl, .inl (.inl (.inl upd_same)), rfl, rfl, _, rfl, ?_⟩
          rw [inV2]
          refine ite2 (fun e35 => ?_) (fun n35 => ?_)
          · refine ⟨_, rfl, q1.1, _, _, _, rfl, rfl, .inl (.inl htg), rfl, rfl, _, rfl, ?_⟩
            rw [word_rdy]
            cases er : q1.2.st.isRdy with
            | true => exact iteT ⟨0, rfl, kg, zero⟩
            | false =>
              refine iteF ?_
              refine ⟨_, rfl, (show 2 ≤ sizeLine by decide), fun g2 ng2 => ?_⟩
              have kg2 := kg.trans (Keep.new (S := []) (o := .lst [V.int 6, V.int 7]) ng2)
              have ht2 := ht.keep0 kg2
              refine ⟨g2, _, rfl, .inl (.inl (.inl upd_same)), rfl, rfl, _, rfl, ?_⟩
              rw [inV2]
              refine ite2 (fun e67 => ?_) (fun n67 => ?_)
              · have e67 := of_decide_eq_true e67
                refine ⟨_, rfl, q1.1, _, _, _, rfl, rfl, .inl (.inl ht2), rfl, rfl, _, rfl, ?_⟩
                rw [word_rdy]
                cases er2 : q1.2.st.isRdy with
                | false => exact iteT ⟨0, rfl, kg2, zero⟩
                | true => exact iteF ⟨y, rfl, kg2, hw, f1, fun z => absurd z (by omega), fun _ => er2⟩
              · exact ⟨y, rfl, kg2, hw, f1, fun _ => er, fun z => absurd (decide_eq_true z) n67⟩
          · skip
            refine ⟨_, rfl, (show 2 ≤ sizeLine by decide), fun g2 ng2 => ?_⟩
            have kg2 := kg.trans (Keep.new (S := []) (o := .lst [V.int 6, V.int 7]) ng2)
            have ht2 := ht.keep0 kg2
            refine ⟨g2, _, rfl, .inl (.inl (.inl upd_same)), rfl, rfl, _, rfl, ?_⟩
            rw [inV2]
            refine ite2 (fun e67 => ?_) (fun n67 => ?_)
            · have e67 := of_decide_eq_true e67
              refine ⟨_, rfl, q1.1, _, _, _, rfl, rfl, .inl (.inl ht2), rfl, rfl, _, rfl, ?_⟩
              rw [word_rdy]
              cases er2 : q1.2.st.isRdy with
              | false => exact iteT ⟨0, rfl, kg2, zero⟩
              | true => exact iteF ⟨y, rfl, kg2, hw, f1, fun z => absurd z (by omega), fun _ => er2⟩
            · exact ⟨y, rfl, kg2, hw, f1, fun z => absurd (decide_eq_true z) n35, fun z => absurd (decide_eq_true z) n67⟩
      · have f1 : y = 1 → D.room ≤ D.line.length := fun z => absurd (decide_eq_true (congrArg V.int z)) e
        refine ⟨_, rfl, (show 2 ≤ sizeLine by decide), fun g ng => ?_⟩
        have kg : Keep K [] H (L2.upd H g (.lst [V.int 3, V.int 5])) := Keep.new ng
        have htg := ht.keep0 kg
        refine ⟨g, _, rfl, .inl (.inl (.inl upd_same)), rfl, rfl, _, rfl, ?_⟩
        rw [inV2]
        refine ite2 (fun e35 => ?_) (fun n35 => ?_)
        · refine ⟨_, rfl, q1.1, _, _, _, rfl, rfl, .inl (.inl htg), rfl, rfl, _, rfl, ?_⟩
          rw [word_rdy]
          cases er : q1.2.st.isRdy with
          | true => exact iteT ⟨0, rfl, kg, zero⟩
          | false =>
            refine iteF ?_
            refine ⟨_, rfl, (show 2 ≤ sizeLine by decide), fun g2 ng2 => ?_⟩
            have kg2 := kg.trans (Keep.new (S := []) (o := .lst [V.int 6, V.int 7]) ng2)
            have ht2 := ht.keep0 kg2
            refine ⟨g2, _, rfl, .inl (.inl (.inl upd_same)), rfl, rfl, _, rfl, ?_⟩
            rw [inV2]
            refine ite2 (fun e67 => ?_) (fun n67 => ?_)
            · have e67 := of_decide_eq_true e67
              refine ⟨_, rfl, q1.1, _, _, _, rfl, rfl, .inl (.inl ht2), rfl, rfl, _, rfl, ?_⟩
              rw [word_rdy]
              cases er2 : q1.2.st.isRdy with
              | false => exact iteT ⟨0, rfl, kg2, zero⟩
              | true => exact iteF ⟨y, rfl, kg2, hw, f1, fun z => absurd z (by omega), fun _ => er2⟩
            · exact ⟨y, rfl, kg2, hw, f1, fun _ => er, fun z => absurd (decide_eq_true z) n67⟩
        · skip
          refine ⟨_, rfl, (show 2 ≤ sizeLine by decide), fun g2 ng2 => ?_⟩
          have kg2 := kg.trans (Keep.new (S := []) (o := .lst [V.int 6, V.int 7]) ng2)
          have ht2 := ht.keep0 kg2
          refine ⟨g2, _, rfl, .inl (.inl (.inl upd_same)), rfl, rfl, _, rfl, ?_⟩
          rw [inV2]
          refine ite2 (fun e67 => ?_) (fun n67 => ?_)
          · have e67 := of_decide_eq_true e67
            refine ⟨_, rfl, q1.1, _, _, _, rfl, rfl, .inl (.inl ht2), rfl, rfl, _, rfl, ?_⟩
            rw [word_rdy]
            cases er2 : q1.2.st.isRdy with
            | false => exact iteT ⟨0, rfl, kg2, zero⟩
            | true => exact iteF ⟨y, rfl, kg2, hw, f1, fun z => absurd z (by omega), fun _ => er2⟩
          · exact ⟨y, rfl, kg2, hw, f1, fun z => absurd (decide_eq_true z) n35, fun z => absurd (decide_eq_true z) n67⟩
    rintro σ' H1 ⟨y, rfl, k1, ok, y1, y3, y6⟩
    have hDu : atI [V.str "known", .str "full", .str "span", .str "awake", .str "name", .str "awake", .str "ready", .str "ready", .str "rank", .str "name", .str "span", .str "span"] y = some (.str (dueR y)) := by
      have h12 : y = 0 ∨ y = 1 ∨ y = 2 ∨ y = 3 ∨ y = 4 ∨ y = 5 ∨ y = 6 ∨ y = 7 ∨ y = 8 ∨ y = 9 ∨ y = 10 ∨ y = 11 := by omega
      rcases h12 with e | e | e | e | e | e | e | e | e | e | e | e <;> rw [e] <;> rfl
    refine ⟨(show 12 ≤ sizeLine by decide), fun f nf => ?_⟩
    have kf : Keep K [] H1 (L2.upd H1 f (.lst [V.str "known", .str "full", .str "span", .str "awake", .str "name", .str "awake", .str "ready", .str "ready", .str "rank", .str "name", .str "span", .str "span"])) := Keep.new nf
    refine ⟨_, rfl, f, _, _, .str (dueR y), rfl, rfl, .inl (.inl upd_same), hDu, ?_⟩
    have k2 := k1.trans kf
    refine ⟨_, rfl, _, rfl, _, rfl, d, q1.1, S, D, q1.2, y, rfl, hD.keep0 k2, sD, ht.keep0 k2, hc, k2.tab _ hT, hz, ok, y1, y3, y6, fun H3 k3 => ⟨_, rfl, rfl, ?_⟩⟩
    rw [decide_eq_true (show V.str (dueR y) = V.str (dueR y) from rfl)]
    exact q H3 (k2.trans k3)
end
end Rr

set_option maxRecDepth 100000
set_option maxHeartbeats 4000000
namespace Rr
open PySem PySem.Spec PyProof.Rows L2
open L2H (SpP)
open GxR (TabG Tabbed)
open Evl (pss_cut)
def sp_law (K : PySem.W.Frag) : Sp := fun vs H Q _ => ∃ (a : Addr) (ns : List Int), vs = [.ref a] ∧ SqL K H a (ns.map V.int) ∧ ns.length ≤ 63 ∧ TabG H (tabN K) ∧ TabG H (tabM K) ∧ LamOk K H ∧ ∀ H', Q (.bl true) H'
def started (p r W k : Int) : Dk := ⟨p, r, W, [⟨"xx", k, .rdy 0⟩, ⟨"yy", 99, .rdy W⟩]⟩
theorem text_started (p r W k : Int) : ("desk " : Str) ++ numT p ++ " " ++ numT r ++ " " ++ numT W ++ "\n" ++ "xx " ++ numT k ++ " ready " ++ numT W ++ "\n" ++ "yy 99 ready 0\n" = textD (started p r W k) := by
  refine TL.ext_tl ?_
  show _ = TL.tl (Str.join "\n" [Str.join " " ["desk", numT p, numT r, numT W], Str.join " " ["xx", numT k, "ready", numT (W - 0)], Str.join " " ["yy", numT 99, "ready", numT (W - W)]] ++ "\n")
  rw [Int.sub_zero, Int.sub_self]
  simp only [TL.tl_append, TL.tl_join, List.map_cons, List.map_nil, TL.joinL]
  have e1 : TL.tl ("desk " : Str) = TL.tl ("desk" : Str) ++ TL.tl (" " : Str) := by decide +kernel
  have e2 : TL.tl ("xx " : Str) = TL.tl ("xx" : Str) ++ TL.tl (" " : Str) := by decide +kernel
  have e3 : TL.tl (" ready " : Str) = TL.tl (" " : Str) ++ (TL.tl ("ready" : Str) ++ TL.tl (" " : Str)) := by decide +kernel
  have e4 : TL.tl ("yy 99 ready 0\n" : Str) = TL.tl ("yy" : Str) ++ (TL.tl (" " : Str) ++ (TL.tl (numT 99) ++ (TL.tl (" " : Str) ++ (TL.tl ("ready" : Str) ++ (TL.tl (" " : Str) ++ (TL.tl (numT 0) ++ TL.tl ("\n" : Str))))))) := by decide +kernel
  simp only [e1, e2, e3, e4, List.append_assoc]
theorem started_good {p r W k : Int} (hpr : (1 ≤ p ∧ p ≤ 1000) ∧ 1 ≤ r ∧ r ≤ 60) (r2 : 2 ≤ r) (hk : 0 ≤ k ∧ k < 99) (hW : 0 ≤ W ∧ W ≤ p * (99 - k)) (hW2 : W ≤ 99000) : GoodD (started p r W k) ∧ Sound (started p r W k) ∧ ZZ ∉ namesL (started p r W k).line := by
  have nm : (namesL (started p r W k).line).Nodup := show ([("xx" : Str), "yy"]).Nodup by decide +kernel
  have len : ((started p r W k).line.length : Int) ≤ r := show (2 : Int) ≤ r from r2
  have mem : ∀ c ∈ (started p r W k).line, c = ⟨"xx", k, .rdy 0⟩ ∨ c = ⟨"yy", 99, .rdy W⟩ := fun c h => by
    rcases List.mem_cons.mp h with h | h
    · exact .inl h
    · exact .inr (List.mem_singleton.mp h)
  have ok : ∀ c ∈ (started p r W k).line, isName c.name = true := fun c h => by
    rcases mem c h with rfl | rfl
    · show isName "xx" = true
      decide +kernel
    · show isName "yy" = true
      decide +kernel
  have rk : ∀ c ∈ (started p r W k).line, 0 ≤ c.rank ∧ c.rank ≤ 99 := fun c h => by
    rcases mem c h with rfl | rfl
    · exact ⟨hk.1, by show k ≤ 99; omega⟩
    · exact ⟨by show (0 : Int) ≤ 99; decide, by show (99 : Int) ≤ 99; decide⟩
  have st : ∀ c ∈ (started p r W k).line, c.st = .rdy 0 ∨ c.st = .rdy W := fun c h => by
    rcases mem c h with rfl | rfl
    · exact .inl rfl
    · exact .inr rfl
  have so : Sound (started p r W k) := ⟨hpr, hW.1, len, nm, ok, rk, fun c h => by
    rcases st c h with e | e <;> rw [e]
    · exact ⟨Int.le_refl _, hW.1⟩
    · exact ⟨hW.1, Int.le_refl _⟩⟩
  refine ⟨⟨hpr, hW.1, by show W < _; omega, len, nm, ok, rk, fun c h => ?_⟩, so, ?_⟩
  · rcases st c h with e | e <;> rw [e]
    · exact ⟨Int.le_refl _, hW.1⟩
    · exact ⟨hW.1, Int.le_refl _⟩
  · show ZZ ∉ ([("xx" : Str), "yy"])
    decide +kernel
section
variable {P : Program} {w : World} {K : PySem.W.Frag} {mg : Str → Option Value} {base : Heap}
def sp_started (K : PySem.W.Frag) : Sp := fun vs H Q _ => ∃ (a : Addr) (ns : List Int) (p r : Int), vs = [.int p, .int r, .ref a] ∧ SqL K H a (ns.map V.int) ∧ ((1 ≤ p ∧ p ≤ 1000) ∧ 1 ≤ r ∧ r ≤ 60) ∧ TabG H (tabN K) ∧ TabG H (tabM K) ∧
  ∀ v H', Keep K [] H H' → (v = .non ∨ ∃ (t d l : Addr) (S' : List Addr) (D : Dk), v = .ref t ∧ H' t = some (.tup [.ref d, .ref l]) ∧ DkAt K H' S' d D ∧ LnAt H' l D.line ∧ Sound D ∧ ZZ ∉ namesL D.line ∧ D.now ≤ 99000 ∧ (∀ z ∈ S', H z = none) ∧ D.pace = p ∧ D.room = r) → Q v H'
theorem c__law_started (T : Tx K mg base) : Cal P w K mg base 7 "_law_started" (sp_started K) := by
  have c__law_cell_at : Cal P w K mg base 1 "_law_cell_at" (sp_cell K) := c__law_cell_at T
  have c_read : Cal P w K mg base 6 "read" (sp_read K) := c_read T
  obtain ⟨fd, F⟩ := T.d__law_started
  refine ⟨_, fd, ["_law_pace", "_law_room", "_law_script"], okF (k := 6) F sc__law_started (fun vs H Q E h => ?_) (fun A outer s H vs Q E hr h => ?_), T.r__law_started, F.kp, F.bindsN fun _ _ _ _ _ _ us hl => match us, hl with | [_, _, _], _ => rfl⟩
  · obtain ⟨a, ns, p, r, rfl, _⟩ := h
    rfl
  · have nd := sc__law_started.nd
    obtain ⟨a, ns, p, r, rfl, hS, hpr, hT, hM, q⟩ := h
    obtain ⟨⟨hp0, hp1⟩, r0, r1⟩ := id hpr
    refine ⟨_, (pss_cons (ps_set (i := 3) nd rfl (Or.inl rfl) (pe_op op_mod (pe_op op_fdiv (pf c__law_cell_at hr (by decide) (by rfl) p0 (pa_cons (pv 2) (pa_cons pe_int pa_nil))) pe_int) pe_int))
  (pss_cons (ps_if (PW.pt (pw_or (pt_cmpR op_ne (pv 3) pe_int (nomark _)) (pw_or1 (pt_cmpR op_lt (pv 1) pe_int (nomark _)))))
  (pss_one (ps_ret pe_non))
  pss_nil)
  (pss_cons (ps_set (i := 4) nd rfl (Or.inl rfl) (pe_op op_mod (pf c__law_cell_at hr (by decide) (by rfl) p0 (pa_cons (pv 2) (pa_cons pe_int pa_nil))) pe_int))
  (pss_cons (ps_set (i := 5) nd rfl (Or.inl rfl) (pe_op op_sub (pe_op op_mul (pv 0) (pe_op op_sub pe_int (pv 4))) (pe_op op_mod (pe_op op_fdiv (pf c__law_cell_at hr (by decide) (by rfl) p0 (pa_cons (pv 2) (pa_cons pe_int pa_nil))) pe_int) (pe_op op_add (pe_op op_mul (pv 0) (pe_op op_sub pe_int (pv 4))) pe_int))))
  (pss_cut (ps_if (pt_cmpR op_eq (pe_op op_mod (pf c__law_cell_at hr (by decide) (by rfl) p0 (pa_cons (pv 2) (pa_cons pe_int pa_nil))) pe_int) pe_int (nomark _))
  (pss_one (ps_set (i := 5) nd rfl (Or.inl rfl) (pe_callB (call_max2 rfl) (by rfl) T.m_max (by decide +kernel) (pa_cons pe_int (pa_cons (pe_op op_sub (pe_op op_mul (pv 0) (pe_op op_sub pe_int (pv 4))) (pe_op op_mod (pe_op op_fdiv (pf c__law_cell_at hr (by decide) (by rfl) p0 (pa_cons (pv 2) (pa_cons pe_int pa_nil))) pe_int) pe_int)) pa_nil)))))
  pss_nil)
  (pss_cons (ps_set (i := 6) nd rfl (Or.inl rfl) (pe_op op_add_str (pe_op op_add_str (pe_op op_add_str (pe_op op_add_str (pe_op op_add_str (pe_op op_add_str pe_str (pe_callTy call_str_int (by rfl) T.m_str (by decide +kernel) (pa_cons (pv 0) pa_nil))) pe_str) (pe_callTy call_str_int (by rfl) T.m_str (by decide +kernel) (pa_cons (pv 1) pa_nil))) pe_str) (pe_callTy call_str_int (by rfl) T.m_str (by decide +kernel) (pa_cons (pv 5) pa_nil))) pe_str))
  (pss_cons (ps_set (i := 6) nd rfl (Or.inl rfl) (pe_op op_add_str (pe_op op_add_str (pe_op op_add_str (pe_op op_add_str (pe_op op_add_str (pe_op op_add_str (pv 6) pe_str) (pe_callTy call_str_int (by rfl) T.m_str (by decide +kernel) (pa_cons (pv 4) pa_nil))) pe_str) (pe_callTy call_str_int (by rfl) T.m_str (by decide +kernel) (pa_cons (pv 5) pa_nil))) pe_str) pe_str))
  (pss_one (ps_ret (pe_tup (pa_cons (pf c_read hr (by decide) (by rfl) (pU (L2N.takes_of rfl rfl rfl rfl)) (pa_cons (pv 6) pa_nil)) (pa_cons (pe_lst (pa_cons (pe_tup (pa_cons pe_str (pa_cons (pv 4) (pa_cons pe_str (pa_cons pe_int pa_nil))))) (pa_cons (pe_tup (pa_cons pe_str (pa_cons pe_int (pa_cons pe_str (pa_cons (pv 5) pa_nil))))) pa_nil))) pa_nil)))))))))))), ?_⟩
    refine ⟨_, rfl, a, ns, 0, rfl, hS, by decide, _, _, rfl, rfl, ⟨by decide, by decide⟩, _, _, rfl, rfl, (show (0 : Int) < 4 by decide), ?_⟩
    refine ⟨_, rfl, rfl, _, rfl, ?_⟩
    by_cases z : cell ns 0 / 2 % 4 = 1
    case neg =>
      rw [decide_eq_false (by exact fun y => z (V.int.inj y))]
      exact iteT (q _ _ (Keep.refl _ _) (.inl rfl))
    rw [decide_eq_true (by exact congrArg V.int z)]
    refine iteF ⟨_, rfl, _, _, rfl, rfl, _, rfl, ?_⟩
    by_cases z2 : r < 2
    case pos =>
      rw [decide_eq_true z2]
      exact iteT (q _ _ (Keep.refl _ _) (.inl rfl))
    rw [decide_eq_false z2]
    refine iteF ?_
    refine ⟨_, rfl, a, ns, 2, rfl, hS, by decide, _, _, rfl, rfl, (show (0 : Int) < 99 by decide), ?_⟩
    have hk : 0 ≤ cell ns 2 % 99 ∧ cell ns 2 % 99 < 99 := ⟨Int.emod_nonneg _ (by decide), Int.emod_lt_of_pos _ (by decide)⟩
    dsimp only
    generalize cell ns 2 % 99 = k at hk ⊢
    have hpk : 0 ≤ p * (99 - k) := Int.mul_nonneg (by omega) (by omega)
    have hpk2 : p * (99 - k) ≤ 99000 := by
      have h1 : p * (99 - k) ≤ 1000 * (99 - k) := Int.mul_le_mul_of_nonneg_right hp1 (by omega)
      omega
    have x1 : 0 ≤ cell ns 3 / 5 % (p * (99 - k) + 1) := Int.emod_nonneg _ (by omega)
    have x2 : cell ns 3 / 5 % (p * (99 - k) + 1) < p * (99 - k) + 1 := Int.emod_lt_of_pos _ (by omega)
    have x3 : 0 ≤ cell ns 3 / 5 % 7 := Int.emod_nonneg _ (by decide)
    refine ⟨_, rfl, _, rfl, _, _, rfl, rfl, _, _, rfl, rfl, .inl ⟨by omega, by omega⟩, _, rfl, a, ns, 3, rfl, hS, by decide, _, _, rfl, rfl, ⟨by decide, by decide⟩, _, rfl, _, rfl, _, _, rfl, rfl, _, _, rfl, rfl, .inl ⟨by omega, by omega⟩, _, _, rfl, rfl, _, _, rfl, rfl, (show 0 < p * (99 - k) + 1 by omega), _, _, rfl, rfl, ?_⟩
    refine ⟨fun σ' H' => H = H' ∧ ∃ W, (0 ≤ W ∧ W ≤ p * (99 - k)) ∧ σ' = [some (.int p), some (.int r), some (.ref a), some (.int (cell ns 0 / 2 % 4)), some (.int k), some (.int W), none], ?_, ?_⟩
    · refine ⟨_, rfl, a, ns, 0, rfl, hS, by decide, _, _, rfl, rfl, (show (0 : Int) < 2 by decide), rfl, _, rfl, ite2 (fun _ => ?_) (fun _ => ?_)⟩
      · refine ⟨_, rfl, _, rfl, _, _, rfl, rfl, _, _, rfl, rfl, .inl ⟨by omega, by omega⟩, _, rfl, a, ns, 3, rfl, hS, by decide, _, _, rfl, rfl, ⟨by decide, by decide⟩, _, _, rfl, rfl, (show (0 : Int) < 7 by decide), _, _, rfl, rfl, _, _, rfl, ?_⟩
        refine ⟨rfl, _, ?_, rfl⟩
        split <;> omega
      · exact ⟨rfl, _, ⟨by omega, by omega⟩, rfl⟩
    rintro σ' _ ⟨rfl, W, hW, rfl⟩
    have mp : Mod p := ⟨by omega, by omega⟩
    have mr : Mod r := ⟨by omega, by omega⟩
    have mW : Mod W := ⟨by omega, by omega⟩
    have mk : Mod k := ⟨by omega, by omega⟩
    have lp : (Str.ofString (toString p)).length ≤ 12 := (num_ok (i := p) (by omega) (by omega)).1.1
    have lr : (Str.ofString (toString r)).length ≤ 12 := (num_ok (i := r) (by omega) (by omega)).1.1
    have lW : (Str.ofString (toString W)).length ≤ 12 := (num_ok (i := W) (by omega) (by omega)).1.1
    have lk : (Str.ofString (toString k)).length ≤ 12 := (num_ok (i := k) (by omega) (by omega)).1.1
    have l5 : ("desk " : Str).length = 5 := by decide +kernel
    have l1 : (" " : Str).length = 1 := by decide +kernel
    have ln1 : ("\n" : Str).length = 1 := by decide +kernel
    have l3 : ("xx " : Str).length = 3 := by decide +kernel
    have l7 : (" ready " : Str).length = 7 := by decide +kernel
    have l14 : ("yy 99 ready 0\n" : Str).length = 14 := by decide +kernel
    obtain ⟨gd, so, zz⟩ := started_good hpr (by omega) hk hW (by omega)
    refine ⟨_, rfl, _, rfl, mp.log, _, _, rfl, rfl, ?_, _, _, rfl, rfl, ?_, _, rfl, _, rfl, mr.log, _, _, rfl, rfl, ?_, _, _, rfl, rfl, ?_, _, rfl, _, rfl, mW.log, _, _, rfl, rfl, ?_, _, _, rfl, rfl, ?_, ?_⟩
    case refine_7 =>
      refine ⟨_, rfl, _, _, rfl, rfl, ?_, _, rfl, _, rfl, mk.log, _, _, rfl, rfl, ?_, _, _, rfl, rfl, ?_, _, rfl, _, rfl, mW.log, _, _, rfl, rfl, ?_, _, _, rfl, rfl, ?_, _, _, rfl, rfl, ?_, _, rfl, started p r W k, ?_, gd, hT, hM, fun d S' H' k1 f1 hD => ?_⟩
      case refine_8 =>
        refine ⟨_, rfl, (show 4 ≤ sizeLine by decide), fun t1 n1 => ⟨_, rfl, (show 4 ≤ sizeLine by decide), fun t2 n2 => ⟨(show 2 ≤ sizeLine by decide), fun l nl => ⟨(show 2 ≤ sizeLine by decide), fun t nt => ?_⟩⟩⟩⟩
        have k2 := (Keep.new (K := K) (S := []) (o := .tup [.str "xx", .int k, .str "ready", .int 0]) n1).trans (Keep.new (K := K) (S := []) (o := .tup [.str "yy", .int 99, .str "ready", .int W]) n2)
        have k3 := (k2.trans (Keep.new (K := K) (S := []) (o := .lst [.ref t1, .ref t2]) nl)).trans (Keep.new (K := K) (S := []) (o := .tup [.ref d, .ref l]) nt)
        refine q _ _ (k1.trans k3) (.inr ⟨t, d, l, S', started p r W k, rfl, upd_same, hD.keep0 k3, ?_, so, zz, (by show W ≤ 99000; omega), f1, rfl, rfl⟩)
        have h1 : RowAt (L2.upd (L2.upd H' t1 (.tup [.str "xx", .int k, .str "ready", .int 0])) t2 (.tup [.str "yy", .int 99, .str "ready", .int W])) t1 ⟨"xx", k, .rdy 0⟩ := (upd_ne (ne_of_none upd_same n2)).trans upd_same
        have h2 : RowAt (L2.upd (L2.upd H' t1 (.tup [.str "xx", .int k, .str "ready", .int 0])) t2 (.tup [.str "yy", .int 99, .str "ready", .int W])) t2 ⟨"yy", 99, .rdy W⟩ := upd_same
        refine ⟨[(t1, ⟨"xx", k, .rdy 0⟩), (t2, ⟨"yy", 99, .rdy W⟩)], rfl, (upd_ne (ne_of_none upd_same nt)).trans upd_same, fun p hp => ?_⟩
        have k4 := (Keep.new (K := K) (S := []) (o := .lst [.ref t1, .ref t2]) nl).trans (Keep.new (K := K) (S := []) (o := .tup [.ref d, .ref l]) nt)
        rcases List.mem_cons.mp hp with e | e
        · rw [e]
          exact h1.keep0 k4
        · rw [List.mem_singleton.mp e]
          exact h2.keep0 k4
      all_goals first
        | (show [V.str _] = [V.str _]; exact congrArg (fun z => [V.str z]) (text_started p r W k))
        | (rw [sizeLine_eq]; show (_ : Str).length + (_ : Str).length ≤ _; (try simp only [Str.length_append]); omega)
    all_goals (rw [sizeLine_eq]; show (_ : Str).length + (_ : Str).length ≤ _; (try simp only [Str.length_append]); omega)
theorem after_noZ {D : Dk} (x : ZZ ∉ namesL D.line) : ∀ n : Nat, ZZ ∉ namesL (D.after n).line
  | 0 => x
  | n + 1 => fun z => after_noZ x n ((turn_names (D.after n)).mem_iff.mp z)
theorem cell_at {ns : List Int} {i : Nat} (h : i < ns.length) : atI (ns.map V.int) (i : Int) = some (.int ns[i]) := atI_nat (by rw [List.getElem?_map, List.getElem?_eq_getElem h]; rfl)
theorem ok_law (T : Tx K mg base) {fd : FuncData} (F : FunD K "law" "law" (defArgs s_law) (defBody s_law) (defScope s_law) [] [] (He.fAd K ("law", none)) fd) : FnOk P w K mg base (L2N.CX P w) 9 (He.ga K "law") fd ["_law_script"] (sp_law K) := by
  have c__law_cell_at : Cal P w K mg base 1 "_law_cell_at" (sp_cell K) := c__law_cell_at T
  have c__law_mix : Cal P w K mg base 1 "_law_mix" sp_mix := c__law_mix T
  have c__law_room_by : Cal P w K mg base 1 "_law_room_by" (sp_room_by K) := c__law_room_by T
  have c__law_pace_by : Cal P w K mg base 2 "_law_pace_by" (sp_pace_by K) := c__law_pace_by T
  have c__law_opened : Cal P w K mg base 7 "_law_opened" (sp_opened K) := c__law_opened T
  have c__law_crowd : Cal P w K mg base 4 "_law_crowd" (sp_crowd K) := c__law_crowd T
  have c__law_many : Cal P w K mg base 2 "_law_many" (sp_many K) := c__law_many T
  have c__law_few : Cal P w K mg base 2 "_law_few" sp_few := c__law_few T
  have c__law_started : Cal P w K mg base 7 "_law_started" (sp_started K) := c__law_started T
  have c__law_turns : Cal P w K mg base 7 "_law_turns" (sp_lturns K) := c__law_turns T
  have c__law_done : Cal P w K mg base 5 "_law_done" (sp_done K) := c__law_done T
  have c__law_good : Cal P w K mg base 8 "_law_good" (sp_good K) := c__law_good T
  have c__law_stands : Cal P w K mg base 7 "_law_stands" (sp_lstands K) := c__law_stands T
  have c_shown : Cal P w K mg base 4 "shown" (sp_shown K) := c_shown T
  have c_read : Cal P w K mg base 6 "read" (sp_read K) := c_read T
  refine okF (k := 8) (at_ := ("law", none)) F sc_law (fun vs H Q E h => ?_) (fun A outer s H vs Q E hr h => ?_)
  · obtain ⟨a, ns, rfl, _⟩ := h
    rfl
  · have nd := sc_law.nd
    obtain ⟨a, ns, rfl, hS, hlen, hT, hM, hLam, q⟩ := h
    refine ⟨_, (pss_cons (ps_set (i := 1) nd rfl (Or.inl rfl) (pf c__law_cell_at hr (by decide) (by rfl) p0 (pa_cons (pv 0) (pa_cons pe_int pa_nil))))
  (pss_cons (ps_set (i := 2) nd rfl (Or.inl rfl) (pf c__law_room_by hr (by decide) (by rfl) p0 (pa_cons (pf c__law_cell_at hr (by decide) (by rfl) p0 (pa_cons (pv 0) (pa_cons pe_int pa_nil))) pa_nil)))
  (pss_cons (ps_set (i := 3) nd rfl (Or.inl rfl) (pf c__law_pace_by hr (by decide) (by rfl) p0 (pa_cons (pf c__law_cell_at hr (by decide) (by rfl) p0 (pa_cons (pv 0) (pa_cons pe_int pa_nil))) pa_nil)))
  (pss_cons (ps_set (i := 4) nd rfl (Or.inl rfl) (pf c__law_opened hr (by decide) (by rfl) p0 (pa_cons (pv 3) (pa_cons (pv 2) (pa_cons (pf c__law_cell_at hr (by decide) (by rfl) p0 (pa_cons (pv 0) (pa_cons pe_int pa_nil))) pa_nil)))))
  (pss_cons (ps_set (i := 5) nd rfl (Or.inl rfl) (pf c__law_crowd hr (by decide) (by rfl) p0 (pa_cons (pv 4) (pa_cons (pf c__law_many hr (by decide) (by rfl) p0 (pa_cons (pv 0) (pa_cons (pv 2) pa_nil))) (pa_cons (pv 1) (pa_cons (pf c__law_cell_at hr (by decide) (by rfl) p0 (pa_cons (pv 0) (pa_cons pe_int pa_nil))) pa_nil))))))
  (pss_cons (ps_set (i := 6) nd rfl (Or.inl rfl) (pf c__law_started hr (by decide) (by rfl) p0 (pa_cons (pv 3) (pa_cons (pv 2) (pa_cons (pv 0) pa_nil)))))
  (pss_cut (ps_if (pt_cmpR op_notN (pv 6) pe_non (nomark _))
  (pss_one (ps_asg (pv 6) (pg_tup rfl (pgs_cons (pg_name (i := 4) nd rfl (Or.inl rfl)) (pgs_cons (pg_name (i := 5) nd rfl (Or.inl rfl)) pgs_nil)))))
  pss_nil)
  (pss_cons (ps_set (i := 7) nd rfl (Or.inl rfl) (pe_fld (pv 4) rfl))
  (pss_cons (ps_set (i := 8) nd rfl (Or.inl rfl) pe_bl)
  (pss_cons (ps_set (i := 9) nd rfl (Or.inl rfl) (pe_callB (call_min2 rfl) (by rfl) T.m_min (by decide +kernel) (pa_cons pe_int (pa_cons (pe_callB call_len_seq (by rfl) T.m_len boot_len (pa_cons (pv 0) pa_nil)) pa_nil))))
  (pss_cons (ps_for (passes_of rfl) rfl (pi_range2 (by rfl) T.m_range (pa_cons pe_int (pa_cons (pv 9) pa_nil))) (pg_name (i := 10) nd rfl (Or.inl rfl))
  (pss_cut (ps_if (pt_cmpR op_eq (pv 10) (pe_op op_add pe_int (pe_op op_fdiv (pv 9) pe_int)) (nomark _))
  (pss_one (ps_set (i := 4) nd rfl (Or.inl rfl) (pf c_read hr (by decide) (by rfl) (pU (L2N.takes_of rfl rfl rfl rfl)) (pa_cons (pf c_shown hr (by decide) (by rfl) p0 (pa_cons (pv 4) pa_nil)) pa_nil))))
  pss_nil)
  (pss_cut (ps_if (pt_cmpR op_eq (pf c__law_mix hr (by decide) (by rfl) p0 (pa_cons (pe_ix ix_list (pv 0) (pv 10) (fun _ _ => rfl)) (pa_cons pe_int (pa_cons pe_int pa_nil)))) pe_int (nomark _))
  (pss_cons (ps_set (i := 11) nd rfl (Or.inl rfl) (pf c__law_few hr (by decide) (by rfl) p0 (pa_cons (pe_ix ix_list (pv 0) (pv 10) (fun _ _ => rfl)) (pa_cons (pe_callB call_len_seq (by rfl) T.m_len boot_len (pa_cons (pv 5) pa_nil)) pa_nil))))
  (pss_cons (ps_set (i := 5) nd rfl (Or.inl rfl) (pf c__law_turns hr (by decide) (by rfl) p0 (pa_cons (pv 4) (pa_cons (pv 5) (pa_cons (pv 11) (pa_cons (pv 3) (pa_cons (pe_ix ix_list (pv 0) (pv 10) (fun _ _ => rfl)) pa_nil)))))))
  (pss_cons (ps_set (i := 7) nd rfl (Or.inl rfl) (pe_op op_add (pv 7) (pv 11)))
  (pss_one (ps_if (pt_cmpR op_isN (pv 5) pe_non (nomark _))
  (pss_one (ps_ret pe_bl))
  pss_nil)))))
  (pss_one (ps_if (PW.pt (pw_and (pt_cmpR (op_neD hr.units) (pv 5) (pe_lst pa_nil) (nomark _)) (pw_and1 (pt_cmpR op_eq (pf c__law_mix hr (by decide) (by rfl) p0 (pa_cons (pe_ix ix_list (pv 0) (pv 10) (fun _ _ => rfl)) (pa_cons pe_int (pa_cons pe_int pa_nil)))) pe_int (nomark _)))))
  (pss_one (ps_if (pt_not (pt_val (pf c__law_good hr (by decide) (by rfl) p0 (pa_cons (pv 4) (pa_cons (pv 5) (pa_cons (pe_ix ix_list (pv 0) (pv 10) (fun _ _ => rfl)) pa_nil))))))
  (pss_one (ps_ret pe_bl))
  pss_nil))
  (pss_cons (ps_set (i := 5) nd rfl (Or.inl rfl) (pf c__law_done hr (by decide) (by rfl) p0 (pa_cons (pv 4) (pa_cons (pv 5) (pa_cons (pv 7) (pa_cons (pe_ix ix_list (pv 0) (pv 10) (fun _ _ => rfl)) (pa_cons (pv 1) pa_nil)))))))
  (pss_one (ps_if (pt_cmpR op_isN (pv 5) pe_non (nomark _))
  (pss_one (ps_ret pe_bl))
  pss_nil))))))
  (pss_cut (ps_if (PW.pt (pw_or (pt_cmpR op_lt (pe_callB call_len_seq (by rfl) T.m_len boot_len (pa_cons (pv 5) pa_nil)) pe_int (nomark _)) (pw_or1 (pt_cmpR op_eq (pe_op op_mod (pe_ix ix_list (pv 0) (pv 10) (fun _ _ => rfl)) pe_int) pe_int (nomark _)))))
  (pss_one (ps_set (i := 8) nd rfl (Or.inl rfl) (pf c__law_stands hr (by decide) (by rfl) p0 (pa_cons (pv 4) (pa_cons (pv 5) (pa_cons (pv 7) (pa_cons (pv 3) (pa_cons (pe_ix ix_list (pv 0) (pv 10) (fun _ _ => rfl)) pa_nil))))))))
  pss_nil)
  (pss_one (ps_if (pt_not (pt_val (pv 8)))
  (pss_one (ps_ret pe_bl))
  pss_nil))))))
  (pss_one (ps_ret (pf c__law_stands hr (by decide) (by rfl) p0 (pa_cons (pv 4) (pa_cons (pv 5) (pa_cons (pv 7) (pa_cons (pv 3) (pa_cons (pv 1) pa_nil))))))))))))))))))), ?_⟩
    refine ⟨_, rfl, a, ns, 0, rfl, hS, by decide, ?_⟩
    refine ⟨_, rfl, a, ns, 2, rfl, hS, by decide, _, rfl, fun r H1 k1 hr9 => ?_⟩
    have hS1 := k1.seq hS fun _ _ => List.not_mem_nil
    refine ⟨_, rfl, a, ns, 3, rfl, hS1, by decide, _, rfl, fun H2 k2 => ?_⟩
    have k12 := k1.trans k2
    have hS2 := k12.seq hS fun _ _ => List.not_mem_nil
    refine ⟨_, rfl, _, rfl, _, rfl, a, ns, 3, rfl, hS2, by decide, _, r, _, rfl, ⟨pace_ok _, hr9⟩, k12.tab _ hT, k12.tab _ hM, fun d n S3 H3 k3 f3 hn hD3 => ?_⟩
    have k13 := k12.trans k3
    have hS3 := k13.seq hS fun _ _ => List.not_mem_nil
    refine ⟨_, rfl, _, rfl, _, rfl, a, ns, r, rfl, hS3, hr9.1, hr9.2, fun m hm => ⟨_, rfl, _, rfl, a, ns, 2, rfl, hS3, by decide, d, S3, _, r, n, m, _, _, rfl, hD3, hn.1, hm, k13.tab _ hT, fun D S4 b H4 k4 s4 hD4 hL4 sD4 e4 hr4 hz4 => ?_⟩⟩
    have f4 : ∀ z ∈ S3, H z = none := fun z hz => k12.gone z (f3 z hz)
    have k14 : Keep K [] H H4 := k13.trans' k4 fun z hz => .inr (f4 z hz)
    have hS4 := k14.seq hS fun _ _ => List.not_mem_nil
    have f44 : ∀ z ∈ S4, H z = none := fun z hz => (s4 z hz).elim (f4 z) (k13.gone z)
    refine ⟨_, rfl, _, rfl, _, rfl, a, ns, _, r, rfl, hS4, ⟨pace_ok _, hr9⟩, k14.tab _ hT, k14.tab _ hM, fun v H5 k5 hv => ?_⟩
    have k15 := k14.trans k5
    refine ⟨fun σ' H' => Keep K [] H H' ∧ ∃ v6 d b S D, σ' = [some (.ref a), some (.int (cell ns 0)), some (.int r), some (.int D.pace), some (.ref d), some (.ref b), v6, none, none, none, none, none] ∧ (∀ z ∈ S, H z = none) ∧ DkAt K H' S d D ∧ Sound D ∧ LnAt H' b D.line ∧ D.now ≤ 999999900000 ∧ ZZ ∉ namesL D.line, ?_, ?_⟩
    · rcases hv with rfl | ⟨t, d2, l2, S2, D2, rfl, ht, hD2, hL2, s2, z2, n2, g2, e1, e2⟩
      · exact ⟨_, rfl, rfl, _, rfl, iteF ⟨k15, some .non, d, b, S4, D, by rw [e4.1]; rfl, f44, hD4.keep0 k5, sD4, hL4.keep0 k5, by rw [e4.2.2]; omega, hz4⟩⟩
      · exact ⟨_, rfl, rfl, _, rfl, iteT ⟨_, rfl, t, _, rfl, .inl (.inl ht), rfl, _, _, rfl, _, _, rfl, rfl, k15, some (.ref t), d2, l2, S2, D2, by rw [e1]; rfl, fun z hz => k14.gone z (g2 z hz), hD2, s2, hL2, by omega, z2⟩⟩
    clear hv e4 hD4 hL4 sD4 hz4 f44 s4 k4 hr4
    rintro σ' H6 ⟨k6, v6, d, b, S, D, rfl, f6, hD, sD, hL, hnw, hz⟩
    have hS6 := k6.seq hS fun _ _ => List.not_mem_nil
    obtain ⟨L, ln, eS, x⟩ := id hD
    obtain ⟨dx, hd⟩ := id x.desk
    refine ⟨_, rfl, d, _, _, _, _, rfl, hd, T.cl_Desk, T.na_Desk_now, rfl, ?_⟩
    refine ⟨_, rfl, a, _, rfl, .inl hS6, _, _, rfl, ?_⟩
    rw [List.length_map, if_pos (show ((ns.length : Int)) < 84 by omega)]
    refine ⟨_, rfl, 4, (ns.length : Int), rfl, ⟨by decide, by decide, by omega, by omega⟩, ?_⟩
    refine for_it walk_range (fun i σ H' => ∃ D d S b v10 v11, σ = [some (.ref a), some (.int (cell ns 0)), some (.int r), some (.int D.pace), some (.ref d), some (.ref b), v6, some (.int D.now), some (.bl true), some (.int ns.length), v10, v11] ∧ Keep K [] H H' ∧ (∀ z ∈ S, H z = none) ∧ DkAt K H' S d D ∧ Sound D ∧ LnAt H' b D.line ∧ D.now ≤ 999999900000 + 1000 * i ∧ ZZ ∉ namesL D.line)
      ⟨D, d, S, b, none, none, rfl, k6, f6, hD, sD, hL, by omega, hz⟩ (fun _ _ _ _ _ => trivial) ?_ ?_
    · clear hD hL sD hz hnw f6 x hd
      rintro i v σ H7 H8 hi ⟨D, d, S, b, v10, v11, rfl, k7, f7, hD, sD, hL, hnw, hz⟩ ⟨rfl, rfl⟩
      have hS7 := k7.seq hS fun _ _ => List.not_mem_nil
      have hT7 := k7.tab _ hT
      have hM7 := k7.tab _ hM
      have hi4 : 4 + i < ns.length := by omega
      have hat := cell_at hi4
      have e4 : ((4 + i : Nat) : Int) = 4 + (i : Int) := by omega
      rw [e4] at hat
      generalize ns[4 + i] = c at hat
      refine ⟨fun σ' H9 => ∃ d S, σ' = [some (.ref a), some (.int (cell ns 0)), some (.int r), some (.int D.pace), some (.ref d), some (.ref b), v6, some (.int D.now), some (.bl true), some (.int ns.length), some (.int (4 + (i : Int))), v11] ∧ Keep K [] H H9 ∧ (∀ z ∈ S, H z = none) ∧ DkAt K H9 S d D ∧ LnAt H9 b D.line, ?_, ?_⟩
      · refine ⟨_, rfl, _, rfl, _, _, rfl, rfl, ⟨by decide, by decide⟩, _, _, rfl, rfl, rfl, _, rfl, ite2 (fun _ => ?_) (fun _ => ⟨d, S, rfl, k7, f7, hD, hL⟩)⟩
        have g : GoodD D := sD.good (by omega)
        refine ⟨_, rfl, d, S, D, rfl, hD, g, fun H9 k9 => ⟨D, rfl, g, k9.tab _ hT7, k9.tab _ hM7, fun o So H10 k10 f10 hO => ?_⟩⟩
        exact ⟨o, So, rfl, (k7.trans k9).trans k10, fun z hz => k7.gone z (k9.gone z (f10 z hz)), hO, (hL.keep0 k9).keep0 k10⟩
      clear hD hL f7 hS7 hT7 hM7
      rintro σ' H9 ⟨d, S, rfl, k9, f9, hD, hL⟩
      have hS9 := k9.seq hS fun _ _ => List.not_mem_nil
      have hT9 := k9.tab _ hT
      refine ⟨fun σ' H10 => ∃ D S b v11, σ' = [some (.ref a), some (.int (cell ns 0)), some (.int r), some (.int D.pace), some (.ref d), some (.ref b), v6, some (.int D.now), some (.bl true), some (.int ns.length), some (.int (4 + (i : Int))), v11] ∧ Keep K [] H H10 ∧ (∀ z ∈ S, H z = none) ∧ DkAt K H10 S d D ∧ Sound D ∧ LnAt H10 b D.line ∧ D.now ≤ 999999900000 + 1000 * (i + 1) ∧ ZZ ∉ namesL D.line, ?_, ?_⟩
      · obtain ⟨ps, el, ha, hps⟩ := id hL
        have l60 := sD.len60
        rw [el, List.length_map] at l60
        refine ⟨_, rfl, _, rfl, a, _, _, _, rfl, rfl, hS9, hat, c, 10169, 2, rfl, by decide, by decide, rfl, _, rfl, ite2 (fun _ => ?_) (fun _ => ?_)⟩
        · refine ⟨_, rfl, _, rfl, a, _, _, _, rfl, rfl, hS9, hat, _, rfl, b, _, rfl, .inl (.inl (.inl ha)), c, _, rfl, by omega, by rw [List.length_map]; omega, fun m hm => ?_⟩
          refine ⟨_, rfl, _, rfl, _, rfl, _, rfl, _, rfl, _, rfl, a, _, _, _, rfl, rfl, hS9, hat, d, b, S, D, m, c, rfl, hD, sD, hL, hm, fun S8 b8 H8 k8 s8 hD8 hL8 => ?_⟩
          have en : D.now + m = (D.after m.toNat).now := by rw [after_now, Int.toNat_of_nonneg hm.1]
          have pr := after_pr D m.toNat
          refine ⟨_, rfl, _, rfl, _, _, rfl, rfl, _, rfl, rfl, _, rfl, iteF ?_⟩
          exact ⟨D.after m.toNat, S8, b8, _, by rw [pr.1, ← en]; rfl, k9.trans' k8 (fun z hz => .inr (f9 z hz)), fun z hz => (s8 z hz).elim (f9 z) (k9.gone z), hD8, sD.after _, hL8, by rw [← en]; omega, after_noZ hz _⟩
        · refine ⟨_, rfl, (show 0 ≤ sizeLine by decide), fun e ne => ?_⟩
          have ke : Keep K [] H9 (L2.upd H9 e (.lst [])) := Keep.new ne
          have hLe := hL.keep0 ke
          have hDe := hD.keep0 ke
          have hSe := ke.seq hS9 fun _ _ => List.not_mem_nil
          have hTe := ke.tab _ hT9
          have ke9 := k9.trans ke
          refine ⟨_, _, hLe.dp, .lst (.inl (.inl upd_same)) .nil, rows_shaped (now := D.now) (fun c hc => ⟨sD.ok c hc, sD.st c hc⟩), rfl, ?_⟩
          rw [eqv_empty]
          refine ⟨_, rfl, ?_⟩
          generalize L2.upd H9 e (.lst []) = He at ke hLe hDe hSe hTe ke9 ⊢
          by_cases eL : D.line = []
          · rw [decide_eq_true eL]
            refine iteF ?_
            obtain ⟨L9, ln9, eS9, x9⟩ := id hDe
            obtain ⟨dx9, hd9⟩ := id x9.desk
            refine ⟨_, rfl, _, rfl, _, rfl, _, rfl, _, rfl, a, _, _, _, rfl, rfl, hSe, hat, _, rfl, d, b, S, D, c, _, rfl, hDe, sD, hLe, hTe, fun D8 S8 b8 H8 dd k8 s8 hD8 hL8 => ?_⟩
            have pr := dd.pr
            exact ⟨_, rfl, rfl, _, rfl, iteF ⟨D8, S8, b8, _, by rw [pr.1, pr.2.2]; rfl, ke9.trans' k8 (fun z hz => .inr (f9 z hz)), fun z hz => (s8 z hz).elim (f9 z) (ke9.gone z), hD8, dd.sound sD, hL8, by rw [pr.2.2]; omega, dd.noZ hz⟩⟩
          · rw [decide_eq_false eL]
            refine iteT ⟨_, rfl, _, rfl, a, _, _, _, rfl, rfl, hSe, hat, c, 10289, 5, rfl, by decide, by decide, rfl, _, rfl, ite2 (fun _ => ?_) (fun _ => ?_)⟩
            · refine ⟨_, rfl, _, rfl, _, rfl, _, rfl, a, _, _, _, rfl, rfl, hSe, hat, d, b, S, D, c, rfl, hDe, sD, hLe, eL, hTe, hz, fun H8 k8 => ⟨_, rfl, iteF ?_⟩⟩
              exact ⟨D, S, b, _, rfl, ke9.trans k8, f9, hDe.keep0 k8, sD, hLe.keep0 k8, by omega, hz⟩
            · obtain ⟨L9, ln9, eS9, x9⟩ := id hDe
              obtain ⟨dx9, hd9⟩ := id x9.desk
              refine ⟨_, rfl, _, rfl, _, rfl, _, rfl, _, rfl, a, _, _, _, rfl, rfl, hSe, hat, _, rfl, d, b, S, D, c, _, rfl, hDe, sD, hLe, hTe, fun D8 S8 b8 H8 dd k8 s8 hD8 hL8 => ?_⟩
              have pr := dd.pr
              exact ⟨_, rfl, rfl, _, rfl, iteF ⟨D8, S8, b8, _, by rw [pr.1, pr.2.2]; rfl, ke9.trans' k8 (fun z hz => .inr (f9 z hz)), fun z hz => (s8 z hz).elim (f9 z) (ke9.gone z), hD8, dd.sound sD, hL8, by rw [pr.2.2]; omega, dd.noZ hz⟩⟩
      clear hD hL f9 hS9 hT9 sD hz hnw
      rintro σ' H10 ⟨D, S, b, v11, rfl, k10, f10, hD, sD, hL, hnw, hz⟩
      have hS10 := k10.seq hS fun _ _ => List.not_mem_nil
      refine ⟨fun σ' H11 => σ' = [some (.ref a), some (.int (cell ns 0)), some (.int r), some (.int D.pace), some (.ref d), some (.ref b), v6, some (.int D.now), some (.bl true), some (.int ns.length), some (.int (4 + (i : Int))), v11] ∧ Keep K [] H10 H11, ?_, ?_⟩
      · obtain ⟨ps, el, ha, hps⟩ := id hL
        have st : ∀ (R : Prop), R → R := fun _ h => h
        refine ⟨_, rfl, b, _, rfl, .inl (.inl (.inl ha)), _, _, rfl, rfl, _, rfl, ite2 (fun _ => ?_) (fun _ => ?_)⟩
        · exact ⟨_, rfl, _, rfl, _, rfl, _, rfl, _, rfl, _, rfl, a, _, _, _, rfl, rfl, hS10, hat, d, b, S, D, c, rfl, hD, sD, hL, k10.lam hLam, fun H11 k11 => ⟨rfl, k11⟩⟩
        · refine ⟨_, rfl, _, rfl, a, _, _, _, rfl, rfl, hS10, hat, _, _, rfl, rfl, (show (0 : Int) < 5 by decide), rfl, _, rfl, ite2 (fun _ => ?_) (fun _ => ⟨rfl, Keep.refl _ _⟩)⟩
          exact ⟨_, rfl, _, rfl, _, rfl, _, rfl, _, rfl, _, rfl, a, _, _, _, rfl, rfl, hS10, hat, d, b, S, D, c, rfl, hD, sD, hL, k10.lam hLam, fun H11 k11 => ⟨rfl, k11⟩⟩
      rintro σ' H11 ⟨rfl, k11⟩
      exact ⟨_, rfl, _, rfl, iteF ⟨D, d, S, b, _, _, rfl, k10.trans k11, f10, hD.keep0 k11, sD, hL.keep0 k11, by omega, hz⟩⟩
    · rintro σ H7 ⟨D, d, S, b, v10, v11, rfl, k7, f7, hD, sD, hL, hnw, hz⟩
      exact ⟨_, rfl, _, rfl, _, rfl, _, rfl, _, rfl, d, b, S, D, _, rfl, hD, sD, hL, k7.lam hLam, fun H8 k8 => q H8⟩
theorem law_sp {H : Hp} {a : Addr} {ns : List Int} (tabs : ∀ q ∈ tf, TabG H (He.tabOf K (He.codeOf K q))) (nils : ∀ q ∈ tf, H (He.tabOf K (He.codeOf K q)) = some (.tbl #[])) (hl : ns.length ≤ 63) (hb : ∀ z ∈ ns, Builtin.Int.intBits z ≤ 1048576) (hS : SqL K H a (ns.map V.int)) :
    sp_law K [.ref a] H (fun v _ => v = .bl true) fun _ _ _ => False := ⟨a, ns, rfl, hS, hl, tabs ("is_name", none) (by simp [tf]), tabs ("number", none) (by simp [tf]), LamX.TabS.nil (nils ("Desk", some "ready") (by simp [tf])), fun _ => rfl⟩
theorem GxR_triples : TriplesOk (#[] : Array Value).toList := by first | exact trivial | simp [TriplesOk] | exact .nil
end
end Rr

set_option maxRecDepth 100000
set_option maxHeartbeats 0
namespace Rr
open PySem PySem.Spec PyProof.Rows L2
theorem tx_of {w : World} {h : Heap} {K : PySem.W.Frag} {mg : Str → Option Value} {base : Heap} (X : K.In h) (G : h.Ns mainGlobals mg) (c : He.SaysX fa fn [] tf ex w h K) (TB : ∀ p ∈ tf.map (He.cT K), LamX.TabB base mg p.1 p.2) : Tx K mg base := ⟨He.free_ok X G (c.t.d.fact 0 (f := .free "all") rfl),
  He.free_ok X G (c.t.d.fact 1 (f := .free "len") rfl),
  He.free_ok X G (c.t.d.fact 2 (f := .free "enumerate") rfl),
  He.free_ok X G (c.t.d.fact 3 (f := .free "range") rfl),
  He.free_ok X G (c.t.d.fact 4 (f := .free "list") rfl),
  He.free_ok X G (c.t.d.fact 5 (f := .free "any") rfl),
  He.free_ok X G (c.t.d.fact 6 (f := .free "int") rfl),
  He.free_ok X G (c.t.d.fact 7 (f := .free "bool") rfl),
  He.free_ok X G (c.t.d.fact 8 (f := .free "isinstance") rfl),
  He.free_ok X G (c.t.d.fact 9 (f := .free "str") rfl),
  He.free_ok X G (c.t.d.fact 10 (f := .free "min") rfl),
  He.free_ok X G (c.t.d.fact 11 (f := .free "max") rfl),
  He.free_ok X G (c.t.d.fact 12 (f := .free "ValueError") rfl),
  He.free_ok X G (c.t.d.fact 13 (f := .free "sum") rfl),
  He.free_ok X G (c.t.d.fact 14 (f := .free "sorted") rfl),
  He.str_ok X G (c.t.d.fact 15 (f := .str "READY" "ready") rfl),
  He.int_ok X G (c.t.d.fact 16 (f := .int "MOST_SIGNS" 12) rfl),
  He.str_ok X G (c.t.d.fact 17 (f := .str "SIGNS" "abcdefghijklmnopqrstuvwxyz0123456789") rfl),
  He.int_ok X G (c.t.d.fact 18 (f := .int "TOP" 99) rfl),
  He.int_ok X G (c.t.d.fact 19 (f := .int "MOST_TURNS" 1000) rfl),
  He.int_ok X G (c.t.d.fact 20 (f := .int "MOST_PACE" 1000) rfl),
  He.int_ok X G (c.t.d.fact 21 (f := .int "MOST_ROOM" 60) rfl),
  He.str_ok X G (c.t.d.fact 22 (f := .str "ASLEEP" "asleep") rfl),
  He.str_ok X G (c.t.d.fact 23 (f := .str "WAITING" "waiting") rfl),
  He.str_ok X G (c.t.d.fact 24 (f := .str "HEAD" "desk") rfl),
  He.int_ok X G (c.t.d.fact 25 (f := .int "WORDS" 4) rfl),
  He.str_ok X G (c.t.d.fact 26 (f := .str "FIGURES" "0123456789") rfl),
  He.int_ok X G (c.t.d.fact 27 (f := .int "MOST_FIGURES" 12) rfl),
  He.glo_ok X G (c.t.d.fact 28 (f := .glo "Caller") rfl),
  He.glo_ok X G (c.t.d.fact 29 (f := .glo "DeskError") rfl),
  He.glo_ok X G (c.t.d.fact 30 (f := .glo "NoName") rfl),
  He.glo_ok X G (c.t.d.fact 31 (f := .glo "NoRank") rfl),
  He.glo_ok X G (c.t.d.fact 32 (f := .glo "NoSpan") rfl),
  He.glo_ok X G (c.t.d.fact 33 (f := .glo "NoDesk") rfl),
  He.glo_ok X G (c.t.d.fact 34 (f := .glo "Known") rfl),
  He.glo_ok X G (c.t.d.fact 35 (f := .glo "Unknown") rfl),
  He.glo_ok X G (c.t.d.fact 36 (f := .glo "Full") rfl),
  He.glo_ok X G (c.t.d.fact 37 (f := .glo "NotReady") rfl),
  He.glo_ok X G (c.t.d.fact 38 (f := .glo "IsReady") rfl),
  He.glo_ok X G (c.t.d.fact 39 (f := .glo "Desk") rfl),
  He.exc_ok (c.t.d.fact 40 (f := .exc "DeskError") rfl),
  He.exc_ok (c.t.d.fact 41 (f := .exc "NoName") rfl),
  He.exc_ok (c.t.d.fact 42 (f := .exc "NoRank") rfl),
  He.exc_ok (c.t.d.fact 43 (f := .exc "NoSpan") rfl),
  He.exc_ok (c.t.d.fact 44 (f := .exc "NoDesk") rfl),
  He.exc_ok (c.t.d.fact 45 (f := .exc "Known") rfl),
  He.exc_ok (c.t.d.fact 46 (f := .exc "Unknown") rfl),
  He.exc_ok (c.t.d.fact 47 (f := .exc "Full") rfl),
  He.exc_ok (c.t.d.fact 48 (f := .exc "NotReady") rfl),
  He.exc_ok (c.t.d.fact 49 (f := .exc "IsReady") rfl),
  He.exm_ok (c.t.d.fact 50 (f := .exm "NoName" "DeskError" true) rfl),
  He.exm_ok (c.t.d.fact 51 (f := .exm "NoRank" "DeskError" true) rfl),
  He.exm_ok (c.t.d.fact 52 (f := .exm "NoSpan" "DeskError" true) rfl),
  He.exm_ok (c.t.d.fact 53 (f := .exm "NoDesk" "DeskError" true) rfl),
  He.exm_ok (c.t.d.fact 54 (f := .exm "Known" "DeskError" true) rfl),
  He.exm_ok (c.t.d.fact 55 (f := .exm "Unknown" "DeskError" true) rfl),
  He.exm_ok (c.t.d.fact 56 (f := .exm "Full" "DeskError" true) rfl),
  He.exm_ok (c.t.d.fact 57 (f := .exm "NotReady" "DeskError" true) rfl),
  He.exm_ok (c.t.d.fact 58 (f := .exm "IsReady" "DeskError" true) rfl),
  He.cls_ok (c.t.d.fact 59 (f := .cls "Caller") rfl),
  He.mkr_ok (c.t.d.fact 60 (f := .mkr "Caller") rfl),
  He.noat_ok (c.t.d.fact 61 (f := .noat "Caller" "bell") rfl),
  He.noat_ok (c.t.d.fact 62 (f := .noat "Caller" "due") rfl),
  He.noat_ok (c.t.d.fact 63 (f := .noat "Caller" "name") rfl),
  He.noat_ok (c.t.d.fact 64 (f := .noat "Caller" "rank") rfl),
  He.noat_ok (c.t.d.fact 65 (f := .noat "Caller" "since") rfl),
  He.noat_ok (c.t.d.fact 66 (f := .noat "Caller" "state") rfl),
  He.cls_ok (c.t.d.fact 67 (f := .cls "Desk") rfl),
  He.mkr_ok (c.t.d.fact 68 (f := .mkr "Desk") rfl),
  He.noat_ok (c.t.d.fact 69 (f := .noat "Desk" "_line") rfl),
  He.noat_ok (c.t.d.fact 70 (f := .noat "Desk" "now") rfl),
  He.noat_ok (c.t.d.fact 71 (f := .noat "Desk" "pace") rfl),
  He.noat_ok (c.t.d.fact 72 (f := .noat "Desk" "room") rfl),
  He.meth_ok (c.t.d.fact 73 (f := .meth "Caller" "become") rfl),
  He.meth_ok (c.t.d.fact 74 (f := .meth "Caller" "alike") rfl),
  He.glo_ok X G (c.t.d.fact 75 (f := .glo "is_name") rfl),
  He.glo_ok X G (c.t.d.fact 76 (f := .glo "aged") rfl),
  He.glo_ok X G (c.t.d.fact 77 (f := .glo "first") rfl),
  He.glo_ok X G (c.t.d.fact 78 (f := .glo "check_name") rfl),
  He.glo_ok X G (c.t.d.fact 79 (f := .glo "check_rank") rfl),
  He.glo_ok X G (c.t.d.fact 80 (f := .glo "check_span") rfl),
  He.glo_ok X G (c.t.d.fact 81 (f := .glo "check_ready") rfl),
  He.glo_ok X G (c.t.d.fact 82 (f := .glo "check_not_ready") rfl),
  He.meth_ok (c.t.d.fact 83 (f := .meth "Desk" "enter") rfl),
  He.meth_ok (c.t.d.fact 84 (f := .meth "Desk" "leave") rfl),
  He.meth_ok (c.t.d.fact 85 (f := .meth "Desk" "sleep") rfl),
  He.meth_ok (c.t.d.fact 86 (f := .meth "Desk" "wait") rfl),
  He.meth_ok (c.t.d.fact 87 (f := .meth "Desk" "wake") rfl),
  He.meth_ok (c.t.d.fact 88 (f := .meth "Desk" "ring") rfl),
  He.meth_ok (c.t.d.fact 89 (f := .meth "Desk" "rerank") rfl),
  He.meth_ok (c.t.d.fact 90 (f := .meth "Desk" "turn") rfl),
  He.meth_ok (c.t.d.fact 91 (f := .meth "Desk" "run") rfl),
  He.meth_ok (c.t.d.fact 92 (f := .meth "Desk" "foretold") rfl),
  He.meth_ok (c.t.d.fact 93 (f := .meth "Desk" "names") rfl),
  He.meth_ok (c.t.d.fact 94 (f := .meth "Desk" "ready") rfl),
  He.meth_ok (c.t.d.fact 95 (f := .meth "Desk" "state") rfl),
  He.meth_ok (c.t.d.fact 96 (f := .meth "Desk" "rank") rfl),
  He.meth_ok (c.t.d.fact 97 (f := .meth "Desk" "waited") rfl),
  He.meth_ok (c.t.d.fact 98 (f := .meth "Desk" "left") rfl),
  He.meth_ok (c.t.d.fact 99 (f := .meth "Desk" "bell") rfl),
  He.meth_ok (c.t.d.fact 100 (f := .meth "Desk" "twin") rfl),
  He.meth_ok (c.t.d.fact 101 (f := .meth "Desk" "_known") rfl),
  He.meth_ok (c.t.d.fact 102 (f := .meth "Desk" "_waited") rfl),
  He.meth_ok (c.t.d.fact 103 (f := .meth "Desk" "_ready_callers") rfl),
  He.meth_ok (c.t.d.fact 104 (f := .meth "Desk" "_chosen") rfl),
  He.meth_ok (c.t.d.fact 105 (f := .meth "Desk" "_make_ready") rfl),
  He.meth_ok (c.t.d.fact 106 (f := .meth "Desk" "_go_last") rfl),
  He.glo_ok X G (c.t.d.fact 107 (f := .glo "shown") rfl),
  He.glo_ok X G (c.t.d.fact 108 (f := .glo "doing") rfl),
  He.glo_ok X G (c.t.d.fact 109 (f := .glo "read") rfl),
  He.glo_ok X G (c.t.d.fact 110 (f := .glo "begun") rfl),
  He.glo_ok X G (c.t.d.fact 111 (f := .glo "seat") rfl),
  He.glo_ok X G (c.t.d.fact 112 (f := .glo "seat_ready") rfl),
  He.glo_ok X G (c.t.d.fact 113 (f := .glo "words_of") rfl),
  He.glo_ok X G (c.t.d.fact 114 (f := .glo "number") rfl),
  He.glo_ok X G (c.t.d.fact 115 (f := .glo "_law_whole") rfl),
  He.glo_ok X G (c.t.d.fact 116 (f := .glo "_law_cell_at") rfl),
  He.glo_ok X G (c.t.d.fact 117 (f := .glo "_law_mix") rfl),
  He.glo_ok X G (c.t.d.fact 118 (f := .glo "_law_name_by") rfl),
  He.glo_ok X G (c.t.d.fact 119 (f := .glo "_law_texts") rfl),
  He.glo_ok X G (c.t.d.fact 120 (f := .glo "_law_put") rfl),
  He.glo_ok X G (c.t.d.fact 121 (f := .glo "_law_after") rfl),
  He.glo_ok X G (c.t.d.fact 122 (f := .glo "_law_rank_by") rfl),
  He.glo_ok X G (c.t.d.fact 123 (f := .glo "_law_pace_by") rfl),
  He.glo_ok X G (c.t.d.fact 124 (f := .glo "_law_opened") rfl),
  He.glo_ok X G (c.t.d.fact 125 (f := .glo "_law_crowd") rfl),
  He.glo_ok X G (c.t.d.fact 126 (f := .glo "_law_bell_by") rfl),
  He.glo_ok X G (c.t.d.fact 127 (f := .glo "_law_rung") rfl),
  He.glo_ok X G (c.t.d.fact 128 (f := .glo "_law_slept") rfl),
  He.glo_ok X G (c.t.d.fact 129 (f := .glo "_law_woken") rfl),
  He.glo_ok X G (c.t.d.fact 130 (f := .glo "_law_done") rfl),
  He.glo_ok X G (c.t.d.fact 131 (f := .glo "_law_told") rfl),
  He.glo_ok X G (c.t.d.fact 132 (f := .glo "_law_few") rfl),
  He.glo_ok X G (c.t.d.fact 133 (f := .glo "_law_many") rfl),
  He.glo_ok X G (c.t.d.fact 134 (f := .glo "_law_room_by") rfl),
  He.glo_ok X G (c.t.d.fact 135 (f := .glo "_law_started") rfl),
  He.glo_ok X G (c.t.d.fact 136 (f := .glo "_law_chosen") rfl),
  He.glo_ok X G (c.t.d.fact 137 (f := .glo "_law_word") rfl),
  He.glo_ok X G (c.t.d.fact 138 (f := .glo "_law_refused") rfl),
  He.glo_ok X G (c.t.d.fact 139 (f := .glo "_law_good") rfl),
  He.glo_ok X G (c.t.d.fact 140 (f := .glo "_law_ahead") rfl),
  He.glo_ok X G (c.t.d.fact 141 (f := .glo "_law_turns") rfl),
  He.glo_ok X G (c.t.d.fact 142 (f := .glo "_law_order") rfl),
  He.glo_ok X G (c.t.d.fact 143 (f := .glo "_law_lists") rfl),
  He.glo_ok X G (c.t.d.fact 144 (f := .glo "_law_stands") rfl),
  He.glo_ok X G (c.t.d.fact 145 (f := .glo "law") rfl),
  c.t.d.def_ 0 rfl,
  c.t.d.def_ 1 rfl,
  c.t.d.def_ 2 rfl,
  c.t.d.def_ 3 rfl,
  c.t.d.def_ 4 rfl,
  c.t.d.def_ 5 rfl,
  c.t.d.def_ 6 rfl,
  c.t.d.def_ 7 rfl,
  c.t.d.def_ 8 rfl,
  c.t.d.def_ 9 rfl,
  c.t.d.def_ 10 rfl,
  c.t.d.def_ 11 rfl,
  c.t.d.def_ 12 rfl,
  c.t.d.def_ 13 rfl,
  c.t.d.def_ 14 rfl,
  c.t.d.def_ 15 rfl,
  c.t.d.def_ 16 rfl,
  c.t.d.def_ 17 rfl,
  c.t.d.def_ 18 rfl,
  c.t.d.def_ 19 rfl,
  c.t.d.def_ 20 rfl,
  c.t.d.def_ 21 rfl,
  c.t.d.def_ 22 rfl,
  c.t.d.def_ 23 rfl,
  c.t.d.def_ 24 rfl,
  c.t.d.def_ 25 rfl,
  c.t.d.def_ 26 rfl,
  c.t.d.def_ 27 rfl,
  c.t.d.def_ 28 rfl,
  c.t.d.def_ 29 rfl,
  c.t.d.def_ 30 rfl,
  c.t.d.def_ 31 rfl,
  c.t.d.def_ 32 rfl,
  c.t.d.def_ 33 rfl,
  c.t.d.def_ 34 rfl,
  c.t.d.def_ 35 rfl,
  c.t.d.def_ 36 rfl,
  c.t.d.def_ 37 rfl,
  c.t.d.def_ 38 rfl,
  c.t.d.def_ 39 rfl,
  c.t.d.def_ 40 rfl,
  c.t.d.def_ 41 rfl,
  c.t.d.def_ 42 rfl,
  c.t.d.def_ 43 rfl,
  c.t.d.def_ 44 rfl,
  c.t.d.def_ 45 rfl,
  c.t.d.def_ 46 rfl,
  c.t.d.def_ 47 rfl,
  c.t.d.def_ 48 rfl,
  c.t.d.def_ 49 rfl,
  c.t.d.def_ 50 rfl,
  c.t.d.def_ 51 rfl,
  c.t.d.def_ 52 rfl,
  c.t.d.def_ 53 rfl,
  c.t.d.def_ 54 rfl,
  c.t.d.def_ 55 rfl,
  c.t.d.def_ 56 rfl,
  c.t.d.def_ 57 rfl,
  c.t.d.def_ 58 rfl,
  c.t.d.def_ 59 rfl,
  c.t.d.def_ 60 rfl,
  c.t.d.def_ 61 rfl,
  c.t.d.def_ 62 rfl,
  c.t.d.def_ 63 rfl,
  c.t.d.def_ 64 rfl,
  c.t.d.def_ 65 rfl,
  c.t.d.def_ 66 rfl,
  c.t.d.def_ 67 rfl,
  c.t.d.def_ 68 rfl,
  c.t.d.def_ 69 rfl,
  c.t.d.def_ 70 rfl,
  c.t.d.def_ 71 rfl,
  c.t.d.def_ 72 rfl,
  c.t.d.def_ 73 rfl,
  c.t.d.def_ 74 rfl,
  (let t := TB (He.cT K ("is_name", none)) (List.mem_map_of_mem (f := He.cT K) (show ((("is_name", none)) : He.Defn) ∈ tf by simp [tf])); ⟨t.code, t.bm, t.gP⟩),
  (let t := TB (He.cT K ("number", none)) (List.mem_map_of_mem (f := He.cT K) (show ((("number", none)) : He.Defn) ∈ tf by simp [tf])); ⟨t.code, t.bm, t.gP⟩),
  (let t := TB (He.cT K ("Desk", some "ready")) (List.mem_map_of_mem (f := He.cT K) (show ((("Desk", some "ready")) : He.Defn) ∈ tf by simp [tf])); ⟨t.code, t.bm, t.gP⟩),
  (by have e := c.more; simp only [ex, Bool.and_eq_true, decide_eq_true_eq] at e; exact e.1.1),
  (by have e := c.more; simp only [ex, Bool.and_eq_true, decide_eq_true_eq] at e; exact e.1.2),
  (by have e := c.more; simp only [ex, Bool.and_eq_true, decide_eq_true_eq] at e; exact e.2)⟩
theorem nobody {P : Program} {w : World} {H : Hp} {s : Shared} {e : Value} {s' : Shared} (h : L2N.CX P w [] H s (fun _ _ _ => False) e s') : False := by
  obtain ⟨_, _, _, _, _, _, _, _, _, _, _, _, z⟩ := h
  exact z
theorem lawAt {w : World} {h : Heap} {K : PySem.W.Frag} {mg : Str → Option Value} {fa0 : Addr} (X : K.In h) (G : h.Ns mainGlobals mg) (hfa : mg ("law" : Str) = some (.ref fa0)) (c : He.SaysX fa fn [] tf ex w h K) :
    LamX.LawAtS PySem.Challenge.rw_rrdesk_k12_whole_every_deed w K (L2N.CX (PySem.Challenge.rw_rrdesk_k12_whole_every_deed).prog w) 9 63 "_law_script" mg fa0 h := by
  have e : fa0 = He.ga K "law" := Value.ref.inj (Option.some.inj (hfa.symm.trans (He.glo_ok X G (c.t.d.facts (f := .glo "law") (by simp [fa])))))
  subst e
  obtain ⟨fd, F⟩ := c.t.d.def_ 74 rfl
  refine ⟨fd, tf.map (He.cT K), sp_law K, fun p hp => ?_, fun p hp => ?_, fun p hp => ?_, fun s u => FunD.bindsA (ps := ["_law_script"]) F (fun _ _ _ _ _ _ us hl => match us, hl with | [_], _ => rfl) s [u] rfl, ?_, fun base hK hG TB => ok_law (tx_of X G c TB) F⟩
  · obtain ⟨q, hq, rfl⟩ := List.mem_map.mp hp
    exact c.empty q hq
  · obtain ⟨q, hq, rfl⟩ := List.mem_map.mp hp
    exact c.out q hq
  · obtain ⟨q, hq, rfl⟩ := List.mem_map.mp hp
    exact PySem.W.codeHd_of_K X (c.hd q hq)
  · intro H a ns hl hb hT hS
    have tabs : ∀ q ∈ tf, GxR.TabG H (He.tabOf K (He.codeOf K q)) := fun q hq => ⟨#[], hT _ (List.mem_map_of_mem hq), GxR_triples⟩
    exact law_sp tabs (fun q hq => hT _ (List.mem_map_of_mem hq)) hl hb hS
end Rr
open PySem PySem.W PySem.Calls PyProof.Rows
theorem PySem.Challenge.cw_rrdesk_k12_whole_every_deed_holds : PySem.Challenge.rw_rrdesk_k12_whole_every_deed.Holds := by
  w_on; o_law
  refine HandSHeadRun.head_any (r := OpenLaw.row PySem.Challenge.rw_rrdesk_k12_whole_every_deed) (q := view (OpenLaw.row PySem.Challenge.rw_rrdesk_k12_whole_every_deed).prog [79]) (H := Rr.hk) (ob := Rr.ob) (M := 12000) (loose := (["_wall", "READY", "ASLEEP", "WAITING", "Caller", "DeskError", "NoName", "NoRank", "NoSpan", "NoDesk", "Known", "Unknown", "Full", "NotReady", "IsReady", "SIGNS", "MOST_SIGNS", "is_name", "TOP", "aged", "first", "MOST_PACE", "MOST_ROOM", "MOST_TURNS", "check_name", "check_rank", "check_span", "check_ready", "check_not_ready", "Desk"] : List Str) ++ (["HEAD", "WORDS", "FIGURES", "MOST_FIGURES", "shown", "doing", "read", "begun", "seat", "seat_ready", "words_of", "number", "_law_whole", "_law_cell_at", "_law_mix", "_law_name_by", "_law_texts", "_law_put", "_law_after", "_law_rank_by", "_law_pace_by", "_law_opened", "_law_crowd", "_law_bell_by", "_law_rung", "_law_slept", "_law_woken", "_law_done", "_law_told", "_law_few"] : List Str) ++ (["_law_many", "_law_room_by", "_law_started", "_law_chosen", "_law_word", "_law_refused", "_law_good", "_law_ahead", "_law_turns", "_law_order", "_law_lists", "_law_stands"] : List Str)) (d := HandSHeadRun.topDef (OpenLaw.row PySem.Challenge.rw_rrdesk_k12_whole_every_deed).prog 79) (kwd := []) Rr.ob_eq
    (by kernel_rfl) (fun s => by kernel_rfl) Rr.run (by kernel_rfl) (by kernel_rfl) (by kernel_rfl) (by rfl) (by first | assumption | decide +kernel) (by decide +kernel) ⟨rfl, rfl, rfl, rfl, rfl, by decide +kernel⟩ ?hw ?hc
  case hw => w_witness2
  case hc =>
    refine LamX.walk_ofTsE (l := PySem.Challenge.rw_rrdesk_k12_whole_every_deed) (n := 63) (k := 9) (x := "_law_script") (CX := fun w => L2N.CX (PySem.Challenge.rw_rrdesk_k12_whole_every_deed).prog w) rfl (by decide) (by kernel_rfl) ⟨rfl, by decide, by decide⟩ ?F (fun _ _ _ _ _ z => Rr.nobody z)
    intro w mg fa h Y G hmg0
    obtain ⟨K, KX, c⟩ := Y
    have hmg : mg ("law" : PySem.Str) = some (.ref fa) := by
      have e : (HandSHeadRun.topDef (OpenLaw.row PySem.Challenge.rw_rrdesk_k12_whole_every_deed).prog 79).name = ("law" : PySem.Str) := by kernel_rfl
      rw [← e]
      exact hmg0
    exact ⟨K, KX, Rr.lawAt KX G hmg c⟩

