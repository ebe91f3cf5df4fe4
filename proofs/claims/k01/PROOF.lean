import PyProof.Rows.All
import Wide.All
import OpenK.AllK
import Wide.FinOn
import HandS.ForMost
import HandS.Codes
import HandS.IsInst
import HandS.Evl
import PySem.Challenge.RW_rrdesk_k01_aged_and_told
set_option Elab.async false
set_option linter.all false
set_option maxRecDepth 100000
set_option maxHeartbeats 4000000
namespace Rr
open PySem L2 Evl
open C8 (pe_gc)
/-! ### the text -/
def top (i : Nat) : Stmt := PySem.Challenge.pw_rrdesk_k01_aged_and_told.main.body.getD i (.Pass ⟨0, 0, 0, 0⟩)
abbrev s_aged : Stmt := top 2
abbrev N_aged : List Str := ["rank", "waited", "pace"]
theorem sc_aged : FnScope N_aged ["rank", "waited", "pace"] (defScope s_aged) := ⟨rfl, rfl, rfl, by decide +kernel, rfl, by decide +kernel, by decide +kernel⟩
abbrev s_limit : Stmt := top 3
abbrev N_limit : List Str := ["rank", "pace", "room"]
theorem sc_limit : FnScope N_limit ["rank", "pace", "room"] (defScope s_limit) := ⟨rfl, rfl, rfl, by decide +kernel, rfl, by decide +kernel, by decide +kernel⟩
abbrev s__law_whole : Stmt := top 5
abbrev N__law_whole : List Str := ["_law_found"]
theorem sc__law_whole : FnScope N__law_whole ["_law_found"] (defScope s__law_whole) := ⟨rfl, rfl, rfl, by decide +kernel, rfl, by decide +kernel, by decide +kernel⟩
abbrev s__law_cell_at : Stmt := top 6
abbrev N__law_cell_at : List Str := ["_law_script", "_law_k"]
theorem sc__law_cell_at : FnScope N__law_cell_at ["_law_script", "_law_k"] (defScope s__law_cell_at) := ⟨rfl, rfl, rfl, by decide +kernel, rfl, by decide +kernel, by decide +kernel⟩
abbrev s_law : Stmt := top 7
abbrev N_law : List Str := ["_law_script", "_law_rank", "_law_pace", "_law_room", "_law_waited", "_law_found", "_law_told", "_law_full", "_law_higher"]
theorem sc_law : FnScope N_law ["_law_script"] (defScope s_law) := ⟨rfl, rfl, rfl, by decide +kernel, rfl, by decide +kernel, by decide +kernel⟩

/-! ### the mathematics -/
def cell (ns : List Int) (k : Nat) : Int := ns.getD k 0
theorem sum_const (p : Int) : ∀ n : Nat, (List.replicate n p).sum = (n : Int) * p
  | 0 => by simp
  | n + 1 => by
    rw [List.replicate_succ, List.sum_cons, sum_const p n]
    have : ((n + 1 : Nat) : Int) * p = (n : Int) * p + p := by
      rw [Int.natCast_succ, Int.add_mul, Int.one_mul]
    omega

/-! ### the promises -/
def sp_aged : Sp := fun vs H Q _ => ∃ r w p : Int, vs = [.int r, .int w, .int p] ∧ 0 < p ∧ p ≤ 1000 ∧ Q (.int (r + w / p)) H
def sp_limit : Sp := fun vs H Q _ => ∃ r p m : Int, vs = [.int r, .int p, .int m] ∧ 0 < p ∧ p ≤ 1000 ∧ Q (.int (p * (99 - r) + m)) H
def sp_whole : Sp := fun vs H Q _ => ∃ i : Int, vs = [.int i] ∧ Q (.bl true) H
def sp_cell (K : PySem.W.Frag) : Sp := fun vs H Q _ => ∃ (a : Addr) (ns : List Int) (k : Nat), vs = [.ref a, .int k] ∧ SqL K H a (ns.map V.int) ∧ Q (.int (cell ns k)) H
def sp_law (K : PySem.W.Frag) : Sp := fun vs H Q _ => ∃ (a : Addr) (ns : List Int), vs = [.ref a] ∧ SqL K H a (ns.map V.int) ∧ ns.length ≤ 63 ∧ ∀ H', Q (.bl true) H'

section
variable {P : Program} {w : World} {K : PySem.W.Frag} {mg : Str → Option Value} {base : Heap}
theorem ok_aged {f : Addr} {fd : FuncData} (F : Fun K "aged" "aged" s_aged f fd) : FnOk P w K mg base CX0 1 f fd ["rank", "waited", "pace"] sp_aged := by
  refine F.ok sc_aged (fun vs H Q E h => ?_) (fun cdv A outer s H vs Q E hr h => ?_)
  · obtain ⟨r, w, p, rfl, _⟩ := h
    rfl
  · have nd := sc_aged.nd
    obtain ⟨r, w, p, rfl, h0, h1, k⟩ := h
    refine ⟨_, (pss_cons (ps_if (pt_cmpR op_eq (pv 2) pe_int (nomark _))
  (pss_one (ps_ret (pv 0)))
  pss_nil)
  (pss_one (ps_ret (pe_op op_add (pv 0) (pe_op op_fdiv (pv 1) (pv 2)))))), ?_⟩
    refine ⟨_, rfl, rfl, _, rfl, ite2 (fun e => ?_) (fun e => ?_)⟩
    · have e0 : p = 0 := V.int.inj (of_decide_eq_true e)
      omega
    · exact ⟨_, rfl, _, rfl, _, rfl, _, _, rfl, rfl, ⟨h0, by show p < 1073741824; omega⟩, _, _, rfl, rfl, k⟩
theorem ok_limit {f : Addr} {fd : FuncData} (F : Fun K "limit" "limit" s_limit f fd) (g_TOP : ∃ u, mg "TOP" = some u ∧ RelV (.int 99) u) : FnOk P w K mg base CX0 1 f fd ["rank", "pace", "room"] sp_limit := by
  refine F.ok sc_limit (fun vs H Q E h => ?_) (fun cdv A outer s H vs Q E hr h => ?_)
  · obtain ⟨r, p, m, rfl, _⟩ := h
    rfl
  · have nd := sc_limit.nd
    obtain ⟨r, p, m, rfl, h0, h1, k⟩ := h
    refine ⟨_, (pss_one (ps_ret (pe_op op_add (pe_op op_mul (pv 1) (pe_op op_sub (pe_gc (by rfl) g_TOP) (pv 0))) (pv 2)))), ?_⟩
    exact ⟨_, rfl, _, rfl, _, _, rfl, rfl, _, _, rfl, rfl, .inl ⟨by omega, by omega⟩, _, rfl, _, _, rfl, rfl, k⟩
theorem ok_cell {f : Addr} {fd : FuncData} (F : Fun K "_law_cell_at" "_law_cell_at" s__law_cell_at f fd) (m_len : mg "len" = none) : FnOk P w K mg base CX0 1 f fd ["_law_script", "_law_k"] (sp_cell K) := by
  refine F.ok sc__law_cell_at (fun vs H Q E h => ?_) (fun cdv A outer s H vs Q E hr h => ?_)
  · obtain ⟨a, ns, k, rfl, _⟩ := h
    rfl
  · have nd := sc__law_cell_at.nd
    obtain ⟨a, ns, k, rfl, hS, q⟩ := h
    refine ⟨_, (pss_cons (ps_if (pt_cmpR op_lt (pv 1) (pe_callB call_len_seq (by rfl) m_len boot_len (pa_cons (pv 0) pa_nil)) (nomark _))
  (pss_one (ps_ret (pe_ix ix_list (pv 0) (pv 1) (fun _ _ => rfl))))
  pss_nil)
  (pss_one (ps_ret pe_int))), ?_⟩
    refine ⟨_, rfl, _, rfl, a, _, rfl, .inl hS, _, _, rfl, rfl, _, rfl, ite2 (fun e => ?_) (fun e => ?_)⟩
    · have e0 : (k : Int) < ((ns.map V.int).length : Int) := of_decide_eq_true e
      rw [List.length_map] at e0
      have hk : k < ns.length := by omega
      refine ⟨_, rfl, _, rfl, a, _, _, _, rfl, rfl, hS, atI_nat (j := k) (by rw [List.getElem?_map, List.getElem?_eq_getElem hk]; rfl), ?_⟩
      have e1 : cell ns k = ns[k] := by
        unfold cell
        rw [List.getD_eq_getElem?_getD, List.getElem?_eq_getElem hk]
        rfl
      rw [e1] at q
      exact q
    · have e0 : ¬ (k : Int) < ((ns.map V.int).length : Int) := fun z => e (decide_eq_true z)
      rw [List.length_map] at e0
      have e1 : cell ns k = 0 := by
        unfold cell
        rw [List.getD_eq_getElem?_getD, List.getElem?_eq_none (by omega)]
        rfl
      rw [e1] at q
      exact q
theorem ok_whole {f : Addr} {fd : FuncData} (F : Fun K "_law_whole" "_law_whole" s__law_whole f fd) (m_isinstance : mg "isinstance" = none) (m_int : mg "int" = none) (m_bool : mg "bool" = none) : FnOk P w K mg base CX0 1 f fd ["_law_found"] sp_whole := by
  refine F.ok sc__law_whole (fun vs H Q E h => ?_) (fun cdv A outer s H vs Q E hr h => ?_)
  · obtain ⟨i, rfl, _⟩ := h
    rfl
  · have nd := sc__law_whole.nd
    obtain ⟨i, rfl, q⟩ := h
    refine ⟨_, (pss_one (ps_ret (pe_and (pe_callB call_isi (by rfl) m_isinstance (by decide +kernel) (pa_cons (pv 0) (pa_cons (pe_bltn (v := .ty "int") (by rfl) m_int (by decide +kernel) rfl) pa_nil))) (pe_one (pe_not (pe_callB call_isi (by rfl) m_isinstance (by decide +kernel) (pa_cons (pv 0) (pa_cons (pe_bltn (v := .ty "bool") (by rfl) m_bool (by decide +kernel) rfl) pa_nil)))))))), ?_⟩
    refine ⟨_, rfl, _, _, _, _, true, rfl, .ty "int", .base (.int i), kit_ty (by decide +kernel), true, rfl, iteT ?_⟩
    exact ⟨_, rfl, _, _, _, _, false, rfl, .ty "bool", .base (.int i), kit_ty (by decide +kernel), false, rfl, q⟩
theorem ok_law {f fc fa fl fw : Addr} {fd fdc fda fdl fdw : FuncData} (F : Fun K "law" "law" s_law f fd)
    (m_len : mg "len" = none) (m_isinstance : mg "isinstance" = none) (m_int : mg "int" = none) (m_bool : mg "bool" = none) (m_max : mg "max" = none) (m_sum : mg "sum" = none) (m_range : mg "range" = none)
    (g_TOP : ∃ u, mg "TOP" = some u ∧ RelV (.int 99) u)
    (FC : Fun K "_law_cell_at" "_law_cell_at" s__law_cell_at fc fdc) (bC : Binds K fdc ["_law_script", "_law_k"] []) (gC : mg "_law_cell_at" = some (.ref fc))
    (FA : Fun K "aged" "aged" s_aged fa fda) (bA : Binds K fda ["rank", "waited", "pace"] []) (gA : mg "aged" = some (.ref fa))
    (FL : Fun K "limit" "limit" s_limit fl fdl) (bL : Binds K fdl ["rank", "pace", "room"] []) (gL : mg "limit" = some (.ref fl))
    (FW : Fun K "_law_whole" "_law_whole" s__law_whole fw fdw) (bW : Binds K fdw ["_law_found"] []) (gW : mg "_law_whole" = some (.ref fw)) :
    FnOk P w K mg base CX0 2 f fd ["_law_script"] (sp_law K) := by
  have GC : FnOk P w K mg base CX0 1 fc fdc ["_law_script", "_law_k"] (sp_cell K) := ok_cell FC m_len
  have GA : FnOk P w K mg base CX0 1 fa fda ["rank", "waited", "pace"] sp_aged := ok_aged FA
  have GL : FnOk P w K mg base CX0 1 fl fdl ["rank", "pace", "room"] sp_limit := ok_limit FL g_TOP
  have GW : FnOk P w K mg base CX0 1 fw fdw ["_law_found"] sp_whole := ok_whole FW m_isinstance m_int m_bool
  refine F.ok sc_law (fun vs H Q E h => ?_) (fun cdv A outer s H vs Q E hr h => ?_)
  · obtain ⟨a, ns, rfl, _⟩ := h
    rfl
  · have nd := sc_law.nd
    obtain ⟨a, ns, rfl, hS, hlen, q⟩ := h
    have hc : ∀ k : Nat, PE (cxOf CX0 P w K mg base N_law "law" (defScope s_law) f cdv A outer s H E).nox (.Call (.Name "_law_cell_at" ⟨0,0,0,0⟩) [] [] ⟨0,0,0,0⟩) (tC .non) → True := fun _ _ => trivial
    refine ⟨_, (pss_cons (ps_set (i := 1) nd rfl (Or.inl rfl) (pe_op op_mod (pe_call GC hr (by rfl) gC FC.kp bC .nil pass0 (pa_cons (pv 0) (pa_cons pe_int pa_nil))) pe_int))
  (pss_cons (ps_set (i := 2) nd rfl (Or.inr rfl) (pe_op op_add pe_int (pe_op op_mod (pe_call GC hr (by rfl) gC FC.kp bC .nil pass0 (pa_cons (pv 0) (pa_cons pe_int pa_nil))) pe_int)))
  (pss_cons (ps_set (i := 3) nd rfl (Or.inl rfl) (pe_op op_add pe_int (pe_op op_mod (pe_call GC hr (by rfl) gC FC.kp bC .nil pass0 (pa_cons (pv 0) (pa_cons pe_int pa_nil))) pe_int)))
  (pss_cons (ps_set (i := 4) nd rfl (Or.inl rfl) (pe_op op_mod (pe_call GC hr (by rfl) gC FC.kp bC .nil pass0 (pa_cons (pv 0) (pa_cons pe_int pa_nil))) (pe_op op_pow pe_int pe_int)))
  (pss_cut (ps_if (pt_cmpR op_gt (pe_op op_mod (pe_call GC hr (by rfl) gC FC.kp bC .nil pass0 (pa_cons (pv 0) (pa_cons pe_int pa_nil))) pe_int) pe_int (nomark _))
  (pss_one (ps_set (i := 4) nd rfl (Or.inl rfl) (pe_callB (call_max2 rfl) (by rfl) m_max (by decide +kernel) (pa_cons pe_int (pa_cons (pe_op op_add (pe_op op_sub (pe_op op_mul (pv 2) (pe_op op_mod (pe_call GC hr (by rfl) gC FC.kp bC .nil pass0 (pa_cons (pv 0) (pa_cons pe_int pa_nil))) pe_int)) (pe_op op_mod (pe_call GC hr (by rfl) gC FC.kp bC .nil pass0 (pa_cons (pv 0) (pa_cons pe_int pa_nil))) pe_int)) pe_int) pa_nil)))))
  pss_nil)
  (pss_cons (ps_set (i := 5) nd rfl (Or.inl rfl) (pe_call GA hr (by rfl) gA FA.kp bA .nil pass0 (pa_cons (pv 1) (pa_cons (pv 4) (pa_cons (pv 2) pa_nil)))))
  (pss_cons (ps_set (i := 6) nd rfl (Or.inl rfl) (pe_call GL hr (by rfl) gL FL.kp bL .nil pass0 (pa_cons (pv 1) (pa_cons (pv 2) (pa_cons (pv 3) pa_nil)))))
  (pss_cons (ps_if (PW.pt (pw_or (pt_not (pt_val (pe_call GW hr (by rfl) gW FW.kp bW .nil pass0 (pa_cons (pv 5) pa_nil)))) (pw_or (pt_not (pt_val (pe_call GW hr (by rfl) gW FW.kp bW .nil pass0 (pa_cons (pv 6) pa_nil)))) (pw_or (pt_not (pt_val (pe_call GW hr (by rfl) gW FW.kp bW .nil pass0 (pa_cons (pe_gc (by rfl) g_TOP) pa_nil)))) (pw_or1 (pt_cmpR op_ne (pe_gc (by rfl) g_TOP) pe_int (nomark _)))))))
  (pss_one (ps_ret pe_bl))
  pss_nil)
  (pss_cons (ps_set (i := 7) nd rfl (Or.inl rfl) (pe_op op_sub (pv 5) (pv 1)))
  (pss_cons (ps_if (PW.pt (pw_or (pt_cmpR op_gt (pe_op op_mul (pv 7) (pv 2)) (pv 4) (nomark _)) (pw_or1 (pt_cmpR op_ge (pv 4) (pe_op op_mul (pe_op op_add (pv 7) pe_int) (pv 2)) (nomark _)))))
  (pss_one (ps_ret pe_bl))
  pss_nil)
  (pss_one (ps_ret (pe_cmpR op_eq (pv 6) (pe_op op_add (pe_callB (cr_sum rfl) (by rfl) m_sum (by decide +kernel) (pa_cons (pe_lc (own := [("_law_higher", 8)]) (g := gName 8) (tt := tYes) rfl nd (pi_range2 (by rfl) m_range (pa_cons (pv 1) (pa_cons pe_int pa_nil))) (blkOk_by (N := N_law) (sc := defScope s_law) (by decide +kernel)) (fun _ _ _ _ _ => (pg_name (i := 8) nd rfl (Or.inl rfl))) (fun _ _ _ _ _ => pts_nil) (fun _ _ _ _ _ => (pv 2))) pa_nil)) (pv 3)) (nomark _)))))))))))))), ?_⟩
    clear hc
    have hm : ∀ (x m : Int), 0 < m → 0 ≤ x % m ∧ x % m < m := fun x m h => ⟨Int.emod_nonneg _ (by omega), Int.emod_lt_of_pos _ h⟩
    -- rank, pace, room
    refine ⟨_, rfl, a, ns, 0, rfl, hS, _, _, rfl, rfl, (by show (0 : Int) < 100; decide), ?_⟩
    refine ⟨_, rfl, a, ns, 1, rfl, hS, _, _, rfl, rfl, (by show (0 : Int) < 1000; decide), _, _, rfl, rfl, ?_⟩
    refine ⟨_, rfl, a, ns, 4, rfl, hS, _, _, rfl, rfl, (by show (0 : Int) < 60; decide), _, _, rfl, rfl, ?_⟩
    refine ⟨_, rfl, a, ns, 2, rfl, hS, 10, 12, rfl, rfl, ⟨by decide, by decide, by decide +kernel⟩, _, _, rfl, rfl, (by show (0 : Int) < 10 ^ 12; decide), ?_⟩
    have hr0 := hm (cell ns 0) 100 (by decide)
    have hr1 := hm (cell ns 1) 1000 (by decide)
    have hr3 := hm (cell ns 3) 3 (by decide)
    have hr4 := hm (cell ns 4) 60 (by decide)
    have hrw := hm (cell ns 2) (10 ^ 12) (by decide)
    refine ⟨fun σ H' => H' = H ∧ ∃ W R P0 M0 : Int, 0 ≤ W ∧ (0 ≤ R ∧ R < 100) ∧ (0 ≤ P0 ∧ P0 < 1000) ∧ (0 ≤ M0 ∧ M0 < 60) ∧ σ = [some (.ref a), some (.int R), some (.int (1 + P0)), some (.int (1 + M0)), some (.int W), none, none, none, none], ?_, ?_⟩
    · refine ⟨_, rfl, a, ns, 3, rfl, hS, _, _, rfl, rfl, (by show (0 : Int) < 3; decide), _, _, rfl, rfl, _, rfl, ite2 (fun e => ?_) (fun e => ?_)⟩
      · refine ⟨_, rfl, _, rfl, a, ns, 2, rfl, hS, _, _, rfl, rfl, (by show (0 : Int) < 201; decide), _, _, rfl, rfl, .inl ⟨by omega, by omega⟩, ?_⟩
        refine ⟨_, rfl, a, ns, 3, rfl, hS, _, _, rfl, rfl, (by show (0 : Int) < 3; decide), _, _, rfl, rfl, _, _, rfl, rfl, _, _, rfl, ?_⟩
        refine ⟨rfl, _, cell ns 0 % 100, cell ns 1 % 1000, cell ns 4 % 60, ?_, hr0, hr1, hr4, rfl⟩
        split <;> omega
      · exact ⟨rfl, _, cell ns 0 % 100, cell ns 1 % 1000, cell ns 4 % 60, hrw.1, hr0, hr1, hr4, rfl⟩
    · rintro σ _ ⟨rfl, W, R, P0, M0, hW, hr0, hr1, hr4, rfl⟩
      refine ⟨_, rfl, _, rfl, _, rfl, _, _, _, rfl, by omega, by omega, ?_⟩
      refine ⟨_, rfl, _, rfl, _, rfl, _, _, _, rfl, by omega, by omega, ?_⟩
      refine ⟨_, rfl, _, rfl, true, rfl, iteF ?_⟩
      refine ⟨_, rfl, _, rfl, true, rfl, iteF ?_⟩
      refine ⟨_, rfl, true, rfl, iteF ?_⟩
      refine ⟨rfl, _, rfl, iteNS rfl ?_⟩
      refine ⟨_, rfl, _, rfl, _, _, rfl, rfl, ?_⟩
      have hdiv : (1 + P0) * (W / (1 + P0)) + W % (1 + P0) = W := Int.mul_ediv_add_emod W (1 + P0)
      have hmod := hm W (1 + P0) (by omega)
      have e1 : R + W / (1 + P0) - R = W / (1 + P0) := by omega
      have hcm := Int.mul_comm (1 + P0) (W / (1 + P0))
      have hadd : (W / (1 + P0) + 1) * (1 + P0) = W / (1 + P0) * (1 + P0) + (1 + P0) := by rw [Int.add_mul, Int.one_mul]
      refine ⟨_, rfl, _, rfl, _, _, rfl, rfl, .inr ⟨by omega, by omega⟩, _, rfl, _, _, rfl, rfl, _, rfl, ?_⟩
      refine ite2 (fun e => ?_) (fun e => ?_)
      · exact absurd (of_decide_eq_true e) (by rw [e1]; omega)
      refine ⟨_, rfl, _, rfl, _, _, rfl, rfl, _, rfl, _, _, rfl, rfl, .inr ⟨by omega, by omega⟩, _, _, rfl, rfl, _, rfl, ?_⟩
      refine ite2 (fun e => ?_) (fun e => ?_)
      · exact absurd (of_decide_eq_true e) (by rw [e1]; omega)
      -- the sum
      refine ⟨_, rfl, _, rfl, R, 99, rfl, ⟨by omega, by omega, by omega, by omega⟩, fun D hD => ?_⟩
      refine lc_range (fun i H' => H' D = some (.lst ((List.replicate i (1 + P0)).map V.int))) upd_same (fun i H' hi hD' => ?_) (fun H' hD' => ?_)
      · refine ⟨rfl, _, rfl, _, hD', ?_, ?_⟩
        · rw [List.length_map, List.length_replicate]
          exact small1000 (by omega)
        · rw [upd_same, List.replicate_succ', List.map_append]
          rfl
      · refine ⟨D, _, rfl, .inl (.inl hD'), _, rfl, _, _, rfl, rfl, rfl, ?_⟩
        have es : (1 + P0) * (99 - R) + (1 + M0) = (List.replicate (99 - R).toNat (1 + P0)).sum + (1 + M0) := by
          rw [sum_const, Int.toNat_of_nonneg (by omega), Int.mul_comm]
        rw [decide_eq_true (congrArg V.int es)]
        exact q _
end
/-! ### what the top has written -/
theorem all_mk {l : PySem.W.OpenLaw} {w : World} {K : PySem.W.Frag} {h : Heap} {mg : Str → Option Value} {fa f1 f2 f3 f4 f5 : Addr} (X : K.In h) (G : h.Ns mainGlobals mg) (hfa : mg "law" = some (.ref fa))
    {od1 an1 od2 an2 od3 an3 od4 an4 od5 an5 : Option Addr} {sl1 sl2 sl3 sl4 sl5 : Array (Option Value)} {oc1 kV1 dc1 pm1 cd1 ct1 oc2 kV2 dc2 pm2 cd2 ct2 oc3 kV3 dc3 pm3 cd3 ct3 oc4 kV4 dc4 pm4 cd4 ct4 oc5 kV5 dc5 pm5 cd5 ct5 : Value} {tk : Tok}
    (a1 : PySem.W.nsIn K mainGlobals "aged" = some (some (.ref f1))) (l1 : K.lookup f1 = some ⟨oc1, od1, .func (PySem.W.fnOf "aged" "aged" (defArgs s_aged) (defBody s_aged) (defScope s_aged) .none kV1 dc1 pm1 an1 cd1 ct1), sl1⟩) (c1 : PySem.W.codeIn K cd1 "aged" = true) (k1 : PySem.W.keepIn K (.ref f1) = true)
    (a2 : PySem.W.nsIn K mainGlobals "limit" = some (some (.ref f2))) (l2 : K.lookup f2 = some ⟨oc2, od2, .func (PySem.W.fnOf "limit" "limit" (defArgs s_limit) (defBody s_limit) (defScope s_limit) .none kV2 dc2 pm2 an2 cd2 ct2), sl2⟩) (c2 : PySem.W.codeIn K cd2 "limit" = true) (k2 : PySem.W.keepIn K (.ref f2) = true)
    (a3 : PySem.W.nsIn K mainGlobals "_law_whole" = some (some (.ref f3))) (l3 : K.lookup f3 = some ⟨oc3, od3, .func (PySem.W.fnOf "_law_whole" "_law_whole" (defArgs s__law_whole) (defBody s__law_whole) (defScope s__law_whole) .none kV3 dc3 pm3 an3 cd3 ct3), sl3⟩) (c3 : PySem.W.codeIn K cd3 "_law_whole" = true) (k3 : PySem.W.keepIn K (.ref f3) = true)
    (a4 : PySem.W.nsIn K mainGlobals "_law_cell_at" = some (some (.ref f4))) (l4 : K.lookup f4 = some ⟨oc4, od4, .func (PySem.W.fnOf "_law_cell_at" "_law_cell_at" (defArgs s__law_cell_at) (defBody s__law_cell_at) (defScope s__law_cell_at) .none kV4 dc4 pm4 an4 cd4 ct4), sl4⟩) (c4 : PySem.W.codeIn K cd4 "_law_cell_at" = true) (k4 : PySem.W.keepIn K (.ref f4) = true)
    (a5 : PySem.W.nsIn K mainGlobals "law" = some (some (.ref f5))) (l5 : K.lookup f5 = some ⟨oc5, od5, .func (PySem.W.fnOf "law" "law" (defArgs s_law) (defBody s_law) (defScope s_law) .none kV5 dc5 pm5 an5 cd5 ct5), sl5⟩) (c5 : PySem.W.codeIn K cd5 "law" = true) (k5 : PySem.W.keepIn K (.ref f5) = true)
    (aT : PySem.W.nsIn K mainGlobals "TOP" = some (some (.int 99 tk)))
    (z1 : PySem.W.nsIn K mainGlobals "len" = some none) (z2 : PySem.W.nsIn K mainGlobals "isinstance" = some none) (z3 : PySem.W.nsIn K mainGlobals "int" = some none) (z4 : PySem.W.nsIn K mainGlobals "bool" = some none)
    (z5 : PySem.W.nsIn K mainGlobals "max" = some none) (z6 : PySem.W.nsIn K mainGlobals "sum" = some none) (z7 : PySem.W.nsIn K mainGlobals "range" = some none) :
    ∃ fd : FuncData, (∀ (s : Shared) (v : Value), BindsTo s fd ⟨[v], []⟩ [("_law_script", v)]) ∧ ∀ base : Heap, K.In base → base.Ns mainGlobals mg → FnOk l.prog w K mg base CX0 2 fa fd ["_law_script"] (sp_law K) := by
  have e := hfa.symm.trans (PySem.W.mg_of X G a5)
  cases e
  have F1 := fun_mk (st := s_aged) l1 c1 k1
  have F2 := fun_mk (st := s_limit) l2 c2 k2
  have F3 := fun_mk (st := s__law_whole) l3 c3 k3
  have F4 := fun_mk (st := s__law_cell_at) l4 c4 k4
  have F5 := fun_mk (st := s_law) l5 c5 k5
  have b1 := F1.binds (ps := ["rank", "waited", "pace"]) fun _ _ _ _ _ _ us hl => match us, hl with | [_, _, _], _ => rfl
  have b2 := F2.binds (ps := ["rank", "pace", "room"]) fun _ _ _ _ _ _ us hl => match us, hl with | [_, _, _], _ => rfl
  have b3 := F3.binds (ps := ["_law_found"]) fun _ _ _ _ _ _ us hl => match us, hl with | [_], _ => rfl
  have b4 := F4.binds (ps := ["_law_script", "_law_k"]) fun _ _ _ _ _ _ us hl => match us, hl with | [_, _], _ => rfl
  exact ⟨PySem.W.fnOf "law" "law" (defArgs s_law) (defBody s_law) (defScope s_law) .none kV5 dc5 pm5 an5 cd5 ct5, fun s v => .of_eq rfl, fun base _ _ =>
    ok_law F5 (PySem.W.mg_none_of X G z1) (PySem.W.mg_none_of X G z2) (PySem.W.mg_none_of X G z3) (PySem.W.mg_none_of X G z4) (PySem.W.mg_none_of X G z5) (PySem.W.mg_none_of X G z6) (PySem.W.mg_none_of X G z7)
      ⟨_, PySem.W.mg_of X G aT, ⟨tk, rfl⟩⟩ F4 b4 (PySem.W.mg_of X G a4) F1 b1 (PySem.W.mg_of X G a1) F2 b2 (PySem.W.mg_of X G a2) F3 b3 (PySem.W.mg_of X G a3)⟩
end Rr
open PySem PySem.W PyProof.Rows
set_option maxHeartbeats 0 in
theorem PySem.Challenge.cw_rrdesk_k01_aged_and_told_holds : PySem.Challenge.rw_rrdesk_k01_aged_and_told.Holds := by
  w_on; o_law; k_head; (case hw => w_witness2)
  k_fill
  refine L2.walk_of (l := PySem.Challenge.rw_rrdesk_k01_aged_and_told) (n := 63) (k := 2) (x := "_law_script") (CX := fun _ => L2.CX0) (sp := fun w => Rr.sp_law _) rfl (by decide) rfl ⟨rfl, by decide, by decide⟩ (fun w h Y => PySem.W.kIn_of Y) ?F (fun _ _ a ns hl _ hS => ⟨a, ns, rfl, hS, hl, fun _ => rfl⟩) (fun _ _ _ _ _ h => h)
  case F =>
    intro w mg fa h KX G hmg
    refine' Rr.all_mk KX G hmg ?a1 ?l1 ?c1 ?k1 ?a2 ?l2 ?c2 ?k2 ?a3 ?l3 ?c3 ?k3 ?a4 ?l4 ?c4 ?k4 ?a5 ?l5 ?c5 ?k5 ?aT ?z1 ?z2 ?z3 ?z4 ?z5 ?z6 ?z7
    (case a1 => k_is); (case l1 => k_is); (case c1 => k_is); (case k1 => k_is); (case a2 => k_is); (case l2 => k_is); (case c2 => k_is); (case k2 => k_is); (case a3 => k_is); (case l3 => k_is); (case c3 => k_is); (case k3 => k_is); (case a4 => k_is); (case l4 => k_is); (case c4 => k_is); (case k4 => k_is); (case a5 => k_is); (case l5 => k_is); (case c5 => k_is); (case k5 => k_is); (case aT => k_is); (case z1 => k_is); (case z2 => k_is); (case z3 => k_is); (case z4 => k_is); (case z5 => k_is); (case z6 => k_is); (case z7 => k_is)
