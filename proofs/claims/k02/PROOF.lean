import PyProof.Rows.All
import Wide.All
import OpenK.AllK
import Wide.FinOn
import HandS.ForMost
import HandS.Codes
import HandS.IsInst
import HandS.Evl
import HandS.Walk
import PyProof.P3Eq
import PySem.Challenge.RW_rrdesk_k02_first_chosen
set_option Elab.async false
set_option linter.all false
set_option maxRecDepth 100000
set_option maxHeartbeats 4000000
namespace Rr
open PySem L2 Evl
open C8 (pe_gc pe_c Cal)
/-! ### the text -/
def top (i : Nat) : Stmt := PySem.Challenge.pw_rrdesk_k02_first_chosen.main.body.getD i (.Pass ⟨0, 0, 0, 0⟩)
abbrev s_aged : Stmt := top 1
abbrev N_aged : List Str := ["rank", "waited", "pace"]
theorem sc_aged : FnScope N_aged ["rank", "waited", "pace"] (defScope s_aged) := ⟨rfl, rfl, rfl, by decide +kernel, rfl, by decide +kernel, by decide +kernel⟩
abbrev s_first : Stmt := top 2
abbrev N_first : List Str := ["rows", "pace", "place", "best", "at", "rank", "waited", "reached"]
theorem sc_first : FnScope N_first ["rows", "pace"] (defScope s_first) := ⟨rfl, rfl, rfl, by decide +kernel, rfl, by decide +kernel, by decide +kernel⟩
abbrev s__law_whole : Stmt := top 4
abbrev N__law_whole : List Str := ["_law_found"]
theorem sc__law_whole : FnScope N__law_whole ["_law_found"] (defScope s__law_whole) := ⟨rfl, rfl, rfl, by decide +kernel, rfl, by decide +kernel, by decide +kernel⟩
abbrev s__law_cell_at : Stmt := top 5
abbrev N__law_cell_at : List Str := ["_law_script", "_law_k"]
theorem sc__law_cell_at : FnScope N__law_cell_at ["_law_script", "_law_k"] (defScope s__law_cell_at) := ⟨rfl, rfl, rfl, by decide +kernel, rfl, by decide +kernel, by decide +kernel⟩
abbrev s__law_mix : Stmt := top 6
abbrev N__law_mix : List Str := ["_law_cell", "_law_prime", "_law_many"]
theorem sc__law_mix : FnScope N__law_mix ["_law_cell", "_law_prime", "_law_many"] (defScope s__law_mix) := ⟨rfl, rfl, rfl, by decide +kernel, rfl, by decide +kernel, by decide +kernel⟩
abbrev s__law_pace_by : Stmt := top 7
abbrev N__law_pace_by : List Str := ["_law_cell"]
theorem sc__law_pace_by : FnScope N__law_pace_by ["_law_cell"] (defScope s__law_pace_by) := ⟨rfl, rfl, rfl, by decide +kernel, rfl, by decide +kernel, by decide +kernel⟩
abbrev s__law_rows : Stmt := top 8
abbrev N__law_rows : List Str := ["_law_script", "_law_many", "_law_pace", "_law_rows_here", "_law_k", "_law_cell", "_law_rank", "_law_waited"]
theorem sc__law_rows : FnScope N__law_rows ["_law_script", "_law_many", "_law_pace"] (defScope s__law_rows) := ⟨rfl, rfl, rfl, by decide +kernel, rfl, by decide +kernel, by decide +kernel⟩
abbrev s_law : Stmt := top 9
abbrev N_law : List Str := ["_law_script", "_law_pace", "_law_many", "_law_rows_here", "_law_handed", "_law_found", "_law_best", "_law_k", "_law_other"]
theorem sc_law : FnScope N_law ["_law_script"] (defScope s_law) := ⟨rfl, rfl, rfl, by decide +kernel, rfl, by decide +kernel, by decide +kernel⟩
structure Tx (K : PySem.W.Frag) (mg : Str → Option Value) : Prop where
  m_enumerate : mg "enumerate" = none
  m_bool : mg "bool" = none
  m_int : mg "int" = none
  m_isinstance : mg "isinstance" = none
  m_len : mg "len" = none
  m_max : mg "max" = none
  m_range : mg "range" = none
  m_list : mg "list" = none
  d_aged : ∃ (f : Addr) (fd : FuncData), Fun K "aged" "aged" s_aged f fd ∧ Binds K fd ["rank", "waited", "pace"] [] ∧ mg "aged" = some (.ref f)
  d_first : ∃ (f : Addr) (fd : FuncData), Fun K "first" "first" s_first f fd ∧ Binds K fd ["rows", "pace"] [] ∧ mg "first" = some (.ref f)
  d__law_whole : ∃ (f : Addr) (fd : FuncData), Fun K "_law_whole" "_law_whole" s__law_whole f fd ∧ Binds K fd ["_law_found"] [] ∧ mg "_law_whole" = some (.ref f)
  d__law_cell_at : ∃ (f : Addr) (fd : FuncData), Fun K "_law_cell_at" "_law_cell_at" s__law_cell_at f fd ∧ Binds K fd ["_law_script", "_law_k"] [] ∧ mg "_law_cell_at" = some (.ref f)
  d__law_mix : ∃ (f : Addr) (fd : FuncData), Fun K "_law_mix" "_law_mix" s__law_mix f fd ∧ Binds K fd ["_law_cell", "_law_prime", "_law_many"] [] ∧ mg "_law_mix" = some (.ref f)
  d__law_pace_by : ∃ (f : Addr) (fd : FuncData), Fun K "_law_pace_by" "_law_pace_by" s__law_pace_by f fd ∧ Binds K fd ["_law_cell"] [] ∧ mg "_law_pace_by" = some (.ref f)
  d__law_rows : ∃ (f : Addr) (fd : FuncData), Fun K "_law_rows" "_law_rows" s__law_rows f fd ∧ Binds K fd ["_law_script", "_law_many", "_law_pace"] [] ∧ mg "_law_rows" = some (.ref f)
  d_law : ∃ (f : Addr) (fd : FuncData), Fun K "law" "law" s_law f fd ∧ Binds K fd ["_law_script"] [] ∧ mg "law" = some (.ref f)

/-! ### the mathematics -/
def cell (ns : List Int) (k : Int) : Int := ns.getD k.toNat 0
/-- the drawn number -/
def mix (c p m : Int) : Int := c * 48271 % p % m
def paceBy (c : Int) : Int := ([1, 2, 3, 1 + mix c 10067 1000] : List Int).getD (mix c 10069 4).toNat 0
theorem mix_nn {c p m : Int} (hm : 0 < m) : 0 ≤ mix c p m ∧ mix c p m < m := ⟨Int.emod_nonneg _ (by omega), Int.emod_lt_of_pos _ hm⟩
theorem paceBy_pos (c : Int) : 1 ≤ paceBy c ∧ paceBy c ≤ 1000 := by
  have h := mix_nn (c := c) (p := 10069) (m := 4) (by decide)
  have h2 := mix_nn (c := c) (p := 10067) (m := 1000) (by decide)
  have h3 : (mix c 10069 4).toNat = 0 ∨ (mix c 10069 4).toNat = 1 ∨ (mix c 10069 4).toNat = 2 ∨ (mix c 10069 4).toNat = 3 := by omega
  unfold paceBy
  rcases h3 with e | e | e | e <;> rw [e] <;> simp <;> omega
/-- at x's places stand pairs of ints -/
abbrev PairAt (H : Hp) (x : V) (r : Int × Int) : Prop := ∃ t, x = .ref t ∧ H t = some (.tup [.int r.1, .int r.2])
abbrev Pairs (H : Hp) (xs : List V) (rows : List (Int × Int)) : Prop := Paired (PairAt H) xs rows
theorem Paired.len {α β : Type} {F : α → β → Prop} : ∀ {xs : List α} {ys : List β}, Paired F xs ys → xs.length = ys.length
  | _, _, .nil => rfl
  | _, _, .cons _ t => by rw [List.length_cons, List.length_cons, Paired.len t]
theorem Paired.snoc {α β : Type} {F : α → β → Prop} {x : α} {y : β} (h : F x y) : ∀ {xs : List α} {ys : List β}, Paired F xs ys → Paired F (xs ++ [x]) (ys ++ [y])
  | _, _, .nil => .cons h .nil
  | _, _, .cons a t => .cons a (Paired.snoc h t)
theorem Paired.at_ {α β : Type} {F : α → β → Prop} : ∀ {xs : List α} {ys : List β}, Paired F xs ys → ∀ {i : Nat} {y : β}, ys[i]? = some y → ∃ x, xs[i]? = some x ∧ F x y
  | _, _, .nil, _, _, h => by simp at h
  | _, _, .cons a _, 0, _, h => ⟨_, rfl, (Option.some.inj h) ▸ a⟩
  | _, _, .cons _ t, i + 1, _, h => Paired.at_ t (i := i) h
theorem pairs_at {H : Hp} {xs : List V} {rows : List (Int × Int)} (p : Pairs H xs rows) {i : Nat} {r w : Int} (h : rows[i]? = some (r, w)) : ∃ t, xs[i]? = some (.ref t) ∧ H t = some (.tup [.int r, .int w]) := by
  obtain ⟨x, h1, t, rfl, h2⟩ := Paired.at_ p h
  exact ⟨t, h1, h2⟩
theorem pairs_ex {H H' : Hp} {xs : List V} {rows : List (Int × Int)} (p : Pairs H xs rows) (e : Ex H H') : Pairs H' xs rows := L2.Paired.mapP p fun _ _ ⟨t, h1, h2⟩ => ⟨t, h1, e _ _ h2⟩
def rowD (r : Int × Int) : PyData := .tuple [.int r.1, .int r.2]
theorem pairs_dp {K : PySem.W.Frag} {H : Hp} : ∀ {xs : List V} {rows : List (Int × Int)}, Pairs H xs rows → DpAll K H xs (rows.map rowD)
  | _, _, .nil => .nil
  | _, _, .cons ⟨_, e, h⟩ t => by
    subst e
    exact .cons (.tup (st_of h) (.cons (.int _) (.cons (.int _) .nil))) (pairs_dp t)
theorem rows_lay : ∀ rows : List (Int × Int), PyData.canLayAll0 (rows.map rowD) = true
  | [] => rfl
  | _ :: r => by simp [PyData.canLayAll0, PyData.canLay0, rowD, rows_lay r]
theorem rows_depth : ∀ rows : List (Int × Int), PyData.depthAll (rows.map rowD) ≤ 1
  | [] => by simp [PyData.depthAll]
  | _ :: r => by
    have h := rows_depth r
    simp [PyData.depthAll, PyData.depth, rowD]
    omega
theorem rows_shaped (rows : List (Int × Int)) : SeqAt.shaped (.list (rows.map rowD)) = true := by
  have h := rows_depth rows
  simp [SeqAt.shaped, PyData.canLay0, PyData.depth, rows_lay]
  omega
theorem rows_eqv (rows : List (Int × Int)) : PyData.eqv (.list (rows.map rowD)) (.list (rows.map rowD)) = true := SeqAt.eqv_refl _ (by simp [PyData.canLay0, rows_lay])
def age (p : Int) (x : Int × Int) : Int := x.1 + x.2 / p
/-- of the rows ahead of i: j is the first of the greatest -/
def Best (p : Int) (rows : List (Int × Int)) (i j : Nat) : Prop := j < i ∧ ∃ x, rows[j]? = some x ∧ ∀ k y, k < i → rows[k]? = some y → age p y ≤ age p x ∧ (k < j → age p y < age p x)

/-! ### the promises -/
def sp_aged : Sp := fun vs H Q _ => ∃ r w p : Int, vs = [.int r, .int w, .int p] ∧ 0 < p ∧ p ≤ 1000 ∧ Q (.int (r + w / p)) H
def sp_first (K : PySem.W.Frag) : Sp := fun vs H Q _ => ∃ (a : Addr) (xs : List V) (rows : List (Int × Int)) (p : Int), vs = [.ref a, .int p] ∧ SqL K H a xs ∧ Pairs H xs rows ∧ 0 < p ∧ p ≤ 1000 ∧
  ∀ v H', Ex H H' → (rows = [] → v = .non) → (rows ≠ [] → ∃ j : Nat, v = .int j ∧ Best p rows rows.length j) → Q v H'
def sp_whole : Sp := fun vs H Q _ => ∃ i : Int, vs = [.int i] ∧ Q (.bl true) H
def sp_cell (K : PySem.W.Frag) : Sp := fun vs H Q _ => ∃ (a : Addr) (ns : List Int) (k : Int), vs = [.ref a, .int k] ∧ SqL K H a (ns.map V.int) ∧ 0 ≤ k ∧ Q (.int (cell ns k)) H
def sp_mix : Sp := fun vs H Q _ => ∃ c p m : Int, vs = [.int c, .int p, .int m] ∧ 0 < p ∧ 0 < m ∧ Q (.int (mix c p m)) H
def sp_pace : Sp := fun vs H Q _ => ∃ c : Int, vs = [.int c] ∧ ∀ H', Ex H H' → Q (.int (paceBy c)) H'
def sp_rows (K : PySem.W.Frag) : Sp := fun vs H Q _ => ∃ (a : Addr) (ns : List Int) (m p : Int), vs = [.ref a, .int m, .int p] ∧ SqL K H a (ns.map V.int) ∧ 0 ≤ m ∧ m ≤ 60 ∧ 0 < p ∧ p ≤ 1000 ∧
  ∀ q xs rows H', Ex H H' → H q = none → H' q = some (.lst xs) → Pairs H' xs rows → (rows.length : Int) = m → Q (.ref q) H'
def sp_law (K : PySem.W.Frag) : Sp := fun vs H Q _ => ∃ (a : Addr) (ns : List Int), vs = [.ref a] ∧ SqL K H a (ns.map V.int) ∧ ns.length ≤ 63 ∧ ∀ H', Q (.bl true) H'

section
variable {P : Program} {w : World} {K : PySem.W.Frag} {mg : Str → Option Value} {base : Heap}
theorem c_aged (T : Tx K mg) : Cal P w K mg base 1 "aged" sp_aged [] := by
  obtain ⟨f, fd, F, b, hg⟩ := T.d_aged
  refine ⟨f, fd, _, _, F.ok (k := 0) sc_aged (fun vs H Q E h => ?_) (fun cdv A outer s H vs Q E hr h => ?_), hg, F.kp, b, .nil⟩
  · obtain ⟨r, w, p, rfl, _⟩ := h
    rfl
  · have nd := sc_aged.nd
    obtain ⟨r, w, p, rfl, h0, h1, k⟩ := h
    refine ⟨_, (pss_cons (ps_if (pt_cmpR op_eq (pv 2) pe_int (nomark _))
  (pss_one (ps_ret (pv 0)))
  pss_nil)
  (pss_one (ps_ret (pe_op op_add (pv 0) (pe_op op_fdiv (pv 1) (pv 2)))))), ?_⟩
    refine ⟨_, rfl, rfl, _, rfl, ite2 (fun e => ?_) (fun e => ?_)⟩
    · have e0 : p = 0 := V.int.inj (of_decide_eq_true e)
      omega
    · exact ⟨_, rfl, _, rfl, _, rfl, _, _, rfl, rfl, ⟨h0, by show p < 1073741824; omega⟩, _, _, rfl, rfl, k⟩
theorem c__law_cell_at (T : Tx K mg) : Cal P w K mg base 1 "_law_cell_at" (sp_cell K) [] := by
  obtain ⟨f, fd, F, b, hg⟩ := T.d__law_cell_at
  refine ⟨f, fd, _, _, F.ok (k := 0) sc__law_cell_at (fun vs H Q E h => ?_) (fun cdv A outer s H vs Q E hr h => ?_), hg, F.kp, b, .nil⟩
  · obtain ⟨a, ns, k, rfl, _⟩ := h
    rfl
  · have nd := sc__law_cell_at.nd
    have m_len := T.m_len
    obtain ⟨a, ns, z, rfl, hS, hz, q⟩ := h
    obtain ⟨k, rfl⟩ : ∃ k : Nat, z = k := ⟨z.toNat, by omega⟩
    refine ⟨_, (pss_cons (ps_if (pt_cmpR op_lt (pv 1) (pe_callB call_len_seq (by rfl) m_len boot_len (pa_cons (pv 0) pa_nil)) (nomark _))
  (pss_one (ps_ret (pe_ix ix_list (pv 0) (pv 1) (fun _ _ => rfl))))
  pss_nil)
  (pss_one (ps_ret pe_int))), ?_⟩
    refine ⟨_, rfl, _, rfl, a, _, rfl, .inl hS, _, _, rfl, rfl, _, rfl, ite2 (fun e => ?_) (fun e => ?_)⟩
    · have e0 : (k : Int) < ((ns.map V.int).length : Int) := of_decide_eq_true e
      rw [List.length_map] at e0
      have hk : k < ns.length := by omega
      refine ⟨_, rfl, _, rfl, a, _, _, _, rfl, rfl, hS, atI_nat (j := k) (by rw [List.getElem?_map, List.getElem?_eq_getElem hk]; rfl), ?_⟩
      have e1 : cell ns k = ns[k] := by
        unfold cell
        rw [Int.toNat_natCast, List.getD_eq_getElem?_getD, List.getElem?_eq_getElem hk]
        rfl
      rw [e1] at q
      exact q
    · have e0 : ¬ (k : Int) < ((ns.map V.int).length : Int) := fun z => e (decide_eq_true z)
      rw [List.length_map] at e0
      have e1 : cell ns k = 0 := by
        unfold cell
        rw [Int.toNat_natCast, List.getD_eq_getElem?_getD, List.getElem?_eq_none (by omega)]
        rfl
      rw [e1] at q
      exact q
theorem c__law_whole (T : Tx K mg) : Cal P w K mg base 1 "_law_whole" sp_whole [] := by
  obtain ⟨f, fd, F, b, hg⟩ := T.d__law_whole
  refine ⟨f, fd, _, _, F.ok (k := 0) sc__law_whole (fun vs H Q E h => ?_) (fun cdv A outer s H vs Q E hr h => ?_), hg, F.kp, b, .nil⟩
  · obtain ⟨i, rfl, _⟩ := h
    rfl
  · have nd := sc__law_whole.nd
    have m_isinstance := T.m_isinstance
    have m_int := T.m_int
    have m_bool := T.m_bool
    obtain ⟨i, rfl, q⟩ := h
    refine ⟨_, (pss_one (ps_ret (pe_and (pe_callB call_isi (by rfl) m_isinstance (by decide +kernel) (pa_cons (pv 0) (pa_cons (pe_bltn (v := .ty "int") (by rfl) m_int (by decide +kernel) rfl) pa_nil))) (pe_one (pe_not (pe_callB call_isi (by rfl) m_isinstance (by decide +kernel) (pa_cons (pv 0) (pa_cons (pe_bltn (v := .ty "bool") (by rfl) m_bool (by decide +kernel) rfl) pa_nil)))))))), ?_⟩
    refine ⟨_, rfl, _, _, _, _, true, rfl, .ty "int", .base (.int i), kit_ty (by decide +kernel), true, rfl, iteT ?_⟩
    exact ⟨_, rfl, _, _, _, _, false, rfl, .ty "bool", .base (.int i), kit_ty (by decide +kernel), false, rfl, q⟩
theorem c__law_mix (T : Tx K mg) : Cal P w K mg base 1 "_law_mix" sp_mix [] := by
  obtain ⟨f, fd, F, b, hg⟩ := T.d__law_mix
  refine ⟨f, fd, _, _, F.ok (k := 0) sc__law_mix (fun vs H Q E h => ?_) (fun cdv A outer s H vs Q E hr h => ?_), hg, F.kp, b, .nil⟩
  · obtain ⟨c, p, m, rfl, _⟩ := h
    rfl
  · have nd := sc__law_mix.nd
    obtain ⟨c, p, m, rfl, h0, h1, k⟩ := h
    refine ⟨_, (pss_one (ps_ret (pe_op op_mod (pe_op op_mod (pe_op op_mul (pv 0) pe_int) (pv 1)) (pv 2)))), ?_⟩
    exact ⟨_, rfl, _, _, rfl, rfl, .inr ⟨by decide, by decide⟩, _, rfl, _, _, rfl, rfl, h0, _, rfl, _, _, rfl, rfl, h1, k⟩
theorem c__law_pace_by (T : Tx K mg) : Cal P w K mg base 2 "_law_pace_by" sp_pace [] := by
  have c__law_mix : Cal P w K mg base 1 "_law_mix" sp_mix [] := c__law_mix T
  obtain ⟨f, fd, F, b, hg⟩ := T.d__law_pace_by
  refine ⟨f, fd, _, _, F.ok (k := 1) sc__law_pace_by (fun vs H Q E h => ?_) (fun cdv A outer s H vs Q E hr h => ?_), hg, F.kp, b, .nil⟩
  · obtain ⟨c, rfl, _⟩ := h
    rfl
  · have nd := sc__law_pace_by.nd
    obtain ⟨c, rfl, k⟩ := h
    refine ⟨_, (pss_one (ps_ret (pe_ix ix_list (pe_lst (pa_cons pe_int (pa_cons pe_int (pa_cons pe_int (pa_cons (pe_op op_add pe_int (pe_c c__law_mix hr (by decide) (by rfl) (pa_cons (pv 0) (pa_cons pe_int (pa_cons pe_int pa_nil))))) pa_nil))))) (pe_c c__law_mix hr (by decide) (by rfl) (pa_cons (pv 0) (pa_cons pe_int (pa_cons pe_int pa_nil)))) (fun _ _ => rfl)))), ?_⟩
    refine ⟨_, rfl, c, 10067, 1000, rfl, by decide, by decide, _, _, rfl, rfl, (by show 4 ≤ sizeLine; decide), fun q hq => ?_⟩
    refine ⟨_, rfl, c, 10069, 4, rfl, by decide, by decide, q, _, _, .int (paceBy c), rfl, rfl, .inl (.inl upd_same), ?_, k _ (Ex.new hq)⟩
    have h := mix_nn (c := c) (p := 10069) (m := 4) (by decide)
    have h3 : (mix c 10069 4) = 0 ∨ (mix c 10069 4) = 1 ∨ (mix c 10069 4) = 2 ∨ (mix c 10069 4) = 3 := by omega
    unfold paceBy
    rcases h3 with e | e | e | e <;> rw [e] <;> rfl
theorem c_first (T : Tx K mg) : Cal P w K mg base 2 "first" (sp_first K) [] := by
  have c_aged : Cal P w K mg base 1 "aged" sp_aged [] := c_aged T
  obtain ⟨f, fd, F, b, hg⟩ := T.d_first
  refine ⟨f, fd, _, _, F.ok (k := 1) sc_first (fun vs H Q E h => ?_) (fun cdv A outer s H vs Q E hr h => ?_), hg, F.kp, b, .nil⟩
  · obtain ⟨a, xs, rows, p, rfl, _⟩ := h
    rfl
  · have nd := sc_first.nd
    have m_enumerate := T.m_enumerate
    obtain ⟨a, xs, rows, p, rfl, hS, hP, h0, h1, k⟩ := h
    refine ⟨_, (pss_cons (ps_set (i := 2) nd rfl (Or.inl rfl) pe_non)
  (pss_cons (ps_set (i := 3) nd rfl (Or.inl rfl) pe_int)
  (pss_cons (ps_for PassesOwn.never rfl (pi_enum (by rfl) m_enumerate (pa_cons (pv 0) pa_nil)) (pg_tup rfl (pgs_cons (pg_name (i := 4) nd rfl (Or.inl rfl)) (pgs_cons (pg_tup rfl (pgs_cons (pg_name (i := 5) nd rfl (Or.inl rfl)) (pgs_cons (pg_name (i := 6) nd rfl (Or.inl rfl)) pgs_nil))) pgs_nil)))
  (pss_cons (ps_set (i := 7) nd rfl (Or.inl rfl) (pe_c c_aged hr (by decide) (by rfl) (pa_cons (pv 5) (pa_cons (pv 6) (pa_cons (pv 1) pa_nil)))))
  (pss_one (ps_if (PW.pt (pw_or (pt_cmpR op_isN (pv 2) pe_non (nomark _)) (pw_or1 (pt_cmpR op_gt (pv 7) (pv 3) (nomark _)))))
  (pss_cons (ps_set (i := 2) nd rfl (Or.inl rfl) (pv 4))
  (pss_one (ps_set (i := 3) nd rfl (Or.inl rfl) (pv 7))))
  pss_nil))))
  (pss_one (ps_ret (pv 2)))))), ?_⟩
    refine ⟨_, rfl, a, xs, rfl, hS, ?_⟩
    refine for_it (walk_enum (K := K) (a := a) (xs := xs)) (fun i σ H' => Ex H H' ∧ ∃ v4 v5 v6 v7 : Option V, ∃ pl : V, ∃ b : Int, σ = [some (.ref a), some (.int p), some pl, some (.int b), v4, v5, v6, v7] ∧
      ((i = 0 ∧ pl = .non) ∨ ∃ j : Nat, pl = .int j ∧ Best p rows i j ∧ ∃ x, rows[j]? = some x ∧ b = age p x)) ?_ ?_ ?_ ?_
    · exact ⟨Ex.refl H, none, none, none, none, .non, 0, rfl, .inl ⟨rfl, rfl⟩⟩
    · rintro i σ H' _ ⟨e, _⟩
      exact ex_l e hS
    · rintro i x σ H1 H2 hi ⟨e, v4, v5, v6, v7, pl, b, rfl, hI⟩ ⟨T2, x1, x2, rfl, hT, rfl, hx1, hx2⟩
      have hir : i < rows.length := by rw [← Paired.len hP]; exact hi
      obtain ⟨r, wt, hrw⟩ : ∃ r wt, rows[i]? = some (r, wt) := ⟨rows[i].1, rows[i].2, List.getElem?_eq_getElem hir⟩
      obtain ⟨t, ht1, ht2⟩ := pairs_at hP hrw
      have ex2 : x2 = .ref t := Option.some.inj (hx2.symm.trans ht1)
      have ex1 : x1 = .int i := (Option.some.inj hx1).symm
      subst ex1 ex2
      have e2 : Ex H (upd H1 T2 (.tup [.int i, .ref t])) := e.trans (Ex.new hT)
      refine ⟨T2, _, rfl, st_of upd_same, rfl, _, _, rfl, _, _, rfl, ⟨t, _, rfl, st_of (e2 _ _ ht2), rfl, _, _, rfl, _, _, rfl, rfl, ?_⟩⟩
      refine ⟨rfl, ?_⟩
      refine ⟨_, rfl, _, rfl, _, rfl, r, wt, p, rfl, h0, h1, ?_⟩
      -- place is None or reached > best
      refine ⟨_, rfl, rfl, _, rfl, ?_⟩
      rcases hI with ⟨hi0, rfl⟩ | ⟨j, rfl, hB, x, hx, rfl⟩
      · refine iteT (iteT ?_)
        refine ⟨_, rfl, _, rfl, e2, _, _, _, _, .int i, _, rfl, .inr ⟨i, rfl, ⟨by omega, (r, wt), hrw, fun k y hk hy => ?_⟩, (r, wt), hrw, rfl⟩⟩
        have hki : k = i := by omega
        subst hki
        have ey : y = (r, wt) := Option.some.inj (hy.symm.trans hrw)
        subst ey
        exact ⟨Int.le_refl _, fun z => absurd z (Nat.lt_irrefl _)⟩
      · refine iteF ?_
        refine ⟨_, rfl, _, rfl, _, _, rfl, rfl, _, rfl, ite2 (fun c => ?_) (fun c => ?_)⟩
        · have hlt : age p x < age p (r, wt) := of_decide_eq_true c
          obtain ⟨hj, x', hx', hmax⟩ := hB
          have exx : x' = x := Option.some.inj (hx'.symm.trans hx)
          subst exx
          refine ⟨_, rfl, _, rfl, e2, _, _, _, _, .int i, _, rfl, .inr ⟨i, rfl, ⟨by omega, (r, wt), hrw, fun k y hk hy => ?_⟩, (r, wt), hrw, rfl⟩⟩
          by_cases hki : k = i
          · subst hki
            have ey : y = (r, wt) := Option.some.inj (hy.symm.trans hrw)
            subst ey
            exact ⟨Int.le_refl _, fun z => absurd z (Nat.lt_irrefl _)⟩
          · have q := (hmax k y (by omega) hy).1
            exact ⟨by omega, fun _ => by omega⟩
        · have hge : ¬ age p x < age p (r, wt) := fun z => c (decide_eq_true z)
          obtain ⟨hj, x', hx', hmax⟩ := hB
          have exx : x' = x := Option.some.inj (hx'.symm.trans hx)
          subst exx
          refine ⟨e2, _, _, _, _, .int j, _, rfl, .inr ⟨j, rfl, ⟨by omega, x', hx, fun k y hk hy => ?_⟩, x', hx, rfl⟩⟩
          by_cases hki : k = i
          · subst hki
            have ey : y = (r, wt) := Option.some.inj (hy.symm.trans hrw)
            subst ey
            exact ⟨by omega, fun z => by omega⟩
          · exact hmax k y (by omega) hy
    · rintro σ H' ⟨e, v4, v5, v6, v7, pl, b, rfl, hI⟩
      refine ⟨_, rfl, k _ _ e (fun er => ?_) (fun er => ?_)⟩
      · rcases hI with ⟨_, rfl⟩ | ⟨j, rfl, hB, _⟩
        · rfl
        · have h2 := hB.1
          rw [Paired.len hP, er] at h2
          exact absurd h2 (Nat.not_lt_zero _)
      · rcases hI with ⟨h2, rfl⟩ | ⟨j, rfl, hB, _⟩
        · rw [Paired.len hP] at h2
          exact absurd (List.length_eq_zero_iff.mp h2) er
        · exact ⟨j, rfl, by rw [← Paired.len hP]; exact hB⟩
theorem c__law_rows (T : Tx K mg) : Cal P w K mg base 2 "_law_rows" (sp_rows K) [] := by
  have c__law_mix : Cal P w K mg base 1 "_law_mix" sp_mix [] := c__law_mix T
  have c__law_cell_at : Cal P w K mg base 1 "_law_cell_at" (sp_cell K) [] := c__law_cell_at T
  obtain ⟨f, fd, F, b, hg⟩ := T.d__law_rows
  refine ⟨f, fd, _, _, F.ok (k := 1) sc__law_rows (fun vs H Q E h => ?_) (fun cdv A outer s H vs Q E hr h => ?_), hg, F.kp, b, .nil⟩
  · obtain ⟨a, ns, m, p, rfl, _⟩ := h
    rfl
  · have nd := sc__law_rows.nd
    have m_range := T.m_range
    have m_max := T.m_max
    obtain ⟨a, ns, m, p, rfl, hS, hm0, hm1, h0, h1, k⟩ := h
    refine ⟨_, (pss_cons (ps_set (i := 3) nd rfl (Or.inl rfl) (pe_lst pa_nil))
  (pss_cons (ps_for PassesOwn.never rfl (pi_range1 (by rfl) m_range (pa_cons (pv 1) pa_nil)) (pg_name (i := 4) nd rfl (Or.inl rfl))
  (pss_cons (ps_set (i := 5) nd rfl (Or.inl rfl) (pe_op op_add (pe_c c__law_cell_at hr (by decide) (by rfl) (pa_cons (pv 0) (pa_cons (pe_op op_add pe_int (pe_op op_mod (pv 4) pe_int)) pa_nil))) (pe_op op_mul pe_int (pv 4))))
  (pss_cons (ps_set (i := 6) nd rfl (Or.inl rfl) (pe_c c__law_mix hr (by decide) (by rfl) (pa_cons (pv 5) (pa_cons pe_int (pa_cons pe_int pa_nil)))))
  (pss_cut (ps_if (pt_cmpR op_eq (pe_op op_mod (pe_c c__law_cell_at hr (by decide) (by rfl) (pa_cons (pv 0) (pa_cons pe_int pa_nil))) pe_int) pe_int (nomark _))
  (pss_one (ps_set (i := 6) nd rfl (Or.inl rfl) (pe_op op_add pe_int (pe_op op_mod (pv 6) pe_int))))
  pss_nil)
  (pss_cons (ps_set (i := 7) nd rfl (Or.inl rfl) (pe_callB (call_max2 rfl) (by rfl) m_max (by decide +kernel) (pa_cons pe_int (pa_cons (pe_op op_sub (pe_op op_add (pe_op op_mul (pe_c c__law_mix hr (by decide) (by rfl) (pa_cons (pv 5) (pa_cons pe_int (pa_cons pe_int pa_nil)))) (pv 2)) (pe_c c__law_mix hr (by decide) (by rfl) (pa_cons (pv 5) (pa_cons pe_int (pa_cons pe_int pa_nil))))) pe_int) pa_nil))))
  (pss_cut (ps_if (pt_cmpR op_eq (pe_op op_mod (pe_c c__law_cell_at hr (by decide) (by rfl) (pa_cons (pv 0) (pa_cons pe_int pa_nil))) pe_int) pe_int (nomark _))
  (pss_one (ps_set (i := 7) nd rfl (Or.inl rfl) (pe_op op_add (pv 7) (pe_op op_pow pe_int pe_int))))
  pss_nil)
  (pss_one (ps_expr (pe_bm PySem.F.plainAttrs_list PySem.F.slot_list_append PySem.F.type_list_append mt_append (pv 3) (pa_cons (pe_tup (pa_cons (pv 6) (pa_cons (pv 7) pa_nil))) pa_nil))))))))))
  (pss_one (ps_ret (pv 3))))), ?_⟩
    refine ⟨by show 0 ≤ sizeLine; decide, fun q hq => ?_⟩
    refine ⟨_, rfl, m, rfl, by omega, by omega, ?_⟩
    refine for_range (lo := 0) (n := m.toNat) (fun i σ H' => Ex H H' ∧ ∃ (v4 v5 v6 v7 : Option V) (xs : List V) (rows : List (Int × Int)), σ = [some (.ref a), some (.int m), some (.int p), some (.ref q), v4, v5, v6, v7] ∧
      H' q = some (.lst xs) ∧ Pairs H' xs rows ∧ rows.length = i) ?_ ?_ ?_
    · exact ⟨Ex.new hq, none, none, none, none, [], [], rfl, upd_same, .nil, rfl⟩
    · rintro i σ H' hi ⟨e, v4, v5, v6, v7, xs, rows, rfl, hl, hP, hlen⟩
      have hS' : SqL K H' a (ns.map V.int) := ex_l e hS
      refine ⟨_, rfl, _, rfl, _, _, rfl, rfl, (by show (0 : Int) < 20; decide), _, _, rfl, rfl, a, ns, _, rfl, hS', (by have := Int.emod_nonneg (0 + (i : Int)) (by decide : (20 : Int) ≠ 0); omega), ?_⟩
      refine ⟨_, rfl, _, _, rfl, rfl, .inl ⟨by decide, by decide⟩, _, _, rfl, rfl, ?_⟩
      -- rank
      refine ⟨_, rfl, _, _, _, rfl, by decide, by decide, ?_⟩
      refine ⟨fun σ' H2 => H' = H2 ∧ ∃ (R c : Int), σ' = [some (.ref a), some (.int m), some (.int p), some (.ref q), some (.int (0 + (i : Int))), some (.int c), some (.int R), v7], ?_, ?_⟩
      · refine ⟨_, rfl, a, ns, 1, rfl, hS', by decide, _, _, rfl, rfl, (by show (0 : Int) < 2; decide), rfl, _, rfl, ite2 (fun c => ?_) (fun c => ?_)⟩
        · exact ⟨_, rfl, _, _, rfl, rfl, (by show (0 : Int) < 3; decide), _, _, rfl, rfl, rfl, _, _, rfl⟩
        · exact ⟨rfl, _, _, rfl⟩
      rintro σ' _ ⟨rfl, R, c, rfl⟩
      -- waited
      have hx := mix_nn (c := c) (p := 10037) (m := 10) (by decide)
      refine ⟨_, rfl, c, 10037, 10, rfl, by decide, by decide, _, rfl, _, _, rfl, rfl, .inl ⟨by omega, by omega⟩, _, rfl, c, 10039, 3, rfl, by decide, by decide, _, _, rfl, rfl, _, _, rfl, rfl, _, _, rfl, ?_⟩
      refine ⟨fun σ' H2 => H' = H2 ∧ ∃ (W : Int), σ' = [some (.ref a), some (.int m), some (.int p), some (.ref q), some (.int (0 + (i : Int))), some (.int c), some (.int R), some (.int W)], ?_, ?_⟩
      · refine ⟨_, rfl, a, ns, 2, rfl, hS', by decide, _, _, rfl, rfl, (by show (0 : Int) < 7; decide), rfl, _, rfl, ite2 (fun c => ?_) (fun c => ?_)⟩
        · exact ⟨_, rfl, 10, 11, rfl, rfl, ⟨by decide, by decide, by decide +kernel⟩, _, _, rfl, rfl, rfl, _, rfl⟩
        · exact ⟨rfl, _, rfl⟩
      rintro σ' _ ⟨rfl, W, rfl⟩
      refine ⟨_, rfl, .inl ⟨rfl, _, sq_of hl⟩, _, rfl, _, rfl, (by show 2 ≤ sizeLine; decide), fun t ht => ?_⟩
      have hqt : q ≠ t := ne_of_none hl ht
      have hxl : xs.length = i := (Paired.len hP).trans hlen
      refine ⟨q, xs, .ref t, rfl, rfl, by rw [upd_ne hqt]; exact hl, small1000 (by omega), ?_⟩
      have e2 : Ex H (upd (upd H' t (.tup [.int R, .int W])) q (.lst (xs ++ [.ref t]))) := Ex.mut (e.trans (Ex.new ht)) hq
      have keep : ∀ b o, H' b = some o → b ≠ q → upd (upd H' t (.tup [.int R, .int W])) q (.lst (xs ++ [.ref t])) b = some o := fun b o hb hne => by
        rw [upd_ne hne, upd_ne (ne_of_none hb ht)]
        exact hb
      refine ⟨e2, _, _, _, _, _, rows ++ [(R, W)], rfl, upd_same, Paired.snoc ⟨t, rfl, by rw [upd_ne hqt.symm, upd_same]⟩ (L2.Paired.mapP hP fun x r ⟨t', h1, h2⟩ => ⟨t', h1, keep t' _ h2 (fun z => ?_)⟩), by rw [List.length_append, hlen]; rfl⟩
      rw [z, hl] at h2
      cases h2
    · rintro σ H' ⟨e, v4, v5, v6, v7, xs, rows, rfl, hl, hP, hlen⟩
      exact ⟨_, rfl, k q xs rows H' e hq hl hP (by omega)⟩
theorem pairs_ix {H : Hp} {xs : List V} {rows : List (Int × Int)} (p : Pairs H xs rows) {j : Nat} (h : j < rows.length) : ∃ x t, rows[j]? = some x ∧ atI xs (j : Int) = some (.ref t) ∧ H t = some (.tup [.int x.1, .int x.2]) := by
  obtain ⟨t, h1, h2⟩ := pairs_at (r := rows[j].1) (w := rows[j].2) p (List.getElem?_eq_getElem h)
  exact ⟨rows[j], t, List.getElem?_eq_getElem h, atI_nat h1, h2⟩
theorem ok_law (T : Tx K mg) {f : Addr} {fd : FuncData} (F : Fun K "law" "law" s_law f fd) : FnOk P w K mg base CX0 3 f fd ["_law_script"] (sp_law K) := by
  have c__law_cell_at : Cal P w K mg base 1 "_law_cell_at" (sp_cell K) [] := c__law_cell_at T
  have c__law_pace_by : Cal P w K mg base 2 "_law_pace_by" sp_pace [] := c__law_pace_by T
  have c__law_rows : Cal P w K mg base 2 "_law_rows" (sp_rows K) [] := c__law_rows T
  have c__law_whole : Cal P w K mg base 1 "_law_whole" sp_whole [] := c__law_whole T
  have c_first : Cal P w K mg base 2 "first" (sp_first K) [] := c_first T
  refine F.ok (k := 2) sc_law (fun vs H Q E h => ?_) (fun cdv A outer s H vs Q E hr h => ?_)
  · obtain ⟨a, ns, rfl, _⟩ := h
    rfl
  · have nd := sc_law.nd
    have m_range := T.m_range
    have m_list := T.m_list
    obtain ⟨a, ns, rfl, hS, hlen, q⟩ := h
    refine ⟨_, (pss_cons (ps_set (i := 1) nd rfl (Or.inl rfl) (pe_c c__law_pace_by hr (by decide) (by rfl) (pa_cons (pe_c c__law_cell_at hr (by decide) (by rfl) (pa_cons (pv 0) (pa_cons pe_int pa_nil))) pa_nil)))
  (pss_cons (ps_set (i := 2) nd rfl (Or.inl rfl) (pe_op op_mod (pe_c c__law_cell_at hr (by decide) (by rfl) (pa_cons (pv 0) (pa_cons pe_int pa_nil))) pe_int))
  (pss_cut (ps_if (pt_cmpR op_eq (pe_op op_mod (pe_op op_fdiv (pe_c c__law_cell_at hr (by decide) (by rfl) (pa_cons (pv 0) (pa_cons pe_int pa_nil))) pe_int) pe_int) pe_int (nomark _))
  (pss_one (ps_set (i := 2) nd rfl (Or.inl rfl) pe_int))
  pss_nil)
  (pss_cons (ps_set (i := 3) nd rfl (Or.inl rfl) (pe_c c__law_rows hr (by decide) (by rfl) (pa_cons (pv 0) (pa_cons (pv 2) (pa_cons (pv 1) pa_nil)))))
  (pss_cons (ps_set (i := 4) nd rfl (Or.inl rfl) (pe_callTy call_list_of (by rfl) m_list (by decide +kernel) (pa_cons (pv 3) pa_nil)))
  (pss_cons (ps_set (i := 5) nd rfl (Or.inl rfl) (pe_c c_first hr (by decide) (by rfl) (pa_cons (pv 4) (pa_cons (pv 1) pa_nil))))
  (pss_cons (ps_if (pt_cmpR (op_neD hr.units) (pv 4) (pv 3) (nomark _))
  (pss_one (ps_ret pe_bl))
  pss_nil)
  (pss_cons (ps_if (pt_cmpR op_eq (pv 2) pe_int (nomark _))
  (pss_one (ps_ret (pe_cmpR op_isN (pv 5) pe_non (nomark _))))
  pss_nil)
  (pss_cons (ps_if (PW.pt (pw_or (pt_not (pt_val (pe_c c__law_whole hr (by decide) (by rfl) (pa_cons (pv 5) pa_nil)))) (pw_or (pt_cmpR op_lt (pv 5) pe_int (nomark _)) (pw_or1 (pt_cmpR op_ge (pv 5) (pv 2) (nomark _))))))
  (pss_one (ps_ret pe_bl))
  pss_nil)
  (pss_cons (ps_set (i := 6) nd rfl (Or.inl rfl) (pe_op op_add (pe_ix ix_tup (pe_ix ix_list (pv 3) (pv 5) (fun _ _ => rfl)) pe_int (fun _ _ => rfl)) (pe_op op_fdiv (pe_ix ix_tup (pe_ix ix_list (pv 3) (pv 5) (fun _ _ => rfl)) pe_int (fun _ _ => rfl)) (pv 1))))
  (pss_cons (ps_for PassesOwn.never rfl (pi_range1 (by rfl) m_range (pa_cons (pv 2) pa_nil)) (pg_name (i := 7) nd rfl (Or.inl rfl))
  (pss_cons (ps_set (i := 8) nd rfl (Or.inl rfl) (pe_op op_add (pe_ix ix_tup (pe_ix ix_list (pv 3) (pv 7) (fun _ _ => rfl)) pe_int (fun _ _ => rfl)) (pe_op op_fdiv (pe_ix ix_tup (pe_ix ix_list (pv 3) (pv 7) (fun _ _ => rfl)) pe_int (fun _ _ => rfl)) (pv 1))))
  (pss_one (ps_if (PW.pt (pw_or (pt_cmpR op_gt (pv 8) (pv 6) (nomark _)) (pw_or1 (PW.pt (pw_and (pt_cmpR op_eq (pv 8) (pv 6) (nomark _)) (pw_and1 (pt_cmpR op_lt (pv 7) (pv 5) (nomark _))))))))
  (pss_one (ps_ret pe_bl))
  pss_nil))))
  (pss_one (ps_ret pe_bl))))))))))))), ?_⟩
    -- pace
    refine ⟨_, rfl, a, ns, 2, rfl, hS, by decide, _, rfl, fun H1 e1 => ?_⟩
    have hp := paceBy_pos (cell ns 2)
    have hS1 : SqL K H1 a (ns.map V.int) := ex_l e1 hS
    -- many
    refine ⟨_, rfl, a, ns, 0, rfl, hS1, by decide, _, _, rfl, rfl, (by show (0 : Int) < 7; decide), ?_⟩
    refine ⟨fun σ' H2 => H1 = H2 ∧ ∃ M : Int, 0 ≤ M ∧ M ≤ 60 ∧ σ' = [some (.ref a), some (.int (paceBy (cell ns 2))), some (.int M), none, none, none, none, none, none], ?_, ?_⟩
    · refine ⟨_, rfl, a, ns, 0, rfl, hS1, by decide, _, _, rfl, rfl, ⟨by decide, by decide⟩, _, _, rfl, rfl, (by show (0 : Int) < 5; decide), rfl, _, rfl, ite2 (fun c => ?_) (fun c => ?_)⟩
      · exact ⟨rfl, 60, by decide, by decide, rfl⟩
      · exact ⟨rfl, _, Int.emod_nonneg _ (by decide), (by have := Int.emod_lt_of_pos (cell ns 0) (by decide : (0 : Int) < 7); omega), rfl⟩
    rintro σ' _ ⟨rfl, M, hM0, hM1, rfl⟩
    -- rows, handed
    refine ⟨_, rfl, _, rfl, _, rfl, a, ns, M, _, rfl, hS1, hM0, hM1, by omega, by omega, fun p1 xs rows H2 e2 _ hl1 hP hrl => ?_⟩
    refine ⟨_, rfl, p1, xs, rfl, .inl (sq_of hl1), fun p2 hp2 => ?_⟩
    have e3 : Ex H2 (upd H2 p2 (.lst xs)) := Ex.new hp2
    -- found
    refine ⟨_, rfl, _, rfl, p2, xs, rows, _, rfl, sq_of upd_same, pairs_ex hP e3, by omega, by omega, fun v H4 e4 hv0 hv1 => ?_⟩
    have hP4 : Pairs H4 xs rows := pairs_ex hP (e3.trans e4)
    have hl4 : SqL K H4 p1 xs := sq_of (e4 _ _ (e3 _ _ hl1))
    have hl5 : SqL K H4 p2 xs := sq_of (e4 _ _ upd_same)
    refine ⟨_, rfl, _, rfl, _, _, .lst hl5 (pairs_dp hP4), .lst hl4 (pairs_dp hP4), rows_shaped rows, rows_shaped rows, _, rfl, ?_⟩
    rw [rows_eqv rows]
    refine iteF ?_
    refine ⟨_, rfl, rfl, _, rfl, ite2 (fun c => ?_) (fun c => ?_)⟩
    · have eM : M = 0 := V.int.inj (of_decide_eq_true c)
      have er : rows = [] := List.length_eq_zero_iff.mp (by omega)
      rw [hv0 er]
      exact ⟨_, rfl, rfl, q _⟩
    have nM : M ≠ 0 := fun z => c (decide_eq_true (congrArg V.int z))
    have nr : rows ≠ [] := fun z => nM (by rw [z] at hrl; exact hrl.symm)
    obtain ⟨j, rfl, hj, x, hx, hmax⟩ := hv1 nr
    refine ⟨_, rfl, _, rfl, true, rfl, iteF ?_⟩
    refine ⟨_, rfl, _, _, rfl, rfl, _, rfl, ite2 (fun c => absurd (of_decide_eq_true c) (by omega)) (fun _ => ?_)⟩
    refine ⟨_, rfl, _, rfl, _, _, rfl, rfl, _, rfl, ite2 (fun c => absurd (of_decide_eq_true c) (by omega)) (fun _ => ?_)⟩
    -- best
    obtain ⟨t, ht, hT⟩ : ∃ t, atI xs (j : Int) = some (.ref t) ∧ H4 t = some (.tup [.int x.1, .int x.2]) := by
      obtain ⟨y, t, h1, h2, h3⟩ := pairs_ix hP4 hj
      have : y = x := Option.some.inj (h1.symm.trans hx)
      subst this
      exact ⟨t, h2, h3⟩
    refine ⟨_, rfl, _, rfl, p1, xs, _, _, rfl, rfl, hl4, ht, t, _, 0, _, rfl, rfl, st_of hT, rfl, ?_⟩
    refine ⟨_, rfl, _, rfl, p1, xs, _, _, rfl, rfl, hl4, ht, t, _, 1, _, rfl, rfl, st_of hT, rfl, _, rfl, _, _, rfl, rfl, ⟨by omega, by omega⟩, _, _, rfl, rfl, ?_⟩
    -- the loop
    refine ⟨_, rfl, M, rfl, by omega, by omega, ?_⟩
    refine for_range (lo := 0) (n := M.toNat) (fun i σ H' => H4 = H' ∧ ∃ v7 v8 : Option V, σ = [some (.ref a), some (.int (paceBy (cell ns 2))), some (.int M), some (.ref p1), some (.ref p2), some (.int j), some (.int (age (paceBy (cell ns 2)) x)), v7, v8]) ⟨rfl, none, none, rfl⟩ ?_ ?_
    · rintro i σ _ hi ⟨rfl, v7, v8, rfl⟩
      obtain ⟨y, t2, hy, ht2, hT2⟩ := pairs_ix (j := i) hP4 (by omega)
      have e0 : (0 : Int) + (i : Int) = (i : Int) := Int.zero_add _
      refine ⟨_, rfl, _, rfl, p1, xs, _, _, rfl, rfl, hl4, (by rw [Int.zero_add]; exact ht2), t2, _, 0, _, rfl, rfl, st_of hT2, rfl, ?_⟩
      refine ⟨_, rfl, _, rfl, p1, xs, _, _, rfl, rfl, hl4, (by rw [Int.zero_add]; exact ht2), t2, _, 1, _, rfl, rfl, st_of hT2, rfl, _, rfl, _, _, rfl, rfl, ⟨by omega, by omega⟩, _, _, rfl, rfl, ?_⟩
      have hm := hmax i y (by omega) hy
      refine ⟨_, rfl, _, rfl, _, _, rfl, rfl, _, rfl, ite2 (fun c => ?_) (fun _ => ?_)⟩
      · have h1 : age (paceBy (cell ns 2)) x < age (paceBy (cell ns 2)) y := of_decide_eq_true c
        omega
      refine ⟨_, rfl, _, rfl, rfl, _, rfl, ite2 (fun c => ?_) (fun _ => ?_)⟩
      · have h1 : age (paceBy (cell ns 2)) y = age (paceBy (cell ns 2)) x := V.int.inj (of_decide_eq_true c)
        refine ⟨_, rfl, _, rfl, _, _, rfl, rfl, _, rfl, ite2 (fun c2 => ?_) (fun _ => ?_)⟩
        · have h2 : (0 : Int) + (i : Int) < (j : Int) := of_decide_eq_true c2
          have h3 := hm.2 (by omega)
          omega
        · exact ⟨rfl, _, _, rfl⟩
      · exact ⟨rfl, _, _, rfl⟩
    · rintro σ _ ⟨rfl, v7, v8, rfl⟩
      exact q _
end
theorem all_mk {l : PySem.W.OpenLaw} {w : World} {K : PySem.W.Frag} {h : Heap} {mg : Str → Option Value} {fa f1 f2 f3 f4 f5 f6 f7 f8 : Addr} (X : K.In h) (G : h.Ns mainGlobals mg) (hfa : mg "law" = some (.ref fa))
    {od1 od2 od3 od4 od5 od6 od7 od8 an1 an2 an3 an4 an5 an6 an7 an8 : Option Addr} {sl1 sl2 sl3 sl4 sl5 sl6 sl7 sl8 : Array (Option Value)} {oc1 oc2 oc3 oc4 oc5 oc6 oc7 oc8 kV1 kV2 kV3 kV4 kV5 kV6 kV7 kV8 dc1 dc2 dc3 dc4 dc5 dc6 dc7 dc8 pm1 pm2 pm3 pm4 pm5 pm6 pm7 pm8 cd1 cd2 cd3 cd4 cd5 cd6 cd7 cd8 ct1 ct2 ct3 ct4 ct5 ct6 ct7 ct8 : Value}
    (a1 : PySem.W.nsIn K mainGlobals "aged" = some (some (.ref f1))) (l1 : K.lookup f1 = some ⟨oc1, od1, .func (PySem.W.fnOf "aged" "aged" (defArgs s_aged) (defBody s_aged) (defScope s_aged) .none kV1 dc1 pm1 an1 cd1 ct1), sl1⟩) (c1 : PySem.W.codeIn K cd1 "aged" = true) (k1 : PySem.W.keepIn K (.ref f1) = true)
    (a2 : PySem.W.nsIn K mainGlobals "first" = some (some (.ref f2))) (l2 : K.lookup f2 = some ⟨oc2, od2, .func (PySem.W.fnOf "first" "first" (defArgs s_first) (defBody s_first) (defScope s_first) .none kV2 dc2 pm2 an2 cd2 ct2), sl2⟩) (c2 : PySem.W.codeIn K cd2 "first" = true) (k2 : PySem.W.keepIn K (.ref f2) = true)
    (a3 : PySem.W.nsIn K mainGlobals "_law_whole" = some (some (.ref f3))) (l3 : K.lookup f3 = some ⟨oc3, od3, .func (PySem.W.fnOf "_law_whole" "_law_whole" (defArgs s__law_whole) (defBody s__law_whole) (defScope s__law_whole) .none kV3 dc3 pm3 an3 cd3 ct3), sl3⟩) (c3 : PySem.W.codeIn K cd3 "_law_whole" = true) (k3 : PySem.W.keepIn K (.ref f3) = true)
    (a4 : PySem.W.nsIn K mainGlobals "_law_cell_at" = some (some (.ref f4))) (l4 : K.lookup f4 = some ⟨oc4, od4, .func (PySem.W.fnOf "_law_cell_at" "_law_cell_at" (defArgs s__law_cell_at) (defBody s__law_cell_at) (defScope s__law_cell_at) .none kV4 dc4 pm4 an4 cd4 ct4), sl4⟩) (c4 : PySem.W.codeIn K cd4 "_law_cell_at" = true) (k4 : PySem.W.keepIn K (.ref f4) = true)
    (a5 : PySem.W.nsIn K mainGlobals "_law_mix" = some (some (.ref f5))) (l5 : K.lookup f5 = some ⟨oc5, od5, .func (PySem.W.fnOf "_law_mix" "_law_mix" (defArgs s__law_mix) (defBody s__law_mix) (defScope s__law_mix) .none kV5 dc5 pm5 an5 cd5 ct5), sl5⟩) (c5 : PySem.W.codeIn K cd5 "_law_mix" = true) (k5 : PySem.W.keepIn K (.ref f5) = true)
    (a6 : PySem.W.nsIn K mainGlobals "_law_pace_by" = some (some (.ref f6))) (l6 : K.lookup f6 = some ⟨oc6, od6, .func (PySem.W.fnOf "_law_pace_by" "_law_pace_by" (defArgs s__law_pace_by) (defBody s__law_pace_by) (defScope s__law_pace_by) .none kV6 dc6 pm6 an6 cd6 ct6), sl6⟩) (c6 : PySem.W.codeIn K cd6 "_law_pace_by" = true) (k6 : PySem.W.keepIn K (.ref f6) = true)
    (a7 : PySem.W.nsIn K mainGlobals "_law_rows" = some (some (.ref f7))) (l7 : K.lookup f7 = some ⟨oc7, od7, .func (PySem.W.fnOf "_law_rows" "_law_rows" (defArgs s__law_rows) (defBody s__law_rows) (defScope s__law_rows) .none kV7 dc7 pm7 an7 cd7 ct7), sl7⟩) (c7 : PySem.W.codeIn K cd7 "_law_rows" = true) (k7 : PySem.W.keepIn K (.ref f7) = true)
    (a8 : PySem.W.nsIn K mainGlobals "law" = some (some (.ref f8))) (l8 : K.lookup f8 = some ⟨oc8, od8, .func (PySem.W.fnOf "law" "law" (defArgs s_law) (defBody s_law) (defScope s_law) .none kV8 dc8 pm8 an8 cd8 ct8), sl8⟩) (c8 : PySem.W.codeIn K cd8 "law" = true) (k8 : PySem.W.keepIn K (.ref f8) = true)
    (z0 : PySem.W.nsIn K mainGlobals "enumerate" = some none)
    (z1 : PySem.W.nsIn K mainGlobals "bool" = some none)
    (z2 : PySem.W.nsIn K mainGlobals "int" = some none)
    (z3 : PySem.W.nsIn K mainGlobals "isinstance" = some none)
    (z4 : PySem.W.nsIn K mainGlobals "len" = some none)
    (z5 : PySem.W.nsIn K mainGlobals "max" = some none)
    (z6 : PySem.W.nsIn K mainGlobals "range" = some none)
    (z7 : PySem.W.nsIn K mainGlobals "list" = some none)
    : ∃ fd : FuncData, (∀ (s : Shared) (v : Value), BindsTo s fd ⟨[v], []⟩ [("_law_script", v)]) ∧ ∀ base : Heap, K.In base → base.Ns mainGlobals mg → FnOk l.prog w K mg base CX0 3 fa fd ["_law_script"] (sp_law K) := by
  have e := hfa.symm.trans (PySem.W.mg_of X G a8)
  cases e
  have F1 := fun_mk (st := s_aged) l1 c1 k1
  have b1 := F1.binds (ps := ["rank", "waited", "pace"]) fun _ _ _ _ _ _ us hl => match us, hl with | [_, _, _], _ => rfl
  have F2 := fun_mk (st := s_first) l2 c2 k2
  have b2 := F2.binds (ps := ["rows", "pace"]) fun _ _ _ _ _ _ us hl => match us, hl with | [_, _], _ => rfl
  have F3 := fun_mk (st := s__law_whole) l3 c3 k3
  have b3 := F3.binds (ps := ["_law_found"]) fun _ _ _ _ _ _ us hl => match us, hl with | [_], _ => rfl
  have F4 := fun_mk (st := s__law_cell_at) l4 c4 k4
  have b4 := F4.binds (ps := ["_law_script", "_law_k"]) fun _ _ _ _ _ _ us hl => match us, hl with | [_, _], _ => rfl
  have F5 := fun_mk (st := s__law_mix) l5 c5 k5
  have b5 := F5.binds (ps := ["_law_cell", "_law_prime", "_law_many"]) fun _ _ _ _ _ _ us hl => match us, hl with | [_, _, _], _ => rfl
  have F6 := fun_mk (st := s__law_pace_by) l6 c6 k6
  have b6 := F6.binds (ps := ["_law_cell"]) fun _ _ _ _ _ _ us hl => match us, hl with | [_], _ => rfl
  have F7 := fun_mk (st := s__law_rows) l7 c7 k7
  have b7 := F7.binds (ps := ["_law_script", "_law_many", "_law_pace"]) fun _ _ _ _ _ _ us hl => match us, hl with | [_, _, _], _ => rfl
  have F8 := fun_mk (st := s_law) l8 c8 k8
  have b8 := F8.binds (ps := ["_law_script"]) fun _ _ _ _ _ _ us hl => match us, hl with | [_], _ => rfl
  have T : Tx K mg := ⟨PySem.W.mg_none_of X G z0, PySem.W.mg_none_of X G z1, PySem.W.mg_none_of X G z2, PySem.W.mg_none_of X G z3, PySem.W.mg_none_of X G z4, PySem.W.mg_none_of X G z5, PySem.W.mg_none_of X G z6, PySem.W.mg_none_of X G z7, ⟨_, _, F1, b1, PySem.W.mg_of X G a1⟩, ⟨_, _, F2, b2, PySem.W.mg_of X G a2⟩, ⟨_, _, F3, b3, PySem.W.mg_of X G a3⟩, ⟨_, _, F4, b4, PySem.W.mg_of X G a4⟩, ⟨_, _, F5, b5, PySem.W.mg_of X G a5⟩, ⟨_, _, F6, b6, PySem.W.mg_of X G a6⟩, ⟨_, _, F7, b7, PySem.W.mg_of X G a7⟩, ⟨_, _, F8, b8, PySem.W.mg_of X G a8⟩⟩
  exact ⟨PySem.W.fnOf "law" "law" (defArgs s_law) (defBody s_law) (defScope s_law) .none kV8 dc8 pm8 an8 cd8 ct8, fun s v => .of_eq rfl, fun base _ _ => ok_law T F8⟩
end Rr
open PySem PySem.W PyProof.Rows
set_option maxHeartbeats 0 in
theorem PySem.Challenge.cw_rrdesk_k02_first_chosen_holds : PySem.Challenge.rw_rrdesk_k02_first_chosen.Holds := by
  w_on; o_law; k_head; (case hw => w_witness2)
  k_fill
  refine L2.walk_of (l := PySem.Challenge.rw_rrdesk_k02_first_chosen) (n := 63) (k := 3) (x := "_law_script") (CX := fun _ => L2.CX0) (sp := fun w => Rr.sp_law _) rfl (by decide) rfl ⟨rfl, by decide, by decide⟩ (fun w h Y => PySem.W.kIn_of Y) ?F (fun _ _ a ns hl _ hS => ⟨a, ns, rfl, hS, hl, fun _ => rfl⟩) (fun _ _ _ _ _ h => h)
  case F =>
    intro w mg fa h KX G hmg
    refine' Rr.all_mk KX G hmg ?a1 ?l1 ?c1 ?k1 ?a2 ?l2 ?c2 ?k2 ?a3 ?l3 ?c3 ?k3 ?a4 ?l4 ?c4 ?k4 ?a5 ?l5 ?c5 ?k5 ?a6 ?l6 ?c6 ?k6 ?a7 ?l7 ?c7 ?k7 ?a8 ?l8 ?c8 ?k8 ?z0 ?z1 ?z2 ?z3 ?z4 ?z5 ?z6 ?z7
    (case a1 => k_is); (case l1 => k_is); (case c1 => k_is); (case k1 => k_is); (case a2 => k_is); (case l2 => k_is); (case c2 => k_is); (case k2 => k_is); (case a3 => k_is); (case l3 => k_is); (case c3 => k_is); (case k3 => k_is); (case a4 => k_is); (case l4 => k_is); (case c4 => k_is); (case k4 => k_is); (case a5 => k_is); (case l5 => k_is); (case c5 => k_is); (case k5 => k_is); (case a6 => k_is); (case l6 => k_is); (case c6 => k_is); (case k6 => k_is); (case a7 => k_is); (case l7 => k_is); (case c7 => k_is); (case k7 => k_is); (case a8 => k_is); (case l8 => k_is); (case c8 => k_is); (case k8 => k_is); (case z0 => k_is); (case z1 => k_is); (case z2 => k_is); (case z3 => k_is); (case z4 => k_is); (case z5 => k_is); (case z6 => k_is); (case z7 => k_is)
