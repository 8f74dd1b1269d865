import PyProof.Rows.All
import Wide.All
import OpenK.AllK
import Wide.FinOn
import Eq2
import HandS.Walk
import HandS.Head0
import HandS.Head1
import HandS.Head2
import HandS.HeadEnd
import PySem.Challenge.RW_kindgrove_k13_remainders
set_option Elab.async false
set_option linter.all false
set_option maxRecDepth 100000
set_option maxHeartbeats 2000000
namespace K13
open PySem PySem.Spec PyProof.Rows L2 CM
def topS (i : Nat) : Stmt := PySem.Challenge.pw_kindgrove_k13_remainders.main.body.getD i (.Pass ⟨0, 0, 0, 0⟩)
abbrev s_NotGiven___init : Stmt := inClass (topS 2) 0
abbrev n_NotGiven___init : List Str := ["self", "name"]
theorem sc_NotGiven___init : FnScope n_NotGiven___init ["self", "name"] (defScope s_NotGiven___init) := ⟨rfl, rfl, rfl, by decide +kernel, rfl, by decide +kernel, by decide +kernel⟩
abbrev s_Kind_own : Stmt := inClass (topS 4) 0
abbrev n_Kind_own : List Str := ["self", "key"]
theorem sc_Kind_own : FnScope n_Kind_own ["self", "key"] (defScope s_Kind_own) := ⟨rfl, rfl, rfl, by decide +kernel, rfl, by decide +kernel, by decide +kernel⟩
abbrev s_Kind_join : Stmt := inClass (topS 4) 1
abbrev n_Kind_join : List Str := ["self", "one", "other"]
theorem sc_Kind_join : FnScope n_Kind_join ["self", "one", "other"] (defScope s_Kind_join) := ⟨rfl, rfl, rfl, by decide +kernel, rfl, by decide +kernel, by decide +kernel⟩
abbrev s_Kind_consistent : Stmt := inClass (topS 4) 2
abbrev n_Kind_consistent : List Str := ["self", "label", "question"]
theorem sc_Kind_consistent : FnScope n_Kind_consistent ["self", "label", "question"] (defScope s_Kind_consistent) := ⟨rfl, rfl, rfl, by decide +kernel, rfl, by decide +kernel, by decide +kernel⟩
abbrev s_Kind_matches : Stmt := inClass (topS 4) 3
abbrev n_Kind_matches : List Str := ["self", "key", "question"]
theorem sc_Kind_matches : FnScope n_Kind_matches ["self", "key", "question"] (defScope s_Kind_matches) := ⟨rfl, rfl, rfl, by decide +kernel, rfl, by decide +kernel, by decide +kernel⟩
abbrev s_Kind_penalty : Stmt := inClass (topS 4) 4
abbrev n_Kind_penalty : List Str := ["self", "label", "key"]
theorem sc_Kind_penalty : FnScope n_Kind_penalty ["self", "label", "key"] (defScope s_Kind_penalty) := ⟨rfl, rfl, rfl, by decide +kernel, rfl, by decide +kernel, by decide +kernel⟩
abbrev s_Kind_sides : Stmt := inClass (topS 4) 5
abbrev n_Kind_sides : List Str := ["self", "labels", "half"]
theorem sc_Kind_sides : FnScope n_Kind_sides ["self", "labels"] (defScope s_Kind_sides) := ⟨rfl, rfl, rfl, by decide +kernel, rfl, by decide +kernel, by decide +kernel⟩
abbrev s_Rests_own : Stmt := inClass (topS 6) 0
abbrev n_Rests_own : List Str := ["self", "key"]
theorem sc_Rests_own : FnScope n_Rests_own ["self", "key"] (defScope s_Rests_own) := ⟨rfl, rfl, rfl, by decide +kernel, rfl, by decide +kernel, by decide +kernel⟩
abbrev s_Rests_join : Stmt := inClass (topS 6) 1
abbrev n_Rests_join : List Str := ["self", "one", "other"]
theorem sc_Rests_join : FnScope n_Rests_join ["self", "one", "other"] (defScope s_Rests_join) := ⟨rfl, rfl, rfl, by decide +kernel, rfl, by decide +kernel, by decide +kernel⟩
abbrev s_Rests_consistent : Stmt := inClass (topS 6) 2
abbrev n_Rests_consistent : List Str := ["self", "label", "question", "step"]
theorem sc_Rests_consistent : FnScope n_Rests_consistent ["self", "label", "question"] (defScope s_Rests_consistent) := ⟨rfl, rfl, rfl, by decide +kernel, rfl, by decide +kernel, by decide +kernel⟩
abbrev s_Rests_matches : Stmt := inClass (topS 6) 3
abbrev n_Rests_matches : List Str := ["self", "key", "question"]
theorem sc_Rests_matches : FnScope n_Rests_matches ["self", "key", "question"] (defScope s_Rests_matches) := ⟨rfl, rfl, rfl, by decide +kernel, rfl, by decide +kernel, by decide +kernel⟩
abbrev s_Rests_penalty : Stmt := inClass (topS 6) 4
abbrev n_Rests_penalty : List Str := ["self", "label", "key"]
theorem sc_Rests_penalty : FnScope n_Rests_penalty ["self", "label", "key"] (defScope s_Rests_penalty) := ⟨rfl, rfl, rfl, by decide +kernel, rfl, by decide +kernel, by decide +kernel⟩
abbrev s_common_rest : Stmt := topS 7
abbrev n_common_rest : List Str := ["one", "other", "modulus", "rest", "step"]
theorem sc_common_rest : FnScope n_common_rest ["one", "other"] (defScope s_common_rest) := ⟨rfl, rfl, rfl, by decide +kernel, rfl, by decide +kernel, by decide +kernel⟩
abbrev s_common_divisor : Stmt := topS 8
abbrev n_common_divisor : List Str := ["one", "other"]
theorem sc_common_divisor : FnScope n_common_divisor ["one", "other"] (defScope s_common_divisor) := ⟨rfl, rfl, rfl, by decide +kernel, rfl, by decide +kernel, by decide +kernel⟩
abbrev s_law_well : Stmt := topS 10
abbrev n_law_well : List Str := ["_law_cell"]
theorem sc_law_well : FnScope n_law_well ["_law_cell"] (defScope s_law_well) := ⟨rfl, rfl, rfl, by decide +kernel, rfl, by decide +kernel, by decide +kernel⟩
abbrev s_law_draw : Stmt := topS 11
abbrev n_law_draw : List Str := ["_law_well_here", "_law_many", "_law_digit", "_law_number", "_law_more"]
theorem sc_law_draw : FnScope n_law_draw ["_law_well_here", "_law_many"] (defScope s_law_draw) := ⟨rfl, rfl, rfl, by decide +kernel, rfl, by decide +kernel, by decide +kernel⟩
abbrev s_law_one : Stmt := topS 12
abbrev n_law_one : List Str := ["_law_well_here", "_law_some"]
theorem sc_law_one : FnScope n_law_one ["_law_well_here", "_law_some"] (defScope s_law_one) := ⟨rfl, rfl, rfl, by decide +kernel, rfl, by decide +kernel, by decide +kernel⟩
abbrev s_law_divisor : Stmt := topS 13
abbrev n_law_divisor : List Str := ["_law_one_here", "_law_two", "_law_k"]
theorem sc_law_divisor : FnScope n_law_divisor ["_law_one_here", "_law_two"] (defScope s_law_divisor) := ⟨rfl, rfl, rfl, by decide +kernel, rfl, by decide +kernel, by decide +kernel⟩
abbrev s_law_holds : Stmt := topS 14
abbrev n_law_holds : List Str := ["_law_tag_here", "_law_number"]
theorem sc_law_holds : FnScope n_law_holds ["_law_tag_here", "_law_number"] (defScope s_law_holds) := ⟨rfl, rfl, rfl, by decide +kernel, rfl, by decide +kernel, by decide +kernel⟩
abbrev s_law_tag : Stmt := topS 15
abbrev n_law_tag : List Str := ["_law_well_here", "_law_size", "_law_modulus"]
theorem sc_law_tag : FnScope n_law_tag ["_law_well_here", "_law_size"] (defScope s_law_tag) := ⟨rfl, rfl, rfl, by decide +kernel, rfl, by decide +kernel, by decide +kernel⟩
abbrev s_law_members : Stmt := topS 16
abbrev n_law_members : List Str := ["_law_tag_here", "_law_low", "_law_high", "_law_number"]
theorem sc_law_members : FnScope n_law_members ["_law_tag_here", "_law_low", "_law_high"] (defScope s_law_members) := ⟨rfl, rfl, rfl, by decide +kernel, rfl, by decide +kernel, by decide +kernel⟩
abbrev s_law_small_right : Stmt := topS 17
abbrev n_law_small_right : List Str := ["_law_well_here", "_law_made", "_law_one_here", "_law_two", "_law_tag_here", "_law_both", "_law_modulus", "_law_asked", "_law_due", "_law_number"]
theorem sc_law_small_right : FnScope n_law_small_right ["_law_well_here", "_law_made"] (defScope s_law_small_right) := ⟨rfl, rfl, rfl, by decide +kernel, rfl, by decide +kernel, by decide +kernel⟩
abbrev s_law_great_right : Stmt := topS 18
abbrev n_law_great_right : List Str := ["_law_well_here", "_law_made", "_law_size", "_law_one_here", "_law_two", "_law_modulus", "_law_item", "_law_base", "_law_asked", "_law_due"]
theorem sc_law_great_right : FnScope n_law_great_right ["_law_well_here", "_law_made"] (defScope s_law_great_right) := ⟨rfl, rfl, rfl, by decide +kernel, rfl, by decide +kernel, by decide +kernel⟩
abbrev s_law : Stmt := topS 19
abbrev n_law : List Str := ["_law_script", "_law_cell", "_law_well_here", "_law_made", "_law_turn", "_law_k"]
theorem sc_law : FnScope n_law ["_law_script"] (defScope s_law) := ⟨rfl, rfl, rfl, by decide +kernel, rfl, by decide +kernel, by decide +kernel⟩
abbrev FnP (K : PySem.W.Frag) (x q : Str) (st : Stmt) (f : Addr) (fd : FuncData) : Prop := FunD K x q (defArgs st) (defBody st) (defScope st) [] [] f fd
section
variable {P : Program} {w : World} {K : PySem.W.Frag} {mg : Str → Option Value} {base : Heap}
/-- a number of draws to be divided by -/
structure Sz (m : Int) : Prop where
  lt : m.natAbs.log2 < 9000
theorem Sz.of {m : Int} {k : Nat} (h : m.natAbs < 2 ^ k) (hk : k ≤ 9000) : Sz m := by
  refine ⟨?_⟩
  cases k with
  | zero =>
    have : m.natAbs = 0 := by omega
    rw [this]
    decide
  | succ k => exact Nat.lt_of_lt_of_le (PySem.Flt.log2_lt_of (Nat.succ_pos k) h) hk
def spWell : Sp := fun vs H Q _ => ∃ i : Int, vs = [.int i] ∧ ∀ p, H p = none → Q (.ref p) (upd H p (.lst [.int i, .int 0]))
def spDraw : Sp := fun vs H Q _ => ∃ (a : Addr) (x c m : Int), vs = [.ref a, .int m] ∧ H a = some (.lst [.int x, .int c]) ∧ 0 < m ∧ Sz m ∧
  ∀ r x' c' : Int, 0 ≤ r → r < m → Q (.int r) (upd H a (.lst [.int x', .int c']))
theorem ok_well {f : Addr} {fd : FuncData} {k : Nat} (F : FnP K "_law_well" "_law_well" s_law_well f fd) (m_int : mg "int" = none) : FnOk P w K mg base CX0 (k + 1) f fd ["_law_cell"] spWell := by
  refine F.ok sc_law_well (fun vs H Q E h => ?_) (fun cdv A outer s H vs Q E hr h => ?_)
  · obtain ⟨i, rfl, _⟩ := h
    rfl
  · obtain ⟨i, rfl, q⟩ := h
    refine ⟨_, pss_one (ps_ret (pe_lst (pa_cons (pe_callTy call_int1 (by rfl) m_int boot_int (pa_cons (pv 0) pa_nil)) (pa_cons pe_int pa_nil)))), ?_⟩
    exact ⟨_, rfl, .inl ⟨i, rfl, ⟨by show 2 ≤ sizeLine; decide, fun p hp => q p hp⟩⟩⟩
theorem ok_draw {f : Addr} {fd : FuncData} {k : Nat} (F : FnP K "_law_draw" "_law_draw" s_law_draw f fd) (m_int : mg "int" = none) : FnOk P w K mg base CX0 (k + 1) f fd ["_law_well_here", "_law_many"] spDraw := by
  refine F.ok sc_law_draw (fun vs H Q E h => ?_) (fun cdv A outer s H vs Q E hr h => ?_)
  · obtain ⟨a, x, c, m, rfl, _⟩ := h
    rfl
  · obtain ⟨a, x, c, m, rfl, ha, m0, m1, q⟩ := h
    refine ⟨_, pss_cons (ps_if (pt_cmpR op_ge (pe_ix ix_list (pv 0) pe_int (fun _ _ => rfl)) (pe_op op_pow pe_int pe_int) (nomark _)) (pss_cons (ps_set (i := 2) sc_law_draw.nd rfl (.inl rfl) (pe_op op_mod (pe_callTy call_int1 (by rfl) m_int boot_int (pa_cons (pe_ix ix_list (pv 0) pe_int (fun _ _ => rfl)) pa_nil)) (pv 1)))
      (pss_cons (ps_asg (pe_op op_fdivW (pe_ix ix_list (pv 0) pe_int (fun _ _ => rfl)) (pv 1)) (pg_sub (pv 0) pe_int set_list))
      (pss_one (ps_ret (pv 2))))) (pss_nil))
    (pss_cons (ps_asg (pe_op op_add (pe_ix ix_list (pv 0) pe_int (fun _ _ => rfl)) pe_int) (pg_sub (pv 0) pe_int set_list))
    (pss_cons (ps_set (i := 3) sc_law_draw.nd rfl (.inl rfl) (pe_op op_mod (pe_callTy call_int1 (by rfl) m_int boot_int (pa_cons (pe_op op_mul (pe_callTy call_int1 (by rfl) m_int boot_int (pa_cons (pe_op op_add (pe_op op_add (pe_op op_mod (pe_callTy call_int1 (by rfl) m_int boot_int (pa_cons (pe_ix ix_list (pv 0) pe_int (fun _ _ => rfl)) pa_nil)) pe_int) (pe_op op_mul pe_int (pe_ix ix_list (pv 0) pe_int (fun _ _ => rfl)))) pe_int) pa_nil)) pe_int) pa_nil)) pe_int))
    (pss_cons (ps_set (i := 4) sc_law_draw.nd rfl (.inl rfl) (pe_op op_mod (pe_callTy call_int1 (by rfl) m_int boot_int (pa_cons (pe_op op_fdivW (pe_ix ix_list (pv 0) pe_int (fun _ _ => rfl)) pe_int) pa_nil)) pe_int))
    (pss_cons (ps_set (i := 3) sc_law_draw.nd rfl (.inl rfl) (pe_op op_mod (pe_callTy call_int1 (by rfl) m_int boot_int (pa_cons (pe_op op_mul (pv 3) (pe_op op_add (pe_op op_add (pe_op op_fdiv (pv 3) pe_int) pe_int) (pv 4))) pa_nil)) pe_int))
    (pss_one (ps_ret (pe_op op_mod (pe_callTy call_int1 (by rfl) m_int boot_int (pa_cons (pe_op op_fdiv (pe_op op_mod (pe_callTy call_int1 (by rfl) m_int boot_int (pa_cons (pe_op op_mul (pv 3) (pe_op op_add (pe_op op_fdiv (pv 3) pe_int) pe_int)) pa_nil)) pe_int) pe_int) pa_nil)) (pv 1)))))))), ?_⟩
    have hA : SqL K H a [.int x, .int c] := .inl (.inl ha)
    -- if well[0] >= 10 ** 18
    refine ⟨_, rfl, a, _, 0, _, rfl, rfl, hA, rfl, ?_⟩
    refine ⟨10, 18, rfl, rfl, ⟨by decide, by decide, by decide⟩, ?_⟩
    refine ⟨x, _, rfl, rfl, _, rfl, ite2 (fun big => ?_) (fun small => ?_)⟩
    · refine ⟨_, rfl, a, _, 0, _, rfl, rfl, hA, rfl, .inl ⟨x, rfl, _, rfl, x, m, rfl, rfl, m0, ?_⟩⟩
      refine ⟨_, rfl, a, _, 0, _, rfl, rfl, hA, rfl, _, rfl, x, m, rfl, rfl, ⟨m0, m1.lt⟩, ?_⟩
      refine ⟨_, rfl, a, _, 0, 0, rfl, rfl, ha, rfl, ?_⟩
      exact ⟨_, rfl, q (x % m) (x / m) c (Int.emod_nonneg _ (by omega)) (Int.emod_lt_of_pos _ m0)⟩
    · -- well[1] = well[1] + 1
      refine ⟨_, rfl, a, _, 1, _, rfl, rfl, hA, rfl, c, 1, rfl, rfl, _, rfl, a, _, 1, 1, rfl, rfl, ha, rfl, ?_⟩
      have hB : SqL K (upd H a (.lst [.int x, .int (c + 1)])) a [.int x, .int (c + 1)] := .inl (.inl upd_same)
      have e2 : upd H a (.lst ([V.int x, V.int c].set 1 (.int (c + 1)))) = upd H a (.lst [.int x, .int (c + 1)]) := rfl
      rw [e2]
      have k1 : (0 : Int) < 2147483629 := by decide
      refine ⟨_, rfl, a, _, 0, _, rfl, rfl, hB, rfl, .inl ⟨x, rfl, x, 2147483629, rfl, rfl, (by show (0 : Int) < 2147483629; decide), ?_⟩⟩
      refine ⟨_, rfl, a, _, 1, _, rfl, rfl, hB, rfl, 60013, c + 1, rfl, rfl, .inl (by decide), _, _, rfl, rfl, _, _, rfl, rfl, .inl ⟨_, rfl, ?_⟩⟩
      refine ⟨_, _, rfl, rfl, .inr (by decide), .inl ⟨_, rfl, _, _, rfl, rfl, (by show (0 : Int) < 2147483647; decide), ?_⟩⟩
      dsimp only
      generalize hn : ((x % 2147483629 + 60013 * (c + 1) + 11) * 48271) % 2147483647 = n
      have n0 : 0 ≤ n := by rw [← hn]; exact Int.emod_nonneg _ (by decide)
      have n1 : n < 2147483647 := by rw [← hn]; exact Int.emod_lt_of_pos _ (by decide)
      refine ⟨_, rfl, a, _, 0, _, rfl, rfl, hB, rfl, x, _, rfl, rfl, wide_div (b := 40) (by decide) (by decide) (by decide) (by decide), .inl ⟨_, rfl, _, _, rfl, rfl, (by show (0 : Int) < 9973; decide), ?_⟩⟩
      dsimp only
      generalize hz : (x / 2147483629) % 9973 = z
      refine ⟨_, rfl, _, rfl, _, _, rfl, rfl, ⟨by decide, by decide⟩, _, _, rfl, rfl, _, rfl, _, _, rfl, rfl, n, _, rfl, rfl, .inl ⟨by omega, by omega⟩, .inl ⟨_, rfl, _, _, rfl, rfl, (by show (0 : Int) < 2147483587; decide), ?_⟩⟩
      dsimp only
      generalize hg : (n * (n / 1013 + 40692 + z)) % 2147483587 = g
      have g0 : 0 ≤ g := by rw [← hg]; exact Int.emod_nonneg _ (by decide)
      have g1 : g < 2147483587 := by rw [← hg]; exact Int.emod_lt_of_pos _ (by decide)
      refine ⟨_, rfl, _, rfl, _, _, rfl, rfl, ⟨by decide, by decide⟩, _, _, rfl, rfl, g, _, rfl, rfl, .inl ⟨by omega, by omega⟩, .inl ⟨_, rfl, _, _, rfl, rfl, (by show (0 : Int) < 2147483563; decide), ?_⟩⟩
      refine ⟨_, _, rfl, rfl, ⟨by decide, by decide⟩, .inl ⟨_, rfl, _, rfl, _, m, rfl, rfl, m0, ?_⟩⟩
      exact q _ x (c + 1) (Int.emod_nonneg _ (by omega)) (Int.emod_lt_of_pos _ m0)
/-- one of a list's items -/
def spOne (K : PySem.W.Frag) : Sp := fun vs H Q _ => ∃ (a b : Addr) (x c : Int) (xs : List V), vs = [.ref a, .ref b] ∧ H a = some (.lst [.int x, .int c]) ∧ SqL K H b xs ∧ (∀ x' c' : Int, SqL K (upd H a (.lst [.int x', .int c'])) b xs) ∧ 0 < xs.length ∧ xs.length ≤ 1000 ∧
  ∀ (v : V) (x' c' : Int), v ∈ xs → Q v (upd H a (.lst [.int x', .int c']))
theorem ok_one {f : Addr} {fd : FuncData} {k : Nat} (F : FnP K "_law_one" "_law_one" s_law_one f fd) (C_draw : Cal P w K mg base CX0 "_law_draw" (k + 1) ["_law_well_here", "_law_many"] spDraw) (m_len : mg "len" = none) :
    FnOk P w K mg base CX0 (k + 1 + 1) f fd ["_law_well_here", "_law_some"] (spOne K) := by
  obtain ⟨f_law_draw, fd_law_draw, G_law_draw, b_law_draw, m_law_draw, k_law_draw⟩ := C_draw
  refine F.ok sc_law_one (fun vs H Q E h => ?_) (fun cdv A outer s H vs Q E hr h => ?_)
  · obtain ⟨a, b, x, c, xs, rfl, _⟩ := h
    rfl
  · obtain ⟨a, b, x, c, xs, rfl, ha, hb, hb', l0, l1, q⟩ := h
    refine ⟨_, pss_one (ps_ret (pe_ix ix_list (pv 1) (pe_call G_law_draw (hr.mono (by omega)) (by rfl) m_law_draw k_law_draw b_law_draw .nil pass0 (pa_cons (pv 0) (pa_cons (pe_callB call_len_seq (by rfl) m_len PySem.boot_len (pa_cons (pv 1) pa_nil)) pa_nil))) (fun _ _ => rfl))), ?_⟩
    refine ⟨_, rfl, _, rfl, _, rfl, b, xs, rfl, .inl hb, a, x, c, xs.length, rfl, ha, by omega, .of (k := 10) (by show (xs.length : Int).natAbs < 1024; omega) (by decide), fun r x' c' r0 r1 => ?_⟩
    obtain ⟨i, rfl⟩ := Int.eq_ofNat_of_zero_le r0
    have hi : i < xs.length := by omega
    exact ⟨b, xs, _, xs[i], rfl, rfl, hb' x' c', atI_nat (List.getElem?_eq_getElem hi), q _ x' c' (List.getElem_mem hi)⟩

end
end K13
set_option Elab.async false
set_option linter.all false
set_option maxRecDepth 100000
set_option maxHeartbeats 2000000
namespace K13
open PySem PySem.Spec PyProof.Rows L2 CM
section
variable {P : Program} {w : World} {K : PySem.W.Frag} {mg : Str → Option Value} {base : Heap}
/-! ### divisors -/
theorem gcd_emod {u v : Int} (hu : 0 ≤ u) (hv : 0 ≤ v) : Int.gcd v (u % v) = Int.gcd u v := by
  obtain ⟨a, rfl⟩ := Int.eq_ofNat_of_zero_le hu
  obtain ⟨b, rfl⟩ := Int.eq_ofNat_of_zero_le hv
  rw [← Int.natCast_emod, Int.gcd_natCast_natCast, Int.gcd_natCast_natCast, Nat.gcd_comm b, ← Nat.gcd_rec, Nat.gcd_comm]
def Two (i : Nat) (x y : Int) : Prop := 0 ≤ x ∧ 0 ≤ y ∧ ((i = 0 ∧ x < 2 ^ 180 ∧ y < 2 ^ 180) ∨ (1 ≤ i ∧ y < x ∧ x * y < 2 ^ (361 - i)))
theorem Two.step {i : Nat} {x y : Int} (h : Two i x y) (hy : y ≠ 0) : Two (i + 1) y (x % y) := by
  obtain ⟨h0, h1, h2⟩ := h
  have y0 : 0 < y := by omega
  have m0 := Int.emod_nonneg x hy
  have m1 := Int.emod_lt_of_pos x y0
  refine ⟨h1, m0, .inr ⟨by omega, m1, ?_⟩⟩
  rcases h2 with ⟨rfl, h2, h3⟩ | ⟨h2, h3, h4⟩
  · have a1 : y * (x % y) ≤ y * (2 ^ 180) := Int.mul_le_mul_of_nonneg_left (by omega) h1
    have a2 : y * (2 ^ 180) < 2 ^ 180 * 2 ^ 180 := Int.mul_lt_mul_of_pos_right h3 (by decide)
    have a3 : (2 : Int) ^ 180 * 2 ^ 180 = 2 ^ (361 - (0 + 1)) := by rw [← Int.pow_add]
    omega
  · have e := Int.emod_add_mul_ediv x y
    have q1 : 1 ≤ x / y := Int.le_ediv_of_mul_le y0 (by omega)
    have q2 : y * 1 ≤ y * (x / y) := Int.mul_le_mul_of_nonneg_left q1 h1
    have a1 : 2 * (x % y) ≤ x - 1 := by omega
    have a2 : y * (2 * (x % y)) ≤ y * (x - 1) := Int.mul_le_mul_of_nonneg_left a1 h1
    have a3 : y * (2 * (x % y)) = 2 * (y * (x % y)) := by rw [Int.mul_left_comm]
    have a4 : y * (x - 1) = x * y - y := by rw [Int.mul_sub, Int.mul_one, Int.mul_comm]
    have i1 : 1 ≤ 361 - i := by
      refine Nat.le_of_not_lt fun z => ?_
      have z0 : 361 - i = 0 := by omega
      rw [z0] at h4
      have z1 : 1 * 1 ≤ x * y := Int.mul_le_mul (by omega) (by omega) (by decide) (by omega)
      omega
    have a5 : (2 : Int) ^ (361 - i) = 2 * 2 ^ (361 - (i + 1)) := by
      rw [show 361 - i = (361 - (i + 1)) + 1 by omega, Int.pow_succ, Int.mul_comm]
    omega
theorem Two.done {x y : Int} (h : Two 400 x y) : y = 0 := by
  obtain ⟨h0, h1, h2⟩ := h
  rcases h2 with ⟨z, _⟩ | ⟨_, h3, h4⟩
  · cases z
  · have h5 : x * y < 1 := h4
    refine Classical.byContradiction fun z => ?_
    have z1 : 1 * 1 ≤ x * y := Int.mul_le_mul (by omega) (by omega) (by decide) (by omega)
    omega
def spDivisor : Sp := fun vs H Q _ => ∃ x y : Int, vs = [.int x, .int y] ∧ x.natAbs < 2 ^ 180 ∧ y.natAbs < 2 ^ 180 ∧ Q (.int (Int.gcd x y)) H
theorem ok_divisor {f : Addr} {fd : FuncData} {k : Nat} (F : FnP K "_law_divisor" "_law_divisor" s_law_divisor f fd) (m_abs : mg "abs" = none) (m_range : mg "range" = none) (m_int : mg "int" = none) :
    FnOk P w K mg base CX0 (k + 1) f fd ["_law_one_here", "_law_two"] spDivisor := by
  refine F.ok sc_law_divisor (fun vs H Q E h => ?_) (fun cdv A outer s H vs Q E hr h => ?_)
  · obtain ⟨x, y, rfl, _⟩ := h
    rfl
  · obtain ⟨x, y, rfl, hx, hy, q⟩ := h
    refine ⟨_, PSs.nox (pss_cons (ps_par (i := 0) (j := 1) rfl sc_law_divisor.nd rfl rfl (by decide) rfl rfl (pa_cons (pe_callB call_abs (by rfl) m_abs (by decide +kernel) (pa_cons (pv 0) pa_nil)) (pa_cons (pe_callB call_abs (by rfl) m_abs (by decide +kernel) (pa_cons (pv 1) pa_nil)) pa_nil)) (by rfl))
    (pss_cons (ps_for PassesOwn.never rfl (pi_range1 (by rfl) m_range (pa_cons pe_int pa_nil)) (pg_name (i := 2) sc_law_divisor.nd rfl (.inl rfl))
      (pss_cons (ps_if (pt_cmpR op_eq (pv 1) pe_int (nomark _)) (pss_one (ps_ret (pv 0))) (pss_nil))
      (pss_one (ps_par (i := 0) (j := 1) rfl sc_law_divisor.nd rfl rfl (by decide) rfl rfl (pa_cons (pv 1) (pa_cons (pe_op op_mod (pe_callTy call_int1 (by rfl) m_int boot_int (pa_cons (pv 0) pa_nil)) (pv 1)) pa_nil)) (by rfl)))))
    (pss_one (ps_ret (pv 0))))), ?_⟩
    have ab : ∀ z : Int, (if z < 0 then -z else z) = (z.natAbs : Int) := fun z => by
      split <;> omega
    refine ⟨_, rfl, x, rfl, _, rfl, y, rfl, _, _, rfl, ?_⟩
    rw [ab, ab]
    refine ⟨_, rfl, by decide, by decide, for_range (n := 400) (fun i σ H' => ∃ (u v : Int) (v2 : Option V), σ = [some (.int u), some (.int v), v2] ∧ H' = H ∧ Two i u v ∧ Int.gcd u v = Int.gcd x y)
      ⟨_, _, _, rfl, rfl, ⟨by omega, by omega, .inl ⟨rfl, by omega, by omega⟩⟩, by simp [Int.gcd]⟩ ?_ ?_⟩
    · rintro i σ H1 _ ⟨u, v, v2, rfl, rfl, t, g⟩
      refine ⟨_, rfl, rfl, _, rfl, ite2 (fun e => ?_) (fun e => ?_)⟩
      · have e0 : V.int v = V.int 0 := of_decide_eq_true e
        have e1 : v = 0 := V.int.inj e0
        refine ⟨_, rfl, ?_⟩
        subst e1
        rw [Int.gcd_zero_right] at g
        have := t.1
        rw [← g, Int.natAbs_of_nonneg this] at q
        exact q
      · have e1 : v ≠ 0 := fun z => e (decide_eq_true (by rw [z]))
        have v0 : 0 < v := by have := t.2.1; omega
        refine ⟨_, rfl, _, rfl, .inl ⟨_, rfl, _, rfl, u, v, rfl, rfl, v0, _, _, rfl, _, _, _, rfl, rfl, t.step e1, ?_⟩⟩
        rw [gcd_emod t.1 t.2.1]
        exact g
    · rintro σ H1 ⟨u, v, v2, rfl, rfl, t, g⟩
      have e1 := t.done
      refine ⟨_, rfl, ?_⟩
      subst e1
      rw [Int.gcd_zero_right] at g
      have := t.1
      rw [← g, Int.natAbs_of_nonneg this] at q
      exact q
/-! ### labels -/
def IsTag (n m r : Int) : Prop := 0 ≤ m ∧ m ≤ n ∧ (m = 0 → -(2 * n) ≤ r ∧ r ≤ 2 * n) ∧ (0 < m → 0 ≤ r ∧ r < m)
def hb (m r z : Int) : Bool := decide (m ∣ z - r)
def spHolds : Sp := fun vs H Q _ => ∃ (p : Addr) (m r z : Int), vs = [.ref p, .int z] ∧ Tup2 H p m r ∧ 0 ≤ m ∧ Q (.bl (hb m r z)) H
theorem dec_eq {i j : Int} : decide (V.int i = V.int j) = decide (i = j) := decide_eq_decide.mpr ⟨fun z => V.int.inj z, fun z => by rw [z]⟩
theorem ok_holds {f : Addr} {fd : FuncData} {k : Nat} (F : FnP K "_law_holds" "_law_holds" s_law_holds f fd) (m_int : mg "int" = none) : FnOk P w K mg base CX0 (k + 1) f fd ["_law_tag_here", "_law_number"] spHolds := by
  refine F.ok sc_law_holds (fun vs H Q E h => ?_) (fun cdv A outer s H vs Q E hr h => ?_)
  · obtain ⟨p, m, r, z, rfl, _⟩ := h
    rfl
  · obtain ⟨p, m, r, z, rfl, hp, hm, q⟩ := h
    refine ⟨_, PSs.nox (pss_one (ps_ret (pe_ifExp (pt_cmpR op_eq (pe_ix ix_tup (pv 0) pe_int (fun _ _ => rfl)) pe_int (nomark _)) (pe_cmpR op_eq (pv 1) (pe_ix ix_tup (pv 0) pe_int (fun _ _ => rfl)) (nomark _)) (pe_cmpR op_eq (pe_op op_mod (pe_callTy call_int1 (by rfl) m_int boot_int (pa_cons (pe_op op_sub (pv 1) (pe_ix ix_tup (pv 0) pe_int (fun _ _ => rfl))) pa_nil)) (pe_ix ix_tup (pv 0) pe_int (fun _ _ => rfl))) pe_int (nomark _))))), ?_⟩
    refine ⟨_, rfl, p, _, 0, _, rfl, rfl, .inl (.inl hp), rfl, rfl, _, rfl, ite2 (fun e => ?_) (fun e => ?_)⟩
    · have e1 : m = 0 := V.int.inj (of_decide_eq_true e)
      subst e1
      refine ⟨_, rfl, _, rfl, p, _, 1, _, rfl, rfl, .inl (.inl hp), rfl, rfl, ?_⟩
      have e2 : decide (V.int z = V.int r) = hb 0 r z := by
        rw [dec_eq]
        exact decide_eq_decide.mpr (by rw [Int.zero_dvd]; omega)
      rw [e2]
      exact q
    · have e1 : m ≠ 0 := fun y => e (decide_eq_true (by rw [y]))
      refine ⟨_, rfl, _, rfl, p, _, 1, _, rfl, rfl, .inl (.inl hp), rfl, z, r, rfl, rfl, .inl ⟨_, rfl, _, rfl, p, _, 0, _, rfl, rfl, .inl (.inl hp), rfl, _, m, rfl, rfl, by omega, rfl, ?_⟩⟩
      have e2 : decide (V.int ((z - r) % m) = V.int 0) = hb m r z := by
        rw [dec_eq]
        exact decide_eq_decide.mpr ⟨Int.dvd_of_emod_eq_zero, Int.emod_eq_zero_of_dvd⟩
      rw [e2]
      exact q
def spTag : Sp := fun vs H Q _ => ∃ (a : Addr) (n x c : Int), vs = [.ref a, .int n] ∧ H a = some (.lst [.int x, .int c]) ∧ 0 ≤ n ∧ n < 2 ^ 170 ∧
  ∀ (H' : Hp) (p : Addr) (m r x' c' : Int), Kp a H H' → H' a = some (.lst [.int x', .int c']) → Tup2 H' p m r → H p = none → IsTag n m r → Q (.ref p) H'
theorem ok_tag {f : Addr} {fd : FuncData} {k : Nat} (F : FnP K "_law_tag" "_law_tag" s_law_tag f fd) (C_draw : Cal P w K mg base CX0 "_law_draw" k ["_law_well_here", "_law_many"] spDraw) : FnOk P w K mg base CX0 (k + 1) f fd ["_law_well_here", "_law_size"] spTag := by
  obtain ⟨f_law_draw, fd_law_draw, G_law_draw, b_law_draw, m_law_draw, k_law_draw⟩ := C_draw
  refine F.ok sc_law_tag (fun vs H Q E h => ?_) (fun cdv A outer s H vs Q E hr h => ?_)
  · obtain ⟨a, n, x, c, rfl, _⟩ := h
    rfl
  · obtain ⟨a, n, x, c, rfl, ha, n0, n1, q⟩ := h
    refine ⟨_, PSs.nox (pss_cons (ps_set (i := 2) sc_law_tag.nd rfl (.inl rfl) (pe_call G_law_draw (hr.mono (by omega)) (by rfl) m_law_draw k_law_draw b_law_draw .nil pass0 (pa_cons (pv 0) (pa_cons (pe_op op_add (pv 1) pe_int) pa_nil))))
    (pss_one (ps_ret (pe_ifExp (pt_cmpR op_gt (pv 2) pe_int (nomark _)) (pe_tup (pa_cons (pv 2) (pa_cons (pe_call G_law_draw (hr.mono (by omega)) (by rfl) m_law_draw k_law_draw b_law_draw .nil pass0 (pa_cons (pv 0) (pa_cons (pv 2) pa_nil))) pa_nil))) (pe_tup (pa_cons pe_int (pa_cons (pe_op op_sub (pe_call G_law_draw (hr.mono (by omega)) (by rfl) m_law_draw k_law_draw b_law_draw .nil pass0 (pa_cons (pv 0) (pa_cons (pe_op op_add (pe_op op_mul pe_int (pv 1)) pe_int) pa_nil))) (pe_op op_mul pe_int (pv 1))) pa_nil))))))), ?_⟩
    refine ⟨_, rfl, _, rfl, n, 1, rfl, rfl, a, x, c, n + 1, rfl, ha, by omega, .of (k := 180) (by omega) (by decide), fun m x1 c1 m0 m1 => ?_⟩
    have back : ∀ {x2 c2 : Int} {p : Addr}, (upd (upd H a (.lst [.int x1, .int c1])) a (.lst [.int x2, .int c2])) p = none → H p = none := fun {x2 c2 p} z => by
      rw [upd_upd] at z
      have pa : p ≠ a := fun y => by
        rw [y, upd_same] at z
        cases z
      rw [upd_ne pa] at z
      exact z
    refine ⟨_, rfl, m, 0, rfl, rfl, _, rfl, ite2 (fun e => ?_) (fun e => ?_)⟩
    · have e1 : 0 < m := of_decide_eq_true e
      refine ⟨_, rfl, _, rfl, _, rfl, a, x1, c1, m, rfl, upd_same, e1, .of (k := 180) (by omega) (by decide), fun r x2 c2 r0 r1 => ⟨by show 2 ≤ sizeLine; decide, fun p np => ?_⟩⟩
      exact q _ p m r x2 c2 ((Kp.set.trans Kp.set).trans (.same (same_upd np))) (same_upd np _ _ upd_same) upd_same (back np) ⟨m0, by omega, fun z => by omega, fun _ => ⟨r0, r1⟩⟩
    · have e1 : m = 0 := Int.le_antisymm (Int.not_lt.mp fun z => e (decide_eq_true z)) m0
      refine ⟨_, rfl, _, rfl, 4, n, rfl, rfl, .inl (by decide), _, 1, rfl, rfl, a, x1, c1, 4 * n + 1, rfl, upd_same, by omega, .of (k := 180) (by omega) (by decide), fun r x2 c2 r0 r1 => ?_⟩
      refine ⟨_, rfl, 2, n, rfl, rfl, .inl (by decide), _, _, rfl, rfl, by show 2 ≤ sizeLine; decide, fun p np => ?_⟩
      exact q _ p 0 (r - 2 * n) x2 c2 ((Kp.set.trans Kp.set).trans (.same (same_upd np))) (same_upd np _ _ upd_same) upd_same (back np) ⟨by decide, n0, fun _ => by omega, fun z => by omega⟩
end
end K13
set_option Elab.async false
set_option linter.all false
set_option maxRecDepth 100000
set_option maxHeartbeats 2000000
namespace K13
open PySem PySem.Spec PyProof.Rows L2 CM
section
variable {P : Program} {w : World} {K : PySem.W.Frag} {mg : Str → Option Value} {base : Heap}
/-! ### the methods' contracts -/
def jm (a ra b rb : Int) : Int := (Int.gcd (Int.gcd a b : Int) (ra - rb) : Nat)
def jr (a ra b rb : Int) : Int := if jm a ra b rb = 0 then ra else ra % jm a ra b rb
def spOwn : Sp := fun vs H Q _ => ∃ (m : Addr) (n : Int), vs = [.ref m, .int n] ∧ ∀ (p : Addr) (H' : Hp), Same H H' → Tup2 H' p 0 n → Q (.ref p) H'
def spJoin : Sp := fun vs H Q _ => ∃ (m p r : Addr) (a ra b rb n : Int), vs = [.ref m, .ref p, .ref r] ∧ Tup2 H p a ra ∧ Tup2 H r b rb ∧ IsTag n a ra ∧ IsTag n b rb ∧ n < 2 ^ 170 ∧
  ∀ (t : Addr) (H' : Hp), Same H H' → Tup2 H' t (jm a ra b rb) (jr a ra b rb) → Q (.ref t) H'
def spCons : Sp := fun vs H Q _ => ∃ (m p r : Addr) (a ra b s n : Int), vs = [.ref m, .ref p, .ref r] ∧ Tup2 H p a ra ∧ Tup2 H r b s ∧ IsTag n a ra ∧ 0 < b ∧ b ≤ n ∧ 0 ≤ s ∧ s < b ∧ n < 2 ^ 170 ∧
  ∀ H' : Hp, Same H H' → Q (.bl (decide ((Int.gcd a b : Int) ∣ ra - s))) H'
def spMat : Sp := fun vs H Q _ => ∃ (m r : Addr) (n b s : Int), vs = [.ref m, .int n, .ref r] ∧ Tup2 H r b s ∧ 0 < b ∧ 0 ≤ s ∧ s < b ∧ ∀ H' : Hp, Same H H' → Q (.bl (decide (n % b = s))) H'
def spPen (C : Addr) : Sp := fun vs H Q _ => ∃ (m dx p : Addr) (a ra z n : Int), vs = [.ref m, .ref p, .int z] ∧ H m = some (.ins C dx []) ∧ Tup2 H p a ra ∧ IsTag n a ra ∧ IsTag n 0 z ∧ n < 2 ^ 170 ∧
  ∀ H' : Hp, Same H H' → Q (.int (if jm a ra 0 z = a ∧ jr a ra 0 z = ra then 0 else 1)) H'
theorem gcd_lt {a b : Int} {B : Nat} (ha : a.natAbs < B) (hb : b.natAbs < B) : Int.gcd a b < B := by
  unfold Int.gcd
  by_cases h : a.natAbs = 0
  · rw [h, Nat.gcd_zero_left]
    exact hb
  · exact Nat.lt_of_le_of_lt (Nat.gcd_le_left _ (Nat.pos_of_ne_zero h)) ha
theorem IsTag.lt {n m r : Int} (t : IsTag n m r) (hn : n < 2 ^ 170) : m.natAbs < 2 ^ 175 ∧ r.natAbs < 2 ^ 175 := by
  obtain ⟨h0, h1, h2, h3⟩ := t
  by_cases h : m = 0
  · have := h2 h
    omega
  · have := h3 (by omega)
    omega
theorem okp {i j : Int} : ∀ v ∈ [V.int i, V.int j], okV v := fun v hv => by
  rcases List.mem_cons.mp hv with rfl | hv
  · exact okV_int _
  · rcases List.mem_cons.mp hv with rfl | hv
    · exact okV_int _
    · cases hv
def spRight (C : Addr) : Sp := fun vs H Q _ => ∃ (a m dx : Addr) (x c : Int), vs = [.ref a, .ref m] ∧ H a = some (.lst [.int x, .int c]) ∧ H m = some (.ins C dx []) ∧ ∀ (H' : Hp) (x' c' : Int), Kp a H H' → H' a = some (.lst [.int x', .int c']) → Q (.bl true) H'
theorem ok_great {f C : Addr} {fd : FuncData} {k : Nat} (F : FnP K "_law_great_right" "_law_great_right" s_law_great_right f fd) (m_int : mg "int" = none) (cl_C : Cls K C)
    (C_draw : Cal P w K mg base CX0 "_law_draw" k ["_law_well_here", "_law_many"] spDraw) (C_one : Cal P w K mg base CX0 "_law_one" k ["_law_well_here", "_law_some"] (spOne K))
    (C_tag : Cal P w K mg base CX0 "_law_tag" k ["_law_well_here", "_law_size"] spTag) (C_divisor : Cal P w K mg base CX0 "_law_divisor" k ["_law_one_here", "_law_two"] spDivisor)
    (D_own : CalM P w K mg base CX0 C "own" k ["self", "key"] spOwn) (D_join : CalM P w K mg base CX0 C "join" k ["self", "one", "other"] spJoin)
    (D_consistent : CalM P w K mg base CX0 C "consistent" k ["self", "label", "question"] spCons) (D_matches : CalM P w K mg base CX0 C "matches" k ["self", "key", "question"] spMat)
    (D_penalty : CalM P w K mg base CX0 C "penalty" k ["self", "label", "key"] (spPen C)) :
    FnOk P w K mg base CX0 (k + 1) f fd ["_law_well_here", "_law_made"] (spRight C) := by
  obtain ⟨f_law_draw, fd_law_draw, G_law_draw, b_law_draw, m_law_draw, k_law_draw⟩ := C_draw
  obtain ⟨f_law_one, fd_law_one, G_law_one, b_law_one, m_law_one, k_law_one⟩ := C_one
  obtain ⟨f_law_tag, fd_law_tag, G_law_tag, b_law_tag, m_law_tag, k_law_tag⟩ := C_tag
  obtain ⟨f_law_divisor, fd_law_divisor, G_law_divisor, b_law_divisor, m_law_divisor, k_law_divisor⟩ := C_divisor
  obtain ⟨f_own, fd_own, G_own, b_own, me_own⟩ := D_own
  obtain ⟨f_join, fd_join, G_join, b_join, me_join⟩ := D_join
  obtain ⟨f_consistent, fd_consistent, G_consistent, b_consistent, me_consistent⟩ := D_consistent
  obtain ⟨f_matches, fd_matches, G_matches, b_matches, me_matches⟩ := D_matches
  obtain ⟨f_penalty, fd_penalty, G_penalty, b_penalty, me_penalty⟩ := D_penalty
  refine F.ok sc_law_great_right (fun vs H Q E h => ?_) (fun cdv A outer s H vs Q E hr h => ?_)
  · obtain ⟨a, m, dx, x, c, rfl, _⟩ := h
    rfl
  · obtain ⟨a, m, dx, x, c, rfl, ha, hm, q⟩ := h
    refine ⟨_, PSs.nox (pss_cons (ps_set (i := 2) sc_law_great_right.nd rfl (.inl rfl) (pe_call G_law_one (hr.mono (by omega)) (by rfl) m_law_one k_law_one b_law_one .nil pass0 (pa_cons (pv 0) (pa_cons (pe_lst (pa_cons pe_int (pa_cons (pe_op op_pow pe_int pe_int) (pa_cons (pe_op op_pow pe_int pe_int) pa_nil)))) pa_nil))))
    (pss_cons (ps_par (i := 3) (j := 4) rfl sc_law_great_right.nd rfl rfl (by decide) rfl rfl (pa_cons (pe_call G_law_tag (hr.mono (by omega)) (by rfl) m_law_tag k_law_tag b_law_tag .nil pass0 (pa_cons (pv 0) (pa_cons (pv 2) pa_nil))) (pa_cons (pe_call G_law_tag (hr.mono (by omega)) (by rfl) m_law_tag k_law_tag b_law_tag .nil pass0 (pa_cons (pv 0) (pa_cons (pv 2) pa_nil))) pa_nil)) (by rfl))
    (pss_cons (ps_set (i := 5) sc_law_great_right.nd rfl (.inl rfl) (pe_call G_law_divisor (hr.mono (by omega)) (by rfl) m_law_divisor k_law_divisor b_law_divisor .nil pass0 (pa_cons (pe_call G_law_divisor (hr.mono (by omega)) (by rfl) m_law_divisor k_law_divisor b_law_divisor .nil pass0 (pa_cons (pe_ix ix_tup (pv 3) pe_int (fun _ _ => rfl)) (pa_cons (pe_ix ix_tup (pv 4) pe_int (fun _ _ => rfl)) pa_nil))) (pa_cons (pe_op op_sub (pe_ix ix_tup (pv 3) pe_int (fun _ _ => rfl)) (pe_ix ix_tup (pv 4) pe_int (fun _ _ => rfl))) pa_nil))))
    (Evl.pss_cut (ps_if (pt_cmpR (op_neST hr.units) (pe_meth (pv 1) cl_C me_join G_join (hr.mono (by omega)) b_join .nil pass0 (pa_cons (pv 3) (pa_cons (pv 4) pa_nil))) (pe_tup (pa_cons (pv 5) (pa_cons (pe_ifExp (pt_cmpR op_eq (pv 5) pe_int (nomark _)) (pe_ix ix_tup (pv 3) pe_int (fun _ _ => rfl)) (pe_op op_mod (pe_callTy call_int1 (by rfl) m_int boot_int (pa_cons (pe_ix ix_tup (pv 3) pe_int (fun _ _ => rfl)) pa_nil)) (pv 5))) pa_nil))) (nomark _)) (pss_one (ps_ret pe_bl)) (pss_nil))
    (pss_cons (ps_par (i := 6) (j := 7) rfl sc_law_great_right.nd rfl rfl (by decide) rfl rfl (pa_cons (pe_op op_sub (pe_call G_law_draw (hr.mono (by omega)) (by rfl) m_law_draw k_law_draw b_law_draw .nil pass0 (pa_cons (pv 0) (pa_cons (pe_op op_add (pe_op op_mul pe_int (pv 2)) pe_int) pa_nil))) (pv 2)) (pa_cons (pe_op op_add pe_int (pe_call G_law_draw (hr.mono (by omega)) (by rfl) m_law_draw k_law_draw b_law_draw .nil pass0 (pa_cons (pv 0) (pa_cons (pv 2) pa_nil)))) pa_nil)) (by rfl))
    (pss_cons (ps_set (i := 8) sc_law_great_right.nd rfl (.inl rfl) (pe_tup (pa_cons (pv 7) (pa_cons (pe_call G_law_draw (hr.mono (by omega)) (by rfl) m_law_draw k_law_draw b_law_draw .nil pass0 (pa_cons (pv 0) (pa_cons (pv 7) pa_nil))) pa_nil))))
    (pss_cons (ps_if (PW.pt (pw_or (pt_cmpR (op_neST hr.units) (pe_meth (pv 1) cl_C me_own G_own (hr.mono (by omega)) b_own .nil pass0 (pa_cons (pv 6) pa_nil)) (pe_tup (pa_cons pe_int (pa_cons (pv 6) pa_nil))) (nomark _)) (pw_or1 (pt_cmpR op_ne (pe_meth (pv 1) cl_C me_matches G_matches (hr.mono (by omega)) b_matches .nil pass0 (pa_cons (pv 6) (pa_cons (pv 8) pa_nil))) (pe_cmpR op_eq (pe_op op_mod (pe_callTy call_int1 (by rfl) m_int boot_int (pa_cons (pv 6) pa_nil)) (pv 7)) (pe_ix ix_tup (pv 8) pe_int (fun _ _ => rfl)) (nomark _)) (nomark _))))) (pss_one (ps_ret pe_bl)) (pss_nil))
    (pss_cons (ps_if (pt_cmpR op_notBl (pe_meth (pv 1) cl_C me_matches G_matches (hr.mono (by omega)) b_matches .nil pass0 (pa_cons (pv 6) (pa_cons (pe_tup (pa_cons (pv 7) (pa_cons (pe_op op_mod (pe_callTy call_int1 (by rfl) m_int boot_int (pa_cons (pv 6) pa_nil)) (pv 7)) pa_nil))) pa_nil))) pe_bl (nomark _)) (pss_one (ps_ret pe_bl)) (pss_nil))
    (pss_cons (ps_set (i := 9) sc_law_great_right.nd rfl (.inl rfl) (pe_cmpR op_eq (pe_op op_mod (pe_callTy call_int1 (by rfl) m_int boot_int (pa_cons (pe_op op_sub (pe_ix ix_tup (pv 3) pe_int (fun _ _ => rfl)) (pe_ix ix_tup (pv 8) pe_int (fun _ _ => rfl))) pa_nil)) (pe_call G_law_divisor (hr.mono (by omega)) (by rfl) m_law_divisor k_law_divisor b_law_divisor .nil pass0 (pa_cons (pe_ix ix_tup (pv 3) pe_int (fun _ _ => rfl)) (pa_cons (pv 7) pa_nil)))) pe_int (nomark _)))
    (pss_cons (ps_if (pt_cmpR op_ne (pe_meth (pv 1) cl_C me_consistent G_consistent (hr.mono (by omega)) b_consistent .nil pass0 (pa_cons (pv 3) (pa_cons (pv 8) pa_nil))) (pv 9) (nomark _)) (pss_one (ps_ret pe_bl)) (pss_nil))
    (pss_one (ps_ret (pe_cmpR op_eq (pe_meth (pv 1) cl_C me_penalty G_penalty (hr.mono (by omega)) b_penalty .nil pass0 (pa_cons (pv 3) (pa_cons (pv 6) pa_nil))) (pe_callTy call_int1 (by rfl) m_int boot_int (pa_cons (pe_cmpR (op_neI2 hr.units) (pe_meth (pv 1) cl_C me_join G_join (hr.mono (by omega)) b_join .nil pass0 (pa_cons (pv 3) (pa_cons (pe_tup (pa_cons pe_int (pa_cons (pv 6) pa_nil))) pa_nil))) (pv 3) (nomark _)) pa_nil)) (nomark _)))))))))))))), ?_⟩
    have hma : m ≠ a := fun z => by
      rw [z, ha] at hm
      cases hm
    refine ⟨_, rfl, 10, 12, rfl, rfl, ⟨by decide, by decide, by decide⟩, 10, 50, rfl, rfl, ⟨by decide, by decide, by decide⟩, by show 3 ≤ sizeLine; decide, fun l nl => ?_⟩
    have hla : l ≠ a := Kp.ne ha nl
    have k1 : Kp a H (upd H l (.lst [.int 30, .int (10 ^ (12 : Int).toNat), .int (10 ^ (50 : Int).toNat)])) := .same (same_upd nl)
    refine ⟨a, l, x, c, _, rfl, same_upd nl _ _ ha, .inl (.inl upd_same), fun x' c' => .inl (.inl (by rw [upd_ne hla]; exact upd_same)), by show 0 < 3; decide, by show 3 ≤ 1000; decide, fun v x1 c1 hv => ?_⟩
    obtain ⟨n, rfl, n0, n1⟩ : ∃ n : Int, v = .int n ∧ 30 ≤ n ∧ n ≤ 10 ^ 50 := by
      rcases List.mem_cons.mp hv with rfl | hv
      · exact ⟨30, rfl, by decide, by decide⟩
      rcases List.mem_cons.mp hv with rfl | hv
      · exact ⟨10 ^ 12, rfl, by decide, by decide⟩
      rcases List.mem_cons.mp hv with rfl | hv
      · exact ⟨10 ^ 50, rfl, by decide, by decide⟩
      · cases hv
    have n2 : n < 2 ^ 170 := by omega
    have kA := k1.trans (Kp.set (o := .lst [.int x1, .int c1]))
    have aA : (upd (upd H l (.lst [.int 30, .int (10 ^ (12 : Int).toNat), .int (10 ^ (50 : Int).toNat)])) a (.lst [.int x1, .int c1])) a = some (.lst [.int x1, .int c1]) := upd_same
    generalize upd (upd H l (.lst [.int 30, .int (10 ^ (12 : Int).toNat), .int (10 ^ (50 : Int).toNat)])) a (.lst [.int x1, .int c1]) = G at kA aA
    refine ⟨_, rfl, _, rfl, a, n, x1, c1, rfl, aA, by omega, n2, fun H1 p1 m1 r1 x2 c2 kB aB h1 np1 t1 => ?_⟩
    refine ⟨_, rfl, _, rfl, a, n, x2, c2, rfl, aB, by omega, n2, fun H2 p2 m2 r2 x3 c3 kC aC h2 np2 t2 => ⟨_, _, rfl, ?_⟩⟩
    have p1a := Kp.ne aA np1
    have p2a := Kp.ne aB np2
    have h1' := kC _ _ p1a h1
    have kD := (kA.trans kB).trans kC
    have mD := kD _ _ hma hm
    obtain ⟨l1, l2⟩ := t1.lt n2
    obtain ⟨l3, l4⟩ := t2.lt n2
    refine ⟨_, rfl, p1, _, 0, _, rfl, rfl, .inl (.inl h1'), rfl, _, rfl, p2, _, 0, _, rfl, rfl, .inl (.inl h2), rfl, m1, m2, rfl, by omega, by omega, ?_⟩
    have l5 := gcd_lt l1 l3
    refine ⟨_, rfl, p1, _, 1, _, rfl, rfl, .inl (.inl h1'), rfl, _, rfl, p2, _, 1, _, rfl, rfl, .inl (.inl h2), rfl, r1, r2, rfl, rfl, _, _, rfl, by omega, by omega, ?_⟩
    refine ⟨fun σ' H' => σ' = [some (.ref a), some (.ref m), some (.int n), some (.ref p1), some (.ref p2), some (.int (jm m1 r1 m2 r2)), none, none, none, none] ∧ Same H2 H', ?_, ?_⟩
    · refine ⟨_, rfl, m, dx, [], rfl, mD, rfl, _, rfl, _, rfl, m, p1, p2, m1, r1, m2, r2, n, rfl, h1', h2, t1, t2, n2, fun t H3 s1 ht => ?_⟩
      have fin : ∀ (z : Int), z = jr m1 r1 m2 r2 → ([V.int (jm m1 r1 m2 r2), V.int z].length ≤ sizeLine ∧ ∀ p, H3 p = none → rNeST K (.ref t) (.ref p) (upd H3 p (.tup [.int (jm m1 r1 m2 r2), .int z])) fun v H4 => v = .bl false ∧ Same H2 H4) := fun z e => by
        subst e
        refine ⟨by show 2 ≤ sizeLine; decide, fun p np => ⟨t, p, [.int (jm m1 r1 m2 r2), .int (jr m1 r1 m2 r2)], rfl, rfl, .inl (.inl (same_upd np _ _ ht)), .inl (.inl upd_same), okp, rfl, s1.trans (same_upd np)⟩⟩
      refine ⟨_, rfl, _, rfl, rfl, _, rfl, ite2 (fun e => ?_) (fun e => ?_)⟩
      · have e1 : jm m1 r1 m2 r2 = 0 := V.int.inj (of_decide_eq_true e)
        obtain ⟨f1, f2⟩ := fin r1 (by rw [jr, if_pos e1])
        refine ⟨_, rfl, p1, _, 1, _, rfl, rfl, .inl (.inl (s1 _ _ h1')), rfl, f1, fun p np => ?_⟩
        obtain ⟨b1, b2, xs, c1, c2, c3, c4, c5, c6, c7⟩ := f2 p np
        exact ⟨b1, b2, xs, c1, c2, c3, c4, c5, _, rfl, ite2 (fun e => absurd e (by decide)) (fun _ => ⟨rfl, c7⟩)⟩
      · have e1 : jm m1 r1 m2 r2 ≠ 0 := fun y => e (decide_eq_true (congrArg V.int y))
        obtain ⟨f1, f2⟩ := fin (r1 % jm m1 r1 m2 r2) (by rw [jr, if_neg e1])
        have pos : 0 < jm m1 r1 m2 r2 := by
          have : 0 ≤ jm m1 r1 m2 r2 := Int.natCast_nonneg _
          omega
        refine ⟨_, rfl, p1, _, 1, _, rfl, rfl, .inl (.inl (s1 _ _ h1')), rfl, .inl ⟨_, rfl, _, rfl, _, _, rfl, rfl, pos, f1, fun p np => ?_⟩⟩
        obtain ⟨b1, b2, xs, c1, c2, c3, c4, c5, c6, c7⟩ := f2 p np
        exact ⟨b1, b2, xs, c1, c2, c3, c4, c5, _, rfl, ite2 (fun e => absurd e (by decide)) (fun _ => ⟨rfl, c7⟩)⟩
    · rintro σ' H3 ⟨rfl, s1⟩
      have aE := s1 _ _ aC
      refine ⟨_, rfl, _, rfl, 2, n, rfl, rfl, .inl (by decide), _, 1, rfl, rfl, a, x3, c3, 2 * n + 1, rfl, aE, by omega, .of (k := 180) (by omega) (by decide), fun it x4 c4 i0 i1 => ⟨_, rfl, it, n, rfl, rfl, ?_⟩⟩
      refine ⟨_, rfl, _, rfl, a, x4, c4, n, rfl, upd_same, by omega, .of (k := 180) (by omega) (by decide), fun b x5 c5 b0 b1 => ⟨1, b, rfl, rfl, _, _, rfl, ?_⟩⟩
      dsimp only
      generalize hi : it - n = item
      generalize hb : 1 + b = base
      refine ⟨_, rfl, _, rfl, _, rfl, a, x5, c5, base, rfl, upd_same, by omega, .of (k := 180) (by omega) (by decide), fun s x6 c6 s0 s1' => ⟨by show 2 ≤ sizeLine; decide, fun p8 np8 => ?_⟩⟩
      have kE : Kp a H3 _ := ((Kp.set (o := .lst [.int x4, .int c4])).trans (Kp.set (o := .lst [.int x5, .int c5]))).trans ((Kp.set (o := .lst [.int x6, .int c6])).trans (.same (same_upd (o := .tup [.int base, .int s]) np8)))
      have aF : (upd (upd (upd (upd H3 a (.lst [.int x4, .int c4])) a (.lst [.int x5, .int c5])) a (.lst [.int x6, .int c6])) p8 (.tup [.int base, .int s])) a = some (.lst [.int x6, .int c6]) := same_upd np8 _ _ upd_same
      have h8 : Tup2 (upd (upd (upd (upd H3 a (.lst [.int x4, .int c4])) a (.lst [.int x5, .int c5])) a (.lst [.int x6, .int c6])) p8 (.tup [.int base, .int s])) p8 base s := upd_same
      generalize upd (upd (upd (upd H3 a (.lst [.int x4, .int c4])) a (.lst [.int x5, .int c5])) a (.lst [.int x6, .int c6])) p8 (.tup [.int base, .int s]) = G4 at kE aF h8
      have kF := kD.trans ((Kp.same s1).trans kE)
      have mF := kE _ _ hma (s1 _ _ mD)
      have f1 := kE _ _ p1a (s1 _ _ h1')
      have pos : 0 < base := by omega
      have t0 : IsTag n 0 item := ⟨by decide, by omega, fun _ => by omega, fun z => by omega⟩
      refine ⟨_, rfl, m, dx, [], rfl, mF, rfl, _, rfl, m, item, rfl, fun po H5 s5 ho => ⟨_, rfl, by show 2 ≤ sizeLine; decide, fun pt npt => ⟨po, pt, [.int 0, .int item], rfl, rfl, .inl (.inl (same_upd npt _ _ ho)), .inl (.inl upd_same), okp, _, rfl, ite2 (fun e => absurd e (by decide)) (fun _ => ?_)⟩⟩⟩
      have s6 := s5.trans (same_upd (o := .tup [.int 0, .int item]) npt)
      refine ⟨_, rfl, m, dx, [], rfl, s6 _ _ mF, rfl, _, rfl, _, rfl, m, p8, item, base, s, rfl, s6 _ _ h8, pos, s0, s1', fun H6 s7 => ?_⟩
      have s8 := s6.trans s7
      refine ⟨_, rfl, .inl ⟨_, rfl, _, rfl, item, base, rfl, rfl, pos, _, rfl, p8, _, 1, _, rfl, rfl, .inl (.inl (s8 _ _ h8)), rfl, rfl, rfl, _, rfl, ite2 (fun e => absurd e (by simp [dec_eq])) (fun _ => ?_)⟩⟩
      refine ⟨_, rfl, m, dx, [], rfl, s8 _ _ mF, rfl, _, rfl, _, rfl, _, rfl, .inl ⟨_, rfl, _, rfl, item, base, rfl, rfl, pos, by show 2 ≤ sizeLine; decide, fun pq npq => ?_⟩⟩
      have s9 := s8.trans (same_upd (o := .tup [.int base, .int (item % base)]) npq)
      refine ⟨m, pq, item, base, item % base, rfl, upd_same, pos, Int.emod_nonneg _ (by omega), Int.emod_lt_of_pos _ pos, fun H7 s10 => ⟨_, true, rfl, rfl, _, rfl, ite2 (fun e => absurd e (by simp)) (fun _ => ?_)⟩⟩
      have s11 := s9.trans s10
      have l6 : base.natAbs < 2 ^ 175 := by omega
      have l7 := gcd_lt l1 l6
      have gpos : 0 < (Int.gcd m1 base : Int) := by
        have z : Int.gcd m1 base ≠ 0 := fun z => by
          have := (Int.gcd_eq_zero_iff.mp z).2
          omega
        omega
      refine ⟨_, rfl, p1, _, 1, _, rfl, rfl, .inl (.inl (s11 _ _ f1)), rfl, _, rfl, p8, _, 1, _, rfl, rfl, .inl (.inl (s11 _ _ h8)), rfl, r1, s, rfl, rfl, .inl ⟨_, rfl, _, rfl, p1, _, 0, _, rfl, rfl, .inl (.inl (s11 _ _ f1)), rfl, _, rfl, m1, base, rfl, by omega, by omega, _, _, rfl, rfl, gpos, rfl, ?_⟩⟩
      refine ⟨_, rfl, m, dx, [], rfl, s11 _ _ mF, rfl, _, rfl, _, rfl, m, p1, p8, m1, r1, base, s, n, rfl, s11 _ _ f1, s11 _ _ h8, t1, pos, by omega, s0, s1', n2, fun H8 s12 => ⟨_, rfl, rfl, _, rfl, ite2 (fun e => absurd e ?_) (fun _ => ?_)⟩⟩
      · have e2 : decide (V.int ((r1 - s) % (Int.gcd m1 base : Int)) = V.int 0) = decide ((Int.gcd m1 base : Int) ∣ r1 - s) := by
          rw [dec_eq]
          exact decide_eq_decide.mpr ⟨Int.dvd_of_emod_eq_zero, Int.emod_eq_zero_of_dvd⟩
        rw [e2]
        simp
      have s13 := s11.trans s12
      refine ⟨_, rfl, m, dx, [], rfl, s13 _ _ mF, rfl, _, rfl, _, rfl, m, dx, p1, m1, r1, item, n, rfl, s13 _ _ mF, s13 _ _ f1, t1, t0, n2, fun H9 s14 => ?_⟩
      have s15 := s13.trans s14
      refine ⟨_, rfl, m, dx, [], rfl, s15 _ _ mF, rfl, _, rfl, _, rfl, by show 2 ≤ sizeLine; decide, fun pz npz => ?_⟩
      have s16 := s15.trans (same_upd (o := .tup [.int 0, .int item]) npz)
      refine ⟨m, p1, pz, m1, r1, 0, item, n, rfl, s16 _ _ f1, upd_same, t1, t0, n2, fun t H10 s17 ht => ?_⟩
      have s18 := s16.trans s17
      refine ⟨_, rfl, t, p1, _, _, _, _, rfl, rfl, .inl (.inl ht), .inl (.inl (s18 _ _ f1)), .inr ⟨_, rfl, rfl, ?_⟩⟩
      have e3 : decide (V.int (if jm m1 r1 0 item = m1 ∧ jr m1 r1 0 item = r1 then 0 else 1) = V.int (if (!decide (jm m1 r1 0 item = m1 ∧ jr m1 r1 0 item = r1)) = true then 1 else 0)) = true := by
        by_cases e : jm m1 r1 0 item = m1 ∧ jr m1 r1 0 item = r1 <;> simp [e]
      rw [e3]
      exact q _ x6 c6 (kF.trans (.same s18)) (s18 _ _ aF)
end
end K13
set_option Elab.async false
set_option linter.all false
set_option maxRecDepth 100000
set_option maxHeartbeats 2000000
namespace K13
open PySem PySem.Spec PyProof.Rows L2 CM
section
variable {P : Program} {w : World} {K : PySem.W.Frag} {mg : Str → Option Value} {base : Heap}
/-! ### what divides what -/
theorem bez (a b : Nat) : ∃ x y : Int, (Nat.gcd a b : Int) = a * x + b * y := by
  induction a, b using Nat.gcd.induction with
  | H0 n => exact ⟨0, 1, by simp⟩
  | H1 m n hm ih =>
    obtain ⟨x, y, e⟩ := ih
    refine ⟨y - (n / m : Nat) * x, x, ?_⟩
    rw [Nat.gcd_rec, e]
    have z : (n : Int) = (n % m : Nat) + m * (n / m : Nat) := by
      rw [← Int.natCast_mul, ← Int.natCast_add, Nat.mod_add_div]
    generalize ((n % m : Nat) : Int) = u at *
    generalize ((n / m : Nat) : Int) = v at *
    rw [z, Int.mul_sub, Int.add_mul]
    have z1 : (m : Int) * (v * x) = m * v * x := (Int.mul_assoc ..).symm
    omega
theorem meet {m b r s : Int} (hm : 0 ≤ m) (hb : 0 < b) (g : (Int.gcd m b : Int) ∣ r - s) : ∃ t : Int, 0 ≤ t ∧ t < b ∧ b ∣ r + m * t - s := by
  obtain ⟨q, hq⟩ := g
  obtain ⟨x, y, e⟩ := bez m.natAbs b.natAbs
  have e1 : (Int.gcd m b : Int) = m * x + b * y := by
    have e0 : (Int.gcd m b : Int) = (Nat.gcd m.natAbs b.natAbs : Nat) := rfl
    rw [e0, e, Int.natAbs_of_nonneg hm, Int.natAbs_of_nonneg (Int.le_of_lt hb)]
  refine ⟨(-(x * q)) % b, Int.emod_nonneg _ (by omega), Int.emod_lt_of_pos _ hb, y * q - m * (-(x * q) / b), ?_⟩
  have z := Int.emod_add_mul_ediv (-(x * q)) b
  generalize (-(x * q)) % b = t at *
  generalize (-(x * q)) / b = k at *
  rw [e1] at hq
  have z1 : t = -(x * q) - b * k := by omega
  rw [z1, Int.mul_sub, Int.mul_sub]
  rw [Int.add_mul] at hq
  have a1 : m * (-(x * q)) = -(m * x * q) := by rw [Int.mul_neg, Int.mul_assoc]
  have a2 : b * (y * q) = b * y * q := (Int.mul_assoc ..).symm
  have a3 : m * (b * k) = b * (m * k) := Int.mul_left_comm ..
  omega
/-- what a window has of a label -/
def mem (m r lo : Int) (j : Nat) : List Int := ((List.range j).map fun (k : Nat) => lo + (k : Int)).filter (hb m r)
theorem mem_succ {m r lo : Int} {j : Nat} : mem m r lo (j + 1) = if hb m r (lo + (j : Int)) = true then mem m r lo j ++ [lo + (j : Int)] else mem m r lo j := by
  unfold mem
  rw [List.range_succ, List.map_append, List.filter_append]
  by_cases h : hb m r (lo + (j : Int)) = true
  · rw [if_pos h, List.map_cons, List.filter_cons_of_pos h]
    rfl
  · rw [if_neg h, List.map_cons, List.filter_cons_of_neg h]
    simp
theorem mem_len {m r lo : Int} {j : Nat} : (mem m r lo j).length ≤ j := by
  have z := List.length_filter_le (hb m r) ((List.range j).map fun (k : Nat) => lo + (k : Int))
  rw [List.length_map, List.length_range] at z
  exact z
theorem in_mem {m r lo z : Int} {j : Nat} : z ∈ mem m r lo j ↔ lo ≤ z ∧ z < lo + j ∧ m ∣ z - r := by
  unfold mem
  rw [List.mem_filter, List.mem_map]
  constructor
  · rintro ⟨⟨k, hk, rfl⟩, h⟩
    have := List.mem_range.mp hk
    exact ⟨by omega, by omega, of_decide_eq_true h⟩
  · rintro ⟨h1, h2, h3⟩
    exact ⟨⟨(z - lo).toNat, List.mem_range.mpr (by omega), by omega⟩, decide_eq_true h3⟩
/-- one of its own -/
theorem own_mem {m r : Int} (t : IsTag 9 m r) : r ∈ mem m r (-90) 181 := by
  obtain ⟨h0, h1, h2, h3⟩ := t
  refine in_mem.mpr ⟨?_, ?_, by rw [Int.sub_self]; exact Int.dvd_zero m⟩
  · by_cases h : m = 0
    · have := h2 h
      omega
    · have := h3 (by omega)
      omega
  · by_cases h : m = 0
    · have := h2 h
      omega
    · have := h3 (by omega)
      omega
theorem next_mem {m r : Int} (t : IsTag 9 m r) : r + m ∈ mem m r (-90) 181 := by
  obtain ⟨h0, h1, h2, h3⟩ := t
  refine in_mem.mpr ⟨?_, ?_, by rw [Int.add_comm, Int.add_sub_cancel]; exact Int.dvd_refl m⟩
  · by_cases h : m = 0
    · have := h2 h
      omega
    · have := h3 (by omega)
      omega
  · by_cases h : m = 0
    · have := h2 h
      omega
    · have := h3 (by omega)
      omega
theorem unlike_one {ns : List Int} (h : unlike ns = 1) {x y : Int} (hx : x ∈ ns) (hy : y ∈ ns) : x = y := by
  have em : (List.range ns.length).map (fun i => ns.getD i 0) = ns := by
    refine List.ext_getElem (by simp) fun i h1 h2 => ?_
    rw [List.getElem_map, List.getElem_range, List.getD_eq_getElem?_getD, List.getElem?_eq_getElem h2]
    rfl
  have f := fun k => firstMet_any (fun i => ns.getD i 0) ns.length k
  rw [em] at f
  unfold unlike at h
  generalize firstMet (fun i => ns.getD i 0) ns.length = l at f h
  obtain ⟨c, rfl⟩ := List.length_eq_one_iff.mp h
  have g : ∀ k ∈ ns, c = k := fun k hk => by
    have z := f k
    rw [List.any_eq_true.mpr ⟨k, hk, by simp⟩] at z
    simpa using z
  rw [← g x hx, g y hy]
theorem unlike_rr (r : Int) : unlike [r, r] = 1 := by
  show (firstMet (fun i => [r, r].getD i 0) 2).length = 1
  rw [firstMet_succ, firstMet_succ, firstMet_zero]
  simp [step_dedup]
theorem mem_zero {r : Int} (h0 : -18 ≤ r) (h1 : r ≤ 18) : mem 0 r (-90) 181 = [r] := by
  have all : ∀ i : Fin 37, mem 0 ((i.val : Int) - 18) (-90) 181 = [(i.val : Int) - 18] := by decide +kernel
  have z := all ⟨(r + 18).toNat, by omega⟩
  have e : (((⟨(r + 18).toNat, by omega⟩ : Fin 37).val : Nat) : Int) - 18 = r := by
    show (((r + 18).toNat : Nat) : Int) - 18 = r
    omega
  rw [e] at z
  exact z
theorem jm_nonneg {a ra b rb : Int} : 0 ≤ jm a ra b rb := Int.natCast_nonneg _
theorem jm_a {a ra b rb : Int} : jm a ra b rb ∣ a := Int.dvd_trans (Int.gcd_dvd_left ..) (Int.gcd_dvd_left ..)
theorem jm_b {a ra b rb : Int} : jm a ra b rb ∣ b := Int.dvd_trans (Int.gcd_dvd_left ..) (Int.gcd_dvd_right ..)
theorem jm_r {a ra b rb : Int} : jm a ra b rb ∣ ra - rb := Int.gcd_dvd_right ..
theorem jm_great {a ra b rb k : Int} (h1 : k ∣ a) (h2 : k ∣ b) (h3 : k ∣ ra - rb) : k ∣ jm a ra b rb := Int.dvd_coe_gcd (Int.dvd_coe_gcd h1 h2) h3
theorem jr_dvd {a ra b rb : Int} : jm a ra b rb ∣ ra - jr a ra b rb := by
  unfold jr
  by_cases h : jm a ra b rb = 0
  · rw [if_pos h, Int.sub_self]
    exact Int.dvd_zero _
  · rw [if_neg h]
    exact Int.dvd_self_sub_of_emod_eq rfl
/-- the join holds what both hold -/
theorem join_one {a ra b rb z : Int} (h : a ∣ z - ra) : jm a ra b rb ∣ z - jr a ra b rb := by
  have e : z - jr a ra b rb = (z - ra) + (ra - jr a ra b rb) := by omega
  rw [e]
  exact Int.dvd_add (Int.dvd_trans jm_a h) jr_dvd
theorem join_two {a ra b rb z : Int} (h : b ∣ z - rb) : jm a ra b rb ∣ z - jr a ra b rb := by
  have e : z - jr a ra b rb = (z - rb) + ((ra - jr a ra b rb) - (ra - rb)) := by omega
  rw [e]
  exact Int.dvd_add (Int.dvd_trans jm_b h) (Int.dvd_sub jr_dvd jm_r)
theorem narrow {a ra b rb k : Int} (t1 : IsTag 9 a ra) (t2 : IsTag 9 b rb) (k0 : 0 < k) (h : ∀ x y, x ∈ mem a ra (-90) 181 ++ mem b rb (-90) 181 → y ∈ mem a ra (-90) 181 ++ mem b rb (-90) 181 → x % k = y % k) : k ∣ jm a ra b rb := by
  have L : ∀ {x}, x ∈ mem a ra (-90) 181 → x ∈ mem a ra (-90) 181 ++ mem b rb (-90) 181 := fun z => List.mem_append_left _ z
  have R : ∀ {x}, x ∈ mem b rb (-90) 181 → x ∈ mem a ra (-90) 181 ++ mem b rb (-90) 181 := fun z => List.mem_append_right _ z
  have d : ∀ {x y : Int}, x % k = y % k → k ∣ x - y := fun e => Int.dvd_of_emod_eq_zero (Int.emod_eq_emod_iff_emod_sub_eq_zero.mp e)
  have g1 := d (h _ _ (L (next_mem t1)) (L (own_mem t1)))
  have g2 := d (h _ _ (R (next_mem t2)) (R (own_mem t2)))
  have g3 := d (h _ _ (L (own_mem t1)) (R (own_mem t2)))
  rw [Int.add_comm, Int.add_sub_cancel] at g1 g2
  exact jm_great g1 g2 g3
theorem join_tag {a ra b rb : Int} (t1 : IsTag 9 a ra) (t2 : IsTag 9 b rb) : IsTag 36 (jm a ra b rb) (jr a ra b rb) := by
  obtain ⟨a0, a1, a2, a3⟩ := t1
  obtain ⟨b0, b1, b2, b3⟩ := t2
  have ra1 : -18 ≤ ra ∧ ra ≤ 18 := by
    by_cases h : a = 0
    · have := a2 h
      omega
    · have := a3 (by omega)
      omega
  have rb1 : -18 ≤ rb ∧ rb ≤ 18 := by
    by_cases h : b = 0
    · have := b2 h
      omega
    · have := b3 (by omega)
      omega
  refine ⟨jm_nonneg, ?_, fun h => ?_, fun h => ?_⟩
  · by_cases h : a = 0
    · by_cases h' : b = 0
      · by_cases h2 : ra - rb = 0
        · subst h h'
          show ((Int.gcd (Int.gcd 0 0 : Int) (ra - rb) : Nat) : Int) ≤ 36
          rw [h2]
          decide
        · rcases Int.lt_or_gt_of_ne h2 with z | z
          · have := Int.le_of_dvd (by omega) ((Int.dvd_neg (a := jm a ra b rb)).mpr (jm_r (a := a) (b := b) (ra := ra) (rb := rb)))
            omega
          · have := Int.le_of_dvd z (jm_r (a := a) (b := b) (ra := ra) (rb := rb))
            omega
      · have := Int.le_of_dvd (by omega) (jm_b (a := a) (b := b) (ra := ra) (rb := rb))
        omega
    · have := Int.le_of_dvd (by omega) (jm_a (a := a) (b := b) (ra := ra) (rb := rb))
      omega
  · rw [jr, if_pos h]
    omega
  · rw [jr, if_neg (by omega)]
    exact ⟨Int.emod_nonneg _ (by omega), Int.emod_lt_of_pos _ h⟩
/-- some number of the window is asked for just if the divisor tells so -/
theorem asked {m r b s : Int} (t : IsTag 36 m r) (b0 : 0 < b) (b1 : b ≤ 9) (s0 : 0 ≤ s) (s1 : s < b) : (∃ z ∈ mem m r (-200) 600, z % b = s) ↔ (Int.gcd m b : Int) ∣ r - s := by
  obtain ⟨m0, m1, m2, m3⟩ := t
  constructor
  · rintro ⟨z, hz, e⟩
    obtain ⟨_, _, h3⟩ := in_mem.mp hz
    have d1 : (Int.gcd m b : Int) ∣ z - r := Int.dvd_trans (Int.gcd_dvd_left ..) h3
    have d2 : (Int.gcd m b : Int) ∣ z - s := Int.dvd_trans (Int.gcd_dvd_right ..) (by rw [← e]; exact Int.dvd_self_sub_of_emod_eq rfl)
    have d3 := Int.dvd_sub d2 d1
    have e3 : z - s - (z - r) = r - s := by omega
    rw [e3] at d3
    exact d3
  · intro g
    obtain ⟨t, ht0, ht1, ht2⟩ := meet m0 b0 g
    refine ⟨r + m * t, in_mem.mpr ⟨?_, ?_, by rw [Int.add_comm, Int.add_sub_cancel]; exact Int.dvd_mul_right m t⟩, ?_⟩
    · have z : 0 ≤ m * t := Int.mul_nonneg m0 ht0
      by_cases h : m = 0
      · have := m2 h
        omega
      · have := m3 (by omega)
        omega
    · have z : m * t ≤ m * 8 := Int.mul_le_mul_of_nonneg_left (by omega) m0
      by_cases h : m = 0
      · have := m2 h
        omega
      · have := m3 (by omega)
        omega
    · have e := Int.emod_emod_of_dvd s (Int.dvd_refl b)
      have e1 : (r + m * t) % b = s % b := Int.emod_eq_emod_iff_emod_sub_eq_zero.mpr (Int.emod_eq_zero_of_dvd ht2)
      rw [e1, Int.emod_eq_of_lt s0 s1]
end
end K13
set_option Elab.async false
set_option linter.all false
set_option maxRecDepth 100000
set_option maxHeartbeats 2000000
namespace K13
open PySem PySem.Spec PyProof.Rows L2 CM
section
variable {P : Program} {w : World} {K : PySem.W.Frag} {mg : Str → Option Value} {base : Heap}
def spMem : Sp := fun vs H Q _ => ∃ (p : Addr) (m r lo hi : Int) (j : Nat), vs = [.ref p, .int lo, .int hi] ∧ hi = lo + j ∧ Tup2 H p m r ∧ 0 ≤ m ∧ -1000 ≤ lo ∧ lo ≤ 1000 ∧ j ≤ 900 ∧
  ∀ (l : Addr) (H' : Hp), Same H H' → H' l = some (.lst ((mem m r lo j).map V.int)) → Q (.ref l) H'
theorem ok_members {f : Addr} {fd : FuncData} {k : Nat} (F : FnP K "_law_members" "_law_members" s_law_members f fd) (m_range : mg "range" = none) (C_holds : Cal P w K mg base CX0 "_law_holds" k ["_law_tag_here", "_law_number"] spHolds) :
    FnOk P w K mg base CX0 (k + 1) f fd ["_law_tag_here", "_law_low", "_law_high"] spMem := by
  obtain ⟨f_law_holds, fd_law_holds, G_law_holds, b_law_holds, m_law_holds, k_law_holds⟩ := C_holds
  refine F.ok sc_law_members (fun vs H Q E h => ?_) (fun cdv A outer s H vs Q E hr h => ?_)
  · obtain ⟨p, m, r, lo, hi, j, rfl, _⟩ := h
    rfl
  · obtain ⟨p, m, r, lo, hi, j, rfl, rfl, hp, hm, lo0, lo1, hj, q⟩ := h
    refine ⟨_, PSs.nox (pss_one (ps_ret (pe_lc (own := [("_law_number", 3)]) rfl sc_law_members.nd (pi_range2 (by rfl) m_range (pa_cons (pv 1) (pa_cons (pv 2) pa_nil))) (blkOk_by (N := n_law_members) (sc := defScope s_law_members) (by decide +kernel)) (fun _ _ _ _ _ => pg_name (i := 3) sc_law_members.nd rfl (.inl rfl)) (fun _ _ _ _ _ => pts_one (pt_val (pe_call G_law_holds (hr.mono (by omega)) (by rfl) m_law_holds k_law_holds b_law_holds .nil pass0 (pa_cons (pv 0) (pa_cons (pv 3) pa_nil))))) (fun _ _ _ _ _ => (pv 3))))), ?_⟩
    refine ⟨_, rfl, _, rfl, lo, lo + j, rfl, ⟨by omega, by omega, by omega, by omega⟩, fun D nD => ?_⟩
    rw [show (lo + (j : Int) - lo).toNat = j by omega]
    refine lc_range (lo := lo) (n := j) (fun i H' => Same H H' ∧ H' D = some (.lst ((mem m r lo i).map V.int))) ⟨same_upd nD, upd_same⟩ ?_ ?_
    · rintro i H1 hi ⟨s1, hD⟩
      refine ⟨rfl, _, rfl, _, rfl, p, m, r, lo + i, rfl, s1 _ _ hp, hm, _, rfl, ite2 (fun e => ?_) (fun e => ?_)⟩
      · refine ⟨_, rfl, _, hD, ?_, same_put s1 nD, ?_⟩
        · rw [List.length_map]
          exact small1000 (Nat.le_trans mem_len (by omega))
        · rw [upd_same, mem_succ, if_pos e, List.map_append]
          rfl
      · refine ⟨s1, ?_⟩
        rw [mem_succ, if_neg e]
        exact hD
    · rintro H1 ⟨s1, hD⟩
      exact q D H1 s1 hD
theorem ok_small {f C : Addr} {fd : FuncData} {k : Nat} (F : FnP K "_law_small_right" "_law_small_right" s_law_small_right f fd) (m_int : mg "int" = none) (m_range : mg "range" = none) (m_len : mg "len" = none) (m_set : mg "set" = none) (cl_C : Cls K C)
    (C_draw : Cal P w K mg base CX0 "_law_draw" k ["_law_well_here", "_law_many"] spDraw) (C_tag : Cal P w K mg base CX0 "_law_tag" k ["_law_well_here", "_law_size"] spTag)
    (C_members : Cal P w K mg base CX0 "_law_members" k ["_law_tag_here", "_law_low", "_law_high"] spMem) (C_holds : Cal P w K mg base CX0 "_law_holds" k ["_law_tag_here", "_law_number"] spHolds)
    (D_join : CalM P w K mg base CX0 C "join" k ["self", "one", "other"] spJoin) (D_consistent : CalM P w K mg base CX0 C "consistent" k ["self", "label", "question"] spCons) :
    FnOk P w K mg base CX0 (k + 1) f fd ["_law_well_here", "_law_made"] (spRight C) := by
  obtain ⟨f_law_draw, fd_law_draw, G_law_draw, b_law_draw, m_law_draw, k_law_draw⟩ := C_draw
  obtain ⟨f_law_tag, fd_law_tag, G_law_tag, b_law_tag, m_law_tag, k_law_tag⟩ := C_tag
  obtain ⟨f_law_members, fd_law_members, G_law_members, b_law_members, m_law_members, k_law_members⟩ := C_members
  obtain ⟨f_law_holds, fd_law_holds, G_law_holds, b_law_holds, m_law_holds, k_law_holds⟩ := C_holds
  obtain ⟨f_join, fd_join, G_join, b_join, me_join⟩ := D_join
  obtain ⟨f_consistent, fd_consistent, G_consistent, b_consistent, me_consistent⟩ := D_consistent
  refine F.ok sc_law_small_right (fun vs H Q E h => ?_) (fun cdv A outer s H vs Q E hr h => ?_)
  · obtain ⟨a, m, dx, x, c, rfl, _⟩ := h
    rfl
  · obtain ⟨a, m, dx, x, c, rfl, ha, hm, q⟩ := h
    refine ⟨_, PSs.nox (pss_cons (ps_par (i := 2) (j := 3) rfl sc_law_small_right.nd rfl rfl (by decide) rfl rfl (pa_cons (pe_call G_law_tag (hr.mono (by omega)) (by rfl) m_law_tag k_law_tag b_law_tag .nil pass0 (pa_cons (pv 0) (pa_cons pe_int pa_nil))) (pa_cons (pe_call G_law_tag (hr.mono (by omega)) (by rfl) m_law_tag k_law_tag b_law_tag .nil pass0 (pa_cons (pv 0) (pa_cons pe_int pa_nil))) pa_nil)) (by rfl))
    (pss_cons (ps_set (i := 4) sc_law_small_right.nd rfl (.inr rfl) (pe_meth (pv 1) cl_C me_join G_join (hr.mono (by omega)) b_join .nil pass0 (pa_cons (pv 2) (pa_cons (pv 3) pa_nil))))
    (pss_cons (ps_set (i := 5) sc_law_small_right.nd rfl (.inl rfl) (pe_op op_cat (pe_call G_law_members (hr.mono (by omega)) (by rfl) m_law_members k_law_members b_law_members .nil pass0 (pa_cons (pv 2) (pa_cons (pe_un un_neg pe_int) (pa_cons pe_int pa_nil)))) (pe_call G_law_members (hr.mono (by omega)) (by rfl) m_law_members k_law_members b_law_members .nil pass0 (pa_cons (pv 3) (pa_cons (pe_un un_neg pe_int) (pa_cons pe_int pa_nil))))))
    (pss_cons (ps_if (pt_cmpR (op_neNil hr.units) (pe_lc (own := [("_law_number", 9)]) rfl sc_law_small_right.nd (pi_list (pv 5)) (blkOk_by (N := n_law_small_right) (sc := defScope s_law_small_right) (by decide +kernel)) (fun _ _ _ _ _ => pg_name (i := 9) sc_law_small_right.nd rfl (.inl rfl)) (fun _ _ _ _ _ => pts_one (pt_not (pt_val (pe_call G_law_holds (hr.mono (by omega)) (by rfl) m_law_holds k_law_holds b_law_holds .nil pass0 (pa_cons (pv 4) (pa_cons (pv 9) pa_nil)))))) (fun _ _ _ _ _ => (pv 9))) (pe_lst (pa_nil)) (nomark _)) (pss_one (ps_ret pe_bl)) (pss_nil))
    (pss_cons (ps_for PassesOwn.never rfl (pi_range2 (by rfl) m_range (pa_cons pe_int (pa_cons pe_int pa_nil))) (pg_name (i := 6) sc_law_small_right.nd rfl (.inr rfl))
      (pss_one (ps_if (PW.pt (pw_and (pt_chain op_gt op_gt (pv 6) (pe_ix ix_tup (pv 4) pe_int (fun _ _ => rfl)) pe_int) (pw_and1 (pt_cmpR op_eq (pe_unlike (by rfl) m_len (by rfl) m_set (pe_lc (own := [("_law_number", 9)]) rfl sc_law_small_right.nd (pi_list (pv 5)) (blkOk_by (N := n_law_small_right) (sc := defScope s_law_small_right) (by decide +kernel)) (fun _ _ _ _ _ => pg_name (i := 9) sc_law_small_right.nd rfl (.inl rfl)) (fun _ _ _ _ _ => pts_nil) (fun _ _ _ _ _ => (pe_op op_mod (pe_callTy call_int1 (by rfl) m_int boot_int (pa_cons (pv 9) pa_nil)) (pv 6))))) pe_int (nomark _))))) (pss_one (ps_ret pe_bl)) (pss_nil))))
    (Evl.pss_cut (ps_if (PW.pt (pw_or (PW.pt (pw_and (pt_cmpR op_eq (pe_ix ix_tup (pv 4) pe_int (fun _ _ => rfl)) pe_int (nomark _)) (pw_and1 (pt_cmpR op_ne (pe_unlike (by rfl) m_len (by rfl) m_set (pv 5)) pe_int (nomark _))))) (pw_or1 (PW.pt (pw_and (pt_cmpR op_gt (pe_ix ix_tup (pv 4) pe_int (fun _ _ => rfl)) pe_int (nomark _)) (pw_and1 (pt_not (pt_chain op_le op_lt pe_int (pe_ix ix_tup (pv 4) pe_int (fun _ _ => rfl)) (pe_ix ix_tup (pv 4) pe_int (fun _ _ => rfl)))))))))) (pss_one (ps_ret pe_bl)) (pss_nil))
    (pss_cons (ps_set (i := 7) sc_law_small_right.nd rfl (.inr rfl) (pe_tup (pa_cons (pe_op op_add pe_int (pe_call G_law_draw (hr.mono (by omega)) (by rfl) m_law_draw k_law_draw b_law_draw .nil pass0 (pa_cons (pv 0) (pa_cons pe_int pa_nil)))) (pa_cons pe_int pa_nil))))
    (pss_cons (ps_set (i := 7) sc_law_small_right.nd rfl (.inr rfl) (pe_tup (pa_cons (pe_ix ix_tup (pv 7) pe_int (fun _ _ => rfl)) (pa_cons (pe_call G_law_draw (hr.mono (by omega)) (by rfl) m_law_draw k_law_draw b_law_draw .nil pass0 (pa_cons (pv 0) (pa_cons (pe_ix ix_tup (pv 7) pe_int (fun _ _ => rfl)) pa_nil))) pa_nil))))
    (pss_cons (ps_for PassesOwn.never rfl (pi_tup (pe_tup (pa_cons (pv 2) (pa_cons (pv 3) (pa_cons (pe_meth (pv 1) cl_C me_join G_join (hr.mono (by omega)) b_join .nil pass0 (pa_cons (pv 2) (pa_cons (pv 3) pa_nil))) pa_nil))))) (pg_name (i := 4) sc_law_small_right.nd rfl (.inr rfl))
      (pss_cons (ps_set (i := 8) sc_law_small_right.nd rfl (.inl rfl) (pe_cmpR (op_neNil hr.units) (pe_lc (own := [("_law_number", 9)]) rfl sc_law_small_right.nd (pi_list (pe_call G_law_members (hr.mono (by omega)) (by rfl) m_law_members k_law_members b_law_members .nil pass0 (pa_cons (pv 4) (pa_cons (pe_un un_neg pe_int) (pa_cons pe_int pa_nil))))) (blkOk_by (N := n_law_small_right) (sc := defScope s_law_small_right) (by decide +kernel)) (fun _ _ _ _ _ => pg_name (i := 9) sc_law_small_right.nd rfl (.inl rfl)) (fun _ _ _ _ _ => pts_one (pt_cmpR op_eq (pe_op op_mod (pe_callTy call_int1 (by rfl) m_int boot_int (pa_cons (pv 9) pa_nil)) (pe_ix ix_tupK (pv 7) pe_int (fun _ _ => rfl))) (pe_ix ix_tupK (pv 7) pe_int (fun _ _ => rfl)) (nomark _))) (fun _ _ _ _ _ => (pv 9))) (pe_lst (pa_nil)) (nomark _)))
      (pss_one (ps_if (pt_cmpR op_ne (pe_meth (pv 1) cl_C me_consistent G_consistent (hr.mono (by omega)) b_consistent .nil pass0 (pa_cons (pv 4) (pa_cons (pv 7) pa_nil))) (pv 8) (nomark _)) (pss_one (ps_ret pe_bl)) (pss_nil)))))
    (pss_one (ps_ret pe_bl))))))))))), ?_⟩
    have hma : m ≠ a := fun z => by
      rw [z, ha] at hm
      cases hm
    refine ⟨_, rfl, a, 9, x, c, rfl, ha, by decide, by decide, fun H1 p1 m1 r1 x2 c2 kB aB h1 np1 t1 => ?_⟩
    refine ⟨_, rfl, a, 9, x2, c2, rfl, aB, by decide, by decide, fun H2 p2 m2 r2 x3 c3 kC aC h2 np2 t2 => ⟨_, _, rfl, ?_⟩⟩
    have p1a := Kp.ne ha np1
    have h1' := kC _ _ p1a h1
    have kD := kB.trans kC
    have mD := kD _ _ hma hm
    refine ⟨_, rfl, m, dx, [], rfl, mD, rfl, _, rfl, _, rfl, m, p1, p2, m1, r1, m2, r2, 9, rfl, h1', h2, t1, t2, by decide, fun t H3 s1 ht => ?_⟩
    refine ⟨_, rfl, _, rfl, p1, m1, r1, -90, 91, 181, rfl, rfl, s1 _ _ h1', t1.1, by decide, by decide, by decide, fun l1 H4 s2 hl1 => ?_⟩
    refine ⟨_, rfl, _, rfl, p2, m2, r2, -90, 91, 181, rfl, rfl, (s1.trans s2) _ _ h2, t2.1, by decide, by decide, by decide, fun l2 H5 s3 hl2 => ⟨l1, l2, _, _, rfl, rfl, s3 _ _ hl1, hl2, ?_, fun e ne => ?_⟩⟩
    · rw [List.length_map, List.length_map]
      have z1 := mem_len (m := m1) (r := r1) (lo := -90) (j := 181)
      have z2 := mem_len (m := m2) (r := r2) (lo := -90) (j := 181)
      exact Nat.le_of_lt (small1000 (by omega))
    have sA := (s1.trans (s2.trans s3)).trans (same_upd (o := .lst ((mem m1 r1 (-90) 181).map V.int ++ (mem m2 r2 (-90) 181).map V.int)) ne)
    have he : (upd H5 e (.lst ((mem m1 r1 (-90) 181).map V.int ++ (mem m2 r2 (-90) 181).map V.int))) e = some (.lst ((mem m1 r1 (-90) 181 ++ mem m2 r2 (-90) 181).map V.int)) := by
      rw [upd_same, List.map_append]
    have htA := ((s2.trans s3).trans (same_upd (o := .lst ((mem m1 r1 (-90) 181).map V.int ++ (mem m2 r2 (-90) 181).map V.int)) ne)) _ _ ht
    generalize upd H5 e (.lst ((mem m1 r1 (-90) 181).map V.int ++ (mem m2 r2 (-90) 181).map V.int)) = G1 at sA he htA
    have hin : ∀ z ∈ mem m1 r1 (-90) 181 ++ mem m2 r2 (-90) 181, jm m1 r1 m2 r2 ∣ z - jr m1 r1 m2 r2 := fun z hz => by
      rcases List.mem_append.mp hz with h | h
      · exact join_one (in_mem.mp h).2.2
      · exact join_two (in_mem.mp h).2.2
    have hlen : (mem m1 r1 (-90) 181 ++ mem m2 r2 (-90) 181).length ≤ 400 := by
      have z1 := mem_len (m := m1) (r := r1) (lo := -90) (j := 181)
      have z2 := mem_len (m := m2) (r := r2) (lo := -90) (j := 181)
      rw [List.length_append]
      omega
    have hone : ∀ k : Int, 0 < k → unlike ((mem m1 r1 (-90) 181 ++ mem m2 r2 (-90) 181).map fun z => z % k) = 1 → k ∣ jm m1 r1 m2 r2 := fun k k0 u => narrow t1 t2 k0 fun x y hx hy => unlike_one u (List.mem_map.mpr ⟨x, hx, rfl⟩) (List.mem_map.mpr ⟨y, hy, rfl⟩)
    have hzero : jm m1 r1 m2 r2 = 0 → unlike (mem m1 r1 (-90) 181 ++ mem m2 r2 (-90) 181) = 1 := fun z => by
      have e1 : m1 = 0 := Int.zero_dvd.mp (z ▸ jm_a)
      have e2 : m2 = 0 := Int.zero_dvd.mp (z ▸ jm_b)
      have e3 : r1 - r2 = 0 := Int.zero_dvd.mp (z ▸ jm_r)
      subst e1 e2
      have b1 := t1.2.2.1 rfl
      have e4 : r2 = r1 := by omega
      subst e4
      rw [mem_zero (by omega) (by omega)]
      exact unlike_rr r2
    have tj := join_tag t1 t2
    generalize mem m1 r1 (-90) 181 ++ mem m2 r2 (-90) 181 = both at he hin hlen hone hzero
    have jn : 0 ≤ jm m1 r1 m2 r2 := jm_nonneg
    have hjj : jm m1 r1 m2 r2 = jm m1 r1 m2 r2 ∧ jr m1 r1 m2 r2 = jr m1 r1 m2 r2 := ⟨rfl, rfl⟩
    -- none is lost
    refine ⟨_, rfl, e, rfl, ⟨_, .inl (.inl he)⟩, fun D nD => lc_list (xs := both.map V.int) (fun i H' => Same G1 H' ∧ H' D = some (.lst [])) ⟨same_upd nD, upd_same⟩ (fun i H' _ z => .inl (.inl (z.1 _ _ he))) ?_ ?_⟩
    · rintro i x H6 hx ⟨s6, hD⟩
      obtain ⟨z, hz, rfl⟩ := List.mem_map.mp (List.mem_of_getElem? hx)
      refine ⟨rfl, _, rfl, _, rfl, t, _, _, z, rfl, s6 _ _ htA, jn, _, rfl, ?_⟩
      rw [show hb (jm m1 r1 m2 r2) (jr m1 r1 m2 r2) z = true from decide_eq_true (hin z hz)]
      exact ite2 (fun e => absurd e (by decide)) (fun _ => ⟨s6, hD⟩)
    rintro H6 ⟨s6, hD⟩
    refine ⟨by show 0 ≤ sizeLine; decide, fun D2 n2 => ⟨D, D2, [], rfl, rfl, .inl (.inl (same_upd n2 _ _ hD)), .inl (.inl upd_same), _, rfl, ite2 (fun e => absurd e (by decide)) (fun _ => ?_)⟩⟩
    have sB := s6.trans (same_upd (o := .lst []) n2)
    generalize upd H6 D2 (.lst []) = G2 at sB
    -- none is wider than it must be
    refine ⟨1, 181, rfl, ⟨by decide, by decide, by decide, by decide⟩, for_range (lo := 1) (n := 180) (fun _ σ H' => ∃ v6 : Option V, σ = [some (.ref a), some (.ref m), some (.ref p1), some (.ref p2), some (.ref t), some (.ref e), v6, none, none, none] ∧ Same G1 H') ⟨none, rfl, sB⟩ ?_ ?_⟩
    · rintro i σ H7 _ ⟨v6, rfl, s7⟩
      refine ⟨_, rfl, _, rfl, t, _, 0, _, rfl, rfl, .inl (.inl (s7 _ _ htA)), rfl, _, _, rfl, rfl, _, rfl, ite2 (fun e1 => ⟨_, 0, rfl, rfl, _, rfl, ite2 (fun e2 => ?_) (fun _ => ite2 (fun e => absurd e (by decide)) (fun _ => ⟨_, rfl, s7⟩))⟩) (fun _ => ⟨_, rfl, ite2 (fun e => absurd e (by decide)) (fun _ => ite2 (fun e => absurd e (by decide)) (fun _ => ⟨_, rfl, s7⟩))⟩)⟩
      have e3 : jm m1 r1 m2 r2 < 1 + (i : Int) := of_decide_eq_true e1
      have e4 : 0 < jm m1 r1 m2 r2 := of_decide_eq_true e2
      have kp : 0 < 1 + (i : Int) := by omega
      refine ⟨_, rfl, e, rfl, ⟨_, .inl (.inl (s7 _ _ he))⟩, fun D3 nD3 => lc_list (xs := both.map V.int) (fun j H' => Same H7 H' ∧ H' D3 = some (.lst (((both.map fun z => z % (1 + (i : Int))).take j).map V.int))) ⟨same_upd nD3, upd_same⟩ (fun j H' _ z => .inl (.inl (z.1 _ _ (s7 _ _ he)))) ?_ ?_⟩
      · rintro j x H8 hx ⟨s8, hD3⟩
        rw [List.getElem?_map] at hx
        obtain ⟨z, hz, rfl⟩ := Option.map_eq_some_iff.mp hx
        refine ⟨rfl, _, rfl, .inl ⟨_, rfl, _, rfl, z, _, rfl, rfl, kp, _, hD3, ?_, same_put s8 nD3, ?_⟩⟩
        · rw [List.length_map, List.length_take, List.length_map]
          exact small1000 (by omega)
        · rw [upd_same, List.take_add_one, List.getElem?_map, hz, List.map_append]
          rfl
      · rintro H8 ⟨s8, hD3⟩
        rw [List.length_map, List.take_of_length_le (by rw [List.length_map]; exact Nat.le_refl _)] at hD3
        refine ⟨D3, _, rfl, .inl (.inl hD3), by rw [List.length_map]; omega, rfl, _, rfl, ite2 (fun e5 => ?_) (fun _ => ⟨_, rfl, s7.trans s8⟩)⟩
        have e6 : ((unlike (both.map fun z => z % (1 + (i : Int))) : Nat) : Int) = 1 := V.int.inj (of_decide_eq_true e5)
        have e7 := Int.le_of_dvd e4 (hone _ kp (by omega))
        omega
    rintro σ H7 ⟨v6, rfl, s7⟩
    refine ⟨fun σ' H' => σ' = [some (.ref a), some (.ref m), some (.ref p1), some (.ref p2), some (.ref t), some (.ref e), v6, none, none, none] ∧ Same G1 H', ?_, ?_⟩
    · refine ⟨_, rfl, t, _, 0, _, rfl, rfl, .inl (.inl (s7 _ _ htA)), rfl, rfl, _, rfl, ite2 (fun e1 => ?_) (fun e1 => ?_)⟩
      · have e2 : jm m1 r1 m2 r2 = 0 := V.int.inj (of_decide_eq_true e1)
        refine ⟨_, rfl, e, both, rfl, .inl (.inl (s7 _ _ he)), by omega, rfl, _, rfl, ite2 (fun e3 => ?_) (fun _ => ?_)⟩
        · rw [hzero e2] at e3
          exact absurd e3 (by decide)
        · refine ⟨_, rfl, t, _, 0, _, rfl, rfl, .inl (.inl (s7 _ _ htA)), rfl, _, 0, rfl, rfl, _, rfl, ite2 (fun e4 => ?_) (fun _ => ite2 (fun e => absurd e (by decide)) (fun _ => ⟨rfl, s7⟩))⟩
          have e5 : 0 < jm m1 r1 m2 r2 := of_decide_eq_true e4
          omega
      · refine ite2 (fun e => absurd e (by decide)) (fun _ => ?_)
        have e2 : jm m1 r1 m2 r2 ≠ 0 := fun z => e1 (decide_eq_true (congrArg V.int z))
        have e3 : 0 < jm m1 r1 m2 r2 := by omega
        have e4 := tj.2.2.2 e3
        refine ⟨_, rfl, t, _, 0, _, rfl, rfl, .inl (.inl (s7 _ _ htA)), rfl, _, 0, rfl, rfl, _, rfl, ite2 (fun _ => ?_) (fun _ => ite2 (fun e => absurd e (by decide)) (fun _ => ⟨rfl, s7⟩))⟩
        refine ⟨_, rfl, t, _, 1, _, rfl, rfl, .inl (.inl (s7 _ _ htA)), rfl, 0, _, rfl, rfl, _, rfl, ite2 (fun _ => ?_) (fun e5 => absurd (decide_eq_true e4.1) e5)⟩
        refine ⟨_, rfl, t, _, 0, _, rfl, rfl, .inl (.inl (s7 _ _ htA)), rfl, _, _, rfl, rfl, _, rfl, ?_⟩
        rw [show decide (jr m1 r1 m2 r2 < jm m1 r1 m2 r2) = true from decide_eq_true e4.2]
        exact ite2 (fun e => absurd e (by decide)) (fun _ => ⟨rfl, s7⟩)
    rintro σ' H8 ⟨rfl, s8⟩
    have sC := sA.trans s8
    have aC' := sC _ _ aC
    have mC' := sC _ _ mD
    have g1 := sC _ _ h1'
    have g2 := sC _ _ h2
    refine ⟨_, rfl, a, x3, c3, 9, rfl, aC', by decide, .of (k := 4) (by decide) (by decide), fun b' x4 c4 b0 b1 => ⟨1, b', rfl, rfl, by show 2 ≤ sizeLine; decide, fun q0 nq0 => ?_⟩⟩
    dsimp only at nq0 ⊢
    generalize hbb : 1 + b' = b at nq0 ⊢
    refine ⟨_, rfl, q0, _, 0, _, rfl, rfl, .inl (.inl upd_same), rfl, _, rfl, _, rfl, q0, _, 0, _, rfl, rfl, .inl (.inl upd_same), rfl, a, x4, c4, b, rfl, same_upd nq0 _ _ upd_same, by omega, .of (k := 5) (by omega) (by decide), fun s' x5 c5 s0 s1' => ⟨by show 2 ≤ sizeLine; decide, fun p8 np8 => ?_⟩⟩
    have kE : Kp a H8 _ := ((Kp.set (o := .lst [.int x4, .int c4])).trans (.same (same_upd (o := .tup [.int b, .int 0]) nq0))).trans ((Kp.set (o := .lst [.int x5, .int c5])).trans (.same (same_upd (o := .tup [.int b, .int s']) np8)))
    have aF := same_upd (o := .tup [.int b, .int s']) np8 _ _ (upd_same (H := upd (upd H8 a (.lst [.int x4, .int c4])) q0 (.tup [.int b, .int 0])) (a := a) (o := .lst [.int x5, .int c5]))
    have h8 : Tup2 (upd (upd (upd (upd H8 a (.lst [.int x4, .int c4])) q0 (.tup [.int b, .int 0])) a (.lst [.int x5, .int c5])) p8 (.tup [.int b, .int s'])) p8 b s' := upd_same
    generalize upd (upd (upd (upd H8 a (.lst [.int x4, .int c4])) q0 (.tup [.int b, .int 0])) a (.lst [.int x5, .int c5])) p8 (.tup [.int b, .int s']) = G3 at kE aF h8
    have p2a := Kp.ne aB np2
    have f1 := kE _ _ p1a g1
    have f2 := kE _ _ p2a g2
    have mF := kE _ _ hma mC'
    have kF := kD.trans ((Kp.same sC).trans kE)
    have b0' : 0 < b := by omega
    have b1' : b ≤ 9 := by omega
    refine ⟨_, rfl, _, rfl, _, rfl, m, dx, [], rfl, mF, rfl, _, rfl, _, rfl, m, p1, p2, m1, r1, m2, r2, 9, rfl, f1, f2, t1, t2, by decide, fun tt H9 s9 ht9 => ⟨by show 3 ≤ sizeLine; decide, fun T nT => ⟨T, rfl, ⟨_, .inl (.inl upd_same)⟩, ?_⟩⟩⟩
    have sD := s9.trans (same_upd (o := .tup [.ref p1, .ref p2, .ref tt]) nT)
    have hT : (upd H9 T (.tup [.ref p1, .ref p2, .ref tt])) T = some (.tup [.ref p1, .ref p2, .ref tt]) := upd_same
    have htt := same_upd (o := .tup [.ref p1, .ref p2, .ref tt]) nT _ _ ht9
    generalize upd H9 T (.tup [.ref p1, .ref p2, .ref tt]) = G4 at sD hT htt
    have wid : ∀ {u v : Int}, IsTag 9 u v → IsTag 36 u v := fun z => ⟨z.1, by have := z.2.1; omega, fun y => by have := z.2.2.1 y; omega, z.2.2.2⟩
    refine for_tup (K := K) (a := T) (xs := [.ref p1, .ref p2, .ref tt]) (fun _ σ H' => ∃ (v4 v8 : Option V), σ = [some (.ref a), some (.ref m), some (.ref p1), some (.ref p2), v4, some (.ref e), v6, some (.ref p8), v8, none] ∧ Same G4 H') ⟨_, _, rfl, Same.refl _⟩ (fun i σ H' _ ⟨_, _, _, z⟩ => .inl (.inl (z _ _ hT))) ?_ ?_
    · rintro i y σ H10 hi ⟨v4, v8, rfl, s10⟩
      obtain ⟨qq, mq, rq, rfl, hq, tq⟩ : ∃ (qq : Addr) (mq rq : Int), y = .ref qq ∧ Tup2 G4 qq mq rq ∧ IsTag 36 mq rq := by
        rcases List.mem_cons.mp (List.mem_of_getElem? hi) with rfl | z
        · exact ⟨p1, m1, r1, rfl, sD _ _ f1, wid t1⟩
        rcases List.mem_cons.mp z with rfl | z
        · exact ⟨p2, m2, r2, rfl, sD _ _ f2, wid t2⟩
        rcases List.mem_cons.mp z with rfl | z
        · exact ⟨tt, _, _, rfl, htt, tj⟩
        · cases z
      refine ⟨_, rfl, _, rfl, qq, mq, rq, -200, 400, 600, rfl, rfl, s10 _ _ hq, tq.1, by decide, by decide, by decide, fun L H11 s11 hL => ?_⟩
      have s12 := s10.trans s11
      have hml := mem_len (m := mq) (r := rq) (lo := -200) (j := 600)
      have hask := asked tq b0' b1' s0 s1'
      refine ⟨L, rfl, ⟨_, .inl (.inl hL)⟩, fun D5 nD5 => ?_⟩
      generalize mem mq rq (-200) 600 = M at hL hml hask
      refine lc_list (xs := M.map V.int) (fun j H' => Same H11 H' ∧ H' D5 = some (.lst (((M.take j).filter fun z => decide (z % b = s')).map V.int))) ⟨same_upd nD5, upd_same⟩ (fun j H' _ z => .inl (.inl (z.1 _ _ hL))) ?_ ?_
      · rintro j x H12 hx ⟨s13, hD5⟩
        rw [List.getElem?_map] at hx
        obtain ⟨z, hz, rfl⟩ := Option.map_eq_some_iff.mp hx
        have h8' := (sD.trans (s12.trans s13)) _ _ h8
        refine ⟨rfl, _, rfl, .inl ⟨_, rfl, _, rfl, p8, _, 0, _, rfl, rfl, .inl (.inl h8'), rfl, z, b, rfl, rfl, b0', _, rfl, p8, _, 1, _, rfl, rfl, .inl (.inl h8'), rfl, rfl, _, rfl, ?_⟩⟩
        rw [dec_eq]
        refine ite2 (fun e5 => ?_) (fun e5 => ?_)
        · refine ⟨_, rfl, _, hD5, ?_, same_put s13 nD5, ?_⟩
          · rw [List.length_map]
            exact small1000 (Nat.le_trans (List.length_filter_le ..) (by rw [List.length_take]; omega))
          · rw [upd_same, List.take_add_one, hz, List.filter_append, List.map_append]
            rw [show (some z).toList = [z] from rfl, List.filter_cons_of_pos (p := fun z => decide (z % b = s')) e5]
            rfl
        · refine ⟨s13, ?_⟩
          rw [List.take_add_one, hz, List.filter_append]
          rw [show (some z).toList = [z] from rfl, List.filter_cons_of_neg (p := fun z => decide (z % b = s')) e5, List.filter_nil, List.append_nil]
          exact hD5
      · rintro H12 ⟨s13, hD5⟩
        rw [List.length_map, List.take_of_length_le (Nat.le_refl _)] at hD5
        refine ⟨by show 0 ≤ sizeLine; decide, fun D6 n6 => ⟨D5, D6, _, rfl, rfl, .inl (.inl (same_upd n6 _ _ hD5)), .inl (.inl upd_same), ?_⟩⟩
        have s14 := s12.trans (s13.trans (same_upd (o := .lst []) n6))
        have e6 : (!((M.filter fun z => decide (z % b = s')).map V.int).isEmpty) = decide ((Int.gcd mq b : Int) ∣ rq - s') := by
          rw [Bool.eq_iff_iff, decide_eq_true_iff, ← hask]
          cases hM : M.filter fun z => decide (z % b = s') with
          | nil =>
            refine ⟨fun z => (nomatch z), fun ⟨z, hz, e7⟩ => ?_⟩
            have := List.mem_filter (p := fun z => decide (z % b = s')) |>.mpr ⟨hz, decide_eq_true e7⟩
            rw [hM] at this
            cases this
          | cons z zs =>
            refine ⟨fun _ => ?_, fun _ => rfl⟩
            have := hM ▸ List.mem_cons_self (a := z) (l := zs)
            obtain ⟨f1, f2⟩ := List.mem_filter.mp this
            exact ⟨z, f1, of_decide_eq_true f2⟩
        rw [e6]
        generalize upd H12 D6 (.lst []) = G5 at s14
        refine ⟨_, rfl, m, dx, [], rfl, (sD.trans s14) _ _ mF, rfl, _, rfl, _, rfl, m, qq, p8, mq, rq, b, s', 36, rfl, s14 _ _ hq, (sD.trans s14) _ _ h8, tq, b0', by omega, s0, s1', by decide, fun H13 s15 => ⟨_, rfl, rfl, _, rfl, ite2 (fun e => absurd e (by simp)) (fun _ => ⟨_, _, rfl, s14.trans s15⟩)⟩⟩
    · rintro σ H10 ⟨v4, v8, rfl, s10⟩
      have s11 := sD.trans s10
      exact q _ x5 c5 (kF.trans (.same s11)) (s11 _ _ aF)
end
end K13
set_option Elab.async false
set_option linter.all false
set_option maxRecDepth 100000
set_option maxHeartbeats 2000000
namespace K13
open PySem PySem.Spec PyProof.Rows L2 CM
section
variable {P : Program} {w : World} {K : PySem.W.Frag} {mg : Str → Option Value} {base : Heap}
def sidesOf (n : Nat) : List V := (List.range n).map fun i => V.int (if i < n / 2 then 0 else 1)
def spSides (K : PySem.W.Frag) (C : Addr) : Sp := fun vs H Q _ => ∃ (m dx l : Addr) (xs : List V), vs = [.ref m, .ref l] ∧ H m = some (.ins C dx []) ∧ SqL K H l xs ∧ xs.length ≤ 30 ∧
  ∀ (t : Addr) (H' : Hp), Same H H' → (SqL K H' t (sidesOf xs.length) ∨ SqT K H' t (sidesOf xs.length)) → Q (.ref t) H'
theorem cut_mem {xs : List V} {lo hi : Option Int} {v : V} (h : v ∈ cutV xs lo hi) : v ∈ xs := List.mem_of_mem_drop (List.mem_of_mem_take h)
def spLaw (K : PySem.W.Frag) : Sp := fun vs H Q _ => ∃ (a : Addr) (ns : List Int), vs = [.ref a] ∧ SqL K H a (ns.map V.int) ∧ ns.length ≤ 63 ∧ ∀ H', Q (.bl true) H'
theorem ok_law {f C : Addr} {fd : FuncData} {k : Nat} (F : FnP K "law" "law" s_law f fd) (m_range : mg "range" = none) (m_list : mg "list" = none) (M_C : MkO K C) (cl_C : Cls K C) (m_C : mg "Rests" = some (.ref C))
    (C_well : Cal P w K mg base CX0 "_law_well" k ["_law_cell"] spWell) (C_small : Cal P w K mg base CX0 "_law_small_right" k ["_law_well_here", "_law_made"] (spRight C)) (C_great : Cal P w K mg base CX0 "_law_great_right" k ["_law_well_here", "_law_made"] (spRight C))
    (D_sides : CalM P w K mg base CX0 C "sides" k ["self", "labels"] (spSides K C)) :
    FnOk P w K mg base CX0 (k + 1) f fd ["_law_script"] (spLaw K) := by
  obtain ⟨f_law_well, fd_law_well, G_law_well, b_law_well, m_law_well, k_law_well⟩ := C_well
  obtain ⟨f_law_small_right, fd_law_small_right, G_law_small_right, b_law_small_right, m_law_small_right, k_law_small_right⟩ := C_small
  obtain ⟨f_law_great_right, fd_law_great_right, G_law_great_right, b_law_great_right, m_law_great_right, k_law_great_right⟩ := C_great
  obtain ⟨f_sides, fd_sides, G_sides, b_sides, me_sides⟩ := D_sides
  refine F.ok sc_law (fun vs H Q E h => ?_) (fun cdv A outer s H vs Q E hr h => ?_)
  · obtain ⟨a, ns, rfl, _⟩ := h
    rfl
  · obtain ⟨a, ns, rfl, hS, hlen, q⟩ := h
    refine ⟨_, PSs.nox (pss_cons (ps_for PassesOwn.never rfl (pi_list (pe_op op_cat (pe_slice sl_list (pv 0) po_none (po_some pe_int)) (pe_lst (pa_cons pe_int pa_nil)))) (pg_name (i := 1) sc_law.nd rfl (.inl rfl))
      (pss_cons (ps_par (i := 2) (j := 3) rfl sc_law.nd rfl rfl (by decide) rfl rfl (pa_cons (pe_call G_law_well (hr.mono (by omega)) (by rfl) m_law_well k_law_well b_law_well .nil pass0 (pa_cons (pv 1) pa_nil)) (pa_cons (pe_make00 M_C (by rfl) m_C) pa_nil)) (by rfl))
      (pss_cons (ps_for PassesOwn.never rfl (pi_range1 (by rfl) m_range (pa_cons pe_int pa_nil)) (pg_name (i := 4) sc_law.nd rfl (.inl rfl))
        (pss_one (ps_if (PW.pt (pw_or (pt_not (pt_val (pe_call G_law_small_right (hr.mono (by omega)) (by rfl) m_law_small_right k_law_small_right b_law_small_right .nil pass0 (pa_cons (pv 2) (pa_cons (pv 3) pa_nil))))) (pw_or1 (pt_not (pt_val (pe_call G_law_great_right (hr.mono (by omega)) (by rfl) m_law_great_right k_law_great_right b_law_great_right .nil pass0 (pa_cons (pv 2) (pa_cons (pv 3) pa_nil)))))))) (pss_one (ps_ret pe_bl)) (pss_nil))))
      (pss_one (ps_if (pt_cmpR (op_neS hr.units) (pe_callTy call_list_of (by rfl) m_list (by decide +kernel) (pa_cons (pe_meth (pv 3) cl_C me_sides G_sides (hr.mono (by omega)) b_sides .nil pass0 (pa_cons (pe_lc (own := [("_law_k", 5)]) rfl sc_law.nd (pi_range1 (by rfl) m_range (pa_cons pe_int pa_nil)) (blkOk_by (N := n_law) (sc := defScope s_law) (by decide +kernel)) (fun _ _ _ _ _ => pg_name (i := 5) sc_law.nd rfl (.inl rfl)) (fun _ _ _ _ _ => pts_nil) (fun _ _ _ _ _ => (pe_tup (pa_cons pe_int (pa_cons (pv 5) pa_nil))))) pa_nil)) pa_nil)) (pe_lst (pa_cons pe_int (pa_cons pe_int (pa_cons pe_int (pa_cons pe_int (pa_cons pe_int pa_nil)))))) (nomark _)) (pss_one (ps_ret pe_bl)) (pss_nil))))))
    (pss_one (ps_ret pe_bl))), ?_⟩
    refine ⟨_, rfl, 4, rfl, a, _, rfl, hS, fun c nc => ⟨by show 1 ≤ sizeLine; decide, fun d nd => ?_⟩⟩
    have hc : (upd (upd H c (.lst (cutV (ns.map V.int) none (some 4)))) d (.lst [V.int 0])) c = some (.lst (cutV (ns.map V.int) none (some 4))) := by
      rw [upd_ne (ne_of_none upd_same nd), upd_same]
    have hl : (cutV (ns.map V.int) none (some 4)).length ≤ 63 := Nat.le_trans (cutV_length ..) (by rw [List.length_map]; exact hlen)
    refine ⟨c, d, _, _, rfl, rfl, hc, upd_same, Nat.le_of_lt (small1000 (by rw [List.length_singleton]; omega)), fun e ne => ?_⟩
    generalize hX : cutV (ns.map V.int) none (some 4) ++ [V.int 0] = X
    have hXi : ∀ v ∈ X, ∃ z : Int, v = .int z := fun v hv => by
      rw [← hX] at hv
      rcases List.mem_append.mp hv with h1 | h1
      · obtain ⟨z, _, rfl⟩ := List.mem_map.mp (cut_mem h1)
        exact ⟨z, rfl⟩
      · exact ⟨0, List.mem_singleton.mp h1⟩
    generalize upd (upd H c (.lst (cutV (ns.map V.int) none (some 4)))) d (.lst [V.int 0]) = H1 at ne
    refine ⟨e, rfl, ⟨X, .inl (.inl upd_same)⟩, for_list (K := K) (a := e) (xs := X) (fun i σ H' => ∃ v1 v2 v3 v4 : Option V, σ = [some (.ref a), v1, v2, v3, v4, none] ∧ H' e = some (.lst X))
      ⟨none, none, none, none, rfl, upd_same⟩ (fun i σ H' _ ⟨_, _, _, _, _, he⟩ => .inl (.inl he)) ?_ ?_⟩
    · rintro i y σ H2 hi ⟨v1, v2, v3, v4, rfl, he⟩
      obtain ⟨z, rfl⟩ := hXi y (List.mem_of_getElem? hi)
      refine ⟨_, rfl, z, rfl, fun p np => fun m dx nm ndx hne => ⟨_, _, rfl, ?_⟩⟩
      have hpm : p ≠ m := ne_of_none upd_same nm
      have hpd : p ≠ dx := ne_of_none upd_same ndx
      have hp : (upd (upd (upd H2 p (.lst [.int z, .int 0])) dx (.own m)) m (.ins C dx [])) p = some (.lst [.int z, .int 0]) := by
        rw [upd_ne hpm, upd_ne hpd, upd_same]
      have hm : (upd (upd (upd H2 p (.lst [.int z, .int 0])) dx (.own m)) m (.ins C dx [])) m = some (.ins C dx []) := upd_same
      have hpe : e ≠ p := ne_of_none he np
      have he2 : (upd (upd (upd H2 p (.lst [.int z, .int 0])) dx (.own m)) m (.ins C dx [])) e = some (.lst X) := by
        have q0 := same_upd (o := .lst [.int z, .int 0]) np _ _ he
        rw [upd_ne (ne_of_none q0 nm), upd_ne (ne_of_none q0 ndx)]
        exact q0
      generalize upd (upd (upd H2 p (.lst [.int z, .int 0])) dx (.own m)) m (.ins C dx []) = H3 at hp hm he2
      have hmp : m ≠ p := Ne.symm hpm
      refine ⟨_, rfl, by decide, by decide, for_range (n := 6) (fun _ σ H' => ∃ (v4 : Option V) (x' c' : Int), σ = [some (.ref a), some (.int z), some (.ref p), some (.ref m), v4, none] ∧ Kp p H3 H' ∧ H' p = some (.lst [.int x', .int c'])) ⟨_, _, _, rfl, fun _ _ _ e => e, hp⟩ ?_ ?_⟩
      · rintro j σ H4 _ ⟨v4, x', c', rfl, k4, hp4⟩
        refine ⟨_, rfl, _, rfl, p, m, dx, x', c', rfl, hp4, k4 _ _ hmp hm, fun H5 x2 c2 k5 hp5 => ⟨_, rfl, ite2 (fun e => absurd e (by decide)) (fun _ => ?_)⟩⟩
        refine ⟨_, rfl, _, rfl, p, m, dx, x2, c2, rfl, hp5, k5 _ _ hmp (k4 _ _ hmp hm), fun H6 x3 c3 k6 hp6 => ⟨_, rfl, ite2 (fun e => absurd e (by decide)) (fun _ => ?_)⟩⟩
        exact ⟨_, _, _, rfl, (k4.trans k5).trans k6, hp6⟩
      · rintro σ H4 ⟨v4, x', c', rfl, k4, hp4⟩
        have hm4 := k4 _ _ hmp hm
        have he4 := k4 _ _ hpe he2
        refine ⟨_, rfl, m, dx, [], rfl, hm4, rfl, _, rfl, by decide, by decide, fun D nD => ?_⟩
        refine lc_range (lo := 0) (n := 5) (fun j H' => Same H4 H' ∧ ∃ xs : List V, H' D = some (.lst xs) ∧ xs.length = j) ⟨same_upd nD, [], upd_same, rfl⟩ ?_ ?_
        · rintro j H5 hj ⟨s5, xs, hD, hx⟩
          refine ⟨rfl, _, rfl, by show 2 ≤ sizeLine; decide, fun T nT => ⟨_, same_upd nT _ _ hD, small1000 (by omega), same_put (s5.trans (same_upd nT)) nD, _, upd_same, ?_⟩⟩
          rw [List.length_append, hx]
          rfl
        · rintro H5 ⟨s5, xs, hD, hx⟩
          refine ⟨m, dx, D, xs, rfl, s5 _ _ hm4, .inl (.inl hD), by omega, fun t H6 s6 ht => ⟨t, _, rfl, ht, fun l nl => ?_⟩⟩
          have s7 := s6.trans (same_upd (o := .lst (sidesOf xs.length)) nl)
          have hlL : (upd H6 l (.lst (sidesOf xs.length))) l = some (.lst (sidesOf xs.length)) := upd_same
          generalize upd H6 l (.lst (sidesOf xs.length)) = H7 at s7 hlL
          rw [hx] at hlL
          refine ⟨by show 5 ≤ sizeLine; decide, fun l2 nl2 => ⟨l, l2, _, rfl, rfl, .inl (.inl (same_upd nl2 _ _ hlL)), .inl (.inl upd_same), fun v hv => ?_, _, rfl, ite2 (fun e => absurd e (by decide)) (fun _ => ⟨_, _, _, _, rfl, ?_⟩)⟩⟩
          · obtain ⟨i, _, rfl⟩ := List.mem_map.mp hv
            exact okV_int _
          · exact same_upd nl2 _ _ (s7 _ _ (s5 _ _ he4))
    · rintro σ H2 ⟨v1, v2, v3, v4, rfl, he⟩
      exact q _
end
end K13
set_option Elab.async false
set_option linter.all false
set_option maxRecDepth 100000
set_option maxHeartbeats 2000000
namespace K13
open PySem PySem.Spec PyProof.Rows L2 CM
section
variable {P : Program} {w : World} {K : PySem.W.Frag} {mg : Str → Option Value} {base : Heap}
/-! ### the methods -/
theorem fmod_small (u v : Int) (h : v ≠ 0) : (u.fmod v).natAbs < v.natAbs := by
  rcases Int.lt_or_gt_of_ne h with n | p
  · have e : u.fmod v = -((-u).fmod (-v)) := by
      rw [Int.neg_fmod_neg]
      omega
    have h1 := Int.fmod_nonneg_of_pos (-u) (show 0 < -v by omega)
    have h2 := Int.fmod_lt_of_pos (-u) (show 0 < -v by omega)
    rw [e]
    omega
  · have h1 := Int.fmod_nonneg_of_pos u p
    have h2 := Int.fmod_lt_of_pos u p
    omega
theorem gcd_fmod (u v : Int) : Int.gcd v (u.fmod v) = Int.gcd u v := by
  rw [Int.fmod_def, Int.gcd_sub_mul_left_right, Int.gcd_comm]
def spGcd : Sp := fun vs H Q _ => ∃ x y : Int, vs = [.int x, .int y] ∧ Q (.int (Int.gcd x y)) H
theorem ok_gcd {f : Addr} {fd : FuncData} {k : Nat} (F : FnP K "common_divisor" "common_divisor" s_common_divisor f fd) (m_abs : mg "abs" = none) : FnOk P w K mg base CX0 (k + 1) f fd ["one", "other"] spGcd := by
  refine F.ok sc_common_divisor (fun vs H Q E h => ?_) (fun cdv A outer s H vs Q E hr h => ?_)
  · obtain ⟨x, y, rfl, _⟩ := h
    rfl
  · obtain ⟨x, y, rfl, q⟩ := h
    refine ⟨_, PSs.nox (pss_cons (ps_while PassesOwn.never (pt_cmpR op_ne (pv 1) pe_int (nomark _)) (pss_one (ps_par (i := 0) (j := 1) rfl sc_common_divisor.nd rfl rfl (by decide) rfl rfl (pa_cons (pv 1) (pa_cons (pe_op op_modN (pv 0) (pv 1)) pa_nil)) (by rfl))))
    (pss_one (ps_ret (pe_callB call_abs (by rfl) m_abs (by decide +kernel) (pa_cons (pv 0) pa_nil))))), ?_⟩
    refine ⟨fun d σ H' => H' = H ∧ ∃ u v : Int, σ = [some (.int u), some (.int v)] ∧ v.natAbs = d ∧ Int.gcd u v = Int.gcd x y, ⟨_, rfl, x, y, rfl, rfl, rfl⟩, ?_⟩
    rintro d σ H1 ⟨rfl, u, v, rfl, hd, g⟩
    refine ⟨_, rfl, rfl, _, rfl, ite2 (fun e => ?_) (fun e => ?_)⟩
    · have e1 : v ≠ 0 := fun z => by
        rw [z] at e
        exact absurd e (by simp)
      refine ⟨fun σ' H' => H' = H1 ∧ σ' = [some (.int v), some (.int (u.fmod v))], ?_, ?_⟩
      · rintro σ' H' ⟨rfl, rfl⟩
        exact ⟨_, by rw [← hd]; exact fmod_small u v e1, rfl, v, u.fmod v, rfl, rfl, by rw [gcd_fmod]; exact g⟩
      · exact ⟨_, rfl, _, rfl, _, rfl, u, v, rfl, rfl, e1, _, _, rfl, rfl, rfl⟩
    · have e1 : v = 0 := by
        refine Classical.byContradiction fun z => e ?_
        have z2 : ¬ V.int v = V.int 0 := fun z3 => z (V.int.inj z3)
        simp [z2]
      subst e1
      rw [Int.gcd_zero_right] at g
      refine ⟨_, rfl, u, rfl, ?_⟩
      have ab : (if u < 0 then -u else u) = (u.natAbs : Int) := by
        split <;> omega
      first
        | (rw [ab, g]; exact q)
        | (rw [g]; exact q)
theorem ok_own {f : Addr} {fd : FuncData} {k : Nat} (F : FnP K "own" "Rests.own" s_Rests_own f fd) : FnOk P w K mg base CX0 (k + 1) f fd ["self", "key"] spOwn := by
  refine F.ok sc_Rests_own (fun vs H Q E h => ?_) (fun cdv A outer s H vs Q E hr h => ?_)
  · obtain ⟨m, n, rfl, _⟩ := h
    rfl
  · obtain ⟨m, n, rfl, q⟩ := h
    refine ⟨_, pss_one (ps_ret (pe_tup (pa_cons pe_int (pa_cons (pv 1) pa_nil)))), ?_⟩
    exact ⟨_, rfl, by show 2 ≤ sizeLine; decide, fun t nt => q t _ (same_upd nt) upd_same⟩
theorem ok_rest {f : Addr} {fd : FuncData} {k : Nat} (F : FnP K "common_rest" "common_rest" s_common_rest f fd) (C_common_divisor : Cal P w K mg base CX0 "common_divisor" k ["one", "other"] spGcd) :
    FnOk P w K mg base CX0 (k + 1) f fd ["one", "other"] (fun vs H Q _ => ∃ (p r : Addr) (a ra b rb : Int), vs = [.ref p, .ref r] ∧ Tup2 H p a ra ∧ Tup2 H r b rb ∧ ∀ (t : Addr) (H' : Hp), Same H H' → Tup2 H' t (jm a ra b rb) (jr a ra b rb) → Q (.ref t) H') := by
  obtain ⟨f_common_divisor, fd_common_divisor, G_common_divisor, b_common_divisor, m_common_divisor, k_common_divisor⟩ := C_common_divisor
  refine F.ok sc_common_rest (fun vs H Q E h => ?_) (fun cdv A outer s H vs Q E hr h => ?_)
  · obtain ⟨p, r, a, ra, b, rb, rfl, _⟩ := h
    rfl
  · obtain ⟨p, r, a, ra, b, rb, rfl, hp, hr2, q⟩ := h
    refine ⟨_, PSs.nox (pss_cons (ps_asg (pv 0) (pg_tup rfl (pgs_cons (pg_name (i := 2) sc_common_rest.nd rfl (.inl rfl)) (pgs_cons (pg_name (i := 3) sc_common_rest.nd rfl (.inl rfl)) (pgs_nil)))))
    (pss_cons (ps_set (i := 4) sc_common_rest.nd rfl (.inl rfl) (pe_call G_common_divisor (hr.mono (by omega)) (by rfl) m_common_divisor k_common_divisor b_common_divisor .nil pass0 (pa_cons (pe_call G_common_divisor (hr.mono (by omega)) (by rfl) m_common_divisor k_common_divisor b_common_divisor .nil pass0 (pa_cons (pv 2) (pa_cons (pe_ix ix_tup (pv 1) pe_int (fun _ _ => rfl)) pa_nil))) (pa_cons (pe_op op_sub (pv 3) (pe_ix ix_tup (pv 1) pe_int (fun _ _ => rfl))) pa_nil))))
    (pss_cons (ps_if (pt_cmpR op_eq (pv 4) pe_int (nomark _)) (pss_one (ps_ret (pe_tup (pa_cons pe_int (pa_cons (pv 3) pa_nil))))) (pss_nil))
    (pss_one (ps_ret (pe_tup (pa_cons (pv 4) (pa_cons (pe_op op_mod (pv 3) (pv 4)) pa_nil)))))))), ?_⟩
    refine ⟨_, rfl, p, _, rfl, .inl (.inl hp), rfl, _, _, rfl, _, _, rfl, rfl, ?_⟩
    refine ⟨_, rfl, _, rfl, r, _, 0, _, rfl, rfl, .inl (.inl hr2), rfl, a, b, rfl, ?_⟩
    refine ⟨_, rfl, _, rfl, r, _, 1, _, rfl, rfl, .inl (.inl hr2), rfl, ra, rb, rfl, rfl, _, _, rfl, ?_⟩
    refine ⟨_, rfl, rfl, _, rfl, ite2 (fun e => ?_) (fun e => ?_)⟩
    · have e1 : jm a ra b rb = 0 := V.int.inj (of_decide_eq_true e)
      refine ⟨_, rfl, by show 2 ≤ sizeLine; decide, fun t nt => q t _ (same_upd nt) ?_⟩
      unfold Tup2
      rw [upd_same, e1]
      unfold jr
      rw [if_pos e1]
    · have e1 : jm a ra b rb ≠ 0 := fun z => e (decide_eq_true (by rw [← z]; rfl))
      have e2 : 0 < jm a ra b rb := by
        have : 0 ≤ jm a ra b rb := Int.natCast_nonneg _
        omega
      refine ⟨_, rfl, _, rfl, _, rfl, ra, _, rfl, rfl, e2, by show 2 ≤ sizeLine; decide, fun t nt => q t _ (same_upd nt) ?_⟩
      unfold Tup2
      rw [upd_same]
      unfold jr
      rw [if_neg e1]
      rfl
theorem ok_join {f : Addr} {fd : FuncData} {k : Nat} (F : FnP K "join" "Rests.join" s_Rests_join f fd) (C_common_rest : Cal P w K mg base CX0 "common_rest" k ["one", "other"] (fun vs H Q _ => ∃ (p r : Addr) (a ra b rb : Int), vs = [.ref p, .ref r] ∧ Tup2 H p a ra ∧ Tup2 H r b rb ∧ ∀ (t : Addr) (H' : Hp), Same H H' → Tup2 H' t (jm a ra b rb) (jr a ra b rb) → Q (.ref t) H')) :
    FnOk P w K mg base CX0 (k + 1) f fd ["self", "one", "other"] spJoin := by
  obtain ⟨f_common_rest, fd_common_rest, G_common_rest, b_common_rest, m_common_rest, k_common_rest⟩ := C_common_rest
  refine F.ok sc_Rests_join (fun vs H Q E h => ?_) (fun cdv A outer s H vs Q E hr h => ?_)
  · obtain ⟨m, p, r, a, ra, b, rb, n, rfl, _⟩ := h
    rfl
  · obtain ⟨m, p, r, a, ra, b, rb, n, rfl, hp, hr2, _, _, _, q⟩ := h
    refine ⟨_, pss_one (ps_ret (pe_call G_common_rest (hr.mono (by omega)) (by rfl) m_common_rest k_common_rest b_common_rest .nil pass0 (pa_cons (pv 1) (pa_cons (pv 2) pa_nil)))), ?_⟩
    exact ⟨_, rfl, _, rfl, p, r, a, ra, b, rb, rfl, hp, hr2, q⟩
theorem ok_consistent {f : Addr} {fd : FuncData} {k : Nat} (F : FnP K "consistent" "Rests.consistent" s_Rests_consistent f fd) (C_common_divisor : Cal P w K mg base CX0 "common_divisor" k ["one", "other"] spGcd) :
    FnOk P w K mg base CX0 (k + 1) f fd ["self", "label", "question"] spCons := by
  obtain ⟨f_common_divisor, fd_common_divisor, G_common_divisor, b_common_divisor, m_common_divisor, k_common_divisor⟩ := C_common_divisor
  refine F.ok sc_Rests_consistent (fun vs H Q E h => ?_) (fun cdv A outer s H vs Q E hr h => ?_)
  · obtain ⟨m, p, r, a, ra, b, s, n, rfl, _⟩ := h
    rfl
  · obtain ⟨m, p, r, a, ra, b, s, n, rfl, hp, hr2, _, b0, _, _, _, _, q⟩ := h
    refine ⟨_, PSs.nox (pss_cons (ps_set (i := 3) sc_Rests_consistent.nd rfl (.inl rfl) (pe_call G_common_divisor (hr.mono (by omega)) (by rfl) m_common_divisor k_common_divisor b_common_divisor .nil pass0 (pa_cons (pe_ix ix_tup (pv 1) pe_int (fun _ _ => rfl)) (pa_cons (pe_ix ix_tup (pv 2) pe_int (fun _ _ => rfl)) pa_nil))))
    (pss_one (ps_ret (pe_cmpR op_eq (pe_op op_mod (pe_op op_sub (pe_ix ix_tup (pv 1) pe_int (fun _ _ => rfl)) (pe_ix ix_tup (pv 2) pe_int (fun _ _ => rfl))) (pv 3)) pe_int (nomark _))))), ?_⟩
    refine ⟨_, rfl, p, _, 0, _, rfl, rfl, .inl (.inl hp), rfl, _, rfl, r, _, 0, _, rfl, rfl, .inl (.inl hr2), rfl, a, b, rfl, ?_⟩
    have g0 : (0 : Int) < (Int.gcd a b : Int) := by
      have : 0 < Int.gcd a b := Int.gcd_pos_of_ne_zero_right a (by omega)
      omega
    refine ⟨_, rfl, p, _, 1, _, rfl, rfl, .inl (.inl hp), rfl, _, rfl, r, _, 1, _, rfl, rfl, .inl (.inl hr2), rfl, ra, s, rfl, rfl, _, rfl, ra - s, _, rfl, rfl, g0, rfl, ?_⟩
    have e : decide (V.int ((ra - s) % (Int.gcd a b : Int)) = V.int 0) = decide ((Int.gcd a b : Int) ∣ ra - s) :=
      decide_eq_decide.mpr ⟨fun z => Int.dvd_of_emod_eq_zero (V.int.inj z), fun z => by rw [Int.emod_eq_zero_of_dvd z]⟩
    have z := q H (Same.refl H)
    rw [← e] at z
    exact z
theorem ok_matches {f : Addr} {fd : FuncData} {k : Nat} (F : FnP K "matches" "Rests.matches" s_Rests_matches f fd) : FnOk P w K mg base CX0 (k + 1) f fd ["self", "key", "question"] spMat := by
  refine F.ok sc_Rests_matches (fun vs H Q E h => ?_) (fun cdv A outer s H vs Q E hr h => ?_)
  · obtain ⟨m, r, n, b, s, rfl, _⟩ := h
    rfl
  · obtain ⟨m, r, n, b, s, rfl, hr2, b0, _, _, q⟩ := h
    refine ⟨_, pss_one (ps_ret (pe_cmpR op_eq (pe_op op_mod (pv 1) (pe_ix ix_tup (pv 2) pe_int (fun _ _ => rfl))) (pe_ix ix_tup (pv 2) pe_int (fun _ _ => rfl)) (nomark _))), ?_⟩
    refine ⟨_, rfl, _, rfl, r, _, 0, _, rfl, rfl, .inl (.inl hr2), rfl, n, b, rfl, rfl, b0, _, rfl, r, _, 1, _, rfl, rfl, .inl (.inl hr2), rfl, rfl, ?_⟩
    have e : decide (V.int (n % b) = V.int s) = decide (n % b = s) := decide_eq_decide.mpr ⟨fun z => V.int.inj z, fun z => by rw [z]⟩
    have z := q H (Same.refl H)
    rw [← e] at z
    exact z
theorem ok_penalty {C f : Addr} {fd : FuncData} {k : Nat} (F : FnP K "penalty" "Rests.penalty" s_Rests_penalty f fd) (C_common_rest : Cal P w K mg base CX0 "common_rest" k ["one", "other"] (fun vs H Q _ => ∃ (p r : Addr) (a ra b rb : Int), vs = [.ref p, .ref r] ∧ Tup2 H p a ra ∧ Tup2 H r b rb ∧ ∀ (t : Addr) (H' : Hp), Same H H' → Tup2 H' t (jm a ra b rb) (jr a ra b rb) → Q (.ref t) H')) :
    FnOk P w K mg base CX0 (k + 1) f fd ["self", "label", "key"] (spPen C) := by
  obtain ⟨f_common_rest, fd_common_rest, G_common_rest, b_common_rest, m_common_rest, k_common_rest⟩ := C_common_rest
  refine F.ok sc_Rests_penalty (fun vs H Q E h => ?_) (fun cdv A outer s H vs Q E hr h => ?_)
  · obtain ⟨m, dx, p, a, ra, z, n, rfl, _⟩ := h
    rfl
  · obtain ⟨m, dx, p, a, ra, z, n, rfl, hm, hp, _, _, _, q⟩ := h
    refine ⟨_, pss_one (ps_ret (pe_ifExp (pt_cmpR (EQ.op_eqI2 hr.units) (pe_call G_common_rest (hr.mono (by omega)) (by rfl) m_common_rest k_common_rest b_common_rest .nil pass0 (pa_cons (pv 1) (pa_cons (pe_tup (pa_cons pe_int (pa_cons (pv 2) pa_nil))) pa_nil))) (pv 1) (nomark _)) pe_int pe_int)), ?_⟩
    refine ⟨_, rfl, _, rfl, by show 2 ≤ sizeLine; decide, fun t nt => ⟨p, t, a, ra, 0, z, rfl, same_upd nt _ _ hp, upd_same, fun u H2 s2 hu => ?_⟩⟩
    have s3 := (same_upd (o := .tup [V.int 0, V.int z]) nt).trans s2
    have z2 := q H2 s3
    refine ⟨_, rfl, u, p, _, _, _, _, rfl, rfl, .inl (.inl hu), .inl (.inl (s3 _ _ hp)), _, rfl, ite2 (fun e => ?_) (fun e => ?_)⟩
    · rw [if_pos (of_decide_eq_true e)] at z2
      exact z2
    · rw [if_neg (fun h => e (decide_eq_true h))] at z2
      exact z2
theorem sides_eq {n : Nat} (h : n ≤ 30) : (List.replicate (((n : Int) / 2).toNat) [V.int 0]).flatten ++ (List.replicate (((n : Int) - (n : Int) / 2).toNat) [V.int 1]).flatten = sidesOf n := by
  have all : ∀ i : Fin 31, (List.replicate (((i.val : Int) / 2).toNat) [V.int 0]).flatten ++ (List.replicate (((i.val : Int) - (i.val : Int) / 2).toNat) [V.int 1]).flatten = sidesOf i.val := by decide +kernel
  exact all ⟨n, by omega⟩
theorem ok_sides {C f : Addr} {fd : FuncData} {k : Nat} (F : FnP K "sides" "Kind.sides" s_Kind_sides f fd) (m_len : mg "len" = none) : FnOk P w K mg base CX0 (k + 1) f fd ["self", "labels"] (spSides K C) := by
  refine F.ok sc_Kind_sides (fun vs H Q E h => ?_) (fun cdv A outer s H vs Q E hr h => ?_)
  · obtain ⟨m, dx, l, xs, rfl, _⟩ := h
    rfl
  · obtain ⟨m, dx, l, xs, rfl, hm, hl, hn, q⟩ := h
    refine ⟨_, PSs.nox (pss_cons (ps_set (i := 2) sc_Kind_sides.nd rfl (.inl rfl) (pe_op op_fdiv (pe_callB call_len_seq (by rfl) m_len PySem.boot_len (pa_cons (pv 1) pa_nil)) pe_int))
    (pss_one (ps_ret (pe_op op_cat (pe_op op_rep (pe_lst (pa_cons pe_int pa_nil)) (pv 2)) (pe_op op_rep (pe_lst (pa_cons pe_int pa_nil)) (pe_op op_sub (pe_callB call_len_seq (by rfl) m_len PySem.boot_len (pa_cons (pv 1) pa_nil)) (pv 2))))))), ?_⟩
    have sz : ∀ {z : V} {i : Int}, i ≤ 30 → [z].length * i.toNat ≤ sizeLine := fun {z i} h => by
      rw [List.length_singleton, Nat.one_mul]
      exact Nat.le_of_lt (small1000 (by omega))
    refine ⟨_, rfl, l, xs, rfl, .inl hl, _, 2, rfl, rfl, ⟨by decide, by decide⟩, ?_⟩
    refine ⟨by show 1 ≤ sizeLine; decide, fun a na => ⟨_, rfl, a, _, [.int 0], rfl, rfl, upd_same, by omega, by omega, sz (by omega), fun b nb => ?_⟩⟩
    have s1 := (same_upd (o := .lst [.int 0]) na).trans (same_upd (o := .lst (List.replicate (((xs.length : Int) / 2).toNat) [V.int 0]).flatten) nb)
    have hb : (upd (upd H a (.lst [.int 0])) b (.lst (List.replicate (((xs.length : Int) / 2).toNat) [V.int 0]).flatten)) b = some (.lst (List.replicate (((xs.length : Int) / 2).toNat) [V.int 0]).flatten) := upd_same
    generalize upd (upd H a (.lst [.int 0])) b (.lst (List.replicate (((xs.length : Int) / 2).toNat) [V.int 0]).flatten) = G at s1 hb
    refine ⟨by show 1 ≤ sizeLine; decide, fun d nd => ⟨_, rfl, l, xs, rfl, .inl ((s1.trans (same_upd nd)).seq hl), _, rfl, _, _, rfl, rfl, d, _, [.int 1], rfl, rfl, upd_same, by omega, by omega, sz (by omega), fun g ng => ?_⟩⟩
    have s2 := (same_upd (o := .lst [.int 1]) nd).trans (same_upd (o := .lst (List.replicate (((xs.length : Int) - (xs.length : Int) / 2).toNat) [V.int 1]).flatten) ng)
    refine ⟨b, g, _, _, rfl, rfl, s2 _ _ hb, upd_same, ?_, fun t nt => q t _ (s1.trans (s2.trans (same_upd nt))) (.inl (.inl (.inl ?_)))⟩
    · have e := congrArg List.length (sides_eq hn)
      rw [List.length_append, sidesOf, List.length_map, List.length_range] at e
      rw [e]
      exact Nat.le_of_lt (small1000 (by omega))
    · rw [upd_same, sides_eq hn]
end
end K13
set_option Elab.async false
set_option linter.all false
set_option maxRecDepth 100000
set_option maxHeartbeats 2000000
namespace K13
open PySem PySem.Spec PyProof.Rows L2 CM
section
variable {P : Program} {w : World} {K : PySem.W.Frag} {mg : Str → Option Value} {base : Heap}
/-! ### the head -/
def d_Kind_sides : He.DefD := ⟨("Kind", some "sides"), "sides", "Kind.sides", defArgs s_Kind_sides, defBody s_Kind_sides, defScope s_Kind_sides, [], []⟩
def d_Rests_own : He.DefD := ⟨("Rests", some "own"), "own", "Rests.own", defArgs s_Rests_own, defBody s_Rests_own, defScope s_Rests_own, [], []⟩
def d_Rests_join : He.DefD := ⟨("Rests", some "join"), "join", "Rests.join", defArgs s_Rests_join, defBody s_Rests_join, defScope s_Rests_join, [], []⟩
def d_Rests_consistent : He.DefD := ⟨("Rests", some "consistent"), "consistent", "Rests.consistent", defArgs s_Rests_consistent, defBody s_Rests_consistent, defScope s_Rests_consistent, [], []⟩
def d_Rests_matches : He.DefD := ⟨("Rests", some "matches"), "matches", "Rests.matches", defArgs s_Rests_matches, defBody s_Rests_matches, defScope s_Rests_matches, [], []⟩
def d_Rests_penalty : He.DefD := ⟨("Rests", some "penalty"), "penalty", "Rests.penalty", defArgs s_Rests_penalty, defBody s_Rests_penalty, defScope s_Rests_penalty, [], []⟩
def d_common_rest : He.DefD := ⟨("common_rest", none), "common_rest", "common_rest", defArgs s_common_rest, defBody s_common_rest, defScope s_common_rest, [], []⟩
def d_common_divisor : He.DefD := ⟨("common_divisor", none), "common_divisor", "common_divisor", defArgs s_common_divisor, defBody s_common_divisor, defScope s_common_divisor, [], []⟩
def d_law_well : He.DefD := ⟨("_law_well", none), "_law_well", "_law_well", defArgs s_law_well, defBody s_law_well, defScope s_law_well, [], []⟩
def d_law_draw : He.DefD := ⟨("_law_draw", none), "_law_draw", "_law_draw", defArgs s_law_draw, defBody s_law_draw, defScope s_law_draw, [], []⟩
def d_law_one : He.DefD := ⟨("_law_one", none), "_law_one", "_law_one", defArgs s_law_one, defBody s_law_one, defScope s_law_one, [], []⟩
def d_law_divisor : He.DefD := ⟨("_law_divisor", none), "_law_divisor", "_law_divisor", defArgs s_law_divisor, defBody s_law_divisor, defScope s_law_divisor, [], []⟩
def d_law_holds : He.DefD := ⟨("_law_holds", none), "_law_holds", "_law_holds", defArgs s_law_holds, defBody s_law_holds, defScope s_law_holds, [], []⟩
def d_law_tag : He.DefD := ⟨("_law_tag", none), "_law_tag", "_law_tag", defArgs s_law_tag, defBody s_law_tag, defScope s_law_tag, [], []⟩
def d_law_members : He.DefD := ⟨("_law_members", none), "_law_members", "_law_members", defArgs s_law_members, defBody s_law_members, defScope s_law_members, [], []⟩
def d_law_small_right : He.DefD := ⟨("_law_small_right", none), "_law_small_right", "_law_small_right", defArgs s_law_small_right, defBody s_law_small_right, defScope s_law_small_right, [], []⟩
def d_law_great_right : He.DefD := ⟨("_law_great_right", none), "_law_great_right", "_law_great_right", defArgs s_law_great_right, defBody s_law_great_right, defScope s_law_great_right, [], []⟩
def d_law : He.DefD := ⟨("law", none), "law", "law", defArgs s_law, defBody s_law, defScope s_law, [], []⟩
def fn : List He.DefD := [d_Kind_sides, d_Rests_own, d_Rests_join, d_Rests_consistent, d_Rests_matches, d_Rests_penalty, d_common_rest, d_common_divisor, d_law_well, d_law_draw, d_law_one, d_law_divisor, d_law_holds, d_law_tag, d_law_members, d_law_small_right, d_law_great_right, d_law]
def fa : List He.Fa := [.glo "common_rest", .glo "common_divisor", .glo "_law_well", .glo "_law_draw", .glo "_law_one", .glo "_law_divisor", .glo "_law_holds", .glo "_law_tag", .glo "_law_members", .glo "_law_small_right", .glo "_law_great_right", .glo "law", .glo "Rests", .cls "Rests", .meth "Rests" "own", .meth "Rests" "join", .meth "Rests" "consistent", .meth "Rests" "matches", .meth "Rests" "penalty", .meth "Rests" "sides", .glo "Kind", .cls "Kind", .meth "Kind" "sides", .free "int", .free "len", .free "range", .free "abs", .free "list", .free "set", .free "super"]
def loose : List PySem.Str := ["GroveError", "NotGiven", "Kind", "Rests", "common_rest", "common_divisor", "_law_well", "_law_draw", "_law_one", "_law_divisor", "_law_holds", "_law_tag", "_law_members", "_law_small_right", "_law_great_right"]
def ex (K : PySem.W.Frag) : Bool := mkoB K (He.ga K "Rests") && SU.supB "/claim/cut.py" K (He.ga K "Rests") (He.ga K "Rests") (He.ma K (He.ga K "Kind") "sides") "sides" "labels"
abbrev R : PySem.W.OpenRow := PySem.W.OpenLaw.row PySem.Challenge.rw_kindgrove_k13_remainders
abbrev hk : PySem.W.Hook := OX.hookY 6 fa fn ex
def ob (s : PySem.W.SharedT) : He.AlX := OX.obsY 6 fa fn ex (HandSHeadRun.getT s)
theorem ob_eq (s : PySem.W.SharedT) : ob s = hk.obs s.abs := OX.obsY_eq (HandSHeadRun.getT_eq s)
theorem run (w : World) : HandSHeadRun.RunEq R (PySem.W.view R.prog [19]) hk ob 6000 loose w := by
  intro os
  kernel_rfl
theorem glo {h : Heap} (X : K.In h) (G : h.Ns mainGlobals mg) (c : He.SaysD fa fn K) {x : Str} (hx : He.Fa.glo x ∈ fa) : mg x = some (.ref (He.ga K x)) := He.glo_ok X G (c.facts hx)
theorem fre {h : Heap} (X : K.In h) (G : h.Ns mainGlobals mg) (c : He.SaysD fa fn K) {x : Str} (hx : He.Fa.free x ∈ fa) : mg x = none := He.free_ok X G (c.facts hx)
theorem cal {h : Heap} (X : K.In h) (G : h.Ns mainGlobals mg) (c : He.SaysD fa fn K) {x qn : Str} {st : Stmt} {fd : FuncData} {k : Nat} {ps : List Str} {sp : Sp} (F : FnP K x qn st (He.ga K x) fd)
    (hx : He.Fa.glo x ∈ fa) (ok : FnOk P w K mg base CX0 k (He.ga K x) fd ps sp)
    (hb : ∀ (kV doc pm : Value) (an : Option Addr) (cdv ct : Value) (us : List Value), us.length = ps.length → bindArgs (PySem.W.fnOf x qn (defArgs st) (defBody st) (defScope st) .none kV doc pm an cdv ct) ⟨us, []⟩ = pure (ps.zip us)) : Cal P w K mg base CX0 x k ps sp :=
  ⟨He.ga K x, fd, ok, F.bindsN hb, glo X G c hx, F.kp⟩
theorem calm (c : He.SaysD fa fn K) {C m qn : Str} {st : Stmt} {fd : FuncData} {k : Nat} {ps : List Str} {sp : Sp} (F : FnP K m qn st (He.ma K (He.ga K C) m) fd)
    (hx : He.Fa.meth C m ∈ fa) (ok : FnOk P w K mg base CX0 k (He.ma K (He.ga K C) m) fd ps sp)
    (hb : ∀ (kV doc pm : Value) (an : Option Addr) (cdv ct : Value) (us : List Value), us.length = ps.length → bindArgs (PySem.W.fnOf m qn (defArgs st) (defBody st) (defScope st) .none kV doc pm an cdv ct) ⟨us, []⟩ = pure (ps.zip us)) : CalM P w K mg base CX0 (He.ga K C) m k ps sp :=
  ⟨He.ma K (He.ga K C) m, fd, ok, F.bindsN hb, He.meth_ok (c.facts hx)⟩
theorem facts {h : Heap} {f : Addr} (X : K.In h) (G : h.Ns mainGlobals mg) (hfa : mg ("law" : Str) = some (.ref f)) (c : He.SaysD fa fn K) (m : ex K = true) (O : SU.SupOk "/claim/cut.py" P) :
    ∃ fd : FuncData, (∀ (s : Shared) (v : Value), BindsTo s fd ⟨[v], []⟩ [("_law_script", v)]) ∧ ∀ base : Heap, K.In base → base.Ns mainGlobals mg → FnOk P w K mg base CX0 9 f fd ["_law_script"] (spLaw K) := by
  obtain ⟨fd_law, F_law⟩ : ∃ fd, FnP K "law" "law" s_law (He.ga K "law") fd := c.def_ 17 (d := d_law) rfl
  obtain ⟨fd_law_well, F_law_well⟩ : ∃ fd, FnP K "_law_well" "_law_well" s_law_well (He.ga K "_law_well") fd := c.def_ 8 (d := d_law_well) rfl
  obtain ⟨fd_law_draw, F_law_draw⟩ : ∃ fd, FnP K "_law_draw" "_law_draw" s_law_draw (He.ga K "_law_draw") fd := c.def_ 9 (d := d_law_draw) rfl
  obtain ⟨fd_law_one, F_law_one⟩ : ∃ fd, FnP K "_law_one" "_law_one" s_law_one (He.ga K "_law_one") fd := c.def_ 10 (d := d_law_one) rfl
  obtain ⟨fd_law_divisor, F_law_divisor⟩ : ∃ fd, FnP K "_law_divisor" "_law_divisor" s_law_divisor (He.ga K "_law_divisor") fd := c.def_ 11 (d := d_law_divisor) rfl
  obtain ⟨fd_law_holds, F_law_holds⟩ : ∃ fd, FnP K "_law_holds" "_law_holds" s_law_holds (He.ga K "_law_holds") fd := c.def_ 12 (d := d_law_holds) rfl
  obtain ⟨fd_law_tag, F_law_tag⟩ : ∃ fd, FnP K "_law_tag" "_law_tag" s_law_tag (He.ga K "_law_tag") fd := c.def_ 13 (d := d_law_tag) rfl
  obtain ⟨fd_law_members, F_law_members⟩ : ∃ fd, FnP K "_law_members" "_law_members" s_law_members (He.ga K "_law_members") fd := c.def_ 14 (d := d_law_members) rfl
  obtain ⟨fd_law_small_right, F_law_small_right⟩ : ∃ fd, FnP K "_law_small_right" "_law_small_right" s_law_small_right (He.ga K "_law_small_right") fd := c.def_ 15 (d := d_law_small_right) rfl
  obtain ⟨fd_law_great_right, F_law_great_right⟩ : ∃ fd, FnP K "_law_great_right" "_law_great_right" s_law_great_right (He.ga K "_law_great_right") fd := c.def_ 16 (d := d_law_great_right) rfl
  obtain ⟨fd_Rests_own, F_Rests_own⟩ : ∃ fd, FnP K "own" "Rests.own" s_Rests_own (He.ma K (He.ga K "Rests") "own") fd := c.def_ 1 (d := d_Rests_own) rfl
  obtain ⟨fd_Rests_join, F_Rests_join⟩ : ∃ fd, FnP K "join" "Rests.join" s_Rests_join (He.ma K (He.ga K "Rests") "join") fd := c.def_ 2 (d := d_Rests_join) rfl
  obtain ⟨fd_Rests_consistent, F_Rests_consistent⟩ : ∃ fd, FnP K "consistent" "Rests.consistent" s_Rests_consistent (He.ma K (He.ga K "Rests") "consistent") fd := c.def_ 3 (d := d_Rests_consistent) rfl
  obtain ⟨fd_Rests_matches, F_Rests_matches⟩ : ∃ fd, FnP K "matches" "Rests.matches" s_Rests_matches (He.ma K (He.ga K "Rests") "matches") fd := c.def_ 4 (d := d_Rests_matches) rfl
  obtain ⟨fd_Rests_penalty, F_Rests_penalty⟩ : ∃ fd, FnP K "penalty" "Rests.penalty" s_Rests_penalty (He.ma K (He.ga K "Rests") "penalty") fd := c.def_ 5 (d := d_Rests_penalty) rfl
  obtain ⟨fd_Kind_sides, F_Kind_sides⟩ : ∃ fd, FnP K "sides" "Kind.sides" s_Kind_sides (He.ma K (He.ga K "Kind") "sides") fd := c.def_ 0 (d := d_Kind_sides) rfl
  obtain ⟨fd_common_rest, F_common_rest⟩ : ∃ fd, FnP K "common_rest" "common_rest" s_common_rest (He.ga K "common_rest") fd := c.def_ 6 (d := d_common_rest) rfl
  obtain ⟨fd_common_divisor, F_common_divisor⟩ : ∃ fd, FnP K "common_divisor" "common_divisor" s_common_divisor (He.ga K "common_divisor") fd := c.def_ 7 (d := d_common_divisor) rfl
  have e := hfa.symm.trans (glo X G c (x := "law") (List.mem_of_getElem? (i := 11) rfl))
  cases e
  have b := FunD.bindsA (ps := ["_law_script"]) F_law fun _ _ _ _ _ _ us hl => match us, hl with | [_], _ => rfl
  refine ⟨fd_law, fun s v => b s [v] rfl, fun base _ _ => ?_⟩
  have m_int := fre X G c (List.mem_of_getElem? (i := 23) rfl)
  have m_len := fre X G c (List.mem_of_getElem? (i := 24) rfl)
  have m_range := fre X G c (List.mem_of_getElem? (i := 25) rfl)
  have m_abs := fre X G c (List.mem_of_getElem? (i := 26) rfl)
  have m_list := fre X G c (List.mem_of_getElem? (i := 27) rfl)
  have m_set := fre X G c (List.mem_of_getElem? (i := 28) rfl)
  have m_super := fre X G c (List.mem_of_getElem? (i := 29) rfl)
  have cl := He.cls_ok (c.facts (List.mem_of_getElem? (i := 13) rfl))
  have C1 : ∀ k, Cal P w K mg base CX0 "_law_well" (k + 1) ["_law_cell"] spWell := fun k => (cal X G c F_law_well (List.mem_of_getElem? (i := 2) rfl) ((ok_well (k := 0) F_law_well m_int).mono (by omega)) fun _ _ _ _ _ _ us hl => match us, hl with | [_], _ => rfl)
  have C2 : ∀ k, Cal P w K mg base CX0 "_law_draw" (k + 1) ["_law_well_here", "_law_many"] spDraw := fun k => (cal X G c F_law_draw (List.mem_of_getElem? (i := 3) rfl) ((ok_draw (k := 0) F_law_draw m_int).mono (by omega)) fun _ _ _ _ _ _ us hl => match us, hl with | [_, _], _ => rfl)
  have C3 : ∀ k, Cal P w K mg base CX0 "_law_one" (k + 2) ["_law_well_here", "_law_some"] (spOne K) := fun k => (cal X G c F_law_one (List.mem_of_getElem? (i := 4) rfl) (ok_one F_law_one (C2 k) m_len) fun _ _ _ _ _ _ us hl => match us, hl with | [_, _], _ => rfl)
  have C4 : ∀ k, Cal P w K mg base CX0 "_law_tag" (k + 2) ["_law_well_here", "_law_size"] spTag := fun k => (cal X G c F_law_tag (List.mem_of_getElem? (i := 7) rfl) (ok_tag F_law_tag (C2 k)) fun _ _ _ _ _ _ us hl => match us, hl with | [_, _], _ => rfl)
  have C5 : ∀ k, Cal P w K mg base CX0 "_law_divisor" (k + 1) ["_law_one_here", "_law_two"] spDivisor := fun k => (cal X G c F_law_divisor (List.mem_of_getElem? (i := 5) rfl) ((ok_divisor (k := 0) F_law_divisor m_abs m_range m_int).mono (by omega)) fun _ _ _ _ _ _ us hl => match us, hl with | [_, _], _ => rfl)
  have C6 : ∀ k, Cal P w K mg base CX0 "_law_holds" (k + 1) ["_law_tag_here", "_law_number"] spHolds := fun k => (cal X G c F_law_holds (List.mem_of_getElem? (i := 6) rfl) ((ok_holds (k := 0) F_law_holds m_int).mono (by omega)) fun _ _ _ _ _ _ us hl => match us, hl with | [_, _], _ => rfl)
  have C7 : ∀ k, Cal P w K mg base CX0 "_law_members" (k + 2) ["_law_tag_here", "_law_low", "_law_high"] spMem := fun k => (cal X G c F_law_members (List.mem_of_getElem? (i := 8) rfl) (ok_members F_law_members m_range (C6 k)) fun _ _ _ _ _ _ us hl => match us, hl with | [_, _, _], _ => rfl)
  have CG : ∀ k, Cal P w K mg base CX0 "common_divisor" (k + 1) ["one", "other"] spGcd := fun k => (cal X G c F_common_divisor (List.mem_of_getElem? (i := 1) rfl) ((ok_gcd (k := 0) F_common_divisor m_abs).mono (by omega)) fun _ _ _ _ _ _ us hl => match us, hl with | [_, _], _ => rfl)
  have CR : ∀ k, Cal P w K mg base CX0 "common_rest" (k + 2) ["one", "other"] (fun vs H Q _ => ∃ (p r : Addr) (a ra b rb : Int), vs = [.ref p, .ref r] ∧ Tup2 H p a ra ∧ Tup2 H r b rb ∧ ∀ (t : Addr) (H' : Hp), Same H H' → Tup2 H' t (jm a ra b rb) (jr a ra b rb) → Q (.ref t) H') := fun k => (cal X G c F_common_rest (List.mem_of_getElem? (i := 0) rfl) (ok_rest F_common_rest (CG k)) fun _ _ _ _ _ _ us hl => match us, hl with | [_, _], _ => rfl)
  have D1 : CalM P w K mg base CX0 (He.ga K "Rests") "join" 7 ["self", "one", "other"] spJoin := (calm c F_Rests_join (List.mem_of_getElem? (i := 15) rfl) (ok_join F_Rests_join (CR 4)) fun _ _ _ _ _ _ us hl => match us, hl with | [_, _, _], _ => rfl)
  have D2 : CalM P w K mg base CX0 (He.ga K "Rests") "consistent" 7 ["self", "label", "question"] spCons := (calm c F_Rests_consistent (List.mem_of_getElem? (i := 16) rfl) (ok_consistent F_Rests_consistent (CG 5)) fun _ _ _ _ _ _ us hl => match us, hl with | [_, _, _], _ => rfl)
  obtain ⟨fd_si, G_si, b_si⟩ := SU.ok_supSides (P := P) (w := w) (mg := mg) (base := base) (He.ba m).2 O m_super (ok_sides (C := He.ga K "Rests") (k := 0) F_Kind_sides m_len) (F_Kind_sides.bindsN fun _ _ _ _ _ _ us hl => match us, hl with | [_, _], _ => rfl)
  have G_sj : FnOk P w K mg base CX0 2 (He.ma K (He.ga K "Rests") "sides") fd_si ["self", "labels"] (spSides K (He.ga K "Rests")) := FnOk.imp G_si fun vs H Q E h => by
    obtain ⟨m, dx, l, xs, rfl, hm, r⟩ := h
    exact ⟨m, _, dx, _, rfl, hm, m, dx, l, xs, rfl, hm, r⟩
  have D3 : CalM P w K mg base CX0 (He.ga K "Rests") "sides" 8 ["self", "labels"] (spSides K (He.ga K "Rests")) := ⟨_, fd_si, G_sj.mono (by omega), b_si, He.meth_ok (c.facts (List.mem_of_getElem? (i := 19) rfl))⟩
  have S : Cal P w K mg base CX0 "_law_small_right" 8 ["_law_well_here", "_law_made"] (spRight (He.ga K "Rests")) := (cal X G c F_law_small_right (List.mem_of_getElem? (i := 9) rfl) (ok_small F_law_small_right m_int m_range m_len m_set cl (C2 6) (C4 5) (C7 5) (C6 6) D1 D2) fun _ _ _ _ _ _ us hl => match us, hl with | [_, _], _ => rfl)
  have L : Cal P w K mg base CX0 "_law_great_right" 8 ["_law_well_here", "_law_made"] (spRight (He.ga K "Rests")) := (cal X G c F_law_great_right (List.mem_of_getElem? (i := 10) rfl) (ok_great F_law_great_right m_int cl (C2 6) (C3 5) (C4 5) (C5 6)
    (calm c F_Rests_own (List.mem_of_getElem? (i := 14) rfl) ((ok_own (k := 0) F_Rests_own).mono (by omega)) fun _ _ _ _ _ _ us hl => match us, hl with | [_, _], _ => rfl) D1 D2 (calm c F_Rests_matches (List.mem_of_getElem? (i := 17) rfl) ((ok_matches (k := 0) F_Rests_matches).mono (by omega)) fun _ _ _ _ _ _ us hl => match us, hl with | [_, _, _], _ => rfl) (calm c F_Rests_penalty (List.mem_of_getElem? (i := 18) rfl) ((ok_penalty (k := 6) F_Rests_penalty (CR 4))) fun _ _ _ _ _ _ us hl => match us, hl with | [_, _, _], _ => rfl)) fun _ _ _ _ _ _ us hl => match us, hl with | [_, _], _ => rfl)
  exact ok_law F_law m_range m_list (mkoB_ok (He.ba m).1) cl (glo X G c (List.mem_of_getElem? (i := 12) rfl)) (C1 7) S L D3
end
end K13
open PySem PySem.W PySem.Calls PyProof.Rows
set_option maxRecDepth 100000 in
set_option maxHeartbeats 0 in
theorem PySem.Challenge.cw_kindgrove_k13_remainders_holds : PySem.Challenge.rw_kindgrove_k13_remainders.Holds := by
  w_on; o_law
  refine HandSHeadRun.head_any (r := OpenLaw.row PySem.Challenge.rw_kindgrove_k13_remainders) (q := view (OpenLaw.row PySem.Challenge.rw_kindgrove_k13_remainders).prog [19]) (H := K13.hk) (ob := K13.ob) (M := 6000) (loose := K13.loose) (d := HandSHeadRun.topDef (OpenLaw.row PySem.Challenge.rw_kindgrove_k13_remainders).prog 19) (kwd := []) K13.ob_eq
    (by kernel_rfl) (fun s => by kernel_rfl) K13.run (by kernel_rfl) (by kernel_rfl) (by kernel_rfl) (by rfl) (by first | assumption | decide +kernel) (by decide +kernel) ⟨rfl, rfl, rfl, rfl, rfl, by decide +kernel⟩ ?hw ?hc
  case hw => w_witness2
  case hc =>
    refine L2.walk_ofE (l := PySem.Challenge.rw_kindgrove_k13_remainders) (n := 63) (k := 9) (x := "_law_script") (CX := L2.CX0) rfl (by decide) (by kernel_rfl) ⟨rfl, by decide, by decide⟩ ?F (fun _ _ _ _ z => z)
    intro w mg fa h Y G hmg0
    obtain ⟨K, KX, c⟩ := Y
    have hmg : mg ("law" : PySem.Str) = some (.ref fa) := by
      have e : (HandSHeadRun.topDef (OpenLaw.row PySem.Challenge.rw_kindgrove_k13_remainders).prog 19).name = ("law" : PySem.Str) := by kernel_rfl
      rw [← e]
      exact hmg0
    obtain ⟨fd, hb, hF⟩ := K13.facts (P := (PySem.Challenge.rw_kindgrove_k13_remainders).prog) (w := w) KX G hmg c.t.d c.more ⟨by kernel_rfl, by kernel_rfl⟩
    exact ⟨K, fd, K13.spLaw K, KX, hb, fun H a ns hl _ hS => ⟨a, ns, rfl, hS, hl, fun _ => rfl⟩, hF⟩
