/- Contracts of Make, of the specification's lowest and Make, and of the sums. -/
import Derived.Test.YtffabmojbelaaaaDoorA
namespace Go.Proofs.YtffabmojbelaaaaDoor
open Go.RowKit

theorem ret_num {a b c a' b' c' : Int} (h1 : a = a') (h2 : b = b') (h3 : c = c') :
    Ending.returned (.tuple #[.agg #[.int .i64 a, .int .i64 b], .int .i64 c]) = .returned (.tuple #[.agg #[.int .i64 a', .int .i64 b'], .int .i64 c']) := by rw [h1, h2, h3]
theorem ret_ref {a b c a' b' c' : Int} (h1 : a = a') (h2 : b = b') (h3 : c = c') :
    Ending.returned (.agg #[.int .i64 a, .int .i64 b, .int .i64 c]) = .returned (.agg #[.int .i64 a', .int .i64 b', .int .i64 c']) := by rw [h1, h2, h3]

/-- a number and an error, as package exact returns them -/
def numV (r : Rt.Num) : Value := .tuple #[.agg #[.int .i64 r.n, .int .i64 r.d], .int .i64 r.e]
/-- .. and as the specification does -/
def refV (r : Rt.Num) : Value := .agg #[.int .i64 r.n, .int .i64 r.d, .int .i64 r.e]

theorem gcd_pos' {n d : Int} (h : d ≠ 0) : 1 ≤ (Nat.gcd n.natAbs d.natAbs : Int) := by
  have : 0 < Nat.gcd n.natAbs d.natAbs := Nat.gcd_pos_of_pos_right _ (by omega)
  omega

set_option maxHeartbeats 400000 in
theorem make_zero (n : Int) (w : World) :
    Calls Tryd.prog 17 #[.int .i64 n, .int .i64 0] w fun e w' => e = .returned (numV (Rt.mk n 0)) ∧ Below w.heap.size w w' := by
  go_enter Tryd.func17, Tryd.ntmps17
  go_wp2
  refine bodyPost_ret (v := .tuple #[.agg #[.int .i64 0, .int .i64 0], .int .i64 1]) (by simp [results, Tryd.results17, go_sem]) rfl ?_
  exact ⟨rfl, (by repeat (first | with_reducible exact Below.refl _ _ | with_reducible assumption | refine below_drewN ?_ _ | refine Below.drew ?_ | refine Below.alloc ?_ (by first | (simp; done) | (simp; omega) | omega) _ | refine Below.setCell ?_ (by first | (simp; done) | (simp; omega) | omega) _ | refine Below.trans ?_ (Below.mono (by assumption) (by first | (simp; done) | (simp; omega) | omega))))⟩

theorem quo_aN {n d : Int} (h0 : -9223372036854775808 ≤ n) (h1 : n ≤ 9223372036854775807) : IntKind.u64.wrap ((n.natAbs : Int) / (Nat.gcd n.natAbs d.natAbs : Int)) = (Rt.aN n d : Int) := by
  have e : ((n.natAbs : Int) / (Nat.gcd n.natAbs d.natAbs : Int)) = (Rt.aN n d : Int) := by rw [Rt.aN, Int.natCast_ediv]
  have : Rt.aN n d ≤ n.natAbs := Nat.div_le_self _ _
  rw [e, IntKind.wrap_u64]; omega
theorem quo_aD {n d : Int} (h2 : -9223372036854775808 ≤ d) (h3 : d ≤ 9223372036854775807) : IntKind.u64.wrap ((d.natAbs : Int) / (Nat.gcd n.natAbs d.natAbs : Int)) = (Rt.aD n d : Int) := by
  have e : ((d.natAbs : Int) / (Nat.gcd n.natAbs d.natAbs : Int)) = (Rt.aD n d : Int) := by rw [Rt.aD, Int.natCast_ediv]
  have : Rt.aD n d ≤ d.natAbs := Nat.div_le_self _ _
  rw [e, IntKind.wrap_u64]; omega

set_option maxHeartbeats 400000 in
theorem make_big (n d : Int) (a b : Nat) (h0 : -9223372036854775808 ≤ n) (h1 : n ≤ 9223372036854775807) (h2 : -9223372036854775808 ≤ d) (h3 : d ≤ 9223372036854775807) (h : (d == 0) = false) (w : World)
    (eN : Hid (IntKind.u64.wrap ((n.natAbs : Int) / (Nat.gcd n.natAbs d.natAbs : Int)) = (a : Int))) (eD : Hid (IntKind.u64.wrap ((d.natAbs : Int) / (Nat.gcd n.natAbs d.natAbs : Int)) = (b : Int)))
    (hb : 2147483647 < (a : Int)) :
    Calls Tryd.prog 17 #[.int .i64 n, .int .i64 d] w fun e w' => e = .returned (numV ⟨0, 0, 3⟩) ∧ Below w.heap.size w w' := by
  have hg := gcd_pos' (n := n) (d := d) (by simpa using h)
  go_enter Tryd.func17, Tryd.ntmps17
  go_wp2_with (first | (go_at_call 73; refine (mag_any _ (by omega) (by omega) _).mono ?_; rintro e w' ⟨rfl, rfl⟩) | (go_at_call 74; refine (cd_any _ _ (by omega) (by omega) _).mono ?_; rintro e w' ⟨rfl, m, hm⟩; subst hm))
  go_region
  rw [eN.out, eD.out]
  go_wp2
  refine bodyPost_ret (v := .tuple #[.agg #[.int .i64 0, .int .i64 0], .int .i64 3]) (by simp [results, Tryd.results17, go_sem]) rfl ?_
  exact ⟨rfl, (by repeat (first | with_reducible exact Below.refl _ _ | with_reducible assumption | refine below_drewN ?_ _ | refine Below.drew ?_ | refine Below.alloc ?_ (by first | (simp; done) | (simp; omega) | omega) _ | refine Below.setCell ?_ (by first | (simp; done) | (simp; omega) | omega) _ | refine Below.trans ?_ (Below.mono (by assumption) (by first | (simp; done) | (simp; omega) | omega))))⟩

set_option maxHeartbeats 400000 in
theorem make_big2 (n d : Int) (a b : Nat) (h0 : -9223372036854775808 ≤ n) (h1 : n ≤ 9223372036854775807) (h2 : -9223372036854775808 ≤ d) (h3 : d ≤ 9223372036854775807) (h : (d == 0) = false) (w : World)
    (eN : Hid (IntKind.u64.wrap ((n.natAbs : Int) / (Nat.gcd n.natAbs d.natAbs : Int)) = (a : Int))) (eD : Hid (IntKind.u64.wrap ((d.natAbs : Int) / (Nat.gcd n.natAbs d.natAbs : Int)) = (b : Int)))
    (ha : (a : Int) ≤ 2147483647) (hb : 2147483647 < (b : Int)) :
    Calls Tryd.prog 17 #[.int .i64 n, .int .i64 d] w fun e w' => e = .returned (numV ⟨0, 0, 3⟩) ∧ Below w.heap.size w w' := by
  have hg := gcd_pos' (n := n) (d := d) (by simpa using h)
  go_enter Tryd.func17, Tryd.ntmps17
  go_wp2_with (first | (go_at_call 73; refine (mag_any _ (by omega) (by omega) _).mono ?_; rintro e w' ⟨rfl, rfl⟩) | (go_at_call 74; refine (cd_any _ _ (by omega) (by omega) _).mono ?_; rintro e w' ⟨rfl, m, hm⟩; subst hm))
  go_region
  rw [eN.out, eD.out]
  go_wp2
  refine bodyPost_ret (v := .tuple #[.agg #[.int .i64 0, .int .i64 0], .int .i64 3]) (by simp [results, Tryd.results17, go_sem]) rfl ?_
  exact ⟨rfl, (by repeat (first | with_reducible exact Below.refl _ _ | with_reducible assumption | refine below_drewN ?_ _ | refine Below.drew ?_ | refine Below.alloc ?_ (by first | (simp; done) | (simp; omega) | omega) _ | refine Below.setCell ?_ (by first | (simp; done) | (simp; omega) | omega) _ | refine Below.trans ?_ (Below.mono (by assumption) (by first | (simp; done) | (simp; omega) | omega))))⟩

set_option maxHeartbeats 400000 in
theorem make_plus (n d : Int) (a b : Nat) (h0 : -9223372036854775808 ≤ n) (h1 : n ≤ 9223372036854775807) (h2 : -9223372036854775808 ≤ d) (h3 : d ≤ 9223372036854775807) (h : (d == 0) = false) (w : World)
    (eN : Hid (IntKind.u64.wrap ((n.natAbs : Int) / (Nat.gcd n.natAbs d.natAbs : Int)) = (a : Int))) (eD : Hid (IntKind.u64.wrap ((d.natAbs : Int) / (Nat.gcd n.natAbs d.natAbs : Int)) = (b : Int)))
    (ha : (a : Int) ≤ 2147483647) (hb : (b : Int) ≤ 2147483647) (hs : (decide (n < 0) == decide (d < 0)) = true) :
    Calls Tryd.prog 17 #[.int .i64 n, .int .i64 d] w fun e w' => e = .returned (numV ⟨a, b, 0⟩) ∧ Below w.heap.size w w' := by
  have hg := gcd_pos' (n := n) (d := d) (by simpa using h)
  have hs2 : (decide (n < 0) != decide (d < 0)) = false := by simpa using hs
  have hs3 : (!decide (n < 0) == decide (d < 0)) = false := by revert hs; cases decide (n < 0) <;> cases decide (d < 0) <;> simp
  go_enter Tryd.func17, Tryd.ntmps17
  go_wp2_with (first | (go_at_call 73; refine (mag_any _ (by omega) (by omega) _).mono ?_; rintro e w' ⟨rfl, rfl⟩) | (go_at_call 74; refine (cd_any _ _ (by omega) (by omega) _).mono ?_; rintro e w' ⟨rfl, m, hm⟩; subst hm))
  go_region
  rw [eN.out, eD.out]
  go_wp2
  refine bodyPost_ret (v := .tuple #[.agg #[.int .i64 a, .int .i64 b], .int .i64 0]) (by simp [results, Tryd.results17, go_sem]) rfl ?_
  exact ⟨rfl, (by repeat (first | with_reducible exact Below.refl _ _ | with_reducible assumption | refine below_drewN ?_ _ | refine Below.drew ?_ | refine Below.alloc ?_ (by first | (simp; done) | (simp; omega) | omega) _ | refine Below.setCell ?_ (by first | (simp; done) | (simp; omega) | omega) _ | refine Below.trans ?_ (Below.mono (by assumption) (by first | (simp; done) | (simp; omega) | omega))))⟩

set_option maxHeartbeats 400000 in
theorem make_minus (n d : Int) (a b : Nat) (h0 : -9223372036854775808 ≤ n) (h1 : n ≤ 9223372036854775807) (h2 : -9223372036854775808 ≤ d) (h3 : d ≤ 9223372036854775807) (h : (d == 0) = false) (w : World)
    (eN : Hid (IntKind.u64.wrap ((n.natAbs : Int) / (Nat.gcd n.natAbs d.natAbs : Int)) = (a : Int))) (eD : Hid (IntKind.u64.wrap ((d.natAbs : Int) / (Nat.gcd n.natAbs d.natAbs : Int)) = (b : Int)))
    (ha : (a : Int) ≤ 2147483647) (hb : (b : Int) ≤ 2147483647) (hs : (decide (n < 0) == decide (d < 0)) = false) :
    Calls Tryd.prog 17 #[.int .i64 n, .int .i64 d] w fun e w' => e = .returned (numV ⟨-(a : Int), b, 0⟩) ∧ Below w.heap.size w w' := by
  have hg := gcd_pos' (n := n) (d := d) (by simpa using h)
  have hs2 : (decide (n < 0) != decide (d < 0)) = true := by simpa using hs
  have hs3 : (!decide (n < 0) == decide (d < 0)) = true := by revert hs; cases decide (n < 0) <;> cases decide (d < 0) <;> simp
  go_enter Tryd.func17, Tryd.ntmps17
  go_wp2_with (first | (go_at_call 73; refine (mag_any _ (by omega) (by omega) _).mono ?_; rintro e w' ⟨rfl, rfl⟩) | (go_at_call 74; refine (cd_any _ _ (by omega) (by omega) _).mono ?_; rintro e w' ⟨rfl, m, hm⟩; subst hm))
  go_region
  rw [eN.out, eD.out]
  go_wp2_with fail
  refine (opp_any _ _ (by omega) (by omega) _).mono ?_
  rintro e w' ⟨rfl, hb1⟩
  obtain ⟨hc1, hf1⟩ := bcell hb1
  have hz1 := hb1.size
  simp at hz1
  have k0 : w'.cell? ⟨w.heap.size, 0, none⟩ = some (.int .i64 0) := (hb1.cell (p := ⟨w.heap.size, 0, none⟩) (by first | (simp; done) | (simp; omega) | omega)).trans (by first | assumption | (simp [go_sem]; done) | simp [go_sem, *])
  have k1 : w'.cell? ⟨w.heap.size, 1, none⟩ = some (.int .i64 0) := (hb1.cell (p := ⟨w.heap.size, 1, none⟩) (by first | (simp; done) | (simp; omega) | omega)).trans (by first | assumption | (simp [go_sem]; done) | simp [go_sem, *])
  clear hc1
  go_wp2
  refine bodyPost_ret (v := .tuple #[.agg #[.int .i64 (-(a : Int)), .int .i64 b], .int .i64 0]) (by simp [results, Tryd.results17, go_sem, k0, k1]) rfl ?_
  exact ⟨rfl, (by repeat (first | with_reducible exact Below.refl _ _ | with_reducible assumption | refine below_drewN ?_ _ | refine Below.drew ?_ | refine Below.alloc ?_ (by first | (simp; done) | (simp; omega) | omega) _ | refine Below.setCell ?_ (by first | (simp; done) | (simp; omega) | omega) _ | refine Below.trans ?_ (Below.mono (by assumption) (by first | (simp; done) | (simp; omega) | omega))))⟩

theorem make_any (n d : Int) (h0 : -9223372036854775808 ≤ n) (h1 : n ≤ 9223372036854775807) (h2 : -9223372036854775808 ≤ d) (h3 : d ≤ 9223372036854775807) (w : World) :
    Calls Tryd.prog 17 #[.int .i64 n, .int .i64 d] w fun e w' => e = .returned (numV (Rt.mk n d)) ∧ Below w.heap.size w w' := by
  by_cases h : d = 0
  · subst h; exact make_zero n w
  have hd : (d == 0) = false := by rw [beq_eq_false_iff_ne]; exact h
  have eN := Lib.hid (quo_aN (d := d) h0 h1)
  have eD := Lib.hid (quo_aD (n := n) h2 h3)
  rw [Rt.mk_steps h]
  by_cases ha : (Rt.aN n d : Int) ≤ 2147483647
  · by_cases hb : (Rt.aD n d : Int) ≤ 2147483647
    · rw [if_pos (by omega)]
      by_cases hs : (n < 0) ↔ (d < 0)
      · rw [if_pos hs]
        exact make_plus n d _ _ h0 h1 h2 h3 hd w eN eD ha hb (by simp [hs])
      · rw [if_neg hs]
        exact make_minus n d _ _ h0 h1 h2 h3 hd w eN eD ha hb (by simpa using hs)
    · rw [if_neg (by omega)]
      exact make_big2 n d _ _ h0 h1 h2 h3 hd w eN eD ha (by omega)
  · rw [if_neg (by omega)]
    exact make_big n d _ _ h0 h1 h2 h3 hd w eN eD (by omega)

/-! ### the specification's lowest and Make -/
theorem tdiv_low {n d : Int} (h : 0 < d) : Rt.mk n d =
    if d.tdiv (Nat.gcd n.natAbs d.natAbs) ≤ 2147483647 ∧ -2147483647 ≤ n.tdiv (Nat.gcd n.natAbs d.natAbs) ∧ n.tdiv (Nat.gcd n.natAbs d.natAbs) ≤ 2147483647 then ⟨n.tdiv (Nat.gcd n.natAbs d.natAbs), d.tdiv (Nat.gcd n.natAbs d.natAbs), 0⟩ else ⟨0, 0, 3⟩ := by
  rw [Rt.mk_low h, Int.gcd_eq_natAbs_gcd_natAbs]

theorem tmod_bd {n : Int} {k : Nat} (h2 : 1 ≤ (k : Int)) : -(k : Int) < n.tmod k ∧ n.tmod k < k := by
  have := Int.lt_tmod_of_pos n (show (0 : Int) < k by omega)
  have := Int.tmod_lt_of_pos n (show (0 : Int) < k by omega)
  omega
theorem tdiv_bd {n g : Int} (h : 1 ≤ g) (h0 : -9223372036854775808 ≤ n) (h1 : n ≤ 9223372036854775807) : -9223372036854775808 ≤ n.tdiv g ∧ n.tdiv g ≤ 9223372036854775807 := by
  have h3 : (n.tdiv g).natAbs ≤ n.natAbs := by rw [Int.natAbs_tdiv]; exact Nat.div_le_self _ _
  rcases Int.lt_or_le n 0 with h4 | h4
  · have : n.tdiv g ≤ 0 := (by rw [← Int.neg_neg n, Int.neg_tdiv]; have := Int.tdiv_nonneg (a := -n) (b := g) (by omega) (by omega); omega)
    omega
  · have : 0 ≤ n.tdiv g := Int.tdiv_nonneg (by omega) (by omega)
    omega

set_option maxHeartbeats 400000 in
theorem low_ok (n : Int) (k g t : Nat) (h0 : -9223372036854775808 ≤ n) (h1 : n ≤ 9223372036854775807) (h2 : 1 ≤ (k : Int)) (h3 : (k : Int) ≤ 9223372036854775807) (h : (n == 0) = false) (w : World)
    (et : Hid ((n.tmod k).natAbs = t)) (ht : (t : Int) ≤ k) (eg : Hid (Nat.gcd t k = g)) (hg : 1 ≤ (g : Int))
    (b1 : (k : Int) / g ≤ 2147483647) (b2 : -2147483647 ≤ n.tdiv g) (b3 : n.tdiv g ≤ 2147483647) :
    Calls Tryd.prog 77 #[.int .i64 n, .int .i64 k] w fun e w' => e = .returned (refV ⟨n.tdiv g, (k : Int) / g, 0⟩) ∧ Below w.heap.size w w' := by
  have ⟨m1, m2⟩ := tmod_bd (n := n) h2
  have ⟨d1, d2⟩ := tdiv_bd hg h0 h1
  go_enter Tryd.func77, Tryd.ntmps77
  go_wp2_with fail
  refine (rabs_any _ (by omega) (by omega) _).mono ?_
  rintro e w' ⟨he, hw⟩
  rw [et.out] at he
  subst he hw
  go_wp2_with fail
  refine (rgcd_any t k (by omega) (by omega) _).mono ?_
  rintro e w' ⟨he, hw⟩
  rw [eg.out] at he
  subst he hw
  go_wp2
  have q1 : wrap64 ((k : Int) / g) = (k : Int) / g := by
    have := Int.ediv_le_self (a := (k : Int)) (b := (g : Int)) (by omega)
    have := Int.ediv_nonneg (a := (k : Int)) (b := (g : Int)) (by omega) (by omega)
    unfold wrap64; omega
  have q2 : wrap64 (n.tdiv g) = n.tdiv g := by unfold wrap64; omega
  clear d1 d2 m1 m2 h0 h1 h3 ht h et eg
  go_region
  go_wp2
  refine bodyPost_ret (v := .agg #[.int .i64 (n.tdiv g), .int .i64 ((k : Int) / g), .int .i64 0]) (by simp [results, Tryd.results77, go_sem]) rfl ?_
  exact ⟨rfl, (by repeat (first | with_reducible exact Below.refl _ _ | with_reducible assumption | refine below_drewN ?_ _ | refine Below.drew ?_ | refine Below.alloc ?_ (by first | (simp; done) | (simp; omega) | omega) _ | refine Below.setCell ?_ (by first | (simp; done) | (simp; omega) | omega) _ | refine Below.trans ?_ (Below.mono (by assumption) (by first | (simp; done) | (simp; omega) | omega))))⟩

set_option maxHeartbeats 400000 in
theorem low_no (n : Int) (k g t : Nat) (h0 : -9223372036854775808 ≤ n) (h1 : n ≤ 9223372036854775807) (h2 : 1 ≤ (k : Int)) (h3 : (k : Int) ≤ 9223372036854775807) (h : (n == 0) = false) (w : World)
    (et : Hid ((n.tmod k).natAbs = t)) (ht : (t : Int) ≤ k) (eg : Hid (Nat.gcd t k = g)) (hg : 1 ≤ (g : Int))
    (b : ¬ ((k : Int) / g ≤ 2147483647 ∧ -2147483647 ≤ n.tdiv g ∧ n.tdiv g ≤ 2147483647)) :
    Calls Tryd.prog 77 #[.int .i64 n, .int .i64 k] w fun e w' => e = .returned (refV ⟨0, 0, 3⟩) ∧ Below w.heap.size w w' := by
  have ⟨m1, m2⟩ := tmod_bd (n := n) h2
  have ⟨d1, d2⟩ := tdiv_bd hg h0 h1
  go_enter Tryd.func77, Tryd.ntmps77
  go_wp2_with fail
  refine (rabs_any _ (by omega) (by omega) _).mono ?_
  rintro e w' ⟨he, hw⟩
  rw [et.out] at he
  subst he hw
  go_wp2_with fail
  refine (rgcd_any t k (by omega) (by omega) _).mono ?_
  rintro e w' ⟨he, hw⟩
  rw [eg.out] at he
  subst he hw
  go_wp2
  have q1 : wrap64 ((k : Int) / g) = (k : Int) / g := by
    have := Int.ediv_le_self (a := (k : Int)) (b := (g : Int)) (by omega)
    have := Int.ediv_nonneg (a := (k : Int)) (b := (g : Int)) (by omega) (by omega)
    unfold wrap64; omega
  have q2 : wrap64 (n.tdiv g) = n.tdiv g := by unfold wrap64; omega
  clear d1 d2 m1 m2 h0 h1 h3 ht h et eg
  go_region
  go_wp2
  all_goals
    refine bodyPost_ret (v := .agg #[.int .i64 0, .int .i64 0, .int .i64 3]) (by simp [results, Tryd.results77, go_sem]) rfl ?_
    exact ⟨rfl, (by repeat (first | with_reducible exact Below.refl _ _ | with_reducible assumption | refine below_drewN ?_ _ | refine Below.drew ?_ | refine Below.alloc ?_ (by first | (simp; done) | (simp; omega) | omega) _ | refine Below.setCell ?_ (by first | (simp; done) | (simp; omega) | omega) _ | refine Below.trans ?_ (Below.mono (by assumption) (by first | (simp; done) | (simp; omega) | omega))))⟩

set_option maxHeartbeats 400000 in
theorem low_zero (k : Nat) (h2 : 1 ≤ (k : Int)) (h3 : (k : Int) ≤ 9223372036854775807) (w : World) :
    Calls Tryd.prog 77 #[.int .i64 0, .int .i64 k] w fun e w' => e = .returned (refV ⟨0, 1, 0⟩) ∧ Below w.heap.size w w' := by
  go_enter Tryd.func77, Tryd.ntmps77
  go_wp2
  have q1 : wrap64 ((k : Int) / k) = 1 := by rw [Int.ediv_self (by omega)]; unfold wrap64; omega
  go_region
  go_wp2
  refine bodyPost_ret (v := .agg #[.int .i64 0, .int .i64 1, .int .i64 0]) (by simp [results, Tryd.results77, go_sem]) rfl ?_
  exact ⟨rfl, (by repeat (first | with_reducible exact Below.refl _ _ | with_reducible assumption | refine below_drewN ?_ _ | refine Below.drew ?_ | refine Below.alloc ?_ (by first | (simp; done) | (simp; omega) | omega) _ | refine Below.setCell ?_ (by first | (simp; done) | (simp; omega) | omega) _ | refine Below.trans ?_ (Below.mono (by assumption) (by first | (simp; done) | (simp; omega) | omega))))⟩

theorem low_any (n d : Int) (h0 : -9223372036854775808 ≤ n) (h1 : n ≤ 9223372036854775807) (h2 : 1 ≤ d) (h3 : d ≤ 9223372036854775807) (w : World) :
    Calls Tryd.prog 77 #[.int .i64 n, .int .i64 d] w fun e w' => e = .returned (refV (Rt.mk n d)) ∧ Below w.heap.size w w' := by
  obtain ⟨k, rfl⟩ : ∃ k : Nat, d = k := ⟨d.toNat, by omega⟩
  by_cases hn : n = 0
  · subst hn
    have e : Rt.mk 0 k = ⟨0, 1, 0⟩ := by
      rw [Rt.mk_eq (by omega), Rat.zero_divInt]; decide
    rw [e]; exact low_zero k h2 h3 w
  have hn' : (n == 0) = false := by rw [beq_eq_false_iff_ne]; exact hn
  have ⟨m1, m2⟩ := tmod_bd (n := n) h2
  have hg : Nat.gcd (n.tmod k).natAbs k = Nat.gcd n.natAbs (k : Int).natAbs := by
    have := Rt.gcd_tmod n k
    rw [Int.gcd_eq_natAbs_gcd_natAbs, Int.gcd_eq_natAbs_gcd_natAbs] at this
    simpa using this
  have hp := gcd_pos' (n := n) (d := (k : Int)) (by omega)
  rw [tdiv_low (by omega)]
  rw [Int.tdiv_eq_ediv_of_nonneg (show (0 : Int) ≤ k by omega)]
  by_cases hb : (k : Int) / (Nat.gcd n.natAbs (k : Int).natAbs : Nat) ≤ 2147483647 ∧ -2147483647 ≤ n.tdiv (Nat.gcd n.natAbs (k : Int).natAbs : Nat) ∧ n.tdiv (Nat.gcd n.natAbs (k : Int).natAbs : Nat) ≤ 2147483647
  · rw [if_pos hb]
    exact low_ok n k _ _ h0 h1 h2 h3 hn' w (Lib.hid rfl) (by omega) (Lib.hid hg) hp hb.1 hb.2.1 hb.2.2
  · rw [if_neg hb]
    exact low_no n k _ _ h0 h1 h2 h3 hn' w (Lib.hid rfl) (by omega) (Lib.hid hg) hp hb


/-! ### the specification's Make -/
set_option maxHeartbeats 400000 in
theorem rmake_zero (n : Int) (w : World) :
    Calls Tryd.prog 20 #[.int .i64 n, .int .i64 0] w fun e w' => e = .returned (refV (Rt.mk n 0)) ∧ Below w.heap.size w w' := by
  go_enter Tryd.func20, Tryd.ntmps20
  go_wp2
  refine bodyPost_ret (v := .agg #[.int .i64 0, .int .i64 0, .int .i64 1]) (by simp [results, Tryd.results20, go_sem]) rfl ?_
  exact ⟨rfl, (by repeat (first | with_reducible exact Below.refl _ _ | with_reducible assumption | refine below_drewN ?_ _ | refine Below.drew ?_ | refine Below.alloc ?_ (by first | (simp; done) | (simp; omega) | omega) _ | refine Below.setCell ?_ (by first | (simp; done) | (simp; omega) | omega) _ | refine Below.trans ?_ (Below.mono (by assumption) (by first | (simp; done) | (simp; omega) | omega))))⟩

theorem refV_eq (r : Rt.Num) : refV r = .agg #[.int .i64 r.n, .int .i64 r.d, .int .i64 r.e] := rfl
theorem numV_eq (r : Rt.Num) : numV r = .tuple #[.agg #[.int .i64 r.n, .int .i64 r.d], .int .i64 r.e] := rfl

set_option maxHeartbeats 400000 in
theorem rmake_pos' (n d : Int) (r : Rt.Num) (hr : Hid (Rt.mk n d = r)) (h0 : -9223372036854775808 ≤ n) (h1 : n ≤ 9223372036854775807) (h2 : 1 ≤ d) (h3 : d ≤ 9223372036854775807) (w : World) :
    Calls Tryd.prog 20 #[.int .i64 n, .int .i64 d] w fun e w' => e = .returned (refV r) ∧ Below w.heap.size w w' := by
  go_enter Tryd.func20, Tryd.ntmps20
  go_wp2_with fail
  refine (low_any n d h0 h1 h2 h3 _).mono ?_
  rintro e w' ⟨he, hb1⟩
  rw [hr.out, refV_eq] at he
  subst he
  have hz_hb1 := hb1.size
  try simp at hz_hb1
  have hb1_k0 : w'.cell? ⟨w.heap.size, 0, none⟩ = some (.int .i64 0) := (hb1.cell (p := ⟨w.heap.size, 0, none⟩) (by first | (simp; done) | (simp; omega) | omega)).trans (by first | assumption | (simp [go_sem]; done) | simp [go_sem, *])
  have hb1_k1 : w'.cell? ⟨w.heap.size, 1, none⟩ = some (.int .i64 0) := (hb1.cell (p := ⟨w.heap.size, 1, none⟩) (by first | (simp; done) | (simp; omega) | omega)).trans (by first | assumption | (simp [go_sem]; done) | simp [go_sem, *])
  have hb1_k2 : w'.cell? ⟨w.heap.size, 2, none⟩ = some (.int .i64 0) := (hb1.cell (p := ⟨w.heap.size, 2, none⟩) (by first | (simp; done) | (simp; omega) | omega)).trans (by first | assumption | (simp [go_sem]; done) | simp [go_sem, *])
  have hb1_f : ∀ o, w'.frozen? ⟨w.heap.size, o, none⟩ = false := fun o => (hb1.frozen (p := ⟨w.heap.size, o, none⟩) (by first | (simp; done) | (simp; omega) | omega)).trans (by first | assumption | (simp [go_sem]; done) | simp [go_sem, *])
  have hb1_lt : w.heap.size < w'.heap.size := Nat.lt_of_lt_of_le (m := _) (by first | (simp; done) | (simp; omega) | omega) hb1.size
  go_wp2
  refine bodyPost_ret (v := .agg #[.int .i64 r.n, .int .i64 r.d, .int .i64 r.e]) (by simp [results, Tryd.results20, go_sem, hb1_k0, hb1_k1, hb1_k2]) rfl ?_
  exact ⟨rfl, (by repeat (first | with_reducible exact Below.refl _ _ | with_reducible assumption | refine below_drewN ?_ _ | refine Below.drew ?_ | refine Below.alloc ?_ (by first | (simp; done) | (simp; omega) | omega) _ | refine Below.setCell ?_ (by first | (simp; done) | (simp; omega) | omega) _ | refine Below.trans ?_ (Below.mono (by assumption) (by first | (simp; done) | (simp; omega) | omega))))⟩

set_option maxHeartbeats 400000 in
theorem rmake_neg' (n d : Int) (r : Rt.Num) (hr : Hid (Rt.mk n d = r)) (h0 : -9223372036854775808 < n) (h1 : n ≤ 9223372036854775807) (h2 : -9223372036854775808 < d) (h3 : d ≤ -1) (hnd : (n == d) = false) (w : World) :
    Calls Tryd.prog 20 #[.int .i64 n, .int .i64 d] w fun e w' => e = .returned (refV r) ∧ Below w.heap.size w w' := by
  have e1 : (d == -9223372036854775808) = false := by rw [beq_eq_false_iff_ne]; omega
  have e2 : (n == -9223372036854775808) = false := by rw [beq_eq_false_iff_ne]; omega
  go_enter Tryd.func20, Tryd.ntmps20
  go_wp2_with fail
  refine (low_any (-n) (-d) (by omega) (by omega) (by omega) (by omega) _).mono ?_
  rintro e w' ⟨he, hb1⟩
  rw [Rt.mk_neg, hr.out, refV_eq] at he
  subst he
  have hz_hb1 := hb1.size
  try simp at hz_hb1
  have hb1_k0 : w'.cell? ⟨w.heap.size, 0, none⟩ = some (.int .i64 0) := (hb1.cell (p := ⟨w.heap.size, 0, none⟩) (by first | (simp; done) | (simp; omega) | omega)).trans (by first | assumption | (simp [go_sem]; done) | simp [go_sem, *])
  have hb1_k1 : w'.cell? ⟨w.heap.size, 1, none⟩ = some (.int .i64 0) := (hb1.cell (p := ⟨w.heap.size, 1, none⟩) (by first | (simp; done) | (simp; omega) | omega)).trans (by first | assumption | (simp [go_sem]; done) | simp [go_sem, *])
  have hb1_k2 : w'.cell? ⟨w.heap.size, 2, none⟩ = some (.int .i64 0) := (hb1.cell (p := ⟨w.heap.size, 2, none⟩) (by first | (simp; done) | (simp; omega) | omega)).trans (by first | assumption | (simp [go_sem]; done) | simp [go_sem, *])
  have hb1_f : ∀ o, w'.frozen? ⟨w.heap.size, o, none⟩ = false := fun o => (hb1.frozen (p := ⟨w.heap.size, o, none⟩) (by first | (simp; done) | (simp; omega) | omega)).trans (by first | assumption | (simp [go_sem]; done) | simp [go_sem, *])
  have hb1_lt : w.heap.size < w'.heap.size := Nat.lt_of_lt_of_le (m := _) (by first | (simp; done) | (simp; omega) | omega) hb1.size
  go_wp2
  refine bodyPost_ret (v := .agg #[.int .i64 r.n, .int .i64 r.d, .int .i64 r.e]) (by simp [results, Tryd.results20, go_sem, hb1_k0, hb1_k1, hb1_k2]) rfl ?_
  exact ⟨rfl, (by repeat (first | with_reducible exact Below.refl _ _ | with_reducible assumption | refine below_drewN ?_ _ | refine Below.drew ?_ | refine Below.alloc ?_ (by first | (simp; done) | (simp; omega) | omega) _ | refine Below.setCell ?_ (by first | (simp; done) | (simp; omega) | omega) _ | refine Below.trans ?_ (Below.mono (by assumption) (by first | (simp; done) | (simp; omega) | omega))))⟩

set_option maxHeartbeats 400000 in
theorem rmake_same (d : Int) (h3 : d ≤ -1) (w : World) :
    Calls Tryd.prog 20 #[.int .i64 d, .int .i64 d] w fun e w' => e = .returned (refV ⟨1, 1, 0⟩) ∧ Below w.heap.size w w' := by
  go_enter Tryd.func20, Tryd.ntmps20
  go_wp2
  refine bodyPost_ret (v := .agg #[.int .i64 1, .int .i64 1, .int .i64 0]) (by simp [results, Tryd.results20, go_sem]) rfl ?_
  exact ⟨rfl, (by repeat (first | with_reducible exact Below.refl _ _ | with_reducible assumption | refine below_drewN ?_ _ | refine Below.drew ?_ | refine Below.alloc ?_ (by first | (simp; done) | (simp; omega) | omega) _ | refine Below.setCell ?_ (by first | (simp; done) | (simp; omega) | omega) _ | refine Below.trans ?_ (Below.mono (by assumption) (by first | (simp; done) | (simp; omega) | omega))))⟩

theorem mk_same {d : Int} (h : d ≠ 0) : Rt.mk d d = ⟨1, 1, 0⟩ := by
  rw [Rt.mk_eq h, Rat.divInt_self' h]; decide
theorem mk_0 {d : Int} (h : d ≠ 0) : Rt.mk 0 d = ⟨0, 1, 0⟩ := by
  rw [Rt.mk_eq h, Rat.zero_divInt]; decide

theorem rmake_mid (n d : Int) (h0 : -9223372036854775808 < n) (h1 : n ≤ 9223372036854775807) (h2 : -9223372036854775808 < d) (h3 : d ≤ 9223372036854775807) (w : World) :
    Calls Tryd.prog 20 #[.int .i64 n, .int .i64 d] w fun e w' => e = .returned (refV (Rt.mk n d)) ∧ Below w.heap.size w w' := by
  rcases Int.lt_trichotomy d 0 with h | h | h
  · by_cases e : n = d
    · subst e; rw [mk_same (by omega)]; exact rmake_same n (by omega) w
    · exact rmake_neg' n d _ (Lib.hid rfl) h0 h1 h2 (by omega) (by rw [beq_eq_false_iff_ne]; exact e) w
  · subst h; exact rmake_zero n w
  · exact rmake_pos' n d _ (Lib.hid rfl) (by omega) h1 (by omega) h3 w

theorem gcd_pow2 {n : Nat} (h : n % 2 = 1) : Nat.gcd n 9223372036854775808 = 1 := by
  have h2 : Nat.Coprime n 2 := by
    unfold Nat.Coprime
    rw [Nat.gcd_comm, Nat.gcd_rec, h, Nat.gcd_one_left]
  exact h2.pow_right 63

theorem odd_den {n : Int} (h : n.natAbs % 2 = 1) : Rt.mk n (-9223372036854775808) = ⟨0, 0, 3⟩ := by
  rw [Rt.mk_steps (by omega), if_neg]
  intro hh
  have : Rt.aD n (-9223372036854775808) = 9223372036854775808 := by
    unfold Rt.aD; rw [show (-9223372036854775808 : Int).natAbs = 9223372036854775808 from rfl, gcd_pow2 h]
  omega
theorem odd_num {d : Int} (h : d.natAbs % 2 = 1) : Rt.mk (-9223372036854775808) d = ⟨0, 0, 3⟩ := by
  rw [Rt.mk_steps (by omega), if_neg]
  intro hh
  have : Rt.aN (-9223372036854775808) d = 9223372036854775808 := by
    unfold Rt.aN; rw [show (-9223372036854775808 : Int).natAbs = 9223372036854775808 from rfl, Nat.gcd_comm, gcd_pow2 h]
  omega

theorem mk_half {n d : Int} : Rt.mk (2 * n) (2 * d) = Rt.mk n d := Rt.mk_scale (by omega)

set_option maxHeartbeats 400000 in
theorem rmake_ld0 (w : World) :
    Calls Tryd.prog 20 #[.int .i64 0, .int .i64 (-9223372036854775808)] w fun e w' => e = .returned (refV ⟨0, 1, 0⟩) ∧ Below w.heap.size w w' := by
  go_enter Tryd.func20, Tryd.ntmps20
  go_wp2
  refine bodyPost_ret (v := .agg #[.int .i64 0, .int .i64 1, .int .i64 0]) (by simp [results, Tryd.results20, go_sem]) rfl ?_
  exact ⟨rfl, (by repeat (first | with_reducible exact Below.refl _ _ | with_reducible assumption | refine below_drewN ?_ _ | refine Below.drew ?_ | refine Below.alloc ?_ (by first | (simp; done) | (simp; omega) | omega) _ | refine Below.setCell ?_ (by first | (simp; done) | (simp; omega) | omega) _ | refine Below.trans ?_ (Below.mono (by assumption) (by first | (simp; done) | (simp; omega) | omega))))⟩

set_option maxHeartbeats 400000 in
theorem rmake_ldodd (n : Int) (h0 : (n == -9223372036854775808) = false) (hn : (n == 0) = false) (h : (n.tmod 2 != 0) = true) (w : World) :
    Calls Tryd.prog 20 #[.int .i64 n, .int .i64 (-9223372036854775808)] w fun e w' => e = .returned (refV ⟨0, 0, 3⟩) ∧ Below w.heap.size w w' := by
  go_enter Tryd.func20, Tryd.ntmps20
  go_wp2
  refine bodyPost_ret (v := .agg #[.int .i64 0, .int .i64 0, .int .i64 3]) (by simp [results, Tryd.results20, go_sem]) rfl ?_
  exact ⟨rfl, (by repeat (first | with_reducible exact Below.refl _ _ | with_reducible assumption | refine below_drewN ?_ _ | refine Below.drew ?_ | refine Below.alloc ?_ (by first | (simp; done) | (simp; omega) | omega) _ | refine Below.setCell ?_ (by first | (simp; done) | (simp; omega) | omega) _ | refine Below.trans ?_ (Below.mono (by assumption) (by first | (simp; done) | (simp; omega) | omega))))⟩

set_option maxHeartbeats 400000 in
theorem rmake_ldeven (n m : Int) (r : Rt.Num) (hr : Hid (Rt.mk m (-4611686018427387904) = r)) (h0 : (n == -9223372036854775808) = false) (hn : (n == 0) = false) (h : (n.tmod 2 != 0) = false) (hm : Hid (wrap64 (n.tdiv 2) = m))
    (m0 : -9223372036854775808 < m) (m1 : m ≤ 9223372036854775807) (w : World) :
    Calls Tryd.prog 20 #[.int .i64 n, .int .i64 (-9223372036854775808)] w fun e w' => e = .returned (refV r) ∧ Below w.heap.size w w' := by
  go_enter Tryd.func20, Tryd.ntmps20
  go_wp2_with fail
  rw [hm.out]
  refine (rmake_mid m (-4611686018427387904) m0 m1 (by omega) (by omega) _).mono ?_
  rintro e w' ⟨he, hb1⟩
  rw [hr.out, refV_eq] at he
  subst he
  have hz_hb1 := hb1.size
  try simp at hz_hb1
  have hb1_k0 : w'.cell? ⟨w.heap.size, 0, none⟩ = some (.int .i64 0) := (hb1.cell (p := ⟨w.heap.size, 0, none⟩) (by first | (simp; done) | (simp; omega) | omega)).trans (by first | assumption | (simp [go_sem]; done) | simp [go_sem, *])
  have hb1_k1 : w'.cell? ⟨w.heap.size, 1, none⟩ = some (.int .i64 0) := (hb1.cell (p := ⟨w.heap.size, 1, none⟩) (by first | (simp; done) | (simp; omega) | omega)).trans (by first | assumption | (simp [go_sem]; done) | simp [go_sem, *])
  have hb1_k2 : w'.cell? ⟨w.heap.size, 2, none⟩ = some (.int .i64 0) := (hb1.cell (p := ⟨w.heap.size, 2, none⟩) (by first | (simp; done) | (simp; omega) | omega)).trans (by first | assumption | (simp [go_sem]; done) | simp [go_sem, *])
  have hb1_f : ∀ o, w'.frozen? ⟨w.heap.size, o, none⟩ = false := fun o => (hb1.frozen (p := ⟨w.heap.size, o, none⟩) (by first | (simp; done) | (simp; omega) | omega)).trans (by first | assumption | (simp [go_sem]; done) | simp [go_sem, *])
  have hb1_lt : w.heap.size < w'.heap.size := Nat.lt_of_lt_of_le (m := _) (by first | (simp; done) | (simp; omega) | omega) hb1.size
  go_wp2
  refine bodyPost_ret (v := .agg #[.int .i64 r.n, .int .i64 r.d, .int .i64 r.e]) (by simp [results, Tryd.results20, go_sem, hb1_k0, hb1_k1, hb1_k2]) rfl ?_
  exact ⟨rfl, (by repeat (first | with_reducible exact Below.refl _ _ | with_reducible assumption | refine below_drewN ?_ _ | refine Below.drew ?_ | refine Below.alloc ?_ (by first | (simp; done) | (simp; omega) | omega) _ | refine Below.setCell ?_ (by first | (simp; done) | (simp; omega) | omega) _ | refine Below.trans ?_ (Below.mono (by assumption) (by first | (simp; done) | (simp; omega) | omega))))⟩

set_option maxHeartbeats 400000 in
theorem rmake_lnodd (d : Int) (h2 : -9223372036854775808 < d) (h3 : d ≤ -1) (h : (d.tmod 2 != 0) = true) (w : World) :
    Calls Tryd.prog 20 #[.int .i64 (-9223372036854775808), .int .i64 d] w fun e w' => e = .returned (refV ⟨0, 0, 3⟩) ∧ Below w.heap.size w w' := by
  have e1 : (d == -9223372036854775808) = false := by rw [beq_eq_false_iff_ne]; omega
  have e2 : ((-9223372036854775808 : Int) == d) = false := by rw [beq_eq_false_iff_ne]; omega
  go_enter Tryd.func20, Tryd.ntmps20
  go_wp2
  refine bodyPost_ret (v := .agg #[.int .i64 0, .int .i64 0, .int .i64 3]) (by simp [results, Tryd.results20, go_sem]) rfl ?_
  exact ⟨rfl, (by repeat (first | with_reducible exact Below.refl _ _ | with_reducible assumption | refine below_drewN ?_ _ | refine Below.drew ?_ | refine Below.alloc ?_ (by first | (simp; done) | (simp; omega) | omega) _ | refine Below.setCell ?_ (by first | (simp; done) | (simp; omega) | omega) _ | refine Below.trans ?_ (Below.mono (by assumption) (by first | (simp; done) | (simp; omega) | omega))))⟩

set_option maxHeartbeats 400000 in
theorem rmake_lneven (d m : Int) (r : Rt.Num) (hr : Hid (Rt.mk (-4611686018427387904) m = r)) (h2 : -9223372036854775808 < d) (h3 : d ≤ -1) (h : (d.tmod 2 == 0) = true) (hm : Hid (d.tdiv 2 = m))
    (m0 : -9223372036854775808 < m) (m1 : m ≤ 9223372036854775807) (w : World) :
    Calls Tryd.prog 20 #[.int .i64 (-9223372036854775808), .int .i64 d] w fun e w' => e = .returned (refV r) ∧ Below w.heap.size w w' := by
  have e1 : (d == -9223372036854775808) = false := by rw [beq_eq_false_iff_ne]; omega
  have e2 : ((-9223372036854775808 : Int) == d) = false := by rw [beq_eq_false_iff_ne]; omega
  go_enter Tryd.func20, Tryd.ntmps20
  go_wp2_with fail
  rw [hm.out]
  refine (rmake_mid (-4611686018427387904) m (by omega) (by omega) m0 m1 _).mono ?_
  rintro e w' ⟨he, hb1⟩
  rw [hr.out, refV_eq] at he
  subst he
  have hz_hb1 := hb1.size
  try simp at hz_hb1
  have hb1_k0 : w'.cell? ⟨w.heap.size, 0, none⟩ = some (.int .i64 0) := (hb1.cell (p := ⟨w.heap.size, 0, none⟩) (by first | (simp; done) | (simp; omega) | omega)).trans (by first | assumption | (simp [go_sem]; done) | simp [go_sem, *])
  have hb1_k1 : w'.cell? ⟨w.heap.size, 1, none⟩ = some (.int .i64 0) := (hb1.cell (p := ⟨w.heap.size, 1, none⟩) (by first | (simp; done) | (simp; omega) | omega)).trans (by first | assumption | (simp [go_sem]; done) | simp [go_sem, *])
  have hb1_k2 : w'.cell? ⟨w.heap.size, 2, none⟩ = some (.int .i64 0) := (hb1.cell (p := ⟨w.heap.size, 2, none⟩) (by first | (simp; done) | (simp; omega) | omega)).trans (by first | assumption | (simp [go_sem]; done) | simp [go_sem, *])
  have hb1_f : ∀ o, w'.frozen? ⟨w.heap.size, o, none⟩ = false := fun o => (hb1.frozen (p := ⟨w.heap.size, o, none⟩) (by first | (simp; done) | (simp; omega) | omega)).trans (by first | assumption | (simp [go_sem]; done) | simp [go_sem, *])
  have hb1_lt : w.heap.size < w'.heap.size := Nat.lt_of_lt_of_le (m := _) (by first | (simp; done) | (simp; omega) | omega) hb1.size
  go_wp2
  refine bodyPost_ret (v := .agg #[.int .i64 r.n, .int .i64 r.d, .int .i64 r.e]) (by simp [results, Tryd.results20, go_sem, hb1_k0, hb1_k1, hb1_k2]) rfl ?_
  exact ⟨rfl, (by repeat (first | with_reducible exact Below.refl _ _ | with_reducible assumption | refine below_drewN ?_ _ | refine Below.drew ?_ | refine Below.alloc ?_ (by first | (simp; done) | (simp; omega) | omega) _ | refine Below.setCell ?_ (by first | (simp; done) | (simp; omega) | omega) _ | refine Below.trans ?_ (Below.mono (by assumption) (by first | (simp; done) | (simp; omega) | omega))))⟩

theorem tmod2 (n : Int) : n.tmod 2 = 0 ↔ n % 2 = 0 := by
  rcases Int.lt_or_le n 0 with h | h
  · have : n.tmod 2 = -((-n) % 2) := by rw [← Int.neg_neg n, Int.neg_tmod, Int.tmod_eq_emod_of_nonneg (by omega), Int.neg_neg]
    omega
  · rw [Int.tmod_eq_emod_of_nonneg h]
theorem tdiv2 {n : Int} (h : n % 2 = 0) : 2 * n.tdiv 2 = n := by
  have := Int.mul_tdiv_add_tmod n 2
  have := (tmod2 n).2 h
  omega

theorem rmake_any (n d : Int) (h0 : -9223372036854775808 ≤ n) (h1 : n ≤ 9223372036854775807) (h2 : -9223372036854775808 ≤ d) (h3 : d ≤ 9223372036854775807) (w : World) :
    Calls Tryd.prog 20 #[.int .i64 n, .int .i64 d] w fun e w' => e = .returned (refV (Rt.mk n d)) ∧ Below w.heap.size w w' := by
  by_cases hd : d = -9223372036854775808
  · subst hd
    by_cases hn : n = -9223372036854775808
    · subst hn; rw [mk_same (by omega)]; exact rmake_same _ (by omega) w
    have hn' : (n == -9223372036854775808) = false := by rw [beq_eq_false_iff_ne]; exact hn
    by_cases hz : n = 0
    · subst hz; rw [mk_0 (by omega)]; exact rmake_ld0 w
    have hz' : (n == 0) = false := by rw [beq_eq_false_iff_ne]; exact hz
    by_cases he : n % 2 = 0
    · have e := tdiv2 he
      have ew : wrap64 (n.tdiv 2) = n.tdiv 2 := by unfold wrap64; omega
      have em : Rt.mk n (-9223372036854775808) = Rt.mk (n.tdiv 2) (-4611686018427387904) := by
        rw [← mk_half (n := n.tdiv 2), e]; rfl
      rw [em]
      exact rmake_ldeven n _ _ (Lib.hid rfl) hn' hz' (by rw [(tmod2 n).2 he]; rfl) (Lib.hid ew) (by omega) (by omega) w
    · rw [odd_den (by omega)]
      exact rmake_ldodd n hn' hz' (by rw [bne_iff_ne]; exact fun h => he ((tmod2 n).1 h)) w
  · by_cases hn : n = -9223372036854775808
    · subst hn
      rcases Int.lt_trichotomy d 0 with h | h | h
      · by_cases he : d % 2 = 0
        · have e := tdiv2 he
          have em : Rt.mk (-9223372036854775808) d = Rt.mk (-4611686018427387904) (d.tdiv 2) := by
            rw [← mk_half (d := d.tdiv 2), e]; rfl
          rw [em]
          exact rmake_lneven d _ _ (Lib.hid rfl) (by omega) (by omega) (by rw [(tmod2 d).2 he]; rfl) (Lib.hid rfl) (by omega) (by omega) w
        · rw [odd_num (by omega)]
          exact rmake_lnodd d (by omega) (by omega) (by rw [bne_iff_ne]; exact fun h => he ((tmod2 d).1 h)) w
      · subst h; exact rmake_zero _ w
      · exact rmake_pos' _ d _ (Lib.hid rfl) (by omega) (by omega) (by omega) h3 w
    · exact rmake_mid n d (by omega) h1 (by omega) h3 w
end Go.Proofs.YtffabmojbelaaaaDoor
