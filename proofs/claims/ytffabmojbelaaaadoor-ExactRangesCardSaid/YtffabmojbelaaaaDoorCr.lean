/- Meet, Hull, Sum, Scale, Whole and Has: what package exact and its specification answer, side by side. -/
import Derived.Test.YtffabmojbelaaaaDoorCa
import Derived.Test.YtffabmojbelaaaaDoorCs
import Derived.Test.YtffabmojbelaaaaDoorS
namespace Go.Proofs.YtffabmojbelaaaaDoor
open Go.RowKit

theorem rmn_le_eq {P Q : Rat} (h : P ≤ Q) : Rt.rmn P Q = P := by unfold Rt.rmn; rw [if_neg (Rat.not_lt.2 h)]
theorem rmx_le_eq {P Q : Rat} (h : P ≤ Q) : Rt.rmx P Q = Q := by unfold Rt.rmx; rw [if_neg (Rat.not_lt.2 h)]
theorem rmn_ge_eq {P Q : Rat} (h : Q ≤ P) : Rt.rmn P Q = Q := by
  unfold Rt.rmn
  by_cases g : Q < P
  · rw [if_pos g]
  · rw [if_neg g]; exact Rat.le_antisymm (Rat.not_lt.1 g) h
theorem rmx_ge_eq {P Q : Rat} (h : Q ≤ P) : Rt.rmx P Q = P := by
  unfold Rt.rmx
  by_cases g : Q < P
  · rw [if_pos g]
  · rw [if_neg g]; exact Rat.le_antisymm h (Rat.not_lt.1 g)

/-- what both answers of the two ends U and V -/
def endsV (U V : Rat) : Value :=
  if Rt.Fits U then if Rt.Fits V then .agg #[.int .i64 U.num, .int .i64 (U.den : Int), .int .i64 V.num, .int .i64 (V.den : Int), .int .i64 0] else .agg #[.int .i64 0, .int .i64 0, .int .i64 0, .int .i64 0, .int .i64 3] else .agg #[.int .i64 0, .int .i64 0, .int .i64 0, .int .i64 0, .int .i64 3]

theorem both_fit (U V : Rat) (W : World) :
    Calls Tryd.prog 106 #[.agg #[.int .i64 (Rt.fit U).n, .int .i64 (Rt.fit U).d, .int .i64 (Rt.fit U).e], .agg #[.int .i64 (Rt.fit V).n, .int .i64 (Rt.fit V).d, .int .i64 (Rt.fit V).e]] W fun e w' => e = .returned (endsV U V) ∧ Below W.heap.size W w' := by
  unfold endsV
  by_cases hU : Rt.Fits U
  · rw [if_pos hU, Rt.fit_yes hU]
    by_cases hV : Rt.Fits V
    · rw [if_pos hV, Rt.fit_yes hV]
      exact both_ok _ _ _ _ W
    · rw [if_neg hV, Rt.fit_no hV]
      exact both_e2 _ _ _ _ 3 (by decide) W
  · rw [if_neg hU, Rt.fit_no hU]
    exact both_e1 _ _ _ _ 3 _ (by decide) W

theorem sp_le {U V : Rat} (h : U ≤ V) : ∃ s1 s2 s3 s4 e : Int, spR U V = rngV s1 s2 s3 s4 e ∧ endsV U V = .agg #[.int .i64 s1, .int .i64 s2, .int .i64 s3, .int .i64 s4, .int .i64 e] := by
  unfold spR endsV
  rw [rmn_le_eq h, rmx_le_eq h]
  by_cases hU : Rt.Fits U
  · by_cases hV : Rt.Fits V
    · rw [if_pos hU, if_pos hV, if_pos hU, if_pos hV]; exact ⟨_, _, _, _, _, rfl, rfl⟩
    · rw [if_pos hU, if_neg hV, if_pos hU, if_neg hV]; exact ⟨_, _, _, _, _, rfl, rfl⟩
  · rw [if_neg hU, if_neg hU]; exact ⟨_, _, _, _, _, rfl, rfl⟩
theorem sp_ge {U V : Rat} (h : V ≤ U) : ∃ s1 s2 s3 s4 e : Int, spR U V = rngV s1 s2 s3 s4 e ∧ endsV V U = .agg #[.int .i64 s1, .int .i64 s2, .int .i64 s3, .int .i64 s4, .int .i64 e] := by
  unfold spR endsV
  rw [rmn_ge_eq h, rmx_ge_eq h]
  by_cases hU : Rt.Fits U
  · by_cases hV : Rt.Fits V
    · rw [if_pos hU, if_pos hV, if_pos hV, if_pos hU]; exact ⟨_, _, _, _, _, rfl, rfl⟩
    · rw [if_pos hU, if_neg hV, if_neg hV]; exact ⟨_, _, _, _, _, rfl, rfl⟩
  · by_cases hV : Rt.Fits V
    · rw [if_neg hU, if_pos hV, if_neg hU]; exact ⟨_, _, _, _, _, rfl, rfl⟩
    · rw [if_neg hU, if_neg hV]; exact ⟨_, _, _, _, _, rfl, rfl⟩

theorem radd_rat {A B : Rat} (hA : Rt.Fits A) (hB : Rt.Fits B) (W : World) :
    Calls Tryd.prog 33 #[.agg #[.int .i64 A.num, .int .i64 (A.den : Int)], .agg #[.int .i64 B.num, .int .i64 (B.den : Int)]] W fun e w' => e = .returned (.agg #[.int .i64 (Rt.fit (A + B)).n, .int .i64 (Rt.fit (A + B)).d, .int .i64 (Rt.fit (A + B)).e]) ∧ Below W.heap.size W w' := by
  have ⟨a1, a2, a3, a4⟩ := hA.bd
  have ⟨b1, b2, b3, b4⟩ := hB.bd
  have h := radd A.num A.den B.num B.den ⟨a1, a2⟩ ⟨a3, a4⟩ ⟨b1, b2⟩ ⟨b3, b4⟩ W
  rw [Rt.add_mk] at h
  exact h
theorem rmul_rat {A B : Rat} (hA : Rt.Fits A) (hB : Rt.Fits B) (W : World) :
    Calls Tryd.prog 35 #[.agg #[.int .i64 A.num, .int .i64 (A.den : Int)], .agg #[.int .i64 B.num, .int .i64 (B.den : Int)]] W fun e w' => e = .returned (.agg #[.int .i64 (Rt.fit (A * B)).n, .int .i64 (Rt.fit (A * B)).d, .int .i64 (Rt.fit (A * B)).e]) ∧ Below W.heap.size W w' := by
  have ⟨a1, a2, a3, a4⟩ := hA.bd
  have ⟨b1, b2, b3, b4⟩ := hB.bd
  have h := rmul A.num A.den B.num B.den ⟨a1, a2⟩ ⟨a3, a4⟩ ⟨b1, b2⟩ ⟨b3, b4⟩ W
  rw [Rt.mul_mk] at h
  exact h

theorem sum_pair {L H L' H' : Rat} (hL : Rt.Fits L) (hH : Rt.Fits H) (h : L ≤ H) (hL' : Rt.Fits L') (hH' : Rt.Fits H') (h' : L' ≤ H') : ∃ s1 s2 s3 s4 e : Int,
    (∀ W : World, Calls Tryd.prog 59 #[.agg #[.int .i64 L.num, .int .i64 (L.den : Int), .int .i64 H.num, .int .i64 (H.den : Int)], .agg #[.int .i64 L'.num, .int .i64 (L'.den : Int), .int .i64 H'.num, .int .i64 (H'.den : Int)]] W fun e' w' => e' = .returned (.tuple #[.agg #[.int .i64 s1, .int .i64 s2, .int .i64 s3, .int .i64 s4], .int .i64 e]) ∧ Below W.heap.size W w') ∧
    (∀ W : World, Calls Tryd.prog 65 #[.agg #[.int .i64 L.num, .int .i64 (L.den : Int), .int .i64 H.num, .int .i64 (H.den : Int)], .agg #[.int .i64 L'.num, .int .i64 (L'.den : Int), .int .i64 H'.num, .int .i64 (H'.den : Int)]] W fun e' w' => e' = .returned (.agg #[.int .i64 s1, .int .i64 s2, .int .i64 s3, .int .i64 s4, .int .i64 e]) ∧ Below W.heap.size W w') := by
  obtain ⟨s1, s2, s3, s4, e, g1, g2⟩ := sp_le (U := L + L') (V := H + H') (Rat.le_trans (Rat.add_le_add_right.2 h) (Rat.add_le_add_left.2 h'))
  refine ⟨s1, s2, s3, s4, e, fun W => sum_with _ _ _ _ _ _ _ _ s1 s2 s3 s4 e W (vr_of hL hH h) (vr_of hL' hH' h') (Lib.hid fun W => ?_), fun W => rsum_with _ _ _ _ _ _ _ _ _ _ _ _ _ _ s1 s2 s3 s4 e W (Lib.hid (radd_rat hL hL')) (Lib.hid (radd_rat hH hH')) (Lib.hid fun W => ?_)⟩
  · have t := spadd_rat hL hL' hH hH' W
    rw [g1] at t
    exact t
  · have t := both_fit (L + L') (H + H') W
    rw [g2] at t
    exact t

theorem scl_pair {L H B : Rat} (hL : Rt.Fits L) (hH : Rt.Fits H) (h : L ≤ H) (hB : Rt.Fits B) : ∃ s1 s2 s3 s4 e : Int,
    (∀ W : World, Calls Tryd.prog 60 #[.agg #[.int .i64 L.num, .int .i64 (L.den : Int), .int .i64 H.num, .int .i64 (H.den : Int)], .agg #[.int .i64 B.num, .int .i64 (B.den : Int)]] W fun e' w' => e' = .returned (.tuple #[.agg #[.int .i64 s1, .int .i64 s2, .int .i64 s3, .int .i64 s4], .int .i64 e]) ∧ Below W.heap.size W w') ∧
    (∀ W : World, Calls Tryd.prog 66 #[.agg #[.int .i64 L.num, .int .i64 (L.den : Int), .int .i64 H.num, .int .i64 (H.den : Int)], .agg #[.int .i64 B.num, .int .i64 (B.den : Int)]] W fun e' w' => e' = .returned (.agg #[.int .i64 s1, .int .i64 s2, .int .i64 s3, .int .i64 s4, .int .i64 e]) ∧ Below W.heap.size W w') := by
  by_cases hn : B.num < 0
  · have hB0 : B ≤ 0 := by
      rcases Rat.le_total (a := 0) (b := B) with g | g
      · exact absurd (Rat.num_nonneg.2 g) (by omega)
      · exact g
    have hle : H * B ≤ L * B := by
      have g : 0 ≤ -B := by have := Rat.neg_le_neg hB0; simpa using this
      have t := Rat.neg_le_neg (Rat.mul_le_mul_of_nonneg_right h g)
      simpa only [Rat.mul_neg, Rat.neg_neg] using t
    obtain ⟨s1, s2, s3, s4, e, g1, g2⟩ := sp_ge (U := L * B) (V := H * B) hle
    refine ⟨s1, s2, s3, s4, e, fun W => scl_with _ _ _ _ _ _ s1 s2 s3 s4 e W (vr_of hL hH h) hB.vld (Lib.hid fun W => ?_), fun W => rscl_neg _ _ _ _ _ _ _ _ _ _ _ _ s1 s2 s3 s4 e hn W (Lib.hid (rmul_rat hH hB)) (Lib.hid (rmul_rat hL hB)) (Lib.hid fun W => ?_)⟩
    · have t := spmul_rat hL hB hH hB W
      rw [g1] at t
      exact t
    · have t := both_fit (H * B) (L * B) W
      rw [g2] at t
      exact t
  · have hB0 : 0 ≤ B := Rat.num_nonneg.1 (by omega)
    obtain ⟨s1, s2, s3, s4, e, g1, g2⟩ := sp_le (U := L * B) (V := H * B) (Rat.mul_le_mul_of_nonneg_right h hB0)
    refine ⟨s1, s2, s3, s4, e, fun W => scl_with _ _ _ _ _ _ s1 s2 s3 s4 e W (vr_of hL hH h) hB.vld (Lib.hid fun W => ?_), fun W => rscl_pos _ _ _ _ _ _ _ _ _ _ _ _ s1 s2 s3 s4 e (by omega) W (Lib.hid (rmul_rat hL hB)) (Lib.hid (rmul_rat hH hB)) (Lib.hid fun W => ?_)⟩
    · have t := spmul_rat hL hB hH hB W
      rw [g1] at t
      exact t
    · have t := both_fit (L * B) (H * B) W
      rw [g2] at t
      exact t

theorem meet_pair {L H L' H' : Rat} (hL : Rt.Fits L) (hH : Rt.Fits H) (h : L ≤ H) (hL' : Rt.Fits L') (hH' : Rt.Fits H') (h' : L' ≤ H') : ∃ s1 s2 s3 s4 e : Int,
    (∀ W : World, Calls Tryd.prog 57 #[.agg #[.int .i64 L.num, .int .i64 (L.den : Int), .int .i64 H.num, .int .i64 (H.den : Int)], .agg #[.int .i64 L'.num, .int .i64 (L'.den : Int), .int .i64 H'.num, .int .i64 (H'.den : Int)]] W fun e' w' => e' = .returned (.tuple #[.agg #[.int .i64 s1, .int .i64 s2, .int .i64 s3, .int .i64 s4], .int .i64 e]) ∧ Below W.heap.size W w') ∧
    (∀ W : World, Calls Tryd.prog 63 #[.agg #[.int .i64 L.num, .int .i64 (L.den : Int), .int .i64 H.num, .int .i64 (H.den : Int)], .agg #[.int .i64 L'.num, .int .i64 (L'.den : Int), .int .i64 H'.num, .int .i64 (H'.den : Int)]] W fun e' w' => e' = .returned (.agg #[.int .i64 s1, .int .i64 s2, .int .i64 s3, .int .i64 s4, .int .i64 e]) ∧ Below W.heap.size W w') := by
  have fl := Rt.rmx_fits hL hL'
  have fh := Rt.rmn_fits hH hH'
  have ⟨a1, a2, a3, a4⟩ := fh.bd
  have ⟨b1, b2, b3, b4⟩ := fl.bd
  have HL : ∀ t : Bool, decide (Rt.rmn H H' < Rt.rmx L L') = t → ∀ W : World, Calls Tryd.prog 88 #[.agg #[.int .i64 (Rt.rmn H H').num, .int .i64 ((Rt.rmn H H').den : Int)], .agg #[.int .i64 (Rt.rmx L L').num, .int .i64 ((Rt.rmx L L').den : Int)]] W fun e w' => e = .returned (.bool t) ∧ Below W.heap.size W w' := fun t ht W => by
    refine (less_any _ _ _ _ ⟨a1, a2⟩ ⟨a3, a4⟩ ⟨b1, b2⟩ ⟨b3, b4⟩ W).mono fun _ _ ⟨he, hb⟩ => ⟨?_, hb⟩
    rw [he, ← ht]
    simp only [Rat.lt_iff]
  by_cases g : Rt.rmn H H' < Rt.rmx L L'
  · refine ⟨0, 0, 0, 0, 5, fun W => ?_, fun W => rmeet_none _ _ _ _ _ _ _ _ _ _ _ _ W (Lib.hid (gr_rat hL hL')) (Lib.hid (ls_rat hH hH')) (Lib.hid (HL true (decide_eq_true g)))⟩
    have t := meet_rat hL hH h hL' hH' h' W
    rw [if_pos g] at t
    exact t
  · refine ⟨_, _, _, _, 0, fun W => ?_, fun W => rmeet_ok _ _ _ _ _ _ _ _ _ _ _ _ W (Lib.hid (gr_rat hL hL')) (Lib.hid (ls_rat hH hH')) (Lib.hid (HL false (decide_eq_false g)))⟩
    have t := meet_rat hL hH h hL' hH' h' W
    rw [if_neg g] at t
    exact t

theorem hull_pair {L H L' H' : Rat} (hL : Rt.Fits L) (hH : Rt.Fits H) (h : L ≤ H) (hL' : Rt.Fits L') (hH' : Rt.Fits H') (h' : L' ≤ H') : ∃ s1 s2 s3 s4 : Int,
    (∀ W : World, Calls Tryd.prog 58 #[.agg #[.int .i64 L.num, .int .i64 (L.den : Int), .int .i64 H.num, .int .i64 (H.den : Int)], .agg #[.int .i64 L'.num, .int .i64 (L'.den : Int), .int .i64 H'.num, .int .i64 (H'.den : Int)]] W fun e' w' => e' = .returned (.tuple #[.agg #[.int .i64 s1, .int .i64 s2, .int .i64 s3, .int .i64 s4], .int .i64 0]) ∧ Below W.heap.size W w') ∧
    (∀ W : World, Calls Tryd.prog 64 #[.agg #[.int .i64 L.num, .int .i64 (L.den : Int), .int .i64 H.num, .int .i64 (H.den : Int)], .agg #[.int .i64 L'.num, .int .i64 (L'.den : Int), .int .i64 H'.num, .int .i64 (H'.den : Int)]] W fun e' w' => e' = .returned (.agg #[.int .i64 s1, .int .i64 s2, .int .i64 s3, .int .i64 s4]) ∧ Below W.heap.size W w') :=
  ⟨_, _, _, _, fun W => hull_rat hL hH h hL' hH' h' W, fun W => rhull_with _ _ _ _ _ _ _ _ _ _ _ _ W (Lib.hid (ls_rat hL hL')) (Lib.hid (gr_rat hH hH'))⟩

theorem has_pair {a b c d p q : Int} (h : vrP a b c d) (h2 : Rt.vldP p q) : ∃ t : Bool,
    (∀ W : World, Calls Tryd.prog 55 #[.agg #[.int .i64 a, .int .i64 b, .int .i64 c, .int .i64 d], .agg #[.int .i64 p, .int .i64 q]] W fun e w' => e = .returned (.bool t) ∧ Below W.heap.size W w') ∧
    (∀ W : World, Calls Tryd.prog 56 #[.agg #[.int .i64 a, .int .i64 b, .int .i64 c, .int .i64 d], .agg #[.int .i64 p, .int .i64 q]] W fun e w' => e = .returned (.bool t) ∧ Below W.heap.size W w') := by
  have ⟨⟨x1, x2, x3, x4, _⟩, ⟨y1, y2, y3, y4, _⟩, _⟩ := h
  have ⟨z1, z2, z3, z4, _⟩ := h2
  exact ⟨_, fun W => has_ok a b c d p q W h h2, fun W => rhas a b c d p q ⟨x3, x4⟩ ⟨x1, x2⟩ ⟨y3, y4⟩ ⟨y1, y2⟩ ⟨z3, z4⟩ ⟨z1, z2⟩ _ _ (Lib.hid rfl) (Lib.hid rfl) W⟩
end Go.Proofs.YtffabmojbelaaaaDoor
