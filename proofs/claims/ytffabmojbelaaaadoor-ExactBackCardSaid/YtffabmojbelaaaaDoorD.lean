/- Contracts of the specification's Sub, Div, Cmp, Part, and of package exact's rounding and comparing. -/
import Derived.Test.YtffabmojbelaaaaDoorC
namespace Go.Proofs.YtffabmojbelaaaaDoor
open Go.RowKit

set_option maxHeartbeats 400000 in
theorem rsub (a b c d : Int) (h1 : -2147483647 ≤ a ∧ a ≤ 2147483647) (h2 : 1 ≤ b ∧ b ≤ 2147483647) (h3 : -2147483647 ≤ c ∧ c ≤ 2147483647) (h4 : 1 ≤ d ∧ d ≤ 2147483647) (w : World) :
    Calls Tryd.prog 34 #[.agg #[.int .i64 a, .int .i64 b], .agg #[.int .i64 c, .int .i64 d]] w fun e w' => e = .returned (refV (Rt.mk (a * d - c * b) (b * d))) ∧ Below w.heap.size w w' := by
  obtain ⟨r, hr⟩ : ∃ r, Rt.mk (a * d + (-c) * b) (b * d) = r := ⟨_, rfl⟩
  have hr2 : Rt.mk (a * d - c * b) (b * d) = r := by rw [← hr]; congr 1; grind
  rw [hr2]
  replace hr := Lib.hid hr
  clear hr2
  go_enter Tryd.func34, Tryd.ntmps34
  go_wp2_with fail
  go_region_with (first
    | (go_at_call 30
       refine (rneg_any c d (by omega) (by omega) _).mono ?_
       rintro e w1 ⟨rfl, hb1⟩
       have hz_hb1 := hb1.size
       try simp at hz_hb1
       have hb1_0_k0 : w1.cell? ⟨w.heap.size, 0, none⟩ = some (.int .i64 a) := (hb1.cell (p := ⟨w.heap.size, 0, none⟩) (by first | (simp; done) | (simp; omega) | omega)).trans (by first | assumption | (simp [go_sem]; done) | simp [go_sem, *])
       have hb1_0_k1 : w1.cell? ⟨w.heap.size, 1, none⟩ = some (.int .i64 b) := (hb1.cell (p := ⟨w.heap.size, 1, none⟩) (by first | (simp; done) | (simp; omega) | omega)).trans (by first | assumption | (simp [go_sem]; done) | simp [go_sem, *])
       have hb1_0_f : ∀ o, w1.frozen? ⟨w.heap.size, o, none⟩ = false := fun o => (hb1.frozen (p := ⟨w.heap.size, o, none⟩) (by first | (simp; done) | (simp; omega) | omega)).trans (by first | assumption | (simp [go_sem]; done) | simp [go_sem, *])
       have hb1_0_lt : w.heap.size < w1.heap.size := Nat.lt_of_lt_of_le (m := _) (by first | (simp; done) | (simp; omega) | omega) hb1.size
       have hb1_2_k0 : w1.cell? ⟨w.heap.size + 1 + 1, 0, none⟩ = some (.int .i64 0) := (hb1.cell (p := ⟨w.heap.size + 1 + 1, 0, none⟩) (by first | (simp; done) | (simp; omega) | omega)).trans (by first | assumption | (simp [go_sem]; done) | simp [go_sem, *])
       have hb1_2_k1 : w1.cell? ⟨w.heap.size + 1 + 1, 1, none⟩ = some (.int .i64 0) := (hb1.cell (p := ⟨w.heap.size + 1 + 1, 1, none⟩) (by first | (simp; done) | (simp; omega) | omega)).trans (by first | assumption | (simp [go_sem]; done) | simp [go_sem, *])
       have hb1_2_k2 : w1.cell? ⟨w.heap.size + 1 + 1, 2, none⟩ = some (.int .i64 0) := (hb1.cell (p := ⟨w.heap.size + 1 + 1, 2, none⟩) (by first | (simp; done) | (simp; omega) | omega)).trans (by first | assumption | (simp [go_sem]; done) | simp [go_sem, *])
       have hb1_2_f : ∀ o, w1.frozen? ⟨w.heap.size + 1 + 1, o, none⟩ = false := fun o => (hb1.frozen (p := ⟨w.heap.size + 1 + 1, o, none⟩) (by first | (simp; done) | (simp; omega) | omega)).trans (by first | assumption | (simp [go_sem]; done) | simp [go_sem, *])
       have hb1_2_lt : w.heap.size + 1 + 1 < w1.heap.size := Nat.lt_of_lt_of_le (m := _) (by first | (simp; done) | (simp; omega) | omega) hb1.size
       skip)
    | (go_at_call 33
       (refine (radd a b (-c) d (by omega) (by omega) (by omega) (by omega) _).mono ?_)
       (rintro e w2 ⟨he, hb2⟩)
       (rw [hr.out, refV_eq] at he)
       (subst he)
       have hz_hb2 := hb2.size
       try simp at hz_hb2
       have hb2_2_k0 : w2.cell? ⟨w.heap.size + 1 + 1, 0, none⟩ = some (.int .i64 0) := (hb2.cell (p := ⟨w.heap.size + 1 + 1, 0, none⟩) (by first | (simp; done) | (simp; omega) | omega)).trans (by first | assumption | (simp [go_sem]; done) | simp [go_sem, *])
       have hb2_2_k1 : w2.cell? ⟨w.heap.size + 1 + 1, 1, none⟩ = some (.int .i64 0) := (hb2.cell (p := ⟨w.heap.size + 1 + 1, 1, none⟩) (by first | (simp; done) | (simp; omega) | omega)).trans (by first | assumption | (simp [go_sem]; done) | simp [go_sem, *])
       have hb2_2_k2 : w2.cell? ⟨w.heap.size + 1 + 1, 2, none⟩ = some (.int .i64 0) := (hb2.cell (p := ⟨w.heap.size + 1 + 1, 2, none⟩) (by first | (simp; done) | (simp; omega) | omega)).trans (by first | assumption | (simp [go_sem]; done) | simp [go_sem, *])
       have hb2_2_f : ∀ o, w2.frozen? ⟨w.heap.size + 1 + 1, o, none⟩ = false := fun o => (hb2.frozen (p := ⟨w.heap.size + 1 + 1, o, none⟩) (by first | (simp; done) | (simp; omega) | omega)).trans (by first | assumption | (simp [go_sem]; done) | simp [go_sem, *])
       have hb2_2_lt : w.heap.size + 1 + 1 < w2.heap.size := Nat.lt_of_lt_of_le (m := _) (by first | (simp; done) | (simp; omega) | omega) hb2.size
       skip))
  all_goals
    go_wp2
    refine bodyPost_ret (v := .agg #[.int .i64 r.n, .int .i64 r.d, .int .i64 r.e]) (by simp [results, Tryd.results34, go_sem, *]) rfl ?_
    exact ⟨rfl, (by repeat (first | with_reducible exact Below.refl _ _ | with_reducible assumption | refine below_drewN ?_ _ | refine Below.drew ?_ | refine Below.alloc ?_ (by first | (simp; done) | (simp; omega) | omega) _ | refine Below.setCell ?_ (by first | (simp; done) | (simp; omega) | omega) _ | refine Below.trans ?_ (Below.mono (by assumption) (by first | (simp; done) | (simp; omega) | omega))))⟩

set_option maxHeartbeats 400000 in
theorem rcmp (a b c d : Int) (h1 : -2147483647 ≤ a ∧ a ≤ 2147483647) (h2 : 1 ≤ b ∧ b ≤ 2147483647) (h3 : -2147483647 ≤ c ∧ c ≤ 2147483647) (h4 : 1 ≤ d ∧ d ≤ 2147483647) (w : World) :
    Calls Tryd.prog 32 #[.agg #[.int .i64 a, .int .i64 b], .agg #[.int .i64 c, .int .i64 d]] w fun e w' => e = .returned (.int .i64 (Rt.cmpZ (a * d) (c * b))) ∧ Below w.heap.size w w' := by
  go_enter Tryd.func32, Tryd.ntmps32
  go_wp2_with fail
  refine (less_any a b c d h1 h2 h3 h4 _).mono ?_
  rintro e w1 ⟨rfl, hb1⟩
  have hz_hb1 := hb1.size
  try simp at hz_hb1
  have hb1_0_k0 : w1.cell? ⟨w.heap.size, 0, none⟩ = some (.int .i64 a) := (hb1.cell (p := ⟨w.heap.size, 0, none⟩) (by first | (simp; done) | (simp; omega) | omega)).trans (by first | assumption | (simp [go_sem]; done) | simp [go_sem, *])
  have hb1_0_k1 : w1.cell? ⟨w.heap.size, 1, none⟩ = some (.int .i64 b) := (hb1.cell (p := ⟨w.heap.size, 1, none⟩) (by first | (simp; done) | (simp; omega) | omega)).trans (by first | assumption | (simp [go_sem]; done) | simp [go_sem, *])
  have hb1_0_f : ∀ o, w1.frozen? ⟨w.heap.size, o, none⟩ = false := fun o => (hb1.frozen (p := ⟨w.heap.size, o, none⟩) (by first | (simp; done) | (simp; omega) | omega)).trans (by first | assumption | (simp [go_sem]; done) | simp [go_sem, *])
  have hb1_0_lt : w.heap.size < w1.heap.size := Nat.lt_of_lt_of_le (m := _) (by first | (simp; done) | (simp; omega) | omega) hb1.size
  have hb1_1_k0 : w1.cell? ⟨w.heap.size + 1, 0, none⟩ = some (.int .i64 c) := (hb1.cell (p := ⟨w.heap.size + 1, 0, none⟩) (by first | (simp; done) | (simp; omega) | omega)).trans (by first | assumption | (simp [go_sem]; done) | simp [go_sem, *])
  have hb1_1_k1 : w1.cell? ⟨w.heap.size + 1, 1, none⟩ = some (.int .i64 d) := (hb1.cell (p := ⟨w.heap.size + 1, 1, none⟩) (by first | (simp; done) | (simp; omega) | omega)).trans (by first | assumption | (simp [go_sem]; done) | simp [go_sem, *])
  have hb1_1_f : ∀ o, w1.frozen? ⟨w.heap.size + 1, o, none⟩ = false := fun o => (hb1.frozen (p := ⟨w.heap.size + 1, o, none⟩) (by first | (simp; done) | (simp; omega) | omega)).trans (by first | assumption | (simp [go_sem]; done) | simp [go_sem, *])
  have hb1_1_lt : w.heap.size + 1 < w1.heap.size := Nat.lt_of_lt_of_le (m := _) (by first | (simp; done) | (simp; omega) | omega) hb1.size
  go_wp2_with fail
  refine (less_any c d a b h3 h4 h1 h2 _).mono ?_
  rintro e w2 ⟨rfl, hb2⟩
  have hz2 := hb2.size
  by_cases x1 : a * d < c * b
  · have x2 : ¬ c * b < a * d := by omega
    go_wp2
    go_ret
    exact ⟨ret_i64 (by unfold Rt.cmpZ; rw [if_pos x1]), (by repeat (first | with_reducible exact Below.refl _ _ | with_reducible assumption | refine below_drewN ?_ _ | refine Below.drew ?_ | refine Below.alloc ?_ (by first | (simp; done) | (simp; omega) | omega) _ | refine Below.setCell ?_ (by first | (simp; done) | (simp; omega) | omega) _ | refine Below.trans ?_ (Below.mono (by assumption) (by first | (simp; done) | (simp; omega) | omega))))⟩
  · by_cases x2 : c * b < a * d
    · go_wp2
      go_ret
      exact ⟨ret_i64 (by unfold Rt.cmpZ; rw [if_neg (by omega), if_pos x2]), (by repeat (first | with_reducible exact Below.refl _ _ | with_reducible assumption | refine below_drewN ?_ _ | refine Below.drew ?_ | refine Below.alloc ?_ (by first | (simp; done) | (simp; omega) | omega) _ | refine Below.setCell ?_ (by first | (simp; done) | (simp; omega) | omega) _ | refine Below.trans ?_ (Below.mono (by assumption) (by first | (simp; done) | (simp; omega) | omega))))⟩
    · go_wp2
      go_ret
      exact ⟨ret_i64 (by unfold Rt.cmpZ; rw [if_neg (by omega), if_neg (by omega)]), (by repeat (first | with_reducible exact Below.refl _ _ | with_reducible assumption | refine below_drewN ?_ _ | refine Below.drew ?_ | refine Below.alloc ?_ (by first | (simp; done) | (simp; omega) | omega) _ | refine Below.setCell ?_ (by first | (simp; done) | (simp; omega) | omega) _ | refine Below.trans ?_ (Below.mono (by assumption) (by first | (simp; done) | (simp; omega) | omega))))⟩

set_option maxHeartbeats 400000 in
theorem flo_any (n d : Int) (h0 : -9223372036854775808 ≤ n) (h1 : n ≤ 9223372036854775807) (h2 : 1 ≤ d) (w : World) :
    Calls Tryd.prog 89 #[.int .i64 n, .int .i64 d] w fun e w' => e = .returned (.int .i64 (n / d)) ∧ w' = w := by
  have he := fl_eq (n := n) h2
  have hb := fl_bd (n := n) h2 h0 h1
  by_cases hm : n.tmod d < 0
  · have e1 := Lib.hid (he.1 hm)
    have e2 := Lib.hid (w64 (x := n.tdiv d - 1) (by rw [← e1.out]; exact hb)).2
    clear he hb
    go_enter Tryd.func89, Tryd.ntmps89
    go_wp2
    go_ret
    exact ⟨ret_i64 (by rw [e1.out, e2.out]), rfl⟩
  · have e1 := Lib.hid (he.2 hm)
    clear he hb
    go_enter Tryd.func89, Tryd.ntmps89
    go_wp2
    go_ret
    exact ⟨ret_i64 (by rw [e1.out]), rfl⟩

set_option maxHeartbeats 400000 in
theorem cei_any (n d : Int) (h0 : -9223372036854775807 ≤ n) (h1 : n ≤ 9223372036854775807) (h2 : 1 ≤ d) (w : World) :
    Calls Tryd.prog 90 #[.int .i64 n, .int .i64 d] w fun e w' => e = .returned (.int .i64 (Rt.cl n d)) ∧ w' = w := by
  have hb := cl_bd (n := n) h2 h0 h1
  have e1 : Rt.cl n d = -((-n) / d) := rfl
  rw [e1] at hb
  go_enter Tryd.func90, Tryd.ntmps90
  go_wp2_with fail
  refine (flo_any (-n) d (by omega) (by omega) h2 _).mono ?_
  rintro e w' ⟨rfl, hw⟩
  subst hw
  go_wp2
  go_ret
  exact ⟨ret_i64 e1.symm, rfl⟩

set_option maxHeartbeats 400000 in
theorem allv_yes (a b c d : Int) (w : World) (h1 : Rt.vldP a b) (h2 : Rt.vldP c d) (g : Nat) (hg : g < w.heap.size) (c0 : w.cell? ⟨g, 0, none⟩ = some (.int .i64 a)) (c1 : w.cell? ⟨g, 1, none⟩ = some (.int .i64 b)) (c2 : w.cell? ⟨g, 2, none⟩ = some (.int .i64 c)) (c3 : w.cell? ⟨g, 3, none⟩ = some (.int .i64 d)) :
    Calls Tryd.prog 80 #[.slice (some ⟨g, 0, none⟩) 2 2] w fun e w' => e = .returned (.bool true) ∧ Below w.heap.size w w' := by
  go_enter Tryd.func80, Tryd.ntmps80
  go_wp2_with fail
  go_loopw [7] (fun i wr => ∃ k : Nat, k ≤ 2 ∧ i = .int .i64 k ∧ Below w.heap.size w wr) (fun i _ => 2 - (intOf i).toNat)
  case atStart => exact ⟨0, by omega, rfl, Below.refl _ _⟩
  case round =>
    obtain ⟨k, hk, rfl, hb⟩ := hrel
    have hz := hb.size
    have r0 := (hb.cell (p := ⟨g, 0, none⟩) hg).trans c0
    have r1 := (hb.cell (p := ⟨g, 1, none⟩) hg).trans c1
    have r2 := (hb.cell (p := ⟨g, 2, none⟩) hg).trans c2
    have r3 := (hb.cell (p := ⟨g, 3, none⟩) hg).trans c3
    clear c0 c1 c2 c3
    match k, hk with
    | 0, _ =>
      go_wp2_with fail
      refine (valid_yes a b _ h1).mono ?_
      rintro e w1 ⟨rfl, hb1⟩
      go_wp2
      go_roundw
      case rel => exact ⟨1, by omega, rfl, (by repeat (first | with_reducible exact Below.refl _ _ | with_reducible assumption | refine below_drewN ?_ _ | refine Below.drew ?_ | refine Below.alloc ?_ (by first | (simp; done) | (simp; omega) | omega) _ | refine Below.setCell ?_ (by first | (simp; done) | (simp; omega) | omega) _ | refine Below.trans ?_ (Below.mono (by assumption) (by first | (simp; done) | (simp; omega) | omega))))⟩
      case measure => simp [intOf]
    | 1, _ =>
      go_wp2_with fail
      refine (valid_yes c d _ h2).mono ?_
      rintro e w1 ⟨rfl, hb1⟩
      go_wp2
      go_roundw
      case rel => exact ⟨2, by omega, rfl, (by repeat (first | with_reducible exact Below.refl _ _ | with_reducible assumption | refine below_drewN ?_ _ | refine Below.drew ?_ | refine Below.alloc ?_ (by first | (simp; done) | (simp; omega) | omega) _ | refine Below.setCell ?_ (by first | (simp; done) | (simp; omega) | omega) _ | refine Below.trans ?_ (Below.mono (by assumption) (by first | (simp; done) | (simp; omega) | omega))))⟩
      case measure => simp [intOf]
    | 2, _ =>
      go_wp2_with fail
      go_ret
      exact ⟨rfl, hb⟩

set_option maxHeartbeats 400000 in
theorem allv_not (a b c d : Int) (w : World) (h : ¬ (Rt.vldP a b ∧ Rt.vldP c d)) (g : Nat) (hg : g < w.heap.size) (c0 : w.cell? ⟨g, 0, none⟩ = some (.int .i64 a)) (c1 : w.cell? ⟨g, 1, none⟩ = some (.int .i64 b)) (c2 : w.cell? ⟨g, 2, none⟩ = some (.int .i64 c)) (c3 : w.cell? ⟨g, 3, none⟩ = some (.int .i64 d)) :
    Calls Tryd.prog 80 #[.slice (some ⟨g, 0, none⟩) 2 2] w fun e w' => e = .returned (.bool false) ∧ Below w.heap.size w w' := by
  replace h := Lib.hid h
  go_enter Tryd.func80, Tryd.ntmps80
  go_wp2_with fail
  go_loopw [7] (fun i wr => ∃ k : Nat, k ≤ 2 ∧ i = .int .i64 k ∧ Below w.heap.size w wr ∧ Hid ((1 ≤ k → Rt.vldP a b) ∧ (2 ≤ k → Rt.vldP c d))) (fun i _ => 2 - (intOf i).toNat)
  case atStart => exact ⟨0, by omega, rfl, Below.refl _ _, Lib.hid ⟨by omega, by omega⟩⟩
  case round =>
    obtain ⟨k, hk, rfl, hb, hv⟩ := hrel
    have hz := hb.size
    have r0 := (hb.cell (p := ⟨g, 0, none⟩) hg).trans c0
    have r1 := (hb.cell (p := ⟨g, 1, none⟩) hg).trans c1
    have r2 := (hb.cell (p := ⟨g, 2, none⟩) hg).trans c2
    have r3 := (hb.cell (p := ⟨g, 3, none⟩) hg).trans c3
    clear c0 c1 c2 c3
    match k, hk with
    | 0, _ =>
      by_cases h1 : Rt.vldP a b
      · replace h1 := Lib.hid h1
        go_wp2_with fail
        refine (valid_yes a b _ h1.out).mono ?_
        rintro e w1 ⟨rfl, hb1⟩
        go_wp2
        go_roundw
        case rel => exact ⟨1, by omega, rfl, (by repeat (first | with_reducible exact Below.refl _ _ | with_reducible assumption | refine below_drewN ?_ _ | refine Below.drew ?_ | refine Below.alloc ?_ (by first | (simp; done) | (simp; omega) | omega) _ | refine Below.setCell ?_ (by first | (simp; done) | (simp; omega) | omega) _ | refine Below.trans ?_ (Below.mono (by assumption) (by first | (simp; done) | (simp; omega) | omega)))), Lib.hid ⟨fun _ => h1.out, by omega⟩⟩
        case measure => simp [intOf]
      · replace h1 := Lib.hid h1
        go_wp2_with fail
        refine (valid_not a b _ h1.out).mono ?_
        rintro e w1 ⟨rfl, hb1⟩
        go_wp2
        go_ret
        exact ⟨rfl, (by repeat (first | with_reducible exact Below.refl _ _ | with_reducible assumption | refine below_drewN ?_ _ | refine Below.drew ?_ | refine Below.alloc ?_ (by first | (simp; done) | (simp; omega) | omega) _ | refine Below.setCell ?_ (by first | (simp; done) | (simp; omega) | omega) _ | refine Below.trans ?_ (Below.mono (by assumption) (by first | (simp; done) | (simp; omega) | omega))))⟩
    | 1, _ =>
      have h1 : ¬ Rt.vldP c d := fun h2 => h.out ⟨hv.out.1 (by omega), h2⟩
      replace h1 := Lib.hid h1
      go_wp2_with fail
      refine (valid_not c d _ h1.out).mono ?_
      rintro e w1 ⟨rfl, hb1⟩
      go_wp2
      go_ret
      exact ⟨rfl, (by repeat (first | with_reducible exact Below.refl _ _ | with_reducible assumption | refine below_drewN ?_ _ | refine Below.drew ?_ | refine Below.alloc ?_ (by first | (simp; done) | (simp; omega) | omega) _ | refine Below.setCell ?_ (by first | (simp; done) | (simp; omega) | omega) _ | refine Below.trans ?_ (Below.mono (by assumption) (by first | (simp; done) | (simp; omega) | omega))))⟩
    | 2, _ => exact (h.out ⟨hv.out.1 (by omega), hv.out.2 (by omega)⟩).elim

end Go.Proofs.YtffabmojbelaaaaDoor
