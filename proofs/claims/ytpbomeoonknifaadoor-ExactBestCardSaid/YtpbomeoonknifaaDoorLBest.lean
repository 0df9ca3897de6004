/- The law ExactBest: it returns true. -/
import Derived.Test.YtpbomeoonknifaaDoorSz
import Derived.Test.YtpbomeoonknifaaDoorW
import Derived.Test.YtpbomeoonknifaaDoorBb
import Derived.Test.YtpbomeoonknifaaDoorBr
namespace Go.Proofs.YtpbomeoonknifaaDoor
open Go.RowKit Go.Shelf

set_option maxRecDepth 100000 in
set_option maxHeartbeats 2000000 in
theorem lbest_mid (a b m : Int) (h1 : 3000 < m) (h2 : m ≤ 100000) (w : World) (hT : Hid (Tab w.heap.size w)) :
    Calls Tryd.prog 8 #[.agg #[.int .i64 a, .int .i64 b], .int .i64 m] w fun e w' => e = .returned (.bool true) ∧ Below w.heap.size w w' := by
  go_enter Tryd.func8, Tryd.ntmps8
  go_wp2_with fail
  refine (sanity_tab hT _ (below_alloc (Below.refl _ _) _)).mono ?_
  rintro e W1 ⟨rfl, hb1⟩
  have k1 : W1.cell? ⟨w.heap.size, 0, none⟩ = some (.int .i64 a) := kept1 (by simp [go_sem]) hb1
  have k2 : W1.cell? ⟨w.heap.size, 1, none⟩ = some (.int .i64 b) := kept1 (by simp [go_sem]) hb1
  have lk1 : w.heap.size < W1.heap.size := block_lt_of_cell k1
  have hv1 : Below w.heap.size w W1 := bstep1 (Below.refl _ _) hb1
  clear hb1  
  go_wp2
  go_ret
  exact ⟨by first | rfl | simp, (by repeat (first | with_reducible exact Below.refl _ _ | with_reducible assumption | refine below_drewN ?_ _ | refine Below.drew ?_ | refine Below.alloc ?_ (by first | (simp; done) | (simp; omega) | omega) _ | refine Below.setCell ?_ (by first | (simp; done) | (simp; omega) | omega) _ | refine Below.trans ?_ (Below.mono (by assumption) (by first | (simp; done) | (simp; omega) | omega))))⟩

set_option maxRecDepth 100000 in
set_option maxHeartbeats 2000000 in
theorem lbest_bad_lo (a b m : Int) (hm : m ≤ 3000) (hv : Hid (¬ Rt.vldP a b)) (H1 : Hid (∀ W : World, Calls Tryd.prog 52 #[.agg #[.int .i64 a, .int .i64 b], .int .i64 m] W fun e w' => e = .returned (.tuple #[.agg #[.int .i64 0, .int .i64 0], .int .i64 1]) ∧ Below W.heap.size W w')) (w : World) (hT : Hid (Tab w.heap.size w)) :
    Calls Tryd.prog 8 #[.agg #[.int .i64 a, .int .i64 b], .int .i64 m] w fun e w' => e = .returned (.bool true) ∧ Below w.heap.size w w' := by
  go_enter Tryd.func8, Tryd.ntmps8
  go_wp2_with fail
  refine (H1.out _).mono ?_
  rintro e W1 ⟨rfl, hb1⟩
  have k1 : W1.cell? ⟨w.heap.size, 0, none⟩ = some (.int .i64 a) := kept1 (by simp [go_sem]) hb1
  have k2 : W1.cell? ⟨w.heap.size, 1, none⟩ = some (.int .i64 b) := kept1 (by simp [go_sem]) hb1
  have lk1 : w.heap.size < W1.heap.size := block_lt_of_cell k1
  have hv1 : Below w.heap.size w W1 := bstep1 (Below.refl _ _) hb1
  clear hb1  
  go_wp2_with fail
  refine (rvalid_not a b _ hv.out).mono ?_
  rintro e W2 ⟨rfl, hb2⟩
  have k3 : W2.cell? ⟨w.heap.size, 0, none⟩ = some (.int .i64 a) := kept_a1 k1 hb2
  have k4 : W2.cell? ⟨w.heap.size, 1, none⟩ = some (.int .i64 b) := kept_a1 k2 hb2
  have k5 : W2.cell? ⟨W1.heap.size, 0, none⟩ = some (.int .i64 0) := kept1 (by simp [go_sem]) hb2
  have k6 : W2.cell? ⟨W1.heap.size, 1, none⟩ = some (.int .i64 0) := kept1 (by simp [go_sem]) hb2
  have lk3 : w.heap.size < W2.heap.size := block_lt_of_cell k3
  have lk5 : W1.heap.size < W2.heap.size := block_lt_of_cell k5
  have hv2 : Below w.heap.size w W2 := bstep1 hv1 hb2
  clear hb2 hv1 k1 k2 lk1
  go_wp2_with fail
  refine (sanity_tab hT _ hv2).mono ?_
  rintro e W3 ⟨rfl, hb3⟩
  have k7 : W3.cell? ⟨w.heap.size, 0, none⟩ = some (.int .i64 a) := kept1 k3 hb3
  have k8 : W3.cell? ⟨w.heap.size, 1, none⟩ = some (.int .i64 b) := kept1 k4 hb3
  have k9 : W3.cell? ⟨W1.heap.size, 0, none⟩ = some (.int .i64 0) := kept1 k5 hb3
  have k10 : W3.cell? ⟨W1.heap.size, 1, none⟩ = some (.int .i64 0) := kept1 k6 hb3
  have lk7 : w.heap.size < W3.heap.size := block_lt_of_cell k7
  have lk9 : W1.heap.size < W3.heap.size := block_lt_of_cell k9
  have hv3 : Below w.heap.size w W3 := bstep0 hv2 hb3
  clear hb3 hv2 k3 k4 k5 k6 lk3 lk5
  go_wp2
  go_ret
  exact ⟨by first | rfl | simp, (by repeat (first | with_reducible exact Below.refl _ _ | with_reducible assumption | refine below_drewN ?_ _ | refine Below.drew ?_ | refine Below.alloc ?_ (by first | (simp; done) | (simp; omega) | omega) _ | refine Below.setCell ?_ (by first | (simp; done) | (simp; omega) | omega) _ | refine Below.trans ?_ (Below.mono (by assumption) (by first | (simp; done) | (simp; omega) | omega))))⟩

set_option maxRecDepth 100000 in
set_option maxHeartbeats 2000000 in
theorem lbest_ok_lo (a b m : Int) (r : Rt.Num) (hm : m ≤ 3000) (hv : Hid (Rt.vldP a b)) (H1 : Hid (∀ W : World, Calls Tryd.prog 52 #[.agg #[.int .i64 a, .int .i64 b], .int .i64 m] W fun e w' => e = .returned (.tuple #[.agg #[.int .i64 r.n, .int .i64 r.d], .int .i64 r.e]) ∧ Below W.heap.size W w')) (K1 : Hid (∀ W : World, Calls Tryd.prog 53 #[.agg #[.int .i64 a, .int .i64 b], .int .i64 m] W fun e w' => e = .returned (.agg #[.int .i64 r.n, .int .i64 r.d, .int .i64 r.e]) ∧ Below W.heap.size W w')) (w : World) (hT : Hid (Tab w.heap.size w)) :
    Calls Tryd.prog 8 #[.agg #[.int .i64 a, .int .i64 b], .int .i64 m] w fun e w' => e = .returned (.bool true) ∧ Below w.heap.size w w' := by
  go_enter Tryd.func8, Tryd.ntmps8
  go_wp2_with fail
  refine (H1.out _).mono ?_
  rintro e W1 ⟨rfl, hb1⟩
  have k1 : W1.cell? ⟨w.heap.size, 0, none⟩ = some (.int .i64 a) := kept1 (by simp [go_sem]) hb1
  have k2 : W1.cell? ⟨w.heap.size, 1, none⟩ = some (.int .i64 b) := kept1 (by simp [go_sem]) hb1
  have lk1 : w.heap.size < W1.heap.size := block_lt_of_cell k1
  have hv1 : Below w.heap.size w W1 := bstep1 (Below.refl _ _) hb1
  clear hb1  
  go_wp2_with fail
  refine (rvalid_yes a b _ hv.out).mono ?_
  rintro e W2 ⟨rfl, hb2⟩
  have k3 : W2.cell? ⟨w.heap.size, 0, none⟩ = some (.int .i64 a) := kept_a1 k1 hb2
  have k4 : W2.cell? ⟨w.heap.size, 1, none⟩ = some (.int .i64 b) := kept_a1 k2 hb2
  have k5 : W2.cell? ⟨W1.heap.size, 0, none⟩ = some (.int .i64 r.n) := kept1 (by simp [go_sem]) hb2
  have k6 : W2.cell? ⟨W1.heap.size, 1, none⟩ = some (.int .i64 r.d) := kept1 (by simp [go_sem]) hb2
  have lk3 : w.heap.size < W2.heap.size := block_lt_of_cell k3
  have lk5 : W1.heap.size < W2.heap.size := block_lt_of_cell k5
  have hv2 : Below w.heap.size w W2 := bstep1 hv1 hb2
  clear hb2 hv1 k1 k2 lk1
  go_wp2_with fail
  have hTX : Hid (Tab W2.drew.heap.size W2.drew) := Lib.hid (Lib.tabBelow_of_tabIs (hT.out.on hv2.drew).here)
  have S0 : W2.drew.cell? ⟨w.heap.size, 0, none⟩ = some (.int .i64 a) ∧ W2.drew.cell? ⟨w.heap.size, 1, none⟩ = some (.int .i64 b) ∧ W2.drew.cell? ⟨W1.heap.size, 0, none⟩ = some (.int .i64 r.n) ∧ W2.drew.cell? ⟨W1.heap.size, 1, none⟩ = some (.int .i64 r.d) ∧ Below w.heap.size w W2.drew := ⟨by assumption, by assumption, by assumption, by assumption, hv2.drew⟩
  go_region_held3 (fun w' => w'.cell? ⟨w.heap.size, 0, none⟩ = some (.int .i64 a) ∧ w'.cell? ⟨w.heap.size, 1, none⟩ = some (.int .i64 b) ∧ w'.cell? ⟨W1.heap.size, 0, none⟩ = some (.int .i64 r.n) ∧ w'.cell? ⟨W1.heap.size, 1, none⟩ = some (.int .i64 r.d) ∧ Below w.heap.size w w')
    (first | exact S0 | exact keep4 (by assumption) hbp | exact keep4 (by assumption) (drewN_below _) | exact keep4 (by assumption) (by repeat (first | with_reducible exact Below.refl _ _ | with_reducible assumption | refine below_drewN ?_ _ | refine Below.drew ?_ | refine Below.alloc ?_ (by first | (simp; done) | (simp; omega) | omega) _ | refine Below.setCell ?_ (by first | (simp; done) | (simp; omega) | omega) _ | refine Below.trans ?_ (Below.mono (by assumption) (by first | (simp; done) | (simp; omega) | omega)))) | go_keep)
    (first
      | (go_at_call 18
         refine (sanity_any _ hTX).mono ?_
         rintro e wp ⟨he, hbp⟩
         subst he)
      | (go_at_call 53
         refine (K1.out _).mono ?_
         rintro e wp ⟨he, hbp⟩
         subst he)
      | (go_at_call 19
         refine (is_yes _ _ _ _).mono ?_
         rintro e wp ⟨he, hbp⟩
         subst he))
  all_goals
    go_split_ands
    go_wp2
    go_ret
    exact ⟨by first | rfl | simp, by assumption⟩

set_option maxRecDepth 100000 in
set_option maxHeartbeats 2000000 in
theorem lbest_bad_hi (a b m : Int) (hm0 : 3000 < m) (hm : 100000 < m) (hv : Hid (¬ Rt.vldP a b)) (H1 : Hid (∀ W : World, Calls Tryd.prog 52 #[.agg #[.int .i64 a, .int .i64 b], .int .i64 m] W fun e w' => e = .returned (.tuple #[.agg #[.int .i64 0, .int .i64 0], .int .i64 1]) ∧ Below W.heap.size W w')) (w : World) (hT : Hid (Tab w.heap.size w)) :
    Calls Tryd.prog 8 #[.agg #[.int .i64 a, .int .i64 b], .int .i64 m] w fun e w' => e = .returned (.bool true) ∧ Below w.heap.size w w' := by
  go_enter Tryd.func8, Tryd.ntmps8
  go_wp2_with fail
  refine (H1.out _).mono ?_
  rintro e W1 ⟨rfl, hb1⟩
  have k1 : W1.cell? ⟨w.heap.size, 0, none⟩ = some (.int .i64 a) := kept1 (by simp [go_sem]) hb1
  have k2 : W1.cell? ⟨w.heap.size, 1, none⟩ = some (.int .i64 b) := kept1 (by simp [go_sem]) hb1
  have lk1 : w.heap.size < W1.heap.size := block_lt_of_cell k1
  have hv1 : Below w.heap.size w W1 := bstep1 (Below.refl _ _) hb1
  clear hb1  
  go_wp2_with fail
  refine (rvalid_not a b _ hv.out).mono ?_
  rintro e W2 ⟨rfl, hb2⟩
  have k3 : W2.cell? ⟨w.heap.size, 0, none⟩ = some (.int .i64 a) := kept_a1 k1 hb2
  have k4 : W2.cell? ⟨w.heap.size, 1, none⟩ = some (.int .i64 b) := kept_a1 k2 hb2
  have k5 : W2.cell? ⟨W1.heap.size, 0, none⟩ = some (.int .i64 0) := kept1 (by simp [go_sem]) hb2
  have k6 : W2.cell? ⟨W1.heap.size, 1, none⟩ = some (.int .i64 0) := kept1 (by simp [go_sem]) hb2
  have lk3 : w.heap.size < W2.heap.size := block_lt_of_cell k3
  have lk5 : W1.heap.size < W2.heap.size := block_lt_of_cell k5
  have hv2 : Below w.heap.size w W2 := bstep1 hv1 hb2
  clear hb2 hv1 k1 k2 lk1
  go_wp2_with fail
  refine (sanity_tab hT _ hv2).mono ?_
  rintro e W3 ⟨rfl, hb3⟩
  have k7 : W3.cell? ⟨w.heap.size, 0, none⟩ = some (.int .i64 a) := kept1 k3 hb3
  have k8 : W3.cell? ⟨w.heap.size, 1, none⟩ = some (.int .i64 b) := kept1 k4 hb3
  have k9 : W3.cell? ⟨W1.heap.size, 0, none⟩ = some (.int .i64 0) := kept1 k5 hb3
  have k10 : W3.cell? ⟨W1.heap.size, 1, none⟩ = some (.int .i64 0) := kept1 k6 hb3
  have lk7 : w.heap.size < W3.heap.size := block_lt_of_cell k7
  have lk9 : W1.heap.size < W3.heap.size := block_lt_of_cell k9
  have hv3 : Below w.heap.size w W3 := bstep0 hv2 hb3
  clear hb3 hv2 k3 k4 k5 k6 lk3 lk5
  go_wp2
  go_ret
  exact ⟨by first | rfl | simp, (by repeat (first | with_reducible exact Below.refl _ _ | with_reducible assumption | refine below_drewN ?_ _ | refine Below.drew ?_ | refine Below.alloc ?_ (by first | (simp; done) | (simp; omega) | omega) _ | refine Below.setCell ?_ (by first | (simp; done) | (simp; omega) | omega) _ | refine Below.trans ?_ (Below.mono (by assumption) (by first | (simp; done) | (simp; omega) | omega))))⟩

set_option maxRecDepth 100000 in
set_option maxHeartbeats 2000000 in
theorem lbest_ok_hi (a b m : Int) (r : Rt.Num) (hm0 : 3000 < m) (hm : 100000 < m) (hv : Hid (Rt.vldP a b)) (H1 : Hid (∀ W : World, Calls Tryd.prog 52 #[.agg #[.int .i64 a, .int .i64 b], .int .i64 m] W fun e w' => e = .returned (.tuple #[.agg #[.int .i64 r.n, .int .i64 r.d], .int .i64 r.e]) ∧ Below W.heap.size W w')) (K1 : Hid (∀ W : World, Calls Tryd.prog 53 #[.agg #[.int .i64 a, .int .i64 b], .int .i64 m] W fun e w' => e = .returned (.agg #[.int .i64 r.n, .int .i64 r.d, .int .i64 r.e]) ∧ Below W.heap.size W w')) (w : World) (hT : Hid (Tab w.heap.size w)) :
    Calls Tryd.prog 8 #[.agg #[.int .i64 a, .int .i64 b], .int .i64 m] w fun e w' => e = .returned (.bool true) ∧ Below w.heap.size w w' := by
  go_enter Tryd.func8, Tryd.ntmps8
  go_wp2_with fail
  refine (H1.out _).mono ?_
  rintro e W1 ⟨rfl, hb1⟩
  have k1 : W1.cell? ⟨w.heap.size, 0, none⟩ = some (.int .i64 a) := kept1 (by simp [go_sem]) hb1
  have k2 : W1.cell? ⟨w.heap.size, 1, none⟩ = some (.int .i64 b) := kept1 (by simp [go_sem]) hb1
  have lk1 : w.heap.size < W1.heap.size := block_lt_of_cell k1
  have hv1 : Below w.heap.size w W1 := bstep1 (Below.refl _ _) hb1
  clear hb1  
  go_wp2_with fail
  refine (rvalid_yes a b _ hv.out).mono ?_
  rintro e W2 ⟨rfl, hb2⟩
  have k3 : W2.cell? ⟨w.heap.size, 0, none⟩ = some (.int .i64 a) := kept_a1 k1 hb2
  have k4 : W2.cell? ⟨w.heap.size, 1, none⟩ = some (.int .i64 b) := kept_a1 k2 hb2
  have k5 : W2.cell? ⟨W1.heap.size, 0, none⟩ = some (.int .i64 r.n) := kept1 (by simp [go_sem]) hb2
  have k6 : W2.cell? ⟨W1.heap.size, 1, none⟩ = some (.int .i64 r.d) := kept1 (by simp [go_sem]) hb2
  have lk3 : w.heap.size < W2.heap.size := block_lt_of_cell k3
  have lk5 : W1.heap.size < W2.heap.size := block_lt_of_cell k5
  have hv2 : Below w.heap.size w W2 := bstep1 hv1 hb2
  clear hb2 hv1 k1 k2 lk1
  go_wp2_with fail
  have hTX : Hid (Tab W2.drew.heap.size W2.drew) := Lib.hid (Lib.tabBelow_of_tabIs (hT.out.on hv2.drew).here)
  have S0 : W2.drew.cell? ⟨w.heap.size, 0, none⟩ = some (.int .i64 a) ∧ W2.drew.cell? ⟨w.heap.size, 1, none⟩ = some (.int .i64 b) ∧ W2.drew.cell? ⟨W1.heap.size, 0, none⟩ = some (.int .i64 r.n) ∧ W2.drew.cell? ⟨W1.heap.size, 1, none⟩ = some (.int .i64 r.d) ∧ Below w.heap.size w W2.drew := ⟨by assumption, by assumption, by assumption, by assumption, hv2.drew⟩
  go_region_held3 (fun w' => w'.cell? ⟨w.heap.size, 0, none⟩ = some (.int .i64 a) ∧ w'.cell? ⟨w.heap.size, 1, none⟩ = some (.int .i64 b) ∧ w'.cell? ⟨W1.heap.size, 0, none⟩ = some (.int .i64 r.n) ∧ w'.cell? ⟨W1.heap.size, 1, none⟩ = some (.int .i64 r.d) ∧ Below w.heap.size w w')
    (first | exact S0 | exact keep4 (by assumption) hbp | exact keep4 (by assumption) (drewN_below _) | exact keep4 (by assumption) (by repeat (first | with_reducible exact Below.refl _ _ | with_reducible assumption | refine below_drewN ?_ _ | refine Below.drew ?_ | refine Below.alloc ?_ (by first | (simp; done) | (simp; omega) | omega) _ | refine Below.setCell ?_ (by first | (simp; done) | (simp; omega) | omega) _ | refine Below.trans ?_ (Below.mono (by assumption) (by first | (simp; done) | (simp; omega) | omega)))) | go_keep)
    (first
      | (go_at_call 18
         refine (sanity_any _ hTX).mono ?_
         rintro e wp ⟨he, hbp⟩
         subst he)
      | (go_at_call 53
         refine (K1.out _).mono ?_
         rintro e wp ⟨he, hbp⟩
         subst he)
      | (go_at_call 19
         refine (is_yes _ _ _ _).mono ?_
         rintro e wp ⟨he, hbp⟩
         subst he))
  all_goals
    go_split_ands
    go_wp2
    go_ret
    exact ⟨by first | rfl | simp, by assumption⟩

theorem best_pair (a b m : Int) (h : Rt.vldP a b) : ∃ r : Rt.Num, (∀ W : World, Calls Tryd.prog 52 #[.agg #[.int .i64 a, .int .i64 b], .int .i64 m] W fun e w' => e = .returned (numV r) ∧ Below W.heap.size W w') ∧
    (∀ W : World, Calls Tryd.prog 53 #[.agg #[.int .i64 a, .int .i64 b], .int .i64 m] W fun e w' => e = .returned (refV r) ∧ Below W.heap.size W w') := by
  by_cases hm : m < 1 ∨ 100000 < m
  · exact ⟨⟨0, 0, 1⟩, fun W => best_arg a b m h hm W, fun W => rbest_arg a b m hm W⟩
  · by_cases hD : b ≤ m
    · have hs := Rt.best_self h.1 hD h.2.2.2.2
      exact ⟨⟨a, b, 0⟩, fun W => (best_ok a b m h (by omega) (by omega) W).mono fun _ _ ⟨x, y, h1, _, he, hb⟩ => ⟨by obtain ⟨rfl, rfl⟩ := Rt.best_unique h1 hs; exact he, hb⟩,
        fun W => rbest_self a b m (by omega) (by omega) hD W⟩
    · have hex : ∃ x y, Rt.BestOf a b m x y := by
        exact Rt.best_exists h (by omega) (by omega)
      obtain ⟨x, y, hs⟩ := hex
      exact ⟨⟨x, y, 0⟩, fun W => (best_ok a b m h (by omega) (by omega) W).mono fun _ _ ⟨x', y', h1, _, he, hb⟩ => ⟨by obtain ⟨rfl, rfl⟩ := Rt.best_unique h1 hs; exact he, hb⟩,
        fun W => (rbest_far a b m h (by omega) (by omega) (by omega) W).mono fun _ _ ⟨x', y', h1, he, hb⟩ => ⟨by obtain ⟨rfl, rfl⟩ := Rt.best_unique h1 hs; exact he, hb⟩⟩

theorem exactBest_true (a b m : Int) (_ : I64 a) (_ : I64 b) (_ : I64 m) (w : World) (hT : Tab w.heap.size w) :
    Calls Tryd.prog 8 #[.agg #[.int .i64 a, .int .i64 b], .int .i64 m] w fun e w' => e = .returned (.bool true) ∧ Below w.heap.size w w' := by
  by_cases hm : 3000 < m
  · by_cases hm2 : m ≤ 100000
    · exact lbest_mid a b m hm hm2 w (Lib.hid hT)
    · by_cases h : Rt.vldP a b
      · obtain ⟨r, h1, h2⟩ := best_pair a b m h
        exact lbest_ok_hi a b m r hm (by omega) (Lib.hid h) (Lib.hid h1) (Lib.hid h2) w (Lib.hid hT)
      · exact lbest_bad_hi a b m hm (by omega) (Lib.hid h) (Lib.hid fun W => best_bad a b m h W) w (Lib.hid hT)
  · by_cases h : Rt.vldP a b
    · obtain ⟨r, h1, h2⟩ := best_pair a b m h
      exact lbest_ok_lo a b m r (by omega) (Lib.hid h) (Lib.hid h1) (Lib.hid h2) w (Lib.hid hT)
    · exact lbest_bad_lo a b m (by omega) (Lib.hid h) (Lib.hid fun W => best_bad a b m h W) w (Lib.hid hT)
end Go.Proofs.YtpbomeoonknifaaDoor
