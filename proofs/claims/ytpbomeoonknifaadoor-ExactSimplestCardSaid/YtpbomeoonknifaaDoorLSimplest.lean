/- The law ExactSimplest: it returns true. -/
import Derived.Test.YtpbomeoonknifaaDoorSz
import Derived.Test.YtpbomeoonknifaaDoorK
namespace Go.Proofs.YtpbomeoonknifaaDoor
open Go.RowKit Go.Shelf

set_option maxRecDepth 100000 in
set_option maxHeartbeats 2000000 in
theorem simplest_bad (a b c d : Int) (hv : Hid (¬ vrP a b c d)) (H1 : Hid (∀ W : World, Calls Tryd.prog 49 #[.agg #[.int .i64 a, .int .i64 b, .int .i64 c, .int .i64 d]] W fun e w' => e = .returned (.tuple #[.agg #[.int .i64 0, .int .i64 0], .int .i64 1]) ∧ Below W.heap.size W w')) (w : World) (hT : Hid (Tab w.heap.size w)) :
    Calls Tryd.prog 7 #[.agg #[.int .i64 a, .int .i64 b, .int .i64 c, .int .i64 d]] w fun e w' => e = .returned (.bool true) ∧ Below w.heap.size w w' := by
  go_enter Tryd.func7, Tryd.ntmps7
  go_wp2_with fail
  refine (H1.out _).mono ?_
  rintro e W1 ⟨rfl, hb1⟩
  have k1 : W1.cell? ⟨w.heap.size, 0, none⟩ = some (.int .i64 a) := kept1 (by simp [go_sem]) hb1
  have k2 : W1.cell? ⟨w.heap.size, 1, none⟩ = some (.int .i64 b) := kept1 (by simp [go_sem]) hb1
  have k3 : W1.cell? ⟨w.heap.size, 2, none⟩ = some (.int .i64 c) := kept1 (by simp [go_sem]) hb1
  have k4 : W1.cell? ⟨w.heap.size, 3, none⟩ = some (.int .i64 d) := kept1 (by simp [go_sem]) hb1
  have lk1 : w.heap.size < W1.heap.size := block_lt_of_cell k1
  have hv1 : Below w.heap.size w W1 := bstep1 (Below.refl _ _) hb1
  clear hb1  
  go_wp2_with fail
  refine (rvrange_not a b c d _ hv.out).mono ?_
  rintro e W2 ⟨rfl, hb2⟩
  have k5 : W2.cell? ⟨w.heap.size, 0, none⟩ = some (.int .i64 a) := kept_a1 k1 hb2
  have k6 : W2.cell? ⟨w.heap.size, 1, none⟩ = some (.int .i64 b) := kept_a1 k2 hb2
  have k7 : W2.cell? ⟨w.heap.size, 2, none⟩ = some (.int .i64 c) := kept_a1 k3 hb2
  have k8 : W2.cell? ⟨w.heap.size, 3, none⟩ = some (.int .i64 d) := kept_a1 k4 hb2
  have k9 : W2.cell? ⟨W1.heap.size, 0, none⟩ = some (.int .i64 0) := kept1 (by simp [go_sem]) hb2
  have k10 : W2.cell? ⟨W1.heap.size, 1, none⟩ = some (.int .i64 0) := kept1 (by simp [go_sem]) hb2
  have lk5 : w.heap.size < W2.heap.size := block_lt_of_cell k5
  have lk9 : W1.heap.size < W2.heap.size := block_lt_of_cell k9
  have hv2 : Below w.heap.size w W2 := bstep1 hv1 hb2
  clear hb2 hv1 k1 k2 k3 k4 lk1
  go_wp2_with fail
  refine (sanity_tab hT _ hv2).mono ?_
  rintro e W3 ⟨rfl, hb3⟩
  have k11 : W3.cell? ⟨w.heap.size, 0, none⟩ = some (.int .i64 a) := kept1 k5 hb3
  have k12 : W3.cell? ⟨w.heap.size, 1, none⟩ = some (.int .i64 b) := kept1 k6 hb3
  have k13 : W3.cell? ⟨w.heap.size, 2, none⟩ = some (.int .i64 c) := kept1 k7 hb3
  have k14 : W3.cell? ⟨w.heap.size, 3, none⟩ = some (.int .i64 d) := kept1 k8 hb3
  have k15 : W3.cell? ⟨W1.heap.size, 0, none⟩ = some (.int .i64 0) := kept1 k9 hb3
  have k16 : W3.cell? ⟨W1.heap.size, 1, none⟩ = some (.int .i64 0) := kept1 k10 hb3
  have lk11 : w.heap.size < W3.heap.size := block_lt_of_cell k11
  have lk15 : W1.heap.size < W3.heap.size := block_lt_of_cell k15
  have hv3 : Below w.heap.size w W3 := bstep0 hv2 hb3
  clear hb3 hv2 k5 k6 k7 k8 k9 k10 lk5 lk9
  go_wp2
  go_ret
  exact ⟨by first | rfl | simp, (by repeat (first | with_reducible exact Below.refl _ _ | with_reducible assumption | refine below_drewN ?_ _ | refine Below.drew ?_ | refine Below.alloc ?_ (by first | (simp; done) | (simp; omega) | omega) _ | refine Below.setCell ?_ (by first | (simp; done) | (simp; omega) | omega) _ | refine Below.trans ?_ (Below.mono (by assumption) (by first | (simp; done) | (simp; omega) | omega))))⟩

set_option maxRecDepth 100000 in
set_option maxHeartbeats 2000000 in
theorem simplest_ok (a b c d x y : Int) (hv : Hid (vrP a b c d)) (H1 : Hid (∀ W : World, Calls Tryd.prog 49 #[.agg #[.int .i64 a, .int .i64 b, .int .i64 c, .int .i64 d]] W fun e w' => e = .returned (.tuple #[.agg #[.int .i64 x, .int .i64 y], .int .i64 0]) ∧ Below W.heap.size W w')) (K1 : Hid (∀ W : World, Calls Tryd.prog 51 #[.agg #[.int .i64 a, .int .i64 b, .int .i64 c, .int .i64 d]] W fun e w' => e = .returned (.agg #[.int .i64 x, .int .i64 y]) ∧ Below W.heap.size W w')) (w : World) (hT : Hid (Tab w.heap.size w)) :
    Calls Tryd.prog 7 #[.agg #[.int .i64 a, .int .i64 b, .int .i64 c, .int .i64 d]] w fun e w' => e = .returned (.bool true) ∧ Below w.heap.size w w' := by
  go_enter Tryd.func7, Tryd.ntmps7
  go_wp2_with fail
  refine (H1.out _).mono ?_
  rintro e W1 ⟨rfl, hb1⟩
  have k1 : W1.cell? ⟨w.heap.size, 0, none⟩ = some (.int .i64 a) := kept1 (by simp [go_sem]) hb1
  have k2 : W1.cell? ⟨w.heap.size, 1, none⟩ = some (.int .i64 b) := kept1 (by simp [go_sem]) hb1
  have k3 : W1.cell? ⟨w.heap.size, 2, none⟩ = some (.int .i64 c) := kept1 (by simp [go_sem]) hb1
  have k4 : W1.cell? ⟨w.heap.size, 3, none⟩ = some (.int .i64 d) := kept1 (by simp [go_sem]) hb1
  have lk1 : w.heap.size < W1.heap.size := block_lt_of_cell k1
  have hv1 : Below w.heap.size w W1 := bstep1 (Below.refl _ _) hb1
  clear hb1  
  go_wp2_with fail
  refine (rvrange_yes a b c d _ hv.out).mono ?_
  rintro e W2 ⟨rfl, hb2⟩
  have k5 : W2.cell? ⟨w.heap.size, 0, none⟩ = some (.int .i64 a) := kept_a1 k1 hb2
  have k6 : W2.cell? ⟨w.heap.size, 1, none⟩ = some (.int .i64 b) := kept_a1 k2 hb2
  have k7 : W2.cell? ⟨w.heap.size, 2, none⟩ = some (.int .i64 c) := kept_a1 k3 hb2
  have k8 : W2.cell? ⟨w.heap.size, 3, none⟩ = some (.int .i64 d) := kept_a1 k4 hb2
  have k9 : W2.cell? ⟨W1.heap.size, 0, none⟩ = some (.int .i64 x) := kept1 (by simp [go_sem]) hb2
  have k10 : W2.cell? ⟨W1.heap.size, 1, none⟩ = some (.int .i64 y) := kept1 (by simp [go_sem]) hb2
  have lk5 : w.heap.size < W2.heap.size := block_lt_of_cell k5
  have lk9 : W1.heap.size < W2.heap.size := block_lt_of_cell k9
  have hv2 : Below w.heap.size w W2 := bstep1 hv1 hb2
  clear hb2 hv1 k1 k2 k3 k4 lk1
  go_wp2_with fail
  have hTX : Hid (Tab W2.drew.heap.size W2.drew) := Lib.hid (Lib.tabBelow_of_tabIs (hT.out.on hv2.drew).here)
  have S0 : W2.drew.cell? ⟨w.heap.size, 0, none⟩ = some (.int .i64 a) ∧ W2.drew.cell? ⟨w.heap.size, 1, none⟩ = some (.int .i64 b) ∧ W2.drew.cell? ⟨w.heap.size, 2, none⟩ = some (.int .i64 c) ∧ W2.drew.cell? ⟨w.heap.size, 3, none⟩ = some (.int .i64 d) ∧ W2.drew.cell? ⟨W1.heap.size, 0, none⟩ = some (.int .i64 x) ∧ W2.drew.cell? ⟨W1.heap.size, 1, none⟩ = some (.int .i64 y) ∧ Below w.heap.size w W2.drew := ⟨by assumption, by assumption, by assumption, by assumption, by assumption, by assumption, hv2.drew⟩
  go_region_held3 (fun w' => w'.cell? ⟨w.heap.size, 0, none⟩ = some (.int .i64 a) ∧ w'.cell? ⟨w.heap.size, 1, none⟩ = some (.int .i64 b) ∧ w'.cell? ⟨w.heap.size, 2, none⟩ = some (.int .i64 c) ∧ w'.cell? ⟨w.heap.size, 3, none⟩ = some (.int .i64 d) ∧ w'.cell? ⟨W1.heap.size, 0, none⟩ = some (.int .i64 x) ∧ w'.cell? ⟨W1.heap.size, 1, none⟩ = some (.int .i64 y) ∧ Below w.heap.size w w')
    (first | exact S0 | exact keep6 (by assumption) hbp | exact keep6 (by assumption) (drewN_below _) | exact keep6 (by assumption) (by repeat (first | with_reducible exact Below.refl _ _ | with_reducible assumption | refine below_drewN ?_ _ | refine Below.drew ?_ | refine Below.alloc ?_ (by first | (simp; done) | (simp; omega) | omega) _ | refine Below.setCell ?_ (by first | (simp; done) | (simp; omega) | omega) _ | refine Below.trans ?_ (Below.mono (by assumption) (by first | (simp; done) | (simp; omega) | omega)))) | go_keep)
    (first
      | (go_at_call 18
         refine (sanity_any _ hTX).mono ?_
         rintro e wp ⟨he, hbp⟩
         subst he)
      | (go_at_call 51
         refine (K1.out _).mono ?_
         rintro e wp ⟨he, hbp⟩
         subst he))
  all_goals
    go_split_ands
    go_wp2
    go_ret
    exact ⟨by first | rfl | simp, by assumption⟩

theorem exactSimplest_true (a b c d : Int) (_ : I64 a) (_ : I64 b) (_ : I64 c) (_ : I64 d) (w : World) (hT : Tab w.heap.size w) :
    Calls Tryd.prog 7 #[.agg #[.int .i64 a, .int .i64 b, .int .i64 c, .int .i64 d]] w fun e w' => e = .returned (.bool true) ∧ Below w.heap.size w w' := by
  by_cases h : vrP a b c d
  · exact simplest_ok a b c d _ _ (Lib.hid h) (Lib.hid fun W => smp_ok a b c d W h) (Lib.hid fun W => rsmp_ok a b c d W h) w (Lib.hid hT)
  · exact simplest_bad a b c d (Lib.hid h) (Lib.hid fun W => smp_bad a b c d W h) w (Lib.hid hT)
end Go.Proofs.YtpbomeoonknifaaDoor
