/- Contracts of the specification's Meet and Whole. -/
import Derived.Test.YtffabmojbelaaaaDoorCh
namespace Go.Proofs.YtffabmojbelaaaaDoor
open Go.RowKit

theorem alloc_below (W : World) (o : Obj) : Below W.heap.size W (W.alloc o) := (Below.refl _ _).alloc (Nat.le_refl _) o

set_option maxHeartbeats 2000000 in
theorem keepn_4_2_2 {w W : World} {B N : Nat} {p0 p1 p2 p3 : Addr} {x0 x1 x2 x3 v0 v1 : Value} (h : W.cell? p0 = some x0 ∧ W.cell? p1 = some x1 ∧ W.cell? p2 = some x2 ∧ W.cell? p3 = some x3 ∧ W.cell? ⟨B, 0, none⟩ = some (cv W ⟨B, 0, none⟩) ∧ W.cell? ⟨B, 1, none⟩ = some (cv W ⟨B, 1, none⟩) ∧ (∀ o, W.frozen? ⟨B, o, none⟩ = false) ∧ Below w.heap.size w W) (hN : w.heap.size ≤ N) (hB : B < N) (n0 : p0.block < N) (n1 : p1.block < N) (n2 : p2.block < N) (n3 : p3.block < N) : ((W.setCell ⟨N, 0, none⟩ v0).setCell ⟨N, 1, none⟩ v1).cell? p0 = some x0 ∧ ((W.setCell ⟨N, 0, none⟩ v0).setCell ⟨N, 1, none⟩ v1).cell? p1 = some x1 ∧ ((W.setCell ⟨N, 0, none⟩ v0).setCell ⟨N, 1, none⟩ v1).cell? p2 = some x2 ∧ ((W.setCell ⟨N, 0, none⟩ v0).setCell ⟨N, 1, none⟩ v1).cell? p3 = some x3 ∧ ((W.setCell ⟨N, 0, none⟩ v0).setCell ⟨N, 1, none⟩ v1).cell? ⟨B, 0, none⟩ = some (cv ((W.setCell ⟨N, 0, none⟩ v0).setCell ⟨N, 1, none⟩ v1) ⟨B, 0, none⟩) ∧ ((W.setCell ⟨N, 0, none⟩ v0).setCell ⟨N, 1, none⟩ v1).cell? ⟨B, 1, none⟩ = some (cv ((W.setCell ⟨N, 0, none⟩ v0).setCell ⟨N, 1, none⟩ v1) ⟨B, 1, none⟩) ∧ (∀ o, ((W.setCell ⟨N, 0, none⟩ v0).setCell ⟨N, 1, none⟩ v1).frozen? ⟨B, o, none⟩ = false) ∧ Below w.heap.size w ((W.setCell ⟨N, 0, none⟩ v0).setCell ⟨N, 1, none⟩ v1) := by
  obtain ⟨k0, k1, k2, k3, c0, c1, g, v⟩ := h
  have far : ∀ (p : Addr) (x : Value), W.cell? p = some x → p.block < N → ((W.setCell ⟨N, 0, none⟩ v0).setCell ⟨N, 1, none⟩ v1).cell? p = some x := fun p x hx hn => by
    have hn : N ≠ p.block := by omega
    rw [World.cell?_setCell_far _ _ _ _ hn]
    rw [World.cell?_setCell_far _ _ _ _ hn]
    exact hx
  refine ⟨far _ _ k0 n0, far _ _ k1 n1, far _ _ k2 n2, far _ _ k3 n3, cv_of (far _ _ c0 hB), cv_of (far _ _ c1 hB), ?_, ?_⟩
  · intro o; simp [go_sem, g]
  · exact (by repeat (first | with_reducible exact Below.refl _ _ | with_reducible assumption | refine below_drewN ?_ _ | refine Below.drew ?_ | refine Below.alloc ?_ (by first | (simp; done) | (simp; omega) | omega) _ | refine Below.setCell ?_ (by first | (simp; done) | (simp; omega) | omega) _ | refine Below.trans ?_ (Below.mono (by assumption) (by first | (simp; done) | (simp; omega) | omega))))

set_option maxHeartbeats 2000000 in
theorem keepn_8_5_4 {w W : World} {B N : Nat} {p0 p1 p2 p3 p4 p5 p6 p7 : Addr} {x0 x1 x2 x3 x4 x5 x6 x7 v0 v1 v2 v3 : Value} (h : W.cell? p0 = some x0 ∧ W.cell? p1 = some x1 ∧ W.cell? p2 = some x2 ∧ W.cell? p3 = some x3 ∧ W.cell? p4 = some x4 ∧ W.cell? p5 = some x5 ∧ W.cell? p6 = some x6 ∧ W.cell? p7 = some x7 ∧ W.cell? ⟨B, 0, none⟩ = some (cv W ⟨B, 0, none⟩) ∧ W.cell? ⟨B, 1, none⟩ = some (cv W ⟨B, 1, none⟩) ∧ W.cell? ⟨B, 2, none⟩ = some (cv W ⟨B, 2, none⟩) ∧ W.cell? ⟨B, 3, none⟩ = some (cv W ⟨B, 3, none⟩) ∧ W.cell? ⟨B, 4, none⟩ = some (cv W ⟨B, 4, none⟩) ∧ (∀ o, W.frozen? ⟨B, o, none⟩ = false) ∧ Below w.heap.size w W) (hN : w.heap.size ≤ N) (hB : B < N) (n0 : p0.block < N) (n1 : p1.block < N) (n2 : p2.block < N) (n3 : p3.block < N) (n4 : p4.block < N) (n5 : p5.block < N) (n6 : p6.block < N) (n7 : p7.block < N) : ((((W.setCell ⟨N, 0, none⟩ v0).setCell ⟨N, 1, none⟩ v1).setCell ⟨N, 2, none⟩ v2).setCell ⟨N, 3, none⟩ v3).cell? p0 = some x0 ∧ ((((W.setCell ⟨N, 0, none⟩ v0).setCell ⟨N, 1, none⟩ v1).setCell ⟨N, 2, none⟩ v2).setCell ⟨N, 3, none⟩ v3).cell? p1 = some x1 ∧ ((((W.setCell ⟨N, 0, none⟩ v0).setCell ⟨N, 1, none⟩ v1).setCell ⟨N, 2, none⟩ v2).setCell ⟨N, 3, none⟩ v3).cell? p2 = some x2 ∧ ((((W.setCell ⟨N, 0, none⟩ v0).setCell ⟨N, 1, none⟩ v1).setCell ⟨N, 2, none⟩ v2).setCell ⟨N, 3, none⟩ v3).cell? p3 = some x3 ∧ ((((W.setCell ⟨N, 0, none⟩ v0).setCell ⟨N, 1, none⟩ v1).setCell ⟨N, 2, none⟩ v2).setCell ⟨N, 3, none⟩ v3).cell? p4 = some x4 ∧ ((((W.setCell ⟨N, 0, none⟩ v0).setCell ⟨N, 1, none⟩ v1).setCell ⟨N, 2, none⟩ v2).setCell ⟨N, 3, none⟩ v3).cell? p5 = some x5 ∧ ((((W.setCell ⟨N, 0, none⟩ v0).setCell ⟨N, 1, none⟩ v1).setCell ⟨N, 2, none⟩ v2).setCell ⟨N, 3, none⟩ v3).cell? p6 = some x6 ∧ ((((W.setCell ⟨N, 0, none⟩ v0).setCell ⟨N, 1, none⟩ v1).setCell ⟨N, 2, none⟩ v2).setCell ⟨N, 3, none⟩ v3).cell? p7 = some x7 ∧ ((((W.setCell ⟨N, 0, none⟩ v0).setCell ⟨N, 1, none⟩ v1).setCell ⟨N, 2, none⟩ v2).setCell ⟨N, 3, none⟩ v3).cell? ⟨B, 0, none⟩ = some (cv ((((W.setCell ⟨N, 0, none⟩ v0).setCell ⟨N, 1, none⟩ v1).setCell ⟨N, 2, none⟩ v2).setCell ⟨N, 3, none⟩ v3) ⟨B, 0, none⟩) ∧ ((((W.setCell ⟨N, 0, none⟩ v0).setCell ⟨N, 1, none⟩ v1).setCell ⟨N, 2, none⟩ v2).setCell ⟨N, 3, none⟩ v3).cell? ⟨B, 1, none⟩ = some (cv ((((W.setCell ⟨N, 0, none⟩ v0).setCell ⟨N, 1, none⟩ v1).setCell ⟨N, 2, none⟩ v2).setCell ⟨N, 3, none⟩ v3) ⟨B, 1, none⟩) ∧ ((((W.setCell ⟨N, 0, none⟩ v0).setCell ⟨N, 1, none⟩ v1).setCell ⟨N, 2, none⟩ v2).setCell ⟨N, 3, none⟩ v3).cell? ⟨B, 2, none⟩ = some (cv ((((W.setCell ⟨N, 0, none⟩ v0).setCell ⟨N, 1, none⟩ v1).setCell ⟨N, 2, none⟩ v2).setCell ⟨N, 3, none⟩ v3) ⟨B, 2, none⟩) ∧ ((((W.setCell ⟨N, 0, none⟩ v0).setCell ⟨N, 1, none⟩ v1).setCell ⟨N, 2, none⟩ v2).setCell ⟨N, 3, none⟩ v3).cell? ⟨B, 3, none⟩ = some (cv ((((W.setCell ⟨N, 0, none⟩ v0).setCell ⟨N, 1, none⟩ v1).setCell ⟨N, 2, none⟩ v2).setCell ⟨N, 3, none⟩ v3) ⟨B, 3, none⟩) ∧ ((((W.setCell ⟨N, 0, none⟩ v0).setCell ⟨N, 1, none⟩ v1).setCell ⟨N, 2, none⟩ v2).setCell ⟨N, 3, none⟩ v3).cell? ⟨B, 4, none⟩ = some (cv ((((W.setCell ⟨N, 0, none⟩ v0).setCell ⟨N, 1, none⟩ v1).setCell ⟨N, 2, none⟩ v2).setCell ⟨N, 3, none⟩ v3) ⟨B, 4, none⟩) ∧ (∀ o, ((((W.setCell ⟨N, 0, none⟩ v0).setCell ⟨N, 1, none⟩ v1).setCell ⟨N, 2, none⟩ v2).setCell ⟨N, 3, none⟩ v3).frozen? ⟨B, o, none⟩ = false) ∧ Below w.heap.size w ((((W.setCell ⟨N, 0, none⟩ v0).setCell ⟨N, 1, none⟩ v1).setCell ⟨N, 2, none⟩ v2).setCell ⟨N, 3, none⟩ v3) := by
  obtain ⟨k0, k1, k2, k3, k4, k5, k6, k7, c0, c1, c2, c3, c4, g, v⟩ := h
  have far : ∀ (p : Addr) (x : Value), W.cell? p = some x → p.block < N → ((((W.setCell ⟨N, 0, none⟩ v0).setCell ⟨N, 1, none⟩ v1).setCell ⟨N, 2, none⟩ v2).setCell ⟨N, 3, none⟩ v3).cell? p = some x := fun p x hx hn => by
    have hn : N ≠ p.block := by omega
    rw [World.cell?_setCell_far _ _ _ _ hn]
    rw [World.cell?_setCell_far _ _ _ _ hn]
    rw [World.cell?_setCell_far _ _ _ _ hn]
    rw [World.cell?_setCell_far _ _ _ _ hn]
    exact hx
  refine ⟨far _ _ k0 n0, far _ _ k1 n1, far _ _ k2 n2, far _ _ k3 n3, far _ _ k4 n4, far _ _ k5 n5, far _ _ k6 n6, far _ _ k7 n7, cv_of (far _ _ c0 hB), cv_of (far _ _ c1 hB), cv_of (far _ _ c2 hB), cv_of (far _ _ c3 hB), cv_of (far _ _ c4 hB), ?_, ?_⟩
  · intro o; simp [go_sem, g]
  · exact (by repeat (first | with_reducible exact Below.refl _ _ | with_reducible assumption | refine below_drewN ?_ _ | refine Below.drew ?_ | refine Below.alloc ?_ (by first | (simp; done) | (simp; omega) | omega) _ | refine Below.setCell ?_ (by first | (simp; done) | (simp; omega) | omega) _ | refine Below.trans ?_ (Below.mono (by assumption) (by first | (simp; done) | (simp; omega) | omega))))

set_option maxHeartbeats 2000000 in
theorem keepo_4_2 {w W : World} {B : Nat} {o1 o2 : Obj} {p0 p1 p2 p3 : Addr} {x0 x1 x2 x3 : Value} (h : (W.alloc o1).cell? p0 = some x0 ∧ (W.alloc o1).cell? p1 = some x1 ∧ (W.alloc o1).cell? p2 = some x2 ∧ (W.alloc o1).cell? p3 = some x3 ∧ (W.alloc o1).cell? ⟨B, 0, none⟩ = some (cv (W.alloc o1) ⟨B, 0, none⟩) ∧ (W.alloc o1).cell? ⟨B, 1, none⟩ = some (cv (W.alloc o1) ⟨B, 1, none⟩) ∧ (∀ o, (W.alloc o1).frozen? ⟨B, o, none⟩ = false) ∧ Below w.heap.size w (W.alloc o1)) (hw : w.heap.size ≤ W.heap.size) (hB : B < W.heap.size) (n0 : p0.block < W.heap.size) (n1 : p1.block < W.heap.size) (n2 : p2.block < W.heap.size) (n3 : p3.block < W.heap.size) : (W.alloc o2).cell? p0 = some x0 ∧ (W.alloc o2).cell? p1 = some x1 ∧ (W.alloc o2).cell? p2 = some x2 ∧ (W.alloc o2).cell? p3 = some x3 ∧ (W.alloc o2).cell? ⟨B, 0, none⟩ = some (cv (W.alloc o2) ⟨B, 0, none⟩) ∧ (W.alloc o2).cell? ⟨B, 1, none⟩ = some (cv (W.alloc o2) ⟨B, 1, none⟩) ∧ (∀ o, (W.alloc o2).frozen? ⟨B, o, none⟩ = false) ∧ Below w.heap.size w (W.alloc o2) := by
  obtain ⟨k0, k1, k2, k3, c0, c1, g, v⟩ := h
  have far : ∀ (p : Addr) (x : Value), (W.alloc o1).cell? p = some x → p.block < W.heap.size → (W.alloc o2).cell? p = some x := fun p x hx hn =>
    ((alloc_below W o2).cell hn).trans (((alloc_below W o1).cell hn).symm.trans hx)
  refine ⟨far _ _ k0 n0, far _ _ k1 n1, far _ _ k2 n2, far _ _ k3 n3, cv_of (far _ _ c0 hB), cv_of (far _ _ c1 hB), ?_, ?_⟩
  · intro o; exact ((alloc_below W o2).frozen (p := ⟨B, o, none⟩) hB).trans (((alloc_below W o1).frozen (p := ⟨B, o, none⟩) hB).symm.trans (g o))
  · refine ⟨v.os, v.tape, v.output, by simp; omega, fun p hp => ?_⟩
    have hp2 : p < W.heap.size := by omega
    exact ((alloc_below W o2).block p hp2).trans (((alloc_below W o1).block p hp2).symm.trans (v.block p hp))

set_option maxHeartbeats 2000000 in
theorem keepo_8_5 {w W : World} {B : Nat} {o1 o2 : Obj} {p0 p1 p2 p3 p4 p5 p6 p7 : Addr} {x0 x1 x2 x3 x4 x5 x6 x7 : Value} (h : (W.alloc o1).cell? p0 = some x0 ∧ (W.alloc o1).cell? p1 = some x1 ∧ (W.alloc o1).cell? p2 = some x2 ∧ (W.alloc o1).cell? p3 = some x3 ∧ (W.alloc o1).cell? p4 = some x4 ∧ (W.alloc o1).cell? p5 = some x5 ∧ (W.alloc o1).cell? p6 = some x6 ∧ (W.alloc o1).cell? p7 = some x7 ∧ (W.alloc o1).cell? ⟨B, 0, none⟩ = some (cv (W.alloc o1) ⟨B, 0, none⟩) ∧ (W.alloc o1).cell? ⟨B, 1, none⟩ = some (cv (W.alloc o1) ⟨B, 1, none⟩) ∧ (W.alloc o1).cell? ⟨B, 2, none⟩ = some (cv (W.alloc o1) ⟨B, 2, none⟩) ∧ (W.alloc o1).cell? ⟨B, 3, none⟩ = some (cv (W.alloc o1) ⟨B, 3, none⟩) ∧ (W.alloc o1).cell? ⟨B, 4, none⟩ = some (cv (W.alloc o1) ⟨B, 4, none⟩) ∧ (∀ o, (W.alloc o1).frozen? ⟨B, o, none⟩ = false) ∧ Below w.heap.size w (W.alloc o1)) (hw : w.heap.size ≤ W.heap.size) (hB : B < W.heap.size) (n0 : p0.block < W.heap.size) (n1 : p1.block < W.heap.size) (n2 : p2.block < W.heap.size) (n3 : p3.block < W.heap.size) (n4 : p4.block < W.heap.size) (n5 : p5.block < W.heap.size) (n6 : p6.block < W.heap.size) (n7 : p7.block < W.heap.size) : (W.alloc o2).cell? p0 = some x0 ∧ (W.alloc o2).cell? p1 = some x1 ∧ (W.alloc o2).cell? p2 = some x2 ∧ (W.alloc o2).cell? p3 = some x3 ∧ (W.alloc o2).cell? p4 = some x4 ∧ (W.alloc o2).cell? p5 = some x5 ∧ (W.alloc o2).cell? p6 = some x6 ∧ (W.alloc o2).cell? p7 = some x7 ∧ (W.alloc o2).cell? ⟨B, 0, none⟩ = some (cv (W.alloc o2) ⟨B, 0, none⟩) ∧ (W.alloc o2).cell? ⟨B, 1, none⟩ = some (cv (W.alloc o2) ⟨B, 1, none⟩) ∧ (W.alloc o2).cell? ⟨B, 2, none⟩ = some (cv (W.alloc o2) ⟨B, 2, none⟩) ∧ (W.alloc o2).cell? ⟨B, 3, none⟩ = some (cv (W.alloc o2) ⟨B, 3, none⟩) ∧ (W.alloc o2).cell? ⟨B, 4, none⟩ = some (cv (W.alloc o2) ⟨B, 4, none⟩) ∧ (∀ o, (W.alloc o2).frozen? ⟨B, o, none⟩ = false) ∧ Below w.heap.size w (W.alloc o2) := by
  obtain ⟨k0, k1, k2, k3, k4, k5, k6, k7, c0, c1, c2, c3, c4, g, v⟩ := h
  have far : ∀ (p : Addr) (x : Value), (W.alloc o1).cell? p = some x → p.block < W.heap.size → (W.alloc o2).cell? p = some x := fun p x hx hn =>
    ((alloc_below W o2).cell hn).trans (((alloc_below W o1).cell hn).symm.trans hx)
  refine ⟨far _ _ k0 n0, far _ _ k1 n1, far _ _ k2 n2, far _ _ k3 n3, far _ _ k4 n4, far _ _ k5 n5, far _ _ k6 n6, far _ _ k7 n7, cv_of (far _ _ c0 hB), cv_of (far _ _ c1 hB), cv_of (far _ _ c2 hB), cv_of (far _ _ c3 hB), cv_of (far _ _ c4 hB), ?_, ?_⟩
  · intro o; exact ((alloc_below W o2).frozen (p := ⟨B, o, none⟩) hB).trans (((alloc_below W o1).frozen (p := ⟨B, o, none⟩) hB).symm.trans (g o))
  · refine ⟨v.os, v.tape, v.output, by simp; omega, fun p hp => ?_⟩
    have hp2 : p < W.heap.size := by omega
    exact ((alloc_below W o2).block p hp2).trans (((alloc_below W o1).block p hp2).symm.trans (v.block p hp))

set_option maxRecDepth 100000 in
set_option maxHeartbeats 4000000 in
theorem rwhole_yes (a b c d lo hi : Int) (hl : lo ≤ hi) (w : World) (H1 : Hid (∀ W : World, Calls Tryd.prog 43 #[.agg #[.int .i64 a, .int .i64 b]] W fun e w' => e = .returned (.int .i64 lo) ∧ Below W.heap.size W w')) (H2 : Hid (∀ W : World, Calls Tryd.prog 42 #[.agg #[.int .i64 c, .int .i64 d]] W fun e w' => e = .returned (.int .i64 hi) ∧ Below W.heap.size W w')) :
    Calls Tryd.prog 67 #[.agg #[.int .i64 a, .int .i64 b, .int .i64 c, .int .i64 d]] w fun e w' => e = .returned (.tuple #[.agg #[.int .i64 lo, .int .i64 hi], .bool true]) ∧ Below w.heap.size w w' := by
  go_enter Tryd.func67, Tryd.ntmps67
  go_wp2_with fail
  have k0 : ((w.alloc (Obj.cells #[.int .i64 a, .int .i64 b, .int .i64 c, .int .i64 d] 58)).alloc (Obj.cells #[.int .i64 0, .int .i64 0] 44)).cell? ⟨w.heap.size, 0, none⟩ = some (.int .i64 a) := by simp [go_sem]
  have k1 : ((w.alloc (Obj.cells #[.int .i64 a, .int .i64 b, .int .i64 c, .int .i64 d] 58)).alloc (Obj.cells #[.int .i64 0, .int .i64 0] 44)).cell? ⟨w.heap.size, 1, none⟩ = some (.int .i64 b) := by simp [go_sem]
  have k2 : ((w.alloc (Obj.cells #[.int .i64 a, .int .i64 b, .int .i64 c, .int .i64 d] 58)).alloc (Obj.cells #[.int .i64 0, .int .i64 0] 44)).cell? ⟨w.heap.size, 2, none⟩ = some (.int .i64 c) := by simp [go_sem]
  have k3 : ((w.alloc (Obj.cells #[.int .i64 a, .int .i64 b, .int .i64 c, .int .i64 d] 58)).alloc (Obj.cells #[.int .i64 0, .int .i64 0] 44)).cell? ⟨w.heap.size, 3, none⟩ = some (.int .i64 d) := by simp [go_sem]
  have c0 : ((w.alloc (Obj.cells #[.int .i64 a, .int .i64 b, .int .i64 c, .int .i64 d] 58)).alloc (Obj.cells #[.int .i64 0, .int .i64 0] 44)).cell? ⟨w.heap.size + 1, 0, none⟩ = some (cv ((w.alloc (Obj.cells #[.int .i64 a, .int .i64 b, .int .i64 c, .int .i64 d] 58)).alloc (Obj.cells #[.int .i64 0, .int .i64 0] 44)) ⟨w.heap.size + 1, 0, none⟩) := cv_of (v := .int .i64 0) (by simp [go_sem])
  have c1 : ((w.alloc (Obj.cells #[.int .i64 a, .int .i64 b, .int .i64 c, .int .i64 d] 58)).alloc (Obj.cells #[.int .i64 0, .int .i64 0] 44)).cell? ⟨w.heap.size + 1, 1, none⟩ = some (cv ((w.alloc (Obj.cells #[.int .i64 a, .int .i64 b, .int .i64 c, .int .i64 d] 58)).alloc (Obj.cells #[.int .i64 0, .int .i64 0] 44)) ⟨w.heap.size + 1, 1, none⟩) := cv_of (v := .int .i64 0) (by simp [go_sem])
  have g0 : ∀ o, ((w.alloc (Obj.cells #[.int .i64 a, .int .i64 b, .int .i64 c, .int .i64 d] 58)).alloc (Obj.cells #[.int .i64 0, .int .i64 0] 44)).frozen? ⟨w.heap.size + 1, o, none⟩ = false := fun o => by simp [go_sem]
  have hv : Below w.heap.size w ((w.alloc (Obj.cells #[.int .i64 a, .int .i64 b, .int .i64 c, .int .i64 d] 58)).alloc (Obj.cells #[.int .i64 0, .int .i64 0] 44)) := (by repeat (first | with_reducible exact Below.refl _ _ | with_reducible assumption | refine below_drewN ?_ _ | refine Below.drew ?_ | refine Below.alloc ?_ (by first | (simp; done) | (simp; omega) | omega) _ | refine Below.setCell ?_ (by first | (simp; done) | (simp; omega) | omega) _ | refine Below.trans ?_ (Below.mono (by assumption) (by first | (simp; done) | (simp; omega) | omega))))
  have hB : w.heap.size + 1 < ((w.alloc (Obj.cells #[.int .i64 a, .int .i64 b, .int .i64 c, .int .i64 d] 58)).alloc (Obj.cells #[.int .i64 0, .int .i64 0] 44)).heap.size := block_lt_of_cell c0
  generalize ((w.alloc (Obj.cells #[.int .i64 a, .int .i64 b, .int .i64 c, .int .i64 d] 58)).alloc (Obj.cells #[.int .i64 0, .int .i64 0] 44)) = X at *
  go_cut [4] from 5 to 11 (fun s4 wx => ∃ N : Nat, s4 = .pointer (some ⟨N, 0, none⟩) ∧ wx.cell? ⟨N, 0, none⟩ = some (.int .i64 lo) ∧ wx.cell? ⟨N, 1, none⟩ = some (.int .i64 hi) ∧ w.heap.size + 1 < N ∧ wx.cell? ⟨w.heap.size + 1, 0, none⟩ = some (cv wx ⟨w.heap.size + 1, 0, none⟩) ∧ wx.cell? ⟨w.heap.size + 1, 1, none⟩ = some (cv wx ⟨w.heap.size + 1, 1, none⟩) ∧ (∀ o, wx.frozen? ⟨w.heap.size + 1, o, none⟩ = false) ∧ Below w.heap.size w wx)
  case first =>
    have S0 : X.drew.cell? ⟨w.heap.size, 0, none⟩ = some (.int .i64 a) ∧ X.drew.cell? ⟨w.heap.size, 1, none⟩ = some (.int .i64 b) ∧ X.drew.cell? ⟨w.heap.size, 2, none⟩ = some (.int .i64 c) ∧ X.drew.cell? ⟨w.heap.size, 3, none⟩ = some (.int .i64 d) ∧ X.drew.cell? ⟨w.heap.size + 1, 0, none⟩ = some (cv X.drew ⟨w.heap.size + 1, 0, none⟩) ∧ X.drew.cell? ⟨w.heap.size + 1, 1, none⟩ = some (cv X.drew ⟨w.heap.size + 1, 1, none⟩) ∧ (∀ o, X.drew.frozen? ⟨w.heap.size + 1, o, none⟩ = false) ∧ Below w.heap.size w X.drew := ⟨k0, k1, k2, k3, c0, c1, g0, hv.drew⟩
    go_region_held3 (fun w' => w'.cell? ⟨w.heap.size, 0, none⟩ = some (.int .i64 a) ∧ w'.cell? ⟨w.heap.size, 1, none⟩ = some (.int .i64 b) ∧ w'.cell? ⟨w.heap.size, 2, none⟩ = some (.int .i64 c) ∧ w'.cell? ⟨w.heap.size, 3, none⟩ = some (.int .i64 d) ∧ w'.cell? ⟨w.heap.size + 1, 0, none⟩ = some (cv w' ⟨w.heap.size + 1, 0, none⟩) ∧ w'.cell? ⟨w.heap.size + 1, 1, none⟩ = some (cv w' ⟨w.heap.size + 1, 1, none⟩) ∧ (∀ o, w'.frozen? ⟨w.heap.size + 1, o, none⟩ = false) ∧ Below w.heap.size w w')
      (first | with_reducible exact S0 | with_reducible exact keepv_4_2 (by assumption) hbp | with_reducible exact keepv_4_2 (by assumption) (alloc_below _ _) | with_reducible exact keepo_4_2 (by assumption) (by first | (simp; done) | (simp; omega) | omega) (by first | (simp; done) | (simp; omega) | omega) (by first | (simp; done) | (simp; omega) | omega) (by first | (simp; done) | (simp; omega) | omega) (by first | (simp; done) | (simp; omega) | omega) (by first | (simp; done) | (simp; omega) | omega) | with_reducible exact keepn_4_2_2 (by assumption) (by first | (simp; done) | (simp; omega) | omega) (by first | (simp; done) | (simp; omega) | omega) (by first | (simp; done) | (simp; omega) | omega) (by first | (simp; done) | (simp; omega) | omega) (by first | (simp; done) | (simp; omega) | omega) (by first | (simp; done) | (simp; omega) | omega))
      (first
      | (go_at_call 43
         with_reducible refine (H1.out (World.drew (X.alloc _))).mono ?_
         rintro e wp1 ⟨he, hbp⟩
         subst he
         have hs1 := hbp.size
         try simp at hs1
         have n0 : wp1.cell? ⟨X.heap.size, 0, none⟩ = some (.int .i64 0) := kept1 (by simp [go_sem]) hbp
         have n1 : wp1.cell? ⟨X.heap.size, 1, none⟩ = some (.int .i64 0) := kept1 (by simp [go_sem]) hbp
         have nf : ∀ o, wp1.frozen? ⟨X.heap.size, o, none⟩ = false := kept_fz (fun o => by simp [go_sem]) (by simp) hbp
         skip)
      | (go_at_call 43
         with_reducible refine (H1.out X.drew).mono ?_
         rintro e wp1 ⟨he, hbp⟩
         subst he
         have hs1 := hbp.size
         try simp at hs1
         skip)
      | (go_at_call 42
         with_reducible refine (H2.out (wp1.alloc _)).mono ?_
         rintro e wp2 ⟨he, hbp⟩
         subst he
         have hs2 := hbp.size
         try simp at hs2
         have m0 : wp2.cell? ⟨wp1.heap.size, 0, none⟩ = some (.int .i64 0) := kept1 (by simp [go_sem]) hbp
         have m1 : wp2.cell? ⟨wp1.heap.size, 1, none⟩ = some (.int .i64 0) := kept1 (by simp [go_sem]) hbp
         have mf : ∀ o, wp2.frozen? ⟨wp1.heap.size, o, none⟩ = false := kept_fz (fun o => by simp [go_sem]) (by simp) hbp
         skip)
      | (go_at_call 42
         have hn0 := n0
         with_reducible refine (H2.out wp1).mono ?_
         rintro e wp2 ⟨he, hbp⟩
         subst he
         have hs2 := hbp.size
         try simp at hs2
         have m0 : wp2.cell? ⟨X.heap.size, 0, none⟩ = some (.int .i64 0) := kept1 (n0) hbp
         have m1 : wp2.cell? ⟨X.heap.size, 1, none⟩ = some (.int .i64 0) := kept1 (n1) hbp
         have mf : ∀ o, wp2.frozen? ⟨X.heap.size, o, none⟩ = false := kept_fz (nf) (block_lt_of_cell n0) hbp
         skip)
      | (go_at_call 42
         with_reducible refine (H2.out wp1).mono ?_
         rintro e wp2 ⟨he, hbp⟩
         subst he
         have hs2 := hbp.size
         try simp at hs2
         skip))
    all_goals
      go_split_ands
      go_wp2_with fail
      go_meet
      exact ⟨_, rfl, by first | (simp [go_sem]; done) | (simp [go_sem, m0]; done), by first | (simp [go_sem]; done) | (simp [go_sem, m1]; done), by first | (simp; done) | (simp; omega) | omega, by with_reducible assumption, by with_reducible assumption, by with_reducible assumption, by with_reducible assumption⟩
  case rest =>
    generalize wc = V at hcut ⊢
    clear wc
    obtain ⟨N, rfl, n0, n1, hN, b0, b1, g, v⟩ := hcut
    clear k0 k1 k2 k3 c0 c1 g0 hv hB H1 H2
    go_wp2_with fail
    go_region
    all_goals
      go_wp2
      refine bodyPost_ret (v := .tuple #[.agg #[.int .i64 lo, .int .i64 hi], .bool true]) (by simp [results, Tryd.results67, go_sem, *]) rfl ?_
      exact ⟨rfl, (by repeat (first | with_reducible exact Below.refl _ _ | with_reducible assumption | refine below_drewN ?_ _ | refine Below.drew ?_ | refine Below.alloc ?_ (by first | (simp; done) | (simp; omega) | omega) _ | refine Below.setCell ?_ (by first | (simp; done) | (simp; omega) | omega) _ | refine Below.trans ?_ (Below.mono (by assumption) (by first | (simp; done) | (simp; omega) | omega))))⟩

set_option maxRecDepth 100000 in
set_option maxHeartbeats 4000000 in
theorem rwhole_no (a b c d lo hi : Int) (hl : hi < lo) (w : World) (H1 : Hid (∀ W : World, Calls Tryd.prog 43 #[.agg #[.int .i64 a, .int .i64 b]] W fun e w' => e = .returned (.int .i64 lo) ∧ Below W.heap.size W w')) (H2 : Hid (∀ W : World, Calls Tryd.prog 42 #[.agg #[.int .i64 c, .int .i64 d]] W fun e w' => e = .returned (.int .i64 hi) ∧ Below W.heap.size W w')) :
    Calls Tryd.prog 67 #[.agg #[.int .i64 a, .int .i64 b, .int .i64 c, .int .i64 d]] w fun e w' => e = .returned (.tuple #[.agg #[.int .i64 lo, .int .i64 hi], .bool false]) ∧ Below w.heap.size w w' := by
  go_enter Tryd.func67, Tryd.ntmps67
  go_wp2_with fail
  have k0 : ((w.alloc (Obj.cells #[.int .i64 a, .int .i64 b, .int .i64 c, .int .i64 d] 58)).alloc (Obj.cells #[.int .i64 0, .int .i64 0] 44)).cell? ⟨w.heap.size, 0, none⟩ = some (.int .i64 a) := by simp [go_sem]
  have k1 : ((w.alloc (Obj.cells #[.int .i64 a, .int .i64 b, .int .i64 c, .int .i64 d] 58)).alloc (Obj.cells #[.int .i64 0, .int .i64 0] 44)).cell? ⟨w.heap.size, 1, none⟩ = some (.int .i64 b) := by simp [go_sem]
  have k2 : ((w.alloc (Obj.cells #[.int .i64 a, .int .i64 b, .int .i64 c, .int .i64 d] 58)).alloc (Obj.cells #[.int .i64 0, .int .i64 0] 44)).cell? ⟨w.heap.size, 2, none⟩ = some (.int .i64 c) := by simp [go_sem]
  have k3 : ((w.alloc (Obj.cells #[.int .i64 a, .int .i64 b, .int .i64 c, .int .i64 d] 58)).alloc (Obj.cells #[.int .i64 0, .int .i64 0] 44)).cell? ⟨w.heap.size, 3, none⟩ = some (.int .i64 d) := by simp [go_sem]
  have c0 : ((w.alloc (Obj.cells #[.int .i64 a, .int .i64 b, .int .i64 c, .int .i64 d] 58)).alloc (Obj.cells #[.int .i64 0, .int .i64 0] 44)).cell? ⟨w.heap.size + 1, 0, none⟩ = some (cv ((w.alloc (Obj.cells #[.int .i64 a, .int .i64 b, .int .i64 c, .int .i64 d] 58)).alloc (Obj.cells #[.int .i64 0, .int .i64 0] 44)) ⟨w.heap.size + 1, 0, none⟩) := cv_of (v := .int .i64 0) (by simp [go_sem])
  have c1 : ((w.alloc (Obj.cells #[.int .i64 a, .int .i64 b, .int .i64 c, .int .i64 d] 58)).alloc (Obj.cells #[.int .i64 0, .int .i64 0] 44)).cell? ⟨w.heap.size + 1, 1, none⟩ = some (cv ((w.alloc (Obj.cells #[.int .i64 a, .int .i64 b, .int .i64 c, .int .i64 d] 58)).alloc (Obj.cells #[.int .i64 0, .int .i64 0] 44)) ⟨w.heap.size + 1, 1, none⟩) := cv_of (v := .int .i64 0) (by simp [go_sem])
  have g0 : ∀ o, ((w.alloc (Obj.cells #[.int .i64 a, .int .i64 b, .int .i64 c, .int .i64 d] 58)).alloc (Obj.cells #[.int .i64 0, .int .i64 0] 44)).frozen? ⟨w.heap.size + 1, o, none⟩ = false := fun o => by simp [go_sem]
  have hv : Below w.heap.size w ((w.alloc (Obj.cells #[.int .i64 a, .int .i64 b, .int .i64 c, .int .i64 d] 58)).alloc (Obj.cells #[.int .i64 0, .int .i64 0] 44)) := (by repeat (first | with_reducible exact Below.refl _ _ | with_reducible assumption | refine below_drewN ?_ _ | refine Below.drew ?_ | refine Below.alloc ?_ (by first | (simp; done) | (simp; omega) | omega) _ | refine Below.setCell ?_ (by first | (simp; done) | (simp; omega) | omega) _ | refine Below.trans ?_ (Below.mono (by assumption) (by first | (simp; done) | (simp; omega) | omega))))
  have hB : w.heap.size + 1 < ((w.alloc (Obj.cells #[.int .i64 a, .int .i64 b, .int .i64 c, .int .i64 d] 58)).alloc (Obj.cells #[.int .i64 0, .int .i64 0] 44)).heap.size := block_lt_of_cell c0
  generalize ((w.alloc (Obj.cells #[.int .i64 a, .int .i64 b, .int .i64 c, .int .i64 d] 58)).alloc (Obj.cells #[.int .i64 0, .int .i64 0] 44)) = X at *
  go_cut [4] from 5 to 11 (fun s4 wx => ∃ N : Nat, s4 = .pointer (some ⟨N, 0, none⟩) ∧ wx.cell? ⟨N, 0, none⟩ = some (.int .i64 lo) ∧ wx.cell? ⟨N, 1, none⟩ = some (.int .i64 hi) ∧ w.heap.size + 1 < N ∧ wx.cell? ⟨w.heap.size + 1, 0, none⟩ = some (cv wx ⟨w.heap.size + 1, 0, none⟩) ∧ wx.cell? ⟨w.heap.size + 1, 1, none⟩ = some (cv wx ⟨w.heap.size + 1, 1, none⟩) ∧ (∀ o, wx.frozen? ⟨w.heap.size + 1, o, none⟩ = false) ∧ Below w.heap.size w wx)
  case first =>
    have S0 : X.drew.cell? ⟨w.heap.size, 0, none⟩ = some (.int .i64 a) ∧ X.drew.cell? ⟨w.heap.size, 1, none⟩ = some (.int .i64 b) ∧ X.drew.cell? ⟨w.heap.size, 2, none⟩ = some (.int .i64 c) ∧ X.drew.cell? ⟨w.heap.size, 3, none⟩ = some (.int .i64 d) ∧ X.drew.cell? ⟨w.heap.size + 1, 0, none⟩ = some (cv X.drew ⟨w.heap.size + 1, 0, none⟩) ∧ X.drew.cell? ⟨w.heap.size + 1, 1, none⟩ = some (cv X.drew ⟨w.heap.size + 1, 1, none⟩) ∧ (∀ o, X.drew.frozen? ⟨w.heap.size + 1, o, none⟩ = false) ∧ Below w.heap.size w X.drew := ⟨k0, k1, k2, k3, c0, c1, g0, hv.drew⟩
    go_region_held3 (fun w' => w'.cell? ⟨w.heap.size, 0, none⟩ = some (.int .i64 a) ∧ w'.cell? ⟨w.heap.size, 1, none⟩ = some (.int .i64 b) ∧ w'.cell? ⟨w.heap.size, 2, none⟩ = some (.int .i64 c) ∧ w'.cell? ⟨w.heap.size, 3, none⟩ = some (.int .i64 d) ∧ w'.cell? ⟨w.heap.size + 1, 0, none⟩ = some (cv w' ⟨w.heap.size + 1, 0, none⟩) ∧ w'.cell? ⟨w.heap.size + 1, 1, none⟩ = some (cv w' ⟨w.heap.size + 1, 1, none⟩) ∧ (∀ o, w'.frozen? ⟨w.heap.size + 1, o, none⟩ = false) ∧ Below w.heap.size w w')
      (first | with_reducible exact S0 | with_reducible exact keepv_4_2 (by assumption) hbp | with_reducible exact keepv_4_2 (by assumption) (alloc_below _ _) | with_reducible exact keepo_4_2 (by assumption) (by first | (simp; done) | (simp; omega) | omega) (by first | (simp; done) | (simp; omega) | omega) (by first | (simp; done) | (simp; omega) | omega) (by first | (simp; done) | (simp; omega) | omega) (by first | (simp; done) | (simp; omega) | omega) (by first | (simp; done) | (simp; omega) | omega) | with_reducible exact keepn_4_2_2 (by assumption) (by first | (simp; done) | (simp; omega) | omega) (by first | (simp; done) | (simp; omega) | omega) (by first | (simp; done) | (simp; omega) | omega) (by first | (simp; done) | (simp; omega) | omega) (by first | (simp; done) | (simp; omega) | omega) (by first | (simp; done) | (simp; omega) | omega))
      (first
      | (go_at_call 43
         with_reducible refine (H1.out (World.drew (X.alloc _))).mono ?_
         rintro e wp1 ⟨he, hbp⟩
         subst he
         have hs1 := hbp.size
         try simp at hs1
         have n0 : wp1.cell? ⟨X.heap.size, 0, none⟩ = some (.int .i64 0) := kept1 (by simp [go_sem]) hbp
         have n1 : wp1.cell? ⟨X.heap.size, 1, none⟩ = some (.int .i64 0) := kept1 (by simp [go_sem]) hbp
         have nf : ∀ o, wp1.frozen? ⟨X.heap.size, o, none⟩ = false := kept_fz (fun o => by simp [go_sem]) (by simp) hbp
         skip)
      | (go_at_call 43
         with_reducible refine (H1.out X.drew).mono ?_
         rintro e wp1 ⟨he, hbp⟩
         subst he
         have hs1 := hbp.size
         try simp at hs1
         skip)
      | (go_at_call 42
         with_reducible refine (H2.out (wp1.alloc _)).mono ?_
         rintro e wp2 ⟨he, hbp⟩
         subst he
         have hs2 := hbp.size
         try simp at hs2
         have m0 : wp2.cell? ⟨wp1.heap.size, 0, none⟩ = some (.int .i64 0) := kept1 (by simp [go_sem]) hbp
         have m1 : wp2.cell? ⟨wp1.heap.size, 1, none⟩ = some (.int .i64 0) := kept1 (by simp [go_sem]) hbp
         have mf : ∀ o, wp2.frozen? ⟨wp1.heap.size, o, none⟩ = false := kept_fz (fun o => by simp [go_sem]) (by simp) hbp
         skip)
      | (go_at_call 42
         have hn0 := n0
         with_reducible refine (H2.out wp1).mono ?_
         rintro e wp2 ⟨he, hbp⟩
         subst he
         have hs2 := hbp.size
         try simp at hs2
         have m0 : wp2.cell? ⟨X.heap.size, 0, none⟩ = some (.int .i64 0) := kept1 (n0) hbp
         have m1 : wp2.cell? ⟨X.heap.size, 1, none⟩ = some (.int .i64 0) := kept1 (n1) hbp
         have mf : ∀ o, wp2.frozen? ⟨X.heap.size, o, none⟩ = false := kept_fz (nf) (block_lt_of_cell n0) hbp
         skip)
      | (go_at_call 42
         with_reducible refine (H2.out wp1).mono ?_
         rintro e wp2 ⟨he, hbp⟩
         subst he
         have hs2 := hbp.size
         try simp at hs2
         skip))
    all_goals
      go_split_ands
      go_wp2_with fail
      go_meet
      exact ⟨_, rfl, by first | (simp [go_sem]; done) | (simp [go_sem, m0]; done), by first | (simp [go_sem]; done) | (simp [go_sem, m1]; done), by first | (simp; done) | (simp; omega) | omega, by with_reducible assumption, by with_reducible assumption, by with_reducible assumption, by with_reducible assumption⟩
  case rest =>
    generalize wc = V at hcut ⊢
    clear wc
    obtain ⟨N, rfl, n0, n1, hN, b0, b1, g, v⟩ := hcut
    clear k0 k1 k2 k3 c0 c1 g0 hv hB H1 H2
    go_wp2_with fail
    go_region
    all_goals
      go_wp2
      refine bodyPost_ret (v := .tuple #[.agg #[.int .i64 lo, .int .i64 hi], .bool false]) (by simp [results, Tryd.results67, go_sem, *]) rfl ?_
      exact ⟨rfl, (by repeat (first | with_reducible exact Below.refl _ _ | with_reducible assumption | refine below_drewN ?_ _ | refine Below.drew ?_ | refine Below.alloc ?_ (by first | (simp; done) | (simp; omega) | omega) _ | refine Below.setCell ?_ (by first | (simp; done) | (simp; omega) | omega) _ | refine Below.trans ?_ (Below.mono (by assumption) (by first | (simp; done) | (simp; omega) | omega))))⟩

set_option maxRecDepth 100000 in
set_option maxHeartbeats 4000000 in
theorem rmeet_none (a b c d p q r s g1 g2 h1 h2 : Int) (w : World) (H1 : Hid (∀ W : World, Calls Tryd.prog 104 #[.agg #[.int .i64 a, .int .i64 b], .agg #[.int .i64 p, .int .i64 q]] W fun e w' => e = .returned (.agg #[.int .i64 g1, .int .i64 g2]) ∧ Below W.heap.size W w')) (H2 : Hid (∀ W : World, Calls Tryd.prog 105 #[.agg #[.int .i64 c, .int .i64 d], .agg #[.int .i64 r, .int .i64 s]] W fun e w' => e = .returned (.agg #[.int .i64 h1, .int .i64 h2]) ∧ Below W.heap.size W w')) (H3 : Hid (∀ W : World, Calls Tryd.prog 88 #[.agg #[.int .i64 h1, .int .i64 h2], .agg #[.int .i64 g1, .int .i64 g2]] W fun e w' => e = .returned (.bool true) ∧ Below W.heap.size W w')) :
    Calls Tryd.prog 63 #[.agg #[.int .i64 a, .int .i64 b, .int .i64 c, .int .i64 d], .agg #[.int .i64 p, .int .i64 q, .int .i64 r, .int .i64 s]] w fun e w' => e = .returned (.agg #[.int .i64 0, .int .i64 0, .int .i64 0, .int .i64 0, .int .i64 5]) ∧ Below w.heap.size w w' := by
  go_enter Tryd.func63, Tryd.ntmps63
  go_wp2_with fail
  have k0 : (((w.alloc (Obj.cells #[.int .i64 a, .int .i64 b, .int .i64 c, .int .i64 d] 58)).alloc (Obj.cells #[.int .i64 p, .int .i64 q, .int .i64 r, .int .i64 s] 58)).alloc (Obj.cells #[.int .i64 0, .int .i64 0, .int .i64 0, .int .i64 0, .int .i64 0] 70)).cell? ⟨w.heap.size, 0, none⟩ = some (.int .i64 a) := by simp [go_sem]
  have k1 : (((w.alloc (Obj.cells #[.int .i64 a, .int .i64 b, .int .i64 c, .int .i64 d] 58)).alloc (Obj.cells #[.int .i64 p, .int .i64 q, .int .i64 r, .int .i64 s] 58)).alloc (Obj.cells #[.int .i64 0, .int .i64 0, .int .i64 0, .int .i64 0, .int .i64 0] 70)).cell? ⟨w.heap.size, 1, none⟩ = some (.int .i64 b) := by simp [go_sem]
  have k2 : (((w.alloc (Obj.cells #[.int .i64 a, .int .i64 b, .int .i64 c, .int .i64 d] 58)).alloc (Obj.cells #[.int .i64 p, .int .i64 q, .int .i64 r, .int .i64 s] 58)).alloc (Obj.cells #[.int .i64 0, .int .i64 0, .int .i64 0, .int .i64 0, .int .i64 0] 70)).cell? ⟨w.heap.size, 2, none⟩ = some (.int .i64 c) := by simp [go_sem]
  have k3 : (((w.alloc (Obj.cells #[.int .i64 a, .int .i64 b, .int .i64 c, .int .i64 d] 58)).alloc (Obj.cells #[.int .i64 p, .int .i64 q, .int .i64 r, .int .i64 s] 58)).alloc (Obj.cells #[.int .i64 0, .int .i64 0, .int .i64 0, .int .i64 0, .int .i64 0] 70)).cell? ⟨w.heap.size, 3, none⟩ = some (.int .i64 d) := by simp [go_sem]
  have k4 : (((w.alloc (Obj.cells #[.int .i64 a, .int .i64 b, .int .i64 c, .int .i64 d] 58)).alloc (Obj.cells #[.int .i64 p, .int .i64 q, .int .i64 r, .int .i64 s] 58)).alloc (Obj.cells #[.int .i64 0, .int .i64 0, .int .i64 0, .int .i64 0, .int .i64 0] 70)).cell? ⟨w.heap.size + 1, 0, none⟩ = some (.int .i64 p) := by simp [go_sem]
  have k5 : (((w.alloc (Obj.cells #[.int .i64 a, .int .i64 b, .int .i64 c, .int .i64 d] 58)).alloc (Obj.cells #[.int .i64 p, .int .i64 q, .int .i64 r, .int .i64 s] 58)).alloc (Obj.cells #[.int .i64 0, .int .i64 0, .int .i64 0, .int .i64 0, .int .i64 0] 70)).cell? ⟨w.heap.size + 1, 1, none⟩ = some (.int .i64 q) := by simp [go_sem]
  have k6 : (((w.alloc (Obj.cells #[.int .i64 a, .int .i64 b, .int .i64 c, .int .i64 d] 58)).alloc (Obj.cells #[.int .i64 p, .int .i64 q, .int .i64 r, .int .i64 s] 58)).alloc (Obj.cells #[.int .i64 0, .int .i64 0, .int .i64 0, .int .i64 0, .int .i64 0] 70)).cell? ⟨w.heap.size + 1, 2, none⟩ = some (.int .i64 r) := by simp [go_sem]
  have k7 : (((w.alloc (Obj.cells #[.int .i64 a, .int .i64 b, .int .i64 c, .int .i64 d] 58)).alloc (Obj.cells #[.int .i64 p, .int .i64 q, .int .i64 r, .int .i64 s] 58)).alloc (Obj.cells #[.int .i64 0, .int .i64 0, .int .i64 0, .int .i64 0, .int .i64 0] 70)).cell? ⟨w.heap.size + 1, 3, none⟩ = some (.int .i64 s) := by simp [go_sem]
  have c0 : (((w.alloc (Obj.cells #[.int .i64 a, .int .i64 b, .int .i64 c, .int .i64 d] 58)).alloc (Obj.cells #[.int .i64 p, .int .i64 q, .int .i64 r, .int .i64 s] 58)).alloc (Obj.cells #[.int .i64 0, .int .i64 0, .int .i64 0, .int .i64 0, .int .i64 0] 70)).cell? ⟨w.heap.size + 1 + 1, 0, none⟩ = some (cv (((w.alloc (Obj.cells #[.int .i64 a, .int .i64 b, .int .i64 c, .int .i64 d] 58)).alloc (Obj.cells #[.int .i64 p, .int .i64 q, .int .i64 r, .int .i64 s] 58)).alloc (Obj.cells #[.int .i64 0, .int .i64 0, .int .i64 0, .int .i64 0, .int .i64 0] 70)) ⟨w.heap.size + 1 + 1, 0, none⟩) := cv_of (v := .int .i64 0) (by simp [go_sem])
  have c1 : (((w.alloc (Obj.cells #[.int .i64 a, .int .i64 b, .int .i64 c, .int .i64 d] 58)).alloc (Obj.cells #[.int .i64 p, .int .i64 q, .int .i64 r, .int .i64 s] 58)).alloc (Obj.cells #[.int .i64 0, .int .i64 0, .int .i64 0, .int .i64 0, .int .i64 0] 70)).cell? ⟨w.heap.size + 1 + 1, 1, none⟩ = some (cv (((w.alloc (Obj.cells #[.int .i64 a, .int .i64 b, .int .i64 c, .int .i64 d] 58)).alloc (Obj.cells #[.int .i64 p, .int .i64 q, .int .i64 r, .int .i64 s] 58)).alloc (Obj.cells #[.int .i64 0, .int .i64 0, .int .i64 0, .int .i64 0, .int .i64 0] 70)) ⟨w.heap.size + 1 + 1, 1, none⟩) := cv_of (v := .int .i64 0) (by simp [go_sem])
  have c2 : (((w.alloc (Obj.cells #[.int .i64 a, .int .i64 b, .int .i64 c, .int .i64 d] 58)).alloc (Obj.cells #[.int .i64 p, .int .i64 q, .int .i64 r, .int .i64 s] 58)).alloc (Obj.cells #[.int .i64 0, .int .i64 0, .int .i64 0, .int .i64 0, .int .i64 0] 70)).cell? ⟨w.heap.size + 1 + 1, 2, none⟩ = some (cv (((w.alloc (Obj.cells #[.int .i64 a, .int .i64 b, .int .i64 c, .int .i64 d] 58)).alloc (Obj.cells #[.int .i64 p, .int .i64 q, .int .i64 r, .int .i64 s] 58)).alloc (Obj.cells #[.int .i64 0, .int .i64 0, .int .i64 0, .int .i64 0, .int .i64 0] 70)) ⟨w.heap.size + 1 + 1, 2, none⟩) := cv_of (v := .int .i64 0) (by simp [go_sem])
  have c3 : (((w.alloc (Obj.cells #[.int .i64 a, .int .i64 b, .int .i64 c, .int .i64 d] 58)).alloc (Obj.cells #[.int .i64 p, .int .i64 q, .int .i64 r, .int .i64 s] 58)).alloc (Obj.cells #[.int .i64 0, .int .i64 0, .int .i64 0, .int .i64 0, .int .i64 0] 70)).cell? ⟨w.heap.size + 1 + 1, 3, none⟩ = some (cv (((w.alloc (Obj.cells #[.int .i64 a, .int .i64 b, .int .i64 c, .int .i64 d] 58)).alloc (Obj.cells #[.int .i64 p, .int .i64 q, .int .i64 r, .int .i64 s] 58)).alloc (Obj.cells #[.int .i64 0, .int .i64 0, .int .i64 0, .int .i64 0, .int .i64 0] 70)) ⟨w.heap.size + 1 + 1, 3, none⟩) := cv_of (v := .int .i64 0) (by simp [go_sem])
  have c4 : (((w.alloc (Obj.cells #[.int .i64 a, .int .i64 b, .int .i64 c, .int .i64 d] 58)).alloc (Obj.cells #[.int .i64 p, .int .i64 q, .int .i64 r, .int .i64 s] 58)).alloc (Obj.cells #[.int .i64 0, .int .i64 0, .int .i64 0, .int .i64 0, .int .i64 0] 70)).cell? ⟨w.heap.size + 1 + 1, 4, none⟩ = some (cv (((w.alloc (Obj.cells #[.int .i64 a, .int .i64 b, .int .i64 c, .int .i64 d] 58)).alloc (Obj.cells #[.int .i64 p, .int .i64 q, .int .i64 r, .int .i64 s] 58)).alloc (Obj.cells #[.int .i64 0, .int .i64 0, .int .i64 0, .int .i64 0, .int .i64 0] 70)) ⟨w.heap.size + 1 + 1, 4, none⟩) := cv_of (v := .int .i64 0) (by simp [go_sem])
  have g0 : ∀ o, (((w.alloc (Obj.cells #[.int .i64 a, .int .i64 b, .int .i64 c, .int .i64 d] 58)).alloc (Obj.cells #[.int .i64 p, .int .i64 q, .int .i64 r, .int .i64 s] 58)).alloc (Obj.cells #[.int .i64 0, .int .i64 0, .int .i64 0, .int .i64 0, .int .i64 0] 70)).frozen? ⟨w.heap.size + 1 + 1, o, none⟩ = false := fun o => by simp [go_sem]
  have hv : Below w.heap.size w (((w.alloc (Obj.cells #[.int .i64 a, .int .i64 b, .int .i64 c, .int .i64 d] 58)).alloc (Obj.cells #[.int .i64 p, .int .i64 q, .int .i64 r, .int .i64 s] 58)).alloc (Obj.cells #[.int .i64 0, .int .i64 0, .int .i64 0, .int .i64 0, .int .i64 0] 70)) := (by repeat (first | with_reducible exact Below.refl _ _ | with_reducible assumption | refine below_drewN ?_ _ | refine Below.drew ?_ | refine Below.alloc ?_ (by first | (simp; done) | (simp; omega) | omega) _ | refine Below.setCell ?_ (by first | (simp; done) | (simp; omega) | omega) _ | refine Below.trans ?_ (Below.mono (by assumption) (by first | (simp; done) | (simp; omega) | omega))))
  have hB : w.heap.size + 1 + 1 < (((w.alloc (Obj.cells #[.int .i64 a, .int .i64 b, .int .i64 c, .int .i64 d] 58)).alloc (Obj.cells #[.int .i64 p, .int .i64 q, .int .i64 r, .int .i64 s] 58)).alloc (Obj.cells #[.int .i64 0, .int .i64 0, .int .i64 0, .int .i64 0, .int .i64 0] 70)).heap.size := block_lt_of_cell c0
  generalize (((w.alloc (Obj.cells #[.int .i64 a, .int .i64 b, .int .i64 c, .int .i64 d] 58)).alloc (Obj.cells #[.int .i64 p, .int .i64 q, .int .i64 r, .int .i64 s] 58)).alloc (Obj.cells #[.int .i64 0, .int .i64 0, .int .i64 0, .int .i64 0, .int .i64 0] 70)) = X at *
  go_cut [5] from 7 to 17 (fun s5 wx => ∃ N : Nat, s5 = .pointer (some ⟨N, 0, none⟩) ∧ wx.cell? ⟨N, 0, none⟩ = some (.int .i64 g1) ∧ wx.cell? ⟨N, 1, none⟩ = some (.int .i64 g2) ∧ wx.cell? ⟨N, 2, none⟩ = some (.int .i64 h1) ∧ wx.cell? ⟨N, 3, none⟩ = some (.int .i64 h2) ∧ w.heap.size + 1 + 1 < N ∧ wx.cell? ⟨w.heap.size + 1 + 1, 0, none⟩ = some (cv wx ⟨w.heap.size + 1 + 1, 0, none⟩) ∧ wx.cell? ⟨w.heap.size + 1 + 1, 1, none⟩ = some (cv wx ⟨w.heap.size + 1 + 1, 1, none⟩) ∧ wx.cell? ⟨w.heap.size + 1 + 1, 2, none⟩ = some (cv wx ⟨w.heap.size + 1 + 1, 2, none⟩) ∧ wx.cell? ⟨w.heap.size + 1 + 1, 3, none⟩ = some (cv wx ⟨w.heap.size + 1 + 1, 3, none⟩) ∧ wx.cell? ⟨w.heap.size + 1 + 1, 4, none⟩ = some (cv wx ⟨w.heap.size + 1 + 1, 4, none⟩) ∧ (∀ o, wx.frozen? ⟨w.heap.size + 1 + 1, o, none⟩ = false) ∧ Below w.heap.size w wx)
  case first =>
    have S0 : X.drew.cell? ⟨w.heap.size, 0, none⟩ = some (.int .i64 a) ∧ X.drew.cell? ⟨w.heap.size, 1, none⟩ = some (.int .i64 b) ∧ X.drew.cell? ⟨w.heap.size, 2, none⟩ = some (.int .i64 c) ∧ X.drew.cell? ⟨w.heap.size, 3, none⟩ = some (.int .i64 d) ∧ X.drew.cell? ⟨w.heap.size + 1, 0, none⟩ = some (.int .i64 p) ∧ X.drew.cell? ⟨w.heap.size + 1, 1, none⟩ = some (.int .i64 q) ∧ X.drew.cell? ⟨w.heap.size + 1, 2, none⟩ = some (.int .i64 r) ∧ X.drew.cell? ⟨w.heap.size + 1, 3, none⟩ = some (.int .i64 s) ∧ X.drew.cell? ⟨w.heap.size + 1 + 1, 0, none⟩ = some (cv X.drew ⟨w.heap.size + 1 + 1, 0, none⟩) ∧ X.drew.cell? ⟨w.heap.size + 1 + 1, 1, none⟩ = some (cv X.drew ⟨w.heap.size + 1 + 1, 1, none⟩) ∧ X.drew.cell? ⟨w.heap.size + 1 + 1, 2, none⟩ = some (cv X.drew ⟨w.heap.size + 1 + 1, 2, none⟩) ∧ X.drew.cell? ⟨w.heap.size + 1 + 1, 3, none⟩ = some (cv X.drew ⟨w.heap.size + 1 + 1, 3, none⟩) ∧ X.drew.cell? ⟨w.heap.size + 1 + 1, 4, none⟩ = some (cv X.drew ⟨w.heap.size + 1 + 1, 4, none⟩) ∧ (∀ o, X.drew.frozen? ⟨w.heap.size + 1 + 1, o, none⟩ = false) ∧ Below w.heap.size w X.drew := ⟨k0, k1, k2, k3, k4, k5, k6, k7, c0, c1, c2, c3, c4, g0, hv.drew⟩
    go_region_held3 (fun w' => w'.cell? ⟨w.heap.size, 0, none⟩ = some (.int .i64 a) ∧ w'.cell? ⟨w.heap.size, 1, none⟩ = some (.int .i64 b) ∧ w'.cell? ⟨w.heap.size, 2, none⟩ = some (.int .i64 c) ∧ w'.cell? ⟨w.heap.size, 3, none⟩ = some (.int .i64 d) ∧ w'.cell? ⟨w.heap.size + 1, 0, none⟩ = some (.int .i64 p) ∧ w'.cell? ⟨w.heap.size + 1, 1, none⟩ = some (.int .i64 q) ∧ w'.cell? ⟨w.heap.size + 1, 2, none⟩ = some (.int .i64 r) ∧ w'.cell? ⟨w.heap.size + 1, 3, none⟩ = some (.int .i64 s) ∧ w'.cell? ⟨w.heap.size + 1 + 1, 0, none⟩ = some (cv w' ⟨w.heap.size + 1 + 1, 0, none⟩) ∧ w'.cell? ⟨w.heap.size + 1 + 1, 1, none⟩ = some (cv w' ⟨w.heap.size + 1 + 1, 1, none⟩) ∧ w'.cell? ⟨w.heap.size + 1 + 1, 2, none⟩ = some (cv w' ⟨w.heap.size + 1 + 1, 2, none⟩) ∧ w'.cell? ⟨w.heap.size + 1 + 1, 3, none⟩ = some (cv w' ⟨w.heap.size + 1 + 1, 3, none⟩) ∧ w'.cell? ⟨w.heap.size + 1 + 1, 4, none⟩ = some (cv w' ⟨w.heap.size + 1 + 1, 4, none⟩) ∧ (∀ o, w'.frozen? ⟨w.heap.size + 1 + 1, o, none⟩ = false) ∧ Below w.heap.size w w')
      (first | with_reducible exact S0 | with_reducible exact keepv_8_5 (by assumption) hbp | with_reducible exact keepv_8_5 (by assumption) (alloc_below _ _) | with_reducible exact keepo_8_5 (by assumption) (by first | (simp; done) | (simp; omega) | omega) (by first | (simp; done) | (simp; omega) | omega) (by first | (simp; done) | (simp; omega) | omega) (by first | (simp; done) | (simp; omega) | omega) (by first | (simp; done) | (simp; omega) | omega) (by first | (simp; done) | (simp; omega) | omega) (by first | (simp; done) | (simp; omega) | omega) (by first | (simp; done) | (simp; omega) | omega) (by first | (simp; done) | (simp; omega) | omega) (by first | (simp; done) | (simp; omega) | omega) | with_reducible exact keepn_8_5_4 (by assumption) (by first | (simp; done) | (simp; omega) | omega) (by first | (simp; done) | (simp; omega) | omega) (by first | (simp; done) | (simp; omega) | omega) (by first | (simp; done) | (simp; omega) | omega) (by first | (simp; done) | (simp; omega) | omega) (by first | (simp; done) | (simp; omega) | omega) (by first | (simp; done) | (simp; omega) | omega) (by first | (simp; done) | (simp; omega) | omega) (by first | (simp; done) | (simp; omega) | omega) (by first | (simp; done) | (simp; omega) | omega))
      (first
      | (go_at_call 104
         with_reducible refine (H1.out (World.drew (X.alloc _))).mono ?_
         rintro e wp1 ⟨he, hbp⟩
         subst he
         have hs1 := hbp.size
         try simp at hs1
         have n0 : wp1.cell? ⟨X.heap.size, 0, none⟩ = some (.int .i64 0) := kept1 (by simp [go_sem]) hbp
         have n1 : wp1.cell? ⟨X.heap.size, 1, none⟩ = some (.int .i64 0) := kept1 (by simp [go_sem]) hbp
         have n2 : wp1.cell? ⟨X.heap.size, 2, none⟩ = some (.int .i64 0) := kept1 (by simp [go_sem]) hbp
         have n3 : wp1.cell? ⟨X.heap.size, 3, none⟩ = some (.int .i64 0) := kept1 (by simp [go_sem]) hbp
         have nf : ∀ o, wp1.frozen? ⟨X.heap.size, o, none⟩ = false := kept_fz (fun o => by simp [go_sem]) (by simp) hbp
         skip)
      | (go_at_call 104
         with_reducible refine (H1.out X.drew).mono ?_
         rintro e wp1 ⟨he, hbp⟩
         subst he
         have hs1 := hbp.size
         try simp at hs1
         skip)
      | (go_at_call 105
         with_reducible refine (H2.out (wp1.alloc _)).mono ?_
         rintro e wp2 ⟨he, hbp⟩
         subst he
         have hs2 := hbp.size
         try simp at hs2
         have m0 : wp2.cell? ⟨wp1.heap.size, 0, none⟩ = some (.int .i64 0) := kept1 (by simp [go_sem]) hbp
         have m1 : wp2.cell? ⟨wp1.heap.size, 1, none⟩ = some (.int .i64 0) := kept1 (by simp [go_sem]) hbp
         have m2 : wp2.cell? ⟨wp1.heap.size, 2, none⟩ = some (.int .i64 0) := kept1 (by simp [go_sem]) hbp
         have m3 : wp2.cell? ⟨wp1.heap.size, 3, none⟩ = some (.int .i64 0) := kept1 (by simp [go_sem]) hbp
         have mf : ∀ o, wp2.frozen? ⟨wp1.heap.size, o, none⟩ = false := kept_fz (fun o => by simp [go_sem]) (by simp) hbp
         skip)
      | (go_at_call 105
         have hn0 := n0
         with_reducible refine (H2.out wp1).mono ?_
         rintro e wp2 ⟨he, hbp⟩
         subst he
         have hs2 := hbp.size
         try simp at hs2
         have m0 : wp2.cell? ⟨X.heap.size, 0, none⟩ = some (.int .i64 0) := kept1 (n0) hbp
         have m1 : wp2.cell? ⟨X.heap.size, 1, none⟩ = some (.int .i64 0) := kept1 (n1) hbp
         have m2 : wp2.cell? ⟨X.heap.size, 2, none⟩ = some (.int .i64 0) := kept1 (n2) hbp
         have m3 : wp2.cell? ⟨X.heap.size, 3, none⟩ = some (.int .i64 0) := kept1 (n3) hbp
         have mf : ∀ o, wp2.frozen? ⟨X.heap.size, o, none⟩ = false := kept_fz (nf) (block_lt_of_cell n0) hbp
         skip)
      | (go_at_call 105
         with_reducible refine (H2.out wp1).mono ?_
         rintro e wp2 ⟨he, hbp⟩
         subst he
         have hs2 := hbp.size
         try simp at hs2
         skip))
    all_goals
      go_split_ands
      go_wp2_with fail
      go_meet
      exact ⟨_, rfl, by first | (simp [go_sem]; done) | (simp [go_sem, m0]; done), by first | (simp [go_sem]; done) | (simp [go_sem, m1]; done), by first | (simp [go_sem]; done) | (simp [go_sem, m2]; done), by first | (simp [go_sem]; done) | (simp [go_sem, m3]; done), by first | (simp; done) | (simp; omega) | omega, by with_reducible assumption, by with_reducible assumption, by with_reducible assumption, by with_reducible assumption, by with_reducible assumption, by with_reducible assumption, by with_reducible assumption⟩
  case rest =>
    generalize wc = V at hcut ⊢
    clear wc
    obtain ⟨N, rfl, n0, n1, n2, n3, hN, b0, b1, b2, b3, b4, g, v⟩ := hcut
    clear k0 k1 k2 k3 k4 k5 k6 k7 c0 c1 c2 c3 c4 g0 hv hB H1 H2
    go_wp2_with fail
    refine (H3.out _).mono ?_
    rintro e w5 ⟨rfl, hb5⟩
    have n0_ := kept1 n0 hb5
    have n1_ := kept1 n1 hb5
    have n2_ := kept1 n2 hb5
    have n3_ := kept1 n3 hb5
    have b0_ : w5.cell? ⟨w.heap.size + 1 + 1, 0, none⟩ = some (cv w5 ⟨w.heap.size + 1 + 1, 0, none⟩) := cv_of (kept1 b0 hb5)
    have b1_ : w5.cell? ⟨w.heap.size + 1 + 1, 1, none⟩ = some (cv w5 ⟨w.heap.size + 1 + 1, 1, none⟩) := cv_of (kept1 b1 hb5)
    have b2_ : w5.cell? ⟨w.heap.size + 1 + 1, 2, none⟩ = some (cv w5 ⟨w.heap.size + 1 + 1, 2, none⟩) := cv_of (kept1 b2 hb5)
    have b3_ : w5.cell? ⟨w.heap.size + 1 + 1, 3, none⟩ = some (cv w5 ⟨w.heap.size + 1 + 1, 3, none⟩) := cv_of (kept1 b3 hb5)
    have b4_ : w5.cell? ⟨w.heap.size + 1 + 1, 4, none⟩ = some (cv w5 ⟨w.heap.size + 1 + 1, 4, none⟩) := cv_of (kept1 b4 hb5)
    have g_ := kept_fz g (block_lt_of_cell b0) hb5
    have v_ : Below w.heap.size w w5 := keep0 v hb5
    clear n0 n1 n2 n3 b0 b1 b2 b3 b4 g v hb5
    go_wp2
    refine bodyPost_ret (v := .agg #[.int .i64 0, .int .i64 0, .int .i64 0, .int .i64 0, .int .i64 5]) (by simp [results, Tryd.results63, go_sem, *]) rfl ?_
    exact ⟨rfl, (by repeat (first | with_reducible exact Below.refl _ _ | with_reducible assumption | refine below_drewN ?_ _ | refine Below.drew ?_ | refine Below.alloc ?_ (by first | (simp; done) | (simp; omega) | omega) _ | refine Below.setCell ?_ (by first | (simp; done) | (simp; omega) | omega) _ | refine Below.trans ?_ (Below.mono (by assumption) (by first | (simp; done) | (simp; omega) | omega))))⟩

set_option maxRecDepth 100000 in
set_option maxHeartbeats 4000000 in
theorem rmeet_ok (a b c d p q r s g1 g2 h1 h2 : Int) (w : World) (H1 : Hid (∀ W : World, Calls Tryd.prog 104 #[.agg #[.int .i64 a, .int .i64 b], .agg #[.int .i64 p, .int .i64 q]] W fun e w' => e = .returned (.agg #[.int .i64 g1, .int .i64 g2]) ∧ Below W.heap.size W w')) (H2 : Hid (∀ W : World, Calls Tryd.prog 105 #[.agg #[.int .i64 c, .int .i64 d], .agg #[.int .i64 r, .int .i64 s]] W fun e w' => e = .returned (.agg #[.int .i64 h1, .int .i64 h2]) ∧ Below W.heap.size W w')) (H3 : Hid (∀ W : World, Calls Tryd.prog 88 #[.agg #[.int .i64 h1, .int .i64 h2], .agg #[.int .i64 g1, .int .i64 g2]] W fun e w' => e = .returned (.bool false) ∧ Below W.heap.size W w')) :
    Calls Tryd.prog 63 #[.agg #[.int .i64 a, .int .i64 b, .int .i64 c, .int .i64 d], .agg #[.int .i64 p, .int .i64 q, .int .i64 r, .int .i64 s]] w fun e w' => e = .returned (.agg #[.int .i64 g1, .int .i64 g2, .int .i64 h1, .int .i64 h2, .int .i64 0]) ∧ Below w.heap.size w w' := by
  go_enter Tryd.func63, Tryd.ntmps63
  go_wp2_with fail
  have k0 : (((w.alloc (Obj.cells #[.int .i64 a, .int .i64 b, .int .i64 c, .int .i64 d] 58)).alloc (Obj.cells #[.int .i64 p, .int .i64 q, .int .i64 r, .int .i64 s] 58)).alloc (Obj.cells #[.int .i64 0, .int .i64 0, .int .i64 0, .int .i64 0, .int .i64 0] 70)).cell? ⟨w.heap.size, 0, none⟩ = some (.int .i64 a) := by simp [go_sem]
  have k1 : (((w.alloc (Obj.cells #[.int .i64 a, .int .i64 b, .int .i64 c, .int .i64 d] 58)).alloc (Obj.cells #[.int .i64 p, .int .i64 q, .int .i64 r, .int .i64 s] 58)).alloc (Obj.cells #[.int .i64 0, .int .i64 0, .int .i64 0, .int .i64 0, .int .i64 0] 70)).cell? ⟨w.heap.size, 1, none⟩ = some (.int .i64 b) := by simp [go_sem]
  have k2 : (((w.alloc (Obj.cells #[.int .i64 a, .int .i64 b, .int .i64 c, .int .i64 d] 58)).alloc (Obj.cells #[.int .i64 p, .int .i64 q, .int .i64 r, .int .i64 s] 58)).alloc (Obj.cells #[.int .i64 0, .int .i64 0, .int .i64 0, .int .i64 0, .int .i64 0] 70)).cell? ⟨w.heap.size, 2, none⟩ = some (.int .i64 c) := by simp [go_sem]
  have k3 : (((w.alloc (Obj.cells #[.int .i64 a, .int .i64 b, .int .i64 c, .int .i64 d] 58)).alloc (Obj.cells #[.int .i64 p, .int .i64 q, .int .i64 r, .int .i64 s] 58)).alloc (Obj.cells #[.int .i64 0, .int .i64 0, .int .i64 0, .int .i64 0, .int .i64 0] 70)).cell? ⟨w.heap.size, 3, none⟩ = some (.int .i64 d) := by simp [go_sem]
  have k4 : (((w.alloc (Obj.cells #[.int .i64 a, .int .i64 b, .int .i64 c, .int .i64 d] 58)).alloc (Obj.cells #[.int .i64 p, .int .i64 q, .int .i64 r, .int .i64 s] 58)).alloc (Obj.cells #[.int .i64 0, .int .i64 0, .int .i64 0, .int .i64 0, .int .i64 0] 70)).cell? ⟨w.heap.size + 1, 0, none⟩ = some (.int .i64 p) := by simp [go_sem]
  have k5 : (((w.alloc (Obj.cells #[.int .i64 a, .int .i64 b, .int .i64 c, .int .i64 d] 58)).alloc (Obj.cells #[.int .i64 p, .int .i64 q, .int .i64 r, .int .i64 s] 58)).alloc (Obj.cells #[.int .i64 0, .int .i64 0, .int .i64 0, .int .i64 0, .int .i64 0] 70)).cell? ⟨w.heap.size + 1, 1, none⟩ = some (.int .i64 q) := by simp [go_sem]
  have k6 : (((w.alloc (Obj.cells #[.int .i64 a, .int .i64 b, .int .i64 c, .int .i64 d] 58)).alloc (Obj.cells #[.int .i64 p, .int .i64 q, .int .i64 r, .int .i64 s] 58)).alloc (Obj.cells #[.int .i64 0, .int .i64 0, .int .i64 0, .int .i64 0, .int .i64 0] 70)).cell? ⟨w.heap.size + 1, 2, none⟩ = some (.int .i64 r) := by simp [go_sem]
  have k7 : (((w.alloc (Obj.cells #[.int .i64 a, .int .i64 b, .int .i64 c, .int .i64 d] 58)).alloc (Obj.cells #[.int .i64 p, .int .i64 q, .int .i64 r, .int .i64 s] 58)).alloc (Obj.cells #[.int .i64 0, .int .i64 0, .int .i64 0, .int .i64 0, .int .i64 0] 70)).cell? ⟨w.heap.size + 1, 3, none⟩ = some (.int .i64 s) := by simp [go_sem]
  have c0 : (((w.alloc (Obj.cells #[.int .i64 a, .int .i64 b, .int .i64 c, .int .i64 d] 58)).alloc (Obj.cells #[.int .i64 p, .int .i64 q, .int .i64 r, .int .i64 s] 58)).alloc (Obj.cells #[.int .i64 0, .int .i64 0, .int .i64 0, .int .i64 0, .int .i64 0] 70)).cell? ⟨w.heap.size + 1 + 1, 0, none⟩ = some (cv (((w.alloc (Obj.cells #[.int .i64 a, .int .i64 b, .int .i64 c, .int .i64 d] 58)).alloc (Obj.cells #[.int .i64 p, .int .i64 q, .int .i64 r, .int .i64 s] 58)).alloc (Obj.cells #[.int .i64 0, .int .i64 0, .int .i64 0, .int .i64 0, .int .i64 0] 70)) ⟨w.heap.size + 1 + 1, 0, none⟩) := cv_of (v := .int .i64 0) (by simp [go_sem])
  have c1 : (((w.alloc (Obj.cells #[.int .i64 a, .int .i64 b, .int .i64 c, .int .i64 d] 58)).alloc (Obj.cells #[.int .i64 p, .int .i64 q, .int .i64 r, .int .i64 s] 58)).alloc (Obj.cells #[.int .i64 0, .int .i64 0, .int .i64 0, .int .i64 0, .int .i64 0] 70)).cell? ⟨w.heap.size + 1 + 1, 1, none⟩ = some (cv (((w.alloc (Obj.cells #[.int .i64 a, .int .i64 b, .int .i64 c, .int .i64 d] 58)).alloc (Obj.cells #[.int .i64 p, .int .i64 q, .int .i64 r, .int .i64 s] 58)).alloc (Obj.cells #[.int .i64 0, .int .i64 0, .int .i64 0, .int .i64 0, .int .i64 0] 70)) ⟨w.heap.size + 1 + 1, 1, none⟩) := cv_of (v := .int .i64 0) (by simp [go_sem])
  have c2 : (((w.alloc (Obj.cells #[.int .i64 a, .int .i64 b, .int .i64 c, .int .i64 d] 58)).alloc (Obj.cells #[.int .i64 p, .int .i64 q, .int .i64 r, .int .i64 s] 58)).alloc (Obj.cells #[.int .i64 0, .int .i64 0, .int .i64 0, .int .i64 0, .int .i64 0] 70)).cell? ⟨w.heap.size + 1 + 1, 2, none⟩ = some (cv (((w.alloc (Obj.cells #[.int .i64 a, .int .i64 b, .int .i64 c, .int .i64 d] 58)).alloc (Obj.cells #[.int .i64 p, .int .i64 q, .int .i64 r, .int .i64 s] 58)).alloc (Obj.cells #[.int .i64 0, .int .i64 0, .int .i64 0, .int .i64 0, .int .i64 0] 70)) ⟨w.heap.size + 1 + 1, 2, none⟩) := cv_of (v := .int .i64 0) (by simp [go_sem])
  have c3 : (((w.alloc (Obj.cells #[.int .i64 a, .int .i64 b, .int .i64 c, .int .i64 d] 58)).alloc (Obj.cells #[.int .i64 p, .int .i64 q, .int .i64 r, .int .i64 s] 58)).alloc (Obj.cells #[.int .i64 0, .int .i64 0, .int .i64 0, .int .i64 0, .int .i64 0] 70)).cell? ⟨w.heap.size + 1 + 1, 3, none⟩ = some (cv (((w.alloc (Obj.cells #[.int .i64 a, .int .i64 b, .int .i64 c, .int .i64 d] 58)).alloc (Obj.cells #[.int .i64 p, .int .i64 q, .int .i64 r, .int .i64 s] 58)).alloc (Obj.cells #[.int .i64 0, .int .i64 0, .int .i64 0, .int .i64 0, .int .i64 0] 70)) ⟨w.heap.size + 1 + 1, 3, none⟩) := cv_of (v := .int .i64 0) (by simp [go_sem])
  have c4 : (((w.alloc (Obj.cells #[.int .i64 a, .int .i64 b, .int .i64 c, .int .i64 d] 58)).alloc (Obj.cells #[.int .i64 p, .int .i64 q, .int .i64 r, .int .i64 s] 58)).alloc (Obj.cells #[.int .i64 0, .int .i64 0, .int .i64 0, .int .i64 0, .int .i64 0] 70)).cell? ⟨w.heap.size + 1 + 1, 4, none⟩ = some (cv (((w.alloc (Obj.cells #[.int .i64 a, .int .i64 b, .int .i64 c, .int .i64 d] 58)).alloc (Obj.cells #[.int .i64 p, .int .i64 q, .int .i64 r, .int .i64 s] 58)).alloc (Obj.cells #[.int .i64 0, .int .i64 0, .int .i64 0, .int .i64 0, .int .i64 0] 70)) ⟨w.heap.size + 1 + 1, 4, none⟩) := cv_of (v := .int .i64 0) (by simp [go_sem])
  have g0 : ∀ o, (((w.alloc (Obj.cells #[.int .i64 a, .int .i64 b, .int .i64 c, .int .i64 d] 58)).alloc (Obj.cells #[.int .i64 p, .int .i64 q, .int .i64 r, .int .i64 s] 58)).alloc (Obj.cells #[.int .i64 0, .int .i64 0, .int .i64 0, .int .i64 0, .int .i64 0] 70)).frozen? ⟨w.heap.size + 1 + 1, o, none⟩ = false := fun o => by simp [go_sem]
  have hv : Below w.heap.size w (((w.alloc (Obj.cells #[.int .i64 a, .int .i64 b, .int .i64 c, .int .i64 d] 58)).alloc (Obj.cells #[.int .i64 p, .int .i64 q, .int .i64 r, .int .i64 s] 58)).alloc (Obj.cells #[.int .i64 0, .int .i64 0, .int .i64 0, .int .i64 0, .int .i64 0] 70)) := (by repeat (first | with_reducible exact Below.refl _ _ | with_reducible assumption | refine below_drewN ?_ _ | refine Below.drew ?_ | refine Below.alloc ?_ (by first | (simp; done) | (simp; omega) | omega) _ | refine Below.setCell ?_ (by first | (simp; done) | (simp; omega) | omega) _ | refine Below.trans ?_ (Below.mono (by assumption) (by first | (simp; done) | (simp; omega) | omega))))
  have hB : w.heap.size + 1 + 1 < (((w.alloc (Obj.cells #[.int .i64 a, .int .i64 b, .int .i64 c, .int .i64 d] 58)).alloc (Obj.cells #[.int .i64 p, .int .i64 q, .int .i64 r, .int .i64 s] 58)).alloc (Obj.cells #[.int .i64 0, .int .i64 0, .int .i64 0, .int .i64 0, .int .i64 0] 70)).heap.size := block_lt_of_cell c0
  generalize (((w.alloc (Obj.cells #[.int .i64 a, .int .i64 b, .int .i64 c, .int .i64 d] 58)).alloc (Obj.cells #[.int .i64 p, .int .i64 q, .int .i64 r, .int .i64 s] 58)).alloc (Obj.cells #[.int .i64 0, .int .i64 0, .int .i64 0, .int .i64 0, .int .i64 0] 70)) = X at *
  go_cut [5] from 7 to 17 (fun s5 wx => ∃ N : Nat, s5 = .pointer (some ⟨N, 0, none⟩) ∧ wx.cell? ⟨N, 0, none⟩ = some (.int .i64 g1) ∧ wx.cell? ⟨N, 1, none⟩ = some (.int .i64 g2) ∧ wx.cell? ⟨N, 2, none⟩ = some (.int .i64 h1) ∧ wx.cell? ⟨N, 3, none⟩ = some (.int .i64 h2) ∧ w.heap.size + 1 + 1 < N ∧ wx.cell? ⟨w.heap.size + 1 + 1, 0, none⟩ = some (cv wx ⟨w.heap.size + 1 + 1, 0, none⟩) ∧ wx.cell? ⟨w.heap.size + 1 + 1, 1, none⟩ = some (cv wx ⟨w.heap.size + 1 + 1, 1, none⟩) ∧ wx.cell? ⟨w.heap.size + 1 + 1, 2, none⟩ = some (cv wx ⟨w.heap.size + 1 + 1, 2, none⟩) ∧ wx.cell? ⟨w.heap.size + 1 + 1, 3, none⟩ = some (cv wx ⟨w.heap.size + 1 + 1, 3, none⟩) ∧ wx.cell? ⟨w.heap.size + 1 + 1, 4, none⟩ = some (cv wx ⟨w.heap.size + 1 + 1, 4, none⟩) ∧ (∀ o, wx.frozen? ⟨w.heap.size + 1 + 1, o, none⟩ = false) ∧ Below w.heap.size w wx)
  case first =>
    have S0 : X.drew.cell? ⟨w.heap.size, 0, none⟩ = some (.int .i64 a) ∧ X.drew.cell? ⟨w.heap.size, 1, none⟩ = some (.int .i64 b) ∧ X.drew.cell? ⟨w.heap.size, 2, none⟩ = some (.int .i64 c) ∧ X.drew.cell? ⟨w.heap.size, 3, none⟩ = some (.int .i64 d) ∧ X.drew.cell? ⟨w.heap.size + 1, 0, none⟩ = some (.int .i64 p) ∧ X.drew.cell? ⟨w.heap.size + 1, 1, none⟩ = some (.int .i64 q) ∧ X.drew.cell? ⟨w.heap.size + 1, 2, none⟩ = some (.int .i64 r) ∧ X.drew.cell? ⟨w.heap.size + 1, 3, none⟩ = some (.int .i64 s) ∧ X.drew.cell? ⟨w.heap.size + 1 + 1, 0, none⟩ = some (cv X.drew ⟨w.heap.size + 1 + 1, 0, none⟩) ∧ X.drew.cell? ⟨w.heap.size + 1 + 1, 1, none⟩ = some (cv X.drew ⟨w.heap.size + 1 + 1, 1, none⟩) ∧ X.drew.cell? ⟨w.heap.size + 1 + 1, 2, none⟩ = some (cv X.drew ⟨w.heap.size + 1 + 1, 2, none⟩) ∧ X.drew.cell? ⟨w.heap.size + 1 + 1, 3, none⟩ = some (cv X.drew ⟨w.heap.size + 1 + 1, 3, none⟩) ∧ X.drew.cell? ⟨w.heap.size + 1 + 1, 4, none⟩ = some (cv X.drew ⟨w.heap.size + 1 + 1, 4, none⟩) ∧ (∀ o, X.drew.frozen? ⟨w.heap.size + 1 + 1, o, none⟩ = false) ∧ Below w.heap.size w X.drew := ⟨k0, k1, k2, k3, k4, k5, k6, k7, c0, c1, c2, c3, c4, g0, hv.drew⟩
    go_region_held3 (fun w' => w'.cell? ⟨w.heap.size, 0, none⟩ = some (.int .i64 a) ∧ w'.cell? ⟨w.heap.size, 1, none⟩ = some (.int .i64 b) ∧ w'.cell? ⟨w.heap.size, 2, none⟩ = some (.int .i64 c) ∧ w'.cell? ⟨w.heap.size, 3, none⟩ = some (.int .i64 d) ∧ w'.cell? ⟨w.heap.size + 1, 0, none⟩ = some (.int .i64 p) ∧ w'.cell? ⟨w.heap.size + 1, 1, none⟩ = some (.int .i64 q) ∧ w'.cell? ⟨w.heap.size + 1, 2, none⟩ = some (.int .i64 r) ∧ w'.cell? ⟨w.heap.size + 1, 3, none⟩ = some (.int .i64 s) ∧ w'.cell? ⟨w.heap.size + 1 + 1, 0, none⟩ = some (cv w' ⟨w.heap.size + 1 + 1, 0, none⟩) ∧ w'.cell? ⟨w.heap.size + 1 + 1, 1, none⟩ = some (cv w' ⟨w.heap.size + 1 + 1, 1, none⟩) ∧ w'.cell? ⟨w.heap.size + 1 + 1, 2, none⟩ = some (cv w' ⟨w.heap.size + 1 + 1, 2, none⟩) ∧ w'.cell? ⟨w.heap.size + 1 + 1, 3, none⟩ = some (cv w' ⟨w.heap.size + 1 + 1, 3, none⟩) ∧ w'.cell? ⟨w.heap.size + 1 + 1, 4, none⟩ = some (cv w' ⟨w.heap.size + 1 + 1, 4, none⟩) ∧ (∀ o, w'.frozen? ⟨w.heap.size + 1 + 1, o, none⟩ = false) ∧ Below w.heap.size w w')
      (first | with_reducible exact S0 | with_reducible exact keepv_8_5 (by assumption) hbp | with_reducible exact keepv_8_5 (by assumption) (alloc_below _ _) | with_reducible exact keepo_8_5 (by assumption) (by first | (simp; done) | (simp; omega) | omega) (by first | (simp; done) | (simp; omega) | omega) (by first | (simp; done) | (simp; omega) | omega) (by first | (simp; done) | (simp; omega) | omega) (by first | (simp; done) | (simp; omega) | omega) (by first | (simp; done) | (simp; omega) | omega) (by first | (simp; done) | (simp; omega) | omega) (by first | (simp; done) | (simp; omega) | omega) (by first | (simp; done) | (simp; omega) | omega) (by first | (simp; done) | (simp; omega) | omega) | with_reducible exact keepn_8_5_4 (by assumption) (by first | (simp; done) | (simp; omega) | omega) (by first | (simp; done) | (simp; omega) | omega) (by first | (simp; done) | (simp; omega) | omega) (by first | (simp; done) | (simp; omega) | omega) (by first | (simp; done) | (simp; omega) | omega) (by first | (simp; done) | (simp; omega) | omega) (by first | (simp; done) | (simp; omega) | omega) (by first | (simp; done) | (simp; omega) | omega) (by first | (simp; done) | (simp; omega) | omega) (by first | (simp; done) | (simp; omega) | omega))
      (first
      | (go_at_call 104
         with_reducible refine (H1.out (World.drew (X.alloc _))).mono ?_
         rintro e wp1 ⟨he, hbp⟩
         subst he
         have hs1 := hbp.size
         try simp at hs1
         have n0 : wp1.cell? ⟨X.heap.size, 0, none⟩ = some (.int .i64 0) := kept1 (by simp [go_sem]) hbp
         have n1 : wp1.cell? ⟨X.heap.size, 1, none⟩ = some (.int .i64 0) := kept1 (by simp [go_sem]) hbp
         have n2 : wp1.cell? ⟨X.heap.size, 2, none⟩ = some (.int .i64 0) := kept1 (by simp [go_sem]) hbp
         have n3 : wp1.cell? ⟨X.heap.size, 3, none⟩ = some (.int .i64 0) := kept1 (by simp [go_sem]) hbp
         have nf : ∀ o, wp1.frozen? ⟨X.heap.size, o, none⟩ = false := kept_fz (fun o => by simp [go_sem]) (by simp) hbp
         skip)
      | (go_at_call 104
         with_reducible refine (H1.out X.drew).mono ?_
         rintro e wp1 ⟨he, hbp⟩
         subst he
         have hs1 := hbp.size
         try simp at hs1
         skip)
      | (go_at_call 105
         with_reducible refine (H2.out (wp1.alloc _)).mono ?_
         rintro e wp2 ⟨he, hbp⟩
         subst he
         have hs2 := hbp.size
         try simp at hs2
         have m0 : wp2.cell? ⟨wp1.heap.size, 0, none⟩ = some (.int .i64 0) := kept1 (by simp [go_sem]) hbp
         have m1 : wp2.cell? ⟨wp1.heap.size, 1, none⟩ = some (.int .i64 0) := kept1 (by simp [go_sem]) hbp
         have m2 : wp2.cell? ⟨wp1.heap.size, 2, none⟩ = some (.int .i64 0) := kept1 (by simp [go_sem]) hbp
         have m3 : wp2.cell? ⟨wp1.heap.size, 3, none⟩ = some (.int .i64 0) := kept1 (by simp [go_sem]) hbp
         have mf : ∀ o, wp2.frozen? ⟨wp1.heap.size, o, none⟩ = false := kept_fz (fun o => by simp [go_sem]) (by simp) hbp
         skip)
      | (go_at_call 105
         have hn0 := n0
         with_reducible refine (H2.out wp1).mono ?_
         rintro e wp2 ⟨he, hbp⟩
         subst he
         have hs2 := hbp.size
         try simp at hs2
         have m0 : wp2.cell? ⟨X.heap.size, 0, none⟩ = some (.int .i64 0) := kept1 (n0) hbp
         have m1 : wp2.cell? ⟨X.heap.size, 1, none⟩ = some (.int .i64 0) := kept1 (n1) hbp
         have m2 : wp2.cell? ⟨X.heap.size, 2, none⟩ = some (.int .i64 0) := kept1 (n2) hbp
         have m3 : wp2.cell? ⟨X.heap.size, 3, none⟩ = some (.int .i64 0) := kept1 (n3) hbp
         have mf : ∀ o, wp2.frozen? ⟨X.heap.size, o, none⟩ = false := kept_fz (nf) (block_lt_of_cell n0) hbp
         skip)
      | (go_at_call 105
         with_reducible refine (H2.out wp1).mono ?_
         rintro e wp2 ⟨he, hbp⟩
         subst he
         have hs2 := hbp.size
         try simp at hs2
         skip))
    all_goals
      go_split_ands
      go_wp2_with fail
      go_meet
      exact ⟨_, rfl, by first | (simp [go_sem]; done) | (simp [go_sem, m0]; done), by first | (simp [go_sem]; done) | (simp [go_sem, m1]; done), by first | (simp [go_sem]; done) | (simp [go_sem, m2]; done), by first | (simp [go_sem]; done) | (simp [go_sem, m3]; done), by first | (simp; done) | (simp; omega) | omega, by with_reducible assumption, by with_reducible assumption, by with_reducible assumption, by with_reducible assumption, by with_reducible assumption, by with_reducible assumption, by with_reducible assumption⟩
  case rest =>
    generalize wc = V at hcut ⊢
    clear wc
    obtain ⟨N, rfl, n0, n1, n2, n3, hN, b0, b1, b2, b3, b4, g, v⟩ := hcut
    clear k0 k1 k2 k3 k4 k5 k6 k7 c0 c1 c2 c3 c4 g0 hv hB H1 H2
    go_wp2_with fail
    refine (H3.out _).mono ?_
    rintro e w5 ⟨rfl, hb5⟩
    have n0_ := kept1 n0 hb5
    have n1_ := kept1 n1 hb5
    have n2_ := kept1 n2 hb5
    have n3_ := kept1 n3 hb5
    have b0_ : w5.cell? ⟨w.heap.size + 1 + 1, 0, none⟩ = some (cv w5 ⟨w.heap.size + 1 + 1, 0, none⟩) := cv_of (kept1 b0 hb5)
    have b1_ : w5.cell? ⟨w.heap.size + 1 + 1, 1, none⟩ = some (cv w5 ⟨w.heap.size + 1 + 1, 1, none⟩) := cv_of (kept1 b1 hb5)
    have b2_ : w5.cell? ⟨w.heap.size + 1 + 1, 2, none⟩ = some (cv w5 ⟨w.heap.size + 1 + 1, 2, none⟩) := cv_of (kept1 b2 hb5)
    have b3_ : w5.cell? ⟨w.heap.size + 1 + 1, 3, none⟩ = some (cv w5 ⟨w.heap.size + 1 + 1, 3, none⟩) := cv_of (kept1 b3 hb5)
    have b4_ : w5.cell? ⟨w.heap.size + 1 + 1, 4, none⟩ = some (cv w5 ⟨w.heap.size + 1 + 1, 4, none⟩) := cv_of (kept1 b4 hb5)
    have g_ := kept_fz g (block_lt_of_cell b0) hb5
    have v_ : Below w.heap.size w w5 := keep0 v hb5
    clear n0 n1 n2 n3 b0 b1 b2 b3 b4 g v hb5
    go_wp2
    refine bodyPost_ret (v := .agg #[.int .i64 g1, .int .i64 g2, .int .i64 h1, .int .i64 h2, .int .i64 0]) (by simp [results, Tryd.results63, go_sem, *]) rfl ?_
    exact ⟨rfl, (by repeat (first | with_reducible exact Below.refl _ _ | with_reducible assumption | refine below_drewN ?_ _ | refine Below.drew ?_ | refine Below.alloc ?_ (by first | (simp; done) | (simp; omega) | omega) _ | refine Below.setCell ?_ (by first | (simp; done) | (simp; omega) | omega) _ | refine Below.trans ?_ (Below.mono (by assumption) (by first | (simp; done) | (simp; omega) | omega))))⟩

end Go.Proofs.YtffabmojbelaaaaDoor
