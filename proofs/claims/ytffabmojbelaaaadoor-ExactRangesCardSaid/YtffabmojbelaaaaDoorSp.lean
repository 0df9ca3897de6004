/- Contracts of spread of package exact: for Add and for Mul. -/
import Derived.Test.YtffabmojbelaaaaDoorT
import Derived.Test.YtffabmojbelaaaaDoorKq
namespace Go.Proofs.YtffabmojbelaaaaDoor
open Go.RowKit

/-- what holds ahead of each round of spread: the result still empty, the ends -/
structure SpI (w wr : World) (x1 x2 y1 y2 : Int) : Prop where
  r0 : wr.cell? ⟨w.heap.size + 1, 0, none⟩ = some (.int .i64 0)
  r1 : wr.cell? ⟨w.heap.size + 1, 1, none⟩ = some (.int .i64 0)
  r2 : wr.cell? ⟨w.heap.size + 1, 2, none⟩ = some (.int .i64 0)
  r3 : wr.cell? ⟨w.heap.size + 1, 3, none⟩ = some (.int .i64 0)
  e0 : wr.cell? ⟨w.heap.size + 1 + 1, 0, none⟩ = some (.int .i64 x1)
  e1 : wr.cell? ⟨w.heap.size + 1 + 1, 1, none⟩ = some (.int .i64 x2)
  e2 : wr.cell? ⟨w.heap.size + 1 + 1, 2, none⟩ = some (.int .i64 y1)
  e3 : wr.cell? ⟨w.heap.size + 1 + 1, 3, none⟩ = some (.int .i64 y2)
  g1 : ∀ o, wr.frozen? ⟨w.heap.size + 1, o, none⟩ = false
  g2 : ∀ o, wr.frozen? ⟨w.heap.size + 1 + 1, o, none⟩ = false
  hz : w.heap.size + 1 + 1 + 1 ≤ wr.heap.size
  hb : Below w.heap.size w wr

theorem kept_fr {W W' : World} {o0 : Obj} {p : Addr} (h : W.frozen? p = false) (hl : p.block < W.heap.size) (hb : Below (W.alloc o0).heap.size (W.alloc o0) W') : W'.frozen? p = false :=
  (hb.frozen (by simp; omega)).trans ((((Below.refl W.heap.size W).alloc (Nat.le_refl _) o0).frozen hl).trans h)

set_option maxRecDepth 100000 in
set_option maxHeartbeats 2000000 in
theorem spadd_ok (a b p q c d r s l1 l2 m1 m2 : Int) (x y : Rt.Num) (ex : x.e = 0) (ey : y.e = 0) (H3 : Hid (∀ W : World, Calls Tryd.prog 102 #[.agg #[.int .i64 x.n, .int .i64 x.d], .agg #[.int .i64 y.n, .int .i64 y.d], .func (.func 101) #[] #[]] W fun e w' => e = .returned (.tuple #[.agg #[.int .i64 l1, .int .i64 l2], .agg #[.int .i64 m1, .int .i64 m2]]) ∧ Below W.heap.size W w')) (w : World) (H1 : Hid (∀ W : World, Calls Tryd.prog 25 #[.agg #[.int .i64 a, .int .i64 b], .agg #[.int .i64 p, .int .i64 q]] W fun e w' => e = .returned (.tuple #[.agg #[.int .i64 x.n, .int .i64 x.d], .int .i64 x.e]) ∧ Below W.heap.size W w')) (H2 : Hid (∀ W : World, Calls Tryd.prog 25 #[.agg #[.int .i64 c, .int .i64 d], .agg #[.int .i64 r, .int .i64 s]] W fun e w' => e = .returned (.tuple #[.agg #[.int .i64 y.n, .int .i64 y.d], .int .i64 y.e]) ∧ Below W.heap.size W w')) :
    Calls Tryd.prog 103 #[.agg #[.int .i64 a, .int .i64 b, .int .i64 p, .int .i64 q, .int .i64 c, .int .i64 d, .int .i64 r, .int .i64 s], .func (.func 25) #[] #[]] w fun e w' => e = .returned (.tuple #[.agg #[.int .i64 l1, .int .i64 l2, .int .i64 m1, .int .i64 m2], .int .i64 0]) ∧ Below w.heap.size w w' := by
  have hx0 : ∀ W : World, (Instr.index 111 (.agg #[.int .i64 a, .int .i64 b, .int .i64 p, .int .i64 q, .int .i64 c, .int .i64 d, .int .i64 r, .int .i64 s]) (.int .i64 0)).run Tryd.prog W = .ok (.agg #[.int .i64 a, .int .i64 b, .int .i64 p, .int .i64 q]) W := fun W => rfl
  have hx1 : ∀ W : World, (Instr.index 111 (.agg #[.int .i64 a, .int .i64 b, .int .i64 p, .int .i64 q, .int .i64 c, .int .i64 d, .int .i64 r, .int .i64 s]) (.int .i64 1)).run Tryd.prog W = .ok (.agg #[.int .i64 c, .int .i64 d, .int .i64 r, .int .i64 s]) W := fun W => rfl
  go_enter Tryd.func103, Tryd.ntmps103
  go_wp2_with fail
  go_loopw [14] (fun i wr => ∃ k : Nat, k ≤ 2 ∧ i = .int .i64 k ∧ Hid (SpI w wr (if 1 ≤ k then x.n else 0) (if 1 ≤ k then x.d else 0) (if 2 ≤ k then y.n else 0) (if 2 ≤ k then y.d else 0)))
    (fun i _ => 2 - (intOf i).toNat)
  case atStart =>
    refine ⟨0, by omega, rfl, Lib.hid ?_⟩
    constructor <;> first | (simp [go_sem]; done) | (intro o; simp [go_sem]; done) | (simp; omega) | exact (by repeat (first | with_reducible exact Below.refl _ _ | with_reducible assumption | refine below_drewN ?_ _ | refine Below.drew ?_ | refine Below.alloc ?_ (by first | (simp; done) | (simp; omega) | omega) _ | refine Below.setCell ?_ (by first | (simp; done) | (simp; omega) | omega) _ | refine Below.trans ?_ (Below.mono (by assumption) (by first | (simp; done) | (simp; omega) | omega))))
  case round =>
    obtain ⟨k, hk, rfl, hE⟩ := hrel
    match k, hk with
    | 0, _ =>
      obtain ⟨r0, r1, r2, r3, e0, e1, e2, e3, g1, g2, hz, hb⟩ := hE.out
      simp at e0 e1 e2 e3
      clear hE
      go_wp2_with fail
      refine (H1.out _).mono ?_
      rintro e w1 ⟨rfl, hb1⟩
      replace r0 := kept_a1 r0 hb1
      replace r1 := kept_a1 r1 hb1
      replace r2 := kept_a1 r2 hb1
      replace r3 := kept_a1 r3 hb1
      replace e0 := kept_a1 e0 hb1
      replace e1 := kept_a1 e1 hb1
      replace e2 := kept_a1 e2 hb1
      replace e3 := kept_a1 e3 hb1
      replace g1 : ∀ o, w1.frozen? ⟨w.heap.size + 1, o, none⟩ = false := fun o => kept_fr (g1 o) (by simp; omega) hb1
      replace g2 : ∀ o, w1.frozen? ⟨w.heap.size + 1 + 1, o, none⟩ = false := fun o => kept_fr (g2 o) (by simp; omega) hb1
      replace hb := bstep1 hb hb1
      have hz1 := hb1.size
      simp at hz1
      have hz2 : w.heap.size + 1 + 1 + 1 ≤ w1.heap.size := by omega
      clear hz hz1 hb1
      have lt1 : w.heap.size + 1 < w1.heap.size := by omega
      have lt2 : w.heap.size + 1 + 1 < w1.heap.size := by omega
      have lt3 : w.heap.size + 1 < w1.heap.size + 1 := by omega
      have lt4 : w.heap.size + 1 + 1 < w1.heap.size + 1 := by omega
      go_wp2
      go_roundw
      case rel =>
        refine ⟨1, by omega, rfl, Lib.hid ?_⟩
        constructor <;> first | (simp [go_sem, *]; done) | (intro o; simp [go_sem, *]; done) | (simp; omega) | exact (by repeat (first | with_reducible exact Below.refl _ _ | with_reducible assumption | refine below_drewN ?_ _ | refine Below.drew ?_ | refine Below.alloc ?_ (by first | (simp; done) | (simp; omega) | omega) _ | refine Below.setCell ?_ (by first | (simp; done) | (simp; omega) | omega) _ | refine Below.trans ?_ (Below.mono (by assumption) (by first | (simp; done) | (simp; omega) | omega))))
      case measure => simp [intOf]
    | 1, _ =>
      obtain ⟨r0, r1, r2, r3, e0, e1, e2, e3, g1, g2, hz, hb⟩ := hE.out
      simp at e0 e1 e2 e3
      clear hE
      go_wp2_with fail
      refine (H2.out _).mono ?_
      rintro e w1 ⟨rfl, hb1⟩
      replace r0 := kept_a1 r0 hb1
      replace r1 := kept_a1 r1 hb1
      replace r2 := kept_a1 r2 hb1
      replace r3 := kept_a1 r3 hb1
      replace e0 := kept_a1 e0 hb1
      replace e1 := kept_a1 e1 hb1
      replace e2 := kept_a1 e2 hb1
      replace e3 := kept_a1 e3 hb1
      replace g1 : ∀ o, w1.frozen? ⟨w.heap.size + 1, o, none⟩ = false := fun o => kept_fr (g1 o) (by simp; omega) hb1
      replace g2 : ∀ o, w1.frozen? ⟨w.heap.size + 1 + 1, o, none⟩ = false := fun o => kept_fr (g2 o) (by simp; omega) hb1
      replace hb := bstep1 hb hb1
      have hz1 := hb1.size
      simp at hz1
      have hz2 : w.heap.size + 1 + 1 + 1 ≤ w1.heap.size := by omega
      clear hz hz1 hb1
      have lt1 : w.heap.size + 1 < w1.heap.size := by omega
      have lt2 : w.heap.size + 1 + 1 < w1.heap.size := by omega
      have lt3 : w.heap.size + 1 < w1.heap.size + 1 := by omega
      have lt4 : w.heap.size + 1 + 1 < w1.heap.size + 1 := by omega
      go_wp2
      go_roundw
      case rel =>
        refine ⟨2, by omega, rfl, Lib.hid ?_⟩
        constructor <;> first | (simp [go_sem, *]; done) | (intro o; simp [go_sem, *]; done) | (simp; omega) | exact (by repeat (first | with_reducible exact Below.refl _ _ | with_reducible assumption | refine below_drewN ?_ _ | refine Below.drew ?_ | refine Below.alloc ?_ (by first | (simp; done) | (simp; omega) | omega) _ | refine Below.setCell ?_ (by first | (simp; done) | (simp; omega) | omega) _ | refine Below.trans ?_ (Below.mono (by assumption) (by first | (simp; done) | (simp; omega) | omega))))
      case measure => simp [intOf]
    | 2, _ =>
      obtain ⟨r0, r1, r2, r3, e0, e1, e2, e3, g1, g2, hz, hb⟩ := hE.out
      simp at e0 e1 e2 e3
      clear hE
      go_wp2_with fail
      refine (H3.out _).mono ?_
      rintro e w1 ⟨rfl, hb1⟩
      replace r0 := kept1 r0 hb1
      replace r1 := kept1 r1 hb1
      replace r2 := kept1 r2 hb1
      replace r3 := kept1 r3 hb1
      replace g1 : ∀ o, w1.frozen? ⟨w.heap.size + 1, o, none⟩ = false := fun o => (hb1.frozen (p := ⟨w.heap.size + 1, o, none⟩) (by simp; omega)).trans (g1 o)
      replace hb := bstep0 hb hb1
      have hz1 := hb1.size
      have hz2 : w.heap.size + 1 + 1 + 1 ≤ w1.heap.size := by omega
      clear hz hz1 hb1 e0 e1 e2 e3 g2
      have lt1 : w.heap.size + 1 < w1.heap.size := by omega
      have lt3 : w.heap.size + 1 < w1.heap.size + 1 := by omega
      have lt5 : w.heap.size + 1 < w1.heap.size + 1 + 1 := by omega
      go_wp2
      refine bodyPost_ret (v := .tuple #[.agg #[.int .i64 l1, .int .i64 l2, .int .i64 m1, .int .i64 m2], .int .i64 0]) (by simp [results, Tryd.results103, go_sem, *]) rfl ?_
      exact ⟨rfl, (by repeat (first | with_reducible exact Below.refl _ _ | with_reducible assumption | refine below_drewN ?_ _ | refine Below.drew ?_ | refine Below.alloc ?_ (by first | (simp; done) | (simp; omega) | omega) _ | refine Below.setCell ?_ (by first | (simp; done) | (simp; omega) | omega) _ | refine Below.trans ?_ (Below.mono (by assumption) (by first | (simp; done) | (simp; omega) | omega))))⟩

set_option maxRecDepth 100000 in
set_option maxHeartbeats 2000000 in
theorem spadd_e1 (a b p q c d r s : Int) (x : Rt.Num) (ex : x.e ≠ 0) (w : World) (H1 : Hid (∀ W : World, Calls Tryd.prog 25 #[.agg #[.int .i64 a, .int .i64 b], .agg #[.int .i64 p, .int .i64 q]] W fun e w' => e = .returned (.tuple #[.agg #[.int .i64 x.n, .int .i64 x.d], .int .i64 x.e]) ∧ Below W.heap.size W w')) :
    Calls Tryd.prog 103 #[.agg #[.int .i64 a, .int .i64 b, .int .i64 p, .int .i64 q, .int .i64 c, .int .i64 d, .int .i64 r, .int .i64 s], .func (.func 25) #[] #[]] w fun e w' => e = .returned (.tuple #[.agg #[.int .i64 0, .int .i64 0, .int .i64 0, .int .i64 0], .int .i64 x.e]) ∧ Below w.heap.size w w' := by
  have hx0 : ∀ W : World, (Instr.index 111 (.agg #[.int .i64 a, .int .i64 b, .int .i64 p, .int .i64 q, .int .i64 c, .int .i64 d, .int .i64 r, .int .i64 s]) (.int .i64 0)).run Tryd.prog W = .ok (.agg #[.int .i64 a, .int .i64 b, .int .i64 p, .int .i64 q]) W := fun W => rfl
  go_enter Tryd.func103, Tryd.ntmps103
  go_wp2_with fail
  go_loopw [14] (fun i wr => ∃ k : Nat, k ≤ 0 ∧ i = .int .i64 k ∧ Hid (SpI w wr 0 0 0 0))
    (fun i _ => 2 - (intOf i).toNat)
  case atStart =>
    refine ⟨0, by omega, rfl, Lib.hid ?_⟩
    constructor <;> first | (simp [go_sem]; done) | (intro o; simp [go_sem]; done) | (simp; omega) | exact (by repeat (first | with_reducible exact Below.refl _ _ | with_reducible assumption | refine below_drewN ?_ _ | refine Below.drew ?_ | refine Below.alloc ?_ (by first | (simp; done) | (simp; omega) | omega) _ | refine Below.setCell ?_ (by first | (simp; done) | (simp; omega) | omega) _ | refine Below.trans ?_ (Below.mono (by assumption) (by first | (simp; done) | (simp; omega) | omega))))
  case round =>
    obtain ⟨k, hk, rfl, hE⟩ := hrel
    match k, hk with
    | 0, _ =>
      obtain ⟨r0, r1, r2, r3, e0, e1, e2, e3, g1, g2, hz, hb⟩ := hE.out
      clear hE
      go_wp2_with fail
      refine (H1.out _).mono ?_
      rintro e w1 ⟨rfl, hb1⟩
      replace r0 := kept_a1 r0 hb1
      replace r1 := kept_a1 r1 hb1
      replace r2 := kept_a1 r2 hb1
      replace r3 := kept_a1 r3 hb1
      replace e0 := kept_a1 e0 hb1
      replace e1 := kept_a1 e1 hb1
      replace e2 := kept_a1 e2 hb1
      replace e3 := kept_a1 e3 hb1
      replace g1 : ∀ o, w1.frozen? ⟨w.heap.size + 1, o, none⟩ = false := fun o => kept_fr (g1 o) (by simp; omega) hb1
      replace g2 : ∀ o, w1.frozen? ⟨w.heap.size + 1 + 1, o, none⟩ = false := fun o => kept_fr (g2 o) (by simp; omega) hb1
      replace hb := bstep1 hb hb1
      have hz1 := hb1.size
      simp at hz1
      have hz2 : w.heap.size + 1 + 1 + 1 ≤ w1.heap.size := by omega
      clear hz hz1 hb1
      have lt1 : w.heap.size + 1 < w1.heap.size := by omega
      have lt2 : w.heap.size + 1 + 1 < w1.heap.size := by omega
      have lt3 : w.heap.size + 1 < w1.heap.size + 1 := by omega
      have lt4 : w.heap.size + 1 + 1 < w1.heap.size + 1 := by omega
      go_wp2
      refine bodyPost_ret (v := .tuple #[.agg #[.int .i64 0, .int .i64 0, .int .i64 0, .int .i64 0], .int .i64 x.e]) (by simp [results, Tryd.results103, go_sem, *]) rfl ?_
      exact ⟨rfl, (by repeat (first | with_reducible exact Below.refl _ _ | with_reducible assumption | refine below_drewN ?_ _ | refine Below.drew ?_ | refine Below.alloc ?_ (by first | (simp; done) | (simp; omega) | omega) _ | refine Below.setCell ?_ (by first | (simp; done) | (simp; omega) | omega) _ | refine Below.trans ?_ (Below.mono (by assumption) (by first | (simp; done) | (simp; omega) | omega))))⟩

set_option maxRecDepth 100000 in
set_option maxHeartbeats 2000000 in
theorem spadd_e2 (a b p q c d r s : Int) (x y : Rt.Num) (ex : x.e = 0) (ey : y.e ≠ 0) (w : World) (H1 : Hid (∀ W : World, Calls Tryd.prog 25 #[.agg #[.int .i64 a, .int .i64 b], .agg #[.int .i64 p, .int .i64 q]] W fun e w' => e = .returned (.tuple #[.agg #[.int .i64 x.n, .int .i64 x.d], .int .i64 x.e]) ∧ Below W.heap.size W w')) (H2 : Hid (∀ W : World, Calls Tryd.prog 25 #[.agg #[.int .i64 c, .int .i64 d], .agg #[.int .i64 r, .int .i64 s]] W fun e w' => e = .returned (.tuple #[.agg #[.int .i64 y.n, .int .i64 y.d], .int .i64 y.e]) ∧ Below W.heap.size W w')) :
    Calls Tryd.prog 103 #[.agg #[.int .i64 a, .int .i64 b, .int .i64 p, .int .i64 q, .int .i64 c, .int .i64 d, .int .i64 r, .int .i64 s], .func (.func 25) #[] #[]] w fun e w' => e = .returned (.tuple #[.agg #[.int .i64 0, .int .i64 0, .int .i64 0, .int .i64 0], .int .i64 y.e]) ∧ Below w.heap.size w w' := by
  have hx0 : ∀ W : World, (Instr.index 111 (.agg #[.int .i64 a, .int .i64 b, .int .i64 p, .int .i64 q, .int .i64 c, .int .i64 d, .int .i64 r, .int .i64 s]) (.int .i64 0)).run Tryd.prog W = .ok (.agg #[.int .i64 a, .int .i64 b, .int .i64 p, .int .i64 q]) W := fun W => rfl
  have hx1 : ∀ W : World, (Instr.index 111 (.agg #[.int .i64 a, .int .i64 b, .int .i64 p, .int .i64 q, .int .i64 c, .int .i64 d, .int .i64 r, .int .i64 s]) (.int .i64 1)).run Tryd.prog W = .ok (.agg #[.int .i64 c, .int .i64 d, .int .i64 r, .int .i64 s]) W := fun W => rfl
  go_enter Tryd.func103, Tryd.ntmps103
  go_wp2_with fail
  go_loopw [14] (fun i wr => ∃ k : Nat, k ≤ 1 ∧ i = .int .i64 k ∧ Hid (SpI w wr (if 1 ≤ k then x.n else 0) (if 1 ≤ k then x.d else 0) 0 0))
    (fun i _ => 2 - (intOf i).toNat)
  case atStart =>
    refine ⟨0, by omega, rfl, Lib.hid ?_⟩
    constructor <;> first | (simp [go_sem]; done) | (intro o; simp [go_sem]; done) | (simp; omega) | exact (by repeat (first | with_reducible exact Below.refl _ _ | with_reducible assumption | refine below_drewN ?_ _ | refine Below.drew ?_ | refine Below.alloc ?_ (by first | (simp; done) | (simp; omega) | omega) _ | refine Below.setCell ?_ (by first | (simp; done) | (simp; omega) | omega) _ | refine Below.trans ?_ (Below.mono (by assumption) (by first | (simp; done) | (simp; omega) | omega))))
  case round =>
    obtain ⟨k, hk, rfl, hE⟩ := hrel
    match k, hk with
    | 0, _ =>
      obtain ⟨r0, r1, r2, r3, e0, e1, e2, e3, g1, g2, hz, hb⟩ := hE.out
      simp at e0 e1 e2 e3
      clear hE
      go_wp2_with fail
      refine (H1.out _).mono ?_
      rintro e w1 ⟨rfl, hb1⟩
      replace r0 := kept_a1 r0 hb1
      replace r1 := kept_a1 r1 hb1
      replace r2 := kept_a1 r2 hb1
      replace r3 := kept_a1 r3 hb1
      replace e0 := kept_a1 e0 hb1
      replace e1 := kept_a1 e1 hb1
      replace e2 := kept_a1 e2 hb1
      replace e3 := kept_a1 e3 hb1
      replace g1 : ∀ o, w1.frozen? ⟨w.heap.size + 1, o, none⟩ = false := fun o => kept_fr (g1 o) (by simp; omega) hb1
      replace g2 : ∀ o, w1.frozen? ⟨w.heap.size + 1 + 1, o, none⟩ = false := fun o => kept_fr (g2 o) (by simp; omega) hb1
      replace hb := bstep1 hb hb1
      have hz1 := hb1.size
      simp at hz1
      have hz2 : w.heap.size + 1 + 1 + 1 ≤ w1.heap.size := by omega
      clear hz hz1 hb1
      have lt1 : w.heap.size + 1 < w1.heap.size := by omega
      have lt2 : w.heap.size + 1 + 1 < w1.heap.size := by omega
      have lt3 : w.heap.size + 1 < w1.heap.size + 1 := by omega
      have lt4 : w.heap.size + 1 + 1 < w1.heap.size + 1 := by omega
      go_wp2
      go_roundw
      case rel =>
        refine ⟨1, by omega, rfl, Lib.hid ?_⟩
        constructor <;> first | (simp [go_sem, *]; done) | (intro o; simp [go_sem, *]; done) | (simp; omega) | exact (by repeat (first | with_reducible exact Below.refl _ _ | with_reducible assumption | refine below_drewN ?_ _ | refine Below.drew ?_ | refine Below.alloc ?_ (by first | (simp; done) | (simp; omega) | omega) _ | refine Below.setCell ?_ (by first | (simp; done) | (simp; omega) | omega) _ | refine Below.trans ?_ (Below.mono (by assumption) (by first | (simp; done) | (simp; omega) | omega))))
      case measure => simp [intOf]
    | 1, _ =>
      obtain ⟨r0, r1, r2, r3, e0, e1, e2, e3, g1, g2, hz, hb⟩ := hE.out
      simp at e0 e1 e2 e3
      clear hE
      go_wp2_with fail
      refine (H2.out _).mono ?_
      rintro e w1 ⟨rfl, hb1⟩
      replace r0 := kept_a1 r0 hb1
      replace r1 := kept_a1 r1 hb1
      replace r2 := kept_a1 r2 hb1
      replace r3 := kept_a1 r3 hb1
      replace e0 := kept_a1 e0 hb1
      replace e1 := kept_a1 e1 hb1
      replace e2 := kept_a1 e2 hb1
      replace e3 := kept_a1 e3 hb1
      replace g1 : ∀ o, w1.frozen? ⟨w.heap.size + 1, o, none⟩ = false := fun o => kept_fr (g1 o) (by simp; omega) hb1
      replace g2 : ∀ o, w1.frozen? ⟨w.heap.size + 1 + 1, o, none⟩ = false := fun o => kept_fr (g2 o) (by simp; omega) hb1
      replace hb := bstep1 hb hb1
      have hz1 := hb1.size
      simp at hz1
      have hz2 : w.heap.size + 1 + 1 + 1 ≤ w1.heap.size := by omega
      clear hz hz1 hb1
      have lt1 : w.heap.size + 1 < w1.heap.size := by omega
      have lt2 : w.heap.size + 1 + 1 < w1.heap.size := by omega
      have lt3 : w.heap.size + 1 < w1.heap.size + 1 := by omega
      have lt4 : w.heap.size + 1 + 1 < w1.heap.size + 1 := by omega
      go_wp2
      refine bodyPost_ret (v := .tuple #[.agg #[.int .i64 0, .int .i64 0, .int .i64 0, .int .i64 0], .int .i64 y.e]) (by simp [results, Tryd.results103, go_sem, *]) rfl ?_
      exact ⟨rfl, (by repeat (first | with_reducible exact Below.refl _ _ | with_reducible assumption | refine below_drewN ?_ _ | refine Below.drew ?_ | refine Below.alloc ?_ (by first | (simp; done) | (simp; omega) | omega) _ | refine Below.setCell ?_ (by first | (simp; done) | (simp; omega) | omega) _ | refine Below.trans ?_ (Below.mono (by assumption) (by first | (simp; done) | (simp; omega) | omega))))⟩

set_option maxRecDepth 100000 in
set_option maxHeartbeats 2000000 in
theorem spmul_ok (a b p q c d r s l1 l2 m1 m2 : Int) (x y : Rt.Num) (ex : x.e = 0) (ey : y.e = 0) (H3 : Hid (∀ W : World, Calls Tryd.prog 102 #[.agg #[.int .i64 x.n, .int .i64 x.d], .agg #[.int .i64 y.n, .int .i64 y.d], .func (.func 101) #[] #[]] W fun e w' => e = .returned (.tuple #[.agg #[.int .i64 l1, .int .i64 l2], .agg #[.int .i64 m1, .int .i64 m2]]) ∧ Below W.heap.size W w')) (w : World) (H1 : Hid (∀ W : World, Calls Tryd.prog 27 #[.agg #[.int .i64 a, .int .i64 b], .agg #[.int .i64 p, .int .i64 q]] W fun e w' => e = .returned (.tuple #[.agg #[.int .i64 x.n, .int .i64 x.d], .int .i64 x.e]) ∧ Below W.heap.size W w')) (H2 : Hid (∀ W : World, Calls Tryd.prog 27 #[.agg #[.int .i64 c, .int .i64 d], .agg #[.int .i64 r, .int .i64 s]] W fun e w' => e = .returned (.tuple #[.agg #[.int .i64 y.n, .int .i64 y.d], .int .i64 y.e]) ∧ Below W.heap.size W w')) :
    Calls Tryd.prog 103 #[.agg #[.int .i64 a, .int .i64 b, .int .i64 p, .int .i64 q, .int .i64 c, .int .i64 d, .int .i64 r, .int .i64 s], .func (.func 27) #[] #[]] w fun e w' => e = .returned (.tuple #[.agg #[.int .i64 l1, .int .i64 l2, .int .i64 m1, .int .i64 m2], .int .i64 0]) ∧ Below w.heap.size w w' := by
  have hx0 : ∀ W : World, (Instr.index 111 (.agg #[.int .i64 a, .int .i64 b, .int .i64 p, .int .i64 q, .int .i64 c, .int .i64 d, .int .i64 r, .int .i64 s]) (.int .i64 0)).run Tryd.prog W = .ok (.agg #[.int .i64 a, .int .i64 b, .int .i64 p, .int .i64 q]) W := fun W => rfl
  have hx1 : ∀ W : World, (Instr.index 111 (.agg #[.int .i64 a, .int .i64 b, .int .i64 p, .int .i64 q, .int .i64 c, .int .i64 d, .int .i64 r, .int .i64 s]) (.int .i64 1)).run Tryd.prog W = .ok (.agg #[.int .i64 c, .int .i64 d, .int .i64 r, .int .i64 s]) W := fun W => rfl
  go_enter Tryd.func103, Tryd.ntmps103
  go_wp2_with fail
  go_loopw [14] (fun i wr => ∃ k : Nat, k ≤ 2 ∧ i = .int .i64 k ∧ Hid (SpI w wr (if 1 ≤ k then x.n else 0) (if 1 ≤ k then x.d else 0) (if 2 ≤ k then y.n else 0) (if 2 ≤ k then y.d else 0)))
    (fun i _ => 2 - (intOf i).toNat)
  case atStart =>
    refine ⟨0, by omega, rfl, Lib.hid ?_⟩
    constructor <;> first | (simp [go_sem]; done) | (intro o; simp [go_sem]; done) | (simp; omega) | exact (by repeat (first | with_reducible exact Below.refl _ _ | with_reducible assumption | refine below_drewN ?_ _ | refine Below.drew ?_ | refine Below.alloc ?_ (by first | (simp; done) | (simp; omega) | omega) _ | refine Below.setCell ?_ (by first | (simp; done) | (simp; omega) | omega) _ | refine Below.trans ?_ (Below.mono (by assumption) (by first | (simp; done) | (simp; omega) | omega))))
  case round =>
    obtain ⟨k, hk, rfl, hE⟩ := hrel
    match k, hk with
    | 0, _ =>
      obtain ⟨r0, r1, r2, r3, e0, e1, e2, e3, g1, g2, hz, hb⟩ := hE.out
      simp at e0 e1 e2 e3
      clear hE
      go_wp2_with fail
      refine (H1.out _).mono ?_
      rintro e w1 ⟨rfl, hb1⟩
      replace r0 := kept_a1 r0 hb1
      replace r1 := kept_a1 r1 hb1
      replace r2 := kept_a1 r2 hb1
      replace r3 := kept_a1 r3 hb1
      replace e0 := kept_a1 e0 hb1
      replace e1 := kept_a1 e1 hb1
      replace e2 := kept_a1 e2 hb1
      replace e3 := kept_a1 e3 hb1
      replace g1 : ∀ o, w1.frozen? ⟨w.heap.size + 1, o, none⟩ = false := fun o => kept_fr (g1 o) (by simp; omega) hb1
      replace g2 : ∀ o, w1.frozen? ⟨w.heap.size + 1 + 1, o, none⟩ = false := fun o => kept_fr (g2 o) (by simp; omega) hb1
      replace hb := bstep1 hb hb1
      have hz1 := hb1.size
      simp at hz1
      have hz2 : w.heap.size + 1 + 1 + 1 ≤ w1.heap.size := by omega
      clear hz hz1 hb1
      have lt1 : w.heap.size + 1 < w1.heap.size := by omega
      have lt2 : w.heap.size + 1 + 1 < w1.heap.size := by omega
      have lt3 : w.heap.size + 1 < w1.heap.size + 1 := by omega
      have lt4 : w.heap.size + 1 + 1 < w1.heap.size + 1 := by omega
      go_wp2
      go_roundw
      case rel =>
        refine ⟨1, by omega, rfl, Lib.hid ?_⟩
        constructor <;> first | (simp [go_sem, *]; done) | (intro o; simp [go_sem, *]; done) | (simp; omega) | exact (by repeat (first | with_reducible exact Below.refl _ _ | with_reducible assumption | refine below_drewN ?_ _ | refine Below.drew ?_ | refine Below.alloc ?_ (by first | (simp; done) | (simp; omega) | omega) _ | refine Below.setCell ?_ (by first | (simp; done) | (simp; omega) | omega) _ | refine Below.trans ?_ (Below.mono (by assumption) (by first | (simp; done) | (simp; omega) | omega))))
      case measure => simp [intOf]
    | 1, _ =>
      obtain ⟨r0, r1, r2, r3, e0, e1, e2, e3, g1, g2, hz, hb⟩ := hE.out
      simp at e0 e1 e2 e3
      clear hE
      go_wp2_with fail
      refine (H2.out _).mono ?_
      rintro e w1 ⟨rfl, hb1⟩
      replace r0 := kept_a1 r0 hb1
      replace r1 := kept_a1 r1 hb1
      replace r2 := kept_a1 r2 hb1
      replace r3 := kept_a1 r3 hb1
      replace e0 := kept_a1 e0 hb1
      replace e1 := kept_a1 e1 hb1
      replace e2 := kept_a1 e2 hb1
      replace e3 := kept_a1 e3 hb1
      replace g1 : ∀ o, w1.frozen? ⟨w.heap.size + 1, o, none⟩ = false := fun o => kept_fr (g1 o) (by simp; omega) hb1
      replace g2 : ∀ o, w1.frozen? ⟨w.heap.size + 1 + 1, o, none⟩ = false := fun o => kept_fr (g2 o) (by simp; omega) hb1
      replace hb := bstep1 hb hb1
      have hz1 := hb1.size
      simp at hz1
      have hz2 : w.heap.size + 1 + 1 + 1 ≤ w1.heap.size := by omega
      clear hz hz1 hb1
      have lt1 : w.heap.size + 1 < w1.heap.size := by omega
      have lt2 : w.heap.size + 1 + 1 < w1.heap.size := by omega
      have lt3 : w.heap.size + 1 < w1.heap.size + 1 := by omega
      have lt4 : w.heap.size + 1 + 1 < w1.heap.size + 1 := by omega
      go_wp2
      go_roundw
      case rel =>
        refine ⟨2, by omega, rfl, Lib.hid ?_⟩
        constructor <;> first | (simp [go_sem, *]; done) | (intro o; simp [go_sem, *]; done) | (simp; omega) | exact (by repeat (first | with_reducible exact Below.refl _ _ | with_reducible assumption | refine below_drewN ?_ _ | refine Below.drew ?_ | refine Below.alloc ?_ (by first | (simp; done) | (simp; omega) | omega) _ | refine Below.setCell ?_ (by first | (simp; done) | (simp; omega) | omega) _ | refine Below.trans ?_ (Below.mono (by assumption) (by first | (simp; done) | (simp; omega) | omega))))
      case measure => simp [intOf]
    | 2, _ =>
      obtain ⟨r0, r1, r2, r3, e0, e1, e2, e3, g1, g2, hz, hb⟩ := hE.out
      simp at e0 e1 e2 e3
      clear hE
      go_wp2_with fail
      refine (H3.out _).mono ?_
      rintro e w1 ⟨rfl, hb1⟩
      replace r0 := kept1 r0 hb1
      replace r1 := kept1 r1 hb1
      replace r2 := kept1 r2 hb1
      replace r3 := kept1 r3 hb1
      replace g1 : ∀ o, w1.frozen? ⟨w.heap.size + 1, o, none⟩ = false := fun o => (hb1.frozen (p := ⟨w.heap.size + 1, o, none⟩) (by simp; omega)).trans (g1 o)
      replace hb := bstep0 hb hb1
      have hz1 := hb1.size
      have hz2 : w.heap.size + 1 + 1 + 1 ≤ w1.heap.size := by omega
      clear hz hz1 hb1 e0 e1 e2 e3 g2
      have lt1 : w.heap.size + 1 < w1.heap.size := by omega
      have lt3 : w.heap.size + 1 < w1.heap.size + 1 := by omega
      have lt5 : w.heap.size + 1 < w1.heap.size + 1 + 1 := by omega
      go_wp2
      refine bodyPost_ret (v := .tuple #[.agg #[.int .i64 l1, .int .i64 l2, .int .i64 m1, .int .i64 m2], .int .i64 0]) (by simp [results, Tryd.results103, go_sem, *]) rfl ?_
      exact ⟨rfl, (by repeat (first | with_reducible exact Below.refl _ _ | with_reducible assumption | refine below_drewN ?_ _ | refine Below.drew ?_ | refine Below.alloc ?_ (by first | (simp; done) | (simp; omega) | omega) _ | refine Below.setCell ?_ (by first | (simp; done) | (simp; omega) | omega) _ | refine Below.trans ?_ (Below.mono (by assumption) (by first | (simp; done) | (simp; omega) | omega))))⟩

set_option maxRecDepth 100000 in
set_option maxHeartbeats 2000000 in
theorem spmul_e1 (a b p q c d r s : Int) (x : Rt.Num) (ex : x.e ≠ 0) (w : World) (H1 : Hid (∀ W : World, Calls Tryd.prog 27 #[.agg #[.int .i64 a, .int .i64 b], .agg #[.int .i64 p, .int .i64 q]] W fun e w' => e = .returned (.tuple #[.agg #[.int .i64 x.n, .int .i64 x.d], .int .i64 x.e]) ∧ Below W.heap.size W w')) :
    Calls Tryd.prog 103 #[.agg #[.int .i64 a, .int .i64 b, .int .i64 p, .int .i64 q, .int .i64 c, .int .i64 d, .int .i64 r, .int .i64 s], .func (.func 27) #[] #[]] w fun e w' => e = .returned (.tuple #[.agg #[.int .i64 0, .int .i64 0, .int .i64 0, .int .i64 0], .int .i64 x.e]) ∧ Below w.heap.size w w' := by
  have hx0 : ∀ W : World, (Instr.index 111 (.agg #[.int .i64 a, .int .i64 b, .int .i64 p, .int .i64 q, .int .i64 c, .int .i64 d, .int .i64 r, .int .i64 s]) (.int .i64 0)).run Tryd.prog W = .ok (.agg #[.int .i64 a, .int .i64 b, .int .i64 p, .int .i64 q]) W := fun W => rfl
  go_enter Tryd.func103, Tryd.ntmps103
  go_wp2_with fail
  go_loopw [14] (fun i wr => ∃ k : Nat, k ≤ 0 ∧ i = .int .i64 k ∧ Hid (SpI w wr 0 0 0 0))
    (fun i _ => 2 - (intOf i).toNat)
  case atStart =>
    refine ⟨0, by omega, rfl, Lib.hid ?_⟩
    constructor <;> first | (simp [go_sem]; done) | (intro o; simp [go_sem]; done) | (simp; omega) | exact (by repeat (first | with_reducible exact Below.refl _ _ | with_reducible assumption | refine below_drewN ?_ _ | refine Below.drew ?_ | refine Below.alloc ?_ (by first | (simp; done) | (simp; omega) | omega) _ | refine Below.setCell ?_ (by first | (simp; done) | (simp; omega) | omega) _ | refine Below.trans ?_ (Below.mono (by assumption) (by first | (simp; done) | (simp; omega) | omega))))
  case round =>
    obtain ⟨k, hk, rfl, hE⟩ := hrel
    match k, hk with
    | 0, _ =>
      obtain ⟨r0, r1, r2, r3, e0, e1, e2, e3, g1, g2, hz, hb⟩ := hE.out
      clear hE
      go_wp2_with fail
      refine (H1.out _).mono ?_
      rintro e w1 ⟨rfl, hb1⟩
      replace r0 := kept_a1 r0 hb1
      replace r1 := kept_a1 r1 hb1
      replace r2 := kept_a1 r2 hb1
      replace r3 := kept_a1 r3 hb1
      replace e0 := kept_a1 e0 hb1
      replace e1 := kept_a1 e1 hb1
      replace e2 := kept_a1 e2 hb1
      replace e3 := kept_a1 e3 hb1
      replace g1 : ∀ o, w1.frozen? ⟨w.heap.size + 1, o, none⟩ = false := fun o => kept_fr (g1 o) (by simp; omega) hb1
      replace g2 : ∀ o, w1.frozen? ⟨w.heap.size + 1 + 1, o, none⟩ = false := fun o => kept_fr (g2 o) (by simp; omega) hb1
      replace hb := bstep1 hb hb1
      have hz1 := hb1.size
      simp at hz1
      have hz2 : w.heap.size + 1 + 1 + 1 ≤ w1.heap.size := by omega
      clear hz hz1 hb1
      have lt1 : w.heap.size + 1 < w1.heap.size := by omega
      have lt2 : w.heap.size + 1 + 1 < w1.heap.size := by omega
      have lt3 : w.heap.size + 1 < w1.heap.size + 1 := by omega
      have lt4 : w.heap.size + 1 + 1 < w1.heap.size + 1 := by omega
      go_wp2
      refine bodyPost_ret (v := .tuple #[.agg #[.int .i64 0, .int .i64 0, .int .i64 0, .int .i64 0], .int .i64 x.e]) (by simp [results, Tryd.results103, go_sem, *]) rfl ?_
      exact ⟨rfl, (by repeat (first | with_reducible exact Below.refl _ _ | with_reducible assumption | refine below_drewN ?_ _ | refine Below.drew ?_ | refine Below.alloc ?_ (by first | (simp; done) | (simp; omega) | omega) _ | refine Below.setCell ?_ (by first | (simp; done) | (simp; omega) | omega) _ | refine Below.trans ?_ (Below.mono (by assumption) (by first | (simp; done) | (simp; omega) | omega))))⟩

set_option maxRecDepth 100000 in
set_option maxHeartbeats 2000000 in
theorem spmul_e2 (a b p q c d r s : Int) (x y : Rt.Num) (ex : x.e = 0) (ey : y.e ≠ 0) (w : World) (H1 : Hid (∀ W : World, Calls Tryd.prog 27 #[.agg #[.int .i64 a, .int .i64 b], .agg #[.int .i64 p, .int .i64 q]] W fun e w' => e = .returned (.tuple #[.agg #[.int .i64 x.n, .int .i64 x.d], .int .i64 x.e]) ∧ Below W.heap.size W w')) (H2 : Hid (∀ W : World, Calls Tryd.prog 27 #[.agg #[.int .i64 c, .int .i64 d], .agg #[.int .i64 r, .int .i64 s]] W fun e w' => e = .returned (.tuple #[.agg #[.int .i64 y.n, .int .i64 y.d], .int .i64 y.e]) ∧ Below W.heap.size W w')) :
    Calls Tryd.prog 103 #[.agg #[.int .i64 a, .int .i64 b, .int .i64 p, .int .i64 q, .int .i64 c, .int .i64 d, .int .i64 r, .int .i64 s], .func (.func 27) #[] #[]] w fun e w' => e = .returned (.tuple #[.agg #[.int .i64 0, .int .i64 0, .int .i64 0, .int .i64 0], .int .i64 y.e]) ∧ Below w.heap.size w w' := by
  have hx0 : ∀ W : World, (Instr.index 111 (.agg #[.int .i64 a, .int .i64 b, .int .i64 p, .int .i64 q, .int .i64 c, .int .i64 d, .int .i64 r, .int .i64 s]) (.int .i64 0)).run Tryd.prog W = .ok (.agg #[.int .i64 a, .int .i64 b, .int .i64 p, .int .i64 q]) W := fun W => rfl
  have hx1 : ∀ W : World, (Instr.index 111 (.agg #[.int .i64 a, .int .i64 b, .int .i64 p, .int .i64 q, .int .i64 c, .int .i64 d, .int .i64 r, .int .i64 s]) (.int .i64 1)).run Tryd.prog W = .ok (.agg #[.int .i64 c, .int .i64 d, .int .i64 r, .int .i64 s]) W := fun W => rfl
  go_enter Tryd.func103, Tryd.ntmps103
  go_wp2_with fail
  go_loopw [14] (fun i wr => ∃ k : Nat, k ≤ 1 ∧ i = .int .i64 k ∧ Hid (SpI w wr (if 1 ≤ k then x.n else 0) (if 1 ≤ k then x.d else 0) 0 0))
    (fun i _ => 2 - (intOf i).toNat)
  case atStart =>
    refine ⟨0, by omega, rfl, Lib.hid ?_⟩
    constructor <;> first | (simp [go_sem]; done) | (intro o; simp [go_sem]; done) | (simp; omega) | exact (by repeat (first | with_reducible exact Below.refl _ _ | with_reducible assumption | refine below_drewN ?_ _ | refine Below.drew ?_ | refine Below.alloc ?_ (by first | (simp; done) | (simp; omega) | omega) _ | refine Below.setCell ?_ (by first | (simp; done) | (simp; omega) | omega) _ | refine Below.trans ?_ (Below.mono (by assumption) (by first | (simp; done) | (simp; omega) | omega))))
  case round =>
    obtain ⟨k, hk, rfl, hE⟩ := hrel
    match k, hk with
    | 0, _ =>
      obtain ⟨r0, r1, r2, r3, e0, e1, e2, e3, g1, g2, hz, hb⟩ := hE.out
      simp at e0 e1 e2 e3
      clear hE
      go_wp2_with fail
      refine (H1.out _).mono ?_
      rintro e w1 ⟨rfl, hb1⟩
      replace r0 := kept_a1 r0 hb1
      replace r1 := kept_a1 r1 hb1
      replace r2 := kept_a1 r2 hb1
      replace r3 := kept_a1 r3 hb1
      replace e0 := kept_a1 e0 hb1
      replace e1 := kept_a1 e1 hb1
      replace e2 := kept_a1 e2 hb1
      replace e3 := kept_a1 e3 hb1
      replace g1 : ∀ o, w1.frozen? ⟨w.heap.size + 1, o, none⟩ = false := fun o => kept_fr (g1 o) (by simp; omega) hb1
      replace g2 : ∀ o, w1.frozen? ⟨w.heap.size + 1 + 1, o, none⟩ = false := fun o => kept_fr (g2 o) (by simp; omega) hb1
      replace hb := bstep1 hb hb1
      have hz1 := hb1.size
      simp at hz1
      have hz2 : w.heap.size + 1 + 1 + 1 ≤ w1.heap.size := by omega
      clear hz hz1 hb1
      have lt1 : w.heap.size + 1 < w1.heap.size := by omega
      have lt2 : w.heap.size + 1 + 1 < w1.heap.size := by omega
      have lt3 : w.heap.size + 1 < w1.heap.size + 1 := by omega
      have lt4 : w.heap.size + 1 + 1 < w1.heap.size + 1 := by omega
      go_wp2
      go_roundw
      case rel =>
        refine ⟨1, by omega, rfl, Lib.hid ?_⟩
        constructor <;> first | (simp [go_sem, *]; done) | (intro o; simp [go_sem, *]; done) | (simp; omega) | exact (by repeat (first | with_reducible exact Below.refl _ _ | with_reducible assumption | refine below_drewN ?_ _ | refine Below.drew ?_ | refine Below.alloc ?_ (by first | (simp; done) | (simp; omega) | omega) _ | refine Below.setCell ?_ (by first | (simp; done) | (simp; omega) | omega) _ | refine Below.trans ?_ (Below.mono (by assumption) (by first | (simp; done) | (simp; omega) | omega))))
      case measure => simp [intOf]
    | 1, _ =>
      obtain ⟨r0, r1, r2, r3, e0, e1, e2, e3, g1, g2, hz, hb⟩ := hE.out
      simp at e0 e1 e2 e3
      clear hE
      go_wp2_with fail
      refine (H2.out _).mono ?_
      rintro e w1 ⟨rfl, hb1⟩
      replace r0 := kept_a1 r0 hb1
      replace r1 := kept_a1 r1 hb1
      replace r2 := kept_a1 r2 hb1
      replace r3 := kept_a1 r3 hb1
      replace e0 := kept_a1 e0 hb1
      replace e1 := kept_a1 e1 hb1
      replace e2 := kept_a1 e2 hb1
      replace e3 := kept_a1 e3 hb1
      replace g1 : ∀ o, w1.frozen? ⟨w.heap.size + 1, o, none⟩ = false := fun o => kept_fr (g1 o) (by simp; omega) hb1
      replace g2 : ∀ o, w1.frozen? ⟨w.heap.size + 1 + 1, o, none⟩ = false := fun o => kept_fr (g2 o) (by simp; omega) hb1
      replace hb := bstep1 hb hb1
      have hz1 := hb1.size
      simp at hz1
      have hz2 : w.heap.size + 1 + 1 + 1 ≤ w1.heap.size := by omega
      clear hz hz1 hb1
      have lt1 : w.heap.size + 1 < w1.heap.size := by omega
      have lt2 : w.heap.size + 1 + 1 < w1.heap.size := by omega
      have lt3 : w.heap.size + 1 < w1.heap.size + 1 := by omega
      have lt4 : w.heap.size + 1 + 1 < w1.heap.size + 1 := by omega
      go_wp2
      refine bodyPost_ret (v := .tuple #[.agg #[.int .i64 0, .int .i64 0, .int .i64 0, .int .i64 0], .int .i64 y.e]) (by simp [results, Tryd.results103, go_sem, *]) rfl ?_
      exact ⟨rfl, (by repeat (first | with_reducible exact Below.refl _ _ | with_reducible assumption | refine below_drewN ?_ _ | refine Below.drew ?_ | refine Below.alloc ?_ (by first | (simp; done) | (simp; omega) | omega) _ | refine Below.setCell ?_ (by first | (simp; done) | (simp; omega) | omega) _ | refine Below.trans ?_ (Below.mono (by assumption) (by first | (simp; done) | (simp; omega) | omega))))⟩

end Go.Proofs.YtffabmojbelaaaaDoor
