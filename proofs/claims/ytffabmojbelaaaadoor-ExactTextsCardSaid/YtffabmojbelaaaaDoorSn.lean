/- The contract of the laws' sanity: the chapter's examples. -/
import Derived.Test.YtffabmojbelaaaaDoorK
import Derived.Test.YtffabmojbelaaaaDoorM
import Derived.Test.YtffabmojbelaaaaDoorW
import Derived.Test.YtffabmojbelaaaaDoorPr
import Derived.Test.YtffabmojbelaaaaDoorSa
import Derived.Lib.QuietBelow
namespace Go.Proofs.YtffabmojbelaaaaDoor
open Go.RowKit Go.Shelf

theorem ex_make : Rt.mk 6 (-4) = ⟨-3, 2, 0⟩ := by decide +kernel
theorem ex_best : Rt.BestOf 355 113 10 22 7 := Rt.best_high (p := 25) (q := 8) (by omega) (by omega) (by omega) (by omega) (by omega) (by omega) (by omega) (by omega) (by omega)
theorem ex_cf : Rt.cf 415 93 = [4, 2, 6, 7] := by
  rw [Rt.cf_pos (by omega), show (415 : Int) / 93 = 4 from by decide, show (415 : Int) % 93 = 43 from by decide,
    Rt.cf_pos (by omega), show (93 : Int) / 43 = 2 from by decide, show (93 : Int) % 43 = 7 from by decide,
    Rt.cf_pos (by omega), show (43 : Int) / 7 = 6 from by decide, show (43 : Int) % 7 = 1 from by decide,
    Rt.cf_pos (by omega), show (7 : Int) / 1 = 7 from by decide, show (7 : Int) % 1 = 0 from by decide, Rt.cf_zero]
theorem ex_spl3 : Rt.spl 5 2 3 1 = (3, 1) := by
  rw [Rt.spl_eq (by omega) (by omega) (by omega) (by omega), if_pos (by decide)]; decide
theorem ex_spl2 : Rt.spl 4 3 7 5 = (4, 3) := by
  rw [Rt.spl_eq (by omega) (by omega) (by omega) (by omega), if_neg (by decide), show (5 : Int) = 5 from rfl]
  rw [show (7 : Int) - 4 / 3 * 5 = 2 from by decide, show (4 : Int) - 4 / 3 * 3 = 1 from by decide, ex_spl3]; decide
theorem ex_spl1 : Rt.spl 5 7 3 4 = (3, 4) := by
  rw [Rt.spl_eq (by omega) (by omega) (by omega) (by omega), if_neg (by decide)]
  rw [show (3 : Int) - 5 / 7 * 4 = 3 from by decide, show (5 : Int) - 5 / 7 * 7 = 5 from by decide, ex_spl2]; decide
theorem ex_smp : smp 5 7 3 4 = (3, 4) := by unfold smp; rw [if_pos (by omega), ex_spl1]
theorem ex_vr : vrP 5 7 3 4 := ⟨by decide, by decide, by omega⟩
theorem ex_pr : (⟨(Rt.pr (-3) 2).toArray⟩ : ByteArray) = ⟨#[45, 51, 47, 50]⟩ := by
  have a : Lib.itoa (-3) = [45, 51] := by unfold Lib.itoa; rw [if_pos (by omega)]; rw [show (-3 : Int).natAbs = 3 from rfl, Lib.decDigits, dif_pos (by decide)]; decide
  have b : Lib.itoa 2 = [50] := by unfold Lib.itoa; rw [if_neg (by omega)]; rw [show (2 : Int).toNat = 2 from rfl, Lib.decDigits, dif_pos (by decide)]; decide
  unfold Rt.pr; rw [a, b]; rfl

theorem mk_fix (w : World) : Calls Tryd.prog 17 #[.int .i64 6, .int .i64 (-4)] w fun e w' => e = .returned (.tuple #[.agg #[.int .i64 (-3), .int .i64 2], .int .i64 0]) ∧ Below w.heap.size w w' :=
  (make_any 6 (-4) (by omega) (by omega) (by omega) (by omega) w).mono fun _ _ ⟨he, hb⟩ => ⟨by rw [he, ex_make]; rfl, hb⟩
theorem smp_fix (w : World) : Calls Tryd.prog 49 #[.agg #[.int .i64 5, .int .i64 7, .int .i64 3, .int .i64 4]] w fun e w' => e = .returned (.tuple #[.agg #[.int .i64 3, .int .i64 4], .int .i64 0]) ∧ Below w.heap.size w w' :=
  (smp_ok 5 7 3 4 w ex_vr).mono fun _ _ ⟨he, hb⟩ => ⟨by rw [he, ex_smp]; rfl, hb⟩
theorem part_fix (w : World) : Calls Tryd.prog 40 #[.agg #[.int .i64 (-3), .int .i64 2], .int .i64 5] w fun e w' => e = .returned (.tuple #[.agg #[.int .i64 (-8), .int .i64 (-7)], .int .i64 0]) ∧ Below w.heap.size w w' :=
  (part_ok (-3) 2 5 (by decide) (by omega) (by omega) w).mono fun _ _ ⟨he, hb⟩ => ⟨by rw [he]; rfl, hb⟩
theorem print_fix (w : World) (hT : Hid (Tab w.heap.size w)) : Calls Tryd.prog 68 #[.agg #[.int .i64 (-3), .int .i64 2]] w fun e w' => e = .returned (.tuple #[.string ⟨#[45, 51, 47, 50]⟩, .int .i64 0]) ∧ Below w.heap.size w w' :=
  (print_ok (-3) 2 (by decide) w hT).mono fun _ _ ⟨he, hb⟩ => ⟨by rw [he, ex_pr], hb⟩
theorem owns_reads {w : World} {base : Nat} {v : Value} {l : List Int} (h : w.ownsRow base 3 1 v l.length (l.map (Value.int .i64))) (_hl : l.length ≤ 50) : Reads w v l := by
  have hh := h
  obtain ⟨_, h2⟩ := h
  rcases h2 with ⟨rfl, hn⟩ | ⟨g, cap, cur, rfl, hb, hg, hle, hcap, hs, ht⟩
  · refine ⟨none, 0, by rw [hn], by unfold maxLen; omega, fun i hi => by omega⟩
  · refine ⟨some ⟨g, 0, none⟩, cap, rfl, by omega, fun i hi => ⟨_, rfl, hh.cells rfl i _ ?_⟩⟩
    rw [List.getElem?_map, List.getD, List.getElem?_eq_getElem hi]; rfl
theorem expand_fix (w : World) : Calls Tryd.prog 44 #[.agg #[.int .i64 415, .int .i64 93]] w fun e w' => ∃ v, e = .returned (.tuple #[v, .int .i64 0]) ∧ Reads w' v [4, 2, 6, 7] ∧ Below w.heap.size w w' :=
  (expand_ok 415 93 (by decide) w).mono fun _ _ ⟨v, he, ho, hb⟩ => ⟨v, he, by rw [ex_cf] at ho; exact owns_reads ho (by simp), hb⟩
theorem best_fix (w : World) : Calls Tryd.prog 52 #[.agg #[.int .i64 355, .int .i64 113], .int .i64 10] w fun e w' => e = .returned (.tuple #[.agg #[.int .i64 22, .int .i64 7], .int .i64 0]) ∧ Below w.heap.size w w' :=
  (best_ok 355 113 10 (by decide) (by omega) (by omega) w).mono fun _ _ ⟨x, y, h1, _, he, hb⟩ => ⟨by obtain ⟨rfl, rfl⟩ := Rt.best_unique h1 ex_best; rw [he]; rfl, hb⟩

abbrev San (w w12 : World) (b1 b3 b6 b10 : Nat) (v : Value) (w' : World) : Prop :=
  w'.cell? ⟨b1, 0, none⟩ = some (.int .i64 (-3)) ∧ w'.cell? ⟨b1, 1, none⟩ = some (.int .i64 2) ∧ w'.cell? ⟨b3, 0, none⟩ = some (.int .i64 22) ∧ w'.cell? ⟨b3, 1, none⟩ = some (.int .i64 7) ∧ w'.cell? ⟨b6, 0, none⟩ = some (.int .i64 3) ∧ w'.cell? ⟨b6, 1, none⟩ = some (.int .i64 4) ∧ w'.cell? ⟨b10, 0, none⟩ = some (.int .i64 (-8)) ∧ w'.cell? ⟨b10, 1, none⟩ = some (.int .i64 (-7)) ∧ Reads w' v [4, 2, 6, 7] ∧ w12.heap.size ≤ w'.heap.size ∧ Below w.heap.size w w'
theorem san_keep {w w12 : World} {b1 b3 b6 b10 : Nat} {v : Value} {W W' : World} (h : San w w12 b1 b3 b6 b10 v W) (hb : Below W.heap.size W W') : San w w12 b1 b3 b6 b10 v W' := by
  obtain ⟨h1, h2, h3, h4, h5, h6, h7, h8, h9, h10, h11⟩ := h
  have c := fun {p : Addr} {x : Value} (h : W.cell? p = some x) => (hb.cell (block_lt_of_cell h)).trans h
  exact ⟨c h1, c h2, c h3, c h4, c h5, c h6, c h7, c h8, h9.below hb, Nat.le_trans h10 hb.size, h11.trans (hb.mono h11.size)⟩
theorem lit_reads (W : World) : Reads (W.alloc (.cells #[.int .i64 4, .int .i64 2, .int .i64 6, .int .i64 7] 3)) (.slice (some ⟨W.heap.size, 0, none⟩) 4 4) [4, 2, 6, 7] := by
  refine ⟨_, _, rfl, by simp [maxLen], fun i hi => ⟨_, rfl, ?_⟩⟩
  have : i = 0 ∨ i = 1 ∨ i = 2 ∨ i = 3 := by simp at hi; omega
  rcases this with rfl | rfl | rfl | rfl <;> simp [go_sem, Addr.add]

set_option maxRecDepth 100000 in
set_option maxHeartbeats 1000000 in
theorem sanity_any (w : World) (hT : Hid (Tab w.heap.size w)) :
    Calls Tryd.prog 18 #[] w fun e w' => e = .returned (.bool true) ∧ Below w.heap.size w w' := by
  go_enter Tryd.func18, Tryd.ntmps18
  go_wp2_with fail
  refine (mk_fix _).mono ?_
  rintro e w1 ⟨rfl, hb1⟩
  have hz1 := hb1.size
  go_wp2_with fail
  refine (rat_any 355 113 _).mono ?_
  rintro e w2 ⟨rfl, hb2⟩
  have hz_hb2 := hb2.size
  try simp at hz_hb2
  have hb2_w10_k0 : w2.cell? ⟨w1.heap.size, 0, none⟩ = some (.int .i64 (-3)) := (hb2.cell (p := ⟨w1.heap.size, 0, none⟩) (by first | (simp; done) | (simp; omega) | omega)).trans (by first | assumption | (simp [go_sem]; done) | simp [go_sem, *])
  have hb2_w10_k1 : w2.cell? ⟨w1.heap.size, 1, none⟩ = some (.int .i64 2) := (hb2.cell (p := ⟨w1.heap.size, 1, none⟩) (by first | (simp; done) | (simp; omega) | omega)).trans (by first | assumption | (simp [go_sem]; done) | simp [go_sem, *])
  have hb2_w10_f : ∀ o, w2.frozen? ⟨w1.heap.size, o, none⟩ = false := fun o => (hb2.frozen (p := ⟨w1.heap.size, o, none⟩) (by first | (simp; done) | (simp; omega) | omega)).trans (by first | assumption | (simp [go_sem]; done) | simp [go_sem, *])
  have hb2_w10_lt : w1.heap.size < w2.heap.size := Nat.lt_of_lt_of_le (m := _) (by first | (simp; done) | (simp; omega) | omega) hb2.size
  go_wp2_with fail
  refine (best_fix _).mono ?_
  rintro e w3 ⟨rfl, hb3⟩
  have hz_hb3 := hb3.size
  try simp at hz_hb3
  have hb3_w10_k0 : w3.cell? ⟨w1.heap.size, 0, none⟩ = some (.int .i64 (-3)) := (hb3.cell (p := ⟨w1.heap.size, 0, none⟩) (by first | (simp; done) | (simp; omega) | omega)).trans (by first | assumption | (simp [go_sem]; done) | simp [go_sem, *])
  have hb3_w10_k1 : w3.cell? ⟨w1.heap.size, 1, none⟩ = some (.int .i64 2) := (hb3.cell (p := ⟨w1.heap.size, 1, none⟩) (by first | (simp; done) | (simp; omega) | omega)).trans (by first | assumption | (simp [go_sem]; done) | simp [go_sem, *])
  have hb3_w10_f : ∀ o, w3.frozen? ⟨w1.heap.size, o, none⟩ = false := fun o => (hb3.frozen (p := ⟨w1.heap.size, o, none⟩) (by first | (simp; done) | (simp; omega) | omega)).trans (by first | assumption | (simp [go_sem]; done) | simp [go_sem, *])
  have hb3_w10_lt : w1.heap.size < w3.heap.size := Nat.lt_of_lt_of_le (m := _) (by first | (simp; done) | (simp; omega) | omega) hb3.size
  go_wp2_with fail
  refine (rat_any 5 7 _).mono ?_
  rintro e w4 ⟨rfl, hb4⟩
  have hz_hb4 := hb4.size
  try simp at hz_hb4
  have hb4_w10_k0 : w4.cell? ⟨w1.heap.size, 0, none⟩ = some (.int .i64 (-3)) := (hb4.cell (p := ⟨w1.heap.size, 0, none⟩) (by first | (simp; done) | (simp; omega) | omega)).trans (by first | assumption | (simp [go_sem]; done) | simp [go_sem, *])
  have hb4_w10_k1 : w4.cell? ⟨w1.heap.size, 1, none⟩ = some (.int .i64 2) := (hb4.cell (p := ⟨w1.heap.size, 1, none⟩) (by first | (simp; done) | (simp; omega) | omega)).trans (by first | assumption | (simp [go_sem]; done) | simp [go_sem, *])
  have hb4_w10_f : ∀ o, w4.frozen? ⟨w1.heap.size, o, none⟩ = false := fun o => (hb4.frozen (p := ⟨w1.heap.size, o, none⟩) (by first | (simp; done) | (simp; omega) | omega)).trans (by first | assumption | (simp [go_sem]; done) | simp [go_sem, *])
  have hb4_w10_lt : w1.heap.size < w4.heap.size := Nat.lt_of_lt_of_le (m := _) (by first | (simp; done) | (simp; omega) | omega) hb4.size
  have hb4_w30_k0 : w4.cell? ⟨w3.heap.size, 0, none⟩ = some (.int .i64 22) := (hb4.cell (p := ⟨w3.heap.size, 0, none⟩) (by first | (simp; done) | (simp; omega) | omega)).trans (by first | assumption | (simp [go_sem]; done) | simp [go_sem, *])
  have hb4_w30_k1 : w4.cell? ⟨w3.heap.size, 1, none⟩ = some (.int .i64 7) := (hb4.cell (p := ⟨w3.heap.size, 1, none⟩) (by first | (simp; done) | (simp; omega) | omega)).trans (by first | assumption | (simp [go_sem]; done) | simp [go_sem, *])
  have hb4_w30_f : ∀ o, w4.frozen? ⟨w3.heap.size, o, none⟩ = false := fun o => (hb4.frozen (p := ⟨w3.heap.size, o, none⟩) (by first | (simp; done) | (simp; omega) | omega)).trans (by first | assumption | (simp [go_sem]; done) | simp [go_sem, *])
  have hb4_w30_lt : w3.heap.size < w4.heap.size := Nat.lt_of_lt_of_le (m := _) (by first | (simp; done) | (simp; omega) | omega) hb4.size
  go_wp2_with fail
  refine (rat_any 3 4 _).mono ?_
  rintro e w5 ⟨rfl, hb5⟩
  have hz_hb5 := hb5.size
  try simp at hz_hb5
  have hb5_w10_k0 : w5.cell? ⟨w1.heap.size, 0, none⟩ = some (.int .i64 (-3)) := (hb5.cell (p := ⟨w1.heap.size, 0, none⟩) (by first | (simp; done) | (simp; omega) | omega)).trans (by first | assumption | (simp [go_sem]; done) | simp [go_sem, *])
  have hb5_w10_k1 : w5.cell? ⟨w1.heap.size, 1, none⟩ = some (.int .i64 2) := (hb5.cell (p := ⟨w1.heap.size, 1, none⟩) (by first | (simp; done) | (simp; omega) | omega)).trans (by first | assumption | (simp [go_sem]; done) | simp [go_sem, *])
  have hb5_w10_f : ∀ o, w5.frozen? ⟨w1.heap.size, o, none⟩ = false := fun o => (hb5.frozen (p := ⟨w1.heap.size, o, none⟩) (by first | (simp; done) | (simp; omega) | omega)).trans (by first | assumption | (simp [go_sem]; done) | simp [go_sem, *])
  have hb5_w10_lt : w1.heap.size < w5.heap.size := Nat.lt_of_lt_of_le (m := _) (by first | (simp; done) | (simp; omega) | omega) hb5.size
  have hb5_w30_k0 : w5.cell? ⟨w3.heap.size, 0, none⟩ = some (.int .i64 22) := (hb5.cell (p := ⟨w3.heap.size, 0, none⟩) (by first | (simp; done) | (simp; omega) | omega)).trans (by first | assumption | (simp [go_sem]; done) | simp [go_sem, *])
  have hb5_w30_k1 : w5.cell? ⟨w3.heap.size, 1, none⟩ = some (.int .i64 7) := (hb5.cell (p := ⟨w3.heap.size, 1, none⟩) (by first | (simp; done) | (simp; omega) | omega)).trans (by first | assumption | (simp [go_sem]; done) | simp [go_sem, *])
  have hb5_w30_f : ∀ o, w5.frozen? ⟨w3.heap.size, o, none⟩ = false := fun o => (hb5.frozen (p := ⟨w3.heap.size, o, none⟩) (by first | (simp; done) | (simp; omega) | omega)).trans (by first | assumption | (simp [go_sem]; done) | simp [go_sem, *])
  have hb5_w30_lt : w3.heap.size < w5.heap.size := Nat.lt_of_lt_of_le (m := _) (by first | (simp; done) | (simp; omega) | omega) hb5.size
  go_wp2_with fail
  refine (smp_fix _).mono ?_
  rintro e w6 ⟨rfl, hb6⟩
  have hz_hb6 := hb6.size
  try simp at hz_hb6
  have hb6_w10_k0 : w6.cell? ⟨w1.heap.size, 0, none⟩ = some (.int .i64 (-3)) := (hb6.cell (p := ⟨w1.heap.size, 0, none⟩) (by first | (simp; done) | (simp; omega) | omega)).trans (by first | assumption | (simp [go_sem]; done) | simp [go_sem, *])
  have hb6_w10_k1 : w6.cell? ⟨w1.heap.size, 1, none⟩ = some (.int .i64 2) := (hb6.cell (p := ⟨w1.heap.size, 1, none⟩) (by first | (simp; done) | (simp; omega) | omega)).trans (by first | assumption | (simp [go_sem]; done) | simp [go_sem, *])
  have hb6_w10_f : ∀ o, w6.frozen? ⟨w1.heap.size, o, none⟩ = false := fun o => (hb6.frozen (p := ⟨w1.heap.size, o, none⟩) (by first | (simp; done) | (simp; omega) | omega)).trans (by first | assumption | (simp [go_sem]; done) | simp [go_sem, *])
  have hb6_w10_lt : w1.heap.size < w6.heap.size := Nat.lt_of_lt_of_le (m := _) (by first | (simp; done) | (simp; omega) | omega) hb6.size
  have hb6_w30_k0 : w6.cell? ⟨w3.heap.size, 0, none⟩ = some (.int .i64 22) := (hb6.cell (p := ⟨w3.heap.size, 0, none⟩) (by first | (simp; done) | (simp; omega) | omega)).trans (by first | assumption | (simp [go_sem]; done) | simp [go_sem, *])
  have hb6_w30_k1 : w6.cell? ⟨w3.heap.size, 1, none⟩ = some (.int .i64 7) := (hb6.cell (p := ⟨w3.heap.size, 1, none⟩) (by first | (simp; done) | (simp; omega) | omega)).trans (by first | assumption | (simp [go_sem]; done) | simp [go_sem, *])
  have hb6_w30_f : ∀ o, w6.frozen? ⟨w3.heap.size, o, none⟩ = false := fun o => (hb6.frozen (p := ⟨w3.heap.size, o, none⟩) (by first | (simp; done) | (simp; omega) | omega)).trans (by first | assumption | (simp [go_sem]; done) | simp [go_sem, *])
  have hb6_w30_lt : w3.heap.size < w6.heap.size := Nat.lt_of_lt_of_le (m := _) (by first | (simp; done) | (simp; omega) | omega) hb6.size
  have b6 : Below w.heap.size w w6 := (by repeat (first | with_reducible exact Below.refl _ _ | with_reducible assumption | refine below_drewN ?_ _ | refine Below.drew ?_ | refine Below.alloc ?_ (by first | (simp; done) | (simp; omega) | omega) _ | refine Below.setCell ?_ (by first | (simp; done) | (simp; omega) | omega) _ | refine Below.trans ?_ (Below.mono (by assumption) (by first | (simp; done) | (simp; omega) | omega))))
  have L1 : w1.heap.size < w6.heap.size := by omega
  have L3 : w3.heap.size < w6.heap.size := by omega
  have z6 := hz_hb6
  clear hb1 hb2 hb3 hb4 hb5 hb6 hb2_w10_k0 hb2_w10_k1 hb2_w10_f hb3_w10_k0 hb3_w10_k1 hb3_w10_f hb4_w10_k0 hb4_w10_k1 hb4_w10_f hb4_w30_k0 hb4_w30_k1 hb4_w30_f hb5_w10_k0 hb5_w10_k1 hb5_w10_f hb5_w30_k0 hb5_w30_k1 hb5_w30_f
  go_wp2_with fail
  refine (rat_any 415 93 _).mono ?_
  rintro e w7 ⟨rfl, hb7⟩
  have hz_hb7 := hb7.size
  try simp at hz_hb7
  have hb7_w10_k0 : w7.cell? ⟨w1.heap.size, 0, none⟩ = some (.int .i64 (-3)) := (hb7.cell (p := ⟨w1.heap.size, 0, none⟩) (by first | (simp; done) | (simp; omega) | omega)).trans (by first | assumption | (simp [go_sem]; done) | simp [go_sem, *])
  have hb7_w10_k1 : w7.cell? ⟨w1.heap.size, 1, none⟩ = some (.int .i64 2) := (hb7.cell (p := ⟨w1.heap.size, 1, none⟩) (by first | (simp; done) | (simp; omega) | omega)).trans (by first | assumption | (simp [go_sem]; done) | simp [go_sem, *])
  have hb7_w10_f : ∀ o, w7.frozen? ⟨w1.heap.size, o, none⟩ = false := fun o => (hb7.frozen (p := ⟨w1.heap.size, o, none⟩) (by first | (simp; done) | (simp; omega) | omega)).trans (by first | assumption | (simp [go_sem]; done) | simp [go_sem, *])
  have hb7_w10_lt : w1.heap.size < w7.heap.size := Nat.lt_of_lt_of_le (m := _) (by first | (simp; done) | (simp; omega) | omega) hb7.size
  have hb7_w30_k0 : w7.cell? ⟨w3.heap.size, 0, none⟩ = some (.int .i64 22) := (hb7.cell (p := ⟨w3.heap.size, 0, none⟩) (by first | (simp; done) | (simp; omega) | omega)).trans (by first | assumption | (simp [go_sem]; done) | simp [go_sem, *])
  have hb7_w30_k1 : w7.cell? ⟨w3.heap.size, 1, none⟩ = some (.int .i64 7) := (hb7.cell (p := ⟨w3.heap.size, 1, none⟩) (by first | (simp; done) | (simp; omega) | omega)).trans (by first | assumption | (simp [go_sem]; done) | simp [go_sem, *])
  have hb7_w30_f : ∀ o, w7.frozen? ⟨w3.heap.size, o, none⟩ = false := fun o => (hb7.frozen (p := ⟨w3.heap.size, o, none⟩) (by first | (simp; done) | (simp; omega) | omega)).trans (by first | assumption | (simp [go_sem]; done) | simp [go_sem, *])
  have hb7_w30_lt : w3.heap.size < w7.heap.size := Nat.lt_of_lt_of_le (m := _) (by first | (simp; done) | (simp; omega) | omega) hb7.size
  have hb7_w60_k0 : w7.cell? ⟨w6.heap.size, 0, none⟩ = some (.int .i64 3) := (hb7.cell (p := ⟨w6.heap.size, 0, none⟩) (by first | (simp; done) | (simp; omega) | omega)).trans (by first | assumption | (simp [go_sem]; done) | simp [go_sem, *])
  have hb7_w60_k1 : w7.cell? ⟨w6.heap.size, 1, none⟩ = some (.int .i64 4) := (hb7.cell (p := ⟨w6.heap.size, 1, none⟩) (by first | (simp; done) | (simp; omega) | omega)).trans (by first | assumption | (simp [go_sem]; done) | simp [go_sem, *])
  have hb7_w60_f : ∀ o, w7.frozen? ⟨w6.heap.size, o, none⟩ = false := fun o => (hb7.frozen (p := ⟨w6.heap.size, o, none⟩) (by first | (simp; done) | (simp; omega) | omega)).trans (by first | assumption | (simp [go_sem]; done) | simp [go_sem, *])
  have hb7_w60_lt : w6.heap.size < w7.heap.size := Nat.lt_of_lt_of_le (m := _) (by first | (simp; done) | (simp; omega) | omega) hb7.size
  go_wp2_with fail
  refine (expand_fix _).mono ?_
  rintro e w8 ⟨v, rfl, hv8, hb8⟩
  have hz_hb8 := hb8.size
  try simp at hz_hb8
  have hb8_w10_k0 : w8.cell? ⟨w1.heap.size, 0, none⟩ = some (.int .i64 (-3)) := (hb8.cell (p := ⟨w1.heap.size, 0, none⟩) (by first | (simp; done) | (simp; omega) | omega)).trans (by first | assumption | (simp [go_sem]; done) | simp [go_sem, *])
  have hb8_w10_k1 : w8.cell? ⟨w1.heap.size, 1, none⟩ = some (.int .i64 2) := (hb8.cell (p := ⟨w1.heap.size, 1, none⟩) (by first | (simp; done) | (simp; omega) | omega)).trans (by first | assumption | (simp [go_sem]; done) | simp [go_sem, *])
  have hb8_w10_f : ∀ o, w8.frozen? ⟨w1.heap.size, o, none⟩ = false := fun o => (hb8.frozen (p := ⟨w1.heap.size, o, none⟩) (by first | (simp; done) | (simp; omega) | omega)).trans (by first | assumption | (simp [go_sem]; done) | simp [go_sem, *])
  have hb8_w10_lt : w1.heap.size < w8.heap.size := Nat.lt_of_lt_of_le (m := _) (by first | (simp; done) | (simp; omega) | omega) hb8.size
  have hb8_w30_k0 : w8.cell? ⟨w3.heap.size, 0, none⟩ = some (.int .i64 22) := (hb8.cell (p := ⟨w3.heap.size, 0, none⟩) (by first | (simp; done) | (simp; omega) | omega)).trans (by first | assumption | (simp [go_sem]; done) | simp [go_sem, *])
  have hb8_w30_k1 : w8.cell? ⟨w3.heap.size, 1, none⟩ = some (.int .i64 7) := (hb8.cell (p := ⟨w3.heap.size, 1, none⟩) (by first | (simp; done) | (simp; omega) | omega)).trans (by first | assumption | (simp [go_sem]; done) | simp [go_sem, *])
  have hb8_w30_f : ∀ o, w8.frozen? ⟨w3.heap.size, o, none⟩ = false := fun o => (hb8.frozen (p := ⟨w3.heap.size, o, none⟩) (by first | (simp; done) | (simp; omega) | omega)).trans (by first | assumption | (simp [go_sem]; done) | simp [go_sem, *])
  have hb8_w30_lt : w3.heap.size < w8.heap.size := Nat.lt_of_lt_of_le (m := _) (by first | (simp; done) | (simp; omega) | omega) hb8.size
  have hb8_w60_k0 : w8.cell? ⟨w6.heap.size, 0, none⟩ = some (.int .i64 3) := (hb8.cell (p := ⟨w6.heap.size, 0, none⟩) (by first | (simp; done) | (simp; omega) | omega)).trans (by first | assumption | (simp [go_sem]; done) | simp [go_sem, *])
  have hb8_w60_k1 : w8.cell? ⟨w6.heap.size, 1, none⟩ = some (.int .i64 4) := (hb8.cell (p := ⟨w6.heap.size, 1, none⟩) (by first | (simp; done) | (simp; omega) | omega)).trans (by first | assumption | (simp [go_sem]; done) | simp [go_sem, *])
  have hb8_w60_f : ∀ o, w8.frozen? ⟨w6.heap.size, o, none⟩ = false := fun o => (hb8.frozen (p := ⟨w6.heap.size, o, none⟩) (by first | (simp; done) | (simp; omega) | omega)).trans (by first | assumption | (simp [go_sem]; done) | simp [go_sem, *])
  have hb8_w60_lt : w6.heap.size < w8.heap.size := Nat.lt_of_lt_of_le (m := _) (by first | (simp; done) | (simp; omega) | omega) hb8.size
  go_wp2_with fail
  refine (rat_any (-3) 2 _).mono ?_
  rintro e w9 ⟨rfl, hb9⟩
  have hv9 : Reads w9 v [4, 2, 6, 7] := hv8.below (by repeat (first | with_reducible exact Below.refl _ _ | with_reducible assumption | refine below_drewN ?_ _ | refine Below.drew ?_ | refine Below.alloc ?_ (by first | (simp; done) | (simp; omega) | omega) _ | refine Below.setCell ?_ (by first | (simp; done) | (simp; omega) | omega) _ | refine Below.trans ?_ (Below.mono (by assumption) (by first | (simp; done) | (simp; omega) | omega))))
  have hz_hb9 := hb9.size
  try simp at hz_hb9
  have hb9_w10_k0 : w9.cell? ⟨w1.heap.size, 0, none⟩ = some (.int .i64 (-3)) := (hb9.cell (p := ⟨w1.heap.size, 0, none⟩) (by first | (simp; done) | (simp; omega) | omega)).trans (by first | assumption | (simp [go_sem]; done) | simp [go_sem, *])
  have hb9_w10_k1 : w9.cell? ⟨w1.heap.size, 1, none⟩ = some (.int .i64 2) := (hb9.cell (p := ⟨w1.heap.size, 1, none⟩) (by first | (simp; done) | (simp; omega) | omega)).trans (by first | assumption | (simp [go_sem]; done) | simp [go_sem, *])
  have hb9_w10_f : ∀ o, w9.frozen? ⟨w1.heap.size, o, none⟩ = false := fun o => (hb9.frozen (p := ⟨w1.heap.size, o, none⟩) (by first | (simp; done) | (simp; omega) | omega)).trans (by first | assumption | (simp [go_sem]; done) | simp [go_sem, *])
  have hb9_w10_lt : w1.heap.size < w9.heap.size := Nat.lt_of_lt_of_le (m := _) (by first | (simp; done) | (simp; omega) | omega) hb9.size
  have hb9_w30_k0 : w9.cell? ⟨w3.heap.size, 0, none⟩ = some (.int .i64 22) := (hb9.cell (p := ⟨w3.heap.size, 0, none⟩) (by first | (simp; done) | (simp; omega) | omega)).trans (by first | assumption | (simp [go_sem]; done) | simp [go_sem, *])
  have hb9_w30_k1 : w9.cell? ⟨w3.heap.size, 1, none⟩ = some (.int .i64 7) := (hb9.cell (p := ⟨w3.heap.size, 1, none⟩) (by first | (simp; done) | (simp; omega) | omega)).trans (by first | assumption | (simp [go_sem]; done) | simp [go_sem, *])
  have hb9_w30_f : ∀ o, w9.frozen? ⟨w3.heap.size, o, none⟩ = false := fun o => (hb9.frozen (p := ⟨w3.heap.size, o, none⟩) (by first | (simp; done) | (simp; omega) | omega)).trans (by first | assumption | (simp [go_sem]; done) | simp [go_sem, *])
  have hb9_w30_lt : w3.heap.size < w9.heap.size := Nat.lt_of_lt_of_le (m := _) (by first | (simp; done) | (simp; omega) | omega) hb9.size
  have hb9_w60_k0 : w9.cell? ⟨w6.heap.size, 0, none⟩ = some (.int .i64 3) := (hb9.cell (p := ⟨w6.heap.size, 0, none⟩) (by first | (simp; done) | (simp; omega) | omega)).trans (by first | assumption | (simp [go_sem]; done) | simp [go_sem, *])
  have hb9_w60_k1 : w9.cell? ⟨w6.heap.size, 1, none⟩ = some (.int .i64 4) := (hb9.cell (p := ⟨w6.heap.size, 1, none⟩) (by first | (simp; done) | (simp; omega) | omega)).trans (by first | assumption | (simp [go_sem]; done) | simp [go_sem, *])
  have hb9_w60_f : ∀ o, w9.frozen? ⟨w6.heap.size, o, none⟩ = false := fun o => (hb9.frozen (p := ⟨w6.heap.size, o, none⟩) (by first | (simp; done) | (simp; omega) | omega)).trans (by first | assumption | (simp [go_sem]; done) | simp [go_sem, *])
  have hb9_w60_lt : w6.heap.size < w9.heap.size := Nat.lt_of_lt_of_le (m := _) (by first | (simp; done) | (simp; omega) | omega) hb9.size
  go_wp2_with fail
  refine (part_fix _).mono ?_
  rintro e w10 ⟨rfl, hb10⟩
  have hv10 : Reads w10 v [4, 2, 6, 7] := hv9.below (by repeat (first | with_reducible exact Below.refl _ _ | with_reducible assumption | refine below_drewN ?_ _ | refine Below.drew ?_ | refine Below.alloc ?_ (by first | (simp; done) | (simp; omega) | omega) _ | refine Below.setCell ?_ (by first | (simp; done) | (simp; omega) | omega) _ | refine Below.trans ?_ (Below.mono (by assumption) (by first | (simp; done) | (simp; omega) | omega))))
  have hz_hb10 := hb10.size
  try simp at hz_hb10
  have hb10_w10_k0 : w10.cell? ⟨w1.heap.size, 0, none⟩ = some (.int .i64 (-3)) := (hb10.cell (p := ⟨w1.heap.size, 0, none⟩) (by first | (simp; done) | (simp; omega) | omega)).trans (by first | assumption | (simp [go_sem]; done) | simp [go_sem, *])
  have hb10_w10_k1 : w10.cell? ⟨w1.heap.size, 1, none⟩ = some (.int .i64 2) := (hb10.cell (p := ⟨w1.heap.size, 1, none⟩) (by first | (simp; done) | (simp; omega) | omega)).trans (by first | assumption | (simp [go_sem]; done) | simp [go_sem, *])
  have hb10_w10_f : ∀ o, w10.frozen? ⟨w1.heap.size, o, none⟩ = false := fun o => (hb10.frozen (p := ⟨w1.heap.size, o, none⟩) (by first | (simp; done) | (simp; omega) | omega)).trans (by first | assumption | (simp [go_sem]; done) | simp [go_sem, *])
  have hb10_w10_lt : w1.heap.size < w10.heap.size := Nat.lt_of_lt_of_le (m := _) (by first | (simp; done) | (simp; omega) | omega) hb10.size
  have hb10_w30_k0 : w10.cell? ⟨w3.heap.size, 0, none⟩ = some (.int .i64 22) := (hb10.cell (p := ⟨w3.heap.size, 0, none⟩) (by first | (simp; done) | (simp; omega) | omega)).trans (by first | assumption | (simp [go_sem]; done) | simp [go_sem, *])
  have hb10_w30_k1 : w10.cell? ⟨w3.heap.size, 1, none⟩ = some (.int .i64 7) := (hb10.cell (p := ⟨w3.heap.size, 1, none⟩) (by first | (simp; done) | (simp; omega) | omega)).trans (by first | assumption | (simp [go_sem]; done) | simp [go_sem, *])
  have hb10_w30_f : ∀ o, w10.frozen? ⟨w3.heap.size, o, none⟩ = false := fun o => (hb10.frozen (p := ⟨w3.heap.size, o, none⟩) (by first | (simp; done) | (simp; omega) | omega)).trans (by first | assumption | (simp [go_sem]; done) | simp [go_sem, *])
  have hb10_w30_lt : w3.heap.size < w10.heap.size := Nat.lt_of_lt_of_le (m := _) (by first | (simp; done) | (simp; omega) | omega) hb10.size
  have hb10_w60_k0 : w10.cell? ⟨w6.heap.size, 0, none⟩ = some (.int .i64 3) := (hb10.cell (p := ⟨w6.heap.size, 0, none⟩) (by first | (simp; done) | (simp; omega) | omega)).trans (by first | assumption | (simp [go_sem]; done) | simp [go_sem, *])
  have hb10_w60_k1 : w10.cell? ⟨w6.heap.size, 1, none⟩ = some (.int .i64 4) := (hb10.cell (p := ⟨w6.heap.size, 1, none⟩) (by first | (simp; done) | (simp; omega) | omega)).trans (by first | assumption | (simp [go_sem]; done) | simp [go_sem, *])
  have hb10_w60_f : ∀ o, w10.frozen? ⟨w6.heap.size, o, none⟩ = false := fun o => (hb10.frozen (p := ⟨w6.heap.size, o, none⟩) (by first | (simp; done) | (simp; omega) | omega)).trans (by first | assumption | (simp [go_sem]; done) | simp [go_sem, *])
  have hb10_w60_lt : w6.heap.size < w10.heap.size := Nat.lt_of_lt_of_le (m := _) (by first | (simp; done) | (simp; omega) | omega) hb10.size
  go_wp2_with fail
  refine (rat_any (-3) 2 _).mono ?_
  rintro e w11 ⟨rfl, hb11⟩
  have hv11 : Reads w11 v [4, 2, 6, 7] := hv10.below (by repeat (first | with_reducible exact Below.refl _ _ | with_reducible assumption | refine below_drewN ?_ _ | refine Below.drew ?_ | refine Below.alloc ?_ (by first | (simp; done) | (simp; omega) | omega) _ | refine Below.setCell ?_ (by first | (simp; done) | (simp; omega) | omega) _ | refine Below.trans ?_ (Below.mono (by assumption) (by first | (simp; done) | (simp; omega) | omega))))
  have hz_hb11 := hb11.size
  try simp at hz_hb11
  have hb11_w10_k0 : w11.cell? ⟨w1.heap.size, 0, none⟩ = some (.int .i64 (-3)) := (hb11.cell (p := ⟨w1.heap.size, 0, none⟩) (by first | (simp; done) | (simp; omega) | omega)).trans (by first | assumption | (simp [go_sem]; done) | simp [go_sem, *])
  have hb11_w10_k1 : w11.cell? ⟨w1.heap.size, 1, none⟩ = some (.int .i64 2) := (hb11.cell (p := ⟨w1.heap.size, 1, none⟩) (by first | (simp; done) | (simp; omega) | omega)).trans (by first | assumption | (simp [go_sem]; done) | simp [go_sem, *])
  have hb11_w10_f : ∀ o, w11.frozen? ⟨w1.heap.size, o, none⟩ = false := fun o => (hb11.frozen (p := ⟨w1.heap.size, o, none⟩) (by first | (simp; done) | (simp; omega) | omega)).trans (by first | assumption | (simp [go_sem]; done) | simp [go_sem, *])
  have hb11_w10_lt : w1.heap.size < w11.heap.size := Nat.lt_of_lt_of_le (m := _) (by first | (simp; done) | (simp; omega) | omega) hb11.size
  have hb11_w30_k0 : w11.cell? ⟨w3.heap.size, 0, none⟩ = some (.int .i64 22) := (hb11.cell (p := ⟨w3.heap.size, 0, none⟩) (by first | (simp; done) | (simp; omega) | omega)).trans (by first | assumption | (simp [go_sem]; done) | simp [go_sem, *])
  have hb11_w30_k1 : w11.cell? ⟨w3.heap.size, 1, none⟩ = some (.int .i64 7) := (hb11.cell (p := ⟨w3.heap.size, 1, none⟩) (by first | (simp; done) | (simp; omega) | omega)).trans (by first | assumption | (simp [go_sem]; done) | simp [go_sem, *])
  have hb11_w30_f : ∀ o, w11.frozen? ⟨w3.heap.size, o, none⟩ = false := fun o => (hb11.frozen (p := ⟨w3.heap.size, o, none⟩) (by first | (simp; done) | (simp; omega) | omega)).trans (by first | assumption | (simp [go_sem]; done) | simp [go_sem, *])
  have hb11_w30_lt : w3.heap.size < w11.heap.size := Nat.lt_of_lt_of_le (m := _) (by first | (simp; done) | (simp; omega) | omega) hb11.size
  have hb11_w60_k0 : w11.cell? ⟨w6.heap.size, 0, none⟩ = some (.int .i64 3) := (hb11.cell (p := ⟨w6.heap.size, 0, none⟩) (by first | (simp; done) | (simp; omega) | omega)).trans (by first | assumption | (simp [go_sem]; done) | simp [go_sem, *])
  have hb11_w60_k1 : w11.cell? ⟨w6.heap.size, 1, none⟩ = some (.int .i64 4) := (hb11.cell (p := ⟨w6.heap.size, 1, none⟩) (by first | (simp; done) | (simp; omega) | omega)).trans (by first | assumption | (simp [go_sem]; done) | simp [go_sem, *])
  have hb11_w60_f : ∀ o, w11.frozen? ⟨w6.heap.size, o, none⟩ = false := fun o => (hb11.frozen (p := ⟨w6.heap.size, o, none⟩) (by first | (simp; done) | (simp; omega) | omega)).trans (by first | assumption | (simp [go_sem]; done) | simp [go_sem, *])
  have hb11_w60_lt : w6.heap.size < w11.heap.size := Nat.lt_of_lt_of_le (m := _) (by first | (simp; done) | (simp; omega) | omega) hb11.size
  have hb11_w100_k0 : w11.cell? ⟨w10.heap.size, 0, none⟩ = some (.int .i64 (-8)) := (hb11.cell (p := ⟨w10.heap.size, 0, none⟩) (by first | (simp; done) | (simp; omega) | omega)).trans (by first | assumption | (simp [go_sem]; done) | simp [go_sem, *])
  have hb11_w100_k1 : w11.cell? ⟨w10.heap.size, 1, none⟩ = some (.int .i64 (-7)) := (hb11.cell (p := ⟨w10.heap.size, 1, none⟩) (by first | (simp; done) | (simp; omega) | omega)).trans (by first | assumption | (simp [go_sem]; done) | simp [go_sem, *])
  have hb11_w100_f : ∀ o, w11.frozen? ⟨w10.heap.size, o, none⟩ = false := fun o => (hb11.frozen (p := ⟨w10.heap.size, o, none⟩) (by first | (simp; done) | (simp; omega) | omega)).trans (by first | assumption | (simp [go_sem]; done) | simp [go_sem, *])
  have hb11_w100_lt : w10.heap.size < w11.heap.size := Nat.lt_of_lt_of_le (m := _) (by first | (simp; done) | (simp; omega) | omega) hb11.size
  have b11 : Below w.heap.size w w11 := (by repeat (first | with_reducible exact Below.refl _ _ | with_reducible assumption | refine below_drewN ?_ _ | refine Below.drew ?_ | refine Below.alloc ?_ (by first | (simp; done) | (simp; omega) | omega) _ | refine Below.setCell ?_ (by first | (simp; done) | (simp; omega) | omega) _ | refine Below.trans ?_ (Below.mono (by assumption) (by first | (simp; done) | (simp; omega) | omega))))
  go_wp2_with fail
  refine (print_fix _ ?hTt).mono ?_
  case hTt => exact Lib.hid (Lib.tabBelow_of_tabIs (hT.out.on b11).here)
  rintro e w12 ⟨rfl, hb12⟩
  have hv12 : Reads w12 v [4, 2, 6, 7] := hv11.below hb12
  have hz_hb12 := hb12.size
  try simp at hz_hb12
  have hb12_w10_k0 : w12.cell? ⟨w1.heap.size, 0, none⟩ = some (.int .i64 (-3)) := (hb12.cell (p := ⟨w1.heap.size, 0, none⟩) (by first | (simp; done) | (simp; omega) | omega)).trans (by first | assumption | (simp [go_sem]; done) | simp [go_sem, *])
  have hb12_w10_k1 : w12.cell? ⟨w1.heap.size, 1, none⟩ = some (.int .i64 2) := (hb12.cell (p := ⟨w1.heap.size, 1, none⟩) (by first | (simp; done) | (simp; omega) | omega)).trans (by first | assumption | (simp [go_sem]; done) | simp [go_sem, *])
  have hb12_w10_f : ∀ o, w12.frozen? ⟨w1.heap.size, o, none⟩ = false := fun o => (hb12.frozen (p := ⟨w1.heap.size, o, none⟩) (by first | (simp; done) | (simp; omega) | omega)).trans (by first | assumption | (simp [go_sem]; done) | simp [go_sem, *])
  have hb12_w10_lt : w1.heap.size < w12.heap.size := Nat.lt_of_lt_of_le (m := _) (by first | (simp; done) | (simp; omega) | omega) hb12.size
  have hb12_w30_k0 : w12.cell? ⟨w3.heap.size, 0, none⟩ = some (.int .i64 22) := (hb12.cell (p := ⟨w3.heap.size, 0, none⟩) (by first | (simp; done) | (simp; omega) | omega)).trans (by first | assumption | (simp [go_sem]; done) | simp [go_sem, *])
  have hb12_w30_k1 : w12.cell? ⟨w3.heap.size, 1, none⟩ = some (.int .i64 7) := (hb12.cell (p := ⟨w3.heap.size, 1, none⟩) (by first | (simp; done) | (simp; omega) | omega)).trans (by first | assumption | (simp [go_sem]; done) | simp [go_sem, *])
  have hb12_w30_f : ∀ o, w12.frozen? ⟨w3.heap.size, o, none⟩ = false := fun o => (hb12.frozen (p := ⟨w3.heap.size, o, none⟩) (by first | (simp; done) | (simp; omega) | omega)).trans (by first | assumption | (simp [go_sem]; done) | simp [go_sem, *])
  have hb12_w30_lt : w3.heap.size < w12.heap.size := Nat.lt_of_lt_of_le (m := _) (by first | (simp; done) | (simp; omega) | omega) hb12.size
  have hb12_w60_k0 : w12.cell? ⟨w6.heap.size, 0, none⟩ = some (.int .i64 3) := (hb12.cell (p := ⟨w6.heap.size, 0, none⟩) (by first | (simp; done) | (simp; omega) | omega)).trans (by first | assumption | (simp [go_sem]; done) | simp [go_sem, *])
  have hb12_w60_k1 : w12.cell? ⟨w6.heap.size, 1, none⟩ = some (.int .i64 4) := (hb12.cell (p := ⟨w6.heap.size, 1, none⟩) (by first | (simp; done) | (simp; omega) | omega)).trans (by first | assumption | (simp [go_sem]; done) | simp [go_sem, *])
  have hb12_w60_f : ∀ o, w12.frozen? ⟨w6.heap.size, o, none⟩ = false := fun o => (hb12.frozen (p := ⟨w6.heap.size, o, none⟩) (by first | (simp; done) | (simp; omega) | omega)).trans (by first | assumption | (simp [go_sem]; done) | simp [go_sem, *])
  have hb12_w60_lt : w6.heap.size < w12.heap.size := Nat.lt_of_lt_of_le (m := _) (by first | (simp; done) | (simp; omega) | omega) hb12.size
  have hb12_w100_k0 : w12.cell? ⟨w10.heap.size, 0, none⟩ = some (.int .i64 (-8)) := (hb12.cell (p := ⟨w10.heap.size, 0, none⟩) (by first | (simp; done) | (simp; omega) | omega)).trans (by first | assumption | (simp [go_sem]; done) | simp [go_sem, *])
  have hb12_w100_k1 : w12.cell? ⟨w10.heap.size, 1, none⟩ = some (.int .i64 (-7)) := (hb12.cell (p := ⟨w10.heap.size, 1, none⟩) (by first | (simp; done) | (simp; omega) | omega)).trans (by first | assumption | (simp [go_sem]; done) | simp [go_sem, *])
  have hb12_w100_f : ∀ o, w12.frozen? ⟨w10.heap.size, o, none⟩ = false := fun o => (hb12.frozen (p := ⟨w10.heap.size, o, none⟩) (by first | (simp; done) | (simp; omega) | omega)).trans (by first | assumption | (simp [go_sem]; done) | simp [go_sem, *])
  have hb12_w100_lt : w10.heap.size < w12.heap.size := Nat.lt_of_lt_of_le (m := _) (by first | (simp; done) | (simp; omega) | omega) hb12.size
  have b12 : Below w.heap.size w w12 := (by repeat (first | with_reducible exact Below.refl _ _ | with_reducible assumption | refine below_drewN ?_ _ | refine Below.drew ?_ | refine Below.alloc ?_ (by first | (simp; done) | (simp; omega) | omega) _ | refine Below.setCell ?_ (by first | (simp; done) | (simp; omega) | omega) _ | refine Below.trans ?_ (Below.mono (by assumption) (by first | (simp; done) | (simp; omega) | omega))))
  clear hv8 hv9 hv10 hv11 b11 b6 hb7 hb8 hb9 hb10 hb11 hb12 hT
  clear hb6_w10_k0 hb6_w10_k1 hb6_w10_f hb6_w30_k0 hb6_w30_k1 hb6_w30_f hb7_w10_k0 hb7_w10_k1 hb7_w10_f hb7_w30_k0 hb7_w30_k1 hb7_w30_f hb7_w60_k0 hb7_w60_k1 hb7_w60_f hb8_w10_k0 hb8_w10_k1 hb8_w10_f hb8_w30_k0 hb8_w30_k1 hb8_w30_f hb8_w60_k0 hb8_w60_k1 hb8_w60_f
  clear hb9_w10_k0 hb9_w10_k1 hb9_w10_f hb9_w30_k0 hb9_w30_k1 hb9_w30_f hb9_w60_k0 hb9_w60_k1 hb9_w60_f hb10_w10_k0 hb10_w10_k1 hb10_w10_f hb10_w30_k0 hb10_w30_k1 hb10_w30_f hb10_w60_k0 hb10_w60_k1 hb10_w60_f
  clear hb11_w10_k0 hb11_w10_k1 hb11_w10_f hb11_w30_k0 hb11_w30_k1 hb11_w30_f hb11_w60_k0 hb11_w60_k1 hb11_w60_f hb11_w100_k0 hb11_w100_k1 hb11_w100_f hb12_w10_f hb12_w30_f hb12_w60_f hb12_w100_f
  go_wp2_with fail
  have S0 : w12.drew.cell? ⟨w1.heap.size, 0, none⟩ = some (.int .i64 (-3)) ∧ w12.drew.cell? ⟨w1.heap.size, 1, none⟩ = some (.int .i64 2) ∧ w12.drew.cell? ⟨w3.heap.size, 0, none⟩ = some (.int .i64 22) ∧ w12.drew.cell? ⟨w3.heap.size, 1, none⟩ = some (.int .i64 7) ∧ w12.drew.cell? ⟨w6.heap.size, 0, none⟩ = some (.int .i64 3) ∧ w12.drew.cell? ⟨w6.heap.size, 1, none⟩ = some (.int .i64 4) ∧ w12.drew.cell? ⟨w10.heap.size, 0, none⟩ = some (.int .i64 (-8)) ∧ w12.drew.cell? ⟨w10.heap.size, 1, none⟩ = some (.int .i64 (-7)) ∧ Reads w12.drew v [4, 2, 6, 7] ∧ w12.heap.size ≤ w12.drew.heap.size ∧ Below w.heap.size w w12.drew :=
    ⟨hb12_w10_k0, hb12_w10_k1, hb12_w30_k0, hb12_w30_k1, hb12_w60_k0, hb12_w60_k1, hb12_w100_k0, hb12_w100_k1, hv12.below (Below.refl _ _).drew, Nat.le_refl _, b12.drew⟩
  clear hb12_w10_k0 hb12_w10_k1 hb12_w30_k0 hb12_w30_k1 hb12_w60_k0 hb12_w60_k1 hb12_w100_k0 hb12_w100_k1 hv12 b12
  go_region_held3 (fun w' => w'.cell? ⟨w1.heap.size, 0, none⟩ = some (.int .i64 (-3)) ∧ w'.cell? ⟨w1.heap.size, 1, none⟩ = some (.int .i64 2) ∧ w'.cell? ⟨w3.heap.size, 0, none⟩ = some (.int .i64 22) ∧ w'.cell? ⟨w3.heap.size, 1, none⟩ = some (.int .i64 7) ∧ w'.cell? ⟨w6.heap.size, 0, none⟩ = some (.int .i64 3) ∧ w'.cell? ⟨w6.heap.size, 1, none⟩ = some (.int .i64 4) ∧ w'.cell? ⟨w10.heap.size, 0, none⟩ = some (.int .i64 (-8)) ∧ w'.cell? ⟨w10.heap.size, 1, none⟩ = some (.int .i64 (-7)) ∧ Reads w' v [4, 2, 6, 7] ∧ w12.heap.size ≤ w'.heap.size ∧ Below w.heap.size w w')
    (first | exact S0 | exact san_keep (by assumption) hbp | exact san_keep (by assumption) (by repeat (first | with_reducible exact Below.refl _ _ | with_reducible assumption | refine below_drewN ?_ _ | refine Below.drew ?_ | refine Below.alloc ?_ (by first | (simp; done) | (simp; omega) | omega) _ | refine Below.setCell ?_ (by first | (simp; done) | (simp; omega) | omega) _ | refine Below.trans ?_ (Below.mono (by assumption) (by first | (simp; done) | (simp; omega) | omega)))) | go_keep)
    (first
      | (go_at_call 76
         refine (rat_any _ _ _).mono ?_
         rintro e wp ⟨he, hbp⟩
         subst he)
      | (go_at_call 47
         refine (same_yes v _ [4, 2, 6, 7] _ ?r1 ?r2).mono ?_
         case r1 => first | assumption | (go_split_ands; assumption)
         case r2 => exact lit_reads _
         rintro e wq ⟨he, mq, hmq⟩
         subst he hmq))
  go_split_ands
  go_wp2
  go_ret
  exact ⟨rfl, by assumption⟩
end Go.Proofs.YtffabmojbelaaaaDoor
