/- The law ExactOrder: it returns true. -/
import Derived.Test.YtpbomeoonknifaaDoorLOrder1
import Derived.Test.YtpbomeoonknifaaDoorLOrder2
import Derived.Test.YtpbomeoonknifaaDoorLOrder3
import Derived.Test.YtpbomeoonknifaaDoorLOrder4
import Derived.Test.YtpbomeoonknifaaDoorE
import Derived.Test.YtpbomeoonknifaaDoorF
namespace Go.Proofs.YtpbomeoonknifaaDoor
open Go.RowKit Go.Shelf

theorem oadd {A B : Rat} (hA : Rt.Fits A) (hB : Rt.Fits B) {r : Rt.Num} (hr : Rt.fit (A + B) = r) : ∀ W : World,
    Calls Tryd.prog 25 #[.agg #[.int .i64 A.num, .int .i64 (A.den : Int)], .agg #[.int .i64 B.num, .int .i64 (B.den : Int)]] W fun e w' => e = .returned (.tuple #[.agg #[.int .i64 r.n, .int .i64 r.d], .int .i64 r.e]) ∧ Below W.heap.size W w' := fun W => by
  have h := add_ok A.num A.den B.num B.den hA.vld hB.vld W
  rw [Rt.add_mk, hr] at h
  exact h
theorem omul {A B : Rat} (hA : Rt.Fits A) (hB : Rt.Fits B) {r : Rt.Num} (hr : Rt.fit (A * B) = r) : ∀ W : World,
    Calls Tryd.prog 27 #[.agg #[.int .i64 A.num, .int .i64 (A.den : Int)], .agg #[.int .i64 B.num, .int .i64 (B.den : Int)]] W fun e w' => e = .returned (.tuple #[.agg #[.int .i64 r.n, .int .i64 r.d], .int .i64 r.e]) ∧ Below W.heap.size W w' := fun W => by
  have h := mul_ok A.num A.den B.num B.den hA.vld hB.vld W
  rw [Rt.mul_mk, hr] at h
  exact h
theorem omed {A B : Rat} (hA : Rt.Fits A) (hB : Rt.Fits B) {r : Rt.Num} (hr : Rt.fit (Rt.med A B) = r) : ∀ W : World,
    Calls Tryd.prog 29 #[.agg #[.int .i64 A.num, .int .i64 (A.den : Int)], .agg #[.int .i64 B.num, .int .i64 (B.den : Int)]] W fun e w' => e = .returned (.tuple #[.agg #[.int .i64 r.n, .int .i64 r.d], .int .i64 r.e]) ∧ Below W.heap.size W w' := fun W => by
  have h := med_ok A.num A.den B.num B.den hA.vld hB.vld W
  rw [Rt.med_mk, hr] at h
  exact h
theorem ocmp {A B : Rat} (hA : Rt.Fits A) (hB : Rt.Fits B) {n : Int} (hn : Rt.cmpR A B = n) : ∀ W : World,
    Calls Tryd.prog 23 #[.agg #[.int .i64 A.num, .int .i64 (A.den : Int)], .agg #[.int .i64 B.num, .int .i64 (B.den : Int)]] W fun e w' => e = .returned (.tuple #[.int .i64 n, .int .i64 0]) ∧ Below W.heap.size W w' := fun W => by
  have h := cmp_ok A.num A.den B.num B.den hA.vld hB.vld W
  rw [Rt.cmp_mk, hn] at h
  exact h
theorem o_t1 (X Y : Rat) : ((Rt.fit X).e = 0 ∧ (Rt.fit Y).e = 0 ∧ decide (Rt.Fits X ∧ Rt.Fits Y) = true) ∨ ((Rt.fit X).e = 0 ∧ (Rt.fit Y).e = 3 ∧ decide (Rt.Fits X ∧ Rt.Fits Y) = false) ∨ ((Rt.fit X).e = 3 ∧ decide (Rt.Fits X ∧ Rt.Fits Y) = false) := by
  by_cases gx : Rt.Fits X
  · by_cases gy : Rt.Fits Y
    · exact .inl ⟨by rw [Rt.fit_yes gx], by rw [Rt.fit_yes gy], by simp [gx, gy]⟩
    · exact .inr (.inl ⟨by rw [Rt.fit_yes gx], by rw [Rt.fit_no gy], by simp [gy]⟩)
  · exact .inr (.inr ⟨by rw [Rt.fit_no gx], by simp [gx]⟩)
theorem o_t2 (X Y : Rat) (c : Int) : ((Rt.fit X).e = 0 ∧ (Rt.fit Y).e = 0 ∧ 0 < c ∧ decide (Rt.Fits X ∧ Rt.Fits Y ∧ 0 < c) = true) ∨ ((Rt.fit X).e = 0 ∧ (Rt.fit Y).e = 0 ∧ c ≤ 0 ∧ decide (Rt.Fits X ∧ Rt.Fits Y ∧ 0 < c) = false) ∨
    ((Rt.fit X).e = 0 ∧ (Rt.fit Y).e = 3 ∧ decide (Rt.Fits X ∧ Rt.Fits Y ∧ 0 < c) = false) ∨ ((Rt.fit X).e = 3 ∧ decide (Rt.Fits X ∧ Rt.Fits Y ∧ 0 < c) = false) := by
  by_cases gx : Rt.Fits X
  · by_cases gy : Rt.Fits Y
    · by_cases gc : 0 < c
      · exact .inl ⟨by rw [Rt.fit_yes gx], by rw [Rt.fit_yes gy], gc, by simp [gx, gy, gc]⟩
      · exact .inr (.inl ⟨by rw [Rt.fit_yes gx], by rw [Rt.fit_yes gy], by omega, by simp [gc]⟩)
    · exact .inr (.inr (.inl ⟨by rw [Rt.fit_yes gx], by rw [Rt.fit_no gy], by simp [gy]⟩))
  · exact .inr (.inr (.inr ⟨by rw [Rt.fit_no gx], by simp [gx]⟩))
theorem ocmp2 {X Y : Rat} {n : Int} (gx : Rt.Fits X) (gy : Rt.Fits Y) (hn : Rt.cmpR X Y = n) (W : World) :
    Calls Tryd.prog 23 #[.agg #[.int .i64 (Rt.fit X).n, .int .i64 (Rt.fit X).d], .agg #[.int .i64 (Rt.fit Y).n, .int .i64 (Rt.fit Y).d]] W fun e w' => e = .returned (.tuple #[.int .i64 n, .int .i64 0]) ∧ Below W.heap.size W w' := by
  rw [Rt.fit_yes gx, Rt.fit_yes gy]
  exact ocmp gx gy hn W
theorem omed_self {A : Rat} (hA : Rt.Fits A) : ∀ W : World,
    Calls Tryd.prog 29 #[.agg #[.int .i64 A.num, .int .i64 (A.den : Int)], .agg #[.int .i64 A.num, .int .i64 (A.den : Int)]] W fun e w' => e = .returned (.tuple #[.agg #[.int .i64 A.num, .int .i64 (A.den : Int)], .int .i64 0]) ∧ Below W.heap.size W w' := fun W => by
  have h := med_ok A.num A.den A.num A.den hA.vld hA.vld W
  have e : Rt.mk (A.num + A.num) (A.den + A.den) = ⟨A.num, A.den, 0⟩ := by
    have d := Rt.den_pos A
    rw [← Int.two_mul, ← Int.two_mul, Rt.mk_scale (by decide), Rt.mk_eq (by omega), Rt.dn, Rt.fit_yes hA]
  rw [e] at h
  exact h

set_option maxRecDepth 100000 in
set_option maxHeartbeats 2000000 in
theorem order_out1 (a1 a2 b1 b2 c1 c2 : Int) (KW : Hid (∀ W : World, Calls Tryd.prog 31 #[.agg #[.int .i64 a1, .int .i64 a2], .agg #[.int .i64 b1, .int .i64 b2]] W fun e w' => e = .returned (.bool true) ∧ Below W.heap.size W w')) (w : World) (hT : Hid (Tab w.heap.size w)) :
    Calls Tryd.prog 12 #[.agg #[.int .i64 a1, .int .i64 a2], .agg #[.int .i64 b1, .int .i64 b2], .agg #[.int .i64 c1, .int .i64 c2]] w fun e w' => e = .returned (.bool true) ∧ Below w.heap.size w w' := by
  go_enter Tryd.func12, Tryd.ntmps12
  go_wp2_with fail
  refine (KW.out _).mono ?_
  rintro e W1 ⟨rfl, hb1⟩
  have k1 : W1.cell? ⟨w.heap.size, 0, none⟩ = some (.int .i64 a1) := kept1 (by simp [go_sem]) hb1
  have k2 : W1.cell? ⟨w.heap.size, 1, none⟩ = some (.int .i64 a2) := kept1 (by simp [go_sem]) hb1
  have k3 : W1.cell? ⟨w.heap.size + 1, 0, none⟩ = some (.int .i64 b1) := kept1 (by simp [go_sem]) hb1
  have k4 : W1.cell? ⟨w.heap.size + 1, 1, none⟩ = some (.int .i64 b2) := kept1 (by simp [go_sem]) hb1
  have k5 : W1.cell? ⟨w.heap.size + 1 + 1, 0, none⟩ = some (.int .i64 c1) := kept1 (by simp [go_sem]) hb1
  have k6 : W1.cell? ⟨w.heap.size + 1 + 1, 1, none⟩ = some (.int .i64 c2) := kept1 (by simp [go_sem]) hb1
  have lk1 : w.heap.size < W1.heap.size := block_lt_of_cell k1
  have lk3 : w.heap.size + 1 < W1.heap.size := block_lt_of_cell k3
  have lk5 : w.heap.size + 1 + 1 < W1.heap.size := block_lt_of_cell k5
  have hv1 : Below w.heap.size w W1 := bstep3 (Below.refl _ _) hb1
  clear hb1  
  go_wp2_with fail
  refine (sanity_tab hT _ hv1).mono ?_
  rintro e W2 ⟨rfl, hb2⟩
  have k7 : W2.cell? ⟨w.heap.size, 0, none⟩ = some (.int .i64 a1) := kept1 k1 hb2
  have k8 : W2.cell? ⟨w.heap.size, 1, none⟩ = some (.int .i64 a2) := kept1 k2 hb2
  have k9 : W2.cell? ⟨w.heap.size + 1, 0, none⟩ = some (.int .i64 b1) := kept1 k3 hb2
  have k10 : W2.cell? ⟨w.heap.size + 1, 1, none⟩ = some (.int .i64 b2) := kept1 k4 hb2
  have k11 : W2.cell? ⟨w.heap.size + 1 + 1, 0, none⟩ = some (.int .i64 c1) := kept1 k5 hb2
  have k12 : W2.cell? ⟨w.heap.size + 1 + 1, 1, none⟩ = some (.int .i64 c2) := kept1 k6 hb2
  have lk7 : w.heap.size < W2.heap.size := block_lt_of_cell k7
  have lk9 : w.heap.size + 1 < W2.heap.size := block_lt_of_cell k9
  have lk11 : w.heap.size + 1 + 1 < W2.heap.size := block_lt_of_cell k11
  have hv2 : Below w.heap.size w W2 := bstep0 hv1 hb2
  clear hb2 hv1 k1 k2 k3 k4 k5 k6 lk1 lk3 lk5
  go_wp2
  go_ret
  exact ⟨by first | rfl | simp, (by repeat (first | with_reducible exact Below.refl _ _ | with_reducible assumption | refine below_drewN ?_ _ | refine Below.drew ?_ | refine Below.alloc ?_ (by first | (simp; done) | (simp; omega) | omega) _ | refine Below.setCell ?_ (by first | (simp; done) | (simp; omega) | omega) _ | refine Below.trans ?_ (Below.mono (by assumption) (by first | (simp; done) | (simp; omega) | omega))))⟩

set_option maxRecDepth 100000 in
set_option maxHeartbeats 2000000 in
theorem order_out2 (a1 a2 b1 b2 c1 c2 : Int) (KW : Hid (∀ W : World, Calls Tryd.prog 31 #[.agg #[.int .i64 a1, .int .i64 a2], .agg #[.int .i64 b1, .int .i64 b2]] W fun e w' => e = .returned (.bool false) ∧ Below W.heap.size W w')) (KV : Hid (∀ W : World, Calls Tryd.prog 22 #[.agg #[.int .i64 c1, .int .i64 c2]] W fun e w' => e = .returned (.bool false) ∧ Below W.heap.size W w')) (w : World) (hT : Hid (Tab w.heap.size w)) :
    Calls Tryd.prog 12 #[.agg #[.int .i64 a1, .int .i64 a2], .agg #[.int .i64 b1, .int .i64 b2], .agg #[.int .i64 c1, .int .i64 c2]] w fun e w' => e = .returned (.bool true) ∧ Below w.heap.size w w' := by
  go_enter Tryd.func12, Tryd.ntmps12
  go_wp2_with fail
  refine (KW.out _).mono ?_
  rintro e W1 ⟨rfl, hb1⟩
  have k1 : W1.cell? ⟨w.heap.size, 0, none⟩ = some (.int .i64 a1) := kept1 (by simp [go_sem]) hb1
  have k2 : W1.cell? ⟨w.heap.size, 1, none⟩ = some (.int .i64 a2) := kept1 (by simp [go_sem]) hb1
  have k3 : W1.cell? ⟨w.heap.size + 1, 0, none⟩ = some (.int .i64 b1) := kept1 (by simp [go_sem]) hb1
  have k4 : W1.cell? ⟨w.heap.size + 1, 1, none⟩ = some (.int .i64 b2) := kept1 (by simp [go_sem]) hb1
  have k5 : W1.cell? ⟨w.heap.size + 1 + 1, 0, none⟩ = some (.int .i64 c1) := kept1 (by simp [go_sem]) hb1
  have k6 : W1.cell? ⟨w.heap.size + 1 + 1, 1, none⟩ = some (.int .i64 c2) := kept1 (by simp [go_sem]) hb1
  have lk1 : w.heap.size < W1.heap.size := block_lt_of_cell k1
  have lk3 : w.heap.size + 1 < W1.heap.size := block_lt_of_cell k3
  have lk5 : w.heap.size + 1 + 1 < W1.heap.size := block_lt_of_cell k5
  have hv1 : Below w.heap.size w W1 := bstep3 (Below.refl _ _) hb1
  clear hb1  
  go_wp2_with fail
  refine (KV.out _).mono ?_
  rintro e W2 ⟨rfl, hb2⟩
  have k7 : W2.cell? ⟨w.heap.size, 0, none⟩ = some (.int .i64 a1) := kept1 k1 hb2
  have k8 : W2.cell? ⟨w.heap.size, 1, none⟩ = some (.int .i64 a2) := kept1 k2 hb2
  have k9 : W2.cell? ⟨w.heap.size + 1, 0, none⟩ = some (.int .i64 b1) := kept1 k3 hb2
  have k10 : W2.cell? ⟨w.heap.size + 1, 1, none⟩ = some (.int .i64 b2) := kept1 k4 hb2
  have k11 : W2.cell? ⟨w.heap.size + 1 + 1, 0, none⟩ = some (.int .i64 c1) := kept1 k5 hb2
  have k12 : W2.cell? ⟨w.heap.size + 1 + 1, 1, none⟩ = some (.int .i64 c2) := kept1 k6 hb2
  have lk7 : w.heap.size < W2.heap.size := block_lt_of_cell k7
  have lk9 : w.heap.size + 1 < W2.heap.size := block_lt_of_cell k9
  have lk11 : w.heap.size + 1 + 1 < W2.heap.size := block_lt_of_cell k11
  have hv2 : Below w.heap.size w W2 := bstep0 hv1 hb2
  clear hb2 hv1 k1 k2 k3 k4 k5 k6 lk1 lk3 lk5
  go_wp2_with fail
  refine (sanity_tab hT _ hv2).mono ?_
  rintro e W3 ⟨rfl, hb3⟩
  have k13 : W3.cell? ⟨w.heap.size, 0, none⟩ = some (.int .i64 a1) := kept1 k7 hb3
  have k14 : W3.cell? ⟨w.heap.size, 1, none⟩ = some (.int .i64 a2) := kept1 k8 hb3
  have k15 : W3.cell? ⟨w.heap.size + 1, 0, none⟩ = some (.int .i64 b1) := kept1 k9 hb3
  have k16 : W3.cell? ⟨w.heap.size + 1, 1, none⟩ = some (.int .i64 b2) := kept1 k10 hb3
  have k17 : W3.cell? ⟨w.heap.size + 1 + 1, 0, none⟩ = some (.int .i64 c1) := kept1 k11 hb3
  have k18 : W3.cell? ⟨w.heap.size + 1 + 1, 1, none⟩ = some (.int .i64 c2) := kept1 k12 hb3
  have lk13 : w.heap.size < W3.heap.size := block_lt_of_cell k13
  have lk15 : w.heap.size + 1 < W3.heap.size := block_lt_of_cell k15
  have lk17 : w.heap.size + 1 + 1 < W3.heap.size := block_lt_of_cell k17
  have hv3 : Below w.heap.size w W3 := bstep0 hv2 hb3
  clear hb3 hv2 k7 k8 k9 k10 k11 k12 lk7 lk9 lk11
  go_wp2
  go_ret
  exact ⟨by first | rfl | simp, (by repeat (first | with_reducible exact Below.refl _ _ | with_reducible assumption | refine below_drewN ?_ _ | refine Below.drew ?_ | refine Below.alloc ?_ (by first | (simp; done) | (simp; omega) | omega) _ | refine Below.setCell ?_ (by first | (simp; done) | (simp; omega) | omega) _ | refine Below.trans ?_ (Below.mono (by assumption) (by first | (simp; done) | (simp; omega) | omega))))⟩

theorem exactOrder_true (a b c d e f : Int) (_ : I64 a) (_ : I64 b) (_ : I64 c) (_ : I64 d) (_ : I64 e) (_ : I64 f) (w : World) (hT : Tab w.heap.size w) :
    Calls Tryd.prog 12 #[.agg #[.int .i64 a, .int .i64 b], .agg #[.int .i64 c, .int .i64 d], .agg #[.int .i64 e, .int .i64 f]] w fun e w' => e = .returned (.bool true) ∧ Below w.heap.size w w' := by
  replace hT := Lib.hid hT
  obtain ⟨t, ht, _, kt⟩ := valid_both a b
  obtain ⟨u, hu, _, ku⟩ := valid_both c d
  have KW := wrong_any a b c d t u (Lib.hid kt) (Lib.hid ku)
  by_cases hw : Rt.vldP a b ∧ Rt.vldP c d
  case neg =>
    have : (!t || !u) = true := by
      cases t <;> cases u <;> simp_all
    rw [this] at KW
    exact order_out1 a b c d e f (Lib.hid KW) w hT
  obtain ⟨ha, hc⟩ := hw
  rw [ht.1 ha, hu.1 hc] at KW
  replace KW := Lib.hid KW
  by_cases he : Rt.vldP e f
  case neg => exact order_out2 a b c d e f KW (Lib.hid fun W => rvalid_not e f W he) w hT
  have KV := Lib.hid fun W => rvalid_yes e f W he
  clear kt ku ht hu
  obtain ⟨A, hA, rfl, rfl⟩ := Rt.vld_rat ha
  obtain ⟨B, hB, rfl, rfl⟩ := Rt.vld_rat hc
  obtain ⟨C, hC, rfl, rfl⟩ := Rt.vld_rat he
  clear ha hc he
  have HA := Lib.hid (ocmp hA hB rfl)
  have HB := Lib.hid (ocmp hB hA (Rt.cmpR_swap B A))
  have HC := Lib.hid (ocmp hB hC rfl)
  have HD := Lib.hid (ocmp hA hC rfl)
  have X1 := Lib.hid (oadd hA hC rfl)
  have X2 := Lib.hid (oadd hB hC rfl)
  have XC : Hid (decide (Rt.Fits (A + C) ∧ Rt.Fits (B + C)) = true → _) := Lib.hid fun h W => ocmp2 (of_decide_eq_true h).1 (of_decide_eq_true h).2 (Rt.cmpR_add A B C) W
  have U1 := Lib.hid (omul hA hC rfl)
  have U2 := Lib.hid (omul hB hC rfl)
  have UC : Hid (decide (Rt.Fits (A * C) ∧ Rt.Fits (B * C) ∧ 0 < C.num) = true → _) := Lib.hid fun h W => ocmp2 (of_decide_eq_true h).1 (of_decide_eq_true h).2.1 (Rt.cmpR_mul (A := A) (B := B) (Rt.num_pos.1 (of_decide_eq_true h).2.2)) W
  have h1 := Lib.hid (o_t1 (A + C) (B + C))
  have h2 := Lib.hid (o_t2 (A * C) (B * C) C.num)
  have tr := Rt.cmpR_trans (A := A) (B := B) (C := C)
  by_cases hAB : A = B
  · subst hAB
    rw [Rt.cmpR_self] at HA HB XC UC
    exact order_eq _ _ _ _ _ _ _ _ _ _ _ _ KW KV HA HB HC HD (Lib.hid (by omega)) X1 X2 _ h1 XC U1 U2 _ h2 UC (Lib.hid (omed_self hA)) w hT
  have n0 : Rt.cmpR A B ≠ 0 := fun h => hAB (Rt.cmpR_eq.1 h)
  have bd := Rt.cmpR_bd A B
  have hn : -1 ≤ Rt.cmpR A B ∧ Rt.cmpR A B ≤ 1 ∧ Rt.cmpR A B ≠ 0 := ⟨bd.1, bd.2, n0⟩
  have hb : Hid ((Rt.cmpR A B == 0) = false) := Lib.hid (beq_eq_false_iff_ne.2 n0)
  have hcls : Hid (0 < Rt.cmpR A B ∨ (Rt.cmpR A B < 0 ∧ 0 < Rt.cmpR B C) ∨ (Rt.cmpR A B < 0 ∧ Rt.cmpR B C ≤ 0 ∧ Rt.cmpR A C ≤ 0)) := Lib.hid (by omega)
  by_cases gm : Rt.Fits (Rt.med A B)
  · have M1 := Lib.hid (omed hA hB (Rt.fit_yes gm))
    have MA := Lib.hid (ocmp hA gm (Rt.cmpR_med n0).1)
    have MB := Lib.hid (ocmp gm hB (Rt.cmpR_med n0).2)
    by_cases en : A.num = B.num
    · have ne : (A.den : Int) ≠ B.den := fun h => hAB (Rat.ext en (by omega))
      rw [← en] at KW HA HB HC X2 U2 M1 MB
      rw [← en]
      exact order_ne2 _ _ _ _ _ _ _ _ _ _ _ _ _ _ KW KV HA HB HC HD hn hb (Lib.hid ne) hcls X1 X2 _ h1 XC U1 U2 _ h2 UC M1 MA MB w hT
    · exact order_ne1 _ _ _ _ _ _ _ _ _ _ _ _ _ _ _ KW KV HA HB HC HD hn hb (Lib.hid en) hcls X1 X2 _ h1 XC U1 U2 _ h2 UC M1 MA MB w hT
  · have M1 := Lib.hid (omed hA hB (Rt.fit_no gm))
    by_cases en : A.num = B.num
    · have ne : (A.den : Int) ≠ B.den := fun h => hAB (Rat.ext en (by omega))
      rw [← en] at KW HA HB HC X2 U2 M1
      rw [← en]
      exact order_far2 _ _ _ _ _ _ _ _ _ _ _ _ KW KV HA HB HC HD hn hb (Lib.hid ne) hcls X1 X2 _ h1 XC U1 U2 _ h2 UC M1 w hT
    · exact order_far1 _ _ _ _ _ _ _ _ _ _ _ _ _ KW KV HA HB HC HD hn hb (Lib.hid en) hcls X1 X2 _ h1 XC U1 U2 _ h2 UC M1 w hT
end Go.Proofs.YtpbomeoonknifaaDoor
