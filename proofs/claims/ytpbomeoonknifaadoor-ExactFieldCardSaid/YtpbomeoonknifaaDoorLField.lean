/- The law ExactField: it returns true. -/
import Derived.Test.YtpbomeoonknifaaDoorLField1
import Derived.Test.YtpbomeoonknifaaDoorLField2
import Derived.Test.YtpbomeoonknifaaDoorLField3
import Derived.Test.YtpbomeoonknifaaDoorLField4
import Derived.Test.YtpbomeoonknifaaDoorF
import Derived.Test.YtpbomeoonknifaaDoorG
namespace Go.Proofs.YtpbomeoonknifaaDoor
open Go.RowKit Go.Shelf

set_option maxRecDepth 100000 in
set_option maxHeartbeats 2000000 in
theorem field_out1 (a1 a2 b1 b2 c1 c2 : Int) (KW : Hid (∀ W : World, Calls Tryd.prog 31 #[.agg #[.int .i64 a1, .int .i64 a2], .agg #[.int .i64 b1, .int .i64 b2]] W fun e w' => e = .returned (.bool true) ∧ Below W.heap.size W w')) (w : World) (hT : Hid (Tab w.heap.size w)) :
    Calls Tryd.prog 11 #[.agg #[.int .i64 a1, .int .i64 a2], .agg #[.int .i64 b1, .int .i64 b2], .agg #[.int .i64 c1, .int .i64 c2]] w fun e w' => e = .returned (.bool true) ∧ Below w.heap.size w w' := by
  go_enter Tryd.func11, Tryd.ntmps11
  go_wp2_with fail
  refine (KW.out _).mono ?_
  rintro e W1 ⟨rfl, hb1⟩
  have k1 : W1.cell? ⟨w.heap.size, 0, none⟩ = some (.int .i64 a1) := kept1 (by simp [go_sem]) hb1
  have k2 : W1.cell? ⟨w.heap.size, 1, none⟩ = some (.int .i64 a2) := kept1 (by simp [go_sem]) hb1
  have k3 : W1.cell? ⟨w.heap.size + 1, 0, none⟩ = some (.int .i64 b1) := kept1 (by simp [go_sem]) hb1
  have k4 : W1.cell? ⟨w.heap.size + 1, 1, none⟩ = some (.int .i64 b2) := kept1 (by simp [go_sem]) hb1
  have k5 : W1.cell? ⟨w.heap.size + 1 + 1, 0, none⟩ = some (.int .i64 c1) := kept1 (by simp [go_sem]) hb1
  have k6 : W1.cell? ⟨w.heap.size + 1 + 1, 1, none⟩ = some (.int .i64 c2) := kept1 (by simp [go_sem]) hb1
  have lk1 : w.heap.size < W1.heap.size := block_lt_of_cell k1
  have lk3 : w.heap.size + 1 < W1.heap.size := block_lt_of_cell k3
  have lk5 : w.heap.size + 1 + 1 < W1.heap.size := block_lt_of_cell k5
  have hv1 : Below w.heap.size w W1 := bstep3 (Below.refl _ _) hb1
  clear hb1  
  go_wp2_with fail
  refine (sanity_tab hT _ hv1).mono ?_
  rintro e W2 ⟨rfl, hb2⟩
  have k7 : W2.cell? ⟨w.heap.size, 0, none⟩ = some (.int .i64 a1) := kept1 k1 hb2
  have k8 : W2.cell? ⟨w.heap.size, 1, none⟩ = some (.int .i64 a2) := kept1 k2 hb2
  have k9 : W2.cell? ⟨w.heap.size + 1, 0, none⟩ = some (.int .i64 b1) := kept1 k3 hb2
  have k10 : W2.cell? ⟨w.heap.size + 1, 1, none⟩ = some (.int .i64 b2) := kept1 k4 hb2
  have k11 : W2.cell? ⟨w.heap.size + 1 + 1, 0, none⟩ = some (.int .i64 c1) := kept1 k5 hb2
  have k12 : W2.cell? ⟨w.heap.size + 1 + 1, 1, none⟩ = some (.int .i64 c2) := kept1 k6 hb2
  have lk7 : w.heap.size < W2.heap.size := block_lt_of_cell k7
  have lk9 : w.heap.size + 1 < W2.heap.size := block_lt_of_cell k9
  have lk11 : w.heap.size + 1 + 1 < W2.heap.size := block_lt_of_cell k11
  have hv2 : Below w.heap.size w W2 := bstep0 hv1 hb2
  clear hb2 hv1 k1 k2 k3 k4 k5 k6 lk1 lk3 lk5
  go_wp2
  go_ret
  exact ⟨by first | rfl | simp, (by repeat (first | with_reducible exact Below.refl _ _ | with_reducible assumption | refine below_drewN ?_ _ | refine Below.drew ?_ | refine Below.alloc ?_ (by first | (simp; done) | (simp; omega) | omega) _ | refine Below.setCell ?_ (by first | (simp; done) | (simp; omega) | omega) _ | refine Below.trans ?_ (Below.mono (by assumption) (by first | (simp; done) | (simp; omega) | omega))))⟩

set_option maxRecDepth 100000 in
set_option maxHeartbeats 2000000 in
theorem field_out2 (a1 a2 b1 b2 c1 c2 : Int) (KW : Hid (∀ W : World, Calls Tryd.prog 31 #[.agg #[.int .i64 a1, .int .i64 a2], .agg #[.int .i64 b1, .int .i64 b2]] W fun e w' => e = .returned (.bool false) ∧ Below W.heap.size W w')) (KV : Hid (∀ W : World, Calls Tryd.prog 22 #[.agg #[.int .i64 c1, .int .i64 c2]] W fun e w' => e = .returned (.bool false) ∧ Below W.heap.size W w')) (w : World) (hT : Hid (Tab w.heap.size w)) :
    Calls Tryd.prog 11 #[.agg #[.int .i64 a1, .int .i64 a2], .agg #[.int .i64 b1, .int .i64 b2], .agg #[.int .i64 c1, .int .i64 c2]] w fun e w' => e = .returned (.bool true) ∧ Below w.heap.size w w' := by
  go_enter Tryd.func11, Tryd.ntmps11
  go_wp2_with fail
  refine (KW.out _).mono ?_
  rintro e W1 ⟨rfl, hb1⟩
  have k1 : W1.cell? ⟨w.heap.size, 0, none⟩ = some (.int .i64 a1) := kept1 (by simp [go_sem]) hb1
  have k2 : W1.cell? ⟨w.heap.size, 1, none⟩ = some (.int .i64 a2) := kept1 (by simp [go_sem]) hb1
  have k3 : W1.cell? ⟨w.heap.size + 1, 0, none⟩ = some (.int .i64 b1) := kept1 (by simp [go_sem]) hb1
  have k4 : W1.cell? ⟨w.heap.size + 1, 1, none⟩ = some (.int .i64 b2) := kept1 (by simp [go_sem]) hb1
  have k5 : W1.cell? ⟨w.heap.size + 1 + 1, 0, none⟩ = some (.int .i64 c1) := kept1 (by simp [go_sem]) hb1
  have k6 : W1.cell? ⟨w.heap.size + 1 + 1, 1, none⟩ = some (.int .i64 c2) := kept1 (by simp [go_sem]) hb1
  have lk1 : w.heap.size < W1.heap.size := block_lt_of_cell k1
  have lk3 : w.heap.size + 1 < W1.heap.size := block_lt_of_cell k3
  have lk5 : w.heap.size + 1 + 1 < W1.heap.size := block_lt_of_cell k5
  have hv1 : Below w.heap.size w W1 := bstep3 (Below.refl _ _) hb1
  clear hb1  
  go_wp2_with fail
  refine (KV.out _).mono ?_
  rintro e W2 ⟨rfl, hb2⟩
  have k7 : W2.cell? ⟨w.heap.size, 0, none⟩ = some (.int .i64 a1) := kept1 k1 hb2
  have k8 : W2.cell? ⟨w.heap.size, 1, none⟩ = some (.int .i64 a2) := kept1 k2 hb2
  have k9 : W2.cell? ⟨w.heap.size + 1, 0, none⟩ = some (.int .i64 b1) := kept1 k3 hb2
  have k10 : W2.cell? ⟨w.heap.size + 1, 1, none⟩ = some (.int .i64 b2) := kept1 k4 hb2
  have k11 : W2.cell? ⟨w.heap.size + 1 + 1, 0, none⟩ = some (.int .i64 c1) := kept1 k5 hb2
  have k12 : W2.cell? ⟨w.heap.size + 1 + 1, 1, none⟩ = some (.int .i64 c2) := kept1 k6 hb2
  have lk7 : w.heap.size < W2.heap.size := block_lt_of_cell k7
  have lk9 : w.heap.size + 1 < W2.heap.size := block_lt_of_cell k9
  have lk11 : w.heap.size + 1 + 1 < W2.heap.size := block_lt_of_cell k11
  have hv2 : Below w.heap.size w W2 := bstep0 hv1 hb2
  clear hb2 hv1 k1 k2 k3 k4 k5 k6 lk1 lk3 lk5
  go_wp2_with fail
  refine (sanity_tab hT _ hv2).mono ?_
  rintro e W3 ⟨rfl, hb3⟩
  have k13 : W3.cell? ⟨w.heap.size, 0, none⟩ = some (.int .i64 a1) := kept1 k7 hb3
  have k14 : W3.cell? ⟨w.heap.size, 1, none⟩ = some (.int .i64 a2) := kept1 k8 hb3
  have k15 : W3.cell? ⟨w.heap.size + 1, 0, none⟩ = some (.int .i64 b1) := kept1 k9 hb3
  have k16 : W3.cell? ⟨w.heap.size + 1, 1, none⟩ = some (.int .i64 b2) := kept1 k10 hb3
  have k17 : W3.cell? ⟨w.heap.size + 1 + 1, 0, none⟩ = some (.int .i64 c1) := kept1 k11 hb3
  have k18 : W3.cell? ⟨w.heap.size + 1 + 1, 1, none⟩ = some (.int .i64 c2) := kept1 k12 hb3
  have lk13 : w.heap.size < W3.heap.size := block_lt_of_cell k13
  have lk15 : w.heap.size + 1 < W3.heap.size := block_lt_of_cell k15
  have lk17 : w.heap.size + 1 + 1 < W3.heap.size := block_lt_of_cell k17
  have hv3 : Below w.heap.size w W3 := bstep0 hv2 hb3
  clear hb3 hv2 k7 k8 k9 k10 k11 k12 lk7 lk9 lk11
  go_wp2
  go_ret
  exact ⟨by first | rfl | simp, (by repeat (first | with_reducible exact Below.refl _ _ | with_reducible assumption | refine below_drewN ?_ _ | refine Below.drew ?_ | refine Below.alloc ?_ (by first | (simp; done) | (simp; omega) | omega) _ | refine Below.setCell ?_ (by first | (simp; done) | (simp; omega) | omega) _ | refine Below.trans ?_ (Below.mono (by assumption) (by first | (simp; done) | (simp; omega) | omega))))⟩

theorem fadd {A B : Rat} (hA : Rt.Fits A) (hB : Rt.Fits B) {r : Rt.Num} (hr : Rt.fit (A + B) = r) : ∀ W : World,
    Calls Tryd.prog 25 #[.agg #[.int .i64 A.num, .int .i64 (A.den : Int)], .agg #[.int .i64 B.num, .int .i64 (B.den : Int)]] W fun e w' => e = .returned (.tuple #[.agg #[.int .i64 r.n, .int .i64 r.d], .int .i64 r.e]) ∧ Below W.heap.size W w' := fun W => by
  have h := add_ok A.num A.den B.num B.den hA.vld hB.vld W
  rw [Rt.add_mk, hr] at h
  exact h
theorem fsub {A B : Rat} (hA : Rt.Fits A) (hB : Rt.Fits B) {r : Rt.Num} (hr : Rt.fit (A - B) = r) : ∀ W : World,
    Calls Tryd.prog 26 #[.agg #[.int .i64 A.num, .int .i64 (A.den : Int)], .agg #[.int .i64 B.num, .int .i64 (B.den : Int)]] W fun e w' => e = .returned (.tuple #[.agg #[.int .i64 r.n, .int .i64 r.d], .int .i64 r.e]) ∧ Below W.heap.size W w' := fun W => by
  have h := sub_ok A.num A.den B.num B.den hA.vld hB.vld W
  rw [Rt.sub_mk, hr] at h
  exact h
theorem fmul {A B : Rat} (hA : Rt.Fits A) (hB : Rt.Fits B) {r : Rt.Num} (hr : Rt.fit (A * B) = r) : ∀ W : World,
    Calls Tryd.prog 27 #[.agg #[.int .i64 A.num, .int .i64 (A.den : Int)], .agg #[.int .i64 B.num, .int .i64 (B.den : Int)]] W fun e w' => e = .returned (.tuple #[.agg #[.int .i64 r.n, .int .i64 r.d], .int .i64 r.e]) ∧ Below W.heap.size W w' := fun W => by
  have h := mul_ok A.num A.den B.num B.den hA.vld hB.vld W
  rw [Rt.mul_mk, hr] at h
  exact h
theorem fdiv {A B : Rat} (hA : Rt.Fits A) (hB : Rt.Fits B) (hz : B.num ≠ 0) {r : Rt.Num} (hr : Rt.fit (A / B) = r) : ∀ W : World,
    Calls Tryd.prog 28 #[.agg #[.int .i64 A.num, .int .i64 (A.den : Int)], .agg #[.int .i64 B.num, .int .i64 (B.den : Int)]] W fun e w' => e = .returned (.tuple #[.agg #[.int .i64 r.n, .int .i64 r.d], .int .i64 r.e]) ∧ Below W.heap.size W w' := fun W => by
  have h := div_ok A.num A.den B.num B.den hA.vld hB.vld (by rw [beq_eq_false_iff_ne]; exact hz) W
  rw [Rt.div_mk _ _ hz, hr] at h
  exact h

theorem exactField_true (a b c d e f : Int) (_ : I64 a) (_ : I64 b) (_ : I64 c) (_ : I64 d) (_ : I64 e) (_ : I64 f) (w : World) (hT : Tab w.heap.size w) :
    Calls Tryd.prog 11 #[.agg #[.int .i64 a, .int .i64 b], .agg #[.int .i64 c, .int .i64 d], .agg #[.int .i64 e, .int .i64 f]] w fun e w' => e = .returned (.bool true) ∧ Below w.heap.size w w' := by
  replace hT := Lib.hid hT
  obtain ⟨t, ht, _, kt⟩ := valid_both a b
  obtain ⟨u, hu, _, ku⟩ := valid_both c d
  have KW := wrong_any a b c d t u (Lib.hid kt) (Lib.hid ku)
  by_cases hw : Rt.vldP a b ∧ Rt.vldP c d
  case neg =>
    have : (!t || !u) = true := by
      cases t <;> cases u <;> simp_all
    rw [this] at KW
    exact field_out1 a b c d e f (Lib.hid KW) w hT
  obtain ⟨ha, hc⟩ := hw
  rw [ht.1 ha, hu.1 hc] at KW
  replace KW := Lib.hid KW
  by_cases he : Rt.vldP e f
  case neg => exact field_out2 a b c d e f KW (Lib.hid fun W => rvalid_not e f W he) w hT
  have KV := Lib.hid fun W => rvalid_yes e f W he
  clear kt ku ht hu
  obtain ⟨A, hA, rfl, rfl⟩ := Rt.vld_rat ha
  obtain ⟨B, hB, rfl, rfl⟩ := Rt.vld_rat hc
  obtain ⟨C, hC, rfl, rfl⟩ := Rt.vld_rat he
  by_cases hz : B.num = 0
  · have B0 : B = 0 := Rat.num_eq_zero.1 hz
    subst B0
    clear hz ha hc he
    have gab : Rt.Fits (A + 0) := by rw [Rat.add_zero]; exact hA
    have gbc : Rt.Fits (0 + C) := by rw [Rat.zero_add]; exact hC
    have gp : Rt.Fits (A * 0) := by rw [Rat.mul_zero]; exact hB
    have gr : Rt.Fits (0 * C) := by rw [Rat.zero_mul]; exact hB
    by_cases gk : Rt.Fits (A * C)
    · skip
      have H1 := Lib.hid (fadd hA hB (Rt.fit_yes gab))
      have H2 := Lib.hid (fadd hB hA ((congrArg Rt.fit (Rat.add_comm _ _)).trans (Rt.fit_yes gab)))
      have H3 := Lib.hid (fadd hB hC (Rt.fit_yes gbc))
      have S1 := Lib.hid (fsub gab hB ((congrArg Rt.fit Rt.sub_back).trans (Rt.fit_yes hA)))
      have X1 := Lib.hid (fadd gab hC rfl)
      have X2 := Lib.hid (fadd hA gbc (congrArg Rt.fit (Rat.add_assoc _ _ _).symm))
      have M1 := Lib.hid (fmul hA hB (Rt.fit_yes gp))
      have M2 := Lib.hid (fmul hB hA ((congrArg Rt.fit (Rat.mul_comm _ _)).trans (Rt.fit_yes gp)))
      have M3 := Lib.hid (fmul hB hC (Rt.fit_yes gr))
      have U1 := Lib.hid (fmul gp hC rfl)
      have U2 := Lib.hid (fmul hA gr (congrArg Rt.fit (Rat.mul_assoc _ _ _).symm))
      have M4 := Lib.hid (fmul hA hC (Rt.fit_yes gk))
      have T1 := Lib.hid (fmul hA gbc rfl)
      have T2 := Lib.hid (fadd gp gk (congrArg Rt.fit (Rat.mul_add _ _ _).symm))
      exact field_000000 _ _ _ _ _ _ _ _ _ _ _ _ _ _ _ _ _ _ KW KV H1 H2 H3 S1 X1 X2 M1 M2 M3 U1 U2 M4 T1 T2 w hT
    · skip
      have H1 := Lib.hid (fadd hA hB (Rt.fit_yes gab))
      have H2 := Lib.hid (fadd hB hA ((congrArg Rt.fit (Rat.add_comm _ _)).trans (Rt.fit_yes gab)))
      have H3 := Lib.hid (fadd hB hC (Rt.fit_yes gbc))
      have S1 := Lib.hid (fsub gab hB ((congrArg Rt.fit Rt.sub_back).trans (Rt.fit_yes hA)))
      have X1 := Lib.hid (fadd gab hC rfl)
      have X2 := Lib.hid (fadd hA gbc (congrArg Rt.fit (Rat.add_assoc _ _ _).symm))
      have M1 := Lib.hid (fmul hA hB (Rt.fit_yes gp))
      have M2 := Lib.hid (fmul hB hA ((congrArg Rt.fit (Rat.mul_comm _ _)).trans (Rt.fit_yes gp)))
      have M3 := Lib.hid (fmul hB hC (Rt.fit_yes gr))
      have U1 := Lib.hid (fmul gp hC rfl)
      have U2 := Lib.hid (fmul hA gr (congrArg Rt.fit (Rat.mul_assoc _ _ _).symm))
      have M4 := Lib.hid (fmul hA hC (Rt.fit_no gk))
      exact field_000003 _ _ _ _ _ _ _ _ _ _ _ _ _ _ _ KW KV H1 H2 H3 S1 X1 X2 M1 M2 M3 U1 U2 M4 w hT
  · clear ha hc he
    by_cases gab : Rt.Fits (A + B)
    · skip
      by_cases gbc : Rt.Fits (B + C)
      · skip
        by_cases gp : Rt.Fits (A * B)
        · skip
          by_cases gr : Rt.Fits (B * C)
          · skip
            by_cases gk : Rt.Fits (A * C)
            · skip
              have H1 := Lib.hid (fadd hA hB (Rt.fit_yes gab))
              have H2 := Lib.hid (fadd hB hA ((congrArg Rt.fit (Rat.add_comm _ _)).trans (Rt.fit_yes gab)))
              have H3 := Lib.hid (fadd hB hC (Rt.fit_yes gbc))
              have S1 := Lib.hid (fsub gab hB ((congrArg Rt.fit Rt.sub_back).trans (Rt.fit_yes hA)))
              have X1 := Lib.hid (fadd gab hC rfl)
              have X2 := Lib.hid (fadd hA gbc (congrArg Rt.fit (Rat.add_assoc _ _ _).symm))
              have M1 := Lib.hid (fmul hA hB (Rt.fit_yes gp))
              have M2 := Lib.hid (fmul hB hA ((congrArg Rt.fit (Rat.mul_comm _ _)).trans (Rt.fit_yes gp)))
              have D1 := Lib.hid (fdiv gp hB hz ((congrArg Rt.fit (Rt.div_back hz)).trans (Rt.fit_yes hA)))
              have M3 := Lib.hid (fmul hB hC (Rt.fit_yes gr))
              have U1 := Lib.hid (fmul gp hC rfl)
              have U2 := Lib.hid (fmul hA gr (congrArg Rt.fit (Rat.mul_assoc _ _ _).symm))
              have M4 := Lib.hid (fmul hA hC (Rt.fit_yes gk))
              have T1 := Lib.hid (fmul hA gbc rfl)
              have T2 := Lib.hid (fadd gp gk (congrArg Rt.fit (Rat.mul_add _ _ _).symm))
              exact field_000100 _ _ _ _ _ _ _ _ _ _ _ _ _ _ _ _ _ _ _ KW KV H1 H2 H3 S1 X1 X2 M1 M2 hz D1 M3 U1 U2 M4 T1 T2 w hT
            · skip
              have H1 := Lib.hid (fadd hA hB (Rt.fit_yes gab))
              have H2 := Lib.hid (fadd hB hA ((congrArg Rt.fit (Rat.add_comm _ _)).trans (Rt.fit_yes gab)))
              have H3 := Lib.hid (fadd hB hC (Rt.fit_yes gbc))
              have S1 := Lib.hid (fsub gab hB ((congrArg Rt.fit Rt.sub_back).trans (Rt.fit_yes hA)))
              have X1 := Lib.hid (fadd gab hC rfl)
              have X2 := Lib.hid (fadd hA gbc (congrArg Rt.fit (Rat.add_assoc _ _ _).symm))
              have M1 := Lib.hid (fmul hA hB (Rt.fit_yes gp))
              have M2 := Lib.hid (fmul hB hA ((congrArg Rt.fit (Rat.mul_comm _ _)).trans (Rt.fit_yes gp)))
              have D1 := Lib.hid (fdiv gp hB hz ((congrArg Rt.fit (Rt.div_back hz)).trans (Rt.fit_yes hA)))
              have M3 := Lib.hid (fmul hB hC (Rt.fit_yes gr))
              have U1 := Lib.hid (fmul gp hC rfl)
              have U2 := Lib.hid (fmul hA gr (congrArg Rt.fit (Rat.mul_assoc _ _ _).symm))
              have M4 := Lib.hid (fmul hA hC (Rt.fit_no gk))
              exact field_000103 _ _ _ _ _ _ _ _ _ _ _ _ _ _ _ _ KW KV H1 H2 H3 S1 X1 X2 M1 M2 hz D1 M3 U1 U2 M4 w hT
          · skip
            by_cases gk : Rt.Fits (A * C)
            · skip
              have H1 := Lib.hid (fadd hA hB (Rt.fit_yes gab))
              have H2 := Lib.hid (fadd hB hA ((congrArg Rt.fit (Rat.add_comm _ _)).trans (Rt.fit_yes gab)))
              have H3 := Lib.hid (fadd hB hC (Rt.fit_yes gbc))
              have S1 := Lib.hid (fsub gab hB ((congrArg Rt.fit Rt.sub_back).trans (Rt.fit_yes hA)))
              have X1 := Lib.hid (fadd gab hC rfl)
              have X2 := Lib.hid (fadd hA gbc (congrArg Rt.fit (Rat.add_assoc _ _ _).symm))
              have M1 := Lib.hid (fmul hA hB (Rt.fit_yes gp))
              have M2 := Lib.hid (fmul hB hA ((congrArg Rt.fit (Rat.mul_comm _ _)).trans (Rt.fit_yes gp)))
              have D1 := Lib.hid (fdiv gp hB hz ((congrArg Rt.fit (Rt.div_back hz)).trans (Rt.fit_yes hA)))
              have M3 := Lib.hid (fmul hB hC (Rt.fit_no gr))
              have M4 := Lib.hid (fmul hA hC (Rt.fit_yes gk))
              have T1 := Lib.hid (fmul hA gbc rfl)
              have T2 := Lib.hid (fadd gp gk (congrArg Rt.fit (Rat.mul_add _ _ _).symm))
              exact field_000130 _ _ _ _ _ _ _ _ _ _ _ _ _ _ _ _ KW KV H1 H2 H3 S1 X1 X2 M1 M2 hz D1 M3 M4 T1 T2 w hT
            · skip
              have H1 := Lib.hid (fadd hA hB (Rt.fit_yes gab))
              have H2 := Lib.hid (fadd hB hA ((congrArg Rt.fit (Rat.add_comm _ _)).trans (Rt.fit_yes gab)))
              have H3 := Lib.hid (fadd hB hC (Rt.fit_yes gbc))
              have S1 := Lib.hid (fsub gab hB ((congrArg Rt.fit Rt.sub_back).trans (Rt.fit_yes hA)))
              have X1 := Lib.hid (fadd gab hC rfl)
              have X2 := Lib.hid (fadd hA gbc (congrArg Rt.fit (Rat.add_assoc _ _ _).symm))
              have M1 := Lib.hid (fmul hA hB (Rt.fit_yes gp))
              have M2 := Lib.hid (fmul hB hA ((congrArg Rt.fit (Rat.mul_comm _ _)).trans (Rt.fit_yes gp)))
              have D1 := Lib.hid (fdiv gp hB hz ((congrArg Rt.fit (Rt.div_back hz)).trans (Rt.fit_yes hA)))
              have M3 := Lib.hid (fmul hB hC (Rt.fit_no gr))
              have M4 := Lib.hid (fmul hA hC (Rt.fit_no gk))
              exact field_000133 _ _ _ _ _ _ _ _ _ _ _ _ _ KW KV H1 H2 H3 S1 X1 X2 M1 M2 hz D1 M3 M4 w hT
        · skip
          have H1 := Lib.hid (fadd hA hB (Rt.fit_yes gab))
          have H2 := Lib.hid (fadd hB hA ((congrArg Rt.fit (Rat.add_comm _ _)).trans (Rt.fit_yes gab)))
          have H3 := Lib.hid (fadd hB hC (Rt.fit_yes gbc))
          have S1 := Lib.hid (fsub gab hB ((congrArg Rt.fit Rt.sub_back).trans (Rt.fit_yes hA)))
          have X1 := Lib.hid (fadd gab hC rfl)
          have X2 := Lib.hid (fadd hA gbc (congrArg Rt.fit (Rat.add_assoc _ _ _).symm))
          have M1 := Lib.hid (fmul hA hB (Rt.fit_no gp))
          have M2 := Lib.hid (fmul hB hA ((congrArg Rt.fit (Rat.mul_comm _ _)).trans (Rt.fit_no gp)))
          have M3 := Lib.hid (fmul hB hC rfl)
          have M4 := Lib.hid (fmul hA hC rfl)
          exact field_0031qq _ _ _ _ _ _ _ _ _ _ _ _ _ KW KV H1 H2 H3 S1 X1 X2 M1 M2 M3 M4 w hT
      · skip
        by_cases gp : Rt.Fits (A * B)
        · skip
          by_cases gr : Rt.Fits (B * C)
          · skip
            have H1 := Lib.hid (fadd hA hB (Rt.fit_yes gab))
            have H2 := Lib.hid (fadd hB hA ((congrArg Rt.fit (Rat.add_comm _ _)).trans (Rt.fit_yes gab)))
            have H3 := Lib.hid (fadd hB hC (Rt.fit_no gbc))
            have S1 := Lib.hid (fsub gab hB ((congrArg Rt.fit Rt.sub_back).trans (Rt.fit_yes hA)))
            have M1 := Lib.hid (fmul hA hB (Rt.fit_yes gp))
            have M2 := Lib.hid (fmul hB hA ((congrArg Rt.fit (Rat.mul_comm _ _)).trans (Rt.fit_yes gp)))
            have D1 := Lib.hid (fdiv gp hB hz ((congrArg Rt.fit (Rt.div_back hz)).trans (Rt.fit_yes hA)))
            have M3 := Lib.hid (fmul hB hC (Rt.fit_yes gr))
            have U1 := Lib.hid (fmul gp hC rfl)
            have U2 := Lib.hid (fmul hA gr (congrArg Rt.fit (Rat.mul_assoc _ _ _).symm))
            have M4 := Lib.hid (fmul hA hC rfl)
            exact field_03010q _ _ _ _ _ _ _ _ _ _ _ _ _ _ KW KV H1 H2 H3 S1 M1 M2 hz D1 M3 U1 U2 M4 w hT
          · skip
            have H1 := Lib.hid (fadd hA hB (Rt.fit_yes gab))
            have H2 := Lib.hid (fadd hB hA ((congrArg Rt.fit (Rat.add_comm _ _)).trans (Rt.fit_yes gab)))
            have H3 := Lib.hid (fadd hB hC (Rt.fit_no gbc))
            have S1 := Lib.hid (fsub gab hB ((congrArg Rt.fit Rt.sub_back).trans (Rt.fit_yes hA)))
            have M1 := Lib.hid (fmul hA hB (Rt.fit_yes gp))
            have M2 := Lib.hid (fmul hB hA ((congrArg Rt.fit (Rat.mul_comm _ _)).trans (Rt.fit_yes gp)))
            have D1 := Lib.hid (fdiv gp hB hz ((congrArg Rt.fit (Rt.div_back hz)).trans (Rt.fit_yes hA)))
            have M3 := Lib.hid (fmul hB hC (Rt.fit_no gr))
            have M4 := Lib.hid (fmul hA hC rfl)
            exact field_03013q _ _ _ _ _ _ _ _ _ _ _ KW KV H1 H2 H3 S1 M1 M2 hz D1 M3 M4 w hT
        · skip
          have H1 := Lib.hid (fadd hA hB (Rt.fit_yes gab))
          have H2 := Lib.hid (fadd hB hA ((congrArg Rt.fit (Rat.add_comm _ _)).trans (Rt.fit_yes gab)))
          have H3 := Lib.hid (fadd hB hC (Rt.fit_no gbc))
          have S1 := Lib.hid (fsub gab hB ((congrArg Rt.fit Rt.sub_back).trans (Rt.fit_yes hA)))
          have M1 := Lib.hid (fmul hA hB (Rt.fit_no gp))
          have M2 := Lib.hid (fmul hB hA ((congrArg Rt.fit (Rat.mul_comm _ _)).trans (Rt.fit_no gp)))
          have M3 := Lib.hid (fmul hB hC rfl)
          have M4 := Lib.hid (fmul hA hC rfl)
          exact field_0331qq _ _ _ _ _ _ _ _ _ _ KW KV H1 H2 H3 S1 M1 M2 M3 M4 w hT
    · skip
      by_cases gbc : Rt.Fits (B + C)
      · skip
        by_cases gp : Rt.Fits (A * B)
        · skip
          by_cases gr : Rt.Fits (B * C)
          · skip
            by_cases gk : Rt.Fits (A * C)
            · skip
              have H1 := Lib.hid (fadd hA hB (Rt.fit_no gab))
              have H2 := Lib.hid (fadd hB hA ((congrArg Rt.fit (Rat.add_comm _ _)).trans (Rt.fit_no gab)))
              have H3 := Lib.hid (fadd hB hC (Rt.fit_yes gbc))
              have M1 := Lib.hid (fmul hA hB (Rt.fit_yes gp))
              have M2 := Lib.hid (fmul hB hA ((congrArg Rt.fit (Rat.mul_comm _ _)).trans (Rt.fit_yes gp)))
              have D1 := Lib.hid (fdiv gp hB hz ((congrArg Rt.fit (Rt.div_back hz)).trans (Rt.fit_yes hA)))
              have M3 := Lib.hid (fmul hB hC (Rt.fit_yes gr))
              have U1 := Lib.hid (fmul gp hC rfl)
              have U2 := Lib.hid (fmul hA gr (congrArg Rt.fit (Rat.mul_assoc _ _ _).symm))
              have M4 := Lib.hid (fmul hA hC (Rt.fit_yes gk))
              have T1 := Lib.hid (fmul hA gbc rfl)
              have T2 := Lib.hid (fadd gp gk (congrArg Rt.fit (Rat.mul_add _ _ _).symm))
              exact field_300100 _ _ _ _ _ _ _ _ _ _ _ _ _ _ _ _ KW KV H1 H2 H3 M1 M2 hz D1 M3 U1 U2 M4 T1 T2 w hT
            · skip
              have H1 := Lib.hid (fadd hA hB (Rt.fit_no gab))
              have H2 := Lib.hid (fadd hB hA ((congrArg Rt.fit (Rat.add_comm _ _)).trans (Rt.fit_no gab)))
              have H3 := Lib.hid (fadd hB hC (Rt.fit_yes gbc))
              have M1 := Lib.hid (fmul hA hB (Rt.fit_yes gp))
              have M2 := Lib.hid (fmul hB hA ((congrArg Rt.fit (Rat.mul_comm _ _)).trans (Rt.fit_yes gp)))
              have D1 := Lib.hid (fdiv gp hB hz ((congrArg Rt.fit (Rt.div_back hz)).trans (Rt.fit_yes hA)))
              have M3 := Lib.hid (fmul hB hC (Rt.fit_yes gr))
              have U1 := Lib.hid (fmul gp hC rfl)
              have U2 := Lib.hid (fmul hA gr (congrArg Rt.fit (Rat.mul_assoc _ _ _).symm))
              have M4 := Lib.hid (fmul hA hC (Rt.fit_no gk))
              exact field_300103 _ _ _ _ _ _ _ _ _ _ _ _ _ KW KV H1 H2 H3 M1 M2 hz D1 M3 U1 U2 M4 w hT
          · skip
            by_cases gk : Rt.Fits (A * C)
            · skip
              have H1 := Lib.hid (fadd hA hB (Rt.fit_no gab))
              have H2 := Lib.hid (fadd hB hA ((congrArg Rt.fit (Rat.add_comm _ _)).trans (Rt.fit_no gab)))
              have H3 := Lib.hid (fadd hB hC (Rt.fit_yes gbc))
              have M1 := Lib.hid (fmul hA hB (Rt.fit_yes gp))
              have M2 := Lib.hid (fmul hB hA ((congrArg Rt.fit (Rat.mul_comm _ _)).trans (Rt.fit_yes gp)))
              have D1 := Lib.hid (fdiv gp hB hz ((congrArg Rt.fit (Rt.div_back hz)).trans (Rt.fit_yes hA)))
              have M3 := Lib.hid (fmul hB hC (Rt.fit_no gr))
              have M4 := Lib.hid (fmul hA hC (Rt.fit_yes gk))
              have T1 := Lib.hid (fmul hA gbc rfl)
              have T2 := Lib.hid (fadd gp gk (congrArg Rt.fit (Rat.mul_add _ _ _).symm))
              exact field_300130 _ _ _ _ _ _ _ _ _ _ _ _ _ KW KV H1 H2 H3 M1 M2 hz D1 M3 M4 T1 T2 w hT
            · skip
              have H1 := Lib.hid (fadd hA hB (Rt.fit_no gab))
              have H2 := Lib.hid (fadd hB hA ((congrArg Rt.fit (Rat.add_comm _ _)).trans (Rt.fit_no gab)))
              have H3 := Lib.hid (fadd hB hC (Rt.fit_yes gbc))
              have M1 := Lib.hid (fmul hA hB (Rt.fit_yes gp))
              have M2 := Lib.hid (fmul hB hA ((congrArg Rt.fit (Rat.mul_comm _ _)).trans (Rt.fit_yes gp)))
              have D1 := Lib.hid (fdiv gp hB hz ((congrArg Rt.fit (Rt.div_back hz)).trans (Rt.fit_yes hA)))
              have M3 := Lib.hid (fmul hB hC (Rt.fit_no gr))
              have M4 := Lib.hid (fmul hA hC (Rt.fit_no gk))
              exact field_300133 _ _ _ _ _ _ _ _ _ _ KW KV H1 H2 H3 M1 M2 hz D1 M3 M4 w hT
        · skip
          have H1 := Lib.hid (fadd hA hB (Rt.fit_no gab))
          have H2 := Lib.hid (fadd hB hA ((congrArg Rt.fit (Rat.add_comm _ _)).trans (Rt.fit_no gab)))
          have H3 := Lib.hid (fadd hB hC (Rt.fit_yes gbc))
          have M1 := Lib.hid (fmul hA hB (Rt.fit_no gp))
          have M2 := Lib.hid (fmul hB hA ((congrArg Rt.fit (Rat.mul_comm _ _)).trans (Rt.fit_no gp)))
          have M3 := Lib.hid (fmul hB hC rfl)
          have M4 := Lib.hid (fmul hA hC rfl)
          exact field_3031qq _ _ _ _ _ _ _ _ _ _ KW KV H1 H2 H3 M1 M2 M3 M4 w hT
      · skip
        by_cases gp : Rt.Fits (A * B)
        · skip
          by_cases gr : Rt.Fits (B * C)
          · skip
            have H1 := Lib.hid (fadd hA hB (Rt.fit_no gab))
            have H2 := Lib.hid (fadd hB hA ((congrArg Rt.fit (Rat.add_comm _ _)).trans (Rt.fit_no gab)))
            have H3 := Lib.hid (fadd hB hC (Rt.fit_no gbc))
            have M1 := Lib.hid (fmul hA hB (Rt.fit_yes gp))
            have M2 := Lib.hid (fmul hB hA ((congrArg Rt.fit (Rat.mul_comm _ _)).trans (Rt.fit_yes gp)))
            have D1 := Lib.hid (fdiv gp hB hz ((congrArg Rt.fit (Rt.div_back hz)).trans (Rt.fit_yes hA)))
            have M3 := Lib.hid (fmul hB hC (Rt.fit_yes gr))
            have U1 := Lib.hid (fmul gp hC rfl)
            have U2 := Lib.hid (fmul hA gr (congrArg Rt.fit (Rat.mul_assoc _ _ _).symm))
            have M4 := Lib.hid (fmul hA hC rfl)
            exact field_33010q _ _ _ _ _ _ _ _ _ _ _ _ KW KV H1 H2 H3 M1 M2 hz D1 M3 U1 U2 M4 w hT
          · skip
            have H1 := Lib.hid (fadd hA hB (Rt.fit_no gab))
            have H2 := Lib.hid (fadd hB hA ((congrArg Rt.fit (Rat.add_comm _ _)).trans (Rt.fit_no gab)))
            have H3 := Lib.hid (fadd hB hC (Rt.fit_no gbc))
            have M1 := Lib.hid (fmul hA hB (Rt.fit_yes gp))
            have M2 := Lib.hid (fmul hB hA ((congrArg Rt.fit (Rat.mul_comm _ _)).trans (Rt.fit_yes gp)))
            have D1 := Lib.hid (fdiv gp hB hz ((congrArg Rt.fit (Rt.div_back hz)).trans (Rt.fit_yes hA)))
            have M3 := Lib.hid (fmul hB hC (Rt.fit_no gr))
            have M4 := Lib.hid (fmul hA hC rfl)
            exact field_33013q _ _ _ _ _ _ _ _ _ KW KV H1 H2 H3 M1 M2 hz D1 M3 M4 w hT
        · skip
          have H1 := Lib.hid (fadd hA hB (Rt.fit_no gab))
          have H2 := Lib.hid (fadd hB hA ((congrArg Rt.fit (Rat.add_comm _ _)).trans (Rt.fit_no gab)))
          have H3 := Lib.hid (fadd hB hC (Rt.fit_no gbc))
          have M1 := Lib.hid (fmul hA hB (Rt.fit_no gp))
          have M2 := Lib.hid (fmul hB hA ((congrArg Rt.fit (Rat.mul_comm _ _)).trans (Rt.fit_no gp)))
          have M3 := Lib.hid (fmul hB hC rfl)
          have M4 := Lib.hid (fmul hA hC rfl)
          exact field_3331qq _ _ _ _ _ _ _ _ KW KV H1 H2 H3 M1 M2 M3 M4 w hT
end Go.Proofs.YtpbomeoonknifaaDoor
