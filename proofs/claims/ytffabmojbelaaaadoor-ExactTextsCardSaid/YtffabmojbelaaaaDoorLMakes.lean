/- The law ExactMakes: it returns true. -/
import Derived.Test.YtffabmojbelaaaaDoorSn
import Derived.Test.YtffabmojbelaaaaDoorKp
import Derived.Test.YtffabmojbelaaaaDoorY
namespace Go.Proofs.YtffabmojbelaaaaDoor
open Go.RowKit Go.Shelf

/-- whether a number is valid: what package exact and the specification say alike -/
theorem valid_both (a b : Int) : ∃ t : Bool, (Rt.vldP a b ↔ t = true) ∧ (∀ W : World, Calls Tryd.prog 21 #[.agg #[.int .i64 a, .int .i64 b]] W fun e w' => e = .returned (.bool t) ∧ Below W.heap.size W w') ∧
    (∀ W : World, Calls Tryd.prog 22 #[.agg #[.int .i64 a, .int .i64 b]] W fun e w' => e = .returned (.bool t) ∧ Below W.heap.size W w') := by
  by_cases h : Rt.vldP a b
  · exact ⟨true, by simp [h], fun W => valid_yes a b W h, fun W => rvalid_yes a b W h⟩
  · exact ⟨false, by simp [h], fun W => valid_not a b W h, fun W => rvalid_not a b W h⟩

set_option maxRecDepth 100000 in
set_option maxHeartbeats 1000000 in
theorem exactMakes_true (a0 a1 a2 b2 : Int) (w0 : I64 a0) (w1 : I64 a1) (_ : I64 a2) (_ : I64 b2) (w : World) (hT : Tab w.heap.size w) :
    Calls Tryd.prog 3 #[.int .i64 a0, .int .i64 a1, .agg #[.int .i64 a2, .int .i64 b2]] w fun e w' => e = .returned (.bool true) ∧ Below w.heap.size w w' := by
  obtain ⟨p0, p1⟩ := w0
  obtain ⟨p2, p3⟩ := w1

  replace hT := Lib.hid hT
  obtain ⟨r, hr⟩ : ∃ r, Rt.mk a0 a1 = r := ⟨_, rfl⟩
  replace hr := Lib.hid hr
  obtain ⟨t, _, h1, h2⟩ := valid_both a2 b2
  replace h1 := Lib.hid h1
  replace h2 := Lib.hid h2
  go_enter Tryd.func3, Tryd.ntmps3
  go_wp2_with fail
  refine (make_any a0 a1 p0 p1 p2 p3 _).mono ?_
  rintro e W1 ⟨he, hb1⟩
  rw [hr.out, numV_eq] at he
  subst he
  have hz_hb1 := hb1.size
  try simp at hz_hb1
  have hb1_0_k0 : W1.cell? ⟨w.heap.size, 0, none⟩ = some (.int .i64 a2) := (hb1.cell (p := ⟨w.heap.size, 0, none⟩) (by first | (simp; done) | (simp; omega) | omega)).trans (by first | assumption | (simp [go_sem]; done) | simp [go_sem, *])
  have hb1_0_k1 : W1.cell? ⟨w.heap.size, 1, none⟩ = some (.int .i64 b2) := (hb1.cell (p := ⟨w.heap.size, 1, none⟩) (by first | (simp; done) | (simp; omega) | omega)).trans (by first | assumption | (simp [go_sem]; done) | simp [go_sem, *])
  have hb1_0_f : ∀ o, W1.frozen? ⟨w.heap.size, o, none⟩ = false := fun o => (hb1.frozen (p := ⟨w.heap.size, o, none⟩) (by first | (simp; done) | (simp; omega) | omega)).trans (by first | assumption | (simp [go_sem]; done) | simp [go_sem, *])
  have hb1_0_lt : w.heap.size < W1.heap.size := Nat.lt_of_lt_of_le (m := _) (by first | (simp; done) | (simp; omega) | omega) hb1.size
  have hv1 : Below w.heap.size w W1 := (by repeat (first | with_reducible exact Below.refl _ _ | with_reducible assumption | refine below_drewN ?_ _ | refine Below.drew ?_ | refine Below.alloc ?_ (by first | (simp; done) | (simp; omega) | omega) _ | refine Below.setCell ?_ (by first | (simp; done) | (simp; omega) | omega) _ | refine Below.trans ?_ (Below.mono (by assumption) (by first | (simp; done) | (simp; omega) | omega))))
  have L1 : w.heap.size < W1.heap.size + 1 := by omega
  go_wp2_with fail
  generalize hW : W1.alloc (Obj.cells #[.int .i64 r.n, .int .i64 r.d] 23) = W2
  have hb2 : Below W1.heap.size W1 W2 := by rw [← hW]; exact (by repeat (first | with_reducible exact Below.refl _ _ | with_reducible assumption | refine below_drewN ?_ _ | refine Below.drew ?_ | refine Below.alloc ?_ (by first | (simp; done) | (simp; omega) | omega) _ | refine Below.setCell ?_ (by first | (simp; done) | (simp; omega) | omega) _ | refine Below.trans ?_ (Below.mono (by assumption) (by first | (simp; done) | (simp; omega) | omega))))
  have hv2 : Below w.heap.size w W2 := by rw [← hW]; exact (by repeat (first | with_reducible exact Below.refl _ _ | with_reducible assumption | refine below_drewN ?_ _ | refine Below.drew ?_ | refine Below.alloc ?_ (by first | (simp; done) | (simp; omega) | omega) _ | refine Below.setCell ?_ (by first | (simp; done) | (simp; omega) | omega) _ | refine Below.trans ?_ (Below.mono (by assumption) (by first | (simp; done) | (simp; omega) | omega))))
  have c0 : W2.cell? ⟨W1.heap.size, 0, none⟩ = some (.int .i64 r.n) := by rw [← hW]; simp [go_sem]
  have c1 : W2.cell? ⟨W1.heap.size, 1, none⟩ = some (.int .i64 r.d) := by rw [← hW]; simp [go_sem]
  have c2 : W2.cell? ⟨w.heap.size, 0, none⟩ = some (.int .i64 a2) := kept1 hb1_0_k0 hb2
  have c3 : W2.cell? ⟨w.heap.size, 1, none⟩ = some (.int .i64 b2) := kept1 hb1_0_k1 hb2
  have hT2 : Hid (Tab W2.drew.heap.size W2.drew) := Lib.hid (Lib.tabBelow_of_tabIs (hT.out.on hv2.drew).here)
  clear hW hb1 hb1_0_k0 hb1_0_k1 hb1_0_f hb2 hv1 hT
  have S0 : W2.drew.cell? ⟨W1.heap.size, 0, none⟩ = some (.int .i64 r.n) ∧ W2.drew.cell? ⟨W1.heap.size, 1, none⟩ = some (.int .i64 r.d) ∧ W2.drew.cell? ⟨w.heap.size, 0, none⟩ = some (.int .i64 a2) ∧ W2.drew.cell? ⟨w.heap.size, 1, none⟩ = some (.int .i64 b2) ∧ Below w.heap.size w W2.drew := ⟨by assumption, by assumption, by assumption, by assumption, hv2.drew⟩
  go_region_held3 (fun w' => w'.cell? ⟨W1.heap.size, 0, none⟩ = some (.int .i64 r.n) ∧ w'.cell? ⟨W1.heap.size, 1, none⟩ = some (.int .i64 r.d) ∧ w'.cell? ⟨w.heap.size, 0, none⟩ = some (.int .i64 a2) ∧ w'.cell? ⟨w.heap.size, 1, none⟩ = some (.int .i64 b2) ∧ Below w.heap.size w w')
    (first | exact S0 | exact keep4 (by assumption) hbp | exact keep4 (by assumption) (drewN_below _) | exact keep4 (by assumption) (by repeat (first | with_reducible exact Below.refl _ _ | with_reducible assumption | refine below_drewN ?_ _ | refine Below.drew ?_ | refine Below.alloc ?_ (by first | (simp; done) | (simp; omega) | omega) _ | refine Below.setCell ?_ (by first | (simp; done) | (simp; omega) | omega) _ | refine Below.trans ?_ (Below.mono (by assumption) (by first | (simp; done) | (simp; omega) | omega)))) | go_keep)
    (first
      | (go_at_call 18
         refine (sanity_any _ hT2).mono ?_
         rintro e wp ⟨he, hbp⟩
         subst he)
      | (go_at_call 20
         refine (rmake_any a0 a1 p0 p1 p2 p3 _).mono ?_
         rintro e wp ⟨he, hbp⟩
         rw [hr.out, refV_eq] at he
         subst he)
      | (go_at_call 19
         refine (is_yes _ _ _ _).mono ?_
         rintro e wp ⟨he, hbp⟩
         subst he)
      | (go_at_call 21
         refine (h1.out _).mono ?_
         rintro e wp ⟨he, hbp⟩
         subst he)
      | (go_at_call 22
         refine (h2.out _).mono ?_
         rintro e wp ⟨he, hbp⟩
         subst he))
  all_goals
    go_split_ands
    go_wp2
    go_ret
    exact ⟨by simp, by assumption⟩
end Go.Proofs.YtffabmojbelaaaaDoor
