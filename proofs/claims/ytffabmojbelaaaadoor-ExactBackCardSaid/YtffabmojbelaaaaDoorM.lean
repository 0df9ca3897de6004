/- The contract of Expand of package exact. -/
import Derived.Test.YtffabmojbelaaaaDoorL
import Derived.Test.YtffabmojbelaaaaDoorShelf
namespace Go.Proofs.YtffabmojbelaaaaDoor
open Go.RowKit Go.Shelf

theorem owns_base {w : World} {base base' : Nat} {e : TypeId} {size : Nat} {v : Value} {n : Nat} {xs : List Value} (h : w.ownsRow base e size v n xs) (hb : base' ≤ base) : w.ownsRow base' e size v n xs := by
  obtain ⟨h1, h2⟩ := h
  refine ⟨h1, ?_⟩
  rcases h2 with h2 | ⟨g, cap, cur, h3, h4, h5⟩
  · exact .inl h2
  · exact .inr ⟨g, cap, cur, h3, Nat.le_trans hb h4, h5⟩

theorem collect_any (a b : Int) (hv : Rt.vldP a b) (B : Nat) (w : World) (hB : B < w.heap.size) (c0 : w.cell? ⟨B, 0, none⟩ = some (.int .i64 a)) (c1 : w.cell? ⟨B, 1, none⟩ = some (.int .i64 b)) :
    Calls Tryd.prog 93 #[.func (.func 114) #[] #[.pointer (some ⟨B, 0, none⟩)]] w fun e w' =>
      ∃ v, e = .returned v ∧ w'.ownsRow w.heap.size 3 1 v (Rt.cf a b).length ((Rt.cf a b).map (Value.int .i64)) ∧ Below w.heap.size w w' := by
  refine callsIn_wide.1 ((AnyZI.collect_in Tryd.col93 Fence.wide 5 trivial trivial rfl (by omega) 114 #[.pointer (some ⟨B, 0, none⟩)] trivial (enters_of Tryd.func114 (by kernel_rfl) rfl) (fun xs => xs = Rt.cf a b) 50 (by decide) (by decide) w
    (terms_stops 3 (by omega) B a b hv w hB c0 c1).gives).mono ?_)
  rintro e w' ⟨v, ss, rfl, rfl, hr, _, hb⟩
  exact ⟨v, rfl, hr, hb⟩

set_option maxHeartbeats 400000 in
theorem expand_bad (a b : Int) (h : ¬ Rt.vldP a b) (w : World) :
    Calls Tryd.prog 44 #[.agg #[.int .i64 a, .int .i64 b]] w fun e w' => e = .returned (.tuple #[.slice none 0 0, .int .i64 1]) ∧ Below w.heap.size w w' := by
  replace h := Lib.hid h
  go_enter Tryd.func44, Tryd.ntmps44
  go_wp2_with fail
  refine (valid_not a b _ h.out).mono ?_
  rintro e w1 ⟨rfl, hb1⟩
  have hz1 := hb1.size
  go_wp2
  go_ret2
  exact ⟨rfl, (by repeat (first | with_reducible exact Below.refl _ _ | with_reducible assumption | refine below_drewN ?_ _ | refine Below.drew ?_ | refine Below.alloc ?_ (by first | (simp; done) | (simp; omega) | omega) _ | refine Below.setCell ?_ (by first | (simp; done) | (simp; omega) | omega) _ | refine Below.trans ?_ (Below.mono (by assumption) (by first | (simp; done) | (simp; omega) | omega))))⟩

set_option maxHeartbeats 400000 in
theorem expand_ok (a b : Int) (h : Rt.vldP a b) (w : World) :
    Calls Tryd.prog 44 #[.agg #[.int .i64 a, .int .i64 b]] w fun e w' => ∃ v, e = .returned (.tuple #[v, .int .i64 0]) ∧ w'.ownsRow w.heap.size 3 1 v (Rt.cf a b).length ((Rt.cf a b).map (Value.int .i64)) ∧ Below w.heap.size w w' := by
  replace h := Lib.hid h
  go_enter Tryd.func44, Tryd.ntmps44
  go_wp2_with fail
  refine (valid_yes a b _ h.out).mono ?_
  rintro e w1 ⟨rfl, hb1⟩
  have hz_hb1 := hb1.size
  try simp at hz_hb1
  have hb1_0_k0 : w1.cell? ⟨w.heap.size, 0, none⟩ = some (.int .i64 a) := (hb1.cell (p := ⟨w.heap.size, 0, none⟩) (by first | (simp; done) | (simp; omega) | omega)).trans (by first | assumption | (simp [go_sem]; done) | simp [go_sem, *])
  have hb1_0_k1 : w1.cell? ⟨w.heap.size, 1, none⟩ = some (.int .i64 b) := (hb1.cell (p := ⟨w.heap.size, 1, none⟩) (by first | (simp; done) | (simp; omega) | omega)).trans (by first | assumption | (simp [go_sem]; done) | simp [go_sem, *])
  have hb1_0_f : ∀ o, w1.frozen? ⟨w.heap.size, o, none⟩ = false := fun o => (hb1.frozen (p := ⟨w.heap.size, o, none⟩) (by first | (simp; done) | (simp; omega) | omega)).trans (by first | assumption | (simp [go_sem]; done) | simp [go_sem, *])
  have hb1_0_lt : w.heap.size < w1.heap.size := Nat.lt_of_lt_of_le (m := _) (by first | (simp; done) | (simp; omega) | omega) hb1.size
  go_wp2_with fail
  refine (terms_any a b _).mono ?_
  rintro e w2 ⟨rfl, hw2⟩
  subst hw2
  go_wp2_with fail
  refine (collect_any a b h.out _ _ (by first | (simp; done) | (simp; omega) | omega) (by simp [go_sem]) (by simp [go_sem])).mono ?_
  rintro e w3 ⟨v, rfl, hr, hb3⟩
  have hz3 := hb3.size
  go_wp2
  go_ret2
  exact ⟨_, rfl, owns_base hr (by first | (simp; done) | (simp; omega) | omega), (by repeat (first | with_reducible exact Below.refl _ _ | with_reducible assumption | refine below_drewN ?_ _ | refine Below.drew ?_ | refine Below.alloc ?_ (by first | (simp; done) | (simp; omega) | omega) _ | refine Below.setCell ?_ (by first | (simp; done) | (simp; omega) | omega) _ | refine Below.trans ?_ (Below.mono (by assumption) (by first | (simp; done) | (simp; omega) | omega))))⟩
end Go.Proofs.YtffabmojbelaaaaDoor
