/- sanity in a later world; wrong. -/
import Derived.Test.YtffabmojbelaaaaDoorLMakes
import Derived.Test.YtffabmojbelaaaaDoorKq
namespace Go.Proofs.YtffabmojbelaaaaDoor
open Go.RowKit Go.Shelf

theorem sanity_tab {w0 : World} (hT : Hid (Tab w0.heap.size w0)) (W : World) (hb : Below w0.heap.size w0 W) : Calls Tryd.prog 18 #[] W fun e w' => e = .returned (.bool true) ∧ Below W.heap.size W w' :=
  sanity_any W (Lib.hid (Lib.tabBelow_of_tabIs (hT.out.on hb).here))

set_option maxHeartbeats 400000 in
theorem wrong_any (a b c d : Int) (t u : Bool) (h1 : Hid (∀ W : World, Calls Tryd.prog 22 #[.agg #[.int .i64 a, .int .i64 b]] W fun e w' => e = .returned (.bool t) ∧ Below W.heap.size W w'))
    (h2 : Hid (∀ W : World, Calls Tryd.prog 22 #[.agg #[.int .i64 c, .int .i64 d]] W fun e w' => e = .returned (.bool u) ∧ Below W.heap.size W w')) (w : World) :
    Calls Tryd.prog 31 #[.agg #[.int .i64 a, .int .i64 b], .agg #[.int .i64 c, .int .i64 d]] w fun e w' => e = .returned (.bool (!t || !u)) ∧ Below w.heap.size w w' := by
  cases t
  · go_enter Tryd.func31, Tryd.ntmps31
    go_wp2_with fail
    refine (h1.out _).mono ?_
    rintro e w1 ⟨rfl, hb1⟩
    have hz1 := hb1.size
    go_wp2
    go_ret
    exact ⟨by simp, (by repeat (first | with_reducible exact Below.refl _ _ | with_reducible assumption | refine below_drewN ?_ _ | refine Below.drew ?_ | refine Below.alloc ?_ (by first | (simp; done) | (simp; omega) | omega) _ | refine Below.setCell ?_ (by first | (simp; done) | (simp; omega) | omega) _ | refine Below.trans ?_ (Below.mono (by assumption) (by first | (simp; done) | (simp; omega) | omega))))⟩
  · go_enter Tryd.func31, Tryd.ntmps31
    go_wp2_with fail
    refine (h1.out _).mono ?_
    rintro e w1 ⟨rfl, hb1⟩
    have hz_hb1 := hb1.size
    try simp at hz_hb1
    have hb1_1_k0 : w1.cell? ⟨w.heap.size + 1, 0, none⟩ = some (.int .i64 c) := (hb1.cell (p := ⟨w.heap.size + 1, 0, none⟩) (by first | (simp; done) | (simp; omega) | omega)).trans (by first | assumption | (simp [go_sem]; done) | simp [go_sem, *])
    have hb1_1_k1 : w1.cell? ⟨w.heap.size + 1, 1, none⟩ = some (.int .i64 d) := (hb1.cell (p := ⟨w.heap.size + 1, 1, none⟩) (by first | (simp; done) | (simp; omega) | omega)).trans (by first | assumption | (simp [go_sem]; done) | simp [go_sem, *])
    have hb1_1_f : ∀ o, w1.frozen? ⟨w.heap.size + 1, o, none⟩ = false := fun o => (hb1.frozen (p := ⟨w.heap.size + 1, o, none⟩) (by first | (simp; done) | (simp; omega) | omega)).trans (by first | assumption | (simp [go_sem]; done) | simp [go_sem, *])
    have hb1_1_lt : w.heap.size + 1 < w1.heap.size := Nat.lt_of_lt_of_le (m := _) (by first | (simp; done) | (simp; omega) | omega) hb1.size
    go_wp2_with fail
    refine (h2.out _).mono ?_
    rintro e w2 ⟨rfl, hb2⟩
    have hz2 := hb2.size
    go_wp2
    go_ret
    exact ⟨by simp, (by repeat (first | with_reducible exact Below.refl _ _ | with_reducible assumption | refine below_drewN ?_ _ | refine Below.drew ?_ | refine Below.alloc ?_ (by first | (simp; done) | (simp; omega) | omega) _ | refine Below.setCell ?_ (by first | (simp; done) | (simp; omega) | omega) _ | refine Below.trans ?_ (Below.mono (by assumption) (by first | (simp; done) | (simp; omega) | omega))))⟩
end Go.Proofs.YtffabmojbelaaaaDoor
