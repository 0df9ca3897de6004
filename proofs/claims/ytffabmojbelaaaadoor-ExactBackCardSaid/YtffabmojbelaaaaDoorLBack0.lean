/- The law ExactBack: its short ways. -/
import Derived.Test.YtffabmojbelaaaaDoorSz
import Derived.Test.YtffabmojbelaaaaDoorXq
import Derived.Test.YtffabmojbelaaaaDoorLFractions
import Derived.Test.YtffabmojbelaaaaDoorYb
namespace Go.Proofs.YtffabmojbelaaaaDoor
open Go.RowKit Go.Shelf

/-- what Fold needs of a row -/
def RowF (w : World) (a : Option Addr) (cap : Nat) (l : List Int) : Prop := l.length ≤ cap ∧ cap ≤ maxLen ∧ ∀ k, k < l.length → ∃ x, a = some x ∧ w.cell? (x.add k) = some (.int .i64 (l.getD k 0))

theorem owns_rowF {w : World} {base : Nat} {v : Value} {l : List Int} (h : w.ownsRow base 3 1 v l.length (l.map (Value.int .i64))) : ∃ a cap, v = .slice a l.length cap ∧ RowF w a cap l := by
  have hh := h
  obtain ⟨_, h2⟩ := h
  rcases h2 with ⟨rfl, hn⟩ | ⟨g, cap, cur, rfl, hb, hg, hle, hcap, hs, ht⟩
  · exact ⟨none, 0, by rw [hn], by omega, by unfold maxLen; omega, fun i hi => by omega⟩
  · refine ⟨some ⟨g, 0, none⟩, cap, rfl, by omega, by omega, fun i hi => ⟨_, rfl, hh.cells rfl i _ ?_⟩⟩
    rw [List.getElem?_map, List.getD, List.getElem?_eq_getElem hi]; rfl

set_option maxRecDepth 100000 in
set_option maxHeartbeats 2000000 in
theorem back_long (a b : Int) (sa : Option Addr) (m cap : Nat) (t : ByteArray) (hm : (60 : Int) < (m : Int)) (w : World)  (hT : Hid (Tab w.heap.size w)) :
    Calls Tryd.prog 13 #[.agg #[.int .i64 a, .int .i64 b], .slice sa m cap, .string t] w fun e w' => e = .returned (.bool true) ∧ Below w.heap.size w w' := by
  go_enter Tryd.func13, Tryd.ntmps13
  go_wp2_with fail
  refine (sanity_tab hT _ (below_alloc (Below.refl _ _) _)).mono ?_
  rintro e W1 ⟨rfl, hb1⟩
  have k1 : W1.cell? ⟨w.heap.size, 0, none⟩ = some (.int .i64 a) := kept1 (by simp [go_sem]) hb1
  have k2 : W1.cell? ⟨w.heap.size, 1, none⟩ = some (.int .i64 b) := kept1 (by simp [go_sem]) hb1
  have lk1 : w.heap.size < W1.heap.size := block_lt_of_cell k1
  have hv1 : Below w.heap.size w W1 := bstep1 (Below.refl _ _) hb1
  clear hb1  
  go_wp2
  go_ret
  exact ⟨by first | rfl | simp, (by repeat (first | with_reducible exact Below.refl _ _ | with_reducible assumption | refine below_drewN ?_ _ | refine Below.drew ?_ | refine Below.alloc ?_ (by first | (simp; done) | (simp; omega) | omega) _ | refine Below.setCell ?_ (by first | (simp; done) | (simp; omega) | omega) _ | refine Below.trans ?_ (Below.mono (by assumption) (by first | (simp; done) | (simp; omega) | omega))))⟩

set_option maxRecDepth 100000 in
set_option maxHeartbeats 2000000 in
theorem back_text (a b : Int) (sa : Option Addr) (m cap : Nat) (t : ByteArray) (hm : ¬ (60 : Int) < (m : Int)) (ht : (60 : Int) < (t.size : Int)) (w : World)  (hT : Hid (Tab w.heap.size w)) :
    Calls Tryd.prog 13 #[.agg #[.int .i64 a, .int .i64 b], .slice sa m cap, .string t] w fun e w' => e = .returned (.bool true) ∧ Below w.heap.size w w' := by
  go_enter Tryd.func13, Tryd.ntmps13
  go_wp2_with fail
  refine (sanity_tab hT _ (below_alloc (Below.refl _ _) _)).mono ?_
  rintro e W1 ⟨rfl, hb1⟩
  have k1 : W1.cell? ⟨w.heap.size, 0, none⟩ = some (.int .i64 a) := kept1 (by simp [go_sem]) hb1
  have k2 : W1.cell? ⟨w.heap.size, 1, none⟩ = some (.int .i64 b) := kept1 (by simp [go_sem]) hb1
  have lk1 : w.heap.size < W1.heap.size := block_lt_of_cell k1
  have hv1 : Below w.heap.size w W1 := bstep1 (Below.refl _ _) hb1
  clear hb1  
  go_wp2
  go_ret
  exact ⟨by first | rfl | simp, (by repeat (first | with_reducible exact Below.refl _ _ | with_reducible assumption | refine below_drewN ?_ _ | refine Below.drew ?_ | refine Below.alloc ?_ (by first | (simp; done) | (simp; omega) | omega) _ | refine Below.setCell ?_ (by first | (simp; done) | (simp; omega) | omega) _ | refine Below.trans ?_ (Below.mono (by assumption) (by first | (simp; done) | (simp; omega) | omega))))⟩

end Go.Proofs.YtffabmojbelaaaaDoor
