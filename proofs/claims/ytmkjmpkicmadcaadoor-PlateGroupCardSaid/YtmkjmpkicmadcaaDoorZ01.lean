/- What the claims of layer 2 share, part 1: several texts one behind the other. -/
import Derived.Test.YtmkjmpkicmadcaaDoorProg
import Derived.WalkKit
import Derived.WalkLawsBesides
import Derived.WalkSpells
import Derived.Lib.Hide
import Derived.Deep.QuietTactic
import Derived.BigQuiet
import Derived.BigRegion
import Derived.Deep.RegionWith
import Derived.Deep.RegionHeld3
import Derived.Deep.RegionLaw
import Derived.Deep.LoopGhost
import Derived.Deep.DeepMust
import Derived.Deep.DeepCutAuto
import Derived.Deep.DeepFit
import Derived.OwnWalk
import Derived.OneCell
import Derived.Deep.AppendLies
import Derived.Deep.OwnRows
import Derived.RangeFuncWrites
import Derived.RangeFuncStops
import Derived.RangeFuncNested
import Derived.Deep.MidRow
import Derived.Shelf.Abstract
import Derived.RegionIn
import Derived.LoopIn
import Derived.LoopNIn
import Derived.OwnWalkIn
import Derived.RangeFuncBound
import Derived.RangeFuncCalls
import Derived.RangeFuncGives
import Derived.RangeFuncLeaves
import Derived.BigRegionIn
import Derived.Laws.EntriesVeiled
set_option linter.unusedSimpArgs false
set_option linter.unusedVariables false
/- What walks of this seat share: cells and frames behind calls. -/
namespace Go.Proofs.YtmkjmpkicmadcaaDoor
open Go.RowKit
theorem ret_u64 {a b : Int} (h : a = b) : Ending.returned (.int .u64 a) = .returned (.int .u64 b) := by rw [h]
theorem ret_i64 {a b : Int} (h : a = b) : Ending.returned (.int .i64 a) = .returned (.int .i64 b) := by rw [h]
theorem ret_bool {a b : Bool} (h : a = b) : Ending.returned (.bool a) = .returned (.bool b) := by rw [h]

/-- what a call has not touched, as two rules for the walk -/
theorem bcell {W w1 : World} (hb : Below W.heap.size W w1) : (∀ b o, b < W.heap.size → w1.cell? ⟨b, o, none⟩ = W.cell? ⟨b, o, none⟩) ∧ (∀ b o, b < W.heap.size → w1.frozen? ⟨b, o, none⟩ = W.frozen? ⟨b, o, none⟩) :=
  ⟨fun b o h => hb.cell (p := ⟨b, o, none⟩) h, fun b o h => hb.frozen (p := ⟨b, o, none⟩) h⟩

theorem drewN_below {w : World} (m : Nat) : Below w.heap.size w (w.drewN m) := ⟨rfl, rfl, rfl, Nat.le_refl _, fun _ _ => rfl⟩

theorem kept1 {W W' : World} {p : Addr} {x : Value} (h : W.cell? p = some x) (hb : Below W.heap.size W W') : W'.cell? p = some x := (hb.cell (block_lt_of_cell h)).trans h

theorem keep0 {w W W' : World} (h : Below w.heap.size w W) (hb : Below W.heap.size W W') : Below w.heap.size w W' := h.trans (hb.mono h.size)

theorem keep1 {w W W' : World} {p0 : Addr} {x0 : Value} (h : W.cell? p0 = some x0 ∧ Below w.heap.size w W) (hb : Below W.heap.size W W') : W'.cell? p0 = some x0 ∧ Below w.heap.size w W' := by
  obtain ⟨h0, h⟩ := h
  exact ⟨kept1 h0 hb, h.trans (hb.mono h.size)⟩

theorem keep2 {w W W' : World} {p0 p1 : Addr} {x0 x1 : Value} (h : W.cell? p0 = some x0 ∧ W.cell? p1 = some x1 ∧ Below w.heap.size w W) (hb : Below W.heap.size W W') : W'.cell? p0 = some x0 ∧ W'.cell? p1 = some x1 ∧ Below w.heap.size w W' := by
  obtain ⟨h0, h1, h⟩ := h
  exact ⟨kept1 h0 hb, kept1 h1 hb, h.trans (hb.mono h.size)⟩

theorem keep3 {w W W' : World} {p0 p1 p2 : Addr} {x0 x1 x2 : Value} (h : W.cell? p0 = some x0 ∧ W.cell? p1 = some x1 ∧ W.cell? p2 = some x2 ∧ Below w.heap.size w W) (hb : Below W.heap.size W W') : W'.cell? p0 = some x0 ∧ W'.cell? p1 = some x1 ∧ W'.cell? p2 = some x2 ∧ Below w.heap.size w W' := by
  obtain ⟨h0, h1, h2, h⟩ := h
  exact ⟨kept1 h0 hb, kept1 h1 hb, kept1 h2 hb, h.trans (hb.mono h.size)⟩

theorem keep4 {w W W' : World} {p0 p1 p2 p3 : Addr} {x0 x1 x2 x3 : Value} (h : W.cell? p0 = some x0 ∧ W.cell? p1 = some x1 ∧ W.cell? p2 = some x2 ∧ W.cell? p3 = some x3 ∧ Below w.heap.size w W) (hb : Below W.heap.size W W') : W'.cell? p0 = some x0 ∧ W'.cell? p1 = some x1 ∧ W'.cell? p2 = some x2 ∧ W'.cell? p3 = some x3 ∧ Below w.heap.size w W' := by
  obtain ⟨h0, h1, h2, h3, h⟩ := h
  exact ⟨kept1 h0 hb, kept1 h1 hb, kept1 h2 hb, kept1 h3 hb, h.trans (hb.mono h.size)⟩

theorem keep5 {w W W' : World} {p0 p1 p2 p3 p4 : Addr} {x0 x1 x2 x3 x4 : Value} (h : W.cell? p0 = some x0 ∧ W.cell? p1 = some x1 ∧ W.cell? p2 = some x2 ∧ W.cell? p3 = some x3 ∧ W.cell? p4 = some x4 ∧ Below w.heap.size w W) (hb : Below W.heap.size W W') : W'.cell? p0 = some x0 ∧ W'.cell? p1 = some x1 ∧ W'.cell? p2 = some x2 ∧ W'.cell? p3 = some x3 ∧ W'.cell? p4 = some x4 ∧ Below w.heap.size w W' := by
  obtain ⟨h0, h1, h2, h3, h4, h⟩ := h
  exact ⟨kept1 h0 hb, kept1 h1 hb, kept1 h2 hb, kept1 h3 hb, kept1 h4 hb, h.trans (hb.mono h.size)⟩

theorem keep6 {w W W' : World} {p0 p1 p2 p3 p4 p5 : Addr} {x0 x1 x2 x3 x4 x5 : Value} (h : W.cell? p0 = some x0 ∧ W.cell? p1 = some x1 ∧ W.cell? p2 = some x2 ∧ W.cell? p3 = some x3 ∧ W.cell? p4 = some x4 ∧ W.cell? p5 = some x5 ∧ Below w.heap.size w W) (hb : Below W.heap.size W W') : W'.cell? p0 = some x0 ∧ W'.cell? p1 = some x1 ∧ W'.cell? p2 = some x2 ∧ W'.cell? p3 = some x3 ∧ W'.cell? p4 = some x4 ∧ W'.cell? p5 = some x5 ∧ Below w.heap.size w W' := by
  obtain ⟨h0, h1, h2, h3, h4, h5, h⟩ := h
  exact ⟨kept1 h0 hb, kept1 h1 hb, kept1 h2 hb, kept1 h3 hb, kept1 h4 hb, kept1 h5 hb, h.trans (hb.mono h.size)⟩

theorem keep7 {w W W' : World} {p0 p1 p2 p3 p4 p5 p6 : Addr} {x0 x1 x2 x3 x4 x5 x6 : Value} (h : W.cell? p0 = some x0 ∧ W.cell? p1 = some x1 ∧ W.cell? p2 = some x2 ∧ W.cell? p3 = some x3 ∧ W.cell? p4 = some x4 ∧ W.cell? p5 = some x5 ∧ W.cell? p6 = some x6 ∧ Below w.heap.size w W) (hb : Below W.heap.size W W') : W'.cell? p0 = some x0 ∧ W'.cell? p1 = some x1 ∧ W'.cell? p2 = some x2 ∧ W'.cell? p3 = some x3 ∧ W'.cell? p4 = some x4 ∧ W'.cell? p5 = some x5 ∧ W'.cell? p6 = some x6 ∧ Below w.heap.size w W' := by
  obtain ⟨h0, h1, h2, h3, h4, h5, h6, h⟩ := h
  exact ⟨kept1 h0 hb, kept1 h1 hb, kept1 h2 hb, kept1 h3 hb, kept1 h4 hb, kept1 h5 hb, kept1 h6 hb, h.trans (hb.mono h.size)⟩

theorem keep8 {w W W' : World} {p0 p1 p2 p3 p4 p5 p6 p7 : Addr} {x0 x1 x2 x3 x4 x5 x6 x7 : Value} (h : W.cell? p0 = some x0 ∧ W.cell? p1 = some x1 ∧ W.cell? p2 = some x2 ∧ W.cell? p3 = some x3 ∧ W.cell? p4 = some x4 ∧ W.cell? p5 = some x5 ∧ W.cell? p6 = some x6 ∧ W.cell? p7 = some x7 ∧ Below w.heap.size w W) (hb : Below W.heap.size W W') : W'.cell? p0 = some x0 ∧ W'.cell? p1 = some x1 ∧ W'.cell? p2 = some x2 ∧ W'.cell? p3 = some x3 ∧ W'.cell? p4 = some x4 ∧ W'.cell? p5 = some x5 ∧ W'.cell? p6 = some x6 ∧ W'.cell? p7 = some x7 ∧ Below w.heap.size w W' := by
  obtain ⟨h0, h1, h2, h3, h4, h5, h6, h7, h⟩ := h
  exact ⟨kept1 h0 hb, kept1 h1 hb, kept1 h2 hb, kept1 h3 hb, kept1 h4 hb, kept1 h5 hb, kept1 h6 hb, kept1 h7 hb, h.trans (hb.mono h.size)⟩

theorem keep9 {w W W' : World} {p0 p1 p2 p3 p4 p5 p6 p7 p8 : Addr} {x0 x1 x2 x3 x4 x5 x6 x7 x8 : Value} (h : W.cell? p0 = some x0 ∧ W.cell? p1 = some x1 ∧ W.cell? p2 = some x2 ∧ W.cell? p3 = some x3 ∧ W.cell? p4 = some x4 ∧ W.cell? p5 = some x5 ∧ W.cell? p6 = some x6 ∧ W.cell? p7 = some x7 ∧ W.cell? p8 = some x8 ∧ Below w.heap.size w W) (hb : Below W.heap.size W W') : W'.cell? p0 = some x0 ∧ W'.cell? p1 = some x1 ∧ W'.cell? p2 = some x2 ∧ W'.cell? p3 = some x3 ∧ W'.cell? p4 = some x4 ∧ W'.cell? p5 = some x5 ∧ W'.cell? p6 = some x6 ∧ W'.cell? p7 = some x7 ∧ W'.cell? p8 = some x8 ∧ Below w.heap.size w W' := by
  obtain ⟨h0, h1, h2, h3, h4, h5, h6, h7, h8, h⟩ := h
  exact ⟨kept1 h0 hb, kept1 h1 hb, kept1 h2 hb, kept1 h3 hb, kept1 h4 hb, kept1 h5 hb, kept1 h6 hb, kept1 h7 hb, kept1 h8 hb, h.trans (hb.mono h.size)⟩

theorem keep10 {w W W' : World} {p0 p1 p2 p3 p4 p5 p6 p7 p8 p9 : Addr} {x0 x1 x2 x3 x4 x5 x6 x7 x8 x9 : Value} (h : W.cell? p0 = some x0 ∧ W.cell? p1 = some x1 ∧ W.cell? p2 = some x2 ∧ W.cell? p3 = some x3 ∧ W.cell? p4 = some x4 ∧ W.cell? p5 = some x5 ∧ W.cell? p6 = some x6 ∧ W.cell? p7 = some x7 ∧ W.cell? p8 = some x8 ∧ W.cell? p9 = some x9 ∧ Below w.heap.size w W) (hb : Below W.heap.size W W') : W'.cell? p0 = some x0 ∧ W'.cell? p1 = some x1 ∧ W'.cell? p2 = some x2 ∧ W'.cell? p3 = some x3 ∧ W'.cell? p4 = some x4 ∧ W'.cell? p5 = some x5 ∧ W'.cell? p6 = some x6 ∧ W'.cell? p7 = some x7 ∧ W'.cell? p8 = some x8 ∧ W'.cell? p9 = some x9 ∧ Below w.heap.size w W' := by
  obtain ⟨h0, h1, h2, h3, h4, h5, h6, h7, h8, h9, h⟩ := h
  exact ⟨kept1 h0 hb, kept1 h1 hb, kept1 h2 hb, kept1 h3 hb, kept1 h4 hb, kept1 h5 hb, kept1 h6 hb, kept1 h7 hb, kept1 h8 hb, kept1 h9 hb, h.trans (hb.mono h.size)⟩

theorem keep11 {w W W' : World} {p0 p1 p2 p3 p4 p5 p6 p7 p8 p9 p10 : Addr} {x0 x1 x2 x3 x4 x5 x6 x7 x8 x9 x10 : Value} (h : W.cell? p0 = some x0 ∧ W.cell? p1 = some x1 ∧ W.cell? p2 = some x2 ∧ W.cell? p3 = some x3 ∧ W.cell? p4 = some x4 ∧ W.cell? p5 = some x5 ∧ W.cell? p6 = some x6 ∧ W.cell? p7 = some x7 ∧ W.cell? p8 = some x8 ∧ W.cell? p9 = some x9 ∧ W.cell? p10 = some x10 ∧ Below w.heap.size w W) (hb : Below W.heap.size W W') : W'.cell? p0 = some x0 ∧ W'.cell? p1 = some x1 ∧ W'.cell? p2 = some x2 ∧ W'.cell? p3 = some x3 ∧ W'.cell? p4 = some x4 ∧ W'.cell? p5 = some x5 ∧ W'.cell? p6 = some x6 ∧ W'.cell? p7 = some x7 ∧ W'.cell? p8 = some x8 ∧ W'.cell? p9 = some x9 ∧ W'.cell? p10 = some x10 ∧ Below w.heap.size w W' := by
  obtain ⟨h0, h1, h2, h3, h4, h5, h6, h7, h8, h9, h10, h⟩ := h
  exact ⟨kept1 h0 hb, kept1 h1 hb, kept1 h2 hb, kept1 h3 hb, kept1 h4 hb, kept1 h5 hb, kept1 h6 hb, kept1 h7 hb, kept1 h8 hb, kept1 h9 hb, kept1 h10 hb, h.trans (hb.mono h.size)⟩

theorem keep12 {w W W' : World} {p0 p1 p2 p3 p4 p5 p6 p7 p8 p9 p10 p11 : Addr} {x0 x1 x2 x3 x4 x5 x6 x7 x8 x9 x10 x11 : Value} (h : W.cell? p0 = some x0 ∧ W.cell? p1 = some x1 ∧ W.cell? p2 = some x2 ∧ W.cell? p3 = some x3 ∧ W.cell? p4 = some x4 ∧ W.cell? p5 = some x5 ∧ W.cell? p6 = some x6 ∧ W.cell? p7 = some x7 ∧ W.cell? p8 = some x8 ∧ W.cell? p9 = some x9 ∧ W.cell? p10 = some x10 ∧ W.cell? p11 = some x11 ∧ Below w.heap.size w W) (hb : Below W.heap.size W W') : W'.cell? p0 = some x0 ∧ W'.cell? p1 = some x1 ∧ W'.cell? p2 = some x2 ∧ W'.cell? p3 = some x3 ∧ W'.cell? p4 = some x4 ∧ W'.cell? p5 = some x5 ∧ W'.cell? p6 = some x6 ∧ W'.cell? p7 = some x7 ∧ W'.cell? p8 = some x8 ∧ W'.cell? p9 = some x9 ∧ W'.cell? p10 = some x10 ∧ W'.cell? p11 = some x11 ∧ Below w.heap.size w W' := by
  obtain ⟨h0, h1, h2, h3, h4, h5, h6, h7, h8, h9, h10, h11, h⟩ := h
  exact ⟨kept1 h0 hb, kept1 h1 hb, kept1 h2 hb, kept1 h3 hb, kept1 h4 hb, kept1 h5 hb, kept1 h6 hb, kept1 h7 hb, kept1 h8 hb, kept1 h9 hb, kept1 h10 hb, kept1 h11 hb, h.trans (hb.mono h.size)⟩

theorem keep13 {w W W' : World} {p0 p1 p2 p3 p4 p5 p6 p7 p8 p9 p10 p11 p12 : Addr} {x0 x1 x2 x3 x4 x5 x6 x7 x8 x9 x10 x11 x12 : Value} (h : W.cell? p0 = some x0 ∧ W.cell? p1 = some x1 ∧ W.cell? p2 = some x2 ∧ W.cell? p3 = some x3 ∧ W.cell? p4 = some x4 ∧ W.cell? p5 = some x5 ∧ W.cell? p6 = some x6 ∧ W.cell? p7 = some x7 ∧ W.cell? p8 = some x8 ∧ W.cell? p9 = some x9 ∧ W.cell? p10 = some x10 ∧ W.cell? p11 = some x11 ∧ W.cell? p12 = some x12 ∧ Below w.heap.size w W) (hb : Below W.heap.size W W') : W'.cell? p0 = some x0 ∧ W'.cell? p1 = some x1 ∧ W'.cell? p2 = some x2 ∧ W'.cell? p3 = some x3 ∧ W'.cell? p4 = some x4 ∧ W'.cell? p5 = some x5 ∧ W'.cell? p6 = some x6 ∧ W'.cell? p7 = some x7 ∧ W'.cell? p8 = some x8 ∧ W'.cell? p9 = some x9 ∧ W'.cell? p10 = some x10 ∧ W'.cell? p11 = some x11 ∧ W'.cell? p12 = some x12 ∧ Below w.heap.size w W' := by
  obtain ⟨h0, h1, h2, h3, h4, h5, h6, h7, h8, h9, h10, h11, h12, h⟩ := h
  exact ⟨kept1 h0 hb, kept1 h1 hb, kept1 h2 hb, kept1 h3 hb, kept1 h4 hb, kept1 h5 hb, kept1 h6 hb, kept1 h7 hb, kept1 h8 hb, kept1 h9 hb, kept1 h10 hb, kept1 h11 hb, kept1 h12 hb, h.trans (hb.mono h.size)⟩

theorem keep14 {w W W' : World} {p0 p1 p2 p3 p4 p5 p6 p7 p8 p9 p10 p11 p12 p13 : Addr} {x0 x1 x2 x3 x4 x5 x6 x7 x8 x9 x10 x11 x12 x13 : Value} (h : W.cell? p0 = some x0 ∧ W.cell? p1 = some x1 ∧ W.cell? p2 = some x2 ∧ W.cell? p3 = some x3 ∧ W.cell? p4 = some x4 ∧ W.cell? p5 = some x5 ∧ W.cell? p6 = some x6 ∧ W.cell? p7 = some x7 ∧ W.cell? p8 = some x8 ∧ W.cell? p9 = some x9 ∧ W.cell? p10 = some x10 ∧ W.cell? p11 = some x11 ∧ W.cell? p12 = some x12 ∧ W.cell? p13 = some x13 ∧ Below w.heap.size w W) (hb : Below W.heap.size W W') : W'.cell? p0 = some x0 ∧ W'.cell? p1 = some x1 ∧ W'.cell? p2 = some x2 ∧ W'.cell? p3 = some x3 ∧ W'.cell? p4 = some x4 ∧ W'.cell? p5 = some x5 ∧ W'.cell? p6 = some x6 ∧ W'.cell? p7 = some x7 ∧ W'.cell? p8 = some x8 ∧ W'.cell? p9 = some x9 ∧ W'.cell? p10 = some x10 ∧ W'.cell? p11 = some x11 ∧ W'.cell? p12 = some x12 ∧ W'.cell? p13 = some x13 ∧ Below w.heap.size w W' := by
  obtain ⟨h0, h1, h2, h3, h4, h5, h6, h7, h8, h9, h10, h11, h12, h13, h⟩ := h
  exact ⟨kept1 h0 hb, kept1 h1 hb, kept1 h2 hb, kept1 h3 hb, kept1 h4 hb, kept1 h5 hb, kept1 h6 hb, kept1 h7 hb, kept1 h8 hb, kept1 h9 hb, kept1 h10 hb, kept1 h11 hb, kept1 h12 hb, kept1 h13 hb, h.trans (hb.mono h.size)⟩

theorem keep15 {w W W' : World} {p0 p1 p2 p3 p4 p5 p6 p7 p8 p9 p10 p11 p12 p13 p14 : Addr} {x0 x1 x2 x3 x4 x5 x6 x7 x8 x9 x10 x11 x12 x13 x14 : Value} (h : W.cell? p0 = some x0 ∧ W.cell? p1 = some x1 ∧ W.cell? p2 = some x2 ∧ W.cell? p3 = some x3 ∧ W.cell? p4 = some x4 ∧ W.cell? p5 = some x5 ∧ W.cell? p6 = some x6 ∧ W.cell? p7 = some x7 ∧ W.cell? p8 = some x8 ∧ W.cell? p9 = some x9 ∧ W.cell? p10 = some x10 ∧ W.cell? p11 = some x11 ∧ W.cell? p12 = some x12 ∧ W.cell? p13 = some x13 ∧ W.cell? p14 = some x14 ∧ Below w.heap.size w W) (hb : Below W.heap.size W W') : W'.cell? p0 = some x0 ∧ W'.cell? p1 = some x1 ∧ W'.cell? p2 = some x2 ∧ W'.cell? p3 = some x3 ∧ W'.cell? p4 = some x4 ∧ W'.cell? p5 = some x5 ∧ W'.cell? p6 = some x6 ∧ W'.cell? p7 = some x7 ∧ W'.cell? p8 = some x8 ∧ W'.cell? p9 = some x9 ∧ W'.cell? p10 = some x10 ∧ W'.cell? p11 = some x11 ∧ W'.cell? p12 = some x12 ∧ W'.cell? p13 = some x13 ∧ W'.cell? p14 = some x14 ∧ Below w.heap.size w W' := by
  obtain ⟨h0, h1, h2, h3, h4, h5, h6, h7, h8, h9, h10, h11, h12, h13, h14, h⟩ := h
  exact ⟨kept1 h0 hb, kept1 h1 hb, kept1 h2 hb, kept1 h3 hb, kept1 h4 hb, kept1 h5 hb, kept1 h6 hb, kept1 h7 hb, kept1 h8 hb, kept1 h9 hb, kept1 h10 hb, kept1 h11 hb, kept1 h12 hb, kept1 h13 hb, kept1 h14 hb, h.trans (hb.mono h.size)⟩

theorem keep16 {w W W' : World} {p0 p1 p2 p3 p4 p5 p6 p7 p8 p9 p10 p11 p12 p13 p14 p15 : Addr} {x0 x1 x2 x3 x4 x5 x6 x7 x8 x9 x10 x11 x12 x13 x14 x15 : Value} (h : W.cell? p0 = some x0 ∧ W.cell? p1 = some x1 ∧ W.cell? p2 = some x2 ∧ W.cell? p3 = some x3 ∧ W.cell? p4 = some x4 ∧ W.cell? p5 = some x5 ∧ W.cell? p6 = some x6 ∧ W.cell? p7 = some x7 ∧ W.cell? p8 = some x8 ∧ W.cell? p9 = some x9 ∧ W.cell? p10 = some x10 ∧ W.cell? p11 = some x11 ∧ W.cell? p12 = some x12 ∧ W.cell? p13 = some x13 ∧ W.cell? p14 = some x14 ∧ W.cell? p15 = some x15 ∧ Below w.heap.size w W) (hb : Below W.heap.size W W') : W'.cell? p0 = some x0 ∧ W'.cell? p1 = some x1 ∧ W'.cell? p2 = some x2 ∧ W'.cell? p3 = some x3 ∧ W'.cell? p4 = some x4 ∧ W'.cell? p5 = some x5 ∧ W'.cell? p6 = some x6 ∧ W'.cell? p7 = some x7 ∧ W'.cell? p8 = some x8 ∧ W'.cell? p9 = some x9 ∧ W'.cell? p10 = some x10 ∧ W'.cell? p11 = some x11 ∧ W'.cell? p12 = some x12 ∧ W'.cell? p13 = some x13 ∧ W'.cell? p14 = some x14 ∧ W'.cell? p15 = some x15 ∧ Below w.heap.size w W' := by
  obtain ⟨h0, h1, h2, h3, h4, h5, h6, h7, h8, h9, h10, h11, h12, h13, h14, h15, h⟩ := h
  exact ⟨kept1 h0 hb, kept1 h1 hb, kept1 h2 hb, kept1 h3 hb, kept1 h4 hb, kept1 h5 hb, kept1 h6 hb, kept1 h7 hb, kept1 h8 hb, kept1 h9 hb, kept1 h10 hb, kept1 h11 hb, kept1 h12 hb, kept1 h13 hb, kept1 h14 hb, kept1 h15 hb, h.trans (hb.mono h.size)⟩

theorem keep17 {w W W' : World} {p0 p1 p2 p3 p4 p5 p6 p7 p8 p9 p10 p11 p12 p13 p14 p15 p16 : Addr} {x0 x1 x2 x3 x4 x5 x6 x7 x8 x9 x10 x11 x12 x13 x14 x15 x16 : Value} (h : W.cell? p0 = some x0 ∧ W.cell? p1 = some x1 ∧ W.cell? p2 = some x2 ∧ W.cell? p3 = some x3 ∧ W.cell? p4 = some x4 ∧ W.cell? p5 = some x5 ∧ W.cell? p6 = some x6 ∧ W.cell? p7 = some x7 ∧ W.cell? p8 = some x8 ∧ W.cell? p9 = some x9 ∧ W.cell? p10 = some x10 ∧ W.cell? p11 = some x11 ∧ W.cell? p12 = some x12 ∧ W.cell? p13 = some x13 ∧ W.cell? p14 = some x14 ∧ W.cell? p15 = some x15 ∧ W.cell? p16 = some x16 ∧ Below w.heap.size w W) (hb : Below W.heap.size W W') : W'.cell? p0 = some x0 ∧ W'.cell? p1 = some x1 ∧ W'.cell? p2 = some x2 ∧ W'.cell? p3 = some x3 ∧ W'.cell? p4 = some x4 ∧ W'.cell? p5 = some x5 ∧ W'.cell? p6 = some x6 ∧ W'.cell? p7 = some x7 ∧ W'.cell? p8 = some x8 ∧ W'.cell? p9 = some x9 ∧ W'.cell? p10 = some x10 ∧ W'.cell? p11 = some x11 ∧ W'.cell? p12 = some x12 ∧ W'.cell? p13 = some x13 ∧ W'.cell? p14 = some x14 ∧ W'.cell? p15 = some x15 ∧ W'.cell? p16 = some x16 ∧ Below w.heap.size w W' := by
  obtain ⟨h0, h1, h2, h3, h4, h5, h6, h7, h8, h9, h10, h11, h12, h13, h14, h15, h16, h⟩ := h
  exact ⟨kept1 h0 hb, kept1 h1 hb, kept1 h2 hb, kept1 h3 hb, kept1 h4 hb, kept1 h5 hb, kept1 h6 hb, kept1 h7 hb, kept1 h8 hb, kept1 h9 hb, kept1 h10 hb, kept1 h11 hb, kept1 h12 hb, kept1 h13 hb, kept1 h14 hb, kept1 h15 hb, kept1 h16 hb, h.trans (hb.mono h.size)⟩

theorem keep18 {w W W' : World} {p0 p1 p2 p3 p4 p5 p6 p7 p8 p9 p10 p11 p12 p13 p14 p15 p16 p17 : Addr} {x0 x1 x2 x3 x4 x5 x6 x7 x8 x9 x10 x11 x12 x13 x14 x15 x16 x17 : Value} (h : W.cell? p0 = some x0 ∧ W.cell? p1 = some x1 ∧ W.cell? p2 = some x2 ∧ W.cell? p3 = some x3 ∧ W.cell? p4 = some x4 ∧ W.cell? p5 = some x5 ∧ W.cell? p6 = some x6 ∧ W.cell? p7 = some x7 ∧ W.cell? p8 = some x8 ∧ W.cell? p9 = some x9 ∧ W.cell? p10 = some x10 ∧ W.cell? p11 = some x11 ∧ W.cell? p12 = some x12 ∧ W.cell? p13 = some x13 ∧ W.cell? p14 = some x14 ∧ W.cell? p15 = some x15 ∧ W.cell? p16 = some x16 ∧ W.cell? p17 = some x17 ∧ Below w.heap.size w W) (hb : Below W.heap.size W W') : W'.cell? p0 = some x0 ∧ W'.cell? p1 = some x1 ∧ W'.cell? p2 = some x2 ∧ W'.cell? p3 = some x3 ∧ W'.cell? p4 = some x4 ∧ W'.cell? p5 = some x5 ∧ W'.cell? p6 = some x6 ∧ W'.cell? p7 = some x7 ∧ W'.cell? p8 = some x8 ∧ W'.cell? p9 = some x9 ∧ W'.cell? p10 = some x10 ∧ W'.cell? p11 = some x11 ∧ W'.cell? p12 = some x12 ∧ W'.cell? p13 = some x13 ∧ W'.cell? p14 = some x14 ∧ W'.cell? p15 = some x15 ∧ W'.cell? p16 = some x16 ∧ W'.cell? p17 = some x17 ∧ Below w.heap.size w W' := by
  obtain ⟨h0, h1, h2, h3, h4, h5, h6, h7, h8, h9, h10, h11, h12, h13, h14, h15, h16, h17, h⟩ := h
  exact ⟨kept1 h0 hb, kept1 h1 hb, kept1 h2 hb, kept1 h3 hb, kept1 h4 hb, kept1 h5 hb, kept1 h6 hb, kept1 h7 hb, kept1 h8 hb, kept1 h9 hb, kept1 h10 hb, kept1 h11 hb, kept1 h12 hb, kept1 h13 hb, kept1 h14 hb, kept1 h15 hb, kept1 h16 hb, kept1 h17 hb, h.trans (hb.mono h.size)⟩

theorem keep19 {w W W' : World} {p0 p1 p2 p3 p4 p5 p6 p7 p8 p9 p10 p11 p12 p13 p14 p15 p16 p17 p18 : Addr} {x0 x1 x2 x3 x4 x5 x6 x7 x8 x9 x10 x11 x12 x13 x14 x15 x16 x17 x18 : Value} (h : W.cell? p0 = some x0 ∧ W.cell? p1 = some x1 ∧ W.cell? p2 = some x2 ∧ W.cell? p3 = some x3 ∧ W.cell? p4 = some x4 ∧ W.cell? p5 = some x5 ∧ W.cell? p6 = some x6 ∧ W.cell? p7 = some x7 ∧ W.cell? p8 = some x8 ∧ W.cell? p9 = some x9 ∧ W.cell? p10 = some x10 ∧ W.cell? p11 = some x11 ∧ W.cell? p12 = some x12 ∧ W.cell? p13 = some x13 ∧ W.cell? p14 = some x14 ∧ W.cell? p15 = some x15 ∧ W.cell? p16 = some x16 ∧ W.cell? p17 = some x17 ∧ W.cell? p18 = some x18 ∧ Below w.heap.size w W) (hb : Below W.heap.size W W') : W'.cell? p0 = some x0 ∧ W'.cell? p1 = some x1 ∧ W'.cell? p2 = some x2 ∧ W'.cell? p3 = some x3 ∧ W'.cell? p4 = some x4 ∧ W'.cell? p5 = some x5 ∧ W'.cell? p6 = some x6 ∧ W'.cell? p7 = some x7 ∧ W'.cell? p8 = some x8 ∧ W'.cell? p9 = some x9 ∧ W'.cell? p10 = some x10 ∧ W'.cell? p11 = some x11 ∧ W'.cell? p12 = some x12 ∧ W'.cell? p13 = some x13 ∧ W'.cell? p14 = some x14 ∧ W'.cell? p15 = some x15 ∧ W'.cell? p16 = some x16 ∧ W'.cell? p17 = some x17 ∧ W'.cell? p18 = some x18 ∧ Below w.heap.size w W' := by
  obtain ⟨h0, h1, h2, h3, h4, h5, h6, h7, h8, h9, h10, h11, h12, h13, h14, h15, h16, h17, h18, h⟩ := h
  exact ⟨kept1 h0 hb, kept1 h1 hb, kept1 h2 hb, kept1 h3 hb, kept1 h4 hb, kept1 h5 hb, kept1 h6 hb, kept1 h7 hb, kept1 h8 hb, kept1 h9 hb, kept1 h10 hb, kept1 h11 hb, kept1 h12 hb, kept1 h13 hb, kept1 h14 hb, kept1 h15 hb, kept1 h16 hb, kept1 h17 hb, kept1 h18 hb, h.trans (hb.mono h.size)⟩

theorem keep20 {w W W' : World} {p0 p1 p2 p3 p4 p5 p6 p7 p8 p9 p10 p11 p12 p13 p14 p15 p16 p17 p18 p19 : Addr} {x0 x1 x2 x3 x4 x5 x6 x7 x8 x9 x10 x11 x12 x13 x14 x15 x16 x17 x18 x19 : Value} (h : W.cell? p0 = some x0 ∧ W.cell? p1 = some x1 ∧ W.cell? p2 = some x2 ∧ W.cell? p3 = some x3 ∧ W.cell? p4 = some x4 ∧ W.cell? p5 = some x5 ∧ W.cell? p6 = some x6 ∧ W.cell? p7 = some x7 ∧ W.cell? p8 = some x8 ∧ W.cell? p9 = some x9 ∧ W.cell? p10 = some x10 ∧ W.cell? p11 = some x11 ∧ W.cell? p12 = some x12 ∧ W.cell? p13 = some x13 ∧ W.cell? p14 = some x14 ∧ W.cell? p15 = some x15 ∧ W.cell? p16 = some x16 ∧ W.cell? p17 = some x17 ∧ W.cell? p18 = some x18 ∧ W.cell? p19 = some x19 ∧ Below w.heap.size w W) (hb : Below W.heap.size W W') : W'.cell? p0 = some x0 ∧ W'.cell? p1 = some x1 ∧ W'.cell? p2 = some x2 ∧ W'.cell? p3 = some x3 ∧ W'.cell? p4 = some x4 ∧ W'.cell? p5 = some x5 ∧ W'.cell? p6 = some x6 ∧ W'.cell? p7 = some x7 ∧ W'.cell? p8 = some x8 ∧ W'.cell? p9 = some x9 ∧ W'.cell? p10 = some x10 ∧ W'.cell? p11 = some x11 ∧ W'.cell? p12 = some x12 ∧ W'.cell? p13 = some x13 ∧ W'.cell? p14 = some x14 ∧ W'.cell? p15 = some x15 ∧ W'.cell? p16 = some x16 ∧ W'.cell? p17 = some x17 ∧ W'.cell? p18 = some x18 ∧ W'.cell? p19 = some x19 ∧ Below w.heap.size w W' := by
  obtain ⟨h0, h1, h2, h3, h4, h5, h6, h7, h8, h9, h10, h11, h12, h13, h14, h15, h16, h17, h18, h19, h⟩ := h
  exact ⟨kept1 h0 hb, kept1 h1 hb, kept1 h2 hb, kept1 h3 hb, kept1 h4 hb, kept1 h5 hb, kept1 h6 hb, kept1 h7 hb, kept1 h8 hb, kept1 h9 hb, kept1 h10 hb, kept1 h11 hb, kept1 h12 hb, kept1 h13 hb, kept1 h14 hb, kept1 h15 hb, kept1 h16 hb, kept1 h17 hb, kept1 h18 hb, kept1 h19 hb, h.trans (hb.mono h.size)⟩

theorem keep21 {w W W' : World} {p0 p1 p2 p3 p4 p5 p6 p7 p8 p9 p10 p11 p12 p13 p14 p15 p16 p17 p18 p19 p20 : Addr} {x0 x1 x2 x3 x4 x5 x6 x7 x8 x9 x10 x11 x12 x13 x14 x15 x16 x17 x18 x19 x20 : Value} (h : W.cell? p0 = some x0 ∧ W.cell? p1 = some x1 ∧ W.cell? p2 = some x2 ∧ W.cell? p3 = some x3 ∧ W.cell? p4 = some x4 ∧ W.cell? p5 = some x5 ∧ W.cell? p6 = some x6 ∧ W.cell? p7 = some x7 ∧ W.cell? p8 = some x8 ∧ W.cell? p9 = some x9 ∧ W.cell? p10 = some x10 ∧ W.cell? p11 = some x11 ∧ W.cell? p12 = some x12 ∧ W.cell? p13 = some x13 ∧ W.cell? p14 = some x14 ∧ W.cell? p15 = some x15 ∧ W.cell? p16 = some x16 ∧ W.cell? p17 = some x17 ∧ W.cell? p18 = some x18 ∧ W.cell? p19 = some x19 ∧ W.cell? p20 = some x20 ∧ Below w.heap.size w W) (hb : Below W.heap.size W W') : W'.cell? p0 = some x0 ∧ W'.cell? p1 = some x1 ∧ W'.cell? p2 = some x2 ∧ W'.cell? p3 = some x3 ∧ W'.cell? p4 = some x4 ∧ W'.cell? p5 = some x5 ∧ W'.cell? p6 = some x6 ∧ W'.cell? p7 = some x7 ∧ W'.cell? p8 = some x8 ∧ W'.cell? p9 = some x9 ∧ W'.cell? p10 = some x10 ∧ W'.cell? p11 = some x11 ∧ W'.cell? p12 = some x12 ∧ W'.cell? p13 = some x13 ∧ W'.cell? p14 = some x14 ∧ W'.cell? p15 = some x15 ∧ W'.cell? p16 = some x16 ∧ W'.cell? p17 = some x17 ∧ W'.cell? p18 = some x18 ∧ W'.cell? p19 = some x19 ∧ W'.cell? p20 = some x20 ∧ Below w.heap.size w W' := by
  obtain ⟨h0, h1, h2, h3, h4, h5, h6, h7, h8, h9, h10, h11, h12, h13, h14, h15, h16, h17, h18, h19, h20, h⟩ := h
  exact ⟨kept1 h0 hb, kept1 h1 hb, kept1 h2 hb, kept1 h3 hb, kept1 h4 hb, kept1 h5 hb, kept1 h6 hb, kept1 h7 hb, kept1 h8 hb, kept1 h9 hb, kept1 h10 hb, kept1 h11 hb, kept1 h12 hb, kept1 h13 hb, kept1 h14 hb, kept1 h15 hb, kept1 h16 hb, kept1 h17 hb, kept1 h18 hb, kept1 h19 hb, kept1 h20 hb, h.trans (hb.mono h.size)⟩

theorem keep22 {w W W' : World} {p0 p1 p2 p3 p4 p5 p6 p7 p8 p9 p10 p11 p12 p13 p14 p15 p16 p17 p18 p19 p20 p21 : Addr} {x0 x1 x2 x3 x4 x5 x6 x7 x8 x9 x10 x11 x12 x13 x14 x15 x16 x17 x18 x19 x20 x21 : Value} (h : W.cell? p0 = some x0 ∧ W.cell? p1 = some x1 ∧ W.cell? p2 = some x2 ∧ W.cell? p3 = some x3 ∧ W.cell? p4 = some x4 ∧ W.cell? p5 = some x5 ∧ W.cell? p6 = some x6 ∧ W.cell? p7 = some x7 ∧ W.cell? p8 = some x8 ∧ W.cell? p9 = some x9 ∧ W.cell? p10 = some x10 ∧ W.cell? p11 = some x11 ∧ W.cell? p12 = some x12 ∧ W.cell? p13 = some x13 ∧ W.cell? p14 = some x14 ∧ W.cell? p15 = some x15 ∧ W.cell? p16 = some x16 ∧ W.cell? p17 = some x17 ∧ W.cell? p18 = some x18 ∧ W.cell? p19 = some x19 ∧ W.cell? p20 = some x20 ∧ W.cell? p21 = some x21 ∧ Below w.heap.size w W) (hb : Below W.heap.size W W') : W'.cell? p0 = some x0 ∧ W'.cell? p1 = some x1 ∧ W'.cell? p2 = some x2 ∧ W'.cell? p3 = some x3 ∧ W'.cell? p4 = some x4 ∧ W'.cell? p5 = some x5 ∧ W'.cell? p6 = some x6 ∧ W'.cell? p7 = some x7 ∧ W'.cell? p8 = some x8 ∧ W'.cell? p9 = some x9 ∧ W'.cell? p10 = some x10 ∧ W'.cell? p11 = some x11 ∧ W'.cell? p12 = some x12 ∧ W'.cell? p13 = some x13 ∧ W'.cell? p14 = some x14 ∧ W'.cell? p15 = some x15 ∧ W'.cell? p16 = some x16 ∧ W'.cell? p17 = some x17 ∧ W'.cell? p18 = some x18 ∧ W'.cell? p19 = some x19 ∧ W'.cell? p20 = some x20 ∧ W'.cell? p21 = some x21 ∧ Below w.heap.size w W' := by
  obtain ⟨h0, h1, h2, h3, h4, h5, h6, h7, h8, h9, h10, h11, h12, h13, h14, h15, h16, h17, h18, h19, h20, h21, h⟩ := h
  exact ⟨kept1 h0 hb, kept1 h1 hb, kept1 h2 hb, kept1 h3 hb, kept1 h4 hb, kept1 h5 hb, kept1 h6 hb, kept1 h7 hb, kept1 h8 hb, kept1 h9 hb, kept1 h10 hb, kept1 h11 hb, kept1 h12 hb, kept1 h13 hb, kept1 h14 hb, kept1 h15 hb, kept1 h16 hb, kept1 h17 hb, kept1 h18 hb, kept1 h19 hb, kept1 h20 hb, kept1 h21 hb, h.trans (hb.mono h.size)⟩

theorem keep23 {w W W' : World} {p0 p1 p2 p3 p4 p5 p6 p7 p8 p9 p10 p11 p12 p13 p14 p15 p16 p17 p18 p19 p20 p21 p22 : Addr} {x0 x1 x2 x3 x4 x5 x6 x7 x8 x9 x10 x11 x12 x13 x14 x15 x16 x17 x18 x19 x20 x21 x22 : Value} (h : W.cell? p0 = some x0 ∧ W.cell? p1 = some x1 ∧ W.cell? p2 = some x2 ∧ W.cell? p3 = some x3 ∧ W.cell? p4 = some x4 ∧ W.cell? p5 = some x5 ∧ W.cell? p6 = some x6 ∧ W.cell? p7 = some x7 ∧ W.cell? p8 = some x8 ∧ W.cell? p9 = some x9 ∧ W.cell? p10 = some x10 ∧ W.cell? p11 = some x11 ∧ W.cell? p12 = some x12 ∧ W.cell? p13 = some x13 ∧ W.cell? p14 = some x14 ∧ W.cell? p15 = some x15 ∧ W.cell? p16 = some x16 ∧ W.cell? p17 = some x17 ∧ W.cell? p18 = some x18 ∧ W.cell? p19 = some x19 ∧ W.cell? p20 = some x20 ∧ W.cell? p21 = some x21 ∧ W.cell? p22 = some x22 ∧ Below w.heap.size w W) (hb : Below W.heap.size W W') : W'.cell? p0 = some x0 ∧ W'.cell? p1 = some x1 ∧ W'.cell? p2 = some x2 ∧ W'.cell? p3 = some x3 ∧ W'.cell? p4 = some x4 ∧ W'.cell? p5 = some x5 ∧ W'.cell? p6 = some x6 ∧ W'.cell? p7 = some x7 ∧ W'.cell? p8 = some x8 ∧ W'.cell? p9 = some x9 ∧ W'.cell? p10 = some x10 ∧ W'.cell? p11 = some x11 ∧ W'.cell? p12 = some x12 ∧ W'.cell? p13 = some x13 ∧ W'.cell? p14 = some x14 ∧ W'.cell? p15 = some x15 ∧ W'.cell? p16 = some x16 ∧ W'.cell? p17 = some x17 ∧ W'.cell? p18 = some x18 ∧ W'.cell? p19 = some x19 ∧ W'.cell? p20 = some x20 ∧ W'.cell? p21 = some x21 ∧ W'.cell? p22 = some x22 ∧ Below w.heap.size w W' := by
  obtain ⟨h0, h1, h2, h3, h4, h5, h6, h7, h8, h9, h10, h11, h12, h13, h14, h15, h16, h17, h18, h19, h20, h21, h22, h⟩ := h
  exact ⟨kept1 h0 hb, kept1 h1 hb, kept1 h2 hb, kept1 h3 hb, kept1 h4 hb, kept1 h5 hb, kept1 h6 hb, kept1 h7 hb, kept1 h8 hb, kept1 h9 hb, kept1 h10 hb, kept1 h11 hb, kept1 h12 hb, kept1 h13 hb, kept1 h14 hb, kept1 h15 hb, kept1 h16 hb, kept1 h17 hb, kept1 h18 hb, kept1 h19 hb, kept1 h20 hb, kept1 h21 hb, kept1 h22 hb, h.trans (hb.mono h.size)⟩

theorem keep24 {w W W' : World} {p0 p1 p2 p3 p4 p5 p6 p7 p8 p9 p10 p11 p12 p13 p14 p15 p16 p17 p18 p19 p20 p21 p22 p23 : Addr} {x0 x1 x2 x3 x4 x5 x6 x7 x8 x9 x10 x11 x12 x13 x14 x15 x16 x17 x18 x19 x20 x21 x22 x23 : Value} (h : W.cell? p0 = some x0 ∧ W.cell? p1 = some x1 ∧ W.cell? p2 = some x2 ∧ W.cell? p3 = some x3 ∧ W.cell? p4 = some x4 ∧ W.cell? p5 = some x5 ∧ W.cell? p6 = some x6 ∧ W.cell? p7 = some x7 ∧ W.cell? p8 = some x8 ∧ W.cell? p9 = some x9 ∧ W.cell? p10 = some x10 ∧ W.cell? p11 = some x11 ∧ W.cell? p12 = some x12 ∧ W.cell? p13 = some x13 ∧ W.cell? p14 = some x14 ∧ W.cell? p15 = some x15 ∧ W.cell? p16 = some x16 ∧ W.cell? p17 = some x17 ∧ W.cell? p18 = some x18 ∧ W.cell? p19 = some x19 ∧ W.cell? p20 = some x20 ∧ W.cell? p21 = some x21 ∧ W.cell? p22 = some x22 ∧ W.cell? p23 = some x23 ∧ Below w.heap.size w W) (hb : Below W.heap.size W W') : W'.cell? p0 = some x0 ∧ W'.cell? p1 = some x1 ∧ W'.cell? p2 = some x2 ∧ W'.cell? p3 = some x3 ∧ W'.cell? p4 = some x4 ∧ W'.cell? p5 = some x5 ∧ W'.cell? p6 = some x6 ∧ W'.cell? p7 = some x7 ∧ W'.cell? p8 = some x8 ∧ W'.cell? p9 = some x9 ∧ W'.cell? p10 = some x10 ∧ W'.cell? p11 = some x11 ∧ W'.cell? p12 = some x12 ∧ W'.cell? p13 = some x13 ∧ W'.cell? p14 = some x14 ∧ W'.cell? p15 = some x15 ∧ W'.cell? p16 = some x16 ∧ W'.cell? p17 = some x17 ∧ W'.cell? p18 = some x18 ∧ W'.cell? p19 = some x19 ∧ W'.cell? p20 = some x20 ∧ W'.cell? p21 = some x21 ∧ W'.cell? p22 = some x22 ∧ W'.cell? p23 = some x23 ∧ Below w.heap.size w W' := by
  obtain ⟨h0, h1, h2, h3, h4, h5, h6, h7, h8, h9, h10, h11, h12, h13, h14, h15, h16, h17, h18, h19, h20, h21, h22, h23, h⟩ := h
  exact ⟨kept1 h0 hb, kept1 h1 hb, kept1 h2 hb, kept1 h3 hb, kept1 h4 hb, kept1 h5 hb, kept1 h6 hb, kept1 h7 hb, kept1 h8 hb, kept1 h9 hb, kept1 h10 hb, kept1 h11 hb, kept1 h12 hb, kept1 h13 hb, kept1 h14 hb, kept1 h15 hb, kept1 h16 hb, kept1 h17 hb, kept1 h18 hb, kept1 h19 hb, kept1 h20 hb, kept1 h21 hb, kept1 h22 hb, kept1 h23 hb, h.trans (hb.mono h.size)⟩

theorem cell_alloc {W : World} {p : Addr} {x : Value} (h : W.cell? p = some x) (o : Obj) : (W.alloc o).cell? p = some x := kept1 h ((Below.refl _ _).alloc (Nat.le_refl _) o)
theorem below_alloc {w W : World} (h : Below w.heap.size w W) (o : Obj) : Below w.heap.size w (W.alloc o) := h.alloc h.size o
theorem bstep0 {w W W' : World} (h : Below w.heap.size w W) (hb : Below W.heap.size W W') : Below w.heap.size w W' := h.trans (hb.mono h.size)
theorem kept_a1 {W W' : World} {o0 : Obj} {p : Addr} {x : Value} (h : W.cell? p = some x) (hb : Below (W.alloc o0).heap.size (W.alloc o0) W') : W'.cell? p = some x := kept1 (cell_alloc h _) hb
theorem bstep1 {w W W' : World} {o0 : Obj} (h : Below w.heap.size w W) (hb : Below (W.alloc o0).heap.size (W.alloc o0) W') : Below w.heap.size w W' := bstep0 (below_alloc h _) hb
theorem kept_a2 {W W' : World} {o0 o1 : Obj} {p : Addr} {x : Value} (h : W.cell? p = some x) (hb : Below ((W.alloc o0).alloc o1).heap.size ((W.alloc o0).alloc o1) W') : W'.cell? p = some x := kept1 (cell_alloc (cell_alloc h _) _) hb
theorem bstep2 {w W W' : World} {o0 o1 : Obj} (h : Below w.heap.size w W) (hb : Below ((W.alloc o0).alloc o1).heap.size ((W.alloc o0).alloc o1) W') : Below w.heap.size w W' := bstep0 (below_alloc (below_alloc h _) _) hb
theorem kept_a3 {W W' : World} {o0 o1 o2 : Obj} {p : Addr} {x : Value} (h : W.cell? p = some x) (hb : Below (((W.alloc o0).alloc o1).alloc o2).heap.size (((W.alloc o0).alloc o1).alloc o2) W') : W'.cell? p = some x := kept1 (cell_alloc (cell_alloc (cell_alloc h _) _) _) hb
theorem bstep3 {w W W' : World} {o0 o1 o2 : Obj} (h : Below w.heap.size w W) (hb : Below (((W.alloc o0).alloc o1).alloc o2).heap.size (((W.alloc o0).alloc o1).alloc o2) W') : Below w.heap.size w W' := bstep0 (below_alloc (below_alloc (below_alloc h _) _) _) hb
theorem kept_a4 {W W' : World} {o0 o1 o2 o3 : Obj} {p : Addr} {x : Value} (h : W.cell? p = some x) (hb : Below ((((W.alloc o0).alloc o1).alloc o2).alloc o3).heap.size ((((W.alloc o0).alloc o1).alloc o2).alloc o3) W') : W'.cell? p = some x := kept1 (cell_alloc (cell_alloc (cell_alloc (cell_alloc h _) _) _) _) hb
theorem bstep4 {w W W' : World} {o0 o1 o2 o3 : Obj} (h : Below w.heap.size w W) (hb : Below ((((W.alloc o0).alloc o1).alloc o2).alloc o3).heap.size ((((W.alloc o0).alloc o1).alloc o2).alloc o3) W') : Below w.heap.size w W' := bstep0 (below_alloc (below_alloc (below_alloc (below_alloc h _) _) _) _) hb
theorem kept_a5 {W W' : World} {o0 o1 o2 o3 o4 : Obj} {p : Addr} {x : Value} (h : W.cell? p = some x) (hb : Below (((((W.alloc o0).alloc o1).alloc o2).alloc o3).alloc o4).heap.size (((((W.alloc o0).alloc o1).alloc o2).alloc o3).alloc o4) W') : W'.cell? p = some x := kept1 (cell_alloc (cell_alloc (cell_alloc (cell_alloc (cell_alloc h _) _) _) _) _) hb
theorem bstep5 {w W W' : World} {o0 o1 o2 o3 o4 : Obj} (h : Below w.heap.size w W) (hb : Below (((((W.alloc o0).alloc o1).alloc o2).alloc o3).alloc o4).heap.size (((((W.alloc o0).alloc o1).alloc o2).alloc o3).alloc o4) W') : Below w.heap.size w W' := bstep0 (below_alloc (below_alloc (below_alloc (below_alloc (below_alloc h _) _) _) _) _) hb

theorem kept_fr3 {W W' : World} {b : Nat} (h : ∀ o, W.frozen? ⟨b, o, none⟩ = false) (hl : b < W.heap.size) (hb : Below W.heap.size W W') : ∀ o, W'.frozen? ⟨b, o, none⟩ = false := fun o => (hb.frozen (p := ⟨b, o, none⟩) hl).trans (h o)
theorem fz_alloc3 {W W' : World} {o : Obj} {b : Nat} (h : ∀ i, W.frozen? ⟨b, i, none⟩ = false) (hl : b < W.heap.size) (hb : Below (W.alloc o).heap.size (W.alloc o) W') : ∀ i, W'.frozen? ⟨b, i, none⟩ = false := fun i =>
  (hb.frozen (p := ⟨b, i, none⟩) (by show b < (W.alloc o).heap.size; simp; omega)).trans ((((Below.refl _ _).alloc (Nat.le_refl _) o).frozen (p := ⟨b, i, none⟩) hl).trans (h i))
end Go.Proofs.YtmkjmpkicmadcaaDoor

/- All blocks but some are as they were. -/
namespace Go.Proofs.YtmkjmpkicmadcaaDoor
open Go.RowKit

/-- the blocks of w but those of T are as they were -/
structure But (T : Nat → Prop) (w w' : World) : Prop where
  os : w'.os = w.os
  tape : w'.tape = w.tape
  output : w'.output = w.output
  size : w.heap.size ≤ w'.heap.size
  block : ∀ k, k < w.heap.size → ¬ T k → w'.heap[k]? = w.heap[k]?

theorem But.refl (T : Nat → Prop) (w : World) : But T w w := ⟨rfl, rfl, rfl, Nat.le_refl _, fun _ _ _ => rfl⟩
theorem But.trans {T : Nat → Prop} {a b c : World} (h : But T a b) (k : But T b c) : But T a c :=
  ⟨k.os.trans h.os, k.tape.trans h.tape, k.output.trans h.output, Nat.le_trans h.size k.size, fun i hi ht => (k.block i (Nat.lt_of_lt_of_le hi h.size) ht).trans (h.block i hi ht)⟩
theorem But.mono {T S : Nat → Prop} {w w' : World} (h : But T w w') (hs : ∀ k, k < w.heap.size → T k → S k) : But S w w' := ⟨h.os, h.tape, h.output, h.size, fun k hk hn => h.block k hk (fun ht => hn (hs k hk ht))⟩
theorem But.of_below {T : Nat → Prop} {w w' : World} (h : Below w.heap.size w w') : But T w w' := ⟨h.os, h.tape, h.output, h.size, fun k hk _ => h.block k hk⟩
theorem But.below {T : Nat → Prop} {B : Nat} {w w' : World} (h : But T w w') (hB : B ≤ w.heap.size) (ht : ∀ k, k < B → ¬ T k) : Below B w w' := ⟨h.os, h.tape, h.output, h.size, fun k hk => h.block k (by omega) (ht k hk)⟩
theorem But.alloc {T : Nat → Prop} {a w : World} (h : But T a w) (o : Obj) : But T a (w.alloc o) := h.trans (.of_below ((Below.refl _ _).alloc (Nat.le_refl _) o))
theorem But.drew {T : Nat → Prop} {a w : World} (h : But T a w) : But T a w.drew := ⟨h.os, h.tape, h.output, h.size, h.block⟩
theorem But.setCell {T : Nat → Prop} {a w : World} (h : But T a w) {p : Addr} (hp : a.heap.size ≤ p.block ∨ T p.block) (u : Value) : But T a (w.setCell p u) := by
  refine ⟨h.os, h.tape, h.output, by simpa using h.size, fun k hk ht => ?_⟩
  have hne : k ≠ p.block := by
    intro e
    rcases hp with hp | hp
    · omega
    · exact ht (e ▸ hp)
  rw [Below.heap_setCell _ _ _ _ hne]
  exact h.block k hk ht
theorem But.grown {T : Nat → Prop} {a w w' : World} {row : Option Nat} (h : But T a w) (hg : w.grownBy w' row) (hr : ∀ k, row = some k → a.heap.size ≤ k ∨ T k) : But T a w' := by
  refine ⟨hg.os.trans h.os, hg.tape.trans h.tape, hg.output.trans h.output, Nat.le_trans h.size hg.size, fun k hk ht => ?_⟩
  rw [hg.block k (Nat.lt_of_lt_of_le hk h.size) ?_]
  · exact h.block k hk ht
  · intro e
    rcases hr k e.symm with h1 | h1
    · omega
    · exact ht h1
theorem But.cell {T : Nat → Prop} {w w' : World} (h : But T w w') {p : Addr} (hp : p.block < w.heap.size) (ht : ¬ T p.block) : w'.cell? p = w.cell? p := World.cell?_of_block (h.block p.block hp ht)
theorem But.frozen {T : Nat → Prop} {w w' : World} (h : But T w w') {p : Addr} (hp : p.block < w.heap.size) (ht : ¬ T p.block) : w'.frozen? p = w.frozen? p := World.frozen?_of_block (h.block p.block hp ht)
theorem But.kept {T : Nat → Prop} {w w' : World} {p : Addr} {x : Value} (h : But T w w') (hc : w.cell? p = some x) (ht : ¬ T p.block) : w'.cell? p = some x := (h.cell (block_lt_of_cell hc) ht).trans hc
theorem But.row {T : Nat → Prop} {w w' : World} {b : Nat} {t : TypeId} {n : Nat} {f : Nat → Value} (h : But T w w') (hr : w.rowIs b t n f) (ht : ¬ T b) : w'.rowIs b t n f := hr.of_block (h.block b hr.lt ht)
theorem Below.row {w w' : World} {b : Nat} {t : TypeId} {n : Nat} {f : Nat → Value} (h : Below w.heap.size w w') (hr : w.rowIs b t n f) : w'.rowIs b t n f := hr.of_block (h.block b hr.lt)
/-- what a slice that is owned looks like, as a row -/
theorem owns_row {w : World} {base : Nat} {e : TypeId} {v : Value} {n : Nat} {xs : List Value} (h : w.ownsRow base e 1 v n xs) (hn : 0 < n) :
    ∃ g cap f, v = .slice (some ⟨g, 0, none⟩) n cap ∧ base ≤ g ∧ n ≤ cap ∧ cap ≤ maxLen ∧ w.rowIs g e cap f ∧ ∀ k, k < n → xs[k]? = some (f k) := by
  obtain ⟨hl, h2⟩ := h
  rcases h2 with ⟨_, h0⟩ | ⟨g, cap, cur, hv, hb, hg, hle, hcm, hs, ht⟩
  · omega
  · refine ⟨g, cap, fun i => (cur[i]?).getD undef, hv, hb, hle, hcm, ⟨cur, hg, by omega, fun i hi => ?_⟩, fun k hk => ?_⟩
    · show cur[i]? = some ((cur[i]?).getD undef)
      rw [Array.getElem?_eq_getElem (by omega)]; rfl
    · show xs[k]? = some ((cur[k]?).getD undef)
      rw [← ht, List.getElem?_take_of_lt (by omega), Array.getElem?_toList, Array.getElem?_eq_getElem (by omega)]; rfl
end Go.Proofs.YtmkjmpkicmadcaaDoor

/- A loop over an iterator that hands out a known list of values: the body is asked only at the value that comes next. -/
namespace Go.Proofs.YtmkjmpkicmadcaaDoor
open Go.RowKit
attribute [local go_sem] Oper.semAt_some

/-- the loop's own two blocks, and what the caller keeps -/
structure Held (rec : LoopState → Option Code → Loop) (b : Nat) (st : LoopState) (pe : Option Code) (X : Prop) (W : World) : Prop where
  own : X
  loop : W.heap[b + 1]? = some (.loop (rec st pe))
  defs : W.heap[b]? = some (.deferred (some []))

/-- what an iterator does that hands out the values L, one behind the other, in worlds that keep what it reads -/
def HandsG {α : Type} (enc : α → Value) (n : Nat) (P : Program) (gf : Nat) (lb : Array Value) (L : List α) (Keep : World → Prop) (w0 : World) : Prop :=
  ∀ (l : Nat) (J Jx : List α → World → Prop) (W : World), Below w0.heap.size w0 W → AbidesFrom W.heap.size J → (∀ pre W1, J pre W1 → Keep W1) →
    (∀ pre x W1, J pre W1 → pre ++ [x] <+: L → YieldAt Fence.wide (n - 1) P l #[enc x] W1 fun e W' =>
      (e = .returned (.bool true) ∧ J (pre ++ [x]) W' ∧ KeepsWalks W1 W') ∨ (e = .returned (.bool false) ∧ Jx (pre ++ [x]) W')) →
    J [] W →
    CallsIn Fence.wide n P gf (#[.func (.yield l) #[] #[]] ++ lb) W fun e W' => (∃ v, e = .returned v) ∧ (J L W' ∨ ∃ pre, pre <+: L ∧ Jx pre W')

variable {P : Program} {n : Nat}

theorem range_nextG {α : Type} {enc : α → Value} {g : Operand} {t1 : Tmp} {assign body : Code} {Q : Exit → Act → World → Prop} {a : Act} {w : World} (h1 : 1 ≤ n) {gf : Nat} {lb : Array Value}
    (hg : a.eval g = .func (.func gf) #[] lb) (eg : ∀ args w, (callFunc gf args).run P w = .ok (.enter gf args) w) {L : List α} {w0 : World} {Keep : World → Prop} (hseq : HandsG enc (n - 1) P gf lb L Keep w0) (hb0 : Below w0.heap.size w0 w)
    (I : List α → World → Prop) (Ix : List α → World → Prop) (hI : OwnFrom w.heap.size I) (hIx : OwnFrom w.heap.size Ix) (hKeep : ∀ pre W, I pre W → Keep W) (h0 : I [] w) (a₁ : α → Act)
    (hassign : ∀ (l : Nat) (x : α) (W : World) (K : Act → World → Prop), K (a₁ x) W →
      assign.wpIn (Fence.wide.inRound l) (n - 1 - 1) P (Exit.then K (fun _ _ _ => False)) { tmps := (#[t1].zip #[enc x]).foldl (fun t (p, v) => t.setIfInBounds p v) a.tmps, defers := [] } W)
    (hbody : ∀ (l : Nat) (pre : List α) (x : α) (W : World), I pre W → pre ++ [x] <+: L → body.wpIn (Fence.wide.inRound l) (n - 1 - 1) P (fun e _ W' => match e with
      | .normal => KeepsFrom w.heap.size W W' ∧ KeepsWalks W W' ∧ I (pre ++ [x]) W'
      | .ret => KeepsFrom w.heap.size W W' ∧ Ix (pre ++ [x]) W'
      | _ => False) (a₁ x) W)
    (hdone : ∀ (D : Nat) (W : World), w.heap.size ≤ D → I L W → W.heap[D]? = some (.deferred (some [])) → Q .normal { a with defers := { target := .collected D, args := #[] } :: a.defers } W)
    (hstop : ∀ (D : Nat) (pre : List α) (W : World), w.heap.size ≤ D → pre <+: L → Ix pre W → W.heap[D]? = some (.deferred (some [])) → Code.ret.wpIn Fence.wide n P Q { a with defers := { target := .collected D, args := #[] } :: a.defers } W) :
    (Code.rangeFunc g #[t1] assign body).wpIn Fence.wide n P Q a w := by
  refine wpIn_rangeFunc ?_
  intro fn hfn
  obtain ⟨rec, hrec⟩ : ∃ rec : LoopState → Option Code → Loop, rec = fun st pe => { state := st, pending := pe, fn, tmps := a.tmps, params := #[t1], assign, body, defers := w.heap.size } := ⟨_, rfl⟩
  have hq : ∀ st pe, rec st pe = { state := st, pending := pe, fn, tmps := a.tmps, params := #[t1], assign, body, defers := w.heap.size } := fun st pe => by rw [hrec]
  clear hrec
  -- the world in which the iterator begins: two new blocks
  obtain ⟨W1, hW1⟩ : ∃ W1, (w.alloc (.deferred (some []))).alloc (.loop (rec .ready none)) = W1 := ⟨_, rfl⟩
  have hz : w.heap.size + 1 + 1 ≤ W1.heap.size := by rw [← hW1]; simp
  have start : Held rec w.heap.size .ready none (I [] W1) W1 := by
    refine ⟨?_, ?_, ?_⟩
    · rw [← hW1]; exact hI.alloc _ (hI.alloc _ h0)
    · have := World.alloc_heap_new (w.alloc (.deferred (some []))) (.loop (rec .ready none))
      rw [World.size_alloc] at this
      rw [← hW1]; exact this
    · rw [← hW1]; exact (Below.heap_alloc _ _ _ (by simp)).trans (World.alloc_heap_new w _)
  have hb1 : Below w0.heap.size w0 W1 := by
    rw [← hW1]; exact hb0.trans ((((Below.refl _ w).alloc (Nat.le_refl _) _).alloc (by simp) _).mono hb0.size)
  refine ⟨w.heap.size + 1, [{ target := .collected w.heap.size, args := #[] }], W1, { target := .fn (.func gf) lb, args := #[.func (.yield (w.heap.size + 1)) #[] #[]] }, W1, gf, #[.func (.yield (w.heap.size + 1)) #[] #[]] ++ lb, W1,
    by rw [← hW1, hq]; exact run_enterLoop_outer _ _ _ _ _, by simp only [resolve, hg]; simp [go_sem], fun _ _ => trivial, by simp [invoke, go_sem, eg], fun _ => h1, ?_⟩
  clear hW1 h0 hb0
  -- what the caller keeps abides the iterator's own steps
  have far : ∀ {A : World} {row : Option Nat}, (∀ r, row = some r → W1.heap.size ≤ r ∧ ∃ o : Obj, A.heap[r]? = some o ∧ o.isWalk = true) → ∀ r, row = some r → w.heap.size ≤ r ∧ ∃ o : Obj, A.heap[r]? = some o ∧ o.isCells = false := by
    intro A row hr r e
    obtain ⟨h2, o, h3, h4⟩ := hr r e
    exact ⟨by omega, o, h3, Obj.not_cells_of_walk h4⟩
  have abide : ∀ (K : List α → World → Prop), OwnFrom w.heap.size K → ∀ st pe, AbidesFrom W1.heap.size fun pre W => Held rec w.heap.size st pe (K pre W) W := by
    intro K hK st pe p A B row hs hgr hr
    have keep := fun {k : Nat} {o : Obj} (h : A.heap[k]? = some o) (ho : o.isWalk = false) => (grownBy_keeps hgr (fun r e => (hr r e).2) h ho).trans h
    exact ⟨hK p A B row hs.own hgr (far hr), keep hs.loop rfl, keep hs.defs rfl⟩
  -- a turn of the loop's own record
  have turn : ∀ (K : List α → World → Prop), OwnFrom w.heap.size K → ∀ pre W st pe st' pe', Held rec w.heap.size st pe (K pre W) W → Held rec w.heap.size st' pe' (K pre (W.putObj (w.heap.size + 1) (.loop (rec st' pe')))) (W.putObj (w.heap.size + 1) (.loop (rec st' pe'))) := by
    intro K hK pre W st pe st' pe' h
    exact ⟨hK.putObj _ h.own (by omega) h.loop rfl, World.putObj_heap_same (Array.getElem?_eq_some_iff.1 h.loop).1, (World.putObj_heap_other (by omega)).trans h.defs⟩
  refine (hseq (w.heap.size + 1) (fun pre W => Held rec w.heap.size .ready none (I pre W) W) (fun pre W => Held rec w.heap.size .done (some .ret) (Ix pre W) W) W1 hb1 (abide I hI _ _) (fun pre W1 h => hKeep pre W1 h.own) ?_ start).mono ?_
  · intro pre x W h hpre
    have hy := run_yield (P := P) (args := #[enc x]) h.loop (by rw [hq]; rfl)
    rw [hq] at hy
    have h2 := turn I hI pre W .ready none .busy none h
    have hbr := run_beginRound (P := P) h.loop (by rw [hq])
    refine ⟨fn, _, assign, body, hy, roundIn_of_wpIn hfn (hassign _ x W _ ⟨_, hbr, ?_⟩)⟩
    have e2 : ({ rec .ready none with state := .busy } : Loop) = rec .busy none := by rw [hq, hq]
    rw [e2]
    have k2 : KeepsWalks W (W.putObj (w.heap.size + 1) (.loop (rec .busy none))) := KeepsWalks.putObj _ h.loop rfl
    refine wpIn_mono (hbody _ pre x _ h2.own hpre) ?_
    intro e a3 W3 hp
    cases e with
    | normal =>
      obtain ⟨hk3, hw3, hi3⟩ := hp
      have h3 : Held rec w.heap.size .busy none (I (pre ++ [x]) W3) W3 := ⟨hi3, hk3.same _ _ (by omega) h2.loop rfl, hk3.same _ _ (Nat.le_refl _) h2.defs rfl⟩
      have hr := run_endRound (P := P) none h3.loop
      have e3 : ({ rec .busy none with state := if (none : Option Code).isNone then .ready else .done, pending := none } : Loop) = rec .ready none := by rw [hq, hq]; rfl
      rw [e3] at hr
      exact ⟨_, _, hr, .inl ⟨rfl, turn I hI _ _ _ _ _ _ h3, (k2.trans hw3).trans (KeepsWalks.putObj _ h3.loop rfl)⟩⟩
    | ret =>
      obtain ⟨hk3, hi3⟩ := hp
      have h3 : Held rec w.heap.size .busy none (Ix (pre ++ [x]) W3) W3 := ⟨hi3, hk3.same _ _ (by omega) h2.loop rfl, hk3.same _ _ (Nat.le_refl _) h2.defs rfl⟩
      have hr := run_endRound (P := P) (some .ret) h3.loop
      have e3 : ({ rec .busy none with state := if (some Code.ret : Option Code).isNone then .ready else .done, pending := some .ret } : Loop) = rec .done (some .ret) := by rw [hq, hq]; rfl
      rw [e3] at hr
      exact ⟨_, _, hr, .inr ⟨rfl, turn Ix hIx _ _ _ _ _ _ h3⟩⟩
    | exit id => exact hp.elim
    | goto t => exact hp.elim
    | panic ch => exact hp.elim
    | outgrown => exact hp.elim
  · rintro e W2 ⟨⟨v, rfl⟩, h | ⟨pre, hpre, h⟩⟩
    · have hr := run_endLoop (P := P) h.loop (by rw [hq]; simp)
      have e3 : ({ rec .ready none with state := .exhausted } : Loop) = rec .exhausted none := by rw [hq, hq]
      rw [e3] at hr
      have h3 := turn I hI _ _ _ _ .exhausted none h
      exact ⟨none, _, by rw [hr, hq], hdone _ _ (Nat.le_refl _) h3.own h3.defs⟩
    · have hr := run_endLoop (P := P) h.loop (by rw [hq]; simp)
      have h3 := turn Ix hIx _ _ _ _ .exhausted (some .ret) h
      have e3 : ({ rec .done (some .ret) with state := .exhausted } : Loop) = rec .exhausted (some .ret) := by rw [hq, hq]
      rw [e3] at hr
      exact ⟨some .ret, _, by rw [hr, hq], hstop _ pre _ (Nat.le_refl _) hpre h3.own h3.defs⟩

theorem pre_next {α : Type} {L pre : List α} {x : α} (h : pre <+: L) (hx : L[pre.length]? = some x) : pre ++ [x] <+: L := by
  obtain ⟨t, rfl⟩ := h
  cases t with
  | nil => simp at hx
  | cons y t => simp at hx; subst hx; exact ⟨t, by simp⟩
theorem pre_last {α : Type} {L pre : List α} {x : α} (h : pre ++ [x] <+: L) : L[pre.length]? = some x := by obtain ⟨t, rfl⟩ := h; simp
end Go.Proofs.YtmkjmpkicmadcaaDoor

/- A loop over an iterator that hands out a known list of rows of values (XIt has one value a round). -/
namespace Go.Proofs.YtmkjmpkicmadcaaDoor
open Go.RowKit
attribute [local go_sem] Oper.semAt_some

/-- what an iterator does that hands out the values L, one behind the other, in worlds that keep what it reads -/
def HandsV {α : Type} (enc : α → Array Value) (n : Nat) (P : Program) (gf : Nat) (lb : Array Value) (L : List α) (Keep : World → Prop) (w0 : World) : Prop :=
  ∀ (l : Nat) (J Jx : List α → World → Prop) (W : World), Below w0.heap.size w0 W → AbidesFrom W.heap.size J → (∀ pre W1, J pre W1 → Keep W1) →
    (∀ pre x W1, J pre W1 → pre ++ [x] <+: L → YieldAt Fence.wide (n - 1) P l (enc x) W1 fun e W' =>
      (e = .returned (.bool true) ∧ J (pre ++ [x]) W' ∧ KeepsWalks W1 W') ∨ (e = .returned (.bool false) ∧ Jx (pre ++ [x]) W')) →
    J [] W →
    CallsIn Fence.wide n P gf (#[.func (.yield l) #[] #[]] ++ lb) W fun e W' => (∃ v, e = .returned v) ∧ (J L W' ∨ ∃ pre, pre <+: L ∧ Jx pre W')

variable {P : Program} {n : Nat}

theorem range_nextV {α : Type} {enc : α → Array Value} {g : Operand} {ps : Array Tmp} (hps : ∀ x, (enc x).size = ps.size) {assign body : Code} {Q : Exit → Act → World → Prop} {a : Act} {w : World} (h1 : 1 ≤ n) {gf : Nat} {lb : Array Value}
    (hg : a.eval g = .func (.func gf) #[] lb) (eg : ∀ args w, (callFunc gf args).run P w = .ok (.enter gf args) w) {L : List α} {w0 : World} {Keep : World → Prop} (hseq : HandsV enc (n - 1) P gf lb L Keep w0) (hb0 : Below w0.heap.size w0 w)
    (I : List α → World → Prop) (Ix : List α → World → Prop) (hI : OwnFrom w.heap.size I) (hIx : OwnFrom w.heap.size Ix) (hKeep : ∀ pre W, I pre W → Keep W) (h0 : I [] w) (a₁ : α → Act)
    (hassign : ∀ (l : Nat) (x : α) (W : World) (K : Act → World → Prop), K (a₁ x) W →
      assign.wpIn (Fence.wide.inRound l) (n - 1 - 1) P (Exit.then K (fun _ _ _ => False)) { tmps := (ps.zip (enc x)).foldl (fun t (p, v) => t.setIfInBounds p v) a.tmps, defers := [] } W)
    (hbody : ∀ (l : Nat) (pre : List α) (x : α) (W : World), I pre W → pre ++ [x] <+: L → body.wpIn (Fence.wide.inRound l) (n - 1 - 1) P (fun e _ W' => match e with
      | .normal => KeepsFrom w.heap.size W W' ∧ KeepsWalks W W' ∧ I (pre ++ [x]) W'
      | .ret => KeepsFrom w.heap.size W W' ∧ Ix (pre ++ [x]) W'
      | _ => False) (a₁ x) W)
    (hdone : ∀ (D : Nat) (W : World), w.heap.size ≤ D → I L W → W.heap[D]? = some (.deferred (some [])) → Q .normal { a with defers := { target := .collected D, args := #[] } :: a.defers } W)
    (hstop : ∀ (D : Nat) (pre : List α) (W : World), w.heap.size ≤ D → pre <+: L → Ix pre W → W.heap[D]? = some (.deferred (some [])) → Code.ret.wpIn Fence.wide n P Q { a with defers := { target := .collected D, args := #[] } :: a.defers } W) :
    (Code.rangeFunc g ps assign body).wpIn Fence.wide n P Q a w := by
  refine wpIn_rangeFunc ?_
  intro fn hfn
  obtain ⟨rec, hrec⟩ : ∃ rec : LoopState → Option Code → Loop, rec = fun st pe => { state := st, pending := pe, fn, tmps := a.tmps, params := ps, assign, body, defers := w.heap.size } := ⟨_, rfl⟩
  have hq : ∀ st pe, rec st pe = { state := st, pending := pe, fn, tmps := a.tmps, params := ps, assign, body, defers := w.heap.size } := fun st pe => by rw [hrec]
  clear hrec
  -- the world in which the iterator begins: two new blocks
  obtain ⟨W1, hW1⟩ : ∃ W1, (w.alloc (.deferred (some []))).alloc (.loop (rec .ready none)) = W1 := ⟨_, rfl⟩
  have hz : w.heap.size + 1 + 1 ≤ W1.heap.size := by rw [← hW1]; simp
  have start : Held rec w.heap.size .ready none (I [] W1) W1 := by
    refine ⟨?_, ?_, ?_⟩
    · rw [← hW1]; exact hI.alloc _ (hI.alloc _ h0)
    · have := World.alloc_heap_new (w.alloc (.deferred (some []))) (.loop (rec .ready none))
      rw [World.size_alloc] at this
      rw [← hW1]; exact this
    · rw [← hW1]; exact (Below.heap_alloc _ _ _ (by simp)).trans (World.alloc_heap_new w _)
  have hb1 : Below w0.heap.size w0 W1 := by
    rw [← hW1]; exact hb0.trans ((((Below.refl _ w).alloc (Nat.le_refl _) _).alloc (by simp) _).mono hb0.size)
  refine ⟨w.heap.size + 1, [{ target := .collected w.heap.size, args := #[] }], W1, { target := .fn (.func gf) lb, args := #[.func (.yield (w.heap.size + 1)) #[] #[]] }, W1, gf, #[.func (.yield (w.heap.size + 1)) #[] #[]] ++ lb, W1,
    by rw [← hW1, hq]; exact run_enterLoop_outer _ _ _ _ _, by simp only [resolve, hg]; simp [go_sem], fun _ _ => trivial, by simp [invoke, go_sem, eg], fun _ => h1, ?_⟩
  clear hW1 h0 hb0
  -- what the caller keeps abides the iterator's own steps
  have far : ∀ {A : World} {row : Option Nat}, (∀ r, row = some r → W1.heap.size ≤ r ∧ ∃ o : Obj, A.heap[r]? = some o ∧ o.isWalk = true) → ∀ r, row = some r → w.heap.size ≤ r ∧ ∃ o : Obj, A.heap[r]? = some o ∧ o.isCells = false := by
    intro A row hr r e
    obtain ⟨h2, o, h3, h4⟩ := hr r e
    exact ⟨by omega, o, h3, Obj.not_cells_of_walk h4⟩
  have abide : ∀ (K : List α → World → Prop), OwnFrom w.heap.size K → ∀ st pe, AbidesFrom W1.heap.size fun pre W => Held rec w.heap.size st pe (K pre W) W := by
    intro K hK st pe p A B row hs hgr hr
    have keep := fun {k : Nat} {o : Obj} (h : A.heap[k]? = some o) (ho : o.isWalk = false) => (grownBy_keeps hgr (fun r e => (hr r e).2) h ho).trans h
    exact ⟨hK p A B row hs.own hgr (far hr), keep hs.loop rfl, keep hs.defs rfl⟩
  -- a turn of the loop's own record
  have turn : ∀ (K : List α → World → Prop), OwnFrom w.heap.size K → ∀ pre W st pe st' pe', Held rec w.heap.size st pe (K pre W) W → Held rec w.heap.size st' pe' (K pre (W.putObj (w.heap.size + 1) (.loop (rec st' pe')))) (W.putObj (w.heap.size + 1) (.loop (rec st' pe'))) := by
    intro K hK pre W st pe st' pe' h
    exact ⟨hK.putObj _ h.own (by omega) h.loop rfl, World.putObj_heap_same (Array.getElem?_eq_some_iff.1 h.loop).1, (World.putObj_heap_other (by omega)).trans h.defs⟩
  refine (hseq (w.heap.size + 1) (fun pre W => Held rec w.heap.size .ready none (I pre W) W) (fun pre W => Held rec w.heap.size .done (some .ret) (Ix pre W) W) W1 hb1 (abide I hI _ _) (fun pre W1 h => hKeep pre W1 h.own) ?_ start).mono ?_
  · intro pre x W h hpre
    have hy := run_yield (P := P) (args := (enc x)) h.loop (by rw [hq]; exact hps x)
    rw [hq] at hy
    have h2 := turn I hI pre W .ready none .busy none h
    have hbr := run_beginRound (P := P) h.loop (by rw [hq])
    refine ⟨fn, _, assign, body, hy, roundIn_of_wpIn hfn (hassign _ x W _ ⟨_, hbr, ?_⟩)⟩
    have e2 : ({ rec .ready none with state := .busy } : Loop) = rec .busy none := by rw [hq, hq]
    rw [e2]
    have k2 : KeepsWalks W (W.putObj (w.heap.size + 1) (.loop (rec .busy none))) := KeepsWalks.putObj _ h.loop rfl
    refine wpIn_mono (hbody _ pre x _ h2.own hpre) ?_
    intro e a3 W3 hp
    cases e with
    | normal =>
      obtain ⟨hk3, hw3, hi3⟩ := hp
      have h3 : Held rec w.heap.size .busy none (I (pre ++ [x]) W3) W3 := ⟨hi3, hk3.same _ _ (by omega) h2.loop rfl, hk3.same _ _ (Nat.le_refl _) h2.defs rfl⟩
      have hr := run_endRound (P := P) none h3.loop
      have e3 : ({ rec .busy none with state := if (none : Option Code).isNone then .ready else .done, pending := none } : Loop) = rec .ready none := by rw [hq, hq]; rfl
      rw [e3] at hr
      exact ⟨_, _, hr, .inl ⟨rfl, turn I hI _ _ _ _ _ _ h3, (k2.trans hw3).trans (KeepsWalks.putObj _ h3.loop rfl)⟩⟩
    | ret =>
      obtain ⟨hk3, hi3⟩ := hp
      have h3 : Held rec w.heap.size .busy none (Ix (pre ++ [x]) W3) W3 := ⟨hi3, hk3.same _ _ (by omega) h2.loop rfl, hk3.same _ _ (Nat.le_refl _) h2.defs rfl⟩
      have hr := run_endRound (P := P) (some .ret) h3.loop
      have e3 : ({ rec .busy none with state := if (some Code.ret : Option Code).isNone then .ready else .done, pending := some .ret } : Loop) = rec .done (some .ret) := by rw [hq, hq]; rfl
      rw [e3] at hr
      exact ⟨_, _, hr, .inr ⟨rfl, turn Ix hIx _ _ _ _ _ _ h3⟩⟩
    | exit id => exact hp.elim
    | goto t => exact hp.elim
    | panic ch => exact hp.elim
    | outgrown => exact hp.elim
  · rintro e W2 ⟨⟨v, rfl⟩, h | ⟨pre, hpre, h⟩⟩
    · have hr := run_endLoop (P := P) h.loop (by rw [hq]; simp)
      have e3 : ({ rec .ready none with state := .exhausted } : Loop) = rec .exhausted none := by rw [hq, hq]
      rw [e3] at hr
      have h3 := turn I hI _ _ _ _ .exhausted none h
      exact ⟨none, _, by rw [hr, hq], hdone _ _ (Nat.le_refl _) h3.own h3.defs⟩
    · have hr := run_endLoop (P := P) h.loop (by rw [hq]; simp)
      have h3 := turn Ix hIx _ _ _ _ .exhausted (some .ret) h
      have e3 : ({ rec .done (some .ret) with state := .exhausted } : Loop) = rec .exhausted (some .ret) := by rw [hq, hq]
      rw [e3] at hr
      exact ⟨some .ret, _, by rw [hr, hq], hstop _ pre _ (Nat.le_refl _) hpre h3.own h3.defs⟩

end Go.Proofs.YtmkjmpkicmadcaaDoor

/- Layer 3, plain: the eight turns of a square, a group that acts on its cells. -/
namespace Pl

/-- the row and the column to which a turn takes a cell -/
def tkRow (t r c last : Nat) : Nat := match t with
  | 0 => r | 1 => c | 2 => last - r | 3 => last - c | 4 => r | 5 => c | 6 => last - r | _ => last - c
def tkCol (t r c last : Nat) : Nat := match t with
  | 0 => c | 1 => last - r | 2 => last - c | 3 => r | 4 => last - c | 5 => r | 6 => c | _ => last - r
/-- the cell to which a turn takes a cell -/
def tk (side t x : Nat) : Nat := tkRow t (x / side) (x % side) (side - 1) * side + tkCol t (x / side) (x % side) (side - 1)
/-- one turn, and then another one -/
def cmp (a b : Nat) : Nat := (if 4 ≤ a then (a + 8 - b) % 4 else (a + b) % 4) + (if decide (4 ≤ a) = decide (4 ≤ b) then 0 else 4)
def inv (a : Nat) : Nat := if 4 ≤ a then a else (4 - a) % 4

theorem cmp_lt {a b : Nat} (_ : a < 8) (_ : b < 8) : cmp a b < 8 := by
  unfold cmp
  have h1 := Nat.mod_lt (a + 8 - b) (show 4 > 0 by omega)
  have h2 := Nat.mod_lt (a + b) (show 4 > 0 by omega)
  split <;> split <;> omega
theorem inv_lt {a : Nat} (_ : a < 8) : inv a < 8 := by unfold inv; split <;> omega
theorem group_all : (List.range 8).all (fun a => cmp a 0 == a && cmp 0 a == a && cmp a (inv a) == 0 && cmp (inv a) a == 0 && inv (inv a) == a && (List.range 8).all fun b => inv (cmp a b) == cmp (inv b) (inv a) && (List.range 8).all fun c => cmp (cmp a b) c == cmp a (cmp b c)) = true := by decide +kernel
theorem act_all : (List.range 7).all (fun s => (List.range (s * s)).all fun x => tk s 0 x == x && (List.range 8).all fun a => decide (tk s a x < s * s) && (List.range 8).all fun b => tk s (cmp a b) x == tk s b (tk s a x)) = true := by decide +kernel

theorem range_all {n : Nat} {p : Nat → Bool} (h : (List.range n).all p = true) {i : Nat} (hi : i < n) : p i = true := List.all_eq_true.1 h i (List.mem_range.2 hi)
structure Gp (a : Nat) : Prop where
  one : cmp a 0 = a
  one' : cmp 0 a = a
  inv : cmp a (inv a) = 0
  inv' : cmp (Pl.inv a) a = 0
  inv2 : Pl.inv (Pl.inv a) = a
theorem gp {a : Nat} (h : a < 8) : Gp a := by
  have := range_all group_all h
  simp only [Bool.and_eq_true, beq_iff_eq] at this
  exact ⟨this.1.1.1.1.1, this.1.1.1.1.2, this.1.1.1.2, this.1.1.2, this.1.2⟩
theorem cmp_assoc {a b c : Nat} (ha : a < 8) (hb : b < 8) (hc : c < 8) : cmp (cmp a b) c = cmp a (cmp b c) := by
  have := range_all group_all ha
  rw [Bool.and_eq_true] at this
  have := range_all this.2 hb
  rw [Bool.and_eq_true] at this
  exact beq_iff_eq.1 (range_all this.2 hc)
theorem inv_cmp {a b : Nat} (ha : a < 8) (hb : b < 8) : inv (cmp a b) = cmp (inv b) (inv a) := by
  have := range_all group_all ha
  rw [Bool.and_eq_true] at this
  have := range_all this.2 hb
  rw [Bool.and_eq_true] at this
  exact beq_iff_eq.1 this.1
theorem act {s x : Nat} (hs : s ≤ 6) (hx : x < s * s) : tk s 0 x = x ∧ ∀ a, a < 8 → tk s a x < s * s ∧ ∀ b, b < 8 → tk s (cmp a b) x = tk s b (tk s a x) := by
  have := range_all (range_all act_all (show s < 7 by omega)) hx
  rw [Bool.and_eq_true] at this
  refine ⟨beq_iff_eq.1 this.1, fun a ha => ?_⟩
  have := range_all this.2 ha
  rw [Bool.and_eq_true] at this
  exact ⟨of_decide_eq_true this.1, fun b hb => beq_iff_eq.1 (range_all this.2 hb)⟩
theorem tk_lt {s x a : Nat} (hs : s ≤ 6) (hx : x < s * s) (ha : a < 8) : tk s a x < s * s := ((act hs hx).2 a ha).1
theorem tk_cmp {s x a b : Nat} (hs : s ≤ 6) (hx : x < s * s) (ha : a < 8) (hb : b < 8) : tk s (cmp a b) x = tk s b (tk s a x) := ((act hs hx).2 a ha).2 b hb
theorem tk_inv {s x a : Nat} (hs : s ≤ 6) (hx : x < s * s) (ha : a < 8) : tk s (inv a) (tk s a x) = x := by
  rw [← tk_cmp hs hx ha (inv_lt ha), (gp ha).inv, (act hs hx).1]
theorem tk_inv' {s x a : Nat} (hs : s ≤ 6) (hx : x < s * s) (ha : a < 8) : tk s a (tk s (inv a) x) = x := by
  rw [← tk_cmp hs hx (inv_lt ha) ha, (gp ha).inv', (act hs hx).1]

/-- the specification's way to turn -/
def spin : Nat → Bool → Nat → Nat → Nat → Nat × Nat
  | 0, _, r, c, _ => (r, c)
  | k + 1, false, r, c, last => spin k false c (last - r) last
  | k + 1, true, r, c, last => spin k true (last - c) r last
def tkR (side t x : Nat) : Nat :=
  let p := spin (t % 4) (decide (4 ≤ t)) (x / side) (if 4 ≤ t then side - 1 - x % side else x % side) (side - 1)
  p.1 * side + p.2
theorem turned_all : (List.range 7).all (fun s => (List.range (s * s)).all fun x => (List.range 8).all fun t => tkR s t x == tk s t x) = true := by decide +kernel
theorem turned_eq {s x t : Nat} (hs : s ≤ 6) (hx : x < s * s) (ht : t < 8) : tkR s t x = tk s t x := beq_iff_eq.1 (range_all (range_all (range_all turned_all (show s < 7 by omega)) hx) ht)
/-- the cell 1 of a square of side 4 goes to eight cells -/
def aft (a b : Nat) : Nat := ((List.range 8).find? fun t => tk 4 t 1 == tk 4 b (tk 4 a 1)).getD 0
def bck (a : Nat) : Nat := ((List.range 8).find? fun t => aft a t == 0).getD 0
theorem aft_all : (List.range 8).all (fun a => bck a == inv a && (List.range 8).all fun b => aft a b == cmp a b) = true := by decide +kernel
theorem aft_eq {a b : Nat} (ha : a < 8) (hb : b < 8) : aft a b = cmp a b := by
  have := range_all aft_all ha
  rw [Bool.and_eq_true] at this
  exact beq_iff_eq.1 (range_all this.2 hb)
theorem bck_eq {a : Nat} (ha : a < 8) : bck a = inv a := by
  have := range_all aft_all ha
  rw [Bool.and_eq_true] at this
  exact beq_iff_eq.1 this.1
end Pl

/- Contracts of package plate: the small functions. -/
namespace Pl
/-- an index of several things; a side; a turn; whether a turn reflects; the working of a step -/
def ix (i c : Int) : Bool := decide (0 ≤ i ∧ i < c)
def sd (i : Int) : Bool := decide (1 ≤ i ∧ i ≤ 6)
def rfs (i : Int) : Bool := decide (4 ≤ i)
def wof (i : Int) : Int := if i < 0 then -1 - i else i
end Pl
namespace Go.Proofs.YtmkjmpkicmadcaaDoor
open Go.RowKit

set_option maxHeartbeats 400000 in
theorem pIndex_any (i c : Int) (w : World) :
    Calls Tryd.prog 21 #[.int .i64 i, .int .i64 c] w fun e w' => e = .returned (.bool (Pl.ix i c)) ∧ w' = w := by
  by_cases h1 : 0 ≤ i
  · by_cases h2 : i < c
    · go_enter Tryd.func21, Tryd.ntmps21
      go_wp2
      go_ret
      exact ⟨ret_bool (by simp [Pl.ix, Pl.sd, h1, h2]), rfl⟩
    · go_enter Tryd.func21, Tryd.ntmps21
      go_wp2
      go_ret
      exact ⟨ret_bool (by simp [Pl.ix, Pl.sd, h2]), rfl⟩
  · go_enter Tryd.func21, Tryd.ntmps21
    go_wp2
    go_ret
    exact ⟨ret_bool (decide_eq_false (fun h => by omega)).symm, rfl⟩

set_option maxHeartbeats 400000 in
theorem pSide_any (i : Int) (w : World) :
    Calls Tryd.prog 19 #[.int .i64 i] w fun e w' => e = .returned (.bool (Pl.sd i)) ∧ w' = w := by
  by_cases h1 : 1 ≤ i
  · by_cases h2 : i ≤ 6
    · go_enter Tryd.func19, Tryd.ntmps19
      go_wp2
      go_ret
      exact ⟨ret_bool (by simp [Pl.ix, Pl.sd, h1, h2]), rfl⟩
    · go_enter Tryd.func19, Tryd.ntmps19
      go_wp2
      go_ret
      exact ⟨ret_bool (by simp [Pl.ix, Pl.sd, h2]), rfl⟩
  · go_enter Tryd.func19, Tryd.ntmps19
    go_wp2
    go_ret
    exact ⟨ret_bool (decide_eq_false (fun h => by omega)).symm, rfl⟩

set_option maxHeartbeats 400000 in
theorem pTurn_any (i : Int) (w : World) :
    Calls Tryd.prog 20 #[.int .i64 i] w fun e w' => e = .returned (.bool (Pl.ix i 8)) ∧ w' = w := by
  have H := Lib.hid (pIndex_any i 8)
  go_enter Tryd.func20, Tryd.ntmps20
  go_wp2_with fail
  refine (H.out _).mono ?_
  rintro e w1 ⟨rfl, rfl⟩
  go_wp2
  go_ret
  exact ⟨rfl, rfl⟩

set_option maxHeartbeats 400000 in
theorem pReflects_any (i : Int) (w : World) :
    Calls Tryd.prog 48 #[.int .i64 i] w fun e w' => e = .returned (.bool (Pl.rfs i)) ∧ w' = w := by
  by_cases h1 : 4 ≤ i
  · go_enter Tryd.func48, Tryd.ntmps48
    go_wp2
    go_ret
    exact ⟨ret_bool (decide_eq_true h1).symm, rfl⟩
  · go_enter Tryd.func48, Tryd.ntmps48
    go_wp2
    go_ret
    exact ⟨ret_bool (decide_eq_false (by omega)).symm, rfl⟩

set_option maxHeartbeats 1000000 in
theorem pWorkingOf_any (i : Int) (h0 : -9223372036854775808 ≤ i) (h1 : i ≤ 9223372036854775807) (w : World) :
    Calls Tryd.prog 65 #[.int .i64 i] w fun e w' => e = .returned (.int .i64 (Pl.wof i)) ∧ w' = w := by
  by_cases h : i < 0
  · go_enter Tryd.func65, Tryd.ntmps65
    go_wp2
    go_ret
    exact ⟨ret_i64 (by unfold Pl.wof; rw [if_pos h]), rfl⟩
  · go_enter Tryd.func65, Tryd.ntmps65
    go_wp2
    go_ret
    exact ⟨ret_i64 (by unfold Pl.wof; rw [if_neg (by omega)]), rfl⟩

set_option maxHeartbeats 1000000 in
theorem pInverse_any (a : Nat) (ha : a < 8) (w : World) :
    Calls Tryd.prog 25 #[.int .i64 (a : Int)] w fun e w' => e = .returned (.int .i64 (Pl.inv a : Nat)) ∧ w' = w := by
  have i1 : (0 : Int) ≤ (a : Int) := by omega
  have i2 : (a : Int) < 8 := by omega
  have H := pReflects_any (a : Int)
  by_cases h : 4 ≤ a
  · rw [show Pl.rfs (a : Int) = true from decide_eq_true (by omega)] at H
    replace H := Lib.hid H
    go_enter Tryd.func25, Tryd.ntmps25
    go_wp2_with fail
    refine (H.out _).mono ?_
    rintro e w1 ⟨rfl, rfl⟩
    go_wp2
    go_ret
    exact ⟨ret_i64 (by unfold Pl.inv; rw [if_pos h]), rfl⟩
  · rw [show Pl.rfs (a : Int) = false from decide_eq_false (by omega)] at H
    replace H := Lib.hid H
    go_enter Tryd.func25, Tryd.ntmps25
    go_wp2_with fail
    refine (H.out _).mono ?_
    rintro e w1 ⟨rfl, rfl⟩
    go_wp2
    go_ret
    exact ⟨ret_i64 (by unfold Pl.inv; rw [if_neg h]; omega), rfl⟩

set_option maxHeartbeats 2000000 in
theorem pCompose_any (a b : Nat) (ha : a < 8) (hb : b < 8) (w : World) :
    Calls Tryd.prog 24 #[.int .i64 (a : Int), .int .i64 (b : Int)] w fun e w' => e = .returned (.int .i64 (Pl.cmp a b : Nat)) ∧ w' = w := by
  have i1 : (0 : Int) ≤ (a : Int) := by omega
  have i2 : (a : Int) < 8 := by omega
  have i3 : (0 : Int) ≤ (b : Int) := by omega
  have i4 : (b : Int) < 8 := by omega
  have HA := pReflects_any (a : Int)
  have HB := pReflects_any (b : Int)
  by_cases h : 4 ≤ a
  · rw [show Pl.rfs (a : Int) = true from decide_eq_true (by omega)] at HA
    replace HA := Lib.hid HA
    by_cases k : 4 ≤ b
    · rw [show Pl.rfs (b : Int) = true from decide_eq_true (by omega)] at HB
      replace HB := Lib.hid HB
      go_enter Tryd.func24, Tryd.ntmps24
      go_wp2_with fail
      refine (HA.out _).mono ?_
      rintro e w1 ⟨rfl, rfl⟩
      go_wp2_with fail
      refine (HA.out _).mono ?_
      rintro e w1 ⟨rfl, rfl⟩
      go_wp2_with fail
      refine (HB.out _).mono ?_
      rintro e w1 ⟨rfl, rfl⟩
      go_wp2
      go_ret
      exact ⟨ret_i64 (by unfold Pl.cmp; simp only [h, k]; first | (simp; done) | (simp; omega)), rfl⟩
    · rw [show Pl.rfs (b : Int) = false from decide_eq_false (by omega)] at HB
      replace HB := Lib.hid HB
      go_enter Tryd.func24, Tryd.ntmps24
      go_wp2_with fail
      refine (HA.out _).mono ?_
      rintro e w1 ⟨rfl, rfl⟩
      go_wp2_with fail
      refine (HA.out _).mono ?_
      rintro e w1 ⟨rfl, rfl⟩
      go_wp2_with fail
      refine (HB.out _).mono ?_
      rintro e w1 ⟨rfl, rfl⟩
      go_wp2
      go_ret
      exact ⟨ret_i64 (by unfold Pl.cmp; simp only [h, k]; first | (simp; done) | (simp; omega)), rfl⟩
  · rw [show Pl.rfs (a : Int) = false from decide_eq_false (by omega)] at HA
    replace HA := Lib.hid HA
    by_cases k : 4 ≤ b
    · rw [show Pl.rfs (b : Int) = true from decide_eq_true (by omega)] at HB
      replace HB := Lib.hid HB
      go_enter Tryd.func24, Tryd.ntmps24
      go_wp2_with fail
      refine (HA.out _).mono ?_
      rintro e w1 ⟨rfl, rfl⟩
      go_wp2_with fail
      refine (HA.out _).mono ?_
      rintro e w1 ⟨rfl, rfl⟩
      go_wp2_with fail
      refine (HB.out _).mono ?_
      rintro e w1 ⟨rfl, rfl⟩
      go_wp2
      go_ret
      exact ⟨ret_i64 (by unfold Pl.cmp; simp only [h, k]; first | (simp; done) | (simp; omega)), rfl⟩
    · rw [show Pl.rfs (b : Int) = false from decide_eq_false (by omega)] at HB
      replace HB := Lib.hid HB
      go_enter Tryd.func24, Tryd.ntmps24
      go_wp2_with fail
      refine (HA.out _).mono ?_
      rintro e w1 ⟨rfl, rfl⟩
      go_wp2_with fail
      refine (HA.out _).mono ?_
      rintro e w1 ⟨rfl, rfl⟩
      go_wp2_with fail
      refine (HB.out _).mono ?_
      rintro e w1 ⟨rfl, rfl⟩
      go_wp2
      go_ret
      exact ⟨ret_i64 (by unfold Pl.cmp; simp only [h, k]; first | (simp; done) | (simp; omega)), rfl⟩
end Go.Proofs.YtmkjmpkicmadcaaDoor

/- Contracts of package plate: turnings, take, Turn. -/
namespace Pl
/-- the functions that turnings are made of -/
def tf (k r c l : Nat) : Nat := match k with
  | 1 => r
  | 2 => c
  | 3 => l - r
  | _ => l - c
def tR (t : Nat) : Nat := match t with
  | 0 => 1 | 1 => 2 | 2 => 3 | 3 => 4 | 4 => 1 | 5 => 2 | 6 => 3 | _ => 4
def tC (t : Nat) : Nat := match t with
  | 0 => 2 | 1 => 3 | 2 => 4 | 3 => 1 | 4 => 4 | 5 => 1 | 6 => 2 | _ => 3
theorem tk_tf (side t x : Nat) (ht : t < 8) : tk side t x = tf (tR t) (x / side) (x % side) (side - 1) * side + tf (tC t) (x / side) (x % side) (side - 1) := by
  unfold tk
  have : t = 0 ∨ t = 1 ∨ t = 2 ∨ t = 3 ∨ t = 4 ∨ t = 5 ∨ t = 6 ∨ t = 7 := by omega
  rcases this with rfl | rfl | rfl | rfl | rfl | rfl | rfl | rfl <;> rfl
end Pl
namespace Go.Proofs.YtmkjmpkicmadcaaDoor
open Go.RowKit

/-- the closure of a turning's function -/
def tId (k : Nat) : Nat := match k with
  | 1 => 44
  | 2 => 45
  | 3 => 46
  | _ => 47
def tV (k : Nat) : Value := .func (.func (tId k)) #[] #[]
def Ent (i : Nat) : Prop := ∀ args W, (callFunc i args).run Tryd.prog W = .ok (.enter i args) W
def TfOk (i : Nat) (g : Nat → Nat → Nat → Nat) : Prop := ∀ (r c l : Nat) (w : World), r ≤ l → c ≤ l → l ≤ 5 → Calls Tryd.prog i #[.int .i64 (r : Int), .int .i64 (c : Int), .int .i64 (l : Int)] w fun e w' => e = .returned (.int .i64 (g r c l : Nat)) ∧ w' = w

theorem ent1 : Ent 44 := fun args W => Go.Proofs.enters_of Tryd.func44 (by kernel_rfl) rfl args W
theorem tf1_any : TfOk 44 (Pl.tf 1) := by
  intro r c l w h1 h2 h3
  go_enter Tryd.func44, Tryd.ntmps44
  go_wp2
  go_ret
  exact ⟨rfl, rfl⟩
theorem ent2 : Ent 45 := fun args W => Go.Proofs.enters_of Tryd.func45 (by kernel_rfl) rfl args W
theorem tf2_any : TfOk 45 (Pl.tf 2) := by
  intro r c l w h1 h2 h3
  go_enter Tryd.func45, Tryd.ntmps45
  go_wp2
  go_ret
  exact ⟨rfl, rfl⟩
theorem ent3 : Ent 46 := fun args W => Go.Proofs.enters_of Tryd.func46 (by kernel_rfl) rfl args W
theorem tf3_any : TfOk 46 (Pl.tf 3) := by
  intro r c l w h1 h2 h3
  have i1 : (0 : Int) ≤ (r : Int) := by omega
  have i2 : (r : Int) ≤ (l : Int) := by omega
  have i3 : (l : Int) ≤ 5 := by omega
  go_enter Tryd.func46, Tryd.ntmps46
  go_wp2
  go_ret
  exact ⟨ret_i64 (by show (l : Int) - (r : Int) = ((l - r : Nat) : Int); omega), rfl⟩
theorem ent4 : Ent 47 := fun args W => Go.Proofs.enters_of Tryd.func47 (by kernel_rfl) rfl args W
theorem tf4_any : TfOk 47 (Pl.tf 4) := by
  intro r c l w h1 h2 h3
  have i1 : (0 : Int) ≤ (c : Int) := by omega
  have i2 : (c : Int) ≤ (l : Int) := by omega
  have i3 : (l : Int) ≤ 5 := by omega
  go_enter Tryd.func47, Tryd.ntmps47
  go_wp2
  go_ret
  exact ⟨ret_i64 (by show (l : Int) - (c : Int) = ((l - c : Nat) : Int); omega), rfl⟩
theorem tR_ok (t : Nat) (ht : t < 8) : (TfOk (tId (Pl.tR t)) (Pl.tf (Pl.tR t)) ∧ TfOk (tId (Pl.tC t)) (Pl.tf (Pl.tC t))) ∧ Ent (tId (Pl.tR t)) ∧ Ent (tId (Pl.tC t)) := by
  have : t = 0 ∨ t = 1 ∨ t = 2 ∨ t = 3 ∨ t = 4 ∨ t = 5 ∨ t = 6 ∨ t = 7 := by omega
  rcases this with rfl | rfl | rfl | rfl | rfl | rfl | rfl | rfl
  · exact ⟨⟨tf1_any, tf2_any⟩, ent1, ent2⟩
  · exact ⟨⟨tf2_any, tf3_any⟩, ent2, ent3⟩
  · exact ⟨⟨tf3_any, tf4_any⟩, ent3, ent4⟩
  · exact ⟨⟨tf4_any, tf1_any⟩, ent4, ent1⟩
  · exact ⟨⟨tf1_any, tf4_any⟩, ent1, ent4⟩
  · exact ⟨⟨tf2_any, tf1_any⟩, ent2, ent1⟩
  · exact ⟨⟨tf3_any, tf2_any⟩, ent3, ent2⟩
  · exact ⟨⟨tf4_any, tf3_any⟩, ent4, ent3⟩

/-- a turning, as a value -/
def tnV (t : Nat) : Value := .agg #[tV (Pl.tR t), tV (Pl.tC t)]

set_option maxRecDepth 100000 in
set_option maxHeartbeats 2000000 in
theorem take_any (f g : Nat) (F G : Nat → Nat → Nat → Nat) (hF : Hid (TfOk f F)) (hG : Hid (TfOk g G)) (eF : Ent f) (eG : Ent g) (hb : ∀ r c l, r ≤ l → c ≤ l → F r c l ≤ l ∧ G r c l ≤ l) (side x : Nat) (h1 : 1 ≤ side) (h6 : side ≤ 6) (hx : x < side * side) (w : World) :
    Calls Tryd.prog 23 #[.agg #[.func (.func f) #[] #[], .func (.func g) #[] #[]], .int .i64 (side : Int), .int .i64 (x : Int)] w fun e w' => e = .returned (.int .i64 ((F (x / side) (x % side) (side - 1) * side + G (x / side) (x % side) (side - 1) : Nat) : Int)) ∧ Below w.heap.size w w' := by
  have hr : x / side ≤ side - 1 := by have := Nat.div_lt_of_lt_mul hx; omega
  have hc : x % side ≤ side - 1 := by have := Nat.mod_lt x (show 0 < side by omega); omega
  have HF := fun W => hF.out (x / side) (x % side) (side - 1) W hr hc (by omega)
  have HG := fun W => hG.out (x / side) (x % side) (side - 1) W hr hc (by omega)
  obtain ⟨b1, b2⟩ := hb _ _ _ hr hc
  rw [show ((x / side : Nat) : Int) = (x : Int) / (side : Int) from Int.natCast_ediv x side, show ((x % side : Nat) : Int) = (x : Int) % (side : Int) from Int.natCast_emod x side, show ((side - 1 : Nat) : Int) = (side : Int) - 1 by omega] at HF HG
  obtain ⟨y, hy⟩ : ∃ y, F (x / side) (x % side) (side - 1) = y := ⟨_, rfl⟩
  obtain ⟨z, hz⟩ : ∃ z, G (x / side) (x % side) (side - 1) = z := ⟨_, rfl⟩
  rw [hy] at HF b1 ⊢
  rw [hz] at HG b2 ⊢
  clear hy hz hF hG hb
  have hxx : (x : Int) ≤ 36 := by
    have h : side * side ≤ 6 * 6 := Nat.mul_le_mul h6 h6
    omega
  have i1 : (1 : Int) ≤ (side : Int) := by omega
  have i2 : (side : Int) ≤ 6 := by omega
  have i3 : ¬ (side : Int) = 0 := by omega
  have i4 : (0 : Int) ≤ (x : Int) := by omega
  have i5 : (0 : Int) ≤ (y : Int) := by omega
  have i6 : (y : Int) ≤ 5 := by omega
  have i7 : (0 : Int) ≤ (z : Int) := by omega
  have i8 : (z : Int) ≤ 5 := by omega
  have i9 : (0 : Int) ≤ (y : Int) * (side : Int) := Int.mul_nonneg i5 (by omega)
  have i10 : (y : Int) * (side : Int) ≤ 30 := by
    have h : y * side ≤ 5 * 6 := Nat.mul_le_mul (by omega) h6
    have : ((y * side : Nat) : Int) ≤ 30 := by omega
    rwa [Int.natCast_mul] at this
  have hq : (x : Int) / (side : Int) ≤ 6 := by
    have : (x / side : Nat) ≤ 6 := by omega
    rw [← Int.natCast_ediv]; exact Int.ofNat_le.2 this
  have hq0 : (0 : Int) ≤ (x : Int) / (side : Int) := by rw [← Int.natCast_ediv]; exact Int.natCast_nonneg _
  have hw64 : wrap64 ((x : Int) / (side : Int)) = (x : Int) / (side : Int) := IntWalk.wrap64_in _ (by omega)
  replace HF := Lib.hid HF
  replace HG := Lib.hid HG
  have eF' : ∀ args W, (callFunc f args).run Tryd.prog W = .ok (.enter f args) W := eF
  have eG' : ∀ args W, (callFunc g args).run Tryd.prog W = .ok (.enter g args) W := eG
  go_enter Tryd.func23, Tryd.ntmps23
  go_upto_region 1 with fail
  have g0 : (w.alloc (Obj.cells #[.func (.func f) #[] #[], .func (.func g) #[] #[]] 53)).cell? ⟨w.heap.size, 0, none⟩ = some (.func (.func f) #[] #[]) := by simp [go_sem]
  have g1 : (w.alloc (Obj.cells #[.func (.func f) #[] #[], .func (.func g) #[] #[]] 53)).cell? ⟨w.heap.size, 1, none⟩ = some (.func (.func g) #[] #[]) := by simp [go_sem]
  have hv : Below w.heap.size w (w.alloc (Obj.cells #[.func (.func f) #[] #[], .func (.func g) #[] #[]] 53)) := below_alloc (Below.refl _ _) _
  generalize w.alloc (Obj.cells #[.func (.func f) #[] #[], .func (.func g) #[] #[]] 53) = X at *
  go_region
  have g0' : X.drew.cell? ⟨w.heap.size, 0, none⟩ = some (.func (.func f) #[] #[]) := g0
  have g1' : X.drew.cell? ⟨w.heap.size, 1, none⟩ = some (.func (.func g) #[] #[]) := g1
  have hv' : Below w.heap.size w X.drew := hv.drew
  clear g0 g1 hv
  generalize X.drew = Y at *
  go_upto_region 2 with fail
  have S0 : Y.drew.cell? ⟨w.heap.size, 0, none⟩ = some (.func (.func f) #[] #[]) ∧ Y.drew.cell? ⟨w.heap.size, 1, none⟩ = some (.func (.func g) #[] #[]) ∧ Below w.heap.size w Y.drew := ⟨by assumption, by assumption, hv'.drew⟩
  go_region_held3 (fun w' => w'.cell? ⟨w.heap.size, 0, none⟩ = some (.func (.func f) #[] #[]) ∧ w'.cell? ⟨w.heap.size, 1, none⟩ = some (.func (.func g) #[] #[]) ∧ Below w.heap.size w w')
    (first | exact S0 | exact keep2 (by assumption) hbp | exact keep2 (by assumption) (drewN_below _) | exact keep2 (by assumption) (by repeat (first | with_reducible exact Below.refl _ _ | with_reducible assumption | refine below_drewN ?_ _ | refine Below.drew ?_ | refine Below.alloc ?_ (by first | (simp; done) | (simp; omega) | omega) _ | refine Below.setCell ?_ (by first | (simp; done) | (simp; omega) | omega) _ | refine Below.trans ?_ (Below.mono (by assumption) (by first | (simp; done) | (simp; omega) | omega)))) | go_keep)
    (first
      | (with_reducible refine (HF.out _).mono ?_
         rintro e wp ⟨he, hbp⟩
         subst he
         subst hbp)
      | (with_reducible refine (HG.out _).mono ?_
         rintro e wp ⟨he, hbp⟩
         subst he
         subst hbp))
  obtain ⟨-, -, hb9⟩ : _ ∧ _ ∧ Below w.heap.size w _ := by assumption
  clear S0 g0' g1' hv'
  go_wp2
  go_ret
  exact ⟨ret_i64 (by rw [Int.natCast_add, Int.natCast_mul, IntWalk.i64_left, IntWalk.i64_left, IntWalk.wrap64_in ((y : Int) * (side : Int)) (by omega), IntWalk.wrap64_in _ (by omega)]), hb9⟩

theorem tf_le (k r c l : Nat) (h1 : r ≤ l) (h2 : c ≤ l) : Pl.tf k r c l ≤ l := by
  unfold Pl.tf
  split <;> omega
/-- take -/
theorem takeT_any (t side x : Nat) (ht : t < 8) (h1 : 1 ≤ side) (h6 : side ≤ 6) (hx : x < side * side) (w : World) :
    Calls Tryd.prog 23 #[tnV t, .int .i64 (side : Int), .int .i64 (x : Int)] w fun e w' => e = .returned (.int .i64 (Pl.tk side t x : Nat)) ∧ Below w.heap.size w w' := by
  rw [Pl.tk_tf side t x ht]
  obtain ⟨⟨hR, hC⟩, eR, eC⟩ := tR_ok t ht
  exact take_any _ _ _ _ (Lib.hid hR) (Lib.hid hC) eR eC (fun r c l a b => ⟨tf_le _ r c l a b, tf_le _ r c l a b⟩) side x h1 h6 hx w

theorem below_setC {B b : Nat} {a : World} (hb : B ≤ b) : ∀ (vs : List Value) (o : Nat) (w : World), Below B a w → Below B a (w.setCells b o vs)
  | [], _, _, h => h
  | v :: vs, o, w, h => below_setC hb vs (o + 1) _ (h.setCell (p := ⟨b, o, none⟩) hb v)
/-- all turnings -/
def tnsV : Array Value := ((List.range 8).flatMap fun t => [tV (Pl.tR t), tV (Pl.tC t)]).toArray
set_option maxRecDepth 100000 in
set_option maxHeartbeats 4000000 in
theorem turnings_any (w : World) :
    Calls Tryd.prog 22 #[] w fun e w' => e = .returned (.agg tnsV) ∧ Below w.heap.size w w' := by
  have hrow : (w.alloc (Obj.cells #[.nilFunc, .nilFunc, .nilFunc, .nilFunc, .nilFunc, .nilFunc, .nilFunc, .nilFunc, .nilFunc, .nilFunc, .nilFunc, .nilFunc, .nilFunc, .nilFunc, .nilFunc, .nilFunc] 54)).there w.heap.size 0 16 := fun j hj => by
    have : j = 0 ∨ j = 1 ∨ j = 2 ∨ j = 3 ∨ j = 4 ∨ j = 5 ∨ j = 6 ∨ j = 7 ∨ j = 8 ∨ j = 9 ∨ j = 10 ∨ j = 11 ∨ j = 12 ∨ j = 13 ∨ j = 14 ∨ j = 15 := by omega
    rcases this with rfl | rfl | rfl | rfl | rfl | rfl | rfl | rfl | rfl | rfl | rfl | rfl | rfl | rfl | rfl | rfl <;> simp [go_sem]
  have hb : Below w.heap.size w (w.alloc (Obj.cells #[.nilFunc, .nilFunc, .nilFunc, .nilFunc, .nilFunc, .nilFunc, .nilFunc, .nilFunc, .nilFunc, .nilFunc, .nilFunc, .nilFunc, .nilFunc, .nilFunc, .nilFunc, .nilFunc] 54)) := below_alloc (Below.refl _ _) _
  go_enter Tryd.func22, Tryd.ntmps22
  go_upto_region 5 with fail
  generalize w.alloc (Obj.cells #[.nilFunc, .nilFunc, .nilFunc, .nilFunc, .nilFunc, .nilFunc, .nilFunc, .nilFunc, .nilFunc, .nilFunc, .nilFunc, .nilFunc, .nilFunc, .nilFunc, .nilFunc, .nilFunc] 54) = X at *
  go_wp2_with (refine wpList_store_mid rfl 54 (.tmp 0) (.tmp 29) rfl w.heap.size 0 tnsV ?x1 ?x2 hrow ?x3 ?x4 ?_)
  case x1 => rfl
  case x2 => rfl
  case x3 => kernel_rfl
  case x4 => kernel_rfl
  have hsame := World.rangeAt_setCells_same X w.heap.size 0 tnsV.toList (show X.there w.heap.size 0 tnsV.toList.length from hrow)
  have hbs : Below w.heap.size w (X.setCells w.heap.size 0 tnsV.toList) := below_setC (Nat.le_refl _) _ _ _ hb
  generalize X.setCells w.heap.size 0 tnsV.toList = Z at *
  have c0 : Z.cell? ⟨w.heap.size, 0, none⟩ = some (tV 1) := hsame 0 _ rfl
  have c1 : Z.cell? ⟨w.heap.size, 1, none⟩ = some (tV 2) := hsame 1 _ rfl
  have c2 : Z.cell? ⟨w.heap.size, 2, none⟩ = some (tV 2) := hsame 2 _ rfl
  have c3 : Z.cell? ⟨w.heap.size, 3, none⟩ = some (tV 3) := hsame 3 _ rfl
  have c4 : Z.cell? ⟨w.heap.size, 4, none⟩ = some (tV 3) := hsame 4 _ rfl
  have c5 : Z.cell? ⟨w.heap.size, 5, none⟩ = some (tV 4) := hsame 5 _ rfl
  have c6 : Z.cell? ⟨w.heap.size, 6, none⟩ = some (tV 4) := hsame 6 _ rfl
  have c7 : Z.cell? ⟨w.heap.size, 7, none⟩ = some (tV 1) := hsame 7 _ rfl
  have c8 : Z.cell? ⟨w.heap.size, 8, none⟩ = some (tV 1) := hsame 8 _ rfl
  have c9 : Z.cell? ⟨w.heap.size, 9, none⟩ = some (tV 4) := hsame 9 _ rfl
  have c10 : Z.cell? ⟨w.heap.size, 10, none⟩ = some (tV 2) := hsame 10 _ rfl
  have c11 : Z.cell? ⟨w.heap.size, 11, none⟩ = some (tV 1) := hsame 11 _ rfl
  have c12 : Z.cell? ⟨w.heap.size, 12, none⟩ = some (tV 3) := hsame 12 _ rfl
  have c13 : Z.cell? ⟨w.heap.size, 13, none⟩ = some (tV 2) := hsame 13 _ rfl
  have c14 : Z.cell? ⟨w.heap.size, 14, none⟩ = some (tV 4) := hsame 14 _ rfl
  have c15 : Z.cell? ⟨w.heap.size, 15, none⟩ = some (tV 3) := hsame 15 _ rfl
  clear hsame hrow
  refine bodyPost_ret (v := .agg tnsV) (by simp [results, Tryd.results22, go_sem, c0, c1, c2, c3, c4, c5, c6, c7, c8, c9, c10, c11, c12, c13, c14, c15]; rfl) rfl ?_
  exact ⟨rfl, hbs⟩
end Go.Proofs.YtmkjmpkicmadcaaDoor

/- Contracts of package plate: moves, an iterator. -/
namespace Pl
/-- the cells, and where a turn takes them -/
def mvs (side t n : Nat) : List (Nat × Nat) := (List.range n).map fun x => (x, tk side t x)
theorem mvs_succ (side t k : Nat) : mvs side t (k + 1) = mvs side t k ++ [(k, tk side t k)] := by
  unfold mvs
  rw [List.range_succ, List.map_append]
  rfl
theorem mvs_pre (side t : Nat) {k n : Nat} (h : k ≤ n) : mvs side t k <+: mvs side t n := by
  unfold mvs
  have e : List.range k = (List.range n).take k := by rw [List.take_range]; congr 1; omega
  rw [e]
  exact (List.take_prefix k _).map _
end Pl
namespace Go.Proofs.YtmkjmpkicmadcaaDoor
open Go.RowKit
attribute [local go_sem] Oper.semAt_some

def mvV (x : Nat × Nat) : Array Value := #[.int .i64 (x.1 : Int), .int .i64 (x.2 : Int)]
theorem grown_of_below {w w' : World} (h : Below w.heap.size w w') : w.grownBy w' none := ⟨h.os, h.tape, h.output, h.size, fun k hk _ => h.block k hk⟩

/-- what the iterator reads -/
structure MK (b2 b5 side t : Nat) (W : World) : Prop where
  c : W.cell? ⟨b2, 0, none⟩ = some (.int .i64 (side : Int))
  f0 : W.cell? ⟨b5, 0, none⟩ = some (tV (Pl.tR t))
  f1 : W.cell? ⟨b5, 1, none⟩ = some (tV (Pl.tC t))

set_option maxRecDepth 100000 in
set_option maxHeartbeats 2000000 in
theorem moves1_in (q : Nat) (hq : 2 ≤ q) (l b2 b5 side t : Nat) (ht : t < 8) (h1 : 1 ≤ side) (h6 : side ≤ 6) (J Jx : List (Nat × Nat) → World → Prop)
    (hK : ∀ pre W, J pre W → MK b2 b5 side t W)
    (hY : ∀ pre x W, J pre W → pre ++ [x] <+: Pl.mvs side t (side * side) → YieldAt Fence.wide (q - 1) Tryd.prog l (mvV x) W fun e W' =>
      (e = .returned (.bool true) ∧ J (pre ++ [x]) W' ∧ KeepsWalks W W') ∨ (e = .returned (.bool false) ∧ Jx (pre ++ [x]) W'))
    (W : World) (hA : AbidesFrom W.heap.size J) (h0 : J [] W) :
    CallsIn Fence.wide q Tryd.prog 82 #[.func (.yield l) #[] #[], .pointer (some ⟨b2, 0, none⟩), .pointer (some ⟨b5, 0, none⟩)] W fun e W' => (∃ v, e = .returned v) ∧ (J (Pl.mvs side t (side * side)) W' ∨ ∃ pre, pre <+: Pl.mvs side t (side * side) ∧ Jx pre W') := by
  have hn1 : 1 ≤ q := by omega
  obtain ⟨c, _, _⟩ := hK _ _ h0
  have hs2 : ((side * side : Nat) : Int) = (side : Int) * (side : Int) := Int.natCast_mul _ _
  have hs3 : side * side ≤ 36 := Nat.mul_le_mul h6 h6
  have hs4 : (side : Int) * (side : Int) ≤ 36 := by omega
  have hs5 : (0 : Int) ≤ (side : Int) * (side : Int) := by omega
  replace hs2 := Lib.hid hs2
  refine callsIn_of_wp Tryd.func82 rfl trivial ?_ rfl
  simp only [Tryd.ntmps82, List.size_toArray, List.length_cons, List.length_nil, Nat.reduceAdd, Nat.reduceSub, Array.replicate_succ, Array.replicate_zero, List.push_toArray, List.append_toArray, List.nil_append, List.cons_append]
  gi_wp2
  gi_loopw [8] (fun i wr => ∃ k : Nat, k ≤ side * side ∧ i = .int .i64 k ∧ J (Pl.mvs side t k) wr) (fun i _ => side * side - (RowKit.intOf i).toNat)
  case atStart => exact ⟨0, Nat.zero_le _, rfl, h0⟩
  case round =>
    obtain ⟨k, hk, rfl, hJs⟩ := hrel
    clear c
    by_cases hlt : k < side * side
    · obtain ⟨c, f0, f1⟩ := hK _ _ hJs
      have HT := takeT_any t side k ht h1 h6 hlt wr
      unfold tnV at HT
      have hnx := Lib.hid (Pl.mvs_succ side t k)
      have hpre := Pl.mvs_pre side t (show k + 1 ≤ side * side by omega)
      rw [hnx.out] at hpre
      replace hpre := Lib.hid hpre
      have hi5 : (k : Int) < (side : Int) * (side : Int) := by rw [← hs2.out]; omega
      replace HT := Lib.hid HT
      clear h0
      gi_wp2_with fail
      refine ⟨trivial, (callsIn_wide.2 HT.out).mono ?_⟩
      rintro e W1 ⟨rfl, hb1⟩
      have hJ1 := hA _ _ _ none hJs (grown_of_below hb1) (fun _ e => by cases e)
      obtain ⟨fn, tmps, assign, body, hy, hR⟩ := hY _ _ W1 hJ1 hpre.out
      simp only [mvV] at hy
      clear hY HT c f0 f1 hb1 hJs
      gi_wp2
      refine hR.mono ?_
      rintro e W3 (⟨rfl, hJ3, hk3⟩ | ⟨rfl, hJx3⟩)
      · gi_wp2
        go_roundw
        case rel => exact ⟨k + 1, by omega, by go_num, by rw [hnx.out]; exact hJ3⟩
        case measure => first | (simp [RowKit.intOf]; done) | (simp [RowKit.intOf]; omega) | omega
      · gi_wp2
        refine bodyPost_ret (results_none rfl _ _ _) rfl ?_
        exact ⟨⟨_, rfl⟩, .inr ⟨_, hpre.out, hJx3⟩⟩
    · obtain rfl : k = side * side := by omega
      have hneg : ¬ ((side * side : Nat) : Int) < (side : Int) * (side : Int) := by rw [← hs2.out]; omega
      have hneg2 : ¬ (side : Int) * (side : Int) < (side : Int) * (side : Int) := by omega
      gi_wp2
      go_end0
      exact ⟨⟨_, rfl⟩, .inl hJs⟩

theorem moves_hands (q : Nat) (hq : 2 ≤ q) (b2 b5 side t : Nat) (ht : t < 8) (h1 : 1 ≤ side) (h6 : side ≤ 6) (w : World) :
    HandsV mvV q Tryd.prog 82 #[.pointer (some ⟨b2, 0, none⟩), .pointer (some ⟨b5, 0, none⟩)] (Pl.mvs side t (side * side)) (MK b2 b5 side t) w := fun l J Jx W _ hA hK hY h0 =>
  moves1_in q hq l b2 b5 side t ht h1 h6 J Jx hK hY W hA h0
end Go.Proofs.YtmkjmpkicmadcaaDoor

/- Contracts of package plate: moves, Turn. -/
namespace Go.Proofs.YtmkjmpkicmadcaaDoor
open Go.RowKit

/-- what moves leaves -/
def MvPost (w : World) (side t : Nat) (e : Ending) (w' : World) : Prop := ∃ b2 b5, e = .returned (.func (.func 82) #[] #[.pointer (some ⟨b2, 0, none⟩), .pointer (some ⟨b5, 0, none⟩)]) ∧ Hid (MK b2 b5 side t w') ∧ Below w.heap.size w w' ∧ w.heap.size ≤ b2 ∧ w.heap.size ≤ b5
theorem tns_lit : tnsV = #[tV 1, tV 2, tV 2, tV 3, tV 3, tV 4, tV 4, tV 1, tV 1, tV 4, tV 2, tV 1, tV 3, tV 2, tV 4, tV 3] := rfl

set_option maxRecDepth 100000 in
set_option maxHeartbeats 4000000 in
theorem moves_at (side t : Nat) (r c : Nat) (hr : tId (Pl.tR t) = r) (hc : tId (Pl.tC t) = c) (hx : ∀ W : World, (Instr.index 54 (.agg tnsV) (.int .i64 (t : Int))).run Tryd.prog W = .ok (.agg #[.func (.func r) #[] #[], .func (.func c) #[] #[]]) W) (w : World) :
    Calls Tryd.prog 69 #[.int .i64 (side : Int), .int .i64 (t : Int)] w (MvPost w side t) := by
  have HT := Lib.hid (fun W => turnings_any W)
  have hmf : ∀ (fn : Fn) (first cap : Array Value) (w : World), (Instr.makeFunc fn first cap).run Tryd.prog w = .ok (.func fn first cap) w := fun _ _ _ _ => rfl
  go_enter Tryd.func69, Tryd.ntmps69
  go_wp2_with fail
  refine (HT.out _).mono ?_
  rintro e w1 ⟨rfl, hb1⟩
  have k0 : w1.cell? ⟨w.heap.size, 0, none⟩ = some (.int .i64 (side : Int)) := kept1 (by simp [go_sem]) hb1
  have hbw : Below w.heap.size w w1 := (by repeat (first | with_reducible exact Below.refl _ _ | with_reducible assumption | refine below_drewN ?_ _ | refine Below.drew ?_ | refine Below.alloc ?_ (by first | (simp; done) | (simp; omega) | omega) _ | refine Below.setCell ?_ (by first | (simp; done) | (simp; omega) | omega) _ | refine Below.trans ?_ (Below.mono (by assumption) (by first | (simp; done) | (simp; omega) | omega))))
  have hz := hbw.size
  have kA := cell_alloc k0 (Obj.cells #[.func (.func r) #[] #[], .func (.func c) #[] #[]] 53)
  clear hb1 HT
  go_wp2
  go_ret
  refine ⟨w.heap.size, w1.heap.size, rfl, Lib.hid ⟨kA, ?_, ?_⟩, below_alloc hbw _, Nat.le_refl _, hz⟩
  · show _ = some (Value.func (.func (tId (Pl.tR t))) #[] #[])
    rw [hr]; simp [go_sem]
  · show _ = some (Value.func (.func (tId (Pl.tC t))) #[] #[])
    rw [hc]; simp [go_sem]

theorem moves_any (side t : Nat) (ht : t < 8) (w : World) : Calls Tryd.prog 69 #[.int .i64 (side : Int), .int .i64 (t : Int)] w (MvPost w side t) := by
  have : t = 0 ∨ t = 1 ∨ t = 2 ∨ t = 3 ∨ t = 4 ∨ t = 5 ∨ t = 6 ∨ t = 7 := by omega
  rcases this with rfl | rfl | rfl | rfl | rfl | rfl | rfl | rfl <;> exact moves_at side _ _ _ rfl rfl (fun W => by rw [tns_lit]; simp [go_sem, Instr.index]; exact ⟨rfl, rfl⟩) w
end Go.Proofs.YtmkjmpkicmadcaaDoor

/- Contracts of package plate: Turn, Compose, Inverse. -/
namespace Go.Proofs.YtmkjmpkicmadcaaDoor
open Go.RowKit

theorem idx_tns (t : Nat) (ht : t < 8) (W : World) : (Instr.index 54 (.agg tnsV) (.int .i64 (t : Int))).run Tryd.prog W = .ok (.agg #[.func (.func (tId (Pl.tR t))) #[] #[], .func (.func (tId (Pl.tC t))) #[] #[]]) W := by
  have : t = 0 ∨ t = 1 ∨ t = 2 ∨ t = 3 ∨ t = 4 ∨ t = 5 ∨ t = 6 ∨ t = 7 := by omega
  rcases this with rfl | rfl | rfl | rfl | rfl | rfl | rfl | rfl <;> (rw [tns_lit]; simp [go_sem, Instr.index]; exact ⟨rfl, rfl⟩)

set_option maxRecDepth 100000 in
set_option maxHeartbeats 4000000 in
theorem pTurn_ok (side t x : Nat) (h1 : 1 ≤ side) (h6 : side ≤ 6) (ht : t < 8) (hx : x < side * side) (w : World) :
    Calls Tryd.prog 6 #[.int .i64 (side : Int), .int .i64 (t : Int), .int .i64 (x : Int)] w fun e w' => e = .returned (.tuple #[.int .i64 (Pl.tk side t x : Nat), .int .i64 0]) ∧ Below w.heap.size w w' := by
  have hs2 : ((side * side : Nat) : Int) = (side : Int) * (side : Int) := Int.natCast_mul _ _
  have hs3 : side * side ≤ 36 := Nat.mul_le_mul h6 h6
  have hs4 : (side : Int) * (side : Int) ≤ 36 := by omega
  have hs5 : (0 : Int) ≤ (side : Int) * (side : Int) := by omega
  have H1 := pSide_any (side : Int)
  rw [show Pl.sd (side : Int) = true from decide_eq_true (by omega)] at H1
  have H2 := pTurn_any (t : Int)
  rw [show Pl.ix (t : Int) 8 = true from decide_eq_true (by omega)] at H2
  have H3 := pIndex_any (x : Int) ((side : Int) * (side : Int))
  rw [show Pl.ix (x : Int) ((side : Int) * (side : Int)) = true from decide_eq_true (by rw [← hs2]; omega)] at H3
  have HT := Lib.hid (takeT_any t side x ht h1 h6 hx)
  unfold tnV tV at HT
  have hix := idx_tns t ht
  have HN := Lib.hid (fun W => turnings_any W)
  replace H1 := Lib.hid H1
  replace H2 := Lib.hid H2
  replace H3 := Lib.hid H3
  replace hs2 := Lib.hid hs2
  go_enter Tryd.func6, Tryd.ntmps6
  go_wp2_with fail
  refine (H1.out _).mono ?_
  rintro e w1 ⟨rfl, hw1⟩
  subst hw1
  go_wp2_with fail
  refine (H2.out _).mono ?_
  rintro e w1 ⟨rfl, hw1⟩
  subst hw1
  go_wp2_with fail
  refine (H3.out _).mono ?_
  rintro e w1 ⟨rfl, hw1⟩
  subst hw1
  go_wp2_with fail
  refine (HN.out _).mono ?_
  rintro e w2 ⟨rfl, hb2⟩
  go_wp2_with fail
  refine (HT.out _).mono ?_
  rintro e w3 ⟨rfl, hb3⟩
  go_wp2
  go_ret2
  exact ⟨rfl, hb2.trans (hb3.mono hb2.size)⟩

set_option maxHeartbeats 1000000 in
theorem pTurn_no (side t x : Int) (h : ¬ (Pl.sd side = true ∧ Pl.ix t 8 = true ∧ Pl.ix x (side * side) = true)) (w : World) :
    Calls Tryd.prog 6 #[.int .i64 side, .int .i64 t, .int .i64 x] w fun e w' => e = .returned (.tuple #[.int .i64 0, .int .i64 1]) ∧ Below w.heap.size w w' := by
  have H1 := pSide_any side
  have H2 := pTurn_any t
  have H3 := pIndex_any x (side * side)
  cases e1 : Pl.sd side
  · rw [e1] at H1
    replace H1 := Lib.hid H1
    clear h
    go_enter Tryd.func6, Tryd.ntmps6
    go_wp2_with fail
    refine (H1.out _).mono ?_
    rintro e w1 ⟨rfl, hw1⟩
    subst hw1
    go_wp2
    go_ret2
    exact ⟨rfl, Below.refl _ _⟩
  · rw [e1] at H1
    replace H1 := Lib.hid H1
    have hsd := of_decide_eq_true e1
    cases e2 : Pl.ix t 8
    · rw [e2] at H2
      replace H2 := Lib.hid H2
      clear h
      go_enter Tryd.func6, Tryd.ntmps6
      go_wp2_with fail
      refine (H1.out _).mono ?_
      rintro e w1 ⟨rfl, hw1⟩
      subst hw1
      go_wp2_with fail
      refine (H2.out _).mono ?_
      rintro e w1 ⟨rfl, hw1⟩
      subst hw1
      go_wp2
      go_ret2
      exact ⟨rfl, Below.refl _ _⟩
    · rw [e2] at H2
      replace H2 := Lib.hid H2
      have e3 : Pl.ix x (side * side) = false := by
        cases e3 : Pl.ix x (side * side)
        · rfl
        · exact (h ⟨e1, e2, e3⟩).elim
      rw [e3] at H3
      replace H3 := Lib.hid H3
      have hs5 : (0 : Int) ≤ side * side := Int.mul_nonneg (by omega) (by omega)
      have hs4 : side * side ≤ 36 := by
        have : side = 1 ∨ side = 2 ∨ side = 3 ∨ side = 4 ∨ side = 5 ∨ side = 6 := by omega
        rcases this with rfl | rfl | rfl | rfl | rfl | rfl <;> decide
      clear h e1 e2 e3 hsd
      go_enter Tryd.func6, Tryd.ntmps6
      go_wp2_with fail
      refine (H1.out _).mono ?_
      rintro e w1 ⟨rfl, hw1⟩
      subst hw1
      go_wp2_with fail
      refine (H2.out _).mono ?_
      rintro e w1 ⟨rfl, hw1⟩
      subst hw1
      go_wp2_with fail
      refine (H3.out _).mono ?_
      rintro e w1 ⟨rfl, hw1⟩
      subst hw1
      go_wp2
      go_ret2
      exact ⟨rfl, Below.refl _ _⟩
end Go.Proofs.YtmkjmpkicmadcaaDoor

/- Contracts of package plate: Compose, Inverse. -/
namespace Go.Proofs.YtmkjmpkicmadcaaDoor
open Go.RowKit

set_option maxHeartbeats 1000000 in
theorem pComposeP_ok (a b : Nat) (ha : a < 8) (hb : b < 8) (w : World) :
    Calls Tryd.prog 7 #[.int .i64 (a : Int), .int .i64 (b : Int)] w fun e w' => e = .returned (.tuple #[.int .i64 (Pl.cmp a b : Nat), .int .i64 0]) ∧ w' = w := by
  have H1 := pTurn_any (a : Int)
  rw [show Pl.ix (a : Int) 8 = true from decide_eq_true (by omega)] at H1
  have H2 := pTurn_any (b : Int)
  rw [show Pl.ix (b : Int) 8 = true from decide_eq_true (by omega)] at H2
  have H3 := Lib.hid (pCompose_any a b ha hb)
  replace H1 := Lib.hid H1
  replace H2 := Lib.hid H2
  go_enter Tryd.func7, Tryd.ntmps7
  go_wp2_with fail
  refine (H1.out _).mono ?_
  rintro e w1 ⟨rfl, hw1⟩
  subst hw1
  go_wp2_with fail
  refine (H2.out _).mono ?_
  rintro e w1 ⟨rfl, hw1⟩
  subst hw1
  go_wp2_with fail
  refine (H3.out _).mono ?_
  rintro e w1 ⟨rfl, hw1⟩
  subst hw1
  go_wp2
  go_ret2
  exact ⟨rfl, rfl⟩

set_option maxHeartbeats 1000000 in
theorem pComposeP_no (a b : Int) (h : ¬ (Pl.ix a 8 = true ∧ Pl.ix b 8 = true)) (w : World) :
    Calls Tryd.prog 7 #[.int .i64 a, .int .i64 b] w fun e w' => e = .returned (.tuple #[.int .i64 0, .int .i64 1]) ∧ w' = w := by
  have H1 := pTurn_any a
  have H2 := pTurn_any b
  cases e1 : Pl.ix a 8
  · rw [e1] at H1
    replace H1 := Lib.hid H1
    clear h
    go_enter Tryd.func7, Tryd.ntmps7
    go_wp2_with fail
    refine (H1.out _).mono ?_
    rintro e w1 ⟨rfl, hw1⟩
    subst hw1
    go_wp2
    go_ret2
    exact ⟨rfl, rfl⟩
  · rw [e1] at H1
    replace H1 := Lib.hid H1
    have e2 : Pl.ix b 8 = false := by
      cases e2 : Pl.ix b 8
      · rfl
      · exact (h ⟨e1, e2⟩).elim
    rw [e2] at H2
    replace H2 := Lib.hid H2
    clear h e1 e2
    go_enter Tryd.func7, Tryd.ntmps7
    go_wp2_with fail
    refine (H1.out _).mono ?_
    rintro e w1 ⟨rfl, hw1⟩
    subst hw1
    go_wp2_with fail
    refine (H2.out _).mono ?_
    rintro e w1 ⟨rfl, hw1⟩
    subst hw1
    go_wp2
    go_ret2
    exact ⟨rfl, rfl⟩

set_option maxHeartbeats 1000000 in
theorem pInverseP_ok (a : Nat) (ha : a < 8) (w : World) :
    Calls Tryd.prog 8 #[.int .i64 (a : Int)] w fun e w' => e = .returned (.tuple #[.int .i64 (Pl.inv a : Nat), .int .i64 0]) ∧ w' = w := by
  have H1 := pTurn_any (a : Int)
  rw [show Pl.ix (a : Int) 8 = true from decide_eq_true (by omega)] at H1
  have H3 := Lib.hid (pInverse_any a ha)
  replace H1 := Lib.hid H1
  go_enter Tryd.func8, Tryd.ntmps8
  go_wp2_with fail
  refine (H1.out _).mono ?_
  rintro e w1 ⟨rfl, hw1⟩
  subst hw1
  go_wp2_with fail
  refine (H3.out _).mono ?_
  rintro e w1 ⟨rfl, hw1⟩
  subst hw1
  go_wp2
  go_ret2
  exact ⟨rfl, rfl⟩

set_option maxHeartbeats 1000000 in
theorem pInverseP_no (a : Int) (h : Pl.ix a 8 = false) (w : World) :
    Calls Tryd.prog 8 #[.int .i64 a] w fun e w' => e = .returned (.tuple #[.int .i64 0, .int .i64 1]) ∧ w' = w := by
  have H1 := pTurn_any a
  rw [h] at H1
  replace H1 := Lib.hid H1
  clear h
  go_enter Tryd.func8, Tryd.ntmps8
  go_wp2_with fail
  refine (H1.out _).mono ?_
  rintro e w1 ⟨rfl, hw1⟩
  subst hw1
  go_wp2
  go_ret2
  exact ⟨rfl, rfl⟩
end Go.Proofs.YtmkjmpkicmadcaaDoor

/- Layer 3, plain: going through states in the order of their walks finds all states, each by a shortest walk. -/
namespace Pl
variable {α : Type}

/-- the state behind a walk -/
def runs (f : α → Int → Option α) : α → List Int → Option α
  | a, [] => some a
  | a, t :: r => (f a t).bind fun b => runs f b r
theorem runs_snoc (f : α → Int → Option α) : ∀ (w : List Int) (a : α) (t : Int), runs f a (w ++ [t]) = (runs f a w).bind fun b => f b t
  | [], a, t => by
    show (f a t).bind (fun b => some b) = f a t
    cases f a t <;> rfl
  | s :: r, a, t => by
    show (f a s).bind (fun b => runs f b (r ++ [t])) = ((f a s).bind fun b => runs f b r).bind fun b => f b t
    cases h : f a s with
    | none => rfl
    | some b => exact runs_snoc f r b t
theorem runs_append (f : α → Int → Option α) : ∀ (v w : List Int) (a : α), runs f a (v ++ w) = (runs f a v).bind fun b => runs f b w
  | [], w, a => rfl
  | s :: r, w, a => by
    show (f a s).bind (fun b => runs f b (r ++ w)) = ((f a s).bind fun b => runs f b r).bind fun b => runs f b w
    cases h : f a s with
    | none => rfl
    | some b => exact runs_append f r w b
/-- one step tried from a state -/
def addS [DecidableEq α] (f : α → Int → Option α) (x : α × List Int) (acc : List (α × List Int)) (t : Int) : List (α × List Int) :=
  match f x.1 t with
  | some y => if y ∈ acc.map Prod.fst then acc else acc ++ [(y, x.2 ++ [t])]
  | none => acc
def bfs [DecidableEq α] (f : α → Int → Option α) (S : List Int) : Nat → Nat → List (α × List Int) → List (α × List Int)
  | 0, _, acc => acc
  | k + 1, i, acc => match acc[i]? with
    | none => acc
    | some x => bfs f S k (i + 1) (S.foldl (addS f x) acc)

structure Bf (f : α → Int → Option α) (S : List Int) (s0 : α) (i : Nat) (acc : List (α × List Int)) : Prop where
  nd : (acc.map Prod.fst).Nodup
  run : ∀ e ∈ acc, runs f s0 e.2 = some e.1 ∧ ∀ t ∈ e.2, t ∈ S
  hd : acc[0]? = some (s0, [])
  cl : ∀ (j : Nat) (e : α × List Int), j < i → acc[j]? = some e → ∀ t ∈ S, ∀ y, f e.1 t = some y → ∃ w, (y, w) ∈ acc ∧ w.length ≤ e.2.length + 1
  so : ∀ (j k : Nat) (a b : α × List Int), j ≤ k → acc[j]? = some a → acc[k]? = some b → a.2.length ≤ b.2.length
  bd : ∀ x, acc[i]? = some x → ∀ e ∈ acc, e.2.length ≤ x.2.length + 1

theorem mem_at {β : Type} {l : List β} {i : Nat} {x : β} (h : l[i]? = some x) : x ∈ l := List.mem_of_getElem? h

theorem Bf.add [DecidableEq α] {f : α → Int → Option α} {S : List Int} {s0 : α} {i : Nat} {acc : List (α × List Int)} (h : Bf f S s0 i acc) {x : α × List Int} (hx : acc[i]? = some x) {t : Int} (ht : t ∈ S) :
    Bf f S s0 i (addS f x acc t) ∧ (addS f x acc t)[i]? = some x ∧ (∀ y, f x.1 t = some y → ∃ w, (y, w) ∈ addS f x acc t ∧ w.length ≤ x.2.length + 1) ∧ ∀ e ∈ acc, e ∈ addS f x acc t := by
  unfold addS
  cases hf : f x.1 t with
  | none =>
    refine ⟨h, hx, ?_, fun e he => he⟩
    intro y hy
    cases hy
  | some y =>
    simp only
    by_cases hy : y ∈ acc.map Prod.fst
    · rw [if_pos hy]
      refine ⟨h, hx, fun z hz => ?_, fun e he => he⟩
      simp only [Option.some.injEq] at hz
      subst hz
      obtain ⟨⟨y', w⟩, he, rfl⟩ := List.mem_map.1 hy
      exact ⟨w, he, h.bd x hx _ he⟩
    · rw [if_neg hy]
      have hil : i < acc.length := by
        rcases Nat.lt_or_ge i acc.length with hl | hl
        · exact hl
        · rw [List.getElem?_eq_none hl] at hx; cases hx
      have old : ∀ (j : Nat) (e : α × List Int), (acc ++ [(y, x.2 ++ [t])])[j]? = some e → acc[j]? = some e ∨ (j = acc.length ∧ e = (y, x.2 ++ [t])) := by
        intro j e he
        rcases Nat.lt_or_ge j acc.length with hl | hl
        · rw [List.getElem?_append_left hl] at he; exact Or.inl he
        · rw [List.getElem?_append_right hl] at he
          cases hj : j - acc.length with
          | zero => rw [hj] at he; simp only [List.getElem?_cons_zero, Option.some.injEq] at he; exact Or.inr ⟨by omega, he.symm⟩
          | succ q => rw [hj] at he; simp at he
      have sub : ∀ e ∈ acc, e ∈ acc ++ [(y, x.2 ++ [t])] := fun e he => List.mem_append_left _ he
      obtain ⟨hr, hs⟩ := h.run x (mem_at hx)
      refine ⟨⟨?_, ?_, ?_, ?_, ?_, ?_⟩, ?_, ?_, sub⟩
      · rw [List.map_append, List.nodup_append]
        refine ⟨h.nd, by simp, fun a ha b hb e => ?_⟩
        simp only [List.map_cons, List.map_nil, List.mem_singleton] at hb
        rw [← e] at hb
        rw [hb] at ha
        exact hy ha
      · intro e he
        rcases List.mem_append.1 he with he | he
        · exact h.run e he
        · simp only [List.mem_singleton] at he
          subst he
          refine ⟨by rw [runs_snoc, hr]; exact hf, fun u hu => ?_⟩
          rcases List.mem_append.1 hu with hu | hu
          · exact hs u hu
          · simp only [List.mem_singleton] at hu
            subst hu
            exact ht
      · rw [List.getElem?_append_left (by omega)]; exact h.hd
      · intro j e hj he u hu z hz
        rcases old j e he with he | ⟨rfl, _⟩
        · obtain ⟨w, h1, h2⟩ := h.cl j e hj he u hu z hz
          exact ⟨w, sub _ h1, h2⟩
        · omega
      · intro j k a b hjk ha hb
        rcases old j a ha with ha | ⟨rfl, rfl⟩
        · rcases old k b hb with hb | ⟨rfl, rfl⟩
          · exact h.so j k a b hjk ha hb
          · have := h.bd x hx a (mem_at ha)
            simpa using this
        · rcases old k b hb with hb | ⟨rfl, rfl⟩
          · rw [List.getElem?_eq_none hjk] at hb; cases hb
          · exact Nat.le_refl _
      · intro x' hx' e he
        rw [List.getElem?_append_left hil, hx] at hx'
        simp only [Option.some.injEq] at hx'
        subst hx'
        rcases List.mem_append.1 he with he | he
        · exact h.bd x hx e he
        · simp only [List.mem_singleton] at he
          subst he
          simp
      · rw [List.getElem?_append_left hil]; exact hx
      · intro z hz
        simp only [Option.some.injEq] at hz
        subst hz
        exact ⟨x.2 ++ [t], List.mem_append_right _ (by simp), by simp⟩
theorem Bf.fold [DecidableEq α] {f : α → Int → Option α} {S : List Int} {s0 : α} {i : Nat} {x : α × List Int} : ∀ (P : List Int) (acc : List (α × List Int)), (∀ t ∈ P, t ∈ S) → Bf f S s0 i acc → acc[i]? = some x →
    Bf f S s0 i (P.foldl (addS f x) acc) ∧ (P.foldl (addS f x) acc)[i]? = some x ∧ (∀ t ∈ P, ∀ y, f x.1 t = some y → ∃ w, (y, w) ∈ P.foldl (addS f x) acc ∧ w.length ≤ x.2.length + 1) ∧ ∀ e ∈ acc, e ∈ P.foldl (addS f x) acc
  | [], acc, _, h, hx => ⟨h, hx, fun t ht => (List.not_mem_nil ht).elim, fun e he => he⟩
  | t :: P, acc, hP, h, hx => by
    obtain ⟨h1, h2, h3, h4⟩ := h.add hx (hP t List.mem_cons_self)
    obtain ⟨g1, g2, g3, g4⟩ := Bf.fold P (addS f x acc t) (fun u hu => hP u (List.mem_cons_of_mem _ hu)) h1 h2
    refine ⟨g1, g2, fun u hu y hy => ?_, fun e he => g4 e (h4 e he)⟩
    rcases List.mem_cons.1 hu with rfl | hu
    · obtain ⟨w, k1, k2⟩ := h3 y hy
      exact ⟨w, g4 _ k1, k2⟩
    · exact g3 u hu y hy
theorem Bf.next [DecidableEq α] {f : α → Int → Option α} {S : List Int} {s0 : α} {i : Nat} {acc : List (α × List Int)} (h : Bf f S s0 i acc) {x : α × List Int} (hx : acc[i]? = some x) : Bf f S s0 (i + 1) (S.foldl (addS f x) acc) := by
  obtain ⟨h1, h2, h3, _⟩ := Bf.fold S acc (fun _ ht => ht) h hx
  refine ⟨h1.nd, h1.run, h1.hd, fun j e hj he t ht y hy => ?_, h1.so, fun x' hx' e he => ?_⟩
  · rcases Nat.lt_or_ge j i with hl | hl
    · exact h1.cl j e hl he t ht y hy
    · obtain rfl : j = i := by omega
      rw [h2] at he
      simp only [Option.some.injEq] at he
      subst he
      exact h3 t ht y hy
  · have g1 := h1.bd x h2 e he
    have g2 := h1.so i (i + 1) x x' (by omega) h2 hx'
    omega
/-- at most as many states as there are -/
theorem nodup_le [DecidableEq α] {U : List α} : ∀ {l : List α}, l.Nodup → (∀ a ∈ l, a ∈ U) → l.length ≤ U.length := by
  intro l
  induction l generalizing U with
  | nil => intro _ _; simp
  | cons a l ih =>
    intro hn hu
    rw [List.nodup_cons] at hn
    have h1 := ih (U := U.erase a) hn.2 (fun b hb => by
      have hab : b ≠ a := fun e => hn.1 (e ▸ hb)
      exact (List.mem_erase_of_ne hab).2 (hu b (List.mem_cons_of_mem _ hb)))
    have h2 := List.length_erase_of_mem (hu a List.mem_cons_self)
    have h3 : 0 < U.length := List.length_pos_of_mem (hu a List.mem_cons_self)
    simp only [List.length_cons]
    omega
theorem bfs_ends [DecidableEq α] {f : α → Int → Option α} {S : List Int} {s0 : α} {U : List α} (hU : ∀ w y, (∀ t ∈ w, t ∈ S) → runs f s0 w = some y → y ∈ U) : ∀ (k i : Nat) (acc : List (α × List Int)), Bf f S s0 i acc → U.length < k + i → Bf f S s0 (bfs f S k i acc).length (bfs f S k i acc)
  | 0, i, acc, h, hk => by
    have hl : acc.length ≤ U.length := by
      have := nodup_le h.nd (U := U) (fun a ha => by
        obtain ⟨e, he, rfl⟩ := List.mem_map.1 ha
        obtain ⟨h1, h2⟩ := h.run e he
        exact hU _ _ h2 h1)
      simpa using this
    show Bf f S s0 acc.length acc
    exact ⟨h.nd, h.run, h.hd, fun j e hj => h.cl j e (by omega), h.so, fun x hx => by rw [List.getElem?_eq_none (Nat.le_refl _)] at hx; cases hx⟩
  | k + 1, i, acc, h, hk => by
    unfold bfs
    cases hx : acc[i]? with
    | none =>
      simp only
      have hl : acc.length ≤ i := by
        rcases Nat.lt_or_ge i acc.length with hl | hl
        · rw [List.getElem?_eq_getElem hl] at hx; cases hx
        · exact hl
      exact ⟨h.nd, h.run, h.hd, fun j e hj => h.cl j e (by omega), h.so, fun x hx => by rw [List.getElem?_eq_none (Nat.le_refl _)] at hx; cases hx⟩
    | some x => exact bfs_ends hU k (i + 1) _ (h.next hx) (by omega)
theorem bf_start (f : α → Int → Option α) (S : List Int) (s0 : α) : Bf f S s0 0 [(s0, [])] := by
  refine ⟨by simp, fun e he => ?_, rfl, fun j e hj => by omega, fun j k a b _ ha hb => ?_, fun x hx e he => ?_⟩
  · simp only [List.mem_singleton] at he
    subst he
    exact ⟨rfl, fun t ht => (List.not_mem_nil ht).elim⟩
  · have h1 := mem_at ha
    have h2 := mem_at hb
    simp only [List.mem_singleton] at h1 h2
    rw [h1, h2]
    exact Nat.le_refl _
  · simp only [List.mem_singleton] at he
    subst he
    simp
/-- all states, each by a shortest walk -/
theorem bfs_all {f : α → Int → Option α} {S : List Int} {s0 : α} {R : List (α × List Int)} (h : Bf f S s0 R.length R) : ∀ (k : Nat) (w : List Int) (y : α), w.length = k → (∀ t ∈ w, t ∈ S) → runs f s0 w = some y → ∃ v, (y, v) ∈ R ∧ v.length ≤ w.length := by
  intro k
  induction k with
  | zero =>
    intro w y hw _ hr
    obtain rfl : w = [] := List.length_eq_zero_iff.1 hw
    simp only [runs, Option.some.injEq] at hr
    subst hr
    exact ⟨[], mem_at h.hd, Nat.le_refl _⟩
  | succ k ih =>
    intro w y hw hS hr
    have hne : w ≠ [] := fun e => by rw [e] at hw; cases hw
    obtain ⟨u, t, rfl⟩ : ∃ u t, w = u ++ [t] := ⟨w.dropLast, w.getLast hne, (List.dropLast_concat_getLast hne).symm⟩
    rw [runs_snoc] at hr
    cases hu : runs f s0 u with
    | none => rw [hu] at hr; cases hr
    | some z =>
      rw [hu] at hr
      have hlu : u.length = k := by simpa using hw
      obtain ⟨v, h1, h2⟩ := ih u z hlu (fun q hq => hS q (List.mem_append_left _ hq)) hu
      obtain ⟨j, hj⟩ := List.getElem?_of_mem h1
      have hjl : j < R.length := by
        rcases Nat.lt_or_ge j R.length with hl | hl
        · exact hl
        · rw [List.getElem?_eq_none hl] at hj; cases hj
      obtain ⟨w, g1, g2⟩ := h.cl j (z, v) hjl hj t (hS t (by simp)) y hr
      refine ⟨w, g1, ?_⟩
      simp only [List.length_append, List.length_cons, List.length_nil] at g2 ⊢
      omega
/-- a state has one walk in the list -/
theorem nodup_one {R : List (α × List Int)} (h : (R.map Prod.fst).Nodup) {y : α} {v w : List Int} (h1 : (y, v) ∈ R) (h2 : (y, w) ∈ R) : v = w := by
  induction R with
  | nil => cases h1
  | cons e r ih =>
    rw [List.map_cons, List.nodup_cons] at h
    rcases List.mem_cons.1 h1 with g1 | g1
    · rcases List.mem_cons.1 h2 with g2 | g2
      · rw [← g1] at g2
        exact (Prod.mk.inj g2).2.symm
      · exact absurd (List.mem_map.2 ⟨_, g2, by rw [← g1]⟩) h.1
    · rcases List.mem_cons.1 h2 with g2 | g2
      · exact absurd (List.mem_map.2 ⟨_, g1, by rw [← g2]⟩) h.1
      · exact ih h.2 g1 g2
end Pl
