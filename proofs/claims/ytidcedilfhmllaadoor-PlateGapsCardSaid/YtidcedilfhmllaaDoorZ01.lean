/- What the claims of layer 3 share, part 1: several texts one behind the other. -/
import Derived.Test.YtidcedilfhmllaaDoorProg
import Derived.WalkKit
import Derived.WalkLawsBesides
import Derived.WalkSpells
import Derived.Lib.Hide
import Derived.Deep.QuietTactic
import Derived.BigQuiet
import Derived.BigRegion
import Derived.Deep.RegionWith
import Derived.Deep.RegionHeld3
import Derived.Deep.RegionLaw
import Derived.Deep.LoopGhost
import Derived.Deep.DeepMust
import Derived.Deep.DeepCutAuto
import Derived.Deep.DeepFit
import Derived.OwnWalk
import Derived.OneCell
import Derived.Deep.AppendLies
import Derived.Deep.OwnRows
set_option linter.unusedSimpArgs false
set_option linter.unusedVariables false
/- What walks of this seat share: cells and frames behind calls. -/
namespace Go.Proofs.YtidcedilfhmllaaDoor
open Go.RowKit
theorem ret_u64 {a b : Int} (h : a = b) : Ending.returned (.int .u64 a) = .returned (.int .u64 b) := by rw [h]
theorem ret_i64 {a b : Int} (h : a = b) : Ending.returned (.int .i64 a) = .returned (.int .i64 b) := by rw [h]
theorem ret_bool {a b : Bool} (h : a = b) : Ending.returned (.bool a) = .returned (.bool b) := by rw [h]

/-- what a call has not touched, as two rules for the walk -/
theorem bcell {W w1 : World} (hb : Below W.heap.size W w1) : (∀ b o, b < W.heap.size → w1.cell? ⟨b, o, none⟩ = W.cell? ⟨b, o, none⟩) ∧ (∀ b o, b < W.heap.size → w1.frozen? ⟨b, o, none⟩ = W.frozen? ⟨b, o, none⟩) :=
  ⟨fun b o h => hb.cell (p := ⟨b, o, none⟩) h, fun b o h => hb.frozen (p := ⟨b, o, none⟩) h⟩

theorem drewN_below {w : World} (m : Nat) : Below w.heap.size w (w.drewN m) := ⟨rfl, rfl, rfl, Nat.le_refl _, fun _ _ => rfl⟩

theorem kept1 {W W' : World} {p : Addr} {x : Value} (h : W.cell? p = some x) (hb : Below W.heap.size W W') : W'.cell? p = some x := (hb.cell (block_lt_of_cell h)).trans h

theorem keep0 {w W W' : World} (h : Below w.heap.size w W) (hb : Below W.heap.size W W') : Below w.heap.size w W' := h.trans (hb.mono h.size)

theorem keep1 {w W W' : World} {p0 : Addr} {x0 : Value} (h : W.cell? p0 = some x0 ∧ Below w.heap.size w W) (hb : Below W.heap.size W W') : W'.cell? p0 = some x0 ∧ Below w.heap.size w W' := by
  obtain ⟨h0, h⟩ := h
  exact ⟨kept1 h0 hb, h.trans (hb.mono h.size)⟩

theorem keep2 {w W W' : World} {p0 p1 : Addr} {x0 x1 : Value} (h : W.cell? p0 = some x0 ∧ W.cell? p1 = some x1 ∧ Below w.heap.size w W) (hb : Below W.heap.size W W') : W'.cell? p0 = some x0 ∧ W'.cell? p1 = some x1 ∧ Below w.heap.size w W' := by
  obtain ⟨h0, h1, h⟩ := h
  exact ⟨kept1 h0 hb, kept1 h1 hb, h.trans (hb.mono h.size)⟩

theorem keep3 {w W W' : World} {p0 p1 p2 : Addr} {x0 x1 x2 : Value} (h : W.cell? p0 = some x0 ∧ W.cell? p1 = some x1 ∧ W.cell? p2 = some x2 ∧ Below w.heap.size w W) (hb : Below W.heap.size W W') : W'.cell? p0 = some x0 ∧ W'.cell? p1 = some x1 ∧ W'.cell? p2 = some x2 ∧ Below w.heap.size w W' := by
  obtain ⟨h0, h1, h2, h⟩ := h
  exact ⟨kept1 h0 hb, kept1 h1 hb, kept1 h2 hb, h.trans (hb.mono h.size)⟩

theorem keep4 {w W W' : World} {p0 p1 p2 p3 : Addr} {x0 x1 x2 x3 : Value} (h : W.cell? p0 = some x0 ∧ W.cell? p1 = some x1 ∧ W.cell? p2 = some x2 ∧ W.cell? p3 = some x3 ∧ Below w.heap.size w W) (hb : Below W.heap.size W W') : W'.cell? p0 = some x0 ∧ W'.cell? p1 = some x1 ∧ W'.cell? p2 = some x2 ∧ W'.cell? p3 = some x3 ∧ Below w.heap.size w W' := by
  obtain ⟨h0, h1, h2, h3, h⟩ := h
  exact ⟨kept1 h0 hb, kept1 h1 hb, kept1 h2 hb, kept1 h3 hb, h.trans (hb.mono h.size)⟩

theorem keep5 {w W W' : World} {p0 p1 p2 p3 p4 : Addr} {x0 x1 x2 x3 x4 : Value} (h : W.cell? p0 = some x0 ∧ W.cell? p1 = some x1 ∧ W.cell? p2 = some x2 ∧ W.cell? p3 = some x3 ∧ W.cell? p4 = some x4 ∧ Below w.heap.size w W) (hb : Below W.heap.size W W') : W'.cell? p0 = some x0 ∧ W'.cell? p1 = some x1 ∧ W'.cell? p2 = some x2 ∧ W'.cell? p3 = some x3 ∧ W'.cell? p4 = some x4 ∧ Below w.heap.size w W' := by
  obtain ⟨h0, h1, h2, h3, h4, h⟩ := h
  exact ⟨kept1 h0 hb, kept1 h1 hb, kept1 h2 hb, kept1 h3 hb, kept1 h4 hb, h.trans (hb.mono h.size)⟩

theorem keep6 {w W W' : World} {p0 p1 p2 p3 p4 p5 : Addr} {x0 x1 x2 x3 x4 x5 : Value} (h : W.cell? p0 = some x0 ∧ W.cell? p1 = some x1 ∧ W.cell? p2 = some x2 ∧ W.cell? p3 = some x3 ∧ W.cell? p4 = some x4 ∧ W.cell? p5 = some x5 ∧ Below w.heap.size w W) (hb : Below W.heap.size W W') : W'.cell? p0 = some x0 ∧ W'.cell? p1 = some x1 ∧ W'.cell? p2 = some x2 ∧ W'.cell? p3 = some x3 ∧ W'.cell? p4 = some x4 ∧ W'.cell? p5 = some x5 ∧ Below w.heap.size w W' := by
  obtain ⟨h0, h1, h2, h3, h4, h5, h⟩ := h
  exact ⟨kept1 h0 hb, kept1 h1 hb, kept1 h2 hb, kept1 h3 hb, kept1 h4 hb, kept1 h5 hb, h.trans (hb.mono h.size)⟩

theorem keep7 {w W W' : World} {p0 p1 p2 p3 p4 p5 p6 : Addr} {x0 x1 x2 x3 x4 x5 x6 : Value} (h : W.cell? p0 = some x0 ∧ W.cell? p1 = some x1 ∧ W.cell? p2 = some x2 ∧ W.cell? p3 = some x3 ∧ W.cell? p4 = some x4 ∧ W.cell? p5 = some x5 ∧ W.cell? p6 = some x6 ∧ Below w.heap.size w W) (hb : Below W.heap.size W W') : W'.cell? p0 = some x0 ∧ W'.cell? p1 = some x1 ∧ W'.cell? p2 = some x2 ∧ W'.cell? p3 = some x3 ∧ W'.cell? p4 = some x4 ∧ W'.cell? p5 = some x5 ∧ W'.cell? p6 = some x6 ∧ Below w.heap.size w W' := by
  obtain ⟨h0, h1, h2, h3, h4, h5, h6, h⟩ := h
  exact ⟨kept1 h0 hb, kept1 h1 hb, kept1 h2 hb, kept1 h3 hb, kept1 h4 hb, kept1 h5 hb, kept1 h6 hb, h.trans (hb.mono h.size)⟩

theorem keep8 {w W W' : World} {p0 p1 p2 p3 p4 p5 p6 p7 : Addr} {x0 x1 x2 x3 x4 x5 x6 x7 : Value} (h : W.cell? p0 = some x0 ∧ W.cell? p1 = some x1 ∧ W.cell? p2 = some x2 ∧ W.cell? p3 = some x3 ∧ W.cell? p4 = some x4 ∧ W.cell? p5 = some x5 ∧ W.cell? p6 = some x6 ∧ W.cell? p7 = some x7 ∧ Below w.heap.size w W) (hb : Below W.heap.size W W') : W'.cell? p0 = some x0 ∧ W'.cell? p1 = some x1 ∧ W'.cell? p2 = some x2 ∧ W'.cell? p3 = some x3 ∧ W'.cell? p4 = some x4 ∧ W'.cell? p5 = some x5 ∧ W'.cell? p6 = some x6 ∧ W'.cell? p7 = some x7 ∧ Below w.heap.size w W' := by
  obtain ⟨h0, h1, h2, h3, h4, h5, h6, h7, h⟩ := h
  exact ⟨kept1 h0 hb, kept1 h1 hb, kept1 h2 hb, kept1 h3 hb, kept1 h4 hb, kept1 h5 hb, kept1 h6 hb, kept1 h7 hb, h.trans (hb.mono h.size)⟩

theorem keep9 {w W W' : World} {p0 p1 p2 p3 p4 p5 p6 p7 p8 : Addr} {x0 x1 x2 x3 x4 x5 x6 x7 x8 : Value} (h : W.cell? p0 = some x0 ∧ W.cell? p1 = some x1 ∧ W.cell? p2 = some x2 ∧ W.cell? p3 = some x3 ∧ W.cell? p4 = some x4 ∧ W.cell? p5 = some x5 ∧ W.cell? p6 = some x6 ∧ W.cell? p7 = some x7 ∧ W.cell? p8 = some x8 ∧ Below w.heap.size w W) (hb : Below W.heap.size W W') : W'.cell? p0 = some x0 ∧ W'.cell? p1 = some x1 ∧ W'.cell? p2 = some x2 ∧ W'.cell? p3 = some x3 ∧ W'.cell? p4 = some x4 ∧ W'.cell? p5 = some x5 ∧ W'.cell? p6 = some x6 ∧ W'.cell? p7 = some x7 ∧ W'.cell? p8 = some x8 ∧ Below w.heap.size w W' := by
  obtain ⟨h0, h1, h2, h3, h4, h5, h6, h7, h8, h⟩ := h
  exact ⟨kept1 h0 hb, kept1 h1 hb, kept1 h2 hb, kept1 h3 hb, kept1 h4 hb, kept1 h5 hb, kept1 h6 hb, kept1 h7 hb, kept1 h8 hb, h.trans (hb.mono h.size)⟩

theorem keep10 {w W W' : World} {p0 p1 p2 p3 p4 p5 p6 p7 p8 p9 : Addr} {x0 x1 x2 x3 x4 x5 x6 x7 x8 x9 : Value} (h : W.cell? p0 = some x0 ∧ W.cell? p1 = some x1 ∧ W.cell? p2 = some x2 ∧ W.cell? p3 = some x3 ∧ W.cell? p4 = some x4 ∧ W.cell? p5 = some x5 ∧ W.cell? p6 = some x6 ∧ W.cell? p7 = some x7 ∧ W.cell? p8 = some x8 ∧ W.cell? p9 = some x9 ∧ Below w.heap.size w W) (hb : Below W.heap.size W W') : W'.cell? p0 = some x0 ∧ W'.cell? p1 = some x1 ∧ W'.cell? p2 = some x2 ∧ W'.cell? p3 = some x3 ∧ W'.cell? p4 = some x4 ∧ W'.cell? p5 = some x5 ∧ W'.cell? p6 = some x6 ∧ W'.cell? p7 = some x7 ∧ W'.cell? p8 = some x8 ∧ W'.cell? p9 = some x9 ∧ Below w.heap.size w W' := by
  obtain ⟨h0, h1, h2, h3, h4, h5, h6, h7, h8, h9, h⟩ := h
  exact ⟨kept1 h0 hb, kept1 h1 hb, kept1 h2 hb, kept1 h3 hb, kept1 h4 hb, kept1 h5 hb, kept1 h6 hb, kept1 h7 hb, kept1 h8 hb, kept1 h9 hb, h.trans (hb.mono h.size)⟩

theorem keep11 {w W W' : World} {p0 p1 p2 p3 p4 p5 p6 p7 p8 p9 p10 : Addr} {x0 x1 x2 x3 x4 x5 x6 x7 x8 x9 x10 : Value} (h : W.cell? p0 = some x0 ∧ W.cell? p1 = some x1 ∧ W.cell? p2 = some x2 ∧ W.cell? p3 = some x3 ∧ W.cell? p4 = some x4 ∧ W.cell? p5 = some x5 ∧ W.cell? p6 = some x6 ∧ W.cell? p7 = some x7 ∧ W.cell? p8 = some x8 ∧ W.cell? p9 = some x9 ∧ W.cell? p10 = some x10 ∧ Below w.heap.size w W) (hb : Below W.heap.size W W') : W'.cell? p0 = some x0 ∧ W'.cell? p1 = some x1 ∧ W'.cell? p2 = some x2 ∧ W'.cell? p3 = some x3 ∧ W'.cell? p4 = some x4 ∧ W'.cell? p5 = some x5 ∧ W'.cell? p6 = some x6 ∧ W'.cell? p7 = some x7 ∧ W'.cell? p8 = some x8 ∧ W'.cell? p9 = some x9 ∧ W'.cell? p10 = some x10 ∧ Below w.heap.size w W' := by
  obtain ⟨h0, h1, h2, h3, h4, h5, h6, h7, h8, h9, h10, h⟩ := h
  exact ⟨kept1 h0 hb, kept1 h1 hb, kept1 h2 hb, kept1 h3 hb, kept1 h4 hb, kept1 h5 hb, kept1 h6 hb, kept1 h7 hb, kept1 h8 hb, kept1 h9 hb, kept1 h10 hb, h.trans (hb.mono h.size)⟩

theorem keep12 {w W W' : World} {p0 p1 p2 p3 p4 p5 p6 p7 p8 p9 p10 p11 : Addr} {x0 x1 x2 x3 x4 x5 x6 x7 x8 x9 x10 x11 : Value} (h : W.cell? p0 = some x0 ∧ W.cell? p1 = some x1 ∧ W.cell? p2 = some x2 ∧ W.cell? p3 = some x3 ∧ W.cell? p4 = some x4 ∧ W.cell? p5 = some x5 ∧ W.cell? p6 = some x6 ∧ W.cell? p7 = some x7 ∧ W.cell? p8 = some x8 ∧ W.cell? p9 = some x9 ∧ W.cell? p10 = some x10 ∧ W.cell? p11 = some x11 ∧ Below w.heap.size w W) (hb : Below W.heap.size W W') : W'.cell? p0 = some x0 ∧ W'.cell? p1 = some x1 ∧ W'.cell? p2 = some x2 ∧ W'.cell? p3 = some x3 ∧ W'.cell? p4 = some x4 ∧ W'.cell? p5 = some x5 ∧ W'.cell? p6 = some x6 ∧ W'.cell? p7 = some x7 ∧ W'.cell? p8 = some x8 ∧ W'.cell? p9 = some x9 ∧ W'.cell? p10 = some x10 ∧ W'.cell? p11 = some x11 ∧ Below w.heap.size w W' := by
  obtain ⟨h0, h1, h2, h3, h4, h5, h6, h7, h8, h9, h10, h11, h⟩ := h
  exact ⟨kept1 h0 hb, kept1 h1 hb, kept1 h2 hb, kept1 h3 hb, kept1 h4 hb, kept1 h5 hb, kept1 h6 hb, kept1 h7 hb, kept1 h8 hb, kept1 h9 hb, kept1 h10 hb, kept1 h11 hb, h.trans (hb.mono h.size)⟩

theorem keep13 {w W W' : World} {p0 p1 p2 p3 p4 p5 p6 p7 p8 p9 p10 p11 p12 : Addr} {x0 x1 x2 x3 x4 x5 x6 x7 x8 x9 x10 x11 x12 : Value} (h : W.cell? p0 = some x0 ∧ W.cell? p1 = some x1 ∧ W.cell? p2 = some x2 ∧ W.cell? p3 = some x3 ∧ W.cell? p4 = some x4 ∧ W.cell? p5 = some x5 ∧ W.cell? p6 = some x6 ∧ W.cell? p7 = some x7 ∧ W.cell? p8 = some x8 ∧ W.cell? p9 = some x9 ∧ W.cell? p10 = some x10 ∧ W.cell? p11 = some x11 ∧ W.cell? p12 = some x12 ∧ Below w.heap.size w W) (hb : Below W.heap.size W W') : W'.cell? p0 = some x0 ∧ W'.cell? p1 = some x1 ∧ W'.cell? p2 = some x2 ∧ W'.cell? p3 = some x3 ∧ W'.cell? p4 = some x4 ∧ W'.cell? p5 = some x5 ∧ W'.cell? p6 = some x6 ∧ W'.cell? p7 = some x7 ∧ W'.cell? p8 = some x8 ∧ W'.cell? p9 = some x9 ∧ W'.cell? p10 = some x10 ∧ W'.cell? p11 = some x11 ∧ W'.cell? p12 = some x12 ∧ Below w.heap.size w W' := by
  obtain ⟨h0, h1, h2, h3, h4, h5, h6, h7, h8, h9, h10, h11, h12, h⟩ := h
  exact ⟨kept1 h0 hb, kept1 h1 hb, kept1 h2 hb, kept1 h3 hb, kept1 h4 hb, kept1 h5 hb, kept1 h6 hb, kept1 h7 hb, kept1 h8 hb, kept1 h9 hb, kept1 h10 hb, kept1 h11 hb, kept1 h12 hb, h.trans (hb.mono h.size)⟩

theorem keep14 {w W W' : World} {p0 p1 p2 p3 p4 p5 p6 p7 p8 p9 p10 p11 p12 p13 : Addr} {x0 x1 x2 x3 x4 x5 x6 x7 x8 x9 x10 x11 x12 x13 : Value} (h : W.cell? p0 = some x0 ∧ W.cell? p1 = some x1 ∧ W.cell? p2 = some x2 ∧ W.cell? p3 = some x3 ∧ W.cell? p4 = some x4 ∧ W.cell? p5 = some x5 ∧ W.cell? p6 = some x6 ∧ W.cell? p7 = some x7 ∧ W.cell? p8 = some x8 ∧ W.cell? p9 = some x9 ∧ W.cell? p10 = some x10 ∧ W.cell? p11 = some x11 ∧ W.cell? p12 = some x12 ∧ W.cell? p13 = some x13 ∧ Below w.heap.size w W) (hb : Below W.heap.size W W') : W'.cell? p0 = some x0 ∧ W'.cell? p1 = some x1 ∧ W'.cell? p2 = some x2 ∧ W'.cell? p3 = some x3 ∧ W'.cell? p4 = some x4 ∧ W'.cell? p5 = some x5 ∧ W'.cell? p6 = some x6 ∧ W'.cell? p7 = some x7 ∧ W'.cell? p8 = some x8 ∧ W'.cell? p9 = some x9 ∧ W'.cell? p10 = some x10 ∧ W'.cell? p11 = some x11 ∧ W'.cell? p12 = some x12 ∧ W'.cell? p13 = some x13 ∧ Below w.heap.size w W' := by
  obtain ⟨h0, h1, h2, h3, h4, h5, h6, h7, h8, h9, h10, h11, h12, h13, h⟩ := h
  exact ⟨kept1 h0 hb, kept1 h1 hb, kept1 h2 hb, kept1 h3 hb, kept1 h4 hb, kept1 h5 hb, kept1 h6 hb, kept1 h7 hb, kept1 h8 hb, kept1 h9 hb, kept1 h10 hb, kept1 h11 hb, kept1 h12 hb, kept1 h13 hb, h.trans (hb.mono h.size)⟩

theorem keep15 {w W W' : World} {p0 p1 p2 p3 p4 p5 p6 p7 p8 p9 p10 p11 p12 p13 p14 : Addr} {x0 x1 x2 x3 x4 x5 x6 x7 x8 x9 x10 x11 x12 x13 x14 : Value} (h : W.cell? p0 = some x0 ∧ W.cell? p1 = some x1 ∧ W.cell? p2 = some x2 ∧ W.cell? p3 = some x3 ∧ W.cell? p4 = some x4 ∧ W.cell? p5 = some x5 ∧ W.cell? p6 = some x6 ∧ W.cell? p7 = some x7 ∧ W.cell? p8 = some x8 ∧ W.cell? p9 = some x9 ∧ W.cell? p10 = some x10 ∧ W.cell? p11 = some x11 ∧ W.cell? p12 = some x12 ∧ W.cell? p13 = some x13 ∧ W.cell? p14 = some x14 ∧ Below w.heap.size w W) (hb : Below W.heap.size W W') : W'.cell? p0 = some x0 ∧ W'.cell? p1 = some x1 ∧ W'.cell? p2 = some x2 ∧ W'.cell? p3 = some x3 ∧ W'.cell? p4 = some x4 ∧ W'.cell? p5 = some x5 ∧ W'.cell? p6 = some x6 ∧ W'.cell? p7 = some x7 ∧ W'.cell? p8 = some x8 ∧ W'.cell? p9 = some x9 ∧ W'.cell? p10 = some x10 ∧ W'.cell? p11 = some x11 ∧ W'.cell? p12 = some x12 ∧ W'.cell? p13 = some x13 ∧ W'.cell? p14 = some x14 ∧ Below w.heap.size w W' := by
  obtain ⟨h0, h1, h2, h3, h4, h5, h6, h7, h8, h9, h10, h11, h12, h13, h14, h⟩ := h
  exact ⟨kept1 h0 hb, kept1 h1 hb, kept1 h2 hb, kept1 h3 hb, kept1 h4 hb, kept1 h5 hb, kept1 h6 hb, kept1 h7 hb, kept1 h8 hb, kept1 h9 hb, kept1 h10 hb, kept1 h11 hb, kept1 h12 hb, kept1 h13 hb, kept1 h14 hb, h.trans (hb.mono h.size)⟩

theorem keep16 {w W W' : World} {p0 p1 p2 p3 p4 p5 p6 p7 p8 p9 p10 p11 p12 p13 p14 p15 : Addr} {x0 x1 x2 x3 x4 x5 x6 x7 x8 x9 x10 x11 x12 x13 x14 x15 : Value} (h : W.cell? p0 = some x0 ∧ W.cell? p1 = some x1 ∧ W.cell? p2 = some x2 ∧ W.cell? p3 = some x3 ∧ W.cell? p4 = some x4 ∧ W.cell? p5 = some x5 ∧ W.cell? p6 = some x6 ∧ W.cell? p7 = some x7 ∧ W.cell? p8 = some x8 ∧ W.cell? p9 = some x9 ∧ W.cell? p10 = some x10 ∧ W.cell? p11 = some x11 ∧ W.cell? p12 = some x12 ∧ W.cell? p13 = some x13 ∧ W.cell? p14 = some x14 ∧ W.cell? p15 = some x15 ∧ Below w.heap.size w W) (hb : Below W.heap.size W W') : W'.cell? p0 = some x0 ∧ W'.cell? p1 = some x1 ∧ W'.cell? p2 = some x2 ∧ W'.cell? p3 = some x3 ∧ W'.cell? p4 = some x4 ∧ W'.cell? p5 = some x5 ∧ W'.cell? p6 = some x6 ∧ W'.cell? p7 = some x7 ∧ W'.cell? p8 = some x8 ∧ W'.cell? p9 = some x9 ∧ W'.cell? p10 = some x10 ∧ W'.cell? p11 = some x11 ∧ W'.cell? p12 = some x12 ∧ W'.cell? p13 = some x13 ∧ W'.cell? p14 = some x14 ∧ W'.cell? p15 = some x15 ∧ Below w.heap.size w W' := by
  obtain ⟨h0, h1, h2, h3, h4, h5, h6, h7, h8, h9, h10, h11, h12, h13, h14, h15, h⟩ := h
  exact ⟨kept1 h0 hb, kept1 h1 hb, kept1 h2 hb, kept1 h3 hb, kept1 h4 hb, kept1 h5 hb, kept1 h6 hb, kept1 h7 hb, kept1 h8 hb, kept1 h9 hb, kept1 h10 hb, kept1 h11 hb, kept1 h12 hb, kept1 h13 hb, kept1 h14 hb, kept1 h15 hb, h.trans (hb.mono h.size)⟩

theorem keep17 {w W W' : World} {p0 p1 p2 p3 p4 p5 p6 p7 p8 p9 p10 p11 p12 p13 p14 p15 p16 : Addr} {x0 x1 x2 x3 x4 x5 x6 x7 x8 x9 x10 x11 x12 x13 x14 x15 x16 : Value} (h : W.cell? p0 = some x0 ∧ W.cell? p1 = some x1 ∧ W.cell? p2 = some x2 ∧ W.cell? p3 = some x3 ∧ W.cell? p4 = some x4 ∧ W.cell? p5 = some x5 ∧ W.cell? p6 = some x6 ∧ W.cell? p7 = some x7 ∧ W.cell? p8 = some x8 ∧ W.cell? p9 = some x9 ∧ W.cell? p10 = some x10 ∧ W.cell? p11 = some x11 ∧ W.cell? p12 = some x12 ∧ W.cell? p13 = some x13 ∧ W.cell? p14 = some x14 ∧ W.cell? p15 = some x15 ∧ W.cell? p16 = some x16 ∧ Below w.heap.size w W) (hb : Below W.heap.size W W') : W'.cell? p0 = some x0 ∧ W'.cell? p1 = some x1 ∧ W'.cell? p2 = some x2 ∧ W'.cell? p3 = some x3 ∧ W'.cell? p4 = some x4 ∧ W'.cell? p5 = some x5 ∧ W'.cell? p6 = some x6 ∧ W'.cell? p7 = some x7 ∧ W'.cell? p8 = some x8 ∧ W'.cell? p9 = some x9 ∧ W'.cell? p10 = some x10 ∧ W'.cell? p11 = some x11 ∧ W'.cell? p12 = some x12 ∧ W'.cell? p13 = some x13 ∧ W'.cell? p14 = some x14 ∧ W'.cell? p15 = some x15 ∧ W'.cell? p16 = some x16 ∧ Below w.heap.size w W' := by
  obtain ⟨h0, h1, h2, h3, h4, h5, h6, h7, h8, h9, h10, h11, h12, h13, h14, h15, h16, h⟩ := h
  exact ⟨kept1 h0 hb, kept1 h1 hb, kept1 h2 hb, kept1 h3 hb, kept1 h4 hb, kept1 h5 hb, kept1 h6 hb, kept1 h7 hb, kept1 h8 hb, kept1 h9 hb, kept1 h10 hb, kept1 h11 hb, kept1 h12 hb, kept1 h13 hb, kept1 h14 hb, kept1 h15 hb, kept1 h16 hb, h.trans (hb.mono h.size)⟩

theorem keep18 {w W W' : World} {p0 p1 p2 p3 p4 p5 p6 p7 p8 p9 p10 p11 p12 p13 p14 p15 p16 p17 : Addr} {x0 x1 x2 x3 x4 x5 x6 x7 x8 x9 x10 x11 x12 x13 x14 x15 x16 x17 : Value} (h : W.cell? p0 = some x0 ∧ W.cell? p1 = some x1 ∧ W.cell? p2 = some x2 ∧ W.cell? p3 = some x3 ∧ W.cell? p4 = some x4 ∧ W.cell? p5 = some x5 ∧ W.cell? p6 = some x6 ∧ W.cell? p7 = some x7 ∧ W.cell? p8 = some x8 ∧ W.cell? p9 = some x9 ∧ W.cell? p10 = some x10 ∧ W.cell? p11 = some x11 ∧ W.cell? p12 = some x12 ∧ W.cell? p13 = some x13 ∧ W.cell? p14 = some x14 ∧ W.cell? p15 = some x15 ∧ W.cell? p16 = some x16 ∧ W.cell? p17 = some x17 ∧ Below w.heap.size w W) (hb : Below W.heap.size W W') : W'.cell? p0 = some x0 ∧ W'.cell? p1 = some x1 ∧ W'.cell? p2 = some x2 ∧ W'.cell? p3 = some x3 ∧ W'.cell? p4 = some x4 ∧ W'.cell? p5 = some x5 ∧ W'.cell? p6 = some x6 ∧ W'.cell? p7 = some x7 ∧ W'.cell? p8 = some x8 ∧ W'.cell? p9 = some x9 ∧ W'.cell? p10 = some x10 ∧ W'.cell? p11 = some x11 ∧ W'.cell? p12 = some x12 ∧ W'.cell? p13 = some x13 ∧ W'.cell? p14 = some x14 ∧ W'.cell? p15 = some x15 ∧ W'.cell? p16 = some x16 ∧ W'.cell? p17 = some x17 ∧ Below w.heap.size w W' := by
  obtain ⟨h0, h1, h2, h3, h4, h5, h6, h7, h8, h9, h10, h11, h12, h13, h14, h15, h16, h17, h⟩ := h
  exact ⟨kept1 h0 hb, kept1 h1 hb, kept1 h2 hb, kept1 h3 hb, kept1 h4 hb, kept1 h5 hb, kept1 h6 hb, kept1 h7 hb, kept1 h8 hb, kept1 h9 hb, kept1 h10 hb, kept1 h11 hb, kept1 h12 hb, kept1 h13 hb, kept1 h14 hb, kept1 h15 hb, kept1 h16 hb, kept1 h17 hb, h.trans (hb.mono h.size)⟩

theorem keep19 {w W W' : World} {p0 p1 p2 p3 p4 p5 p6 p7 p8 p9 p10 p11 p12 p13 p14 p15 p16 p17 p18 : Addr} {x0 x1 x2 x3 x4 x5 x6 x7 x8 x9 x10 x11 x12 x13 x14 x15 x16 x17 x18 : Value} (h : W.cell? p0 = some x0 ∧ W.cell? p1 = some x1 ∧ W.cell? p2 = some x2 ∧ W.cell? p3 = some x3 ∧ W.cell? p4 = some x4 ∧ W.cell? p5 = some x5 ∧ W.cell? p6 = some x6 ∧ W.cell? p7 = some x7 ∧ W.cell? p8 = some x8 ∧ W.cell? p9 = some x9 ∧ W.cell? p10 = some x10 ∧ W.cell? p11 = some x11 ∧ W.cell? p12 = some x12 ∧ W.cell? p13 = some x13 ∧ W.cell? p14 = some x14 ∧ W.cell? p15 = some x15 ∧ W.cell? p16 = some x16 ∧ W.cell? p17 = some x17 ∧ W.cell? p18 = some x18 ∧ Below w.heap.size w W) (hb : Below W.heap.size W W') : W'.cell? p0 = some x0 ∧ W'.cell? p1 = some x1 ∧ W'.cell? p2 = some x2 ∧ W'.cell? p3 = some x3 ∧ W'.cell? p4 = some x4 ∧ W'.cell? p5 = some x5 ∧ W'.cell? p6 = some x6 ∧ W'.cell? p7 = some x7 ∧ W'.cell? p8 = some x8 ∧ W'.cell? p9 = some x9 ∧ W'.cell? p10 = some x10 ∧ W'.cell? p11 = some x11 ∧ W'.cell? p12 = some x12 ∧ W'.cell? p13 = some x13 ∧ W'.cell? p14 = some x14 ∧ W'.cell? p15 = some x15 ∧ W'.cell? p16 = some x16 ∧ W'.cell? p17 = some x17 ∧ W'.cell? p18 = some x18 ∧ Below w.heap.size w W' := by
  obtain ⟨h0, h1, h2, h3, h4, h5, h6, h7, h8, h9, h10, h11, h12, h13, h14, h15, h16, h17, h18, h⟩ := h
  exact ⟨kept1 h0 hb, kept1 h1 hb, kept1 h2 hb, kept1 h3 hb, kept1 h4 hb, kept1 h5 hb, kept1 h6 hb, kept1 h7 hb, kept1 h8 hb, kept1 h9 hb, kept1 h10 hb, kept1 h11 hb, kept1 h12 hb, kept1 h13 hb, kept1 h14 hb, kept1 h15 hb, kept1 h16 hb, kept1 h17 hb, kept1 h18 hb, h.trans (hb.mono h.size)⟩

theorem keep20 {w W W' : World} {p0 p1 p2 p3 p4 p5 p6 p7 p8 p9 p10 p11 p12 p13 p14 p15 p16 p17 p18 p19 : Addr} {x0 x1 x2 x3 x4 x5 x6 x7 x8 x9 x10 x11 x12 x13 x14 x15 x16 x17 x18 x19 : Value} (h : W.cell? p0 = some x0 ∧ W.cell? p1 = some x1 ∧ W.cell? p2 = some x2 ∧ W.cell? p3 = some x3 ∧ W.cell? p4 = some x4 ∧ W.cell? p5 = some x5 ∧ W.cell? p6 = some x6 ∧ W.cell? p7 = some x7 ∧ W.cell? p8 = some x8 ∧ W.cell? p9 = some x9 ∧ W.cell? p10 = some x10 ∧ W.cell? p11 = some x11 ∧ W.cell? p12 = some x12 ∧ W.cell? p13 = some x13 ∧ W.cell? p14 = some x14 ∧ W.cell? p15 = some x15 ∧ W.cell? p16 = some x16 ∧ W.cell? p17 = some x17 ∧ W.cell? p18 = some x18 ∧ W.cell? p19 = some x19 ∧ Below w.heap.size w W) (hb : Below W.heap.size W W') : W'.cell? p0 = some x0 ∧ W'.cell? p1 = some x1 ∧ W'.cell? p2 = some x2 ∧ W'.cell? p3 = some x3 ∧ W'.cell? p4 = some x4 ∧ W'.cell? p5 = some x5 ∧ W'.cell? p6 = some x6 ∧ W'.cell? p7 = some x7 ∧ W'.cell? p8 = some x8 ∧ W'.cell? p9 = some x9 ∧ W'.cell? p10 = some x10 ∧ W'.cell? p11 = some x11 ∧ W'.cell? p12 = some x12 ∧ W'.cell? p13 = some x13 ∧ W'.cell? p14 = some x14 ∧ W'.cell? p15 = some x15 ∧ W'.cell? p16 = some x16 ∧ W'.cell? p17 = some x17 ∧ W'.cell? p18 = some x18 ∧ W'.cell? p19 = some x19 ∧ Below w.heap.size w W' := by
  obtain ⟨h0, h1, h2, h3, h4, h5, h6, h7, h8, h9, h10, h11, h12, h13, h14, h15, h16, h17, h18, h19, h⟩ := h
  exact ⟨kept1 h0 hb, kept1 h1 hb, kept1 h2 hb, kept1 h3 hb, kept1 h4 hb, kept1 h5 hb, kept1 h6 hb, kept1 h7 hb, kept1 h8 hb, kept1 h9 hb, kept1 h10 hb, kept1 h11 hb, kept1 h12 hb, kept1 h13 hb, kept1 h14 hb, kept1 h15 hb, kept1 h16 hb, kept1 h17 hb, kept1 h18 hb, kept1 h19 hb, h.trans (hb.mono h.size)⟩

theorem keep21 {w W W' : World} {p0 p1 p2 p3 p4 p5 p6 p7 p8 p9 p10 p11 p12 p13 p14 p15 p16 p17 p18 p19 p20 : Addr} {x0 x1 x2 x3 x4 x5 x6 x7 x8 x9 x10 x11 x12 x13 x14 x15 x16 x17 x18 x19 x20 : Value} (h : W.cell? p0 = some x0 ∧ W.cell? p1 = some x1 ∧ W.cell? p2 = some x2 ∧ W.cell? p3 = some x3 ∧ W.cell? p4 = some x4 ∧ W.cell? p5 = some x5 ∧ W.cell? p6 = some x6 ∧ W.cell? p7 = some x7 ∧ W.cell? p8 = some x8 ∧ W.cell? p9 = some x9 ∧ W.cell? p10 = some x10 ∧ W.cell? p11 = some x11 ∧ W.cell? p12 = some x12 ∧ W.cell? p13 = some x13 ∧ W.cell? p14 = some x14 ∧ W.cell? p15 = some x15 ∧ W.cell? p16 = some x16 ∧ W.cell? p17 = some x17 ∧ W.cell? p18 = some x18 ∧ W.cell? p19 = some x19 ∧ W.cell? p20 = some x20 ∧ Below w.heap.size w W) (hb : Below W.heap.size W W') : W'.cell? p0 = some x0 ∧ W'.cell? p1 = some x1 ∧ W'.cell? p2 = some x2 ∧ W'.cell? p3 = some x3 ∧ W'.cell? p4 = some x4 ∧ W'.cell? p5 = some x5 ∧ W'.cell? p6 = some x6 ∧ W'.cell? p7 = some x7 ∧ W'.cell? p8 = some x8 ∧ W'.cell? p9 = some x9 ∧ W'.cell? p10 = some x10 ∧ W'.cell? p11 = some x11 ∧ W'.cell? p12 = some x12 ∧ W'.cell? p13 = some x13 ∧ W'.cell? p14 = some x14 ∧ W'.cell? p15 = some x15 ∧ W'.cell? p16 = some x16 ∧ W'.cell? p17 = some x17 ∧ W'.cell? p18 = some x18 ∧ W'.cell? p19 = some x19 ∧ W'.cell? p20 = some x20 ∧ Below w.heap.size w W' := by
  obtain ⟨h0, h1, h2, h3, h4, h5, h6, h7, h8, h9, h10, h11, h12, h13, h14, h15, h16, h17, h18, h19, h20, h⟩ := h
  exact ⟨kept1 h0 hb, kept1 h1 hb, kept1 h2 hb, kept1 h3 hb, kept1 h4 hb, kept1 h5 hb, kept1 h6 hb, kept1 h7 hb, kept1 h8 hb, kept1 h9 hb, kept1 h10 hb, kept1 h11 hb, kept1 h12 hb, kept1 h13 hb, kept1 h14 hb, kept1 h15 hb, kept1 h16 hb, kept1 h17 hb, kept1 h18 hb, kept1 h19 hb, kept1 h20 hb, h.trans (hb.mono h.size)⟩

theorem keep22 {w W W' : World} {p0 p1 p2 p3 p4 p5 p6 p7 p8 p9 p10 p11 p12 p13 p14 p15 p16 p17 p18 p19 p20 p21 : Addr} {x0 x1 x2 x3 x4 x5 x6 x7 x8 x9 x10 x11 x12 x13 x14 x15 x16 x17 x18 x19 x20 x21 : Value} (h : W.cell? p0 = some x0 ∧ W.cell? p1 = some x1 ∧ W.cell? p2 = some x2 ∧ W.cell? p3 = some x3 ∧ W.cell? p4 = some x4 ∧ W.cell? p5 = some x5 ∧ W.cell? p6 = some x6 ∧ W.cell? p7 = some x7 ∧ W.cell? p8 = some x8 ∧ W.cell? p9 = some x9 ∧ W.cell? p10 = some x10 ∧ W.cell? p11 = some x11 ∧ W.cell? p12 = some x12 ∧ W.cell? p13 = some x13 ∧ W.cell? p14 = some x14 ∧ W.cell? p15 = some x15 ∧ W.cell? p16 = some x16 ∧ W.cell? p17 = some x17 ∧ W.cell? p18 = some x18 ∧ W.cell? p19 = some x19 ∧ W.cell? p20 = some x20 ∧ W.cell? p21 = some x21 ∧ Below w.heap.size w W) (hb : Below W.heap.size W W') : W'.cell? p0 = some x0 ∧ W'.cell? p1 = some x1 ∧ W'.cell? p2 = some x2 ∧ W'.cell? p3 = some x3 ∧ W'.cell? p4 = some x4 ∧ W'.cell? p5 = some x5 ∧ W'.cell? p6 = some x6 ∧ W'.cell? p7 = some x7 ∧ W'.cell? p8 = some x8 ∧ W'.cell? p9 = some x9 ∧ W'.cell? p10 = some x10 ∧ W'.cell? p11 = some x11 ∧ W'.cell? p12 = some x12 ∧ W'.cell? p13 = some x13 ∧ W'.cell? p14 = some x14 ∧ W'.cell? p15 = some x15 ∧ W'.cell? p16 = some x16 ∧ W'.cell? p17 = some x17 ∧ W'.cell? p18 = some x18 ∧ W'.cell? p19 = some x19 ∧ W'.cell? p20 = some x20 ∧ W'.cell? p21 = some x21 ∧ Below w.heap.size w W' := by
  obtain ⟨h0, h1, h2, h3, h4, h5, h6, h7, h8, h9, h10, h11, h12, h13, h14, h15, h16, h17, h18, h19, h20, h21, h⟩ := h
  exact ⟨kept1 h0 hb, kept1 h1 hb, kept1 h2 hb, kept1 h3 hb, kept1 h4 hb, kept1 h5 hb, kept1 h6 hb, kept1 h7 hb, kept1 h8 hb, kept1 h9 hb, kept1 h10 hb, kept1 h11 hb, kept1 h12 hb, kept1 h13 hb, kept1 h14 hb, kept1 h15 hb, kept1 h16 hb, kept1 h17 hb, kept1 h18 hb, kept1 h19 hb, kept1 h20 hb, kept1 h21 hb, h.trans (hb.mono h.size)⟩

theorem keep23 {w W W' : World} {p0 p1 p2 p3 p4 p5 p6 p7 p8 p9 p10 p11 p12 p13 p14 p15 p16 p17 p18 p19 p20 p21 p22 : Addr} {x0 x1 x2 x3 x4 x5 x6 x7 x8 x9 x10 x11 x12 x13 x14 x15 x16 x17 x18 x19 x20 x21 x22 : Value} (h : W.cell? p0 = some x0 ∧ W.cell? p1 = some x1 ∧ W.cell? p2 = some x2 ∧ W.cell? p3 = some x3 ∧ W.cell? p4 = some x4 ∧ W.cell? p5 = some x5 ∧ W.cell? p6 = some x6 ∧ W.cell? p7 = some x7 ∧ W.cell? p8 = some x8 ∧ W.cell? p9 = some x9 ∧ W.cell? p10 = some x10 ∧ W.cell? p11 = some x11 ∧ W.cell? p12 = some x12 ∧ W.cell? p13 = some x13 ∧ W.cell? p14 = some x14 ∧ W.cell? p15 = some x15 ∧ W.cell? p16 = some x16 ∧ W.cell? p17 = some x17 ∧ W.cell? p18 = some x18 ∧ W.cell? p19 = some x19 ∧ W.cell? p20 = some x20 ∧ W.cell? p21 = some x21 ∧ W.cell? p22 = some x22 ∧ Below w.heap.size w W) (hb : Below W.heap.size W W') : W'.cell? p0 = some x0 ∧ W'.cell? p1 = some x1 ∧ W'.cell? p2 = some x2 ∧ W'.cell? p3 = some x3 ∧ W'.cell? p4 = some x4 ∧ W'.cell? p5 = some x5 ∧ W'.cell? p6 = some x6 ∧ W'.cell? p7 = some x7 ∧ W'.cell? p8 = some x8 ∧ W'.cell? p9 = some x9 ∧ W'.cell? p10 = some x10 ∧ W'.cell? p11 = some x11 ∧ W'.cell? p12 = some x12 ∧ W'.cell? p13 = some x13 ∧ W'.cell? p14 = some x14 ∧ W'.cell? p15 = some x15 ∧ W'.cell? p16 = some x16 ∧ W'.cell? p17 = some x17 ∧ W'.cell? p18 = some x18 ∧ W'.cell? p19 = some x19 ∧ W'.cell? p20 = some x20 ∧ W'.cell? p21 = some x21 ∧ W'.cell? p22 = some x22 ∧ Below w.heap.size w W' := by
  obtain ⟨h0, h1, h2, h3, h4, h5, h6, h7, h8, h9, h10, h11, h12, h13, h14, h15, h16, h17, h18, h19, h20, h21, h22, h⟩ := h
  exact ⟨kept1 h0 hb, kept1 h1 hb, kept1 h2 hb, kept1 h3 hb, kept1 h4 hb, kept1 h5 hb, kept1 h6 hb, kept1 h7 hb, kept1 h8 hb, kept1 h9 hb, kept1 h10 hb, kept1 h11 hb, kept1 h12 hb, kept1 h13 hb, kept1 h14 hb, kept1 h15 hb, kept1 h16 hb, kept1 h17 hb, kept1 h18 hb, kept1 h19 hb, kept1 h20 hb, kept1 h21 hb, kept1 h22 hb, h.trans (hb.mono h.size)⟩

theorem keep24 {w W W' : World} {p0 p1 p2 p3 p4 p5 p6 p7 p8 p9 p10 p11 p12 p13 p14 p15 p16 p17 p18 p19 p20 p21 p22 p23 : Addr} {x0 x1 x2 x3 x4 x5 x6 x7 x8 x9 x10 x11 x12 x13 x14 x15 x16 x17 x18 x19 x20 x21 x22 x23 : Value} (h : W.cell? p0 = some x0 ∧ W.cell? p1 = some x1 ∧ W.cell? p2 = some x2 ∧ W.cell? p3 = some x3 ∧ W.cell? p4 = some x4 ∧ W.cell? p5 = some x5 ∧ W.cell? p6 = some x6 ∧ W.cell? p7 = some x7 ∧ W.cell? p8 = some x8 ∧ W.cell? p9 = some x9 ∧ W.cell? p10 = some x10 ∧ W.cell? p11 = some x11 ∧ W.cell? p12 = some x12 ∧ W.cell? p13 = some x13 ∧ W.cell? p14 = some x14 ∧ W.cell? p15 = some x15 ∧ W.cell? p16 = some x16 ∧ W.cell? p17 = some x17 ∧ W.cell? p18 = some x18 ∧ W.cell? p19 = some x19 ∧ W.cell? p20 = some x20 ∧ W.cell? p21 = some x21 ∧ W.cell? p22 = some x22 ∧ W.cell? p23 = some x23 ∧ Below w.heap.size w W) (hb : Below W.heap.size W W') : W'.cell? p0 = some x0 ∧ W'.cell? p1 = some x1 ∧ W'.cell? p2 = some x2 ∧ W'.cell? p3 = some x3 ∧ W'.cell? p4 = some x4 ∧ W'.cell? p5 = some x5 ∧ W'.cell? p6 = some x6 ∧ W'.cell? p7 = some x7 ∧ W'.cell? p8 = some x8 ∧ W'.cell? p9 = some x9 ∧ W'.cell? p10 = some x10 ∧ W'.cell? p11 = some x11 ∧ W'.cell? p12 = some x12 ∧ W'.cell? p13 = some x13 ∧ W'.cell? p14 = some x14 ∧ W'.cell? p15 = some x15 ∧ W'.cell? p16 = some x16 ∧ W'.cell? p17 = some x17 ∧ W'.cell? p18 = some x18 ∧ W'.cell? p19 = some x19 ∧ W'.cell? p20 = some x20 ∧ W'.cell? p21 = some x21 ∧ W'.cell? p22 = some x22 ∧ W'.cell? p23 = some x23 ∧ Below w.heap.size w W' := by
  obtain ⟨h0, h1, h2, h3, h4, h5, h6, h7, h8, h9, h10, h11, h12, h13, h14, h15, h16, h17, h18, h19, h20, h21, h22, h23, h⟩ := h
  exact ⟨kept1 h0 hb, kept1 h1 hb, kept1 h2 hb, kept1 h3 hb, kept1 h4 hb, kept1 h5 hb, kept1 h6 hb, kept1 h7 hb, kept1 h8 hb, kept1 h9 hb, kept1 h10 hb, kept1 h11 hb, kept1 h12 hb, kept1 h13 hb, kept1 h14 hb, kept1 h15 hb, kept1 h16 hb, kept1 h17 hb, kept1 h18 hb, kept1 h19 hb, kept1 h20 hb, kept1 h21 hb, kept1 h22 hb, kept1 h23 hb, h.trans (hb.mono h.size)⟩

theorem cell_alloc {W : World} {p : Addr} {x : Value} (h : W.cell? p = some x) (o : Obj) : (W.alloc o).cell? p = some x := kept1 h ((Below.refl _ _).alloc (Nat.le_refl _) o)
theorem below_alloc {w W : World} (h : Below w.heap.size w W) (o : Obj) : Below w.heap.size w (W.alloc o) := h.alloc h.size o
theorem bstep0 {w W W' : World} (h : Below w.heap.size w W) (hb : Below W.heap.size W W') : Below w.heap.size w W' := h.trans (hb.mono h.size)
theorem kept_a1 {W W' : World} {o0 : Obj} {p : Addr} {x : Value} (h : W.cell? p = some x) (hb : Below (W.alloc o0).heap.size (W.alloc o0) W') : W'.cell? p = some x := kept1 (cell_alloc h _) hb
theorem bstep1 {w W W' : World} {o0 : Obj} (h : Below w.heap.size w W) (hb : Below (W.alloc o0).heap.size (W.alloc o0) W') : Below w.heap.size w W' := bstep0 (below_alloc h _) hb
theorem kept_a2 {W W' : World} {o0 o1 : Obj} {p : Addr} {x : Value} (h : W.cell? p = some x) (hb : Below ((W.alloc o0).alloc o1).heap.size ((W.alloc o0).alloc o1) W') : W'.cell? p = some x := kept1 (cell_alloc (cell_alloc h _) _) hb
theorem bstep2 {w W W' : World} {o0 o1 : Obj} (h : Below w.heap.size w W) (hb : Below ((W.alloc o0).alloc o1).heap.size ((W.alloc o0).alloc o1) W') : Below w.heap.size w W' := bstep0 (below_alloc (below_alloc h _) _) hb
theorem kept_a3 {W W' : World} {o0 o1 o2 : Obj} {p : Addr} {x : Value} (h : W.cell? p = some x) (hb : Below (((W.alloc o0).alloc o1).alloc o2).heap.size (((W.alloc o0).alloc o1).alloc o2) W') : W'.cell? p = some x := kept1 (cell_alloc (cell_alloc (cell_alloc h _) _) _) hb
theorem bstep3 {w W W' : World} {o0 o1 o2 : Obj} (h : Below w.heap.size w W) (hb : Below (((W.alloc o0).alloc o1).alloc o2).heap.size (((W.alloc o0).alloc o1).alloc o2) W') : Below w.heap.size w W' := bstep0 (below_alloc (below_alloc (below_alloc h _) _) _) hb
theorem kept_a4 {W W' : World} {o0 o1 o2 o3 : Obj} {p : Addr} {x : Value} (h : W.cell? p = some x) (hb : Below ((((W.alloc o0).alloc o1).alloc o2).alloc o3).heap.size ((((W.alloc o0).alloc o1).alloc o2).alloc o3) W') : W'.cell? p = some x := kept1 (cell_alloc (cell_alloc (cell_alloc (cell_alloc h _) _) _) _) hb
theorem bstep4 {w W W' : World} {o0 o1 o2 o3 : Obj} (h : Below w.heap.size w W) (hb : Below ((((W.alloc o0).alloc o1).alloc o2).alloc o3).heap.size ((((W.alloc o0).alloc o1).alloc o2).alloc o3) W') : Below w.heap.size w W' := bstep0 (below_alloc (below_alloc (below_alloc (below_alloc h _) _) _) _) hb
theorem kept_a5 {W W' : World} {o0 o1 o2 o3 o4 : Obj} {p : Addr} {x : Value} (h : W.cell? p = some x) (hb : Below (((((W.alloc o0).alloc o1).alloc o2).alloc o3).alloc o4).heap.size (((((W.alloc o0).alloc o1).alloc o2).alloc o3).alloc o4) W') : W'.cell? p = some x := kept1 (cell_alloc (cell_alloc (cell_alloc (cell_alloc (cell_alloc h _) _) _) _) _) hb
theorem bstep5 {w W W' : World} {o0 o1 o2 o3 o4 : Obj} (h : Below w.heap.size w W) (hb : Below (((((W.alloc o0).alloc o1).alloc o2).alloc o3).alloc o4).heap.size (((((W.alloc o0).alloc o1).alloc o2).alloc o3).alloc o4) W') : Below w.heap.size w W' := bstep0 (below_alloc (below_alloc (below_alloc (below_alloc (below_alloc h _) _) _) _) _) hb

theorem kept_fr3 {W W' : World} {b : Nat} (h : ∀ o, W.frozen? ⟨b, o, none⟩ = false) (hl : b < W.heap.size) (hb : Below W.heap.size W W') : ∀ o, W'.frozen? ⟨b, o, none⟩ = false := fun o => (hb.frozen (p := ⟨b, o, none⟩) hl).trans (h o)
theorem fz_alloc3 {W W' : World} {o : Obj} {b : Nat} (h : ∀ i, W.frozen? ⟨b, i, none⟩ = false) (hl : b < W.heap.size) (hb : Below (W.alloc o).heap.size (W.alloc o) W') : ∀ i, W'.frozen? ⟨b, i, none⟩ = false := fun i =>
  (hb.frozen (p := ⟨b, i, none⟩) (by show b < (W.alloc o).heap.size; simp; omega)).trans ((((Below.refl _ _).alloc (Nat.le_refl _) o).frozen (p := ⟨b, i, none⟩) hl).trans (h i))
end Go.Proofs.YtidcedilfhmllaaDoor

/- All blocks but some are as they were. -/
namespace Go.Proofs.YtidcedilfhmllaaDoor
open Go.RowKit

/-- the blocks of w but those of T are as they were -/
structure But (T : Nat → Prop) (w w' : World) : Prop where
  os : w'.os = w.os
  tape : w'.tape = w.tape
  output : w'.output = w.output
  size : w.heap.size ≤ w'.heap.size
  block : ∀ k, k < w.heap.size → ¬ T k → w'.heap[k]? = w.heap[k]?

theorem But.refl (T : Nat → Prop) (w : World) : But T w w := ⟨rfl, rfl, rfl, Nat.le_refl _, fun _ _ _ => rfl⟩
theorem But.trans {T : Nat → Prop} {a b c : World} (h : But T a b) (k : But T b c) : But T a c :=
  ⟨k.os.trans h.os, k.tape.trans h.tape, k.output.trans h.output, Nat.le_trans h.size k.size, fun i hi ht => (k.block i (Nat.lt_of_lt_of_le hi h.size) ht).trans (h.block i hi ht)⟩
theorem But.mono {T S : Nat → Prop} {w w' : World} (h : But T w w') (hs : ∀ k, k < w.heap.size → T k → S k) : But S w w' := ⟨h.os, h.tape, h.output, h.size, fun k hk hn => h.block k hk (fun ht => hn (hs k hk ht))⟩
theorem But.of_below {T : Nat → Prop} {w w' : World} (h : Below w.heap.size w w') : But T w w' := ⟨h.os, h.tape, h.output, h.size, fun k hk _ => h.block k hk⟩
theorem But.below {T : Nat → Prop} {B : Nat} {w w' : World} (h : But T w w') (hB : B ≤ w.heap.size) (ht : ∀ k, k < B → ¬ T k) : Below B w w' := ⟨h.os, h.tape, h.output, h.size, fun k hk => h.block k (by omega) (ht k hk)⟩
theorem But.alloc {T : Nat → Prop} {a w : World} (h : But T a w) (o : Obj) : But T a (w.alloc o) := h.trans (.of_below ((Below.refl _ _).alloc (Nat.le_refl _) o))
theorem But.drew {T : Nat → Prop} {a w : World} (h : But T a w) : But T a w.drew := ⟨h.os, h.tape, h.output, h.size, h.block⟩
theorem But.setCell {T : Nat → Prop} {a w : World} (h : But T a w) {p : Addr} (hp : a.heap.size ≤ p.block ∨ T p.block) (u : Value) : But T a (w.setCell p u) := by
  refine ⟨h.os, h.tape, h.output, by simpa using h.size, fun k hk ht => ?_⟩
  have hne : k ≠ p.block := by
    intro e
    rcases hp with hp | hp
    · omega
    · exact ht (e ▸ hp)
  rw [Below.heap_setCell _ _ _ _ hne]
  exact h.block k hk ht
theorem But.grown {T : Nat → Prop} {a w w' : World} {row : Option Nat} (h : But T a w) (hg : w.grownBy w' row) (hr : ∀ k, row = some k → a.heap.size ≤ k ∨ T k) : But T a w' := by
  refine ⟨hg.os.trans h.os, hg.tape.trans h.tape, hg.output.trans h.output, Nat.le_trans h.size hg.size, fun k hk ht => ?_⟩
  rw [hg.block k (Nat.lt_of_lt_of_le hk h.size) ?_]
  · exact h.block k hk ht
  · intro e
    rcases hr k e.symm with h1 | h1
    · omega
    · exact ht h1
theorem But.cell {T : Nat → Prop} {w w' : World} (h : But T w w') {p : Addr} (hp : p.block < w.heap.size) (ht : ¬ T p.block) : w'.cell? p = w.cell? p := World.cell?_of_block (h.block p.block hp ht)
theorem But.frozen {T : Nat → Prop} {w w' : World} (h : But T w w') {p : Addr} (hp : p.block < w.heap.size) (ht : ¬ T p.block) : w'.frozen? p = w.frozen? p := World.frozen?_of_block (h.block p.block hp ht)
theorem But.kept {T : Nat → Prop} {w w' : World} {p : Addr} {x : Value} (h : But T w w') (hc : w.cell? p = some x) (ht : ¬ T p.block) : w'.cell? p = some x := (h.cell (block_lt_of_cell hc) ht).trans hc
theorem But.row {T : Nat → Prop} {w w' : World} {b : Nat} {t : TypeId} {n : Nat} {f : Nat → Value} (h : But T w w') (hr : w.rowIs b t n f) (ht : ¬ T b) : w'.rowIs b t n f := hr.of_block (h.block b hr.lt ht)
theorem Below.row {w w' : World} {b : Nat} {t : TypeId} {n : Nat} {f : Nat → Value} (h : Below w.heap.size w w') (hr : w.rowIs b t n f) : w'.rowIs b t n f := hr.of_block (h.block b hr.lt)
/-- what a slice that is owned looks like, as a row -/
theorem owns_row {w : World} {base : Nat} {e : TypeId} {v : Value} {n : Nat} {xs : List Value} (h : w.ownsRow base e 1 v n xs) (hn : 0 < n) :
    ∃ g cap f, v = .slice (some ⟨g, 0, none⟩) n cap ∧ base ≤ g ∧ n ≤ cap ∧ cap ≤ maxLen ∧ w.rowIs g e cap f ∧ ∀ k, k < n → xs[k]? = some (f k) := by
  obtain ⟨hl, h2⟩ := h
  rcases h2 with ⟨_, h0⟩ | ⟨g, cap, cur, hv, hb, hg, hle, hcm, hs, ht⟩
  · omega
  · refine ⟨g, cap, fun i => (cur[i]?).getD undef, hv, hb, hle, hcm, ⟨cur, hg, by omega, fun i hi => ?_⟩, fun k hk => ?_⟩
    · show cur[i]? = some ((cur[i]?).getD undef)
      rw [Array.getElem?_eq_getElem (by omega)]; rfl
    · show xs[k]? = some ((cur[k]?).getD undef)
      rw [← ht, List.getElem?_take_of_lt (by omega), Array.getElem?_toList, Array.getElem?_eq_getElem (by omega)]; rfl
end Go.Proofs.YtidcedilfhmllaaDoor
